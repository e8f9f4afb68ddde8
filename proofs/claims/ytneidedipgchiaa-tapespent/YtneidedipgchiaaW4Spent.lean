/- The walk of TapeSpent. -/
import Derived.Test.YtneidedipgchiaaW4Base
namespace Go.Proofs.Ytneidedipgchiaa
open Go.RowKit Go.Conc

theorem blD_no {l : List Int} {a : Int} (n : Int) (h : restT l a = []) : blD l a n = 0 ∧ blA l a n = a := by
  obtain ⟨h1, h2⟩ := nxD_no h
  unfold blD blA
  rw [h1, h2]
  constructor
  · split <;> simp
  · split <;> rfl
theorem skA_no {l : List Int} {a : Int} (n : Int) (h : restT l a = []) : skA l a n = a := by
  rw [skA, h]; simp

set_option maxRecDepth 100000 in
set_option maxHeartbeats 4000000 in
theorem walkSpent (A : Option Addr) (c : Nat) (l : List Int) (a : Int) (n : Int) (w : World) (hs : Sees w w.heap.size 1 A l.length (l.map (Value.int .i64))) (ha : I64 a) (hn : I64 n) :
    Calls Try.prog 6 #[.slice A l.length c, .int .i64 a, .int .i64 n] w (BoolPost true w) := by
  by_cases h1 : (200 : Int) < (l.length : Int)
  · clear hs ha hn
    go_enter Try.func6, Try.ntmps6
    go_wp2_with fail
    refine (shownT_any _).mono ?_
    rintro x w1 ⟨rfl, hb1⟩
    go_wp2
    go_ret
    exact ⟨rfl, hb1⟩
  have h1' : (l.length : Int) ≤ 200 := by omega
  clear h1
  by_cases h2 : 0 ≤ a ∧ a < (l.length : Int)
  · obtain ⟨h3, h4⟩ := h2
    clear hs ha hn
    go_enter Try.func6, Try.ntmps6
    go_wp2_with fail
    refine (shownT_any _).mono ?_
    rintro x w1 ⟨rfl, hb1⟩
    go_wp2
    go_ret
    exact ⟨rfl, hb1⟩
  have hR : restT l a = [] := restT_spent (by omega)
  obtain ⟨e1, e2⟩ := nxD_no hR
  obtain ⟨e3, e4⟩ := blD_no n hR
  have e5 := skA_no n hR
  have HL : l.length ≤ 20000 := by omega
  have KN := hide (fun y hy => next_any A c l a y HL hy ha)
  have KB := hide (fun y hy => below_any A c l a n y HL hy ha hn)
  have KK := hide (fun y hy => skip_any A c l a n y HL hy ha)
  have KL := hide (fun y => left_any A c l a y HL)
  rw [e1, e2] at KN
  rw [e3, e4] at KB
  rw [e5] at KK
  rw [hR] at KL
  have hB : Below w.heap.size w w := Below.refl _ _
  have SL := hide hs
  have hfd := fieldT
  clear hs ha hn hR e1 e2 e3 e4 e5 HL
  by_cases h0 : a < 0
  · clear h2
    go_enter Try.func6, Try.ntmps6
    go_wp2_with fail
    refine (shownT_any _).mono ?_
    rintro x w1 ⟨rfl, hb⟩
    replace SL := hide (SL.out.later hb)
    replace hB := below_next hB hB.size hb
    clear hb
    have hb : Below w1.heap.size w1 (w1.alloc (.cells #[.slice A l.length c, .int .i64 a] 24)) := (Below.refl _ _).alloc (Nat.le_refl _) _
    have q0 : (w1.alloc (.cells #[.slice A l.length c, .int .i64 a] 24)).cell? ⟨w1.heap.size, 0, none⟩ = some (.slice A l.length c) := by simp [go_sem]
    have q1 : (w1.alloc (.cells #[.slice A l.length c, .int .i64 a] 24)).cell? ⟨w1.heap.size, 1, none⟩ = some (.int .i64 a) := by simp [go_sem]
    replace SL := hide (SL.out.later hb)
    replace hB := below_next hB hB.size hb
    clear hb
    go_wp2_with fail
    refine (KN.out _ SL.out).mono ?_
    rintro x w2 ⟨A1, c1, rfl, t1, _, hb⟩
    replace q0 := cell_keep q0 hb
    replace q1 := cell_keep q1 hb
    replace SL := hide (SL.out.later hb)
    replace hB := below_next hB hB.size hb
    clear hb
    have S1 := hide t1
    clear t1
    have hb : Below w2.heap.size w2 (w2.alloc (.cells #[.slice A1 l.length c1, .int .i64 a] 24)) := (Below.refl _ _).alloc (Nat.le_refl _) _
    have x10 : (w2.alloc (.cells #[.slice A1 l.length c1, .int .i64 a] 24)).cell? ⟨w2.heap.size, 0, none⟩ = some (.slice A1 l.length c1) := by simp [go_sem]
    have x11 : (w2.alloc (.cells #[.slice A1 l.length c1, .int .i64 a] 24)).cell? ⟨w2.heap.size, 1, none⟩ = some (.int .i64 a) := by simp [go_sem]
    replace q0 := cell_keep q0 hb
    replace q1 := cell_keep q1 hb
    replace SL := hide (SL.out.later hb)
    replace S1 := hide (S1.out.later hb)
    replace hB := below_next hB hB.size hb
    clear hb
    go_wp2_with fail
    refine (KB.out _ SL.out).mono ?_
    rintro x w3 ⟨A2, c2, rfl, t2, _, hb⟩
    replace q0 := cell_keep q0 hb
    replace q1 := cell_keep q1 hb
    replace x10 := cell_keep x10 hb
    replace x11 := cell_keep x11 hb
    replace SL := hide (SL.out.later hb)
    replace S1 := hide (S1.out.later hb)
    replace hB := below_next hB hB.size hb
    clear hb
    have S2 := hide t2
    clear t2
    have hb : Below w3.heap.size w3 (w3.alloc (.cells #[.slice A2 l.length c2, .int .i64 a] 24)) := (Below.refl _ _).alloc (Nat.le_refl _) _
    have x20 : (w3.alloc (.cells #[.slice A2 l.length c2, .int .i64 a] 24)).cell? ⟨w3.heap.size, 0, none⟩ = some (.slice A2 l.length c2) := by simp [go_sem]
    have x21 : (w3.alloc (.cells #[.slice A2 l.length c2, .int .i64 a] 24)).cell? ⟨w3.heap.size, 1, none⟩ = some (.int .i64 a) := by simp [go_sem]
    replace q0 := cell_keep q0 hb
    replace q1 := cell_keep q1 hb
    replace x10 := cell_keep x10 hb
    replace x11 := cell_keep x11 hb
    replace SL := hide (SL.out.later hb)
    replace S1 := hide (S1.out.later hb)
    replace S2 := hide (S2.out.later hb)
    replace hB := below_next hB hB.size hb
    clear hb
    go_wp2_with fail
    refine (KL.out _).mono ?_
    rintro x w4 ⟨rfl, hb⟩
    replace q0 := cell_keep q0 hb
    replace q1 := cell_keep q1 hb
    replace x10 := cell_keep x10 hb
    replace x11 := cell_keep x11 hb
    replace x20 := cell_keep x20 hb
    replace x21 := cell_keep x21 hb
    replace SL := hide (SL.out.later hb)
    replace S1 := hide (S1.out.later hb)
    replace S2 := hide (S2.out.later hb)
    replace hB := below_next hB hB.size hb
    clear hb
    go_wp2_with fail
    refine (KK.out _ SL.out).mono ?_
    rintro x w5 ⟨A9, c9, rfl, _, _, hb⟩
    replace q0 := cell_keep q0 hb
    replace q1 := cell_keep q1 hb
    replace x10 := cell_keep x10 hb
    replace x11 := cell_keep x11 hb
    replace x20 := cell_keep x20 hb
    replace x21 := cell_keep x21 hb
    replace SL := hide (SL.out.later hb)
    replace S1 := hide (S1.out.later hb)
    replace S2 := hide (S2.out.later hb)
    replace hB := below_next hB hB.size hb
    clear hb
    go_wp2
    go_ret
    exact ⟨rfl, hB⟩
  · have h3 : (0 : Int) ≤ a := by omega
    have h4 : (l.length : Int) ≤ a := by omega
    clear h0 h2
    go_enter Try.func6, Try.ntmps6
    go_wp2_with fail
    refine (shownT_any _).mono ?_
    rintro x w1 ⟨rfl, hb⟩
    replace SL := hide (SL.out.later hb)
    replace hB := below_next hB hB.size hb
    clear hb
    have hb : Below w1.heap.size w1 (w1.alloc (.cells #[.slice A l.length c, .int .i64 a] 24)) := (Below.refl _ _).alloc (Nat.le_refl _) _
    have q0 : (w1.alloc (.cells #[.slice A l.length c, .int .i64 a] 24)).cell? ⟨w1.heap.size, 0, none⟩ = some (.slice A l.length c) := by simp [go_sem]
    have q1 : (w1.alloc (.cells #[.slice A l.length c, .int .i64 a] 24)).cell? ⟨w1.heap.size, 1, none⟩ = some (.int .i64 a) := by simp [go_sem]
    replace SL := hide (SL.out.later hb)
    replace hB := below_next hB hB.size hb
    clear hb
    go_wp2_with fail
    refine (KN.out _ SL.out).mono ?_
    rintro x w2 ⟨A1, c1, rfl, t1, _, hb⟩
    replace q0 := cell_keep q0 hb
    replace q1 := cell_keep q1 hb
    replace SL := hide (SL.out.later hb)
    replace hB := below_next hB hB.size hb
    clear hb
    have S1 := hide t1
    clear t1
    have hb : Below w2.heap.size w2 (w2.alloc (.cells #[.slice A1 l.length c1, .int .i64 a] 24)) := (Below.refl _ _).alloc (Nat.le_refl _) _
    have x10 : (w2.alloc (.cells #[.slice A1 l.length c1, .int .i64 a] 24)).cell? ⟨w2.heap.size, 0, none⟩ = some (.slice A1 l.length c1) := by simp [go_sem]
    have x11 : (w2.alloc (.cells #[.slice A1 l.length c1, .int .i64 a] 24)).cell? ⟨w2.heap.size, 1, none⟩ = some (.int .i64 a) := by simp [go_sem]
    replace q0 := cell_keep q0 hb
    replace q1 := cell_keep q1 hb
    replace SL := hide (SL.out.later hb)
    replace S1 := hide (S1.out.later hb)
    replace hB := below_next hB hB.size hb
    clear hb
    go_wp2_with fail
    refine (KB.out _ SL.out).mono ?_
    rintro x w3 ⟨A2, c2, rfl, t2, _, hb⟩
    replace q0 := cell_keep q0 hb
    replace q1 := cell_keep q1 hb
    replace x10 := cell_keep x10 hb
    replace x11 := cell_keep x11 hb
    replace SL := hide (SL.out.later hb)
    replace S1 := hide (S1.out.later hb)
    replace hB := below_next hB hB.size hb
    clear hb
    have S2 := hide t2
    clear t2
    have hb : Below w3.heap.size w3 (w3.alloc (.cells #[.slice A2 l.length c2, .int .i64 a] 24)) := (Below.refl _ _).alloc (Nat.le_refl _) _
    have x20 : (w3.alloc (.cells #[.slice A2 l.length c2, .int .i64 a] 24)).cell? ⟨w3.heap.size, 0, none⟩ = some (.slice A2 l.length c2) := by simp [go_sem]
    have x21 : (w3.alloc (.cells #[.slice A2 l.length c2, .int .i64 a] 24)).cell? ⟨w3.heap.size, 1, none⟩ = some (.int .i64 a) := by simp [go_sem]
    replace q0 := cell_keep q0 hb
    replace q1 := cell_keep q1 hb
    replace x10 := cell_keep x10 hb
    replace x11 := cell_keep x11 hb
    replace SL := hide (SL.out.later hb)
    replace S1 := hide (S1.out.later hb)
    replace S2 := hide (S2.out.later hb)
    replace hB := below_next hB hB.size hb
    clear hb
    go_wp2_with fail
    refine (KL.out _).mono ?_
    rintro x w4 ⟨rfl, hb⟩
    replace q0 := cell_keep q0 hb
    replace q1 := cell_keep q1 hb
    replace x10 := cell_keep x10 hb
    replace x11 := cell_keep x11 hb
    replace x20 := cell_keep x20 hb
    replace x21 := cell_keep x21 hb
    replace SL := hide (SL.out.later hb)
    replace S1 := hide (S1.out.later hb)
    replace S2 := hide (S2.out.later hb)
    replace hB := below_next hB hB.size hb
    clear hb
    go_wp2_with fail
    refine (KK.out _ SL.out).mono ?_
    rintro x w5 ⟨A9, c9, rfl, _, _, hb⟩
    replace q0 := cell_keep q0 hb
    replace q1 := cell_keep q1 hb
    replace x10 := cell_keep x10 hb
    replace x11 := cell_keep x11 hb
    replace x20 := cell_keep x20 hb
    replace x21 := cell_keep x21 hb
    replace SL := hide (SL.out.later hb)
    replace S1 := hide (S1.out.later hb)
    replace S2 := hide (S2.out.later hb)
    replace hB := below_next hB hB.size hb
    clear hb
    go_wp2
    go_ret
    exact ⟨rfl, hB⟩
end Go.Proofs.Ytneidedipgchiaa
