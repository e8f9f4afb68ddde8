/- The walk of TapeBelow. -/
import Derived.Test.YtneidedipgchiaaW4Base
namespace Go.Proofs.Ytneidedipgchiaa
open Go.RowKit Go.Conc

set_option maxRecDepth 100000 in
set_option maxHeartbeats 4000000 in
theorem walkBelow (A : Option Addr) (c : Nat) (l : List Int) (a : Int) (n : Int) (w : World) (hs : Sees w w.heap.size 1 A l.length (l.map (Value.int .i64))) (ha : I64 a) :
    Calls Try.prog 5 #[.agg #[.slice A l.length c, .int .i64 a], .int .i64 n] w (BoolPost true w) := by
  have hb0 : Below w.heap.size w (w.alloc (.cells #[.slice A l.length c, .int .i64 a] 24)) := (Below.refl _ w).alloc (Nat.le_refl _) _
  have HB0 : Hid (Below w.heap.size w (w.alloc (.cells #[.slice A l.length c, .int .i64 a] 24))) := hide hb0
  by_cases h1 : (200 : Int) < (l.length : Int)
  · clear hs ha hb0
    go_enter Try.func5, Try.ntmps5
    go_wp2_with fail
    refine (shownT_any _).mono ?_
    rintro x w1 ⟨rfl, hb1⟩
    go_wp2
    go_ret
    exact ⟨rfl, below_next HB0.out HB0.out.size hb1⟩
  have h1' : (l.length : Int) ≤ 200 := by omega
  clear h1
  by_cases h2 : n < 1
  · clear hs ha hb0
    go_enter Try.func5, Try.ntmps5
    go_wp2_with fail
    refine (shownT_any _).mono ?_
    rintro x w1 ⟨rfl, hb1⟩
    go_wp2
    go_ret
    exact ⟨rfl, below_next HB0.out HB0.out.size hb1⟩
  have h2' : 1 ≤ n := by omega
  clear h2
  by_cases h3 : (1000000 : Int) < n
  · clear hs ha hb0
    go_enter Try.func5, Try.ntmps5
    go_wp2_with fail
    refine (shownT_any _).mono ?_
    rintro x w1 ⟨rfl, hb1⟩
    go_wp2
    go_ret
    exact ⟨rfl, below_next HB0.out HB0.out.size hb1⟩
  have h3' : n ≤ 1000000 := by omega
  clear h3
  have q0 : (w.alloc (.cells #[.slice A l.length c, .int .i64 a] 24)).cell? ⟨w.heap.size, 0, none⟩ = some (.slice A l.length c) := by simp [go_sem]
  have q1 : (w.alloc (.cells #[.slice A l.length c, .int .i64 a] 24)).cell? ⟨w.heap.size, 1, none⟩ = some (.int .i64 a) := by simp [go_sem]
  have SL := hide (hs.later hb0)
  have hB := hb0
  have HL : Hid (l.length ≤ 20000) := hide (by omega)
  have HA := hide ha
  have hfd := fieldT
  clear hb0 HB0 hs ha
  have KN := hide (fun y hy => next_any A c l a y HL.out hy HA.out)
  have KB := hide (fun y hy => below_any A c l a n y HL.out hy HA.out (by unfold I64; omega))
  rw [show blA l a n = nxA l a by rw [blA, if_neg (by omega)], show blD l a n = nxD l a % n by rw [blD, if_neg (by omega)]] at KB
  obtain ⟨d, hd⟩ : ∃ d, nxD l a = d := ⟨_, rfl⟩
  obtain ⟨b, hbb⟩ : ∃ b, nxA l a = b := ⟨_, rfl⟩
  rw [hd, hbb] at KB KN
  obtain ⟨e, he⟩ : ∃ e, d % n = e := ⟨_, rfl⟩
  have hr := rem_cases d n h2'
  rw [he] at KB hr
  obtain ⟨t, ht⟩ : ∃ t, Int.tmod d n = t := ⟨_, rfl⟩
  rw [ht] at hr
  have he0 : 0 ≤ e := by rw [← he]; exact Int.emod_nonneg d (by omega)
  have he1 : e < n := by rw [← he]; exact Int.emod_lt_of_pos d (by omega)
  obtain ⟨r, hr1⟩ : ∃ r, e - t = r := ⟨_, rfl⟩
  have hr2 : Int.tmod r n = 0 := by
    rcases hr with h | h
    · rw [show r = 0 by omega]; simp
    · rw [show r = n by omega]; exact Int.tmod_self
  have hr0 : 0 ≤ r ∧ r ≤ n := by omega
  have hw1 : IntKind.i64.wrap (e - t) = r := by rw [IntKind.wrap_i64]; omega
  have hw2 : wrap64 (e - t) = r := by rw [hr1]; exact wrap64_id (by unfold I64; omega)
  have hn0 : n ≠ 0 := by omega
  have hnb : (n == 0) = false := by simpa using hn0
  clear hd hbb he hr hr1 hr0
  go_enter Try.func5, Try.ntmps5
  go_wp2_with fail
  refine (shownT_any _).mono ?_
  rintro x w1 ⟨rfl, hb⟩
  replace q0 := cell_keep q0 hb
  replace q1 := cell_keep q1 hb
  replace SL := hide (SL.out.later hb)
  replace hB := below_next hB hB.size hb
  clear hb
  go_wp2_with fail
  refine (KN.out _ SL.out).mono ?_
  rintro x w2 ⟨A1, c1, rfl, t1, _, hb⟩
  replace q0 := cell_keep q0 hb
  replace q1 := cell_keep q1 hb
  replace SL := hide (SL.out.later hb)
  replace hB := below_next hB hB.size hb
  clear hb
  have S1 := hide t1
  clear t1
  have hb : Below w2.heap.size w2 (w2.alloc (.cells #[.slice A1 l.length c1, .int .i64 b] 24)) := (Below.refl _ _).alloc (Nat.le_refl _) _
  have x10 : (w2.alloc (.cells #[.slice A1 l.length c1, .int .i64 b] 24)).cell? ⟨w2.heap.size, 0, none⟩ = some (.slice A1 l.length c1) := by simp [go_sem]
  have x11 : (w2.alloc (.cells #[.slice A1 l.length c1, .int .i64 b] 24)).cell? ⟨w2.heap.size, 1, none⟩ = some (.int .i64 b) := by simp [go_sem]
  replace q0 := cell_keep q0 hb
  replace q1 := cell_keep q1 hb
  replace SL := hide (SL.out.later hb)
  replace S1 := hide (S1.out.later hb)
  replace hB := below_next hB hB.size hb
  clear hb
  go_wp2_with fail
  refine (KB.out _ SL.out).mono ?_
  rintro x w3 ⟨A2, c2, rfl, t2, _, hb⟩
  replace q0 := cell_keep q0 hb
  replace q1 := cell_keep q1 hb
  replace x10 := cell_keep x10 hb
  replace x11 := cell_keep x11 hb
  replace SL := hide (SL.out.later hb)
  replace S1 := hide (S1.out.later hb)
  replace hB := below_next hB hB.size hb
  clear hb
  have S2 := hide t2
  clear t2
  have hb : Below w3.heap.size w3 (w3.alloc (.cells #[.slice A2 l.length c2, .int .i64 b] 24)) := (Below.refl _ _).alloc (Nat.le_refl _) _
  have x20 : (w3.alloc (.cells #[.slice A2 l.length c2, .int .i64 b] 24)).cell? ⟨w3.heap.size, 0, none⟩ = some (.slice A2 l.length c2) := by simp [go_sem]
  have x21 : (w3.alloc (.cells #[.slice A2 l.length c2, .int .i64 b] 24)).cell? ⟨w3.heap.size, 1, none⟩ = some (.int .i64 b) := by simp [go_sem]
  replace q0 := cell_keep q0 hb
  replace q1 := cell_keep q1 hb
  replace x10 := cell_keep x10 hb
  replace x11 := cell_keep x11 hb
  replace SL := hide (SL.out.later hb)
  replace S1 := hide (S1.out.later hb)
  replace S2 := hide (S2.out.later hb)
  replace hB := below_next hB hB.size hb
  clear hb
  go_wp2
  go_ret
  exact ⟨rfl, hB⟩
end Go.Proofs.Ytneidedipgchiaa
