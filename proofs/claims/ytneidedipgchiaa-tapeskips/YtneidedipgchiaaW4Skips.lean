/- The walk of TapeSkips. -/
import Derived.Test.YtneidedipgchiaaW4Base
namespace Go.Proofs.Ytneidedipgchiaa
open Go.RowKit Go.Conc

theorem skA_nat (l : List Int) (a : Int) (x : Nat) : skA l a (x : Int) = a + ((min x (restT l a).length : Nat) : Int) := by rw [skA]; simp
theorem skA_skA (l : List Int) (a : Int) (x y : Nat) : skA l (skA l a (x : Int)) (y : Int) = skA l a ((x + y : Nat) : Int) := by
  rw [skA_nat l a x, skA_nat, skA_nat]
  by_cases h : 0 < (restT l a).length
  · rw [restT_drop l a _ h, List.length_drop]
    omega
  · have h0 : (restT l a).length = 0 := by omega
    rw [h0]
    simp [h0]
theorem left_skA (l : List Int) (a : Int) (x : Nat) : ((restT l (skA l a (x : Int))).length : Int) = max 0 (((restT l a).length : Int) - x) := by
  rw [skA_nat]
  by_cases h : 0 < (restT l a).length
  · rw [restT_drop l a _ h, List.length_drop]
    omega
  · have h0 : (restT l a).length = 0 := by omega
    rw [h0]
    simp [h0]
    omega
theorem skA_one (l : List Int) (a : Int) : skA l a 1 = nxA l a := by
  have := skA_nat l a 1
  rw [show ((1 : Nat) : Int) = 1 from rfl] at this
  rw [this, nxA]
  split <;> omega
theorem skA_neg (l : List Int) (a : Int) : skA l a (-1) = a := by rw [skA]; simp
theorem skA_i64 {l : List Int} {a : Int} (hl : l.length ≤ 20000) (h : I64 a) (n : Int) : I64 (skA l a n) := by
  rw [skA]
  rcases tape_cases l a with ⟨k, v, rfl, hk, _, _⟩ | ⟨_, hR⟩
  · have := restT_le l (k : Int)
    unfold I64; omega
  · rw [hR]; simpa using h

set_option maxRecDepth 100000 in
set_option maxHeartbeats 4000000 in
theorem walkSkips (A : Option Addr) (c : Nat) (l : List Int) (a : Int) (x y : Nat) (w : World) (hs : Sees w w.heap.size 1 A l.length (l.map (Value.int .i64))) (ha : I64 a) (hx : x < 256) (hy : y < 256) :
    Calls Try.prog 8 #[.agg #[.slice A l.length c, .int .i64 a], .int .u8 x, .int .u8 y] w (BoolPost true w) := by
  have hb0 : Below w.heap.size w (w.alloc (.cells #[.slice A l.length c, .int .i64 a] 24)) := (Below.refl _ w).alloc (Nat.le_refl _) _
  have HB0 : Hid (Below w.heap.size w (w.alloc (.cells #[.slice A l.length c, .int .i64 a] 24))) := hide hb0
  by_cases h1 : (200 : Int) < (l.length : Int)
  · clear hs ha hb0
    go_enter Try.func8, Try.ntmps8
    go_wp2_with fail
    refine (shownT_any _).mono ?_
    rintro x w1 ⟨rfl, hb1⟩
    go_wp2
    go_ret
    exact ⟨rfl, below_next HB0.out HB0.out.size hb1⟩
  have h1' : (l.length : Int) ≤ 200 := by omega
  clear h1
  have q0 : (w.alloc (.cells #[.slice A l.length c, .int .i64 a] 24)).cell? ⟨w.heap.size, 0, none⟩ = some (.slice A l.length c) := by simp [go_sem]
  have q1 : (w.alloc (.cells #[.slice A l.length c, .int .i64 a] 24)).cell? ⟨w.heap.size, 1, none⟩ = some (.int .i64 a) := by simp [go_sem]
  have SL := hide (hs.later hb0)
  have hB := hb0
  have HL : Hid (l.length ≤ 20000) := hide (by omega)
  have HA := hide ha
  have hfd := fieldT
  clear hb0 HB0 hs ha
  have KN := hide (fun y hy => next_any A c l a y HL.out hy HA.out)
  have K1 := hide (fun y hy => skip_any A c l a (x : Int) y HL.out hy HA.out)
  have K2 := hide (fun A' c' y' hy' => skip_any A' c' l (skA l a (x : Int)) (y : Int) y' HL.out hy' (skA_i64 HL.out HA.out _))
  have K3 := hide (fun y' hy' => skip_any A c l a ((x + y : Nat) : Int) y' HL.out hy' HA.out)
  have KS := hide (fun n y hy => skip_any A c l a n y HL.out hy HA.out)
  have hs1 := skA_one l a
  have hs2 := skA_neg l a
  have L1 := hide (fun A' c' y' => left_any A' c' l (skA l a ((x + y : Nat) : Int)) y' HL.out)
  have L2 := hide (fun y => left_any A c l a y HL.out)
  have hM := left_skA l a (x + y)
  have hR := restT_le l a
  rw [skA_skA] at K2
  obtain ⟨b, hbb⟩ : ∃ b, skA l a (x : Int) = b := ⟨_, rfl⟩
  obtain ⟨e, hee⟩ : ∃ e, skA l a ((x + y : Nat) : Int) = e := ⟨_, rfl⟩
  obtain ⟨d, hdd⟩ : ∃ d, nxA l a = d := ⟨_, rfl⟩
  obtain ⟨v, hvv⟩ : ∃ v, nxD l a = v := ⟨_, rfl⟩
  rw [hbb] at K1 K2
  rw [hee] at K2 K3 L1 hM
  rw [hdd] at hs1 KN
  rw [hvv] at KN
  obtain ⟨m, hmm⟩ : ∃ m : Nat, (restT l a).length = m := ⟨_, rfl⟩
  obtain ⟨p, hpp⟩ : ∃ p : Int, ((restT l e).length : Int) = p := ⟨_, rfl⟩
  rw [hmm] at L2 hM hR
  rw [hpp] at L1 hM
  have hp : p = max 0 ((m : Int) - x - y) := by omega
  obtain ⟨z, hz⟩ : ∃ z : Nat, x + y = z := ⟨_, rfl⟩
  rw [hz] at K3
  have hw1 : IntKind.i64.wrap ((x : Int) + (y : Int)) = (z : Int) := wrapI (by omega) (by omega) (by omega)
  have hw1' : wrap64 ((x : Int) + (y : Int)) = (z : Int) := wrapW (by omega) (by omega) (by omega)
  have HW1 := hide hw1
  have HW1' := hide hw1'
  clear hw1 hw1'
  obtain ⟨q1', hq1⟩ : ∃ q : Int, (m : Int) - x = q := ⟨_, rfl⟩
  have hw2 : IntKind.i64.wrap ((m : Int) - (x : Int)) = q1' := wrapI hq1 (by omega) (by omega)
  have hw2' : wrap64 ((m : Int) - (x : Int)) = q1' := wrapW hq1 (by omega) (by omega)
  have HW2 := hide hw2
  have HW2' := hide hw2'
  clear hw2 hw2'
  obtain ⟨q, hq2⟩ : ∃ q : Int, q1' - y = q := ⟨_, rfl⟩
  have hw3 : IntKind.i64.wrap (q1' - (y : Int)) = q := wrapI hq2 (by omega) (by omega)
  have hw3' : wrap64 (q1' - (y : Int)) = q := wrapW hq2 (by omega) (by omega)
  have HW3 := hide (And.intro hw3 hw3')
  clear hw3 hw3'
  have hwx : IntKind.i64.wrap (x : Int) = (x : Int) := wrapI rfl (by omega) (by omega)
  have hwy : IntKind.i64.wrap (y : Int) = (y : Int) := wrapI rfl (by omega) (by omega)
  have hp2 : p = max 0 q := by omega
  clear hbb hee hdd hvv hmm hpp hM hR hp hz hq1 hq2
  have hmax : (if 0 < q then q else (0 : Int)) = p := by split <;> omega
  have hw1 := HW1.out
  have hw1' := HW1'.out
  have hw2 := HW2.out
  have hw2' := HW2'.out
  obtain ⟨hw3, hw3'⟩ := HW3.out
  clear hp2 HW1 HW1' HW2 HW2' HW3
  go_enter Try.func8, Try.ntmps8
  go_wp2_with fail
  refine (shownT_any _).mono ?_
  rintro x w1 ⟨rfl, hb⟩
  replace q0 := cell_keep q0 hb
  replace q1 := cell_keep q1 hb
  replace SL := hide (SL.out.later hb)
  replace hB := below_next hB hB.size hb
  clear hb
  go_wp2_with fail
  refine (K1.out _ SL.out).mono ?_
  rintro x w2 ⟨A1, c1, rfl, t1, _, hb⟩
  replace q0 := cell_keep q0 hb
  replace q1 := cell_keep q1 hb
  replace SL := hide (SL.out.later hb)
  replace hB := below_next hB hB.size hb
  clear hb
  have S1 := hide t1
  clear t1
  go_wp2_with fail
  refine (K2.out A1 c1 _ S1.out).mono ?_
  rintro x w3 ⟨A2, c2, rfl, t2, _, hb⟩
  replace q0 := cell_keep q0 hb
  replace q1 := cell_keep q1 hb
  replace SL := hide (SL.out.later hb)
  replace S1 := hide (S1.out.later hb)
  replace hB := below_next hB hB.size hb
  clear hb
  have S2 := hide t2
  clear t2
  have hb : Below w3.heap.size w3 (w3.alloc (.cells #[.slice A2 l.length c2, .int .i64 e] 24)) := (Below.refl _ _).alloc (Nat.le_refl _) _
  have x20 : (w3.alloc (.cells #[.slice A2 l.length c2, .int .i64 e] 24)).cell? ⟨w3.heap.size, 0, none⟩ = some (.slice A2 l.length c2) := by simp [go_sem]
  have x21 : (w3.alloc (.cells #[.slice A2 l.length c2, .int .i64 e] 24)).cell? ⟨w3.heap.size, 1, none⟩ = some (.int .i64 e) := by simp [go_sem]
  replace q0 := cell_keep q0 hb
  replace q1 := cell_keep q1 hb
  replace SL := hide (SL.out.later hb)
  replace S1 := hide (S1.out.later hb)
  replace S2 := hide (S2.out.later hb)
  replace hB := below_next hB hB.size hb
  clear hb
  go_wp2_with fail
  refine (K3.out _ SL.out).mono ?_
  rintro x w4 ⟨A3, c3, rfl, t3, _, hb⟩
  replace q0 := cell_keep q0 hb
  replace q1 := cell_keep q1 hb
  replace x20 := cell_keep x20 hb
  replace x21 := cell_keep x21 hb
  replace SL := hide (SL.out.later hb)
  replace S1 := hide (S1.out.later hb)
  replace S2 := hide (S2.out.later hb)
  replace hB := below_next hB hB.size hb
  clear hb
  have S3 := hide t3
  clear t3
  have hb : Below w4.heap.size w4 (w4.alloc (.cells #[.slice A3 l.length c3, .int .i64 e] 24)) := (Below.refl _ _).alloc (Nat.le_refl _) _
  have x30 : (w4.alloc (.cells #[.slice A3 l.length c3, .int .i64 e] 24)).cell? ⟨w4.heap.size, 0, none⟩ = some (.slice A3 l.length c3) := by simp [go_sem]
  have x31 : (w4.alloc (.cells #[.slice A3 l.length c3, .int .i64 e] 24)).cell? ⟨w4.heap.size, 1, none⟩ = some (.int .i64 e) := by simp [go_sem]
  replace q0 := cell_keep q0 hb
  replace q1 := cell_keep q1 hb
  replace x20 := cell_keep x20 hb
  replace x21 := cell_keep x21 hb
  replace SL := hide (SL.out.later hb)
  replace S1 := hide (S1.out.later hb)
  replace S2 := hide (S2.out.later hb)
  replace S3 := hide (S3.out.later hb)
  replace hB := below_next hB hB.size hb
  clear hb
  go_wp2_with fail
  refine (KN.out _ SL.out).mono ?_
  rintro x w5 ⟨A4, c4, rfl, t4, _, hb⟩
  replace q0 := cell_keep q0 hb
  replace q1 := cell_keep q1 hb
  replace x20 := cell_keep x20 hb
  replace x21 := cell_keep x21 hb
  replace x30 := cell_keep x30 hb
  replace x31 := cell_keep x31 hb
  replace SL := hide (SL.out.later hb)
  replace S1 := hide (S1.out.later hb)
  replace S2 := hide (S2.out.later hb)
  replace S3 := hide (S3.out.later hb)
  replace hB := below_next hB hB.size hb
  clear hb
  have S4 := hide t4
  clear t4
  have hb : Below w5.heap.size w5 (w5.alloc (.cells #[.slice A4 l.length c4, .int .i64 d] 24)) := (Below.refl _ _).alloc (Nat.le_refl _) _
  have x40 : (w5.alloc (.cells #[.slice A4 l.length c4, .int .i64 d] 24)).cell? ⟨w5.heap.size, 0, none⟩ = some (.slice A4 l.length c4) := by simp [go_sem]
  have x41 : (w5.alloc (.cells #[.slice A4 l.length c4, .int .i64 d] 24)).cell? ⟨w5.heap.size, 1, none⟩ = some (.int .i64 d) := by simp [go_sem]
  replace q0 := cell_keep q0 hb
  replace q1 := cell_keep q1 hb
  replace x20 := cell_keep x20 hb
  replace x21 := cell_keep x21 hb
  replace x30 := cell_keep x30 hb
  replace x31 := cell_keep x31 hb
  replace SL := hide (SL.out.later hb)
  replace S1 := hide (S1.out.later hb)
  replace S2 := hide (S2.out.later hb)
  replace S3 := hide (S3.out.later hb)
  replace S4 := hide (S4.out.later hb)
  replace hB := below_next hB hB.size hb
  clear hb
  go_wp2_with fail
  generalize (w5.alloc (.cells #[.slice A4 l.length c4, .int .i64 d] 24)) = wz at *
  replace q0 : wz.drew.cell? ⟨w.heap.size, 0, none⟩ = some (.slice A l.length c) := q0
  replace q1 : wz.drew.cell? ⟨w.heap.size, 1, none⟩ = some (.int .i64 a) := q1
  replace x20 : wz.drew.cell? ⟨w3.heap.size, 0, none⟩ = some (.slice A2 l.length c2) := x20
  replace x21 : wz.drew.cell? ⟨w3.heap.size, 1, none⟩ = some (.int .i64 e) := x21
  replace x30 : wz.drew.cell? ⟨w4.heap.size, 0, none⟩ = some (.slice A3 l.length c3) := x30
  replace x31 : wz.drew.cell? ⟨w4.heap.size, 1, none⟩ = some (.int .i64 e) := x31
  replace x40 : wz.drew.cell? ⟨w5.heap.size, 0, none⟩ = some (.slice A4 l.length c4) := x40
  replace x41 : wz.drew.cell? ⟨w5.heap.size, 1, none⟩ = some (.int .i64 d) := x41
  replace SL := hide (SL.out.later ((Below.refl _ _).drew))
  replace S1 := hide (S1.out.later ((Below.refl _ _).drew))
  replace S2 := hide (S2.out.later ((Below.refl _ _).drew))
  replace S3 := hide (S3.out.later ((Below.refl _ _).drew))
  replace S4 := hide (S4.out.later ((Below.refl _ _).drew))
  replace hB := hB.drew
  go_region_held3 (fun w' => w'.cell? ⟨w.heap.size, 0, none⟩ = some (.slice A l.length c) ∧ w'.cell? ⟨w.heap.size, 1, none⟩ = some (.int .i64 a) ∧ w'.cell? ⟨w3.heap.size, 0, none⟩ = some (.slice A2 l.length c2) ∧ w'.cell? ⟨w3.heap.size, 1, none⟩ = some (.int .i64 e) ∧ w'.cell? ⟨w4.heap.size, 0, none⟩ = some (.slice A3 l.length c3) ∧ w'.cell? ⟨w4.heap.size, 1, none⟩ = some (.int .i64 e) ∧ w'.cell? ⟨w5.heap.size, 0, none⟩ = some (.slice A4 l.length c4) ∧ w'.cell? ⟨w5.heap.size, 1, none⟩ = some (.int .i64 d))
    (exact ⟨q0, q1, x20, x21, x30, x31, x40, x41⟩)
    (first
      | (go_at_call 18; refine (KS.out _ _ SL.out).mono ?_; rintro x vv ⟨A5, c5, rfl, _, _, hv⟩; replace q0 := cell_keep q0 hv; replace q1 := cell_keep q1 hv; replace x20 := cell_keep x20 hv; replace x21 := cell_keep x21 hv; replace x30 := cell_keep x30 hv; replace x31 := cell_keep x31 hv; replace x40 := cell_keep x40 hv; replace x41 := cell_keep x41 hv; replace SL := hide (SL.out.later hv); replace S1 := hide (S1.out.later hv); replace S2 := hide (S2.out.later hv); replace S3 := hide (S3.out.later hv); replace S4 := hide (S4.out.later hv); replace hB := below_next hB hB.size hv; clear hv)
      | (go_at_call_of 16 A2; refine (L1.out A2 c2 _).mono ?_; rintro x vv ⟨rfl, hv⟩; replace q0 := cell_keep q0 hv; replace q1 := cell_keep q1 hv; replace x20 := cell_keep x20 hv; replace x21 := cell_keep x21 hv; replace x30 := cell_keep x30 hv; replace x31 := cell_keep x31 hv; replace x40 := cell_keep x40 hv; replace x41 := cell_keep x41 hv; replace SL := hide (SL.out.later hv); replace S1 := hide (S1.out.later hv); replace S2 := hide (S2.out.later hv); replace S3 := hide (S3.out.later hv); replace S4 := hide (S4.out.later hv); replace hB := below_next hB hB.size hv; clear hv)
      | (go_at_call_of 16 A; refine (L2.out _).mono ?_; rintro x vv ⟨rfl, hv⟩; replace q0 := cell_keep q0 hv; replace q1 := cell_keep q1 hv; replace x20 := cell_keep x20 hv; replace x21 := cell_keep x21 hv; replace x30 := cell_keep x30 hv; replace x31 := cell_keep x31 hv; replace x40 := cell_keep x40 hv; replace x41 := cell_keep x41 hv; replace SL := hide (SL.out.later hv); replace S1 := hide (S1.out.later hv); replace S2 := hide (S2.out.later hv); replace S3 := hide (S3.out.later hv); replace S4 := hide (S4.out.later hv); replace hB := below_next hB hB.size hv; clear hv))
  go_wp2
  go_ret
  exact ⟨rfl, hB⟩
end Go.Proofs.Ytneidedipgchiaa
