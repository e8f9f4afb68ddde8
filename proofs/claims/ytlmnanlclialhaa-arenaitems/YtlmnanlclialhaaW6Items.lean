/- The walk of ArenaItems. -/
import Derived.Test.YtlmnanlclialhaaW6Base
import Derived.Test.YtlmnanlclialhaaArR
import Derived.Lib.QuietBelow
import Derived.Deep.QuietTactic
namespace Go.Proofs.Ytlmnanlclialhaa
open Go.RowKit Go.Sort
set_option linter.unusedVariables false

theorem cell_diff {it bk j : Int} (h : 1 ≤ j ∧ j < it) : cellV it bk j - cellV it bk (j - 1) = bk := by
  rw [cellV, if_pos (by omega), cellV, if_pos (by omega), Int.sub_mul]; omega
theorem node_diff {it bk nd j k : Int} (h : 1 ≤ j ∧ j < it) (hk : 1 ≤ k ∧ k ≤ nd) : nodeV it bk nd j k - nodeV it bk nd (j - 1) k = bk := by
  rw [nodeV, if_pos (by omega), nodeV, if_pos (by omega), Int.sub_mul]; omega
theorem slot_diff {it bk nd ly wd j l : Int} (h : 1 ≤ j ∧ j < it) (hl : 1 ≤ l ∧ l ≤ ly) (hw : 1 ≤ wd) : slotV it bk nd ly wd j l (wd - 1) - slotV it bk nd ly wd (j - 1) l (wd - 1) = bk := by
  rw [slotV, if_pos (by omega), slotV, if_pos (by omega), Int.sub_mul j]; omega
set_option maxRecDepth 100000 in
set_option maxHeartbeats 4000000 in
theorem walkItemsOk (x0 x1 x2 x3 x4 x5 x6 x7 : Int) (b : Bool) (x9 x10 x11 : Int)  (hok : CfOk x0 x1 x2 x3 x4 x5 x6 x7 b x9 x10 x11) (w : World) : Calls Try.prog 6 #[.agg #[.int .i64 x0, .int .i64 x1, .int .i64 x2, .int .i64 x3, .int .i64 x4, .int .i64 x5, .int .i64 x6, .int .i64 x7, .bool b, .int .i64 x9, .int .i64 x10, .int .i64 x11]] w (BoolPost true w) := by
  have hB : Below w.heap.size w (w.alloc (.cells #[.int .i64 x0, .int .i64 x1, .int .i64 x2, .int .i64 x3, .int .i64 x4, .int .i64 x5, .int .i64 x6, .int .i64 x7, .bool b, .int .i64 x9, .int .i64 x10, .int .i64 x11] 23)) := (Below.refl _ w).alloc (Nat.le_refl _) _
  have q0 : (w.alloc (.cells #[.int .i64 x0, .int .i64 x1, .int .i64 x2, .int .i64 x3, .int .i64 x4, .int .i64 x5, .int .i64 x6, .int .i64 x7, .bool b, .int .i64 x9, .int .i64 x10, .int .i64 x11] 23)).cell? ⟨w.heap.size, 0, none⟩ = some (.int .i64 x0) := by simp [go_sem]
  have q1 : (w.alloc (.cells #[.int .i64 x0, .int .i64 x1, .int .i64 x2, .int .i64 x3, .int .i64 x4, .int .i64 x5, .int .i64 x6, .int .i64 x7, .bool b, .int .i64 x9, .int .i64 x10, .int .i64 x11] 23)).cell? ⟨w.heap.size, 1, none⟩ = some (.int .i64 x1) := by simp [go_sem]
  have q2 : (w.alloc (.cells #[.int .i64 x0, .int .i64 x1, .int .i64 x2, .int .i64 x3, .int .i64 x4, .int .i64 x5, .int .i64 x6, .int .i64 x7, .bool b, .int .i64 x9, .int .i64 x10, .int .i64 x11] 23)).cell? ⟨w.heap.size, 2, none⟩ = some (.int .i64 x2) := by simp [go_sem]
  have q3 : (w.alloc (.cells #[.int .i64 x0, .int .i64 x1, .int .i64 x2, .int .i64 x3, .int .i64 x4, .int .i64 x5, .int .i64 x6, .int .i64 x7, .bool b, .int .i64 x9, .int .i64 x10, .int .i64 x11] 23)).cell? ⟨w.heap.size, 3, none⟩ = some (.int .i64 x3) := by simp [go_sem]
  have q4 : (w.alloc (.cells #[.int .i64 x0, .int .i64 x1, .int .i64 x2, .int .i64 x3, .int .i64 x4, .int .i64 x5, .int .i64 x6, .int .i64 x7, .bool b, .int .i64 x9, .int .i64 x10, .int .i64 x11] 23)).cell? ⟨w.heap.size, 4, none⟩ = some (.int .i64 x4) := by simp [go_sem]
  have q5 : (w.alloc (.cells #[.int .i64 x0, .int .i64 x1, .int .i64 x2, .int .i64 x3, .int .i64 x4, .int .i64 x5, .int .i64 x6, .int .i64 x7, .bool b, .int .i64 x9, .int .i64 x10, .int .i64 x11] 23)).cell? ⟨w.heap.size, 5, none⟩ = some (.int .i64 x5) := by simp [go_sem]
  have q6 : (w.alloc (.cells #[.int .i64 x0, .int .i64 x1, .int .i64 x2, .int .i64 x3, .int .i64 x4, .int .i64 x5, .int .i64 x6, .int .i64 x7, .bool b, .int .i64 x9, .int .i64 x10, .int .i64 x11] 23)).cell? ⟨w.heap.size, 6, none⟩ = some (.int .i64 x6) := by simp [go_sem]
  have q7 : (w.alloc (.cells #[.int .i64 x0, .int .i64 x1, .int .i64 x2, .int .i64 x3, .int .i64 x4, .int .i64 x5, .int .i64 x6, .int .i64 x7, .bool b, .int .i64 x9, .int .i64 x10, .int .i64 x11] 23)).cell? ⟨w.heap.size, 7, none⟩ = some (.int .i64 x7) := by simp [go_sem]
  have q8 : (w.alloc (.cells #[.int .i64 x0, .int .i64 x1, .int .i64 x2, .int .i64 x3, .int .i64 x4, .int .i64 x5, .int .i64 x6, .int .i64 x7, .bool b, .int .i64 x9, .int .i64 x10, .int .i64 x11] 23)).cell? ⟨w.heap.size, 8, none⟩ = some (.bool b) := by simp [go_sem]
  have q9 : (w.alloc (.cells #[.int .i64 x0, .int .i64 x1, .int .i64 x2, .int .i64 x3, .int .i64 x4, .int .i64 x5, .int .i64 x6, .int .i64 x7, .bool b, .int .i64 x9, .int .i64 x10, .int .i64 x11] 23)).cell? ⟨w.heap.size, 9, none⟩ = some (.int .i64 x9) := by simp [go_sem]
  have q10 : (w.alloc (.cells #[.int .i64 x0, .int .i64 x1, .int .i64 x2, .int .i64 x3, .int .i64 x4, .int .i64 x5, .int .i64 x6, .int .i64 x7, .bool b, .int .i64 x9, .int .i64 x10, .int .i64 x11] 23)).cell? ⟨w.heap.size, 10, none⟩ = some (.int .i64 x10) := by simp [go_sem]
  have q11 : (w.alloc (.cells #[.int .i64 x0, .int .i64 x1, .int .i64 x2, .int .i64 x3, .int .i64 x4, .int .i64 x5, .int .i64 x6, .int .i64 x7, .bool b, .int .i64 x9, .int .i64 x10, .int .i64 x11] 23)).cell? ⟨w.heap.size, 11, none⟩ = some (.int .i64 x11) := by simp [go_sem]
  have KM := hide (may_yes x0 x1 x2 x3 x4 x5 x6 x7 b x9 x10 x11 hok)
  have K0 := hide (fun i (hi : I64 i) (v : World) => cell_any x0 x1 x2 x3 x4 x5 x6 x7 b x9 x10 x11 hok i hi v)
  have K1 := hide (fun i j (hi : I64 i) (hj : I64 j) (v : World) => node_any x0 x1 x2 x3 x4 x5 x6 x7 b x9 x10 x11 hok i hi j hj v)
  have K2 := hide (fun i j k (hi : I64 i) (hj : I64 j) (hk : I64 k) (v : World) => slot_any x0 x1 x2 x3 x4 x5 x6 x7 b x9 x10 x11 hok i hi j hj k hk v)
  have K3 := hide (fun i (hi : I64 i) (v : World) => line_any x0 x1 x2 x3 x4 x5 x6 x7 b x9 x10 x11 hok i hi v)
  have K4 := hide (fun i (hi : I64 i) (v : World) => result_any x0 x1 x2 x3 x4 x5 x6 x7 b x9 x10 x11 hok i hi v)
  have K5 := hide (size_any x0 x1 x2 x3 x4 x5 x6 x7 b x9 x10 x11 hok)
  have K6 := hide (nodes_any x0 x1 x2 x3 x4 x5 x6 x7 b x9 x10 x11 hok.h3)
  have K7 := hide (rnodes_any x0 x1 x2 x3 x4 x5 x6 x7 b x9 x10 x11 hok.h3)
  have o0 := hok.h0
  have o1 := hok.h1
  have o4 := hok.h4
  have o5 := hok.h5
  have on := nd_le hok.h3
  have ob := bk_le hok.h3 hok.h4 hok.h5
  have hbk0 : 1 + ndV x3 + x4 * x5 = bkV x3 x4 x5 := rfl
  have om := mul_le (b := x5) o4 ⟨by omega, o5.2⟩
  clear hok
  obtain ⟨bk, hbk⟩ : ∃ n, bkV x3 x4 x5 = n := ⟨_, rfl⟩
  obtain ⟨nd, hnd⟩ : ∃ n : Nat, ndV x3 = (n : Int) := ⟨(ndV x3).toNat, by omega⟩
  simp only [hbk, hnd] at K0 K1 K2 K3 K4 K5 K6 K7 on ob hbk0
  clear hbk hnd
  obtain ⟨it, rfl⟩ : ∃ n : Nat, x1 = (n : Int) := ⟨x1.toNat, by omega⟩
  obtain ⟨ly, rfl⟩ : ∃ n : Nat, x4 = (n : Int) := ⟨x4.toNat, by omega⟩
  have e1 := w64 (x := 1 + (nd : Int)) (by omega)
  have e2 := w64 (x := (ly : Int) * x5) (by omega)
  have e3 : IntKind.i64.wrap (1 + (nd : Int) + (ly : Int) * x5) = bk := (w64 (by omega)).trans hbk0
  have HB0 := hide hbk0
  clear hbk0
  go_enter Try.func6, Try.ntmps6
  go_wp2_with fail
  refine (KM.out _).mono ?_
  rintro x w1 ⟨rfl, hb⟩
  replace q0 := cell_keep q0 hb
  replace q1 := cell_keep q1 hb
  replace q2 := cell_keep q2 hb
  replace q3 := cell_keep q3 hb
  replace q4 := cell_keep q4 hb
  replace q5 := cell_keep q5 hb
  replace q6 := cell_keep q6 hb
  replace q7 := cell_keep q7 hb
  replace q8 := cell_keep q8 hb
  replace q9 := cell_keep q9 hb
  replace q10 := cell_keep q10 hb
  replace q11 := cell_keep q11 hb
  replace hB := below_next hB hB.size hb
  clear hb
  go_wp2_with fail
  refine (shown6_any _).mono ?_
  rintro x w2 ⟨rfl, hb⟩
  replace q0 := cell_keep q0 hb
  replace q1 := cell_keep q1 hb
  replace q2 := cell_keep q2 hb
  replace q3 := cell_keep q3 hb
  replace q4 := cell_keep q4 hb
  replace q5 := cell_keep q5 hb
  replace q6 := cell_keep q6 hb
  replace q7 := cell_keep q7 hb
  replace q8 := cell_keep q8 hb
  replace q9 := cell_keep q9 hb
  replace q10 := cell_keep q10 hb
  replace q11 := cell_keep q11 hb
  replace hB := below_next hB hB.size hb
  clear hb
  clear KM
  go_wp2_with fail
  have H0 := (⟨q0, q1, q2, q3, q4, q5, q6, q7, q8, q9, q10, q11⟩ : w2.cell? ⟨w.heap.size, 0, none⟩ = some (.int .i64 x0) ∧ w2.cell? ⟨w.heap.size, 1, none⟩ = some (.int .i64 (it : Int)) ∧ w2.cell? ⟨w.heap.size, 2, none⟩ = some (.int .i64 x2) ∧ w2.cell? ⟨w.heap.size, 3, none⟩ = some (.int .i64 x3) ∧ w2.cell? ⟨w.heap.size, 4, none⟩ = some (.int .i64 (ly : Int)) ∧ w2.cell? ⟨w.heap.size, 5, none⟩ = some (.int .i64 x5) ∧ w2.cell? ⟨w.heap.size, 6, none⟩ = some (.int .i64 x6) ∧ w2.cell? ⟨w.heap.size, 7, none⟩ = some (.int .i64 x7) ∧ w2.cell? ⟨w.heap.size, 8, none⟩ = some (.bool b) ∧ w2.cell? ⟨w.heap.size, 9, none⟩ = some (.int .i64 x9) ∧ w2.cell? ⟨w.heap.size, 10, none⟩ = some (.int .i64 x10) ∧ w2.cell? ⟨w.heap.size, 11, none⟩ = some (.int .i64 x11))
  clear q0 q1 q2 q3 q4 q5 q6 q7 q8 q9 q10 q11
  replace H0 := keep12 H0 ((Below.refl _ w2).drew)
  replace hB := hB.drew
  go_region_held3 (fun w' => w'.cell? ⟨w.heap.size, 0, none⟩ = some (.int .i64 x0) ∧ w'.cell? ⟨w.heap.size, 1, none⟩ = some (.int .i64 (it : Int)) ∧ w'.cell? ⟨w.heap.size, 2, none⟩ = some (.int .i64 x2) ∧ w'.cell? ⟨w.heap.size, 3, none⟩ = some (.int .i64 x3) ∧ w'.cell? ⟨w.heap.size, 4, none⟩ = some (.int .i64 (ly : Int)) ∧ w'.cell? ⟨w.heap.size, 5, none⟩ = some (.int .i64 x5) ∧ w'.cell? ⟨w.heap.size, 6, none⟩ = some (.int .i64 x6) ∧ w'.cell? ⟨w.heap.size, 7, none⟩ = some (.int .i64 x7) ∧ w'.cell? ⟨w.heap.size, 8, none⟩ = some (.bool b) ∧ w'.cell? ⟨w.heap.size, 9, none⟩ = some (.int .i64 x9) ∧ w'.cell? ⟨w.heap.size, 10, none⟩ = some (.int .i64 x10) ∧ w'.cell? ⟨w.heap.size, 11, none⟩ = some (.int .i64 x11))
    (exact H0)
    (first
      | (go_at_call 10; refine (K6.out   _).mono ?_; rintro x v ⟨rfl, hv⟩; replace H0 := keep12 H0 hv; replace hB := below_next hB hB.size hv))
  have HS := hide H0
  have HB := hide hB
  clear e1 e2 e3 H0 hB hv om K6
  go_wp2
  go_loopw [4] (fun i wr => ∃ j : Nat, 1 ≤ j ∧ j ≤ it ∧ i = .int .i64 (j : Int) ∧ (wr.cell? ⟨w.heap.size, 0, none⟩ = some (.int .i64 x0) ∧ wr.cell? ⟨w.heap.size, 1, none⟩ = some (.int .i64 (it : Int)) ∧ wr.cell? ⟨w.heap.size, 2, none⟩ = some (.int .i64 x2) ∧ wr.cell? ⟨w.heap.size, 3, none⟩ = some (.int .i64 x3) ∧ wr.cell? ⟨w.heap.size, 4, none⟩ = some (.int .i64 (ly : Int)) ∧ wr.cell? ⟨w.heap.size, 5, none⟩ = some (.int .i64 x5) ∧ wr.cell? ⟨w.heap.size, 6, none⟩ = some (.int .i64 x6) ∧ wr.cell? ⟨w.heap.size, 7, none⟩ = some (.int .i64 x7) ∧ wr.cell? ⟨w.heap.size, 8, none⟩ = some (.bool b) ∧ wr.cell? ⟨w.heap.size, 9, none⟩ = some (.int .i64 x9) ∧ wr.cell? ⟨w.heap.size, 10, none⟩ = some (.int .i64 x10) ∧ wr.cell? ⟨w.heap.size, 11, none⟩ = some (.int .i64 x11)) ∧ Below w.heap.size w wr) (fun i _ => it - (intOf i).toNat)
  case atStart => exact ⟨1, Nat.le_refl _, by omega, rfl, HS.out, HB.out⟩
  case round =>
    clear HS HB
    obtain ⟨j, hj1, hj2, rfl, H0, hB⟩ := hrel
    have H0' := H0
    obtain ⟨q0, q1, q2, q3, q4, q5, q6, q7, q8, q9, q10, q11⟩ := H0'
    by_cases hlt : j < it
    · skip
      have i1 : I64 (j : Int) := by unfold I64; omega
      have i2 : I64 ((j : Int) - 1) := by unfold I64; omega
      have hj3 : (j : Int) < (it : Int) := by omega
      have v1 : cellV it bk (j : Int) - cellV it bk ((j : Int) - 1) = bk := cell_diff (by omega)
      have dv1 : IntKind.i64.wrap (cellV it bk (j : Int) - cellV it bk ((j : Int) - 1)) = bk := by rw [v1]; exact w64 (by omega)
      clear v1
      go_upto_region 7 with fail
      clear q0 q1 q2 q3 q4 q5 q6 q7 q8 q9 q10 q11
      replace H0 := keep12 H0 ((Below.refl _ wr).drew)
      replace hB := hB.drew
      have e4 := w64 (x := (j : Int) - 1) (by omega)
      go_region_held3 (fun w' => w'.cell? ⟨w.heap.size, 0, none⟩ = some (.int .i64 x0) ∧ w'.cell? ⟨w.heap.size, 1, none⟩ = some (.int .i64 (it : Int)) ∧ w'.cell? ⟨w.heap.size, 2, none⟩ = some (.int .i64 x2) ∧ w'.cell? ⟨w.heap.size, 3, none⟩ = some (.int .i64 x3) ∧ w'.cell? ⟨w.heap.size, 4, none⟩ = some (.int .i64 (ly : Int)) ∧ w'.cell? ⟨w.heap.size, 5, none⟩ = some (.int .i64 x5) ∧ w'.cell? ⟨w.heap.size, 6, none⟩ = some (.int .i64 x6) ∧ w'.cell? ⟨w.heap.size, 7, none⟩ = some (.int .i64 x7) ∧ w'.cell? ⟨w.heap.size, 8, none⟩ = some (.bool b) ∧ w'.cell? ⟨w.heap.size, 9, none⟩ = some (.int .i64 x9) ∧ w'.cell? ⟨w.heap.size, 10, none⟩ = some (.int .i64 x10) ∧ w'.cell? ⟨w.heap.size, 11, none⟩ = some (.int .i64 x11))
        (exact H0)
        (first
          | (go_at_call 14; refine (K0.out _ (by assumption) _).mono ?_; rintro x v ⟨rfl, hv⟩; replace H0 := keep12 H0 hv; replace hB := below_next hB hB.size hv))
      have HS := hide H0
      have HB := hide hB
      clear dv1 e4 H0 hB
      go_wp2
      go_loopw [5] (fun i wr => ∃ k : Nat, 1 ≤ k ∧ k ≤ nd + 1 ∧ i = .int .i64 (k : Int) ∧ (wr.cell? ⟨w.heap.size, 0, none⟩ = some (.int .i64 x0) ∧ wr.cell? ⟨w.heap.size, 1, none⟩ = some (.int .i64 (it : Int)) ∧ wr.cell? ⟨w.heap.size, 2, none⟩ = some (.int .i64 x2) ∧ wr.cell? ⟨w.heap.size, 3, none⟩ = some (.int .i64 x3) ∧ wr.cell? ⟨w.heap.size, 4, none⟩ = some (.int .i64 (ly : Int)) ∧ wr.cell? ⟨w.heap.size, 5, none⟩ = some (.int .i64 x5) ∧ wr.cell? ⟨w.heap.size, 6, none⟩ = some (.int .i64 x6) ∧ wr.cell? ⟨w.heap.size, 7, none⟩ = some (.int .i64 x7) ∧ wr.cell? ⟨w.heap.size, 8, none⟩ = some (.bool b) ∧ wr.cell? ⟨w.heap.size, 9, none⟩ = some (.int .i64 x9) ∧ wr.cell? ⟨w.heap.size, 10, none⟩ = some (.int .i64 x10) ∧ wr.cell? ⟨w.heap.size, 11, none⟩ = some (.int .i64 x11)) ∧ Below w.heap.size w wr) (fun i _ => nd + 1 - (intOf i).toNat)
      case atStart => exact ⟨1, Nat.le_refl _, by omega, rfl, HS.out, HB.out⟩
      case round =>
        clear HS HB
        obtain ⟨k, hk1, hk2, rfl, H0, hB⟩ := hrel
        have H0' := H0
        obtain ⟨q0, q1, q2, q3, q4, q5, q6, q7, q8, q9, q10, q11⟩ := H0'
        go_wp2_with fail
        refine (K7.out _).mono ?_
        rintro x v ⟨rfl, hv⟩
        replace H0 := keep12 H0 hv
        replace hB := below_next hB hB.size hv
        clear hv q0 q1 q2 q3 q4 q5 q6 q7 q8 q9 q10 q11
        have H0' := H0
        obtain ⟨q0, q1, q2, q3, q4, q5, q6, q7, q8, q9, q10, q11⟩ := H0'
        by_cases hkn : k ≤ nd
        · skip
          have i3 : I64 (k : Int) := by unfold I64; omega
          have hk3 : (k : Int) ≤ (nd : Int) := by omega
          have v1 : nodeV it bk nd (j : Int) (k : Int) - nodeV it bk nd ((j : Int) - 1) (k : Int) = bk := node_diff (by omega) (by omega)
          have dv1 : IntKind.i64.wrap (nodeV it bk nd (j : Int) (k : Int) - nodeV it bk nd ((j : Int) - 1) (k : Int)) = bk := by rw [v1]; exact w64 (by omega)
          clear v1
          go_upto_region 12 with fail
          clear q0 q1 q2 q3 q4 q5 q6 q7 q8 q9 q10 q11
          replace H0 := keep12 H0 ((Below.refl _ v).drew)
          replace hB := hB.drew
          have e4 := w64 (x := (j : Int) - 1) (by omega)
          go_region_held3 (fun w' => w'.cell? ⟨w.heap.size, 0, none⟩ = some (.int .i64 x0) ∧ w'.cell? ⟨w.heap.size, 1, none⟩ = some (.int .i64 (it : Int)) ∧ w'.cell? ⟨w.heap.size, 2, none⟩ = some (.int .i64 x2) ∧ w'.cell? ⟨w.heap.size, 3, none⟩ = some (.int .i64 x3) ∧ w'.cell? ⟨w.heap.size, 4, none⟩ = some (.int .i64 (ly : Int)) ∧ w'.cell? ⟨w.heap.size, 5, none⟩ = some (.int .i64 x5) ∧ w'.cell? ⟨w.heap.size, 6, none⟩ = some (.int .i64 x6) ∧ w'.cell? ⟨w.heap.size, 7, none⟩ = some (.int .i64 x7) ∧ w'.cell? ⟨w.heap.size, 8, none⟩ = some (.bool b) ∧ w'.cell? ⟨w.heap.size, 9, none⟩ = some (.int .i64 x9) ∧ w'.cell? ⟨w.heap.size, 10, none⟩ = some (.int .i64 x10) ∧ w'.cell? ⟨w.heap.size, 11, none⟩ = some (.int .i64 x11))
            (exact H0)
            (first
              | (go_at_call 16; refine (K1.out _ _ (by assumption) (by assumption) _).mono ?_; rintro x v ⟨rfl, hv⟩; replace H0 := keep12 H0 hv; replace hB := below_next hB hB.size hv))
          have HS := hide H0
          have HB := hide hB
          clear dv1 e4 H0 hB
          go_wp2
          go_roundw
          case rel => exact ⟨k + 1, by omega, by omega, by go_num, HS.out, HB.out⟩
          case measure => simp [intOf]; omega
        · skip
          have hk3 : ¬ (k : Int) ≤ (nd : Int) := by omega
          have HS := hide H0
          have HB := hide hB
          clear H0 hB q0 q1 q2 q3 q4 q5 q6 q7 q8 q9 q10 q11
          go_wp2
          go_loopw [6] (fun i wr => ∃ l : Nat, 1 ≤ l ∧ l ≤ ly + 1 ∧ i = .int .i64 (l : Int) ∧ (wr.cell? ⟨w.heap.size, 0, none⟩ = some (.int .i64 x0) ∧ wr.cell? ⟨w.heap.size, 1, none⟩ = some (.int .i64 (it : Int)) ∧ wr.cell? ⟨w.heap.size, 2, none⟩ = some (.int .i64 x2) ∧ wr.cell? ⟨w.heap.size, 3, none⟩ = some (.int .i64 x3) ∧ wr.cell? ⟨w.heap.size, 4, none⟩ = some (.int .i64 (ly : Int)) ∧ wr.cell? ⟨w.heap.size, 5, none⟩ = some (.int .i64 x5) ∧ wr.cell? ⟨w.heap.size, 6, none⟩ = some (.int .i64 x6) ∧ wr.cell? ⟨w.heap.size, 7, none⟩ = some (.int .i64 x7) ∧ wr.cell? ⟨w.heap.size, 8, none⟩ = some (.bool b) ∧ wr.cell? ⟨w.heap.size, 9, none⟩ = some (.int .i64 x9) ∧ wr.cell? ⟨w.heap.size, 10, none⟩ = some (.int .i64 x10) ∧ wr.cell? ⟨w.heap.size, 11, none⟩ = some (.int .i64 x11)) ∧ Below w.heap.size w wr) (fun i _ => ly + 1 - (intOf i).toNat)
          case atStart => exact ⟨1, Nat.le_refl _, by omega, rfl, HS.out, HB.out⟩
          case round =>
            clear HS HB
            obtain ⟨l, hl1, hl2, rfl, H0, hB⟩ := hrel
            have H0' := H0
            obtain ⟨q0, q1, q2, q3, q4, q5, q6, q7, q8, q9, q10, q11⟩ := H0'
            by_cases hll : l ≤ ly
            · skip
              have i3 : I64 (l : Int) := by unfold I64; omega
              have i4 : I64 (x5 - 1) := by unfold I64; omega
              have hl3 : (l : Int) ≤ (ly : Int) := by omega
              have v1 : slotV it bk nd ly x5 (j : Int) (l : Int) (x5 - 1) - slotV it bk nd ly x5 ((j : Int) - 1) (l : Int) (x5 - 1) = bk := slot_diff (by omega) (by omega) (by omega)
              have dv1 : IntKind.i64.wrap (slotV it bk nd ly x5 (j : Int) (l : Int) (x5 - 1) - slotV it bk nd ly x5 ((j : Int) - 1) (l : Int) (x5 - 1)) = bk := by rw [v1]; exact w64 (by omega)
              clear v1
              go_upto_region 17 with fail
              clear q0 q1 q2 q3 q4 q5 q6 q7 q8 q9 q10 q11
              replace H0 := keep12 H0 ((Below.refl _ wr).drew)
              replace hB := hB.drew
              have e4 := w64 (x := (j : Int) - 1) (by omega)
              have e5 := w64 (x := x5 - 1) (by omega)
              go_region_held3 (fun w' => w'.cell? ⟨w.heap.size, 0, none⟩ = some (.int .i64 x0) ∧ w'.cell? ⟨w.heap.size, 1, none⟩ = some (.int .i64 (it : Int)) ∧ w'.cell? ⟨w.heap.size, 2, none⟩ = some (.int .i64 x2) ∧ w'.cell? ⟨w.heap.size, 3, none⟩ = some (.int .i64 x3) ∧ w'.cell? ⟨w.heap.size, 4, none⟩ = some (.int .i64 (ly : Int)) ∧ w'.cell? ⟨w.heap.size, 5, none⟩ = some (.int .i64 x5) ∧ w'.cell? ⟨w.heap.size, 6, none⟩ = some (.int .i64 x6) ∧ w'.cell? ⟨w.heap.size, 7, none⟩ = some (.int .i64 x7) ∧ w'.cell? ⟨w.heap.size, 8, none⟩ = some (.bool b) ∧ w'.cell? ⟨w.heap.size, 9, none⟩ = some (.int .i64 x9) ∧ w'.cell? ⟨w.heap.size, 10, none⟩ = some (.int .i64 x10) ∧ w'.cell? ⟨w.heap.size, 11, none⟩ = some (.int .i64 x11))
                (exact H0)
                (first
                  | (go_at_call 18; refine (K2.out _ _ _ (by assumption) (by assumption) (by assumption) _).mono ?_; rintro x v ⟨rfl, hv⟩; replace H0 := keep12 H0 hv; replace hB := below_next hB hB.size hv))
              have HS := hide H0
              have HB := hide hB
              clear dv1 e4 e5 H0 hB
              go_wp2
              go_roundw
              case rel => exact ⟨l + 1, by omega, by omega, by go_num, HS.out, HB.out⟩
              case measure => simp [intOf]; omega
            · skip
              have hl3 : ¬ (l : Int) ≤ (ly : Int) := by omega
              have HS := hide H0
              have HB := hide hB
              clear H0 hB q0 q1 q2 q3 q5 q6 q7 q8 q9 q10 q11
              go_wp2
              go_roundw
              case rel => exact ⟨j + 1, by omega, by omega, by go_num, HS.out, HB.out⟩
              case measure => simp [intOf]; omega
    · skip
      obtain rfl : j = it := by omega
      have i0 : I64 0 := by unfold I64; omega
      have i1 : I64 (x0 - 1) := by unfold I64; omega
      have m1 := mul_le (a := (j : Int)) (b := bk) (p := 4) (q := 40) (by omega) (by omega)
      have v1 : lineV (j : Int) bk x0 0 = (j : Int) * bk := by rw [lineV, if_pos (by omega)]; omega
      have v2 : resV (j : Int) bk x0 (x0 - 1) = (j : Int) * bk + 2 * (x0 - 1) + 1 := by rw [resV, if_pos (by omega)]
      have v3 : sizeV (j : Int) bk x0 - 1 = (j : Int) * bk + 2 * (x0 - 1) + 1 := by unfold sizeV; omega
      have e1 : IntKind.i64.wrap (bk * (j : Int)) = (j : Int) * bk := by rw [Int.mul_comm]; exact w64 (by omega)
      have e2 : IntKind.i64.wrap (sizeV (j : Int) bk x0 - 1) = (j : Int) * bk + 2 * (x0 - 1) + 1 := by rw [v3]; exact w64 (by omega)
      have e3 := w64 (x := x0 - 1) (by omega)
      clear v3
      go_upto_region 19 with fail
      clear q0 q1 q2 q3 q4 q5 q6 q7 q8 q9 q10 q11
      replace H0 := keep12 H0 ((Below.refl _ wr).drew)
      replace hB := hB.drew
      go_region_held3 (fun w' => w'.cell? ⟨w.heap.size, 0, none⟩ = some (.int .i64 x0) ∧ w'.cell? ⟨w.heap.size, 1, none⟩ = some (.int .i64 (j : Int)) ∧ w'.cell? ⟨w.heap.size, 2, none⟩ = some (.int .i64 x2) ∧ w'.cell? ⟨w.heap.size, 3, none⟩ = some (.int .i64 x3) ∧ w'.cell? ⟨w.heap.size, 4, none⟩ = some (.int .i64 (ly : Int)) ∧ w'.cell? ⟨w.heap.size, 5, none⟩ = some (.int .i64 x5) ∧ w'.cell? ⟨w.heap.size, 6, none⟩ = some (.int .i64 x6) ∧ w'.cell? ⟨w.heap.size, 7, none⟩ = some (.int .i64 x7) ∧ w'.cell? ⟨w.heap.size, 8, none⟩ = some (.bool b) ∧ w'.cell? ⟨w.heap.size, 9, none⟩ = some (.int .i64 x9) ∧ w'.cell? ⟨w.heap.size, 10, none⟩ = some (.int .i64 x10) ∧ w'.cell? ⟨w.heap.size, 11, none⟩ = some (.int .i64 x11))
        (exact H0)
        (first
          | (go_at_call 20; refine (K3.out _ (by assumption) _).mono ?_; rintro x v ⟨rfl, hv⟩; replace H0 := keep12 H0 hv; replace hB := below_next hB hB.size hv)
          | (go_at_call 22; refine (K4.out _ (by assumption) _).mono ?_; rintro x v ⟨rfl, hv⟩; replace H0 := keep12 H0 hv; replace hB := below_next hB hB.size hv)
          | (go_at_call 12; refine (K5.out   _).mono ?_; rintro x v ⟨rfl, hv⟩; replace H0 := keep12 H0 hv; replace hB := below_next hB hB.size hv))
      go_wp2
      go_ret
      exact ⟨rfl, hB⟩
set_option maxRecDepth 100000 in
set_option maxHeartbeats 4000000 in
theorem walkItemsNo (x0 x1 x2 x3 x4 x5 x6 x7 : Int) (b : Bool) (x9 x10 x11 : Int)  (hok : ¬ CfOk x0 x1 x2 x3 x4 x5 x6 x7 b x9 x10 x11) (w : World) : Calls Try.prog 6 #[.agg #[.int .i64 x0, .int .i64 x1, .int .i64 x2, .int .i64 x3, .int .i64 x4, .int .i64 x5, .int .i64 x6, .int .i64 x7, .bool b, .int .i64 x9, .int .i64 x10, .int .i64 x11]] w (BoolPost true w) := by
  have hB : Below w.heap.size w (w.alloc (.cells #[.int .i64 x0, .int .i64 x1, .int .i64 x2, .int .i64 x3, .int .i64 x4, .int .i64 x5, .int .i64 x6, .int .i64 x7, .bool b, .int .i64 x9, .int .i64 x10, .int .i64 x11] 23)) := (Below.refl _ w).alloc (Nat.le_refl _) _
  have q0 : (w.alloc (.cells #[.int .i64 x0, .int .i64 x1, .int .i64 x2, .int .i64 x3, .int .i64 x4, .int .i64 x5, .int .i64 x6, .int .i64 x7, .bool b, .int .i64 x9, .int .i64 x10, .int .i64 x11] 23)).cell? ⟨w.heap.size, 0, none⟩ = some (.int .i64 x0) := by simp [go_sem]
  have q1 : (w.alloc (.cells #[.int .i64 x0, .int .i64 x1, .int .i64 x2, .int .i64 x3, .int .i64 x4, .int .i64 x5, .int .i64 x6, .int .i64 x7, .bool b, .int .i64 x9, .int .i64 x10, .int .i64 x11] 23)).cell? ⟨w.heap.size, 1, none⟩ = some (.int .i64 x1) := by simp [go_sem]
  have q2 : (w.alloc (.cells #[.int .i64 x0, .int .i64 x1, .int .i64 x2, .int .i64 x3, .int .i64 x4, .int .i64 x5, .int .i64 x6, .int .i64 x7, .bool b, .int .i64 x9, .int .i64 x10, .int .i64 x11] 23)).cell? ⟨w.heap.size, 2, none⟩ = some (.int .i64 x2) := by simp [go_sem]
  have q3 : (w.alloc (.cells #[.int .i64 x0, .int .i64 x1, .int .i64 x2, .int .i64 x3, .int .i64 x4, .int .i64 x5, .int .i64 x6, .int .i64 x7, .bool b, .int .i64 x9, .int .i64 x10, .int .i64 x11] 23)).cell? ⟨w.heap.size, 3, none⟩ = some (.int .i64 x3) := by simp [go_sem]
  have q4 : (w.alloc (.cells #[.int .i64 x0, .int .i64 x1, .int .i64 x2, .int .i64 x3, .int .i64 x4, .int .i64 x5, .int .i64 x6, .int .i64 x7, .bool b, .int .i64 x9, .int .i64 x10, .int .i64 x11] 23)).cell? ⟨w.heap.size, 4, none⟩ = some (.int .i64 x4) := by simp [go_sem]
  have q5 : (w.alloc (.cells #[.int .i64 x0, .int .i64 x1, .int .i64 x2, .int .i64 x3, .int .i64 x4, .int .i64 x5, .int .i64 x6, .int .i64 x7, .bool b, .int .i64 x9, .int .i64 x10, .int .i64 x11] 23)).cell? ⟨w.heap.size, 5, none⟩ = some (.int .i64 x5) := by simp [go_sem]
  have q6 : (w.alloc (.cells #[.int .i64 x0, .int .i64 x1, .int .i64 x2, .int .i64 x3, .int .i64 x4, .int .i64 x5, .int .i64 x6, .int .i64 x7, .bool b, .int .i64 x9, .int .i64 x10, .int .i64 x11] 23)).cell? ⟨w.heap.size, 6, none⟩ = some (.int .i64 x6) := by simp [go_sem]
  have q7 : (w.alloc (.cells #[.int .i64 x0, .int .i64 x1, .int .i64 x2, .int .i64 x3, .int .i64 x4, .int .i64 x5, .int .i64 x6, .int .i64 x7, .bool b, .int .i64 x9, .int .i64 x10, .int .i64 x11] 23)).cell? ⟨w.heap.size, 7, none⟩ = some (.int .i64 x7) := by simp [go_sem]
  have q8 : (w.alloc (.cells #[.int .i64 x0, .int .i64 x1, .int .i64 x2, .int .i64 x3, .int .i64 x4, .int .i64 x5, .int .i64 x6, .int .i64 x7, .bool b, .int .i64 x9, .int .i64 x10, .int .i64 x11] 23)).cell? ⟨w.heap.size, 8, none⟩ = some (.bool b) := by simp [go_sem]
  have q9 : (w.alloc (.cells #[.int .i64 x0, .int .i64 x1, .int .i64 x2, .int .i64 x3, .int .i64 x4, .int .i64 x5, .int .i64 x6, .int .i64 x7, .bool b, .int .i64 x9, .int .i64 x10, .int .i64 x11] 23)).cell? ⟨w.heap.size, 9, none⟩ = some (.int .i64 x9) := by simp [go_sem]
  have q10 : (w.alloc (.cells #[.int .i64 x0, .int .i64 x1, .int .i64 x2, .int .i64 x3, .int .i64 x4, .int .i64 x5, .int .i64 x6, .int .i64 x7, .bool b, .int .i64 x9, .int .i64 x10, .int .i64 x11] 23)).cell? ⟨w.heap.size, 10, none⟩ = some (.int .i64 x10) := by simp [go_sem]
  have q11 : (w.alloc (.cells #[.int .i64 x0, .int .i64 x1, .int .i64 x2, .int .i64 x3, .int .i64 x4, .int .i64 x5, .int .i64 x6, .int .i64 x7, .bool b, .int .i64 x9, .int .i64 x10, .int .i64 x11] 23)).cell? ⟨w.heap.size, 11, none⟩ = some (.int .i64 x11) := by simp [go_sem]
  have KM := hide (may_no x0 x1 x2 x3 x4 x5 x6 x7 b x9 x10 x11 hok)
  clear hok
  go_enter Try.func6, Try.ntmps6
  go_wp2_with fail
  refine (KM.out _).mono ?_
  rintro x w1 ⟨rfl, hb⟩
  replace q0 := cell_keep q0 hb
  replace q1 := cell_keep q1 hb
  replace q2 := cell_keep q2 hb
  replace q3 := cell_keep q3 hb
  replace q4 := cell_keep q4 hb
  replace q5 := cell_keep q5 hb
  replace q6 := cell_keep q6 hb
  replace q7 := cell_keep q7 hb
  replace q8 := cell_keep q8 hb
  replace q9 := cell_keep q9 hb
  replace q10 := cell_keep q10 hb
  replace q11 := cell_keep q11 hb
  replace hB := below_next hB hB.size hb
  clear hb
  go_wp2_with fail
  refine (shown6_any _).mono ?_
  rintro x w2 ⟨rfl, hb⟩
  replace q0 := cell_keep q0 hb
  replace q1 := cell_keep q1 hb
  replace q2 := cell_keep q2 hb
  replace q3 := cell_keep q3 hb
  replace q4 := cell_keep q4 hb
  replace q5 := cell_keep q5 hb
  replace q6 := cell_keep q6 hb
  replace q7 := cell_keep q7 hb
  replace q8 := cell_keep q8 hb
  replace q9 := cell_keep q9 hb
  replace q10 := cell_keep q10 hb
  replace q11 := cell_keep q11 hb
  replace hB := below_next hB hB.size hb
  clear hb
  go_wp2
  go_ret
  exact ⟨rfl, hB⟩
theorem walkItems (x0 x1 x2 x3 x4 x5 x6 x7 : Int) (b : Bool) (x9 x10 x11 : Int)  (w : World) : Calls Try.prog 6 #[.agg #[.int .i64 x0, .int .i64 x1, .int .i64 x2, .int .i64 x3, .int .i64 x4, .int .i64 x5, .int .i64 x6, .int .i64 x7, .bool b, .int .i64 x9, .int .i64 x10, .int .i64 x11]] w (BoolPost true w) := by
  by_cases hok : CfOk x0 x1 x2 x3 x4 x5 x6 x7 b x9 x10 x11
  · exact walkItemsOk x0 x1 x2 x3 x4 x5 x6 x7 b x9 x10 x11  hok w
  · exact walkItemsNo x0 x1 x2 x3 x4 x5 x6 x7 b x9 x10 x11  hok w

end Go.Proofs.Ytlmnanlclialhaa
