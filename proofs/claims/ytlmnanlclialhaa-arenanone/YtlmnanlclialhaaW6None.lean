/- The walk of ArenaNone. -/
import Derived.Test.YtlmnanlclialhaaW6Base
import Derived.Test.YtlmnanlclialhaaLex
import Derived.Lib.QuietBelow
import Derived.Deep.QuietTactic
namespace Go.Proofs.Ytlmnanlclialhaa
open Go.RowKit Go.Sort
set_option linter.unusedVariables false

set_option maxRecDepth 100000 in
set_option maxHeartbeats 4000000 in
theorem walkNoneOk (x0 x1 x2 x3 x4 x5 x6 x7 : Int) (b : Bool) (x9 x10 x11 : Int) (a : Nat) (ha : a < 256) (hok : CfOk x0 x1 x2 x3 x4 x5 x6 x7 b x9 x10 x11) (w : World) : Calls Try.prog 7 #[.agg #[.int .i64 x0, .int .i64 x1, .int .i64 x2, .int .i64 x3, .int .i64 x4, .int .i64 x5, .int .i64 x6, .int .i64 x7, .bool b, .int .i64 x9, .int .i64 x10, .int .i64 x11], .int .u8 (a : Int)] w (BoolPost true w) := by
  have hB : Below w.heap.size w (w.alloc (.cells #[.int .i64 x0, .int .i64 x1, .int .i64 x2, .int .i64 x3, .int .i64 x4, .int .i64 x5, .int .i64 x6, .int .i64 x7, .bool b, .int .i64 x9, .int .i64 x10, .int .i64 x11] 23)) := (Below.refl _ w).alloc (Nat.le_refl _) _
  have q0 : (w.alloc (.cells #[.int .i64 x0, .int .i64 x1, .int .i64 x2, .int .i64 x3, .int .i64 x4, .int .i64 x5, .int .i64 x6, .int .i64 x7, .bool b, .int .i64 x9, .int .i64 x10, .int .i64 x11] 23)).cell? ⟨w.heap.size, 0, none⟩ = some (.int .i64 x0) := by simp [go_sem]
  have q1 : (w.alloc (.cells #[.int .i64 x0, .int .i64 x1, .int .i64 x2, .int .i64 x3, .int .i64 x4, .int .i64 x5, .int .i64 x6, .int .i64 x7, .bool b, .int .i64 x9, .int .i64 x10, .int .i64 x11] 23)).cell? ⟨w.heap.size, 1, none⟩ = some (.int .i64 x1) := by simp [go_sem]
  have q2 : (w.alloc (.cells #[.int .i64 x0, .int .i64 x1, .int .i64 x2, .int .i64 x3, .int .i64 x4, .int .i64 x5, .int .i64 x6, .int .i64 x7, .bool b, .int .i64 x9, .int .i64 x10, .int .i64 x11] 23)).cell? ⟨w.heap.size, 2, none⟩ = some (.int .i64 x2) := by simp [go_sem]
  have q3 : (w.alloc (.cells #[.int .i64 x0, .int .i64 x1, .int .i64 x2, .int .i64 x3, .int .i64 x4, .int .i64 x5, .int .i64 x6, .int .i64 x7, .bool b, .int .i64 x9, .int .i64 x10, .int .i64 x11] 23)).cell? ⟨w.heap.size, 3, none⟩ = some (.int .i64 x3) := by simp [go_sem]
  have q4 : (w.alloc (.cells #[.int .i64 x0, .int .i64 x1, .int .i64 x2, .int .i64 x3, .int .i64 x4, .int .i64 x5, .int .i64 x6, .int .i64 x7, .bool b, .int .i64 x9, .int .i64 x10, .int .i64 x11] 23)).cell? ⟨w.heap.size, 4, none⟩ = some (.int .i64 x4) := by simp [go_sem]
  have q5 : (w.alloc (.cells #[.int .i64 x0, .int .i64 x1, .int .i64 x2, .int .i64 x3, .int .i64 x4, .int .i64 x5, .int .i64 x6, .int .i64 x7, .bool b, .int .i64 x9, .int .i64 x10, .int .i64 x11] 23)).cell? ⟨w.heap.size, 5, none⟩ = some (.int .i64 x5) := by simp [go_sem]
  have q6 : (w.alloc (.cells #[.int .i64 x0, .int .i64 x1, .int .i64 x2, .int .i64 x3, .int .i64 x4, .int .i64 x5, .int .i64 x6, .int .i64 x7, .bool b, .int .i64 x9, .int .i64 x10, .int .i64 x11] 23)).cell? ⟨w.heap.size, 6, none⟩ = some (.int .i64 x6) := by simp [go_sem]
  have q7 : (w.alloc (.cells #[.int .i64 x0, .int .i64 x1, .int .i64 x2, .int .i64 x3, .int .i64 x4, .int .i64 x5, .int .i64 x6, .int .i64 x7, .bool b, .int .i64 x9, .int .i64 x10, .int .i64 x11] 23)).cell? ⟨w.heap.size, 7, none⟩ = some (.int .i64 x7) := by simp [go_sem]
  have q8 : (w.alloc (.cells #[.int .i64 x0, .int .i64 x1, .int .i64 x2, .int .i64 x3, .int .i64 x4, .int .i64 x5, .int .i64 x6, .int .i64 x7, .bool b, .int .i64 x9, .int .i64 x10, .int .i64 x11] 23)).cell? ⟨w.heap.size, 8, none⟩ = some (.bool b) := by simp [go_sem]
  have q9 : (w.alloc (.cells #[.int .i64 x0, .int .i64 x1, .int .i64 x2, .int .i64 x3, .int .i64 x4, .int .i64 x5, .int .i64 x6, .int .i64 x7, .bool b, .int .i64 x9, .int .i64 x10, .int .i64 x11] 23)).cell? ⟨w.heap.size, 9, none⟩ = some (.int .i64 x9) := by simp [go_sem]
  have q10 : (w.alloc (.cells #[.int .i64 x0, .int .i64 x1, .int .i64 x2, .int .i64 x3, .int .i64 x4, .int .i64 x5, .int .i64 x6, .int .i64 x7, .bool b, .int .i64 x9, .int .i64 x10, .int .i64 x11] 23)).cell? ⟨w.heap.size, 10, none⟩ = some (.int .i64 x10) := by simp [go_sem]
  have q11 : (w.alloc (.cells #[.int .i64 x0, .int .i64 x1, .int .i64 x2, .int .i64 x3, .int .i64 x4, .int .i64 x5, .int .i64 x6, .int .i64 x7, .bool b, .int .i64 x9, .int .i64 x10, .int .i64 x11] 23)).cell? ⟨w.heap.size, 11, none⟩ = some (.int .i64 x11) := by simp [go_sem]
  have KM := hide (may_yes x0 x1 x2 x3 x4 x5 x6 x7 b x9 x10 x11 hok)
  go_enter Try.func7, Try.ntmps7
  go_wp2_with fail
  refine (KM.out _).mono ?_
  rintro x w1 ⟨rfl, hb⟩
  replace q0 := cell_keep q0 hb
  replace q1 := cell_keep q1 hb
  replace q2 := cell_keep q2 hb
  replace q3 := cell_keep q3 hb
  replace q4 := cell_keep q4 hb
  replace q5 := cell_keep q5 hb
  replace q6 := cell_keep q6 hb
  replace q7 := cell_keep q7 hb
  replace q8 := cell_keep q8 hb
  replace q9 := cell_keep q9 hb
  replace q10 := cell_keep q10 hb
  replace q11 := cell_keep q11 hb
  replace hB := below_next hB hB.size hb
  clear hb
  go_wp2_with fail
  refine (shown6_any _).mono ?_
  rintro x w2 ⟨rfl, hb⟩
  replace q0 := cell_keep q0 hb
  replace q1 := cell_keep q1 hb
  replace q2 := cell_keep q2 hb
  replace q3 := cell_keep q3 hb
  replace q4 := cell_keep q4 hb
  replace q5 := cell_keep q5 hb
  replace q6 := cell_keep q6 hb
  replace q7 := cell_keep q7 hb
  replace q8 := cell_keep q8 hb
  replace q9 := cell_keep q9 hb
  replace q10 := cell_keep q10 hb
  replace q11 := cell_keep q11 hb
  replace hB := below_next hB hB.size hb
  clear hb
  go_wp2_with fail
  clear KM
  have Q0 := hide (fun i (hi : I64 i) d os => Calls.regrown_of (w := w2) (cell_any x0 x1 x2 x3 x4 x5 x6 x7 b x9 x10 x11 hok i hi (grow (redrawn w2 d) os)))
  have Q1 := hide (fun i j (hi : I64 i) (hj : I64 j) d os => Calls.regrown_of (w := w2) (node_any x0 x1 x2 x3 x4 x5 x6 x7 b x9 x10 x11 hok i hi j hj (grow (redrawn w2 d) os)))
  have Q2 := hide (fun d os => Calls.regrown_of (w := w2) (nodes_any x0 x1 x2 x3 x4 x5 x6 x7 b x9 x10 x11 hok.h3 (grow (redrawn w2 d) os)))
  have Q3 := hide (fun i j k (hi : I64 i) (hj : I64 j) (hk : I64 k) d os => Calls.regrown_of (w := w2) (slot_any x0 x1 x2 x3 x4 x5 x6 x7 b x9 x10 x11 hok i hi j hj k hk (grow (redrawn w2 d) os)))
  have Q4 := hide (fun i (hi : I64 i) d os => Calls.regrown_of (w := w2) (line_any x0 x1 x2 x3 x4 x5 x6 x7 b x9 x10 x11 hok i hi (grow (redrawn w2 d) os)))
  have Q5 := hide (fun i (hi : I64 i) d os => Calls.regrown_of (w := w2) (result_any x0 x1 x2 x3 x4 x5 x6 x7 b x9 x10 x11 hok i hi (grow (redrawn w2 d) os)))
  have o0 := hok.h0
  have o1 := hok.h1
  have o4 := hok.h4
  have o5 := hok.h5
  have on := nd_le hok.h3
  obtain ⟨bk, hbk⟩ : ∃ n, bkV x3 x4 x5 = n := ⟨_, rfl⟩
  obtain ⟨nd, hnd⟩ : ∃ n, ndV x3 = n := ⟨_, rfl⟩
  simp only [hbk, hnd] at Q0 Q1 Q2 Q3 Q4 Q5 on
  clear hbk hnd
  have v0 : cellV x1 bk (-1 - (a : Int)) = -1 := by rw [cellV, if_neg (by omega)]
  have v1 : cellV x1 bk (x1 + (a : Int)) = -1 := by rw [cellV, if_neg (by omega)]
  have v2 : nodeV x1 bk nd 0 (-(a : Int)) = -1 := by rw [nodeV, if_neg (by omega)]
  have v3 : nodeV x1 bk nd 0 (nd + 1 + (a : Int)) = -1 := by rw [nodeV, if_neg (by omega)]
  have v4 : slotV x1 bk nd x4 x5 0 (-(a : Int)) 0 = -1 := by rw [slotV, if_neg (by omega)]
  have v5 : slotV x1 bk nd x4 x5 0 (x4 + 1 + (a : Int)) 0 = -1 := by rw [slotV, if_neg (by omega)]
  have v6 : slotV x1 bk nd x4 x5 0 1 (-1 - (a : Int)) = -1 := by rw [slotV, if_neg (by omega)]
  have v7 : slotV x1 bk nd x4 x5 0 1 (x5 + (a : Int)) = -1 := by rw [slotV, if_neg (by omega)]
  have v8 : lineV x1 bk x0 (-1 - (a : Int)) = -1 := by rw [lineV, if_neg (by omega)]
  have v9 : lineV x1 bk x0 (x0 + (a : Int)) = -1 := by rw [lineV, if_neg (by omega)]
  have v10 : resV x1 bk x0 (x0 + (a : Int)) = -1 := by rw [resV, if_neg (by omega)]
  have v11 : resV x1 bk x0 (-1 - (a : Int)) = -1 := by rw [resV, if_neg (by omega)]
  have i0 : I64 (-1 - (a : Int)) := (by unfold I64; omega)
  have i1 : I64 (x1 + (a : Int)) := (by unfold I64; omega)
  have i2 : I64 (-(a : Int)) := (by unfold I64; omega)
  have i3 : I64 (nd + 1) := (by unfold I64; omega)
  have i4 : I64 (nd + 1 + (a : Int)) := (by unfold I64; omega)
  have i5 : I64 (x4 + 1) := (by unfold I64; omega)
  have i6 : I64 (x4 + 1 + (a : Int)) := (by unfold I64; omega)
  have i7 : I64 (x5 + (a : Int)) := (by unfold I64; omega)
  have i8 : I64 (x0 + (a : Int)) := (by unfold I64; omega)
  have i9 : I64 (0) := (by unfold I64; omega)
  have i10 : I64 (1) := (by unfold I64; omega)
  have e0 := w64 (x := -1 - (a : Int)) (by omega)
  have e1 := w64 (x := x1 + (a : Int)) (by omega)
  have e2 := w64 (x := -(a : Int)) (by omega)
  have e3 := w64 (x := nd + 1) (by omega)
  have e4 := w64 (x := nd + 1 + (a : Int)) (by omega)
  have e5 := w64 (x := x4 + 1) (by omega)
  have e6 := w64 (x := x4 + 1 + (a : Int)) (by omega)
  have e7 := w64 (x := x5 + (a : Int)) (by omega)
  have e8 := w64 (x := x0 + (a : Int)) (by omega)
  clear o0 o1 o4 o5 on hok ha
  have q0 := cell_regrown q0
  have q1 := cell_regrown q1
  have q2 := cell_regrown q2
  have q3 := cell_regrown q3
  have q4 := cell_regrown q4
  have q5 := cell_regrown q5
  have q6 := cell_regrown q6
  have q7 := cell_regrown q7
  have q8 := cell_regrown q8
  have q9 := cell_regrown q9
  have q10 := cell_regrown q10
  have q11 := cell_regrown q11
  simp only [List.append_eq, List.cons_append, List.nil_append]
  refine wp_region_quiet_below (by as_aux_lemma => kernel_rfl) (lexB_parts 97 (by as_aux_lemma => kernel_rfl) (by as_aux_lemma => kernel_rfl) (seg_eight (m := 13) (by as_aux_lemma => kernel_rfl) (by as_aux_lemma => kernel_rfl) (by as_aux_lemma => kernel_rfl) (by as_aux_lemma => kernel_rfl) (by as_aux_lemma => kernel_rfl) (by as_aux_lemma => kernel_rfl) (by as_aux_lemma => kernel_rfl) (by as_aux_lemma => kernel_rfl)) (by as_aux_lemma => kernel_rfl)) ?_
  repeat (quiet_step (first | (go_at_call 14; exact Q0.out _ (by assumption) _ _) | (go_at_call 16; exact Q1.out _ _ (by assumption) (by assumption) _ _) | (go_at_call 10; exact Q2.out _ _) | (go_at_call 18; exact Q3.out _ _ _ (by assumption) (by assumption) (by assumption) _ _) | (go_at_call 20; exact Q4.out _ (by assumption) _ _) | (go_at_call 22; exact Q5.out _ (by assumption) _ _)))
  refine wpQuiet_nil ?_
  intro _ hw'
  obtain ⟨⟨dq, osq⟩, hw''⟩ := hw'
  subst hw''
  go_wp2
  go_ret
  exact ⟨rfl, hB.trans ((below_regrown w2 dq osq).mono hB.size)⟩
set_option maxRecDepth 100000 in
set_option maxHeartbeats 4000000 in
theorem walkNoneNo (x0 x1 x2 x3 x4 x5 x6 x7 : Int) (b : Bool) (x9 x10 x11 : Int) (a : Nat) (ha : a < 256) (hok : ¬ CfOk x0 x1 x2 x3 x4 x5 x6 x7 b x9 x10 x11) (w : World) : Calls Try.prog 7 #[.agg #[.int .i64 x0, .int .i64 x1, .int .i64 x2, .int .i64 x3, .int .i64 x4, .int .i64 x5, .int .i64 x6, .int .i64 x7, .bool b, .int .i64 x9, .int .i64 x10, .int .i64 x11], .int .u8 (a : Int)] w (BoolPost true w) := by
  have hB : Below w.heap.size w (w.alloc (.cells #[.int .i64 x0, .int .i64 x1, .int .i64 x2, .int .i64 x3, .int .i64 x4, .int .i64 x5, .int .i64 x6, .int .i64 x7, .bool b, .int .i64 x9, .int .i64 x10, .int .i64 x11] 23)) := (Below.refl _ w).alloc (Nat.le_refl _) _
  have q0 : (w.alloc (.cells #[.int .i64 x0, .int .i64 x1, .int .i64 x2, .int .i64 x3, .int .i64 x4, .int .i64 x5, .int .i64 x6, .int .i64 x7, .bool b, .int .i64 x9, .int .i64 x10, .int .i64 x11] 23)).cell? ⟨w.heap.size, 0, none⟩ = some (.int .i64 x0) := by simp [go_sem]
  have q1 : (w.alloc (.cells #[.int .i64 x0, .int .i64 x1, .int .i64 x2, .int .i64 x3, .int .i64 x4, .int .i64 x5, .int .i64 x6, .int .i64 x7, .bool b, .int .i64 x9, .int .i64 x10, .int .i64 x11] 23)).cell? ⟨w.heap.size, 1, none⟩ = some (.int .i64 x1) := by simp [go_sem]
  have q2 : (w.alloc (.cells #[.int .i64 x0, .int .i64 x1, .int .i64 x2, .int .i64 x3, .int .i64 x4, .int .i64 x5, .int .i64 x6, .int .i64 x7, .bool b, .int .i64 x9, .int .i64 x10, .int .i64 x11] 23)).cell? ⟨w.heap.size, 2, none⟩ = some (.int .i64 x2) := by simp [go_sem]
  have q3 : (w.alloc (.cells #[.int .i64 x0, .int .i64 x1, .int .i64 x2, .int .i64 x3, .int .i64 x4, .int .i64 x5, .int .i64 x6, .int .i64 x7, .bool b, .int .i64 x9, .int .i64 x10, .int .i64 x11] 23)).cell? ⟨w.heap.size, 3, none⟩ = some (.int .i64 x3) := by simp [go_sem]
  have q4 : (w.alloc (.cells #[.int .i64 x0, .int .i64 x1, .int .i64 x2, .int .i64 x3, .int .i64 x4, .int .i64 x5, .int .i64 x6, .int .i64 x7, .bool b, .int .i64 x9, .int .i64 x10, .int .i64 x11] 23)).cell? ⟨w.heap.size, 4, none⟩ = some (.int .i64 x4) := by simp [go_sem]
  have q5 : (w.alloc (.cells #[.int .i64 x0, .int .i64 x1, .int .i64 x2, .int .i64 x3, .int .i64 x4, .int .i64 x5, .int .i64 x6, .int .i64 x7, .bool b, .int .i64 x9, .int .i64 x10, .int .i64 x11] 23)).cell? ⟨w.heap.size, 5, none⟩ = some (.int .i64 x5) := by simp [go_sem]
  have q6 : (w.alloc (.cells #[.int .i64 x0, .int .i64 x1, .int .i64 x2, .int .i64 x3, .int .i64 x4, .int .i64 x5, .int .i64 x6, .int .i64 x7, .bool b, .int .i64 x9, .int .i64 x10, .int .i64 x11] 23)).cell? ⟨w.heap.size, 6, none⟩ = some (.int .i64 x6) := by simp [go_sem]
  have q7 : (w.alloc (.cells #[.int .i64 x0, .int .i64 x1, .int .i64 x2, .int .i64 x3, .int .i64 x4, .int .i64 x5, .int .i64 x6, .int .i64 x7, .bool b, .int .i64 x9, .int .i64 x10, .int .i64 x11] 23)).cell? ⟨w.heap.size, 7, none⟩ = some (.int .i64 x7) := by simp [go_sem]
  have q8 : (w.alloc (.cells #[.int .i64 x0, .int .i64 x1, .int .i64 x2, .int .i64 x3, .int .i64 x4, .int .i64 x5, .int .i64 x6, .int .i64 x7, .bool b, .int .i64 x9, .int .i64 x10, .int .i64 x11] 23)).cell? ⟨w.heap.size, 8, none⟩ = some (.bool b) := by simp [go_sem]
  have q9 : (w.alloc (.cells #[.int .i64 x0, .int .i64 x1, .int .i64 x2, .int .i64 x3, .int .i64 x4, .int .i64 x5, .int .i64 x6, .int .i64 x7, .bool b, .int .i64 x9, .int .i64 x10, .int .i64 x11] 23)).cell? ⟨w.heap.size, 9, none⟩ = some (.int .i64 x9) := by simp [go_sem]
  have q10 : (w.alloc (.cells #[.int .i64 x0, .int .i64 x1, .int .i64 x2, .int .i64 x3, .int .i64 x4, .int .i64 x5, .int .i64 x6, .int .i64 x7, .bool b, .int .i64 x9, .int .i64 x10, .int .i64 x11] 23)).cell? ⟨w.heap.size, 10, none⟩ = some (.int .i64 x10) := by simp [go_sem]
  have q11 : (w.alloc (.cells #[.int .i64 x0, .int .i64 x1, .int .i64 x2, .int .i64 x3, .int .i64 x4, .int .i64 x5, .int .i64 x6, .int .i64 x7, .bool b, .int .i64 x9, .int .i64 x10, .int .i64 x11] 23)).cell? ⟨w.heap.size, 11, none⟩ = some (.int .i64 x11) := by simp [go_sem]
  have KM := hide (may_no x0 x1 x2 x3 x4 x5 x6 x7 b x9 x10 x11 hok)
  clear hok
  go_enter Try.func7, Try.ntmps7
  go_wp2_with fail
  refine (KM.out _).mono ?_
  rintro x w1 ⟨rfl, hb⟩
  replace q0 := cell_keep q0 hb
  replace q1 := cell_keep q1 hb
  replace q2 := cell_keep q2 hb
  replace q3 := cell_keep q3 hb
  replace q4 := cell_keep q4 hb
  replace q5 := cell_keep q5 hb
  replace q6 := cell_keep q6 hb
  replace q7 := cell_keep q7 hb
  replace q8 := cell_keep q8 hb
  replace q9 := cell_keep q9 hb
  replace q10 := cell_keep q10 hb
  replace q11 := cell_keep q11 hb
  replace hB := below_next hB hB.size hb
  clear hb
  go_wp2_with fail
  refine (shown6_any _).mono ?_
  rintro x w2 ⟨rfl, hb⟩
  replace q0 := cell_keep q0 hb
  replace q1 := cell_keep q1 hb
  replace q2 := cell_keep q2 hb
  replace q3 := cell_keep q3 hb
  replace q4 := cell_keep q4 hb
  replace q5 := cell_keep q5 hb
  replace q6 := cell_keep q6 hb
  replace q7 := cell_keep q7 hb
  replace q8 := cell_keep q8 hb
  replace q9 := cell_keep q9 hb
  replace q10 := cell_keep q10 hb
  replace q11 := cell_keep q11 hb
  replace hB := below_next hB hB.size hb
  clear hb
  go_wp2
  go_ret
  exact ⟨rfl, hB⟩
theorem walkNone (x0 x1 x2 x3 x4 x5 x6 x7 : Int) (b : Bool) (x9 x10 x11 : Int) (a : Nat) (ha : a < 256) (w : World) : Calls Try.prog 7 #[.agg #[.int .i64 x0, .int .i64 x1, .int .i64 x2, .int .i64 x3, .int .i64 x4, .int .i64 x5, .int .i64 x6, .int .i64 x7, .bool b, .int .i64 x9, .int .i64 x10, .int .i64 x11], .int .u8 (a : Int)] w (BoolPost true w) := by
  by_cases hok : CfOk x0 x1 x2 x3 x4 x5 x6 x7 b x9 x10 x11
  · exact walkNoneOk x0 x1 x2 x3 x4 x5 x6 x7 b x9 x10 x11 a ha hok w
  · exact walkNoneNo x0 x1 x2 x3 x4 x5 x6 x7 b x9 x10 x11 a ha hok w

end Go.Proofs.Ytlmnanlclialhaa
