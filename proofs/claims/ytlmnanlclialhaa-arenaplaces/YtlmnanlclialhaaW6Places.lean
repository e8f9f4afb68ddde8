/- The walk of ArenaPlaces. -/
import Derived.Test.YtlmnanlclialhaaW6Base
import Derived.Test.YtlmnanlclialhaaArS
import Derived.Lib.QuietBelow
import Derived.Deep.QuietTactic
namespace Go.Proofs.Ytlmnanlclialhaa
open Go.RowKit Go.Sort
set_option linter.unusedVariables false

set_option maxRecDepth 100000 in
set_option maxHeartbeats 4000000 in
theorem walkPlaces (x0 x1 x2 x3 x4 x5 x6 x7 : Int) (b : Bool) (x9 x10 x11 : Int) (m l s u : Int) (hm : I64 m) (hl : I64 l) (hs : I64 s) (hu : I64 u) (w : World) : Calls Try.prog 3 #[.agg #[.int .i64 x0, .int .i64 x1, .int .i64 x2, .int .i64 x3, .int .i64 x4, .int .i64 x5, .int .i64 x6, .int .i64 x7, .bool b, .int .i64 x9, .int .i64 x10, .int .i64 x11], .int .i64 m, .int .i64 l, .int .i64 s, .int .i64 u] w (BoolPost true w) := by
  have hB : Below w.heap.size w (w.alloc (.cells #[.int .i64 x0, .int .i64 x1, .int .i64 x2, .int .i64 x3, .int .i64 x4, .int .i64 x5, .int .i64 x6, .int .i64 x7, .bool b, .int .i64 x9, .int .i64 x10, .int .i64 x11] 23)) := (Below.refl _ w).alloc (Nat.le_refl _) _
  have q0 : (w.alloc (.cells #[.int .i64 x0, .int .i64 x1, .int .i64 x2, .int .i64 x3, .int .i64 x4, .int .i64 x5, .int .i64 x6, .int .i64 x7, .bool b, .int .i64 x9, .int .i64 x10, .int .i64 x11] 23)).cell? ⟨w.heap.size, 0, none⟩ = some (.int .i64 x0) := by simp [go_sem]
  have q1 : (w.alloc (.cells #[.int .i64 x0, .int .i64 x1, .int .i64 x2, .int .i64 x3, .int .i64 x4, .int .i64 x5, .int .i64 x6, .int .i64 x7, .bool b, .int .i64 x9, .int .i64 x10, .int .i64 x11] 23)).cell? ⟨w.heap.size, 1, none⟩ = some (.int .i64 x1) := by simp [go_sem]
  have q2 : (w.alloc (.cells #[.int .i64 x0, .int .i64 x1, .int .i64 x2, .int .i64 x3, .int .i64 x4, .int .i64 x5, .int .i64 x6, .int .i64 x7, .bool b, .int .i64 x9, .int .i64 x10, .int .i64 x11] 23)).cell? ⟨w.heap.size, 2, none⟩ = some (.int .i64 x2) := by simp [go_sem]
  have q3 : (w.alloc (.cells #[.int .i64 x0, .int .i64 x1, .int .i64 x2, .int .i64 x3, .int .i64 x4, .int .i64 x5, .int .i64 x6, .int .i64 x7, .bool b, .int .i64 x9, .int .i64 x10, .int .i64 x11] 23)).cell? ⟨w.heap.size, 3, none⟩ = some (.int .i64 x3) := by simp [go_sem]
  have q4 : (w.alloc (.cells #[.int .i64 x0, .int .i64 x1, .int .i64 x2, .int .i64 x3, .int .i64 x4, .int .i64 x5, .int .i64 x6, .int .i64 x7, .bool b, .int .i64 x9, .int .i64 x10, .int .i64 x11] 23)).cell? ⟨w.heap.size, 4, none⟩ = some (.int .i64 x4) := by simp [go_sem]
  have q5 : (w.alloc (.cells #[.int .i64 x0, .int .i64 x1, .int .i64 x2, .int .i64 x3, .int .i64 x4, .int .i64 x5, .int .i64 x6, .int .i64 x7, .bool b, .int .i64 x9, .int .i64 x10, .int .i64 x11] 23)).cell? ⟨w.heap.size, 5, none⟩ = some (.int .i64 x5) := by simp [go_sem]
  have q6 : (w.alloc (.cells #[.int .i64 x0, .int .i64 x1, .int .i64 x2, .int .i64 x3, .int .i64 x4, .int .i64 x5, .int .i64 x6, .int .i64 x7, .bool b, .int .i64 x9, .int .i64 x10, .int .i64 x11] 23)).cell? ⟨w.heap.size, 6, none⟩ = some (.int .i64 x6) := by simp [go_sem]
  have q7 : (w.alloc (.cells #[.int .i64 x0, .int .i64 x1, .int .i64 x2, .int .i64 x3, .int .i64 x4, .int .i64 x5, .int .i64 x6, .int .i64 x7, .bool b, .int .i64 x9, .int .i64 x10, .int .i64 x11] 23)).cell? ⟨w.heap.size, 7, none⟩ = some (.int .i64 x7) := by simp [go_sem]
  have q8 : (w.alloc (.cells #[.int .i64 x0, .int .i64 x1, .int .i64 x2, .int .i64 x3, .int .i64 x4, .int .i64 x5, .int .i64 x6, .int .i64 x7, .bool b, .int .i64 x9, .int .i64 x10, .int .i64 x11] 23)).cell? ⟨w.heap.size, 8, none⟩ = some (.bool b) := by simp [go_sem]
  have q9 : (w.alloc (.cells #[.int .i64 x0, .int .i64 x1, .int .i64 x2, .int .i64 x3, .int .i64 x4, .int .i64 x5, .int .i64 x6, .int .i64 x7, .bool b, .int .i64 x9, .int .i64 x10, .int .i64 x11] 23)).cell? ⟨w.heap.size, 9, none⟩ = some (.int .i64 x9) := by simp [go_sem]
  have q10 : (w.alloc (.cells #[.int .i64 x0, .int .i64 x1, .int .i64 x2, .int .i64 x3, .int .i64 x4, .int .i64 x5, .int .i64 x6, .int .i64 x7, .bool b, .int .i64 x9, .int .i64 x10, .int .i64 x11] 23)).cell? ⟨w.heap.size, 10, none⟩ = some (.int .i64 x10) := by simp [go_sem]
  have q11 : (w.alloc (.cells #[.int .i64 x0, .int .i64 x1, .int .i64 x2, .int .i64 x3, .int .i64 x4, .int .i64 x5, .int .i64 x6, .int .i64 x7, .bool b, .int .i64 x9, .int .i64 x10, .int .i64 x11] 23)).cell? ⟨w.heap.size, 11, none⟩ = some (.int .i64 x11) := by simp [go_sem]
  by_cases hok : CfOk x0 x1 x2 x3 x4 x5 x6 x7 b x9 x10 x11
  · skip
    have KM := hide (may_yes x0 x1 x2 x3 x4 x5 x6 x7 b x9 x10 x11 hok)
    go_enter Try.func3, Try.ntmps3
    go_wp2_with fail
    refine (KM.out _).mono ?_
    rintro x w1 ⟨rfl, hb⟩
    replace q0 := cell_keep q0 hb
    replace q1 := cell_keep q1 hb
    replace q2 := cell_keep q2 hb
    replace q3 := cell_keep q3 hb
    replace q4 := cell_keep q4 hb
    replace q5 := cell_keep q5 hb
    replace q6 := cell_keep q6 hb
    replace q7 := cell_keep q7 hb
    replace q8 := cell_keep q8 hb
    replace q9 := cell_keep q9 hb
    replace q10 := cell_keep q10 hb
    replace q11 := cell_keep q11 hb
    replace hB := below_next hB hB.size hb
    clear hb
    go_wp2_with fail
    refine (shown6_any _).mono ?_
    rintro x w2 ⟨rfl, hb⟩
    replace q0 := cell_keep q0 hb
    replace q1 := cell_keep q1 hb
    replace q2 := cell_keep q2 hb
    replace q3 := cell_keep q3 hb
    replace q4 := cell_keep q4 hb
    replace q5 := cell_keep q5 hb
    replace q6 := cell_keep q6 hb
    replace q7 := cell_keep q7 hb
    replace q8 := cell_keep q8 hb
    replace q9 := cell_keep q9 hb
    replace q10 := cell_keep q10 hb
    replace q11 := cell_keep q11 hb
    replace hB := below_next hB hB.size hb
    clear hb
    go_wp2_with fail
    clear KM
    have hb : Below w2.heap.size w2 (w2.alloc (.cells #[.int .i64 x0, .int .i64 x1, .int .i64 x2, .int .i64 x3, .int .i64 x4, .int .i64 x5, .int .i64 x6, .int .i64 x7, .bool b, .int .i64 x9, .int .i64 x10, .int .i64 x11] 26)) := (Below.refl _ _).alloc (Nat.le_refl _) _
    replace q0 := cell_keep q0 hb
    replace q1 := cell_keep q1 hb
    replace q2 := cell_keep q2 hb
    replace q3 := cell_keep q3 hb
    replace q4 := cell_keep q4 hb
    replace q5 := cell_keep q5 hb
    replace q6 := cell_keep q6 hb
    replace q7 := cell_keep q7 hb
    replace q8 := cell_keep q8 hb
    replace q9 := cell_keep q9 hb
    replace q10 := cell_keep q10 hb
    replace q11 := cell_keep q11 hb
    replace hB := below_next hB hB.size hb
    clear hb
    have r0 : (w2.alloc (.cells #[.int .i64 x0, .int .i64 x1, .int .i64 x2, .int .i64 x3, .int .i64 x4, .int .i64 x5, .int .i64 x6, .int .i64 x7, .bool b, .int .i64 x9, .int .i64 x10, .int .i64 x11] 26)).cell? ⟨w2.heap.size, 0, none⟩ = some (.int .i64 x0) := by simp [go_sem]
    have r1 : (w2.alloc (.cells #[.int .i64 x0, .int .i64 x1, .int .i64 x2, .int .i64 x3, .int .i64 x4, .int .i64 x5, .int .i64 x6, .int .i64 x7, .bool b, .int .i64 x9, .int .i64 x10, .int .i64 x11] 26)).cell? ⟨w2.heap.size, 1, none⟩ = some (.int .i64 x1) := by simp [go_sem]
    have r2 : (w2.alloc (.cells #[.int .i64 x0, .int .i64 x1, .int .i64 x2, .int .i64 x3, .int .i64 x4, .int .i64 x5, .int .i64 x6, .int .i64 x7, .bool b, .int .i64 x9, .int .i64 x10, .int .i64 x11] 26)).cell? ⟨w2.heap.size, 2, none⟩ = some (.int .i64 x2) := by simp [go_sem]
    have r3 : (w2.alloc (.cells #[.int .i64 x0, .int .i64 x1, .int .i64 x2, .int .i64 x3, .int .i64 x4, .int .i64 x5, .int .i64 x6, .int .i64 x7, .bool b, .int .i64 x9, .int .i64 x10, .int .i64 x11] 26)).cell? ⟨w2.heap.size, 3, none⟩ = some (.int .i64 x3) := by simp [go_sem]
    have r4 : (w2.alloc (.cells #[.int .i64 x0, .int .i64 x1, .int .i64 x2, .int .i64 x3, .int .i64 x4, .int .i64 x5, .int .i64 x6, .int .i64 x7, .bool b, .int .i64 x9, .int .i64 x10, .int .i64 x11] 26)).cell? ⟨w2.heap.size, 4, none⟩ = some (.int .i64 x4) := by simp [go_sem]
    have r5 : (w2.alloc (.cells #[.int .i64 x0, .int .i64 x1, .int .i64 x2, .int .i64 x3, .int .i64 x4, .int .i64 x5, .int .i64 x6, .int .i64 x7, .bool b, .int .i64 x9, .int .i64 x10, .int .i64 x11] 26)).cell? ⟨w2.heap.size, 5, none⟩ = some (.int .i64 x5) := by simp [go_sem]
    have r6 : (w2.alloc (.cells #[.int .i64 x0, .int .i64 x1, .int .i64 x2, .int .i64 x3, .int .i64 x4, .int .i64 x5, .int .i64 x6, .int .i64 x7, .bool b, .int .i64 x9, .int .i64 x10, .int .i64 x11] 26)).cell? ⟨w2.heap.size, 6, none⟩ = some (.int .i64 x6) := by simp [go_sem]
    have r7 : (w2.alloc (.cells #[.int .i64 x0, .int .i64 x1, .int .i64 x2, .int .i64 x3, .int .i64 x4, .int .i64 x5, .int .i64 x6, .int .i64 x7, .bool b, .int .i64 x9, .int .i64 x10, .int .i64 x11] 26)).cell? ⟨w2.heap.size, 7, none⟩ = some (.int .i64 x7) := by simp [go_sem]
    have r8 : (w2.alloc (.cells #[.int .i64 x0, .int .i64 x1, .int .i64 x2, .int .i64 x3, .int .i64 x4, .int .i64 x5, .int .i64 x6, .int .i64 x7, .bool b, .int .i64 x9, .int .i64 x10, .int .i64 x11] 26)).cell? ⟨w2.heap.size, 8, none⟩ = some (.bool b) := by simp [go_sem]
    have r9 : (w2.alloc (.cells #[.int .i64 x0, .int .i64 x1, .int .i64 x2, .int .i64 x3, .int .i64 x4, .int .i64 x5, .int .i64 x6, .int .i64 x7, .bool b, .int .i64 x9, .int .i64 x10, .int .i64 x11] 26)).cell? ⟨w2.heap.size, 9, none⟩ = some (.int .i64 x9) := by simp [go_sem]
    have r10 : (w2.alloc (.cells #[.int .i64 x0, .int .i64 x1, .int .i64 x2, .int .i64 x3, .int .i64 x4, .int .i64 x5, .int .i64 x6, .int .i64 x7, .bool b, .int .i64 x9, .int .i64 x10, .int .i64 x11] 26)).cell? ⟨w2.heap.size, 10, none⟩ = some (.int .i64 x10) := by simp [go_sem]
    have r11 : (w2.alloc (.cells #[.int .i64 x0, .int .i64 x1, .int .i64 x2, .int .i64 x3, .int .i64 x4, .int .i64 x5, .int .i64 x6, .int .i64 x7, .bool b, .int .i64 x9, .int .i64 x10, .int .i64 x11] 26)).cell? ⟨w2.heap.size, 11, none⟩ = some (.int .i64 x11) := by simp [go_sem]
    generalize (w2.alloc (.cells #[.int .i64 x0, .int .i64 x1, .int .i64 x2, .int .i64 x3, .int .i64 x4, .int .i64 x5, .int .i64 x6, .int .i64 x7, .bool b, .int .i64 x9, .int .i64 x10, .int .i64 x11] 26)) = w3 at *
    have Q0 := hide (fun d os => Calls.regrown_of (w := w3) (nodes_any x0 x1 x2 x3 x4 x5 x6 x7 b x9 x10 x11 hok.h3 (grow (redrawn w3 d) os)))
    have Q1 := hide (fun d os => Calls.regrown_of (w := w3) (rnodes_any x0 x1 x2 x3 x4 x5 x6 x7 b x9 x10 x11 hok.h3 (grow (redrawn w3 d) os)))
    have Q2 := hide (fun d os => Calls.regrown_of (w := w3) (size_any x0 x1 x2 x3 x4 x5 x6 x7 b x9 x10 x11 hok (grow (redrawn w3 d) os)))
    have Q3 := hide (fun d os => Calls.regrown_of (w := w3) (rsize_any x0 x1 x2 x3 x4 x5 x6 x7 b x9 x10 x11 hok (grow (redrawn w3 d) os)))
    have Q4 := hide (fun i (hi : I64 i) d os => Calls.regrown_of (w := w3) (cell_any x0 x1 x2 x3 x4 x5 x6 x7 b x9 x10 x11 hok i hi (grow (redrawn w3 d) os)))
    have Q5 := hide (fun i j (hi : I64 i) (hj : I64 j) d os => Calls.regrown_of (w := w3) (node_any x0 x1 x2 x3 x4 x5 x6 x7 b x9 x10 x11 hok i hi j hj (grow (redrawn w3 d) os)))
    have Q6 := hide (fun i j k (hi : I64 i) (hj : I64 j) (hk : I64 k) d os => Calls.regrown_of (w := w3) (slot_any x0 x1 x2 x3 x4 x5 x6 x7 b x9 x10 x11 hok i hi j hj k hk (grow (redrawn w3 d) os)))
    have Q7 := hide (fun i (hi : I64 i) d os => Calls.regrown_of (w := w3) (line_any x0 x1 x2 x3 x4 x5 x6 x7 b x9 x10 x11 hok i hi (grow (redrawn w3 d) os)))
    have Q8 := hide (fun i (hi : I64 i) d os => Calls.regrown_of (w := w3) (result_any x0 x1 x2 x3 x4 x5 x6 x7 b x9 x10 x11 hok i hi (grow (redrawn w3 d) os)))
    have Q9 := hide (fun i (hi : I64 i) d os => Calls.regrown_of (w := w3) (rcell_any x0 x1 x2 x3 x4 x5 x6 x7 b x9 x10 x11 hok i hi (grow (redrawn w3 d) os)))
    have Q10 := hide (fun i j (hi : I64 i) (hj : I64 j) d os => Calls.regrown_of (w := w3) (rnode_any x0 x1 x2 x3 x4 x5 x6 x7 b x9 x10 x11 hok i hi j hj (grow (redrawn w3 d) os)))
    have Q11 := hide (fun i j k (hi : I64 i) (hj : I64 j) (hk : I64 k) d os => Calls.regrown_of (w := w3) (rslot_any x0 x1 x2 x3 x4 x5 x6 x7 b x9 x10 x11 hok i hi j hj k hk (grow (redrawn w3 d) os)))
    have Q12 := hide (fun i (hi : I64 i) d os => Calls.regrown_of (w := w3) (rline_any x0 x1 x2 x3 x4 x5 x6 x7 b x9 x10 x11 hok i hi (grow (redrawn w3 d) os)))
    have Q13 := hide (fun i (hi : I64 i) d os => Calls.regrown_of (w := w3) (rresult_any x0 x1 x2 x3 x4 x5 x6 x7 b x9 x10 x11 hok i hi (grow (redrawn w3 d) os)))
    obtain ⟨bk, hbk⟩ : ∃ n, bkV x3 x4 x5 = n := ⟨_, rfl⟩
    obtain ⟨nd, hnd⟩ : ∃ n, ndV x3 = n := ⟨_, rfl⟩
    simp only [hbk, hnd] at Q0 Q1 Q2 Q3 Q4 Q5 Q6 Q7 Q8 Q9 Q10 Q11 Q12 Q13
    clear hbk hnd hok
    have q0 := cell_regrown q0
    have q1 := cell_regrown q1
    have q2 := cell_regrown q2
    have q3 := cell_regrown q3
    have q4 := cell_regrown q4
    have q5 := cell_regrown q5
    have q6 := cell_regrown q6
    have q7 := cell_regrown q7
    have q8 := cell_regrown q8
    have q9 := cell_regrown q9
    have q10 := cell_regrown q10
    have q11 := cell_regrown q11
    have r0 := cell_regrown r0
    have r1 := cell_regrown r1
    have r2 := cell_regrown r2
    have r3 := cell_regrown r3
    have r4 := cell_regrown r4
    have r5 := cell_regrown r5
    have r6 := cell_regrown r6
    have r7 := cell_regrown r7
    have r8 := cell_regrown r8
    have r9 := cell_regrown r9
    have r10 := cell_regrown r10
    have r11 := cell_regrown r11
    simp only [List.append_eq, List.cons_append, List.nil_append]
    refine wp_region_quiet_below (by as_aux_lemma => kernel_rfl) (by as_aux_lemma => kernel_rfl) ?_
    repeat (quiet_step (first | (go_at_call 10; exact Q0.out _ _) | (go_at_call 11; exact Q1.out _ _) | (go_at_call 12; exact Q2.out _ _) | (go_at_call 13; exact Q3.out _ _) | (go_at_call 14; exact Q4.out _ (by assumption) _ _) | (go_at_call 16; exact Q5.out _ _ (by assumption) (by assumption) _ _) | (go_at_call 18; exact Q6.out _ _ _ (by assumption) (by assumption) (by assumption) _ _) | (go_at_call 20; exact Q7.out _ (by assumption) _ _) | (go_at_call 22; exact Q8.out _ (by assumption) _ _) | (go_at_call 15; exact Q9.out _ (by assumption) _ _) | (go_at_call 17; exact Q10.out _ _ (by assumption) (by assumption) _ _) | (go_at_call 19; exact Q11.out _ _ _ (by assumption) (by assumption) (by assumption) _ _) | (go_at_call 21; exact Q12.out _ (by assumption) _ _) | (go_at_call 23; exact Q13.out _ (by assumption) _ _)))
    refine wpQuiet_nil ?_
    intro _ hw'
    obtain ⟨⟨dq, osq⟩, hw''⟩ := hw'
    subst hw''
    go_wp2
    go_ret
    exact ⟨rfl, hB.trans ((below_regrown w3 dq osq).mono hB.size)⟩
  · skip
    have KM := hide (may_no x0 x1 x2 x3 x4 x5 x6 x7 b x9 x10 x11 hok)
    clear hok
    go_enter Try.func3, Try.ntmps3
    go_wp2_with fail
    refine (KM.out _).mono ?_
    rintro x w1 ⟨rfl, hb⟩
    replace q0 := cell_keep q0 hb
    replace q1 := cell_keep q1 hb
    replace q2 := cell_keep q2 hb
    replace q3 := cell_keep q3 hb
    replace q4 := cell_keep q4 hb
    replace q5 := cell_keep q5 hb
    replace q6 := cell_keep q6 hb
    replace q7 := cell_keep q7 hb
    replace q8 := cell_keep q8 hb
    replace q9 := cell_keep q9 hb
    replace q10 := cell_keep q10 hb
    replace q11 := cell_keep q11 hb
    replace hB := below_next hB hB.size hb
    clear hb
    go_wp2_with fail
    refine (shown6_any _).mono ?_
    rintro x w2 ⟨rfl, hb⟩
    replace q0 := cell_keep q0 hb
    replace q1 := cell_keep q1 hb
    replace q2 := cell_keep q2 hb
    replace q3 := cell_keep q3 hb
    replace q4 := cell_keep q4 hb
    replace q5 := cell_keep q5 hb
    replace q6 := cell_keep q6 hb
    replace q7 := cell_keep q7 hb
    replace q8 := cell_keep q8 hb
    replace q9 := cell_keep q9 hb
    replace q10 := cell_keep q10 hb
    replace q11 := cell_keep q11 hb
    replace hB := below_next hB hB.size hb
    clear hb
    go_wp2
    go_ret
    exact ⟨rfl, hB⟩

end Go.Proofs.Ytlmnanlclialhaa
