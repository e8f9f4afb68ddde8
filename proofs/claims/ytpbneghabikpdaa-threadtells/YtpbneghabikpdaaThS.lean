/- The contract of thread.Same. -/
import Derived.Test.YtpbneghabikpdaaThA
import Derived.Test.YtpbneghabikpdaaLd
import Derived.Lib.QuietBelow
import Derived.Deep.QuietTactic
import Derived.BigQuiet
namespace Go.Proofs.Ytpbneghabikpdaa
open Go.RowKit Go.Sort
set_option linter.unusedVariables false

attribute [local go_sem ↓] ldTh_is
attribute [local go_sem] run_ldTh

theorem info_int : ∃ i, Try.prog.info? 3 = some i := by
  have h : (Try.prog.info? 3).isSome = true := by kernel_rfl
  exact Option.isSome_iff_exists.1 h
theorem cells_int : Try.prog.cellsOf 3 = 1 := by kernel_rfl
theorem eql_nums (a b : Dt) (u : World) : (binOp .eql 89 (.agg #[.int .i64 a.ph, .int .i64 a.it, .int .i64 a.st, .int .i64 a.nd, .int .i64 a.pl, .int .i64 a.ly, .int .i64 a.lf, .int .i64 a.wd, .int .i64 a.who, .int .i64 a.x, .int .i64 a.y, .int .i64 a.un]) (.agg #[.int .i64 b.ph, .int .i64 b.it, .int .i64 b.st, .int .i64 b.nd, .int .i64 b.pl, .int .i64 b.ly, .int .i64 b.lf, .int .i64 b.wd, .int .i64 b.who, .int .i64 b.x, .int .i64 b.y, .int .i64 b.un])).run Try.prog u = .ok (.bool (decide (a.nums = b.nums))) u := by
  obtain ⟨i, hi⟩ := info_int
  exact eql_ints Try.underlying89 Try.underlying3 hi cells_int a.nums b.nums rfl rfl u
theorem eql_op (t v t' v' : Int) (u : World) : (binOp .eql 25 (.agg #[.int .i64 t, .int .i64 v]) (.agg #[.int .i64 t', .int .i64 v'])).run Try.prog u = .ok (.bool (decide (t = t' ∧ v = v'))) u := by
  by_cases h : t = t'
  · by_cases h' : v = v'
    · simp [go_sem, h, h']
    · simp [go_sem, h, h']
  · simp [go_sem, h]

set_option maxRecDepth 100000 in
set_option maxHeartbeats 4000000 in
theorem same_core0 (c0 c1 c2 c3 c4 c5 c6 c7 c8 c9 c10 c11 c12 c13 c14 c15 c16 e0 e1 e2 e3 e4 e5 e6 e7 e8 e9 e10 e11 e12 e13 e14 e15 e16 : Value) (N1 N2 : Array Value) (w wz : World) (hz : ((w.alloc (.cells #[c0, c1, c2, c3, c4, c5, c6, c7, c8, c9, c10, c11, c12, c13, c14, c15, c16] 30)).alloc (.cells #[e0, e1, e2, e3, e4, e5, e6, e7, e8, e9, e10, e11, e12, e13, e14, e15, e16] 30)) = wz) (E1 : ∀ u, (binOp .eql 89 (.agg N1) (.agg N2)).run Try.prog u = .ok (.bool false) u) (Q1 : Hid (∀ d os, Calls Try.prog 32 #[.agg #[c0, c1, c2, c3, c4, c5, c6, c7, c8, c9, c10, c11, c12, c13, c14, c15, c16]] (grow (redrawn wz d) os) fun e w'' => e = .returned (.agg N1) ∧ ∃ p : Regrown, w'' = grow (redrawn wz p.d) p.os)) (Q2 : Hid (∀ d os, Calls Try.prog 32 #[.agg #[e0, e1, e2, e3, e4, e5, e6, e7, e8, e9, e10, e11, e12, e13, e14, e15, e16]] (grow (redrawn wz d) os) fun e w'' => e = .returned (.agg N2) ∧ ∃ p : Regrown, w'' = grow (redrawn wz p.d) p.os)) :
    Calls Try.prog 23 #[.agg #[c0, c1, c2, c3, c4, c5, c6, c7, c8, c9, c10, c11, c12, c13, c14, c15, c16], .agg #[e0, e1, e2, e3, e4, e5, e6, e7, e8, e9, e10, e11, e12, e13, e14, e15, e16]] w (BoolPost false w) := by
  have hB : Below w.heap.size w wz := hz ▸ ((Below.refl _ w).alloc (Nat.le_refl _) _).alloc (by simp) _
  have R1 : wz.rangeAt w.heap.size 0 [c0, c1, c2, c3, c4, c5, c6, c7, c8, c9, c10, c11, c12, c13, c14, c15, c16] := hz ▸ range_keep (range_new w [c0, c1, c2, c3, c4, c5, c6, c7, c8, c9, c10, c11, c12, c13, c14, c15, c16] 30) ((Below.refl _ _).alloc (Nat.le_refl _) _)
  have hs1 : (w.alloc (.cells #[c0, c1, c2, c3, c4, c5, c6, c7, c8, c9, c10, c11, c12, c13, c14, c15, c16] 30)).heap.size = w.heap.size + 1 := by simp
  have R2 : wz.rangeAt (w.heap.size + 1) 0 [e0, e1, e2, e3, e4, e5, e6, e7, e8, e9, e10, e11, e12, e13, e14, e15, e16] := hz ▸ hs1 ▸ range_new (w.alloc (.cells #[c0, c1, c2, c3, c4, c5, c6, c7, c8, c9, c10, c11, c12, c13, c14, c15, c16] 30)) [e0, e1, e2, e3, e4, e5, e6, e7, e8, e9, e10, e11, e12, e13, e14, e15, e16] 30
  obtain ⟨q0, q1, q2, q3, q4, q5, q6, q7, q8, q9, q10, q11, q12, q13, q14, q15, q16⟩ := box17 R1
  obtain ⟨r0, r1, r2, r3, r4, r5, r6, r7, r8, r9, r10, r11, r12, r13, r14, r15, r16⟩ := box17 R2
  clear R1 R2 hs1
  go_enter Try.func23, Try.ntmps23
  go_wp2_with fail
  (try rw [hz])
  clear hz
  have q0 := cell_regrown q0
  have q1 := cell_regrown q1
  have q2 := cell_regrown q2
  have q3 := cell_regrown q3
  have q4 := cell_regrown q4
  have q5 := cell_regrown q5
  have q6 := cell_regrown q6
  have q7 := cell_regrown q7
  have q8 := cell_regrown q8
  have q9 := cell_regrown q9
  have q10 := cell_regrown q10
  have q11 := cell_regrown q11
  have q12 := cell_regrown q12
  have q13 := cell_regrown q13
  have q14 := cell_regrown q14
  have q15 := cell_regrown q15
  have q16 := cell_regrown q16
  have r0 := cell_regrown r0
  have r1 := cell_regrown r1
  have r2 := cell_regrown r2
  have r3 := cell_regrown r3
  have r4 := cell_regrown r4
  have r5 := cell_regrown r5
  have r6 := cell_regrown r6
  have r7 := cell_regrown r7
  have r8 := cell_regrown r8
  have r9 := cell_regrown r9
  have r10 := cell_regrown r10
  have r11 := cell_regrown r11
  have r12 := cell_regrown r12
  have r13 := cell_regrown r13
  have r14 := cell_regrown r14
  have r15 := cell_regrown r15
  have r16 := cell_regrown r16
  refine wp_region_quiet_below (by kernel_rfl) (by kernel_rfl) ?_
  repeat (go_big_quiet_step (first | (go_at_call 32; with_reducible exact Q1.out _ _) | (go_at_call 32; with_reducible exact Q2.out _ _)))
  refine wpQuiet_nil ?_
  intro _ hw'
  obtain ⟨⟨dq, osq⟩, hw''⟩ := hw'
  subst hw''
  go_wp2
  go_ret
  exact ⟨rfl, hB.trans ((below_regrown _ dq osq).mono hB.size)⟩

set_option maxRecDepth 100000 in
set_option maxHeartbeats 4000000 in
theorem same_core1 (c0 c1 c2 c3 c4 c5 c6 c7 c8 c9 c10 c11 c12 c13 c14 c15 c16 e0 e1 e2 e3 e4 e5 e6 e7 e8 e9 e10 e11 e12 e13 e14 e15 e16 : Value) (N1 N2 : Array Value) (w wz : World) (hz : ((w.alloc (.cells #[c0, c1, c2, c3, c4, c5, c6, c7, c8, c9, c10, c11, c12, c13, c14, c15, c16] 30)).alloc (.cells #[e0, e1, e2, e3, e4, e5, e6, e7, e8, e9, e10, e11, e12, e13, e14, e15, e16] 30)) = wz) (E1 : ∀ u, (binOp .eql 89 (.agg N1) (.agg N2)).run Try.prog u = .ok (.bool true) u) (E2 : ∀ u, (binOp .eql 25 (.agg #[c2, c3]) (.agg #[e2, e3])).run Try.prog u = .ok (.bool false) u) (Q1 : Hid (∀ d os, Calls Try.prog 32 #[.agg #[c0, c1, c2, c3, c4, c5, c6, c7, c8, c9, c10, c11, c12, c13, c14, c15, c16]] (grow (redrawn wz d) os) fun e w'' => e = .returned (.agg N1) ∧ ∃ p : Regrown, w'' = grow (redrawn wz p.d) p.os)) (Q2 : Hid (∀ d os, Calls Try.prog 32 #[.agg #[e0, e1, e2, e3, e4, e5, e6, e7, e8, e9, e10, e11, e12, e13, e14, e15, e16]] (grow (redrawn wz d) os) fun e w'' => e = .returned (.agg N2) ∧ ∃ p : Regrown, w'' = grow (redrawn wz p.d) p.os)) :
    Calls Try.prog 23 #[.agg #[c0, c1, c2, c3, c4, c5, c6, c7, c8, c9, c10, c11, c12, c13, c14, c15, c16], .agg #[e0, e1, e2, e3, e4, e5, e6, e7, e8, e9, e10, e11, e12, e13, e14, e15, e16]] w (BoolPost false w) := by
  have hB : Below w.heap.size w wz := hz ▸ ((Below.refl _ w).alloc (Nat.le_refl _) _).alloc (by simp) _
  have R1 : wz.rangeAt w.heap.size 0 [c0, c1, c2, c3, c4, c5, c6, c7, c8, c9, c10, c11, c12, c13, c14, c15, c16] := hz ▸ range_keep (range_new w [c0, c1, c2, c3, c4, c5, c6, c7, c8, c9, c10, c11, c12, c13, c14, c15, c16] 30) ((Below.refl _ _).alloc (Nat.le_refl _) _)
  have hs1 : (w.alloc (.cells #[c0, c1, c2, c3, c4, c5, c6, c7, c8, c9, c10, c11, c12, c13, c14, c15, c16] 30)).heap.size = w.heap.size + 1 := by simp
  have R2 : wz.rangeAt (w.heap.size + 1) 0 [e0, e1, e2, e3, e4, e5, e6, e7, e8, e9, e10, e11, e12, e13, e14, e15, e16] := hz ▸ hs1 ▸ range_new (w.alloc (.cells #[c0, c1, c2, c3, c4, c5, c6, c7, c8, c9, c10, c11, c12, c13, c14, c15, c16] 30)) [e0, e1, e2, e3, e4, e5, e6, e7, e8, e9, e10, e11, e12, e13, e14, e15, e16] 30
  obtain ⟨q0, q1, q2, q3, q4, q5, q6, q7, q8, q9, q10, q11, q12, q13, q14, q15, q16⟩ := box17 R1
  obtain ⟨r0, r1, r2, r3, r4, r5, r6, r7, r8, r9, r10, r11, r12, r13, r14, r15, r16⟩ := box17 R2
  clear R1 R2 hs1
  go_enter Try.func23, Try.ntmps23
  go_wp2_with fail
  (try rw [hz])
  clear hz
  have q0 := cell_regrown q0
  have q1 := cell_regrown q1
  have q2 := cell_regrown q2
  have q3 := cell_regrown q3
  have q4 := cell_regrown q4
  have q5 := cell_regrown q5
  have q6 := cell_regrown q6
  have q7 := cell_regrown q7
  have q8 := cell_regrown q8
  have q9 := cell_regrown q9
  have q10 := cell_regrown q10
  have q11 := cell_regrown q11
  have q12 := cell_regrown q12
  have q13 := cell_regrown q13
  have q14 := cell_regrown q14
  have q15 := cell_regrown q15
  have q16 := cell_regrown q16
  have r0 := cell_regrown r0
  have r1 := cell_regrown r1
  have r2 := cell_regrown r2
  have r3 := cell_regrown r3
  have r4 := cell_regrown r4
  have r5 := cell_regrown r5
  have r6 := cell_regrown r6
  have r7 := cell_regrown r7
  have r8 := cell_regrown r8
  have r9 := cell_regrown r9
  have r10 := cell_regrown r10
  have r11 := cell_regrown r11
  have r12 := cell_regrown r12
  have r13 := cell_regrown r13
  have r14 := cell_regrown r14
  have r15 := cell_regrown r15
  have r16 := cell_regrown r16
  refine wp_region_quiet_below (by kernel_rfl) (by kernel_rfl) ?_
  repeat (go_big_quiet_step (first | (go_at_call 32; with_reducible exact Q1.out _ _) | (go_at_call 32; with_reducible exact Q2.out _ _)))
  refine wpQuiet_nil ?_
  intro _ hw'
  obtain ⟨⟨dq, osq⟩, hw''⟩ := hw'
  subst hw''
  go_wp2
  go_ret
  exact ⟨rfl, hB.trans ((below_regrown _ dq osq).mono hB.size)⟩

set_option maxRecDepth 100000 in
set_option maxHeartbeats 4000000 in
theorem same_core2 (c0 c1 c2 c3 c4 c5 c6 c7 c8 c9 c10 c11 c12 c13 c14 c15 c16 e0 e1 e2 e3 e4 e5 e6 e7 e8 e9 e10 e11 e12 e13 e14 e15 e16 : Value) (N1 N2 : Array Value) (w wz : World) (hz : ((w.alloc (.cells #[c0, c1, c2, c3, c4, c5, c6, c7, c8, c9, c10, c11, c12, c13, c14, c15, c16] 30)).alloc (.cells #[e0, e1, e2, e3, e4, e5, e6, e7, e8, e9, e10, e11, e12, e13, e14, e15, e16] 30)) = wz) (E1 : ∀ u, (binOp .eql 89 (.agg N1) (.agg N2)).run Try.prog u = .ok (.bool true) u) (E2 : ∀ u, (binOp .eql 25 (.agg #[c2, c3]) (.agg #[e2, e3])).run Try.prog u = .ok (.bool true) u) (Q1 : Hid (∀ d os, Calls Try.prog 32 #[.agg #[c0, c1, c2, c3, c4, c5, c6, c7, c8, c9, c10, c11, c12, c13, c14, c15, c16]] (grow (redrawn wz d) os) fun e w'' => e = .returned (.agg N1) ∧ ∃ p : Regrown, w'' = grow (redrawn wz p.d) p.os)) (Q2 : Hid (∀ d os, Calls Try.prog 32 #[.agg #[e0, e1, e2, e3, e4, e5, e6, e7, e8, e9, e10, e11, e12, e13, e14, e15, e16]] (grow (redrawn wz d) os) fun e w'' => e = .returned (.agg N2) ∧ ∃ p : Regrown, w'' = grow (redrawn wz p.d) p.os)) (Q3 : Hid (∀ d os, Calls Try.prog 33 #[c4, e4] (grow (redrawn wz d) os) fun e w'' => e = .returned (.bool false) ∧ ∃ p : Regrown, w'' = grow (redrawn wz p.d) p.os)) :
    Calls Try.prog 23 #[.agg #[c0, c1, c2, c3, c4, c5, c6, c7, c8, c9, c10, c11, c12, c13, c14, c15, c16], .agg #[e0, e1, e2, e3, e4, e5, e6, e7, e8, e9, e10, e11, e12, e13, e14, e15, e16]] w (BoolPost false w) := by
  have hB : Below w.heap.size w wz := hz ▸ ((Below.refl _ w).alloc (Nat.le_refl _) _).alloc (by simp) _
  have R1 : wz.rangeAt w.heap.size 0 [c0, c1, c2, c3, c4, c5, c6, c7, c8, c9, c10, c11, c12, c13, c14, c15, c16] := hz ▸ range_keep (range_new w [c0, c1, c2, c3, c4, c5, c6, c7, c8, c9, c10, c11, c12, c13, c14, c15, c16] 30) ((Below.refl _ _).alloc (Nat.le_refl _) _)
  have hs1 : (w.alloc (.cells #[c0, c1, c2, c3, c4, c5, c6, c7, c8, c9, c10, c11, c12, c13, c14, c15, c16] 30)).heap.size = w.heap.size + 1 := by simp
  have R2 : wz.rangeAt (w.heap.size + 1) 0 [e0, e1, e2, e3, e4, e5, e6, e7, e8, e9, e10, e11, e12, e13, e14, e15, e16] := hz ▸ hs1 ▸ range_new (w.alloc (.cells #[c0, c1, c2, c3, c4, c5, c6, c7, c8, c9, c10, c11, c12, c13, c14, c15, c16] 30)) [e0, e1, e2, e3, e4, e5, e6, e7, e8, e9, e10, e11, e12, e13, e14, e15, e16] 30
  obtain ⟨q0, q1, q2, q3, q4, q5, q6, q7, q8, q9, q10, q11, q12, q13, q14, q15, q16⟩ := box17 R1
  obtain ⟨r0, r1, r2, r3, r4, r5, r6, r7, r8, r9, r10, r11, r12, r13, r14, r15, r16⟩ := box17 R2
  clear R1 R2 hs1
  go_enter Try.func23, Try.ntmps23
  go_wp2_with fail
  (try rw [hz])
  clear hz
  have q0 := cell_regrown q0
  have q1 := cell_regrown q1
  have q2 := cell_regrown q2
  have q3 := cell_regrown q3
  have q4 := cell_regrown q4
  have q5 := cell_regrown q5
  have q6 := cell_regrown q6
  have q7 := cell_regrown q7
  have q8 := cell_regrown q8
  have q9 := cell_regrown q9
  have q10 := cell_regrown q10
  have q11 := cell_regrown q11
  have q12 := cell_regrown q12
  have q13 := cell_regrown q13
  have q14 := cell_regrown q14
  have q15 := cell_regrown q15
  have q16 := cell_regrown q16
  have r0 := cell_regrown r0
  have r1 := cell_regrown r1
  have r2 := cell_regrown r2
  have r3 := cell_regrown r3
  have r4 := cell_regrown r4
  have r5 := cell_regrown r5
  have r6 := cell_regrown r6
  have r7 := cell_regrown r7
  have r8 := cell_regrown r8
  have r9 := cell_regrown r9
  have r10 := cell_regrown r10
  have r11 := cell_regrown r11
  have r12 := cell_regrown r12
  have r13 := cell_regrown r13
  have r14 := cell_regrown r14
  have r15 := cell_regrown r15
  have r16 := cell_regrown r16
  refine wp_region_quiet_below (by kernel_rfl) (by kernel_rfl) ?_
  repeat (go_big_quiet_step (first | (go_at_call 32; with_reducible exact Q1.out _ _) | (go_at_call 32; with_reducible exact Q2.out _ _) | (go_at_call 33; with_reducible exact Q3.out _ _)))
  refine wpQuiet_nil ?_
  intro _ hw'
  obtain ⟨⟨dq, osq⟩, hw''⟩ := hw'
  subst hw''
  go_wp2
  go_ret
  exact ⟨rfl, hB.trans ((below_regrown _ dq osq).mono hB.size)⟩

set_option maxRecDepth 100000 in
set_option maxHeartbeats 4000000 in
theorem same_core3 (c0 c1 c2 c3 c4 c5 c6 c7 c8 c9 c10 c11 c12 c13 c14 c15 c16 e0 e1 e2 e3 e4 e5 e6 e7 e8 e9 e10 e11 e12 e13 e14 e15 e16 : Value) (N1 N2 : Array Value) (w wz : World) (hz : ((w.alloc (.cells #[c0, c1, c2, c3, c4, c5, c6, c7, c8, c9, c10, c11, c12, c13, c14, c15, c16] 30)).alloc (.cells #[e0, e1, e2, e3, e4, e5, e6, e7, e8, e9, e10, e11, e12, e13, e14, e15, e16] 30)) = wz) (E1 : ∀ u, (binOp .eql 89 (.agg N1) (.agg N2)).run Try.prog u = .ok (.bool true) u) (E2 : ∀ u, (binOp .eql 25 (.agg #[c2, c3]) (.agg #[e2, e3])).run Try.prog u = .ok (.bool true) u) (Q1 : Hid (∀ d os, Calls Try.prog 32 #[.agg #[c0, c1, c2, c3, c4, c5, c6, c7, c8, c9, c10, c11, c12, c13, c14, c15, c16]] (grow (redrawn wz d) os) fun e w'' => e = .returned (.agg N1) ∧ ∃ p : Regrown, w'' = grow (redrawn wz p.d) p.os)) (Q2 : Hid (∀ d os, Calls Try.prog 32 #[.agg #[e0, e1, e2, e3, e4, e5, e6, e7, e8, e9, e10, e11, e12, e13, e14, e15, e16]] (grow (redrawn wz d) os) fun e w'' => e = .returned (.agg N2) ∧ ∃ p : Regrown, w'' = grow (redrawn wz p.d) p.os)) (Q3 : Hid (∀ d os, Calls Try.prog 33 #[c4, e4] (grow (redrawn wz d) os) fun e w'' => e = .returned (.bool true) ∧ ∃ p : Regrown, w'' = grow (redrawn wz p.d) p.os)) (Q4 : Hid (∀ d os, Calls Try.prog 34 #[c5, e5] (grow (redrawn wz d) os) fun e w'' => e = .returned (.bool false) ∧ ∃ p : Regrown, w'' = grow (redrawn wz p.d) p.os)) :
    Calls Try.prog 23 #[.agg #[c0, c1, c2, c3, c4, c5, c6, c7, c8, c9, c10, c11, c12, c13, c14, c15, c16], .agg #[e0, e1, e2, e3, e4, e5, e6, e7, e8, e9, e10, e11, e12, e13, e14, e15, e16]] w (BoolPost false w) := by
  have hB : Below w.heap.size w wz := hz ▸ ((Below.refl _ w).alloc (Nat.le_refl _) _).alloc (by simp) _
  have R1 : wz.rangeAt w.heap.size 0 [c0, c1, c2, c3, c4, c5, c6, c7, c8, c9, c10, c11, c12, c13, c14, c15, c16] := hz ▸ range_keep (range_new w [c0, c1, c2, c3, c4, c5, c6, c7, c8, c9, c10, c11, c12, c13, c14, c15, c16] 30) ((Below.refl _ _).alloc (Nat.le_refl _) _)
  have hs1 : (w.alloc (.cells #[c0, c1, c2, c3, c4, c5, c6, c7, c8, c9, c10, c11, c12, c13, c14, c15, c16] 30)).heap.size = w.heap.size + 1 := by simp
  have R2 : wz.rangeAt (w.heap.size + 1) 0 [e0, e1, e2, e3, e4, e5, e6, e7, e8, e9, e10, e11, e12, e13, e14, e15, e16] := hz ▸ hs1 ▸ range_new (w.alloc (.cells #[c0, c1, c2, c3, c4, c5, c6, c7, c8, c9, c10, c11, c12, c13, c14, c15, c16] 30)) [e0, e1, e2, e3, e4, e5, e6, e7, e8, e9, e10, e11, e12, e13, e14, e15, e16] 30
  obtain ⟨q0, q1, q2, q3, q4, q5, q6, q7, q8, q9, q10, q11, q12, q13, q14, q15, q16⟩ := box17 R1
  obtain ⟨r0, r1, r2, r3, r4, r5, r6, r7, r8, r9, r10, r11, r12, r13, r14, r15, r16⟩ := box17 R2
  clear R1 R2 hs1
  go_enter Try.func23, Try.ntmps23
  go_wp2_with fail
  (try rw [hz])
  clear hz
  have q0 := cell_regrown q0
  have q1 := cell_regrown q1
  have q2 := cell_regrown q2
  have q3 := cell_regrown q3
  have q4 := cell_regrown q4
  have q5 := cell_regrown q5
  have q6 := cell_regrown q6
  have q7 := cell_regrown q7
  have q8 := cell_regrown q8
  have q9 := cell_regrown q9
  have q10 := cell_regrown q10
  have q11 := cell_regrown q11
  have q12 := cell_regrown q12
  have q13 := cell_regrown q13
  have q14 := cell_regrown q14
  have q15 := cell_regrown q15
  have q16 := cell_regrown q16
  have r0 := cell_regrown r0
  have r1 := cell_regrown r1
  have r2 := cell_regrown r2
  have r3 := cell_regrown r3
  have r4 := cell_regrown r4
  have r5 := cell_regrown r5
  have r6 := cell_regrown r6
  have r7 := cell_regrown r7
  have r8 := cell_regrown r8
  have r9 := cell_regrown r9
  have r10 := cell_regrown r10
  have r11 := cell_regrown r11
  have r12 := cell_regrown r12
  have r13 := cell_regrown r13
  have r14 := cell_regrown r14
  have r15 := cell_regrown r15
  have r16 := cell_regrown r16
  refine wp_region_quiet_below (by kernel_rfl) (by kernel_rfl) ?_
  repeat (go_big_quiet_step (first | (go_at_call 32; with_reducible exact Q1.out _ _) | (go_at_call 32; with_reducible exact Q2.out _ _) | (go_at_call 33; with_reducible exact Q3.out _ _) | (go_at_call 34; with_reducible exact Q4.out _ _)))
  refine wpQuiet_nil ?_
  intro _ hw'
  obtain ⟨⟨dq, osq⟩, hw''⟩ := hw'
  subst hw''
  go_wp2
  go_ret
  exact ⟨rfl, hB.trans ((below_regrown _ dq osq).mono hB.size)⟩

set_option maxRecDepth 100000 in
set_option maxHeartbeats 4000000 in
theorem same_core4 (c0 c1 c2 c3 c4 c5 c6 c7 c8 c9 c10 c11 c12 c13 c14 c15 c16 e0 e1 e2 e3 e4 e5 e6 e7 e8 e9 e10 e11 e12 e13 e14 e15 e16 : Value) (N1 N2 : Array Value) (w wz : World) (hz : ((w.alloc (.cells #[c0, c1, c2, c3, c4, c5, c6, c7, c8, c9, c10, c11, c12, c13, c14, c15, c16] 30)).alloc (.cells #[e0, e1, e2, e3, e4, e5, e6, e7, e8, e9, e10, e11, e12, e13, e14, e15, e16] 30)) = wz) (E1 : ∀ u, (binOp .eql 89 (.agg N1) (.agg N2)).run Try.prog u = .ok (.bool true) u) (E2 : ∀ u, (binOp .eql 25 (.agg #[c2, c3]) (.agg #[e2, e3])).run Try.prog u = .ok (.bool true) u) (Q1 : Hid (∀ d os, Calls Try.prog 32 #[.agg #[c0, c1, c2, c3, c4, c5, c6, c7, c8, c9, c10, c11, c12, c13, c14, c15, c16]] (grow (redrawn wz d) os) fun e w'' => e = .returned (.agg N1) ∧ ∃ p : Regrown, w'' = grow (redrawn wz p.d) p.os)) (Q2 : Hid (∀ d os, Calls Try.prog 32 #[.agg #[e0, e1, e2, e3, e4, e5, e6, e7, e8, e9, e10, e11, e12, e13, e14, e15, e16]] (grow (redrawn wz d) os) fun e w'' => e = .returned (.agg N2) ∧ ∃ p : Regrown, w'' = grow (redrawn wz p.d) p.os)) (Q3 : Hid (∀ d os, Calls Try.prog 33 #[c4, e4] (grow (redrawn wz d) os) fun e w'' => e = .returned (.bool true) ∧ ∃ p : Regrown, w'' = grow (redrawn wz p.d) p.os)) (Q4 : Hid (∀ d os, Calls Try.prog 34 #[c5, e5] (grow (redrawn wz d) os) fun e w'' => e = .returned (.bool true) ∧ ∃ p : Regrown, w'' = grow (redrawn wz p.d) p.os)) (Q5 : Hid (∀ d os, Calls Try.prog 35 #[c6, e6] (grow (redrawn wz d) os) fun e w'' => e = .returned (.bool false) ∧ ∃ p : Regrown, w'' = grow (redrawn wz p.d) p.os)) :
    Calls Try.prog 23 #[.agg #[c0, c1, c2, c3, c4, c5, c6, c7, c8, c9, c10, c11, c12, c13, c14, c15, c16], .agg #[e0, e1, e2, e3, e4, e5, e6, e7, e8, e9, e10, e11, e12, e13, e14, e15, e16]] w (BoolPost false w) := by
  have hB : Below w.heap.size w wz := hz ▸ ((Below.refl _ w).alloc (Nat.le_refl _) _).alloc (by simp) _
  have R1 : wz.rangeAt w.heap.size 0 [c0, c1, c2, c3, c4, c5, c6, c7, c8, c9, c10, c11, c12, c13, c14, c15, c16] := hz ▸ range_keep (range_new w [c0, c1, c2, c3, c4, c5, c6, c7, c8, c9, c10, c11, c12, c13, c14, c15, c16] 30) ((Below.refl _ _).alloc (Nat.le_refl _) _)
  have hs1 : (w.alloc (.cells #[c0, c1, c2, c3, c4, c5, c6, c7, c8, c9, c10, c11, c12, c13, c14, c15, c16] 30)).heap.size = w.heap.size + 1 := by simp
  have R2 : wz.rangeAt (w.heap.size + 1) 0 [e0, e1, e2, e3, e4, e5, e6, e7, e8, e9, e10, e11, e12, e13, e14, e15, e16] := hz ▸ hs1 ▸ range_new (w.alloc (.cells #[c0, c1, c2, c3, c4, c5, c6, c7, c8, c9, c10, c11, c12, c13, c14, c15, c16] 30)) [e0, e1, e2, e3, e4, e5, e6, e7, e8, e9, e10, e11, e12, e13, e14, e15, e16] 30
  obtain ⟨q0, q1, q2, q3, q4, q5, q6, q7, q8, q9, q10, q11, q12, q13, q14, q15, q16⟩ := box17 R1
  obtain ⟨r0, r1, r2, r3, r4, r5, r6, r7, r8, r9, r10, r11, r12, r13, r14, r15, r16⟩ := box17 R2
  clear R1 R2 hs1
  go_enter Try.func23, Try.ntmps23
  go_wp2_with fail
  (try rw [hz])
  clear hz
  have q0 := cell_regrown q0
  have q1 := cell_regrown q1
  have q2 := cell_regrown q2
  have q3 := cell_regrown q3
  have q4 := cell_regrown q4
  have q5 := cell_regrown q5
  have q6 := cell_regrown q6
  have q7 := cell_regrown q7
  have q8 := cell_regrown q8
  have q9 := cell_regrown q9
  have q10 := cell_regrown q10
  have q11 := cell_regrown q11
  have q12 := cell_regrown q12
  have q13 := cell_regrown q13
  have q14 := cell_regrown q14
  have q15 := cell_regrown q15
  have q16 := cell_regrown q16
  have r0 := cell_regrown r0
  have r1 := cell_regrown r1
  have r2 := cell_regrown r2
  have r3 := cell_regrown r3
  have r4 := cell_regrown r4
  have r5 := cell_regrown r5
  have r6 := cell_regrown r6
  have r7 := cell_regrown r7
  have r8 := cell_regrown r8
  have r9 := cell_regrown r9
  have r10 := cell_regrown r10
  have r11 := cell_regrown r11
  have r12 := cell_regrown r12
  have r13 := cell_regrown r13
  have r14 := cell_regrown r14
  have r15 := cell_regrown r15
  have r16 := cell_regrown r16
  refine wp_region_quiet_below (by kernel_rfl) (by kernel_rfl) ?_
  repeat (go_big_quiet_step (first | (go_at_call 32; with_reducible exact Q1.out _ _) | (go_at_call 32; with_reducible exact Q2.out _ _) | (go_at_call 33; with_reducible exact Q3.out _ _) | (go_at_call 34; with_reducible exact Q4.out _ _) | (go_at_call 35; with_reducible exact Q5.out _ _)))
  refine wpQuiet_nil ?_
  intro _ hw'
  obtain ⟨⟨dq, osq⟩, hw''⟩ := hw'
  subst hw''
  go_wp2
  go_ret
  exact ⟨rfl, hB.trans ((below_regrown _ dq osq).mono hB.size)⟩

set_option maxRecDepth 100000 in
set_option maxHeartbeats 4000000 in
theorem same_core5 (c0 c1 c2 c3 c4 c5 c6 c7 c8 c9 c10 c11 c12 c13 c14 c15 c16 e0 e1 e2 e3 e4 e5 e6 e7 e8 e9 e10 e11 e12 e13 e14 e15 e16 : Value) (N1 N2 : Array Value) (w wz : World) (hz : ((w.alloc (.cells #[c0, c1, c2, c3, c4, c5, c6, c7, c8, c9, c10, c11, c12, c13, c14, c15, c16] 30)).alloc (.cells #[e0, e1, e2, e3, e4, e5, e6, e7, e8, e9, e10, e11, e12, e13, e14, e15, e16] 30)) = wz) (E1 : ∀ u, (binOp .eql 89 (.agg N1) (.agg N2)).run Try.prog u = .ok (.bool true) u) (E2 : ∀ u, (binOp .eql 25 (.agg #[c2, c3]) (.agg #[e2, e3])).run Try.prog u = .ok (.bool true) u) (Q1 : Hid (∀ d os, Calls Try.prog 32 #[.agg #[c0, c1, c2, c3, c4, c5, c6, c7, c8, c9, c10, c11, c12, c13, c14, c15, c16]] (grow (redrawn wz d) os) fun e w'' => e = .returned (.agg N1) ∧ ∃ p : Regrown, w'' = grow (redrawn wz p.d) p.os)) (Q2 : Hid (∀ d os, Calls Try.prog 32 #[.agg #[e0, e1, e2, e3, e4, e5, e6, e7, e8, e9, e10, e11, e12, e13, e14, e15, e16]] (grow (redrawn wz d) os) fun e w'' => e = .returned (.agg N2) ∧ ∃ p : Regrown, w'' = grow (redrawn wz p.d) p.os)) (Q3 : Hid (∀ d os, Calls Try.prog 33 #[c4, e4] (grow (redrawn wz d) os) fun e w'' => e = .returned (.bool true) ∧ ∃ p : Regrown, w'' = grow (redrawn wz p.d) p.os)) (Q4 : Hid (∀ d os, Calls Try.prog 34 #[c5, e5] (grow (redrawn wz d) os) fun e w'' => e = .returned (.bool true) ∧ ∃ p : Regrown, w'' = grow (redrawn wz p.d) p.os)) (Q5 : Hid (∀ d os, Calls Try.prog 35 #[c6, e6] (grow (redrawn wz d) os) fun e w'' => e = .returned (.bool true) ∧ ∃ p : Regrown, w'' = grow (redrawn wz p.d) p.os)) :
    Calls Try.prog 23 #[.agg #[c0, c1, c2, c3, c4, c5, c6, c7, c8, c9, c10, c11, c12, c13, c14, c15, c16], .agg #[e0, e1, e2, e3, e4, e5, e6, e7, e8, e9, e10, e11, e12, e13, e14, e15, e16]] w (BoolPost true w) := by
  have hB : Below w.heap.size w wz := hz ▸ ((Below.refl _ w).alloc (Nat.le_refl _) _).alloc (by simp) _
  have R1 : wz.rangeAt w.heap.size 0 [c0, c1, c2, c3, c4, c5, c6, c7, c8, c9, c10, c11, c12, c13, c14, c15, c16] := hz ▸ range_keep (range_new w [c0, c1, c2, c3, c4, c5, c6, c7, c8, c9, c10, c11, c12, c13, c14, c15, c16] 30) ((Below.refl _ _).alloc (Nat.le_refl _) _)
  have hs1 : (w.alloc (.cells #[c0, c1, c2, c3, c4, c5, c6, c7, c8, c9, c10, c11, c12, c13, c14, c15, c16] 30)).heap.size = w.heap.size + 1 := by simp
  have R2 : wz.rangeAt (w.heap.size + 1) 0 [e0, e1, e2, e3, e4, e5, e6, e7, e8, e9, e10, e11, e12, e13, e14, e15, e16] := hz ▸ hs1 ▸ range_new (w.alloc (.cells #[c0, c1, c2, c3, c4, c5, c6, c7, c8, c9, c10, c11, c12, c13, c14, c15, c16] 30)) [e0, e1, e2, e3, e4, e5, e6, e7, e8, e9, e10, e11, e12, e13, e14, e15, e16] 30
  obtain ⟨q0, q1, q2, q3, q4, q5, q6, q7, q8, q9, q10, q11, q12, q13, q14, q15, q16⟩ := box17 R1
  obtain ⟨r0, r1, r2, r3, r4, r5, r6, r7, r8, r9, r10, r11, r12, r13, r14, r15, r16⟩ := box17 R2
  clear R1 R2 hs1
  go_enter Try.func23, Try.ntmps23
  go_wp2_with fail
  (try rw [hz])
  clear hz
  have q0 := cell_regrown q0
  have q1 := cell_regrown q1
  have q2 := cell_regrown q2
  have q3 := cell_regrown q3
  have q4 := cell_regrown q4
  have q5 := cell_regrown q5
  have q6 := cell_regrown q6
  have q7 := cell_regrown q7
  have q8 := cell_regrown q8
  have q9 := cell_regrown q9
  have q10 := cell_regrown q10
  have q11 := cell_regrown q11
  have q12 := cell_regrown q12
  have q13 := cell_regrown q13
  have q14 := cell_regrown q14
  have q15 := cell_regrown q15
  have q16 := cell_regrown q16
  have r0 := cell_regrown r0
  have r1 := cell_regrown r1
  have r2 := cell_regrown r2
  have r3 := cell_regrown r3
  have r4 := cell_regrown r4
  have r5 := cell_regrown r5
  have r6 := cell_regrown r6
  have r7 := cell_regrown r7
  have r8 := cell_regrown r8
  have r9 := cell_regrown r9
  have r10 := cell_regrown r10
  have r11 := cell_regrown r11
  have r12 := cell_regrown r12
  have r13 := cell_regrown r13
  have r14 := cell_regrown r14
  have r15 := cell_regrown r15
  have r16 := cell_regrown r16
  refine wp_region_quiet_below (by kernel_rfl) (by kernel_rfl) ?_
  repeat (go_big_quiet_step (first | (go_at_call 32; with_reducible exact Q1.out _ _) | (go_at_call 32; with_reducible exact Q2.out _ _) | (go_at_call 33; with_reducible exact Q3.out _ _) | (go_at_call 34; with_reducible exact Q4.out _ _) | (go_at_call 35; with_reducible exact Q5.out _ _)))
  refine wpQuiet_nil ?_
  intro _ hw'
  obtain ⟨⟨dq, osq⟩, hw''⟩ := hw'
  subst hw''
  go_wp2
  go_ret
  exact ⟨rfl, hB.trans ((below_regrown _ dq osq).mono hB.size)⟩

theorem sameT_any (a b : Dt) (p q : Ad) (oa : DtOk a) (w : World) (ha : ThAt w a p) (hb : ThAt w b q) : Calls Try.prog 23 #[.agg #[.int .i64 a.ph, .int .i64 a.it, .int .i64 a.tg, .int .i64 a.v, .slice p.bA a.bl.length p.bc, .slice p.kA a.kl.length p.kc, .slice p.hA a.hl.length p.hc, .int .i64 a.st, .int .i64 a.nd, .int .i64 a.pl, .int .i64 a.ly, .int .i64 a.lf, .int .i64 a.wd, .int .i64 a.who, .int .i64 a.x, .int .i64 a.y, .int .i64 a.un], .agg #[.int .i64 b.ph, .int .i64 b.it, .int .i64 b.tg, .int .i64 b.v, .slice q.bA b.bl.length q.bc, .slice q.kA b.kl.length q.kc, .slice q.hA b.hl.length q.hc, .int .i64 b.st, .int .i64 b.nd, .int .i64 b.pl, .int .i64 b.ly, .int .i64 b.lf, .int .i64 b.wd, .int .i64 b.who, .int .i64 b.x, .int .i64 b.y, .int .i64 b.un]] w (BoolPost (sameB a b) w) := by
  have hB : Below w.heap.size w ((w.alloc (.cells #[.int .i64 a.ph, .int .i64 a.it, .int .i64 a.tg, .int .i64 a.v, .slice p.bA a.bl.length p.bc, .slice p.kA a.kl.length p.kc, .slice p.hA a.hl.length p.hc, .int .i64 a.st, .int .i64 a.nd, .int .i64 a.pl, .int .i64 a.ly, .int .i64 a.lf, .int .i64 a.wd, .int .i64 a.who, .int .i64 a.x, .int .i64 a.y, .int .i64 a.un] 30)).alloc (.cells #[.int .i64 b.ph, .int .i64 b.it, .int .i64 b.tg, .int .i64 b.v, .slice q.bA b.bl.length q.bc, .slice q.kA b.kl.length q.kc, .slice q.hA b.hl.length q.hc, .int .i64 b.st, .int .i64 b.nd, .int .i64 b.pl, .int .i64 b.ly, .int .i64 b.lf, .int .i64 b.wd, .int .i64 b.who, .int .i64 b.x, .int .i64 b.y, .int .i64 b.un] 30)) := ((Below.refl _ w).alloc (Nat.le_refl _) _).alloc (by simp) _
  have na := ha.later hB
  have nb := hb.later hB
  have hle := oa
  have E1 := eql_nums a b
  have E2 := eql_op a.tg a.v b.tg b.v
  have Q1 := hide (fun d os => Calls.regrown_of (w := ((w.alloc (.cells #[.int .i64 a.ph, .int .i64 a.it, .int .i64 a.tg, .int .i64 a.v, .slice p.bA a.bl.length p.bc, .slice p.kA a.kl.length p.kc, .slice p.hA a.hl.length p.hc, .int .i64 a.st, .int .i64 a.nd, .int .i64 a.pl, .int .i64 a.ly, .int .i64 a.lf, .int .i64 a.wd, .int .i64 a.who, .int .i64 a.x, .int .i64 a.y, .int .i64 a.un] 30)).alloc (.cells #[.int .i64 b.ph, .int .i64 b.it, .int .i64 b.tg, .int .i64 b.v, .slice q.bA b.bl.length q.bc, .slice q.kA b.kl.length q.kc, .slice q.hA b.hl.length q.hc, .int .i64 b.st, .int .i64 b.nd, .int .i64 b.pl, .int .i64 b.ly, .int .i64 b.lf, .int .i64 b.wd, .int .i64 b.who, .int .i64 b.x, .int .i64 b.y, .int .i64 b.un] 30))) (numbers_any a p (grow (redrawn ((w.alloc (.cells #[.int .i64 a.ph, .int .i64 a.it, .int .i64 a.tg, .int .i64 a.v, .slice p.bA a.bl.length p.bc, .slice p.kA a.kl.length p.kc, .slice p.hA a.hl.length p.hc, .int .i64 a.st, .int .i64 a.nd, .int .i64 a.pl, .int .i64 a.ly, .int .i64 a.lf, .int .i64 a.wd, .int .i64 a.who, .int .i64 a.x, .int .i64 a.y, .int .i64 a.un] 30)).alloc (.cells #[.int .i64 b.ph, .int .i64 b.it, .int .i64 b.tg, .int .i64 b.v, .slice q.bA b.bl.length q.bc, .slice q.kA b.kl.length q.kc, .slice q.hA b.hl.length q.hc, .int .i64 b.st, .int .i64 b.nd, .int .i64 b.pl, .int .i64 b.ly, .int .i64 b.lf, .int .i64 b.wd, .int .i64 b.who, .int .i64 b.x, .int .i64 b.y, .int .i64 b.un] 30)) d) os)))
  have Q2 := hide (fun d os => Calls.regrown_of (w := ((w.alloc (.cells #[.int .i64 a.ph, .int .i64 a.it, .int .i64 a.tg, .int .i64 a.v, .slice p.bA a.bl.length p.bc, .slice p.kA a.kl.length p.kc, .slice p.hA a.hl.length p.hc, .int .i64 a.st, .int .i64 a.nd, .int .i64 a.pl, .int .i64 a.ly, .int .i64 a.lf, .int .i64 a.wd, .int .i64 a.who, .int .i64 a.x, .int .i64 a.y, .int .i64 a.un] 30)).alloc (.cells #[.int .i64 b.ph, .int .i64 b.it, .int .i64 b.tg, .int .i64 b.v, .slice q.bA b.bl.length q.bc, .slice q.kA b.kl.length q.kc, .slice q.hA b.hl.length q.hc, .int .i64 b.st, .int .i64 b.nd, .int .i64 b.pl, .int .i64 b.ly, .int .i64 b.lf, .int .i64 b.wd, .int .i64 b.who, .int .i64 b.x, .int .i64 b.y, .int .i64 b.un] 30))) (numbers_any b q (grow (redrawn ((w.alloc (.cells #[.int .i64 a.ph, .int .i64 a.it, .int .i64 a.tg, .int .i64 a.v, .slice p.bA a.bl.length p.bc, .slice p.kA a.kl.length p.kc, .slice p.hA a.hl.length p.hc, .int .i64 a.st, .int .i64 a.nd, .int .i64 a.pl, .int .i64 a.ly, .int .i64 a.lf, .int .i64 a.wd, .int .i64 a.who, .int .i64 a.x, .int .i64 a.y, .int .i64 a.un] 30)).alloc (.cells #[.int .i64 b.ph, .int .i64 b.it, .int .i64 b.tg, .int .i64 b.v, .slice q.bA b.bl.length q.bc, .slice q.kA b.kl.length q.kc, .slice q.hA b.hl.length q.hc, .int .i64 b.st, .int .i64 b.nd, .int .i64 b.pl, .int .i64 b.ly, .int .i64 b.lf, .int .i64 b.wd, .int .i64 b.who, .int .i64 b.x, .int .i64 b.y, .int .i64 b.un] 30)) d) os)))
  have Q3 := hide (fun d os => Calls.regrown_of (w := ((w.alloc (.cells #[.int .i64 a.ph, .int .i64 a.it, .int .i64 a.tg, .int .i64 a.v, .slice p.bA a.bl.length p.bc, .slice p.kA a.kl.length p.kc, .slice p.hA a.hl.length p.hc, .int .i64 a.st, .int .i64 a.nd, .int .i64 a.pl, .int .i64 a.ly, .int .i64 a.lf, .int .i64 a.wd, .int .i64 a.who, .int .i64 a.x, .int .i64 a.y, .int .i64 a.un] 30)).alloc (.cells #[.int .i64 b.ph, .int .i64 b.it, .int .i64 b.tg, .int .i64 b.v, .slice q.bA b.bl.length q.bc, .slice q.kA b.kl.length q.kc, .slice q.hA b.hl.length q.hc, .int .i64 b.st, .int .i64 b.nd, .int .i64 b.pl, .int .i64 b.ly, .int .i64 b.lf, .int .i64 b.wd, .int .i64 b.who, .int .i64 b.x, .int .i64 b.y, .int .i64 b.un] 30))) (alikeE_any p.bA q.bA p.bc q.bc a.bl.length b.bl.length a.bl b.bl rfl rfl (by have := hle.b; omega) (grow (redrawn ((w.alloc (.cells #[.int .i64 a.ph, .int .i64 a.it, .int .i64 a.tg, .int .i64 a.v, .slice p.bA a.bl.length p.bc, .slice p.kA a.kl.length p.kc, .slice p.hA a.hl.length p.hc, .int .i64 a.st, .int .i64 a.nd, .int .i64 a.pl, .int .i64 a.ly, .int .i64 a.lf, .int .i64 a.wd, .int .i64 a.who, .int .i64 a.x, .int .i64 a.y, .int .i64 a.un] 30)).alloc (.cells #[.int .i64 b.ph, .int .i64 b.it, .int .i64 b.tg, .int .i64 b.v, .slice q.bA b.bl.length q.bc, .slice q.kA b.kl.length q.kc, .slice q.hA b.hl.length q.hc, .int .i64 b.st, .int .i64 b.nd, .int .i64 b.pl, .int .i64 b.ly, .int .i64 b.lf, .int .i64 b.wd, .int .i64 b.who, .int .i64 b.x, .int .i64 b.y, .int .i64 b.un] 30)) d) os) (na.later (below_regrown _ d os)).b (nb.later (below_regrown _ d os)).b))
  have Q4 := hide (fun d os => Calls.regrown_of (w := ((w.alloc (.cells #[.int .i64 a.ph, .int .i64 a.it, .int .i64 a.tg, .int .i64 a.v, .slice p.bA a.bl.length p.bc, .slice p.kA a.kl.length p.kc, .slice p.hA a.hl.length p.hc, .int .i64 a.st, .int .i64 a.nd, .int .i64 a.pl, .int .i64 a.ly, .int .i64 a.lf, .int .i64 a.wd, .int .i64 a.who, .int .i64 a.x, .int .i64 a.y, .int .i64 a.un] 30)).alloc (.cells #[.int .i64 b.ph, .int .i64 b.it, .int .i64 b.tg, .int .i64 b.v, .slice q.bA b.bl.length q.bc, .slice q.kA b.kl.length q.kc, .slice q.hA b.hl.length q.hc, .int .i64 b.st, .int .i64 b.nd, .int .i64 b.pl, .int .i64 b.ly, .int .i64 b.lf, .int .i64 b.wd, .int .i64 b.who, .int .i64 b.x, .int .i64 b.y, .int .i64 b.un] 30))) (alikeK_any p.kA q.kA p.kc q.kc a.kl.length b.kl.length a.kl b.kl rfl rfl (by have := hle.k; omega) (grow (redrawn ((w.alloc (.cells #[.int .i64 a.ph, .int .i64 a.it, .int .i64 a.tg, .int .i64 a.v, .slice p.bA a.bl.length p.bc, .slice p.kA a.kl.length p.kc, .slice p.hA a.hl.length p.hc, .int .i64 a.st, .int .i64 a.nd, .int .i64 a.pl, .int .i64 a.ly, .int .i64 a.lf, .int .i64 a.wd, .int .i64 a.who, .int .i64 a.x, .int .i64 a.y, .int .i64 a.un] 30)).alloc (.cells #[.int .i64 b.ph, .int .i64 b.it, .int .i64 b.tg, .int .i64 b.v, .slice q.bA b.bl.length q.bc, .slice q.kA b.kl.length q.kc, .slice q.hA b.hl.length q.hc, .int .i64 b.st, .int .i64 b.nd, .int .i64 b.pl, .int .i64 b.ly, .int .i64 b.lf, .int .i64 b.wd, .int .i64 b.who, .int .i64 b.x, .int .i64 b.y, .int .i64 b.un] 30)) d) os) (na.later (below_regrown _ d os)).k (nb.later (below_regrown _ d os)).k))
  have Q5 := hide (fun d os => Calls.regrown_of (w := ((w.alloc (.cells #[.int .i64 a.ph, .int .i64 a.it, .int .i64 a.tg, .int .i64 a.v, .slice p.bA a.bl.length p.bc, .slice p.kA a.kl.length p.kc, .slice p.hA a.hl.length p.hc, .int .i64 a.st, .int .i64 a.nd, .int .i64 a.pl, .int .i64 a.ly, .int .i64 a.lf, .int .i64 a.wd, .int .i64 a.who, .int .i64 a.x, .int .i64 a.y, .int .i64 a.un] 30)).alloc (.cells #[.int .i64 b.ph, .int .i64 b.it, .int .i64 b.tg, .int .i64 b.v, .slice q.bA b.bl.length q.bc, .slice q.kA b.kl.length q.kc, .slice q.hA b.hl.length q.hc, .int .i64 b.st, .int .i64 b.nd, .int .i64 b.pl, .int .i64 b.ly, .int .i64 b.lf, .int .i64 b.wd, .int .i64 b.who, .int .i64 b.x, .int .i64 b.y, .int .i64 b.un] 30))) (alikeI_any p.hA q.hA p.hc q.hc a.hl.length b.hl.length a.hl b.hl rfl rfl (by have := hle.h; omega) (grow (redrawn ((w.alloc (.cells #[.int .i64 a.ph, .int .i64 a.it, .int .i64 a.tg, .int .i64 a.v, .slice p.bA a.bl.length p.bc, .slice p.kA a.kl.length p.kc, .slice p.hA a.hl.length p.hc, .int .i64 a.st, .int .i64 a.nd, .int .i64 a.pl, .int .i64 a.ly, .int .i64 a.lf, .int .i64 a.wd, .int .i64 a.who, .int .i64 a.x, .int .i64 a.y, .int .i64 a.un] 30)).alloc (.cells #[.int .i64 b.ph, .int .i64 b.it, .int .i64 b.tg, .int .i64 b.v, .slice q.bA b.bl.length q.bc, .slice q.kA b.kl.length q.kc, .slice q.hA b.hl.length q.hc, .int .i64 b.st, .int .i64 b.nd, .int .i64 b.pl, .int .i64 b.ly, .int .i64 b.lf, .int .i64 b.wd, .int .i64 b.who, .int .i64 b.x, .int .i64 b.y, .int .i64 b.un] 30)) d) os) (na.later (below_regrown _ d os)).h (nb.later (below_regrown _ d os)).h))
  have HS : sameB a b = (decide (a.nums = b.nums) && decide (a.tg = b.tg ∧ a.v = b.v) && decide (a.bl = b.bl) && decide (a.kl = b.kl) && decide (a.hl = b.hl)) := rfl
  rw [HS]
  clear na nb ha hb hle oa hB HS
  revert E1 E2 Q3 Q4 Q5
  generalize decide (a.nums = b.nums) = b0
  generalize decide (a.tg = b.tg ∧ a.v = b.v) = b1
  generalize decide (a.bl = b.bl) = b2
  generalize decide (a.kl = b.kl) = b3
  generalize decide (a.hl = b.hl) = b4
  intro E1 E2 Q3 Q4 Q5
  cases b0
  · exact same_core0 (.int .i64 a.ph) (.int .i64 a.it) (.int .i64 a.tg) (.int .i64 a.v) (.slice p.bA a.bl.length p.bc) (.slice p.kA a.kl.length p.kc) (.slice p.hA a.hl.length p.hc) (.int .i64 a.st) (.int .i64 a.nd) (.int .i64 a.pl) (.int .i64 a.ly) (.int .i64 a.lf) (.int .i64 a.wd) (.int .i64 a.who) (.int .i64 a.x) (.int .i64 a.y) (.int .i64 a.un) (.int .i64 b.ph) (.int .i64 b.it) (.int .i64 b.tg) (.int .i64 b.v) (.slice q.bA b.bl.length q.bc) (.slice q.kA b.kl.length q.kc) (.slice q.hA b.hl.length q.hc) (.int .i64 b.st) (.int .i64 b.nd) (.int .i64 b.pl) (.int .i64 b.ly) (.int .i64 b.lf) (.int .i64 b.wd) (.int .i64 b.who) (.int .i64 b.x) (.int .i64 b.y) (.int .i64 b.un) #[.int .i64 a.ph, .int .i64 a.it, .int .i64 a.st, .int .i64 a.nd, .int .i64 a.pl, .int .i64 a.ly, .int .i64 a.lf, .int .i64 a.wd, .int .i64 a.who, .int .i64 a.x, .int .i64 a.y, .int .i64 a.un] #[.int .i64 b.ph, .int .i64 b.it, .int .i64 b.st, .int .i64 b.nd, .int .i64 b.pl, .int .i64 b.ly, .int .i64 b.lf, .int .i64 b.wd, .int .i64 b.who, .int .i64 b.x, .int .i64 b.y, .int .i64 b.un] w _ rfl E1 Q1 Q2
  cases b1
  · exact same_core1 (.int .i64 a.ph) (.int .i64 a.it) (.int .i64 a.tg) (.int .i64 a.v) (.slice p.bA a.bl.length p.bc) (.slice p.kA a.kl.length p.kc) (.slice p.hA a.hl.length p.hc) (.int .i64 a.st) (.int .i64 a.nd) (.int .i64 a.pl) (.int .i64 a.ly) (.int .i64 a.lf) (.int .i64 a.wd) (.int .i64 a.who) (.int .i64 a.x) (.int .i64 a.y) (.int .i64 a.un) (.int .i64 b.ph) (.int .i64 b.it) (.int .i64 b.tg) (.int .i64 b.v) (.slice q.bA b.bl.length q.bc) (.slice q.kA b.kl.length q.kc) (.slice q.hA b.hl.length q.hc) (.int .i64 b.st) (.int .i64 b.nd) (.int .i64 b.pl) (.int .i64 b.ly) (.int .i64 b.lf) (.int .i64 b.wd) (.int .i64 b.who) (.int .i64 b.x) (.int .i64 b.y) (.int .i64 b.un) #[.int .i64 a.ph, .int .i64 a.it, .int .i64 a.st, .int .i64 a.nd, .int .i64 a.pl, .int .i64 a.ly, .int .i64 a.lf, .int .i64 a.wd, .int .i64 a.who, .int .i64 a.x, .int .i64 a.y, .int .i64 a.un] #[.int .i64 b.ph, .int .i64 b.it, .int .i64 b.st, .int .i64 b.nd, .int .i64 b.pl, .int .i64 b.ly, .int .i64 b.lf, .int .i64 b.wd, .int .i64 b.who, .int .i64 b.x, .int .i64 b.y, .int .i64 b.un] w _ rfl E1 E2 Q1 Q2
  cases b2
  · exact same_core2 (.int .i64 a.ph) (.int .i64 a.it) (.int .i64 a.tg) (.int .i64 a.v) (.slice p.bA a.bl.length p.bc) (.slice p.kA a.kl.length p.kc) (.slice p.hA a.hl.length p.hc) (.int .i64 a.st) (.int .i64 a.nd) (.int .i64 a.pl) (.int .i64 a.ly) (.int .i64 a.lf) (.int .i64 a.wd) (.int .i64 a.who) (.int .i64 a.x) (.int .i64 a.y) (.int .i64 a.un) (.int .i64 b.ph) (.int .i64 b.it) (.int .i64 b.tg) (.int .i64 b.v) (.slice q.bA b.bl.length q.bc) (.slice q.kA b.kl.length q.kc) (.slice q.hA b.hl.length q.hc) (.int .i64 b.st) (.int .i64 b.nd) (.int .i64 b.pl) (.int .i64 b.ly) (.int .i64 b.lf) (.int .i64 b.wd) (.int .i64 b.who) (.int .i64 b.x) (.int .i64 b.y) (.int .i64 b.un) #[.int .i64 a.ph, .int .i64 a.it, .int .i64 a.st, .int .i64 a.nd, .int .i64 a.pl, .int .i64 a.ly, .int .i64 a.lf, .int .i64 a.wd, .int .i64 a.who, .int .i64 a.x, .int .i64 a.y, .int .i64 a.un] #[.int .i64 b.ph, .int .i64 b.it, .int .i64 b.st, .int .i64 b.nd, .int .i64 b.pl, .int .i64 b.ly, .int .i64 b.lf, .int .i64 b.wd, .int .i64 b.who, .int .i64 b.x, .int .i64 b.y, .int .i64 b.un] w _ rfl E1 E2 Q1 Q2 Q3
  cases b3
  · exact same_core3 (.int .i64 a.ph) (.int .i64 a.it) (.int .i64 a.tg) (.int .i64 a.v) (.slice p.bA a.bl.length p.bc) (.slice p.kA a.kl.length p.kc) (.slice p.hA a.hl.length p.hc) (.int .i64 a.st) (.int .i64 a.nd) (.int .i64 a.pl) (.int .i64 a.ly) (.int .i64 a.lf) (.int .i64 a.wd) (.int .i64 a.who) (.int .i64 a.x) (.int .i64 a.y) (.int .i64 a.un) (.int .i64 b.ph) (.int .i64 b.it) (.int .i64 b.tg) (.int .i64 b.v) (.slice q.bA b.bl.length q.bc) (.slice q.kA b.kl.length q.kc) (.slice q.hA b.hl.length q.hc) (.int .i64 b.st) (.int .i64 b.nd) (.int .i64 b.pl) (.int .i64 b.ly) (.int .i64 b.lf) (.int .i64 b.wd) (.int .i64 b.who) (.int .i64 b.x) (.int .i64 b.y) (.int .i64 b.un) #[.int .i64 a.ph, .int .i64 a.it, .int .i64 a.st, .int .i64 a.nd, .int .i64 a.pl, .int .i64 a.ly, .int .i64 a.lf, .int .i64 a.wd, .int .i64 a.who, .int .i64 a.x, .int .i64 a.y, .int .i64 a.un] #[.int .i64 b.ph, .int .i64 b.it, .int .i64 b.st, .int .i64 b.nd, .int .i64 b.pl, .int .i64 b.ly, .int .i64 b.lf, .int .i64 b.wd, .int .i64 b.who, .int .i64 b.x, .int .i64 b.y, .int .i64 b.un] w _ rfl E1 E2 Q1 Q2 Q3 Q4
  cases b4
  · exact same_core4 (.int .i64 a.ph) (.int .i64 a.it) (.int .i64 a.tg) (.int .i64 a.v) (.slice p.bA a.bl.length p.bc) (.slice p.kA a.kl.length p.kc) (.slice p.hA a.hl.length p.hc) (.int .i64 a.st) (.int .i64 a.nd) (.int .i64 a.pl) (.int .i64 a.ly) (.int .i64 a.lf) (.int .i64 a.wd) (.int .i64 a.who) (.int .i64 a.x) (.int .i64 a.y) (.int .i64 a.un) (.int .i64 b.ph) (.int .i64 b.it) (.int .i64 b.tg) (.int .i64 b.v) (.slice q.bA b.bl.length q.bc) (.slice q.kA b.kl.length q.kc) (.slice q.hA b.hl.length q.hc) (.int .i64 b.st) (.int .i64 b.nd) (.int .i64 b.pl) (.int .i64 b.ly) (.int .i64 b.lf) (.int .i64 b.wd) (.int .i64 b.who) (.int .i64 b.x) (.int .i64 b.y) (.int .i64 b.un) #[.int .i64 a.ph, .int .i64 a.it, .int .i64 a.st, .int .i64 a.nd, .int .i64 a.pl, .int .i64 a.ly, .int .i64 a.lf, .int .i64 a.wd, .int .i64 a.who, .int .i64 a.x, .int .i64 a.y, .int .i64 a.un] #[.int .i64 b.ph, .int .i64 b.it, .int .i64 b.st, .int .i64 b.nd, .int .i64 b.pl, .int .i64 b.ly, .int .i64 b.lf, .int .i64 b.wd, .int .i64 b.who, .int .i64 b.x, .int .i64 b.y, .int .i64 b.un] w _ rfl E1 E2 Q1 Q2 Q3 Q4 Q5
  exact same_core5 (.int .i64 a.ph) (.int .i64 a.it) (.int .i64 a.tg) (.int .i64 a.v) (.slice p.bA a.bl.length p.bc) (.slice p.kA a.kl.length p.kc) (.slice p.hA a.hl.length p.hc) (.int .i64 a.st) (.int .i64 a.nd) (.int .i64 a.pl) (.int .i64 a.ly) (.int .i64 a.lf) (.int .i64 a.wd) (.int .i64 a.who) (.int .i64 a.x) (.int .i64 a.y) (.int .i64 a.un) (.int .i64 b.ph) (.int .i64 b.it) (.int .i64 b.tg) (.int .i64 b.v) (.slice q.bA b.bl.length q.bc) (.slice q.kA b.kl.length q.kc) (.slice q.hA b.hl.length q.hc) (.int .i64 b.st) (.int .i64 b.nd) (.int .i64 b.pl) (.int .i64 b.ly) (.int .i64 b.lf) (.int .i64 b.wd) (.int .i64 b.who) (.int .i64 b.x) (.int .i64 b.y) (.int .i64 b.un) #[.int .i64 a.ph, .int .i64 a.it, .int .i64 a.st, .int .i64 a.nd, .int .i64 a.pl, .int .i64 a.ly, .int .i64 a.lf, .int .i64 a.wd, .int .i64 a.who, .int .i64 a.x, .int .i64 a.y, .int .i64 a.un] #[.int .i64 b.ph, .int .i64 b.it, .int .i64 b.st, .int .i64 b.nd, .int .i64 b.pl, .int .i64 b.ly, .int .i64 b.lf, .int .i64 b.wd, .int .i64 b.who, .int .i64 b.x, .int .i64 b.y, .int .i64 b.un] w _ rfl E1 E2 Q1 Q2 Q3 Q4 Q5
end Go.Proofs.Ytpbneghabikpdaa
