/- What the law of layer 10 shows first. -/
import Derived.Test.YtpbneghabikpdaaThX
import Derived.Lib.QuietBelow
import Derived.Deep.QuietTactic
import Derived.BigQuiet
namespace Go.Proofs.Ytpbneghabikpdaa
open Go.RowKit Go.Sort
set_option linter.unusedVariables false

attribute [local go_sem ↓] ldTh_is
attribute [local go_sem] run_ldTh
attribute [local go_sem ↓] ldCf_is
attribute [local go_sem] run_ldCf

attribute [local go_sem ↓] stTh_is
attribute [local go_sem] run_stTh run_stTh_there
attribute [local go_sem] one_int one_slice one_bool th_drew th_old th_new

attribute [local go_sem ↓] bdTn_is
attribute [local go_sem] run_bdNow
set_option maxRecDepth 100000

/-- The thread that is shown. -/
def shD : Dt := ⟨1, 0, 1, 5, [(3, 1, 5)], [], [], 0, 3, 0, 0, 0, 1, 0, 0, 0, 5⟩
theorem sh_begin (w : World) : Calls Try.prog 11 #[.agg #[.int .i64 4, .int .i64 1, .int .i64 2, .int .i64 2, .int .i64 0, .int .i64 1, .int .i64 0, .int .i64 3, .bool false, .int .i64 0, .int .i64 0, .int .i64 0], .int .i64 3, .agg #[.int .i64 0, .int .i64 0, .int .i64 0, .int .i64 0, .slice none 0 0, .slice none 0 0, .slice none 0 0, .int .i64 0, .int .i64 0, .int .i64 0, .int .i64 0, .int .i64 0, .int .i64 1, .int .i64 0, .int .i64 0, .int .i64 0, .int .i64 0], .int .i64 0, .agg #[.int .i64 1, .int .i64 5], .int .i64 2] w (fun e w' => ∃ A, e = .returned (.agg #[.int .i64 1, .int .i64 0, .int .i64 1, .int .i64 5, .slice A 1 1, .slice none 0 0, .slice none 0 0, .int .i64 0, .int .i64 3, .int .i64 0, .int .i64 0, .int .i64 0, .int .i64 1, .int .i64 0, .int .i64 0, .int .i64 0, .int .i64 5]) ∧ Sees w' w'.heap.size 3 A 1 (ecells [(3, 1, 5)]) ∧ Fresh w A ∧ Below w.heap.size w w') := by
  have h := begin_any 2 3 3 1 0 1 5 2 (.int .i64 4) (.int .i64 1) (.int .i64 2) (.int .i64 0) (.int .i64 1) (.int .i64 0) (.bool false) (.int .i64 0) (.int .i64 0) (.int .i64 0) (.int .i64 0) (.int .i64 0) (.int .i64 0) (.int .i64 0) (.slice none 0 0) (.slice none 0 0) (.slice none 0 0) (.int .i64 0) (.int .i64 0) (.int .i64 0) (.int .i64 0) (.int .i64 0) (.int .i64 0) (.int .i64 0) (.int .i64 0) (.int .i64 0) (by omega) (by omega) (by unfold I64; omega) w
  have e1 : leafV 2 3 = 3 := by decide
  have e2 : untilV 2 3 = 5 := by decide +kernel
  refine h.mono fun e w' ⟨A, he, h2⟩ => ⟨A, ?_, h2⟩
  rw [he, e1, e2]
theorem sh_late (n : Int) : lateB 5 n = decide (5 ≤ n) := by simp [lateB]
theorem sh_same (A : Option Addr) (w : World) (h : Sees w w.heap.size 3 A 1 (ecells [(3, 1, 5)])) : ThAt w shD ⟨A, 1, none, 0, none, 0⟩ := ⟨h, Sees.empty, Sees.empty⟩
theorem sh_ok : DtOk shD := ⟨by decide, by decide, by decide⟩
theorem sh_other : sameB shD newD = false := by decide

set_option maxHeartbeats 4000000 in
theorem shown10_any (w : World) : Calls Try.prog 10 #[] w (BoolPost true w) := by
  have hB : Below w.heap.size w (w.alloc (.cells #[.int .i64 4, .int .i64 1, .int .i64 2, .int .i64 2, .int .i64 0, .int .i64 1, .int .i64 0, .int .i64 3, .bool false, .int .i64 0, .int .i64 0, .int .i64 0] 23)) := belowA _ _
  have R12 : (w.alloc (.cells #[.int .i64 4, .int .i64 1, .int .i64 2, .int .i64 2, .int .i64 0, .int .i64 1, .int .i64 0, .int .i64 3, .bool false, .int .i64 0, .int .i64 0, .int .i64 0] 23)).rangeAt w.heap.size 0 [.int .i64 4, .int .i64 1, .int .i64 2, .int .i64 2, .int .i64 0, .int .i64 1, .int .i64 0, .int .i64 3, .bool false, .int .i64 0, .int .i64 0, .int .i64 0] := range_new w [.int .i64 4, .int .i64 1, .int .i64 2, .int .i64 2, .int .i64 0, .int .i64 1, .int .i64 0, .int .i64 3, .bool false, .int .i64 0, .int .i64 0, .int .i64 0] 23
  have hg : w.heap.size < (w.alloc (.cells #[.int .i64 4, .int .i64 1, .int .i64 2, .int .i64 2, .int .i64 0, .int .i64 1, .int .i64 0, .int .i64 3, .bool false, .int .i64 0, .int .i64 0, .int .i64 0] 23)).heap.size := by simp
  have KB := hide sh_begin
  go_enter Try.func10, Try.ntmps10
  go_upto_region 2 with fail
  generalize (w.alloc (.cells #[.int .i64 4, .int .i64 1, .int .i64 2, .int .i64 2, .int .i64 0, .int .i64 1, .int .i64 0, .int .i64 3, .bool false, .int .i64 0, .int .i64 0, .int .i64 0] 23)) = wz at *
  have Z : wz.drew.cell? ⟨w.heap.size, 0, none⟩ = some (.int .i64 4) ∧ wz.drew.cell? ⟨w.heap.size, 1, none⟩ = some (.int .i64 1) ∧ wz.drew.cell? ⟨w.heap.size, 2, none⟩ = some (.int .i64 2) ∧ wz.drew.cell? ⟨w.heap.size, 3, none⟩ = some (.int .i64 2) ∧ wz.drew.cell? ⟨w.heap.size, 4, none⟩ = some (.int .i64 0) ∧ wz.drew.cell? ⟨w.heap.size, 5, none⟩ = some (.int .i64 1) ∧ wz.drew.cell? ⟨w.heap.size, 6, none⟩ = some (.int .i64 0) ∧ wz.drew.cell? ⟨w.heap.size, 7, none⟩ = some (.int .i64 3) ∧ wz.drew.cell? ⟨w.heap.size, 8, none⟩ = some (.bool false) ∧ wz.drew.cell? ⟨w.heap.size, 9, none⟩ = some (.int .i64 0) ∧ wz.drew.cell? ⟨w.heap.size, 10, none⟩ = some (.int .i64 0) ∧ wz.drew.cell? ⟨w.heap.size, 11, none⟩ = some (.int .i64 0) ∧ Below wz.heap.size wz wz.drew := ⟨rg R12 0 rfl, rg R12 1 rfl, rg R12 2 rfl, rg R12 3 rfl, rg R12 4 rfl, rg R12 5 rfl, rg R12 6 rfl, rg R12 7 rfl, rg R12 8 rfl, rg R12 9 rfl, rg R12 10 rfl, rg R12 11 rfl, belowD wz⟩
  have tA : (wz.alloc (.cells #[.int .i64 0, .int .i64 0, .int .i64 0, .int .i64 0, .slice none 0 0, .slice none 0 0, .slice none 0 0, .int .i64 0, .int .i64 0, .int .i64 0, .int .i64 0, .int .i64 0, .int .i64 0, .int .i64 0, .int .i64 0, .int .i64 0, .int .i64 0] 30)).drew.there wz.heap.size 0 17 := th_drew _ _ _ (th_new _ _ _ _ _ rfl rfl)
  go_cut [2] from 3 (fun p wc => ∃ k A, p = .pointer (some ⟨k, 0, none⟩) ∧ wc.rangeAt k 0 [.int .i64 1, .int .i64 0, .int .i64 1, .int .i64 5, .slice A 1 1, .slice none 0 0, .slice none 0 0, .int .i64 0, .int .i64 3, .int .i64 0, .int .i64 0, .int .i64 0, .int .i64 1, .int .i64 0, .int .i64 0, .int .i64 0, .int .i64 5] ∧ Sees wc wc.heap.size 3 A 1 (ecells [(3, 1, 5)]) ∧ Below wz.heap.size wz wc)
  case first =>
    go_region_held3 (fun w' => w'.cell? ⟨w.heap.size, 0, none⟩ = some (.int .i64 4) ∧ w'.cell? ⟨w.heap.size, 1, none⟩ = some (.int .i64 1) ∧ w'.cell? ⟨w.heap.size, 2, none⟩ = some (.int .i64 2) ∧ w'.cell? ⟨w.heap.size, 3, none⟩ = some (.int .i64 2) ∧ w'.cell? ⟨w.heap.size, 4, none⟩ = some (.int .i64 0) ∧ w'.cell? ⟨w.heap.size, 5, none⟩ = some (.int .i64 1) ∧ w'.cell? ⟨w.heap.size, 6, none⟩ = some (.int .i64 0) ∧ w'.cell? ⟨w.heap.size, 7, none⟩ = some (.int .i64 3) ∧ w'.cell? ⟨w.heap.size, 8, none⟩ = some (.bool false) ∧ w'.cell? ⟨w.heap.size, 9, none⟩ = some (.int .i64 0) ∧ w'.cell? ⟨w.heap.size, 10, none⟩ = some (.int .i64 0) ∧ w'.cell? ⟨w.heap.size, 11, none⟩ = some (.int .i64 0) ∧ Below wz.heap.size wz w')
      (first | (with_reducible exact Z) | (with_reducible exact Zb) | (with_reducible exact Zn) | (with_reducible exact keepC2 (by assumption) hg _ (by omega)) | (with_reducible exact keepC (by assumption) (belowA _ _)))
      (first
        | (go_at_call 15; refine (new_any _).mono ?_; rintro x wn ⟨rfl, hbn⟩; have qn : wz.heap.size ≤ wn.heap.size := Nat.le_trans (by simp; (try omega)) hbn.size; have Zn : wn.cell? ⟨w.heap.size, 0, none⟩ = some (.int .i64 4) ∧ wn.cell? ⟨w.heap.size, 1, none⟩ = some (.int .i64 1) ∧ wn.cell? ⟨w.heap.size, 2, none⟩ = some (.int .i64 2) ∧ wn.cell? ⟨w.heap.size, 3, none⟩ = some (.int .i64 2) ∧ wn.cell? ⟨w.heap.size, 4, none⟩ = some (.int .i64 0) ∧ wn.cell? ⟨w.heap.size, 5, none⟩ = some (.int .i64 1) ∧ wn.cell? ⟨w.heap.size, 6, none⟩ = some (.int .i64 0) ∧ wn.cell? ⟨w.heap.size, 7, none⟩ = some (.int .i64 3) ∧ wn.cell? ⟨w.heap.size, 8, none⟩ = some (.bool false) ∧ wn.cell? ⟨w.heap.size, 9, none⟩ = some (.int .i64 0) ∧ wn.cell? ⟨w.heap.size, 10, none⟩ = some (.int .i64 0) ∧ wn.cell? ⟨w.heap.size, 11, none⟩ = some (.int .i64 0) ∧ Below wz.heap.size wz wn := keepC (by assumption) hbn; (first | (with_reducible have t1 := there_keep' tA hbn) | skip); have t4 : (wn.alloc (.cells #[.int .i64 0, .int .i64 0, .int .i64 0, .int .i64 0, .slice none 0 0, .slice none 0 0, .slice none 0 0, .int .i64 0, .int .i64 0, .int .i64 0, .int .i64 0, .int .i64 0, .int .i64 0, .int .i64 0, .int .i64 0, .int .i64 0, .int .i64 0] 30)).there wn.heap.size 0 17 := th_new _ _ _ _ _ rfl rfl)
        | (go_at_call 11; refine (KB.out _).mono ?_; rintro x wb ⟨A, rfl, hsA, hfA, hbb⟩; have qb : wn.heap.size ≤ wb.heap.size := Nat.le_trans (by simp; (try omega)) hbb.size; have Zb : wb.cell? ⟨w.heap.size, 0, none⟩ = some (.int .i64 4) ∧ wb.cell? ⟨w.heap.size, 1, none⟩ = some (.int .i64 1) ∧ wb.cell? ⟨w.heap.size, 2, none⟩ = some (.int .i64 2) ∧ wb.cell? ⟨w.heap.size, 3, none⟩ = some (.int .i64 2) ∧ wb.cell? ⟨w.heap.size, 4, none⟩ = some (.int .i64 0) ∧ wb.cell? ⟨w.heap.size, 5, none⟩ = some (.int .i64 1) ∧ wb.cell? ⟨w.heap.size, 6, none⟩ = some (.int .i64 0) ∧ wb.cell? ⟨w.heap.size, 7, none⟩ = some (.int .i64 3) ∧ wb.cell? ⟨w.heap.size, 8, none⟩ = some (.bool false) ∧ wb.cell? ⟨w.heap.size, 9, none⟩ = some (.int .i64 0) ∧ wb.cell? ⟨w.heap.size, 10, none⟩ = some (.int .i64 0) ∧ wb.cell? ⟨w.heap.size, 11, none⟩ = some (.int .i64 0) ∧ Below wz.heap.size wz wb := keepC (by assumption) hbb; (first | (with_reducible have t2 := there_keep' t1 hbb) | (with_reducible have t2 := there_keep' t4 hbb) | skip)))
    all_goals go_wp2_with fail
    all_goals go_meet
    · obtain ⟨ab, ao, rfl, al, _⟩ := hsA.2 (by omega)
      exact ⟨_, _, rfl, bo_set (keepC Zb (belowA _ _)) (th_new _ _ _ _ _ rfl rfl) (hsA.later (belowA _ _)) (fun p hp => by cases hp; show ab ≠ _; omega) (by omega)⟩
    · have q3 : wn.heap.size + 1 ≤ wb.heap.size := (by have := hbb.size; simpa using this)
      exact ⟨_, _, rfl, bo_set Zb t2 hsA (fun p hp => by have := hfA p hp; simp at this; omega) (by omega)⟩
    · have q3 : wz.heap.size + 1 ≤ wn.heap.size := (by have := hbn.size; simpa using this)
      exact ⟨_, _, rfl, bo_set Zb t2 hsA (fun p hp => by have := hfA p hp; omega) (by omega)⟩
  case rest =>
    obtain ⟨k, A, rfl, R, hs, hBc⟩ := hcut
    have hBw := below_next hB hB.size hBc
    obtain ⟨q0, q1, q2, q3, q4, q5, q6, q7, q8, q9, q10, q11, q12, q13, q14, q15, q16⟩ := box17 R
    obtain ⟨ab, ao, rfl, al, ac⟩ := hs.2 (by omega)
    have a0 : wc.cell? ⟨ab, ao, none⟩ = some (.int .i64 3) := ac 0 _ rfl
    have Q1 := hide (fun d os => Calls.regrown_of (w := wc) (busy_any 1 (.int .i64 0) (.int .i64 1) (.int .i64 5) (.slice (some ⟨ab, ao, none⟩) 1 1) (.slice none 0 0) (.slice none 0 0) (.int .i64 0) (.int .i64 3) (.int .i64 0) (.int .i64 0) (.int .i64 0) (.int .i64 1) (.int .i64 0) (.int .i64 0) (.int .i64 0) (.int .i64 5) (grow (redrawn wc d) os)))
    have Q2 := hide (fun d os => Calls.regrown_of (w := wc) (new_any (grow (redrawn wc d) os)))
    have Q3 := hide (fun d os => Calls.regrown_of (w := wc) (busy_any 0 (.int .i64 0) (.int .i64 0) (.int .i64 0) (.slice none 0 0) (.slice none 0 0) (.slice none 0 0) (.int .i64 0) (.int .i64 0) (.int .i64 0) (.int .i64 0) (.int .i64 0) (.int .i64 1) (.int .i64 0) (.int .i64 0) (.int .i64 0) (.int .i64 0) (grow (redrawn wc d) os)))
    rw [show ((1 : Int) != 0) = true by decide] at Q1
    rw [show ((0 : Int) != 0) = false by decide] at Q3
    have Q4 := hide (fun d os => Calls.regrown_of (w := wc) (late_any 4 5 (.int .i64 0) (.int .i64 0) (.int .i64 0) (.int .i64 0) (.int .i64 0) (.int .i64 0) (.int .i64 0) (.int .i64 0) (.bool false) (.int .i64 0) (.int .i64 0) (.int .i64 0) (.int .i64 0) (.slice none 0 0) (.slice none 0 0) (.int .i64 1) (.int .i64 0) (.int .i64 1) (.int .i64 5) (.slice (some ⟨ab, ao, none⟩) 1 1) (.slice none 0 0) (.slice none 0 0) (.int .i64 0) (.int .i64 3) (.int .i64 0) (.int .i64 0) (.int .i64 0) (.int .i64 1) (.int .i64 0) (.int .i64 0) (.int .i64 0) (.slice none 0 0) (.int .i64 0) (.slice none 0 0) (.bool false) (grow (redrawn wc d) os)))
    rw [show lateB 5 4 = false by decide] at Q4
    have Q5 := hide (fun d os => Calls.regrown_of (w := wc) (late_any 5 5 (.int .i64 0) (.int .i64 0) (.int .i64 0) (.int .i64 0) (.int .i64 0) (.int .i64 0) (.int .i64 0) (.int .i64 0) (.bool false) (.int .i64 0) (.int .i64 0) (.int .i64 0) (.int .i64 0) (.slice none 0 0) (.slice none 0 0) (.int .i64 1) (.int .i64 0) (.int .i64 1) (.int .i64 5) (.slice (some ⟨ab, ao, none⟩) 1 1) (.slice none 0 0) (.slice none 0 0) (.int .i64 0) (.int .i64 3) (.int .i64 0) (.int .i64 0) (.int .i64 0) (.int .i64 1) (.int .i64 0) (.int .i64 0) (.int .i64 0) (.slice none 0 0) (.int .i64 0) (.slice none 0 0) (.bool false) (grow (redrawn wc d) os)))
    rw [show lateB 5 5 = true by decide] at Q5
    have C6 := fun d os => sameT_any shD shD ⟨some ⟨ab, ao, none⟩, 1, none, 0, none, 0⟩ ⟨some ⟨ab, ao, none⟩, 1, none, 0, none, 0⟩ sh_ok (grow (redrawn wc d) os) ((sh_same _ _ hs).later (below_regrown _ d os)) ((sh_same _ _ hs).later (below_regrown _ d os))
    rw [sameB_self] at C6
    have Q6 : Hid (∀ d os, Calls Try.prog 23 #[.agg #[.int .i64 1, .int .i64 0, .int .i64 1, .int .i64 5, .slice (some ⟨ab, ao, none⟩) 1 1, .slice none 0 0, .slice none 0 0, .int .i64 0, .int .i64 3, .int .i64 0, .int .i64 0, .int .i64 0, .int .i64 1, .int .i64 0, .int .i64 0, .int .i64 0, .int .i64 5], .agg #[.int .i64 1, .int .i64 0, .int .i64 1, .int .i64 5, .slice (some ⟨ab, ao, none⟩) 1 1, .slice none 0 0, .slice none 0 0, .int .i64 0, .int .i64 3, .int .i64 0, .int .i64 0, .int .i64 0, .int .i64 1, .int .i64 0, .int .i64 0, .int .i64 0, .int .i64 5]] (grow (redrawn wc d) os) fun e w'' => e = .returned (.bool true) ∧ ∃ p : Regrown, w'' = grow (redrawn wc p.d) p.os) := hide (fun d os => Calls.regrown_of (w := wc) (C6 d os))
    have C7 := fun d os => sameT_any shD newD ⟨some ⟨ab, ao, none⟩, 1, none, 0, none, 0⟩ newA sh_ok (grow (redrawn wc d) os) ((sh_same _ _ hs).later (below_regrown _ d os)) (newAt _)
    rw [sh_other] at C7
    have Q7 : Hid (∀ d os, Calls Try.prog 23 #[.agg #[.int .i64 1, .int .i64 0, .int .i64 1, .int .i64 5, .slice (some ⟨ab, ao, none⟩) 1 1, .slice none 0 0, .slice none 0 0, .int .i64 0, .int .i64 3, .int .i64 0, .int .i64 0, .int .i64 0, .int .i64 1, .int .i64 0, .int .i64 0, .int .i64 0, .int .i64 5], .agg #[.int .i64 0, .int .i64 0, .int .i64 0, .int .i64 0, .slice none 0 0, .slice none 0 0, .slice none 0 0, .int .i64 0, .int .i64 0, .int .i64 0, .int .i64 0, .int .i64 0, .int .i64 1, .int .i64 0, .int .i64 0, .int .i64 0, .int .i64 0]] (grow (redrawn wc d) os) fun e w'' => e = .returned (.bool false) ∧ ∃ p : Regrown, w'' = grow (redrawn wc p.d) p.os) := hide (fun d os => Calls.regrown_of (w := wc) (C7 d os))
    clear C6 C7
    clear R hs ac hBc hB KB Z tA R12
    go_wp2_with fail
    have a0 := cell_regrown a0
    have q0 := cell_regrown q0
    have q1 := cell_regrown q1
    have q2 := cell_regrown q2
    have q3 := cell_regrown q3
    have q4 := cell_regrown q4
    have q5 := cell_regrown q5
    have q6 := cell_regrown q6
    have q7 := cell_regrown q7
    have q8 := cell_regrown q8
    have q9 := cell_regrown q9
    have q10 := cell_regrown q10
    have q11 := cell_regrown q11
    have q12 := cell_regrown q12
    have q13 := cell_regrown q13
    have q14 := cell_regrown q14
    have q15 := cell_regrown q15
    have q16 := cell_regrown q16
    refine wp_region_quiet_below (by kernel_rfl) (by kernel_rfl) ?_
    repeat (go_big_quiet_step (first | (go_at_call 17; with_reducible exact Q1.out _ _) | (go_at_call 17; with_reducible exact Q3.out _ _) | (go_at_call 15; with_reducible exact Q2.out _ _) | (go_at_call 20; with_reducible exact Q4.out _ _) | (go_at_call 20; with_reducible exact Q5.out _ _) | (go_at_call 23; with_reducible exact Q6.out _ _) | (go_at_call 23; with_reducible exact Q7.out _ _)))
    refine wpQuiet_nil ?_
    intro _ hw'
    obtain ⟨⟨dq, osq⟩, hw''⟩ := hw'
    subst hw''
    go_wp2
    go_ret
    exact ⟨rfl, hBw.trans ((below_regrown _ dq osq).mono hBw.size)⟩
end Go.Proofs.Ytpbneghabikpdaa
