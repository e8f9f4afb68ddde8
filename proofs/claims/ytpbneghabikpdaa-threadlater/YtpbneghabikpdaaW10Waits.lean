/- The walk of ThreadWaits. -/
import Derived.Test.YtpbneghabikpdaaW10Base
import Derived.Test.YtpbneghabikpdaaCfgR
import Derived.Lib.QuietBelow
import Derived.Deep.QuietTactic
import Derived.BigQuiet
namespace Go.Proofs.Ytpbneghabikpdaa
open Go.RowKit Go.Sort
set_option linter.unusedVariables false

attribute [local go_sem ↓] ldTh_is
attribute [local go_sem] run_ldTh
attribute [local go_sem ↓] ldCf_is
attribute [local go_sem] run_ldCf

attribute [local go_sem ↓] stTh_is
attribute [local go_sem] run_stTh run_stTh_there
attribute [local go_sem] one_int one_slice one_bool th_drew th_old th_new

attribute [local go_sem ↓] bdTn_is
attribute [local go_sem] run_bdCfg
/-- A number of sixteen bits, turned into an int; one of eight. -/
theorem conv_u16 (a : Nat) (ha : a < 65536) (w : World) : (convert 69 3 (.int .u16 (a : Int))).run Try.prog w = .ok (.int .i64 (a : Int)) w := by
  have e : IntKind.i64.wrap (a : Int) = (a : Int) := IntWalk.i64_in _ (by omega)
  have h1 := Try.underlying69
  have h2 := Try.underlying3
  simp [convert, Conv.intToInt, run_underlying h1, run_underlying h2, e]

theorem waits_math (a m x7 n2 : Int) (h7 : 0 ≤ x7 ∧ x7 ≤ 1000) (ha : 0 ≤ a ∧ a < 65536) (hm : 0 ≤ m ∧ m < 2000) (hn : n2 = a + m) : lateB (untilV a x7) n2 = (decide (0 < x7) && decide (x7 ≤ m)) := by
  subst hn
  unfold lateB untilV
  by_cases h : x7 ≤ 0
  · rw [if_pos h]; simp; omega
  · rw [if_neg h, wrap64_id (by unfold I64; omega)]
    have e1 : decide (0 < a + x7) = true := decide_eq_true (by omega)
    have e2 : decide (0 < x7) = true := decide_eq_true (by omega)
    rw [e1, e2, Bool.true_and, Bool.true_and]
    exact decide_eq_decide.2 (by omega)

set_option maxRecDepth 100000 in
set_option maxHeartbeats 4000000 in
theorem walkWaits (x0 x1 x2 x3 x4 x5 x6 x7 : Int) (b : Bool) (x9 x10 x11 : Int) (a c : Nat) (ha : a < 65536) (hc : c < 65536) (w : World) :
    Calls Try.prog 5 #[.agg #[.int .i64 x0, .int .i64 x1, .int .i64 x2, .int .i64 x3, .int .i64 x4, .int .i64 x5, .int .i64 x6, .int .i64 x7, .bool b, .int .i64 x9, .int .i64 x10, .int .i64 x11], .int .u16 (a : Int), .int .u16 (c : Int)] w (BoolPost true w) := by
  have hB : Below w.heap.size w (w.alloc (.cells #[.int .i64 x0, .int .i64 x1, .int .i64 x2, .int .i64 x3, .int .i64 x4, .int .i64 x5, .int .i64 x6, .int .i64 x7, .bool b, .int .i64 x9, .int .i64 x10, .int .i64 x11] 23)) := belowA _ _
  have R12 : (w.alloc (.cells #[.int .i64 x0, .int .i64 x1, .int .i64 x2, .int .i64 x3, .int .i64 x4, .int .i64 x5, .int .i64 x6, .int .i64 x7, .bool b, .int .i64 x9, .int .i64 x10, .int .i64 x11] 23)).rangeAt w.heap.size 0 [.int .i64 x0, .int .i64 x1, .int .i64 x2, .int .i64 x3, .int .i64 x4, .int .i64 x5, .int .i64 x6, .int .i64 x7, .bool b, .int .i64 x9, .int .i64 x10, .int .i64 x11] := range_new w [.int .i64 x0, .int .i64 x1, .int .i64 x2, .int .i64 x3, .int .i64 x4, .int .i64 x5, .int .i64 x6, .int .i64 x7, .bool b, .int .i64 x9, .int .i64 x10, .int .i64 x11] 23
  obtain ⟨e, he⟩ : ∃ e, ckV x0 x1 x2 x3 x4 x5 x6 x7 b x9 x10 x11 = e := ⟨_, rfl⟩
  have KR := hide (rcheck_any x0 x1 x2 x3 x4 x5 x6 x7 b x9 x10 x11)
  rw [he] at KR
  by_cases h0 : e = 0
  · subst h0
    have OK := hide ((ck_ok x0 x1 x2 x3 x4 x5 x6 x7 b x9 x10 x11).1 he)
    have ct1 := fun w => conv_u16 a ha w
    have ct2 := fun w => conv_u16 c hc w
    obtain ⟨m, hm, hm0⟩ : ∃ m : Int, (c : Int).tmod 2000 = m ∧ (0 ≤ m ∧ m < 2000) := ⟨_, rfl, by rw [Int.tmod_eq_emod_of_nonneg (by omega)]; omega⟩
    obtain ⟨n2, e1, e2, e3⟩ : ∃ n2 : Int, wrap64 ((a : Int) + m) = n2 ∧ IntKind.i64.wrap ((a : Int) + m) = n2 ∧ Hid (n2 = (a : Int) + m) := ⟨(a : Int) + m, wrap64_id (by unfold I64; omega), IntWalk.i64_in _ (by omega), rfl⟩
    have ML := hide (waits_math (a : Int) m x7 n2 OK.out.h7 (by omega) hm0 e3.out)
    have KB := hide (fun w => begin_any x3 x7 0 1 0 1 1 (a : Int) (.int .i64 x0) (.int .i64 x1) (.int .i64 x2) (.int .i64 x4) (.int .i64 x5) (.int .i64 x6) (.bool b) (.int .i64 x9) (.int .i64 x10) (.int .i64 x11) (.int .i64 0) (.int .i64 0) (.int .i64 0) (.int .i64 0) (.slice none 0 0) (.slice none 0 0) (.slice none 0 0) (.int .i64 0) (.int .i64 0) (.int .i64 0) (.int .i64 0) (.int .i64 0) (.int .i64 0) (.int .i64 0) (.int .i64 0) (.int .i64 0) OK.out.h3 (by omega) (by unfold I64; omega) w)
    clear hm0 e3 OK ha hc he
    obtain ⟨p0, p1, p2, p3, p4, p5, p6, p7, p8, p9, p10, p11⟩ := box12 R12
    go_enter Try.func5, Try.ntmps5
    go_wp2_with fail
    refine (KR.out _).mono ?_
    rintro x w1 ⟨rfl, hb⟩
    replace R12 := range_keep R12 hb
    replace hB := below_next hB hB.size hb
    clear hb KR p0 p1 p2 p3 p4 p5 p6 p7 p8 p9 p10 p11
    go_wp2_with fail
    refine (shown10_any _).mono ?_
    rintro x w2 ⟨rfl, hb⟩
    replace R12 := range_keep R12 hb
    replace hB := below_next hB hB.size hb
    clear hb
    go_upto_region 4 with fail
    have hg : w.heap.size < w2.heap.size := World.block_lt_of_cell? w2 _ (rg R12 0 rfl)
    have Z : w2.drew.cell? ⟨w.heap.size, 0, none⟩ = some (.int .i64 x0) ∧ w2.drew.cell? ⟨w.heap.size, 1, none⟩ = some (.int .i64 x1) ∧ w2.drew.cell? ⟨w.heap.size, 2, none⟩ = some (.int .i64 x2) ∧ w2.drew.cell? ⟨w.heap.size, 3, none⟩ = some (.int .i64 x3) ∧ w2.drew.cell? ⟨w.heap.size, 4, none⟩ = some (.int .i64 x4) ∧ w2.drew.cell? ⟨w.heap.size, 5, none⟩ = some (.int .i64 x5) ∧ w2.drew.cell? ⟨w.heap.size, 6, none⟩ = some (.int .i64 x6) ∧ w2.drew.cell? ⟨w.heap.size, 7, none⟩ = some (.int .i64 x7) ∧ w2.drew.cell? ⟨w.heap.size, 8, none⟩ = some (.bool b) ∧ w2.drew.cell? ⟨w.heap.size, 9, none⟩ = some (.int .i64 x9) ∧ w2.drew.cell? ⟨w.heap.size, 10, none⟩ = some (.int .i64 x10) ∧ w2.drew.cell? ⟨w.heap.size, 11, none⟩ = some (.int .i64 x11) ∧ Below w2.heap.size w2 w2.drew := ⟨rg R12 0 rfl, rg R12 1 rfl, rg R12 2 rfl, rg R12 3 rfl, rg R12 4 rfl, rg R12 5 rfl, rg R12 6 rfl, rg R12 7 rfl, rg R12 8 rfl, rg R12 9 rfl, rg R12 10 rfl, rg R12 11 rfl, belowD w2⟩
    have tA : (w2.alloc (.cells #[.int .i64 0, .int .i64 0, .int .i64 0, .int .i64 0, .slice none 0 0, .slice none 0 0, .slice none 0 0, .int .i64 0, .int .i64 0, .int .i64 0, .int .i64 0, .int .i64 0, .int .i64 0, .int .i64 0, .int .i64 0, .int .i64 0, .int .i64 0] 30)).drew.there w2.heap.size 0 17 := th_drew _ _ _ (th_new _ _ _ _ _ rfl rfl)
    go_cut [8] from 9 (fun p wc => ∃ k A, p = .pointer (some ⟨k, 0, none⟩) ∧ wc.rangeAt k 0 [.int .i64 1, .int .i64 0, .int .i64 1, .int .i64 1, .slice A 1 1, .slice none 0 0, .slice none 0 0, .int .i64 0, .int .i64 (leafV x3 0), .int .i64 0, .int .i64 0, .int .i64 0, .int .i64 1, .int .i64 0, .int .i64 0, .int .i64 0, .int .i64 (untilV (a : Int) x7)] ∧ Sees wc wc.heap.size 3 A 1 (ecells [(0, 1, 1)]) ∧ Below w2.heap.size w2 wc)
    case first =>
      go_region_held3 (fun w' => w'.cell? ⟨w.heap.size, 0, none⟩ = some (.int .i64 x0) ∧ w'.cell? ⟨w.heap.size, 1, none⟩ = some (.int .i64 x1) ∧ w'.cell? ⟨w.heap.size, 2, none⟩ = some (.int .i64 x2) ∧ w'.cell? ⟨w.heap.size, 3, none⟩ = some (.int .i64 x3) ∧ w'.cell? ⟨w.heap.size, 4, none⟩ = some (.int .i64 x4) ∧ w'.cell? ⟨w.heap.size, 5, none⟩ = some (.int .i64 x5) ∧ w'.cell? ⟨w.heap.size, 6, none⟩ = some (.int .i64 x6) ∧ w'.cell? ⟨w.heap.size, 7, none⟩ = some (.int .i64 x7) ∧ w'.cell? ⟨w.heap.size, 8, none⟩ = some (.bool b) ∧ w'.cell? ⟨w.heap.size, 9, none⟩ = some (.int .i64 x9) ∧ w'.cell? ⟨w.heap.size, 10, none⟩ = some (.int .i64 x10) ∧ w'.cell? ⟨w.heap.size, 11, none⟩ = some (.int .i64 x11) ∧ Below w2.heap.size w2 w')
        (first | (with_reducible exact Z) | (with_reducible exact Zb) | (with_reducible exact Zn) | (with_reducible exact keepC2 (by assumption) hg _ (by omega)) | (with_reducible exact keepC (by assumption) (belowA _ _)))
        (first
          | (go_at_call 15; refine (new_any _).mono ?_; rintro x wn ⟨rfl, hbn⟩; have qn : w2.heap.size ≤ wn.heap.size := Nat.le_trans (by simp; (try omega)) hbn.size; have Zn : wn.cell? ⟨w.heap.size, 0, none⟩ = some (.int .i64 x0) ∧ wn.cell? ⟨w.heap.size, 1, none⟩ = some (.int .i64 x1) ∧ wn.cell? ⟨w.heap.size, 2, none⟩ = some (.int .i64 x2) ∧ wn.cell? ⟨w.heap.size, 3, none⟩ = some (.int .i64 x3) ∧ wn.cell? ⟨w.heap.size, 4, none⟩ = some (.int .i64 x4) ∧ wn.cell? ⟨w.heap.size, 5, none⟩ = some (.int .i64 x5) ∧ wn.cell? ⟨w.heap.size, 6, none⟩ = some (.int .i64 x6) ∧ wn.cell? ⟨w.heap.size, 7, none⟩ = some (.int .i64 x7) ∧ wn.cell? ⟨w.heap.size, 8, none⟩ = some (.bool b) ∧ wn.cell? ⟨w.heap.size, 9, none⟩ = some (.int .i64 x9) ∧ wn.cell? ⟨w.heap.size, 10, none⟩ = some (.int .i64 x10) ∧ wn.cell? ⟨w.heap.size, 11, none⟩ = some (.int .i64 x11) ∧ Below w2.heap.size w2 wn := keepC (by assumption) hbn; (first | (with_reducible have t1 := there_keep' tA hbn) | skip); have t4 : (wn.alloc (.cells #[.int .i64 0, .int .i64 0, .int .i64 0, .int .i64 0, .slice none 0 0, .slice none 0 0, .slice none 0 0, .int .i64 0, .int .i64 0, .int .i64 0, .int .i64 0, .int .i64 0, .int .i64 0, .int .i64 0, .int .i64 0, .int .i64 0, .int .i64 0] 30)).there wn.heap.size 0 17 := th_new _ _ _ _ _ rfl rfl)
          | (go_at_call 11; refine (KB.out _).mono ?_; rintro x wb ⟨A, rfl, hsA, hfA, hbb⟩; have qb : wn.heap.size ≤ wb.heap.size := Nat.le_trans (by simp; (try omega)) hbb.size; have Zb : wb.cell? ⟨w.heap.size, 0, none⟩ = some (.int .i64 x0) ∧ wb.cell? ⟨w.heap.size, 1, none⟩ = some (.int .i64 x1) ∧ wb.cell? ⟨w.heap.size, 2, none⟩ = some (.int .i64 x2) ∧ wb.cell? ⟨w.heap.size, 3, none⟩ = some (.int .i64 x3) ∧ wb.cell? ⟨w.heap.size, 4, none⟩ = some (.int .i64 x4) ∧ wb.cell? ⟨w.heap.size, 5, none⟩ = some (.int .i64 x5) ∧ wb.cell? ⟨w.heap.size, 6, none⟩ = some (.int .i64 x6) ∧ wb.cell? ⟨w.heap.size, 7, none⟩ = some (.int .i64 x7) ∧ wb.cell? ⟨w.heap.size, 8, none⟩ = some (.bool b) ∧ wb.cell? ⟨w.heap.size, 9, none⟩ = some (.int .i64 x9) ∧ wb.cell? ⟨w.heap.size, 10, none⟩ = some (.int .i64 x10) ∧ wb.cell? ⟨w.heap.size, 11, none⟩ = some (.int .i64 x11) ∧ Below w2.heap.size w2 wb := keepC (by assumption) hbb; (first | (with_reducible have t2 := there_keep' t1 hbb) | (with_reducible have t2 := there_keep' t4 hbb) | skip)))
      all_goals go_wp2_with fail
      all_goals go_meet
      · obtain ⟨ab, ao, rfl, al, _⟩ := hsA.2 (by omega)
        exact ⟨_, _, rfl, bo_set (keepC Zb (belowA _ _)) (th_new _ _ _ _ _ rfl rfl) (hsA.later (belowA _ _)) (fun p hp => by cases hp; show ab ≠ _; omega) (by omega)⟩
      · have q3 : wn.heap.size + 1 ≤ wb.heap.size := (by have := hbb.size; simpa using this)
        exact ⟨_, _, rfl, bo_set Zb t2 hsA (fun p hp => by have := hfA p hp; simp at this; omega) (by omega)⟩
      · have q3 : w2.heap.size + 1 ≤ wn.heap.size := (by have := hbn.size; simpa using this)
        exact ⟨_, _, rfl, bo_set Zb t2 hsA (fun p hp => by have := hfA p hp; omega) (by omega)⟩
    case rest =>
      obtain ⟨k, A, rfl, R, hs, hBc⟩ := hcut
      replace R12 := range_keep R12 hBc
      obtain ⟨p0, p1, p2, p3, p4, p5, p6, p7, p8, p9, p10, p11⟩ := box12 R12
      obtain ⟨q0, q1, q2, q3, q4, q5, q6, q7, q8, q9, q10, q11, q12, q13, q14, q15, q16⟩ := box17 R
      have KL := hide (fun w => late_any n2 (untilV (a : Int) x7) (.int .i64 x0) (.int .i64 x1) (.int .i64 x2) (.int .i64 x3) (.int .i64 x4) (.int .i64 x5) (.int .i64 x6) (.int .i64 x7) (.bool b) (.int .i64 x9) (.int .i64 x10) (.int .i64 x11) (.int .i64 0) (.slice none 0 0) (.slice none 0 0) (.int .i64 1) (.int .i64 0) (.int .i64 1) (.int .i64 1) (.slice A 1 1) (.slice none 0 0) (.slice none 0 0) (.int .i64 0) (.int .i64 (leafV x3 0)) (.int .i64 0) (.int .i64 0) (.int .i64 0) (.int .i64 1) (.int .i64 0) (.int .i64 0) (.int .i64 0) (.slice none 0 0) (.int .i64 0) (.slice none 0 0) (.bool false) w)
      rw [ML.out] at KL
      have hBw := below_next hB hB.size hBc
      clear ML hBc hs R KB Z tA hg hB
      go_wp2_with fail
      refine (KL.out _).mono ?_
      rintro x w3 ⟨rfl, hb⟩
      have p7 := cell_keep p7 hb
      replace hBw := below_next hBw hBw.size hb
      clear hb KL
      by_cases h7 : 0 < x7
      · by_cases h8 : x7 ≤ m
        · rw [decide_eq_true h7, decide_eq_true h8]
          go_wp2
          go_ret
          exact ⟨(by simp <;> omega), hBw⟩
        · rw [decide_eq_true h7, decide_eq_false h8]
          go_wp2
          go_ret
          exact ⟨(by simp <;> omega), hBw⟩
      · rw [decide_eq_false h7]
        go_wp2
        go_ret
        exact ⟨(by simp <;> omega), hBw⟩
  · have h1 : (e != 0) = true := bne_iff_ne.2 h0
    obtain ⟨p0, p1, p2, p3, p4, p5, p6, p7, p8, p9, p10, p11⟩ := box12 R12
    clear R12
    go_enter Try.func5, Try.ntmps5
    go_wp2_with fail
    refine (KR.out _).mono ?_
    rintro x w1 ⟨rfl, hb⟩
    replace hB := below_next hB hB.size hb
    clear hb KR
    go_wp2_with fail
    refine (shown10_any _).mono ?_
    rintro x w2 ⟨rfl, hb⟩
    replace hB := below_next hB hB.size hb
    go_wp2
    go_ret
    exact ⟨rfl, hB⟩
end Go.Proofs.Ytpbneghabikpdaa
