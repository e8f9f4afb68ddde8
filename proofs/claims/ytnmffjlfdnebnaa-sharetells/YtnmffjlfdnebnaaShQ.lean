/- The document's Settle and Step: those that wait. -/
import Derived.Test.YtnmffjlfdnebnaaShZ
import Derived.Test.YtnmffjlfdnebnaaM2
import Derived.Test.YtnmffjlfdnebnaaM6
import Derived.Lib.QuietBelow
import Derived.Deep.QuietTactic
import Derived.BigQuiet
import Derived.Deep.RegionHeld3
namespace Go.Proofs.Ytnmffjlfdnebnaa
open Go.RowKit Go.Sort
set_option linter.unusedVariables false
set_option linter.unusedSimpArgs false

attribute [local irreducible] tcs thc ccs zT
attribute [local go_sem ↓] alTn_is alRn_is alMo_is
attribute [local go_sem] run_alTnf run_alTnt run_alRnf run_alRnt run_alMof run_alMot zT_length
attribute [local go_sem ↓] lbTn_is lbRn_is lbMo_is lbTh_is lbRh_is lbCf_is lbRc_is sbTn_is sbRn_is sbMo_is sbTh_is sbRh_is sbCf_is sbRc_is
attribute [local go_sem] run_lbTn run_lbRn run_lbMo run_lbTh run_lbRh run_lbCf run_lbRc run_sbTn run_sbRn run_sbMo run_sbTh run_sbRh run_sbCf run_sbRc
attribute [local go_sem 2000] boxOf_old'
attribute [local go_sem] boxOf_at' boxOf_free' boxOf_alloc objBox_cells objBox_cellsA boxOf_drew boxOf_setI boxOf_setsI size_sets tcs_length thc_length ccs_length tcs_one thc_one ccs_one sub_tn sub_th sub_cf sub_thAll sub_cfAll put_turn put_thread
attribute [local go_sem] tc0 tc1 tc2 tc3 tc4 tc5 tc6 tc7 tc8 tc9 tc10 tc11 tc12 tc13 tc14 tc15 tc16 tc17 tc18 tc19 tc20 tc21 tc22 tc23 tc24 tc25 tc26 tc27 tc28 tc29 tc30 tc31 tc32 tc33 tc34 tc35 tc36 hc0 hc1 hc2 hc3 hc4 hc5 hc6 hc7 hc8 hc9 hc10 hc11 hc12 hc13 hc14 hc15 hc16 kc0 kc1 kc2 kc3 kc4 kc5 kc6 kc7 kc8 kc9 kc10 kc11 tg0 tg1 tg2 tg3 tg4 tg5 tg6 tg7 tg8 tg9 tg10 tg11 tg12 tg13 tg14 tg15 tg16 tg17 tg18 tg19 tg20 tg21 tg22 tg23 tg24 tg25 tg26 tg27 tg28 tg29 tg30 tg31 tg32 tg33 tg34 tg35 tg36 hg0 hg1 hg2 hg3 hg4 hg5 hg6 hg7 hg8 hg9 hg10 hg11 hg12 hg13 hg14 hg15 hg16 kg0 kg1 kg2 kg3 kg4 kg5 kg6 kg7 kg8 kg9 kg10 kg11
attribute [local go_sem] ts12 ts13 ts14 ts16 ts17 ts18 ts19 ts20 ts21 ts22 ts23 ts24 ts25 ts26 ts27 ts28 ts29 ts30 ts31 ts32 ts33 ts34 ts35 ts36 ts15 hs0 hs1 hs2 hs3 hs7 hs8 hs9 hs10 hs11 hs12 hs13 hs14 hs15 hs16

theorem ent_rf (w : World) (u : Tn) (a : TA) : boxOf ((w.alloc (.cells (tcs u a).toArray 55)).alloc (.cells zT.toArray 55)) w.heap.size = some (tcs u a) ∧ boxOf ((w.alloc (.cells (tcs u a).toArray 55)).alloc (.cells zT.toArray 55)) (w.heap.size + 1) = some zT ∧ w.heap.size + 1 < ((w.alloc (.cells (tcs u a).toArray 55)).alloc (.cells zT.toArray 55)).heap.size ∧ Below w.heap.size w ((w.alloc (.cells (tcs u a).toArray 55)).alloc (.cells zT.toArray 55)) :=
  ⟨by simp [go_sem], by simp [go_sem], by simp [go_sem], (belowN w _).alloc (by simp) _⟩
set_option maxRecDepth 100000 in
set_option maxHeartbeats 4000000 in
theorem rsettle_any (u : Tn) (a : TA) (w : World) : Calls Try.prog 16 #[.agg (tcs u a).toArray] w (TPost (setlV u) a w) := by
  obtain ⟨B1, B2, hs, hB⟩ := ent_rf w u a
  go_enter Try.func16, Try.ntmps16
  by_cases h0 : 0 ≤ u.d.pl
  · by_cases h1 : u.d.pl < (u.d.kl.length : Int)
    · have H : Hid (setlV u = { u with d := { u.d with ph := 15 } }) := hide (by rw [setlV, if_pos (by simp [kidB, inR, h0, h1])])
      go_wp2_with fail
      refine bodyPost_ret (v := .agg (tcs { u with d := { u.d with ph := 15 } } a).toArray) (results_box Try.results16 _ _ (w.heap.size + 1) _ _ rfl (by simp [go_sem]) Try.underlying55 rfl (by kernel_rfl)) rfl ⟨by rw [H.out], ?_⟩
      clear hB
      have hB := Below.refl w.heap.size w
      repeat first | exact hB | refine below_sets _ (by omega) _ _ _ _ ?_ | refine Below.setCell ?_ (by first | omega | (simp; omega) | simp) _ | refine Below.alloc ?_ (by first | omega | (simp; omega) | simp) _
    · have H : Hid (setlV u = { u with d := { u.d with ph := 0 }, dn := true }) := hide (by rw [setlV, if_neg (by simp [kidB, inR]; omega)])
      go_wp2_with fail
      refine bodyPost_ret (v := .agg (tcs { u with d := { u.d with ph := 0 }, dn := true } a).toArray) (results_box Try.results16 _ _ (w.heap.size + 1) _ _ rfl (by simp [go_sem]) Try.underlying55 rfl (by kernel_rfl)) rfl ⟨by rw [H.out], ?_⟩
      clear hB
      have hB := Below.refl w.heap.size w
      repeat first | exact hB | refine below_sets _ (by omega) _ _ _ _ ?_ | refine Below.setCell ?_ (by first | omega | (simp; omega) | simp) _ | refine Below.alloc ?_ (by first | omega | (simp; omega) | simp) _
  · have H : Hid (setlV u = { u with d := { u.d with ph := 0 }, dn := true }) := hide (by rw [setlV, if_neg (by simp [kidB, inR]; omega)])
    go_wp2_with fail
    refine bodyPost_ret (v := .agg (tcs { u with d := { u.d with ph := 0 }, dn := true } a).toArray) (results_box Try.results16 _ _ (w.heap.size + 1) _ _ rfl (by simp [go_sem]) Try.underlying55 rfl (by kernel_rfl)) rfl ⟨by rw [H.out], ?_⟩
    clear hB
    have hB := Below.refl w.heap.size w
    repeat first | exact hB | refine below_sets _ (by omega) _ _ _ _ ?_ | refine Below.setCell ?_ (by first | omega | (simp; omega) | simp) _ | refine Below.alloc ?_ (by first | omega | (simp; omega) | simp) _
/-- A turn, as it lies, and a bool. -/
def TBPost (u : Tn) (b : Bool) (a : TA) (w : World) (e : Ending) (w' : World) : Prop := e = .returned (.tuple #[.agg (tcs u a).toArray, .bool b]) ∧ Below w.heap.size w w'
set_option maxRecDepth 100000 in
set_option maxHeartbeats 4000000 in
theorem rstep_13 (u : Tn) (a : TA) (o : TnOk u) (w : World) (h : TnAt w u a) (hph : u.d.ph = 13) : Calls Try.prog 12 #[.agg (tcs u a).toArray] w (TBPost (waitV u) true a w) := by
  obtain ⟨B1, B2, hs, hB⟩ := ent_rf w u a
  have h0 := h
  replace h := h.later hB
  go_enter Try.func12, Try.ntmps12
  go_wp2_with fail
  clear hph
  generalize ((w.alloc (.cells (tcs u a).toArray 55)).alloc (.cells zT.toArray 55)) = wz at *
  have Q1 := hide (fun d os => Calls.regrown_of (w := wz) (rline_tn u.c o.c u.tt o.tt (grow (redrawn wz d) os)))
  have Q2 := hide (fun d os => Calls.regrown_of (w := wz) (rload_any a.mA a.mB a.mc a.md u.ws a.bs (lnV u.c u.tt) (grow (redrawn wz d) os) (h.m.later (below_regrown wz d os))))
  obtain ⟨lv, hlv⟩ : ∃ x, ldV u.ws (lnV u.c u.tt) = x := ⟨_, rfl⟩
  have he : erV u.ws.length (lnV u.c u.tt) = 0 ∨ erV u.ws.length (lnV u.c u.tt) = 30 := by unfold erV; split <;> simp
  rw [hlv] at Q2
  have RB1 := fun d os => boxOf_keep B1 (below_regrown wz d os)
  have RB2 := fun d os => boxOf_keep B2 (below_regrown wz d os)
  refine wp_region_quiet_below (by kernel_rfl) (by kernel_rfl) ?_
  repeat (go_big_quiet_step (first | (go_at_call 21; exact Q1.out _ _) | (go_at_call 30; exact Q2.out _ _)))
  refine wpQuiet_nil ?_
  intro _ hw'
  obtain ⟨⟨dq, osq⟩, hw''⟩ := hw'
  subst hw''
  replace B1 := RB1 dq osq
  clear RB1
  replace B2 := RB2 dq osq
  clear RB2
  replace h := h.later (below_regrown wz dq osq)
  replace hB := below_next hB hB.size (below_regrown wz dq osq)
  replace hs := Nat.lt_of_lt_of_le hs (below_regrown wz dq osq).size
  generalize grow (redrawn wz dq) osq = wq at *
  clear Q1 Q2
  rcases he with he | he
  · rw [he]
    by_cases h5 : lv = 5
    · subst h5
      have H : Hid (waitV u = { u with d := { u.d with ph := 14 } }) := hide (by rw [waitV, if_pos ⟨he, hlv⟩])
      clear he hlv
      go_wp2_with (go_at_call 31; refine (rtold_any _).mono ?_; rintro e wt ⟨rfl, rfl⟩)
      refine bodyPost_ret (v := .tuple #[.agg (tcs { u with d := { u.d with ph := 14 } } a).toArray, .bool true]) (results_box2 Try.results12 _ _ (w.heap.size + 1) _ _ _ rfl rfl (by simp [go_sem, B1, B2]) Try.underlying55 rfl (by kernel_rfl)) rfl ⟨by rw [H.out], ?_⟩
      repeat first | exact hB | refine below_sets _ (by omega) _ _ _ _ ?_ | refine Below.setCell ?_ (by first | omega | (simp; omega) | simp) _ | refine Below.alloc ?_ (by first | omega | (simp; omega) | simp) _
    · have H : Hid (waitV u = u) := hide (by rw [waitV, if_neg (by rw [hlv]; exact fun e => h5 e.2)])
      clear he hlv
      go_wp2_with (go_at_call 31; refine (rtold_any _).mono ?_; rintro e wt ⟨rfl, rfl⟩)
      refine bodyPost_ret (v := .tuple #[.agg (tcs u a).toArray, .bool true]) (results_box2 Try.results12 _ _ (w.heap.size + 1) _ _ _ rfl rfl (by simp [go_sem, B1, B2]) Try.underlying55 rfl (by kernel_rfl)) rfl ⟨by rw [H.out], ?_⟩
      repeat first | exact hB | refine below_sets _ (by omega) _ _ _ _ ?_ | refine Below.setCell ?_ (by first | omega | (simp; omega) | simp) _ | refine Below.alloc ?_ (by first | omega | (simp; omega) | simp) _
  · have H : Hid (waitV u = u) := hide (by rw [waitV, if_neg (by rw [he]; exact fun e => by simp at e)])
    rw [he]
    clear he hlv
    go_wp2
    refine bodyPost_ret (v := .tuple #[.agg (tcs u a).toArray, .bool true]) (results_box2 Try.results12 _ _ (w.heap.size + 1) _ _ _ rfl rfl (by simp [go_sem, B1, B2]) Try.underlying55 rfl (by kernel_rfl)) rfl ⟨by rw [H.out], ?_⟩
    repeat first | exact hB | refine below_sets _ (by omega) _ _ _ _ ?_ | refine Below.setCell ?_ (by first | omega | (simp; omega) | simp) _ | refine Below.alloc ?_ (by first | omega | (simp; omega) | simp) _
set_option maxRecDepth 100000 in
set_option maxHeartbeats 4000000 in
theorem rstep_14 (u : Tn) (a : TA) (o : TnOk u) (w : World) (h : TnAt w u a) (hph : u.d.ph = 14) : Calls Try.prog 12 #[.agg (tcs u a).toArray] w (TBPost (fetV u) true a w) := by
  obtain ⟨B1, B2, hs, hB⟩ := ent_rf w u a
  have h0 := h
  replace h := h.later hB
  go_enter Try.func12, Try.ntmps12
  go_wp2_with fail
  clear hph
  generalize ((w.alloc (.cells (tcs u a).toArray 55)).alloc (.cells zT.toArray 55)) = wz at *
  have Q1 := hide (fun d os => Calls.regrown_of (w := wz) (rresult_tn u.c o.c u.tt o.tt (grow (redrawn wz d) os)))
  have Q2 := hide (fun d os => Calls.regrown_of (w := wz) (rload_any a.mA a.mB a.mc a.md u.ws a.bs (rsV u.c u.tt) (grow (redrawn wz d) os) (h.m.later (below_regrown wz d os))))
  obtain ⟨lv, hlv⟩ : ∃ x, ldV u.ws (rsV u.c u.tt) = x := ⟨_, rfl⟩
  have he : erV u.ws.length (rsV u.c u.tt) = 0 ∨ erV u.ws.length (rsV u.c u.tt) = 30 := by unfold erV; split <;> simp
  rw [hlv] at Q2
  have RB1 := fun d os => boxOf_keep B1 (below_regrown wz d os)
  have RB2 := fun d os => boxOf_keep B2 (below_regrown wz d os)
  refine wp_region_quiet_below (by kernel_rfl) (by kernel_rfl) ?_
  repeat (go_big_quiet_step (first | (go_at_call 25; exact Q1.out _ _) | (go_at_call 30; exact Q2.out _ _)))
  refine wpQuiet_nil ?_
  intro _ hw'
  obtain ⟨⟨dq, osq⟩, hw''⟩ := hw'
  subst hw''
  replace B1 := RB1 dq osq
  clear RB1
  replace B2 := RB2 dq osq
  clear RB2
  replace h := h.later (below_regrown wz dq osq)
  replace hB := below_next hB hB.size (below_regrown wz dq osq)
  replace hs := Nat.lt_of_lt_of_le hs (below_regrown wz dq osq).size
  generalize grow (redrawn wz dq) osq = wq at *
  clear Q1 Q2
  rcases he with he | he
  · have H : Hid (fetV u = setlV { u with d := { u.d with x := lv, pl := 0 } }) := hide (by rw [fetV, if_pos he, hlv])
    rw [he]
    clear he hlv
    go_wp2_with fail
    refine (rsettle_any { u with d := { u.d with x := lv, pl := 0 } } a _).mono ?_
    rintro e w1 ⟨rfl, hb1⟩
    have B2n := boxOf_keep (g := w.heap.size + 1) (cs := zT) (by simp [go_sem, B1, B2]) hb1
    replace hB : Below w.heap.size w w1 := below_next (by repeat first | exact hB | refine below_sets _ (by omega) _ _ _ _ ?_ | refine Below.setCell ?_ (by first | omega | (simp; omega) | simp) _ | refine Below.alloc ?_ (by first | omega | (simp; omega) | simp) _) (by simp; omega) hb1
    clear hb1 B1 B2
    have B1 := B2n
    have B2 := B2n
    go_wp2
    refine bodyPost_ret (v := .tuple #[.agg (tcs (setlV { u with d := { u.d with x := lv, pl := 0 } }) a).toArray, .bool true]) (results_box2 Try.results12 _ _ (w.heap.size + 1) _ _ _ rfl rfl (by simp [go_sem, B1, B2]) Try.underlying55 rfl (by kernel_rfl)) rfl ⟨by rw [H.out], ?_⟩
    repeat first | exact hB | refine below_sets _ (by omega) _ _ _ _ ?_ | refine Below.setCell ?_ (by first | omega | (simp; omega) | simp) _ | refine Below.alloc ?_ (by first | omega | (simp; omega) | simp) _
  · have H : Hid (fetV u = u) := hide (by rw [fetV, if_neg (by rw [he]; decide)])
    rw [he]
    clear he hlv
    go_wp2
    refine bodyPost_ret (v := .tuple #[.agg (tcs u a).toArray, .bool true]) (results_box2 Try.results12 _ _ (w.heap.size + 1) _ _ _ rfl rfl (by simp [go_sem, B1, B2]) Try.underlying55 rfl (by kernel_rfl)) rfl ⟨by rw [H.out], ?_⟩
    repeat first | exact hB | refine below_sets _ (by omega) _ _ _ _ ?_ | refine Below.setCell ?_ (by first | omega | (simp; omega) | simp) _ | refine Below.alloc ?_ (by first | omega | (simp; omega) | simp) _
set_option maxRecDepth 100000 in
set_option maxHeartbeats 4000000 in
theorem rstep_no (u : Tn) (a : TA) (w : World) (h3 : u.d.ph ≠ 13) (h4 : u.d.ph ≠ 14) (h5 : u.d.ph ≠ 15) (h6 : u.d.ph ≠ 16) : Calls Try.prog 12 #[.agg (tcs u a).toArray] w (TBPost u false a w) := by
  obtain ⟨B1, B2, hs, hB⟩ := ent_rf w u a
  have k3 : (u.d.ph == 13) = false := beq_eq_false_iff_ne.2 h3
  have k4 : (u.d.ph == 14) = false := beq_eq_false_iff_ne.2 h4
  have k5 : (u.d.ph == 15) = false := beq_eq_false_iff_ne.2 h5
  have k6 : (u.d.ph == 16) = false := beq_eq_false_iff_ne.2 h6
  go_enter Try.func12, Try.ntmps12
  go_wp2
  refine bodyPost_ret (v := .tuple #[.agg (tcs u a).toArray, .bool false]) (results_box2 Try.results12 _ _ (w.heap.size + 1) _ _ _ rfl rfl (by simp [go_sem]) Try.underlying55 rfl (by kernel_rfl)) rfl ⟨rfl, ?_⟩
  clear hB
  have hB := Below.refl w.heap.size w
  repeat first | exact hB | refine below_sets _ (by omega) _ _ _ _ ?_ | refine Below.setCell ?_ (by first | omega | (simp; omega) | simp) _ | refine Below.alloc ?_ (by first | omega | (simp; omega) | simp) _
end Go.Proofs.Ytnmffjlfdnebnaa
