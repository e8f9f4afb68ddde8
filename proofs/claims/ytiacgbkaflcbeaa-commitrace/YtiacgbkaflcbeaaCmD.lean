/- The contract of look. -/
import Derived.Test.YtiacgbkaflcbeaaCmC
import Derived.Test.YtiacgbkaflcbeaaCmA
import Derived.Test.YtiacgbkaflcbeaaM2
import Derived.Lib.QuietBelow
import Derived.Deep.QuietTactic
import Derived.BigQuiet
import Derived.Deep.RegionHeld3
namespace Go.Proofs.Ytiacgbkaflcbeaa
open Go.RowKit Go.Sort
set_option linter.unusedVariables false
set_option linter.unusedSimpArgs false

attribute [local irreducible] tcs thc ccs zT
attribute [local go_sem ↓] alTn_is
attribute [local go_sem] run_alTnf run_alTnt zT_length
attribute [local go_sem ↓] lbTn_is lbTh_is lbCf_is lbRc_is sbTn_is sbTh_is sbCf_is sbRc_is
attribute [local go_sem] run_lbTn run_lbTh run_lbCf run_lbRc run_sbTn run_sbTh run_sbCf run_sbRc
attribute [local go_sem 2000] boxOf_old'
attribute [local go_sem] boxOf_at' boxOf_free' boxOf_alloc objBox_cells objBox_cellsA boxOf_drew boxOf_setI boxOf_setsI size_sets tcs_length thc_length ccs_length tcs_one thc_one ccs_one sub_tn sub_th sub_cf sub_thAll sub_cfAll put_turn put_thread
attribute [local go_sem] tc0 tc1 tc2 tc3 tc4 tc5 tc6 tc7 tc8 tc9 tc10 tc11 tc12 tc13 tc14 tc15 tc16 tc17 tc18 tc19 tc20 tc21 tc22 tc23 tc24 tc25 tc26 tc27 tc28 tc29 tc30 tc31 tc32 tc33 tc34 tc35 tc36 hc0 hc1 hc2 hc3 hc4 hc5 hc6 hc7 hc8 hc9 hc10 hc11 hc12 hc13 hc14 hc15 hc16 kc0 kc1 kc2 kc3 kc4 kc5 kc6 kc7 kc8 kc9 kc10 kc11 tg0 tg1 tg2 tg3 tg4 tg5 tg6 tg7 tg8 tg9 tg10 tg11 tg12 tg13 tg14 tg15 tg16 tg17 tg18 tg19 tg20 tg21 tg22 tg23 tg24 tg25 tg26 tg27 tg28 tg29 tg30 tg31 tg32 tg33 tg34 tg35 tg36 hg0 hg1 hg2 hg3 hg4 hg5 hg6 hg7 hg8 hg9 hg10 hg11 hg12 hg13 hg14 hg15 hg16 kg0 kg1 kg2 kg3 kg4 kg5 kg6 kg7 kg8 kg9 kg10 kg11
attribute [local go_sem] ts12 ts13 ts14 ts16 ts17 ts18 ts19 ts20 ts21 ts22 ts23 ts24 ts25 ts26 ts27 ts28 ts29 ts30 ts31 ts32 ts33 ts34 ts35 ts36 ts15 hs0 hs1 hs2 hs3 hs7 hs8 hs9 hs10 hs11 hs12 hs13 hs14 hs15 hs16

/-- A turn of a thread that looked at its cell. -/
def lookV (u : Tn) : Tn := if erV u.ws.length (clV u.c u.d.it) = 0 then (if allV u.d.bl (ldV u.ws (clV u.c u.d.it)) u.c.x9 u.c.x10 = ldV u.ws (clV u.c u.d.it) then comV u (ldV u.ws (clV u.c u.d.it)) else if u.d.ph = 25 then onwV u else { u with d := { u.d with ph := 3, x := ldV u.ws (clV u.c u.d.it), y := allV u.d.bl (ldV u.ws (clV u.c u.d.it)) u.c.x9 u.c.x10 } }) else u
/-- A turn whose words and whose log may lie elsewhere. -/
def CPost (u : Tn) (n : Nat) (a : TA) (w : World) (e : Ending) (w' : World) : Prop := ∃ A c L k, e = .returned (.agg (tcs u { a with mA := A, mc := c, lA := L, lc := k }).toArray) ∧ Sees w' w'.heap.size 1 A u.ws.length (u.ws.map (Value.int .i64)) ∧ (A = a.mA ∨ Fresh w A) ∧ Sees w' w'.heap.size 6 L u.ll.length (mcells u.ll) ∧ ((L = a.lA ∧ u.ll.length = n) ∨ Fresh w L) ∧ Below w.heap.size w w'
theorem setl_ws (u : Tn) : (setlV u).ws = u.ws := by unfold setlV; split <;> rfl
theorem com_ws (u : Tn) (x : Int) : (comV u x).ws = u.ws := by unfold comV; rw [setl_ws]
theorem com_ll (u : Tn) (x : Int) : (comV u x).ll = u.ll ++ mkL u.d.bl u.d.it x u.c.x9 u.c.x10 := by unfold comV; rw [setl_ll]
theorem onw_ws (u : Tn) : (onwV u).ws = u.ws := by unfold onwV; split <;> rfl
theorem onw_ll (u : Tn) : (onwV u).ll = u.ll := by unfold onwV; split <;> rfl
theorem eql_say (x y : Int) (h : y = x) (w : World) : (binOp .eql 78 (.agg #[.int .i64 x, .int .i64 y]) (.agg #[.int .i64 x, .int .i64 x])).run Try.prog w = .ok (.bool true) w := by
  subst h; simp [go_sem]
theorem eql_no (x y : Int) (h : (y == x) = false) (w : World) : (binOp .eql 78 (.agg #[.int .i64 x, .int .i64 y]) (.agg #[.int .i64 x, .int .i64 x])).run Try.prog w = .ok (.bool false) w := by
  simp [go_sem, h]
set_option maxRecDepth 100000 in
set_option maxHeartbeats 4000000 in
theorem look_any (u : Tn) (a : TA) (o : TnOk u) (w : World) (h : TnAt w u a) : Calls Try.prog 21 #[.agg (tcs u a).toArray] w (CPost (lookV u) u.ll.length a w) := by
  have B1 : boxOf ((w.alloc (.cells (tcs u a).toArray 38)).alloc (.cells zT.toArray 38)) w.heap.size = some (tcs u a) := by simp [go_sem]
  have B2 : boxOf ((w.alloc (.cells (tcs u a).toArray 38)).alloc (.cells zT.toArray 38)) (w.heap.size + 1) = some zT := by simp [go_sem]
  have hs : w.heap.size + 1 < ((w.alloc (.cells (tcs u a).toArray 38)).alloc (.cells zT.toArray 38)).heap.size := by simp
  have hB : Below w.heap.size w ((w.alloc (.cells (tcs u a).toArray 38)).alloc (.cells zT.toArray 38)) := (belowN w _).alloc (by simp) _
  have h0 := h
  replace h := h.later hB
  go_enter Try.func21, Try.ntmps21
  go_wp2_with fail
  generalize ((w.alloc (.cells (tcs u a).toArray 38)).alloc (.cells zT.toArray 38)) = wz at *
  have Q1 := hide (fun d os => Calls.regrown_of (w := wz) (ccell_any u a o (grow (redrawn wz d) os)))
  have Q2 := hide (fun d os => Calls.regrown_of (w := wz) (load_any a.mA a.mB a.mc a.md u.ws a.bs (clV u.c u.d.it) (grow (redrawn wz d) os) (h.m.later (below_regrown wz d os))))
  have ilv := hide (ldV_i64 o.ws (clV u.c u.d.it))
  obtain ⟨lv, hlv⟩ : ∃ x, ldV u.ws (clV u.c u.d.it) = x := ⟨_, rfl⟩
  have he : erV u.ws.length (clV u.c u.d.it) = 0 ∨ erV u.ws.length (clV u.c u.d.it) = 30 := by unfold erV; split <;> simp
  rw [hlv] at Q2 ilv
  have RB1 := fun d os => boxOf_keep B1 (below_regrown wz d os)
  have RB2 := fun d os => boxOf_keep B2 (below_regrown wz d os)
  refine wp_region_quiet_below (by kernel_rfl) (by kernel_rfl) ?_
  repeat (go_big_quiet_step (first | (go_at_call 31; exact Q1.out _ _) | (go_at_call 30; exact Q2.out _ _)))
  refine wpQuiet_nil ?_
  intro _ hw'
  obtain ⟨⟨dq, osq⟩, hw''⟩ := hw'
  subst hw''
  replace B1 := RB1 dq osq
  clear RB1
  replace B2 := RB2 dq osq
  clear RB2
  replace h := h.later (below_regrown wz dq osq)
  replace hB := below_next hB hB.size (below_regrown wz dq osq)
  replace hs := Nat.lt_of_lt_of_le hs (below_regrown wz dq osq).size
  generalize grow (redrawn wz dq) osq = wq at *
  clear Q1 Q2
  rcases he with he | he
  case inr =>
    have H : Hid (lookV u = u) := hide (by rw [lookV, if_neg (by rw [he]; decide)])
    rw [he]
    clear he hlv
    go_wp2
    have hBf : Below w.heap.size w (wq.setCells (w.heap.size + 1) 0 (tcs u a)) := by repeat first | exact hB | refine below_sets _ (by omega) _ _ _ _ ?_ | refine Below.setCell ?_ (by first | omega | (simp; omega) | simp) _ | refine Below.alloc ?_ (by first | omega | (simp; omega) | simp) _
    refine bodyPost_ret (v := .agg (tcs u a).toArray) (results_box Try.results21 _ _ (w.heap.size + 1) _ _ rfl (by simp [go_sem, B1, B2]) Try.underlying38 rfl (by kernel_rfl)) rfl (by rw [H.out]; exact ⟨a.mA, a.mc, a.lA, a.lc, rfl, h0.m.words.later hBf, .inl rfl, h0.lg.later hBf, .inl ⟨rfl, rfl⟩, hBf⟩)
  have HA := hide (fun W s => all_any a.p.bA a.p.bc u.d.bl u.d.bl.length rfl (by have := o.b; omega) lv u.c.x9 u.c.x10 ilv.out o.lo o.hi o.f.b W s)
  obtain ⟨av, hav⟩ : ∃ x, allV u.d.bl lv u.c.x9 u.c.x10 = x := ⟨_, rfl⟩
  rw [hav] at HA
  have hc : (av = lv ∧ Hid (lookV u = comV u lv)) ∨ ((av == lv) = false ∧ (u.d.ph == 25) = true ∧ Hid (lookV u = onwV u)) ∨ ((av == lv) = false ∧ (u.d.ph == 25) = false ∧ Hid (lookV u = { u with d := { u.d with ph := 3, x := lv, y := av } })) := by
    by_cases h1 : av = lv
    · exact .inl ⟨h1, hide (by rw [lookV, if_pos he, hlv, hav, if_pos h1])⟩
    · by_cases h2 : u.d.ph = 25
      · exact .inr (.inl ⟨by simpa using h1, by simpa using h2, hide (by rw [lookV, if_pos he, hlv, hav, if_neg h1, if_pos h2])⟩)
      · exact .inr (.inr ⟨by simpa using h1, by simpa using h2, hide (by rw [lookV, if_pos he, hlv, hav, if_neg h1, if_neg h2])⟩)
  rw [he]
  clear he hlv hav
  go_wp2_with fail
  refine (HA.out _ h.th.b).mono ?_
  rintro e w1 ⟨rfl, hb1⟩
  replace B1 := boxOf_keep B1 hb1
  replace B2 := boxOf_keep B2 hb1
  replace hs := Nat.lt_of_lt_of_le hs hb1.size
  replace hB := below_next hB hB.size hb1
  replace h := h.later hb1
  clear hb1 HA
  go_wp2_with fail
  have B5 := boxOf_newA w1 #[.int .i64 lv, .int .i64 av] 78 _ rfl
  replace B1 := boxOf_keep B1 (belowN w1 (.cells #[.int .i64 lv, .int .i64 av] 78))
  replace B2 := boxOf_keep B2 (belowN w1 (.cells #[.int .i64 lv, .int .i64 av] 78))
  replace h := h.later (belowN w1 (.cells #[.int .i64 lv, .int .i64 av] 78))
  replace hB := hB.alloc hB.size (.cells #[.int .i64 lv, .int .i64 av] 78)
  have hsg := hs
  replace hs : w.heap.size + 1 < (w1.alloc (.cells #[.int .i64 lv, .int .i64 av] 78)).heap.size := by simp; omega
  obtain ⟨g5, hg5⟩ : ∃ g, w1.heap.size = g := ⟨_, rfl⟩
  rw [hg5] at B5 hsg ⊢
  clear hg5
  generalize (w1.alloc (.cells #[.int .i64 lv, .int .i64 av] 78)) = w2 at *
  have Q3 := hide (fun d os => Calls.regrown_of (w := w2) (cstill_any lv (grow (redrawn w2 d) os)))
  rcases hc with ⟨h1, H⟩ | ⟨h1, h2, H⟩ | ⟨h1, h2, H⟩
  · have HE := eql_say lv av h1
    clear h1
    have RB1 := fun d os => boxOf_keep B1 (below_regrown w2 d os)
    have RB2 := fun d os => boxOf_keep B2 (below_regrown w2 d os)
    have RB5 := fun d os => boxOf_keep B5 (below_regrown w2 d os)
    refine wp_region_quiet_below (by kernel_rfl) (by kernel_rfl) ?_
    repeat (go_big_quiet_step (first | (go_at_call 33; exact Q3.out _ _)))
    refine wpQuiet_nil ?_
    intro _ hw'
    obtain ⟨⟨dq, osq⟩, hw''⟩ := hw'
    subst hw''
    replace B1 := RB1 dq osq
    clear RB1
    replace B2 := RB2 dq osq
    clear RB2
    replace B5 := RB5 dq osq
    clear RB5
    replace h := h.later (below_regrown w2 dq osq)
    replace hB := below_next hB hB.size (below_regrown w2 dq osq)
    replace hs := Nat.lt_of_lt_of_le hs (below_regrown w2 dq osq).size
    generalize grow (redrawn w2 dq) osq = w3 at *
    clear Q3
    go_wp2_with fail
    refine (commit_any u a o lv ilv.out _ h).mono ?_
    rintro e w4 ⟨A, c, rfl, sA, fA, hb1⟩
    replace B2 := boxOf_keep B2 hb1
    have fB : ∀ p, A = some p → p.block ≠ w.heap.size + 1 := fun p hp => by have := fA p hp; omega
    replace fA : Fresh w A := fun p hp => Nat.le_trans hB.size (fA p hp)
    replace hB := below_next hB hB.size hb1
    have HW := hide (com_ws u lv)
    obtain ⟨v, hv⟩ : ∃ v, comV u lv = v := ⟨_, rfl⟩
    rw [hv] at H HW sA ⊢
    clear hb1 hv
    go_wp2
    have hBf : Below w.heap.size w (w4.setCells (w.heap.size + 1) 0 (tcs v { a with lA := A, lc := c })) := by repeat first | exact hB | refine below_sets _ (by omega) _ _ _ _ ?_ | refine Below.setCell ?_ (by first | omega | (simp; omega) | simp) _ | refine Below.alloc ?_ (by first | omega | (simp; omega) | simp) _
    refine bodyPost_ret (v := .agg (tcs v { a with lA := A, lc := c }).toArray) (results_box Try.results21 _ _ (w.heap.size + 1) _ _ rfl (by simp [go_sem, B1, B2]) Try.underlying38 rfl (by kernel_rfl)) rfl (by rw [H.out]; exact ⟨a.mA, a.mc, A, c, rfl, by rw [HW.out]; exact h0.m.words.later hBf, .inl rfl, sA.setsC _ (fun _ p hp => fB p hp) _ _, .inr fA, hBf⟩)
  · have HE := eql_no lv av h1
    clear h1
    have RB1 := fun d os => boxOf_keep B1 (below_regrown w2 d os)
    have RB2 := fun d os => boxOf_keep B2 (below_regrown w2 d os)
    have RB5 := fun d os => boxOf_keep B5 (below_regrown w2 d os)
    refine wp_region_quiet_below (by kernel_rfl) (by kernel_rfl) ?_
    repeat (go_big_quiet_step (first | (go_at_call 33; exact Q3.out _ _)))
    refine wpQuiet_nil ?_
    intro _ hw'
    obtain ⟨⟨dq, osq⟩, hw''⟩ := hw'
    subst hw''
    replace B1 := RB1 dq osq
    clear RB1
    replace B2 := RB2 dq osq
    clear RB2
    replace B5 := RB5 dq osq
    clear RB5
    replace h := h.later (below_regrown w2 dq osq)
    replace hB := below_next hB hB.size (below_regrown w2 dq osq)
    replace hs := Nat.lt_of_lt_of_le hs (below_regrown w2 dq osq).size
    generalize grow (redrawn w2 dq) osq = w3 at *
    clear Q3
    go_wp2_with fail
    refine (onward_any u a _).mono ?_
    rintro e w4 ⟨rfl, hb1⟩
    replace B2 := boxOf_keep B2 hb1
    replace hB := below_next hB hB.size hb1
    have HW := hide (onw_ws u)
    have HL := hide (onw_ll u)
    obtain ⟨v, hv⟩ : ∃ v, onwV u = v := ⟨_, rfl⟩
    rw [hv] at H HW HL ⊢
    clear hb1 hv
    go_wp2
    have hBf : Below w.heap.size w (w4.setCells (w.heap.size + 1) 0 (tcs v a)) := by repeat first | exact hB | refine below_sets _ (by omega) _ _ _ _ ?_ | refine Below.setCell ?_ (by first | omega | (simp; omega) | simp) _ | refine Below.alloc ?_ (by first | omega | (simp; omega) | simp) _
    refine bodyPost_ret (v := .agg (tcs v a).toArray) (results_box Try.results21 _ _ (w.heap.size + 1) _ _ rfl (by simp [go_sem, B1, B2]) Try.underlying38 rfl (by kernel_rfl)) rfl (by rw [H.out]; exact ⟨a.mA, a.mc, a.lA, a.lc, rfl, by rw [HW.out]; exact h0.m.words.later hBf, .inl rfl, by rw [HL.out]; exact h0.lg.later hBf, .inl ⟨rfl, by rw [HL.out]⟩, hBf⟩)
  · have HE := eql_no lv av h1
    clear h1
    have RB1 := fun d os => boxOf_keep B1 (below_regrown w2 d os)
    have RB2 := fun d os => boxOf_keep B2 (below_regrown w2 d os)
    have RB5 := fun d os => boxOf_keep B5 (below_regrown w2 d os)
    refine wp_region_quiet_below (by kernel_rfl) (by kernel_rfl) ?_
    repeat (go_big_quiet_step (first | (go_at_call 33; exact Q3.out _ _)))
    refine wpQuiet_nil ?_
    intro _ hw'
    obtain ⟨⟨dq, osq⟩, hw''⟩ := hw'
    subst hw''
    replace B1 := RB1 dq osq
    clear RB1
    replace B2 := RB2 dq osq
    clear RB2
    replace B5 := RB5 dq osq
    clear RB5
    replace h := h.later (below_regrown w2 dq osq)
    replace hB := below_next hB hB.size (below_regrown w2 dq osq)
    replace hs := Nat.lt_of_lt_of_le hs (below_regrown w2 dq osq).size
    generalize grow (redrawn w2 dq) osq = w3 at *
    clear Q3
    go_wp2_with fail
    have key : ∀ W', Below w.heap.size w W' → CPost ({ u with d := { u.d with ph := 3, x := lv, y := av } }) u.ll.length a w (.returned (.agg (tcs ({ u with d := { u.d with ph := 3, x := lv, y := av } }) a).toArray)) W' := fun W' hBf => ⟨a.mA, a.mc, a.lA, a.lc, rfl, h0.m.words.later hBf, .inl rfl, h0.lg.later hBf, .inl ⟨rfl, rfl⟩, hBf⟩
    go_region
    all_goals
      go_wp2
      refine bodyPost_ret (v := .agg (tcs ({ u with d := { u.d with ph := 3, x := lv, y := av } }) a).toArray) (results_box Try.results21 _ _ (w.heap.size + 1) _ _ rfl (by simp [go_sem, B1, B2]) Try.underlying38 rfl (by kernel_rfl)) rfl ?_
      rw [H.out]
      exact key _ (by repeat first | exact hB | refine below_sets _ (by omega) _ _ _ _ ?_ | refine Below.setCell ?_ (by first | omega | (simp; omega) | simp) _ | refine Below.alloc ?_ (by first | omega | (simp; omega) | simp) _ | refine Below.drew ?_)
end Go.Proofs.Ytiacgbkaflcbeaa
