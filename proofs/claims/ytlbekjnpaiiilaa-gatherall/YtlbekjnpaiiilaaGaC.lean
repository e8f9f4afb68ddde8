/- The contract of look. -/
import Derived.Test.YtlbekjnpaiiilaaGaA
import Derived.Test.YtlbekjnpaiiilaaM2
import Derived.Test.YtlbekjnpaiiilaaM6
import Derived.Lib.QuietBelow
import Derived.Deep.QuietTactic
import Derived.BigQuiet
import Derived.Deep.RegionHeld3
namespace Go.Proofs.Ytlbekjnpaiiilaa
open Go.RowKit Go.Sort
set_option linter.unusedVariables false
set_option linter.unusedSimpArgs false

attribute [local irreducible] tcs thc ccs zT
attribute [local go_sem ↓] alTn_is alRn_is
attribute [local go_sem] run_alTnf run_alTnt run_alRnf run_alRnt zT_length
attribute [local go_sem ↓] lbTn_is lbRn_is lbTh_is lbRh_is lbCf_is lbRc_is sbTn_is sbRn_is sbTh_is sbRh_is sbCf_is sbRc_is
attribute [local go_sem] run_lbTn run_lbRn run_lbTh run_lbRh run_lbCf run_lbRc run_sbTn run_sbRn run_sbTh run_sbRh run_sbCf run_sbRc
attribute [local go_sem 2000] boxOf_old'
attribute [local go_sem] boxOf_at' boxOf_free' boxOf_alloc objBox_cells objBox_cellsA boxOf_drew boxOf_setI boxOf_setsI size_sets tcs_length thc_length ccs_length tcs_one thc_one ccs_one sub_tn sub_th sub_cf sub_thAll sub_cfAll put_turn put_thread
attribute [local go_sem] tc0 tc1 tc2 tc3 tc4 tc5 tc6 tc7 tc8 tc9 tc10 tc11 tc12 tc13 tc14 tc15 tc16 tc17 tc18 tc19 tc20 tc21 tc22 tc23 tc24 tc25 tc26 tc27 tc28 tc29 tc30 tc31 tc32 tc33 tc34 tc35 tc36 hc0 hc1 hc2 hc3 hc4 hc5 hc6 hc7 hc8 hc9 hc10 hc11 hc12 hc13 hc14 hc15 hc16 kc0 kc1 kc2 kc3 kc4 kc5 kc6 kc7 kc8 kc9 kc10 kc11 tg0 tg1 tg2 tg3 tg4 tg5 tg6 tg7 tg8 tg9 tg10 tg11 tg12 tg13 tg14 tg15 tg16 tg17 tg18 tg19 tg20 tg21 tg22 tg23 tg24 tg25 tg26 tg27 tg28 tg29 tg30 tg31 tg32 tg33 tg34 tg35 tg36 hg0 hg1 hg2 hg3 hg4 hg5 hg6 hg7 hg8 hg9 hg10 hg11 hg12 hg13 hg14 hg15 hg16 kg0 kg1 kg2 kg3 kg4 kg5 kg6 kg7 kg8 kg9 kg10 kg11
attribute [local go_sem] ts12 ts13 ts14 ts16 ts17 ts18 ts19 ts20 ts21 ts22 ts23 ts24 ts25 ts26 ts27 ts28 ts29 ts30 ts31 ts32 ts33 ts34 ts35 ts36 ts15 hs0 hs1 hs2 hs3 hs7 hs8 hs9 hs10 hs11 hs12 hs13 hs14 hs15 hs16

set_option maxRecDepth 100000 in
set_option maxHeartbeats 4000000 in
theorem look_any (u : Tn) (a : TA) (o : TnOk u) (ht : 0 ≤ u.tt ∧ u.tt ≤ 15) (w : World) (h : TnAt w u a) : Calls Try.prog 39 #[.agg (tcs u a).toArray] w (TPost (lokG u) a w) := by
  have B1 : boxOf ((w.alloc (.cells (tcs u a).toArray 38)).alloc (.cells zT.toArray 38)) w.heap.size = some (tcs u a) := by simp [go_sem]
  have B2 : boxOf ((w.alloc (.cells (tcs u a).toArray 38)).alloc (.cells zT.toArray 38)) (w.heap.size + 1) = some zT := by simp [go_sem]
  have hs : w.heap.size + 1 < ((w.alloc (.cells (tcs u a).toArray 38)).alloc (.cells zT.toArray 38)).heap.size := by simp
  have hB : Below w.heap.size w ((w.alloc (.cells (tcs u a).toArray 38)).alloc (.cells zT.toArray 38)) := (belowN w _).alloc (by simp) _
  have h0 := h
  replace h := h.later hB
  go_enter Try.func39, Try.ntmps39
  go_wp2_with fail
  generalize ((w.alloc (.cells (tcs u a).toArray 38)).alloc (.cells zT.toArray 38)) = wz at *
  have Q1 := hide (fun d os => Calls.regrown_of (w := wz) (held_any u a o (grow (redrawn wz d) os) (h.later (below_regrown wz d os))))
  have Q2 := hide (fun d os => Calls.regrown_of (w := wz) (load_any a.mA a.mB a.mc a.md u.ws a.bs (hdP u) (grow (redrawn wz d) os) (h.m.later (below_regrown wz d os))))
  have ilv := hide (ldV_i64 o.ws (hdP u))
  have KF := fun W => hide (first_any u.tt ht W)
  obtain ⟨lv, hlv⟩ : ∃ x, ldV u.ws (hdP u) = x := ⟨_, rfl⟩
  obtain ⟨fv, hfv⟩ : ∃ x, frV 1 u.tt = x := ⟨_, rfl⟩
  have he : erV u.ws.length (hdP u) = 0 ∨ erV u.ws.length (hdP u) = 30 := by unfold erV; split <;> simp
  rw [hlv] at Q2 ilv
  rw [hfv] at KF
  have RB1 := fun d os => boxOf_keep B1 (below_regrown wz d os)
  have RB2 := fun d os => boxOf_keep B2 (below_regrown wz d os)
  refine wp_region_quiet_below (by kernel_rfl) (by kernel_rfl) ?_
  repeat (go_big_quiet_step (first | (go_at_call 44; exact Q1.out _ _) | (go_at_call 57; exact Q2.out _ _)))
  refine wpQuiet_nil ?_
  intro _ hw'
  obtain ⟨⟨dq, osq⟩, hw''⟩ := hw'
  subst hw''
  replace B1 := RB1 dq osq
  clear RB1
  replace B2 := RB2 dq osq
  clear RB2
  replace h := h.later (below_regrown wz dq osq)
  replace hB := below_next hB hB.size (below_regrown wz dq osq)
  replace hs := Nat.lt_of_lt_of_le hs (below_regrown wz dq osq).size
  generalize grow (redrawn wz dq) osq = wq at *
  clear Q1 Q2
  rcases he with he | he
  case inr =>
    have H : Hid (lokG u = u) := hide (by rw [lokG, if_neg (by rw [he]; decide)])
    rw [he]
    clear he hlv hfv
    go_wp2
    refine bodyPost_ret (v := .agg (tcs u a).toArray) (results_box Try.results39 _ _ (w.heap.size + 1) _ _ rfl (by simp [go_sem, B1, B2]) Try.underlying38 rfl (by kernel_rfl)) rfl ⟨by rw [H.out], ?_⟩
    repeat first | exact hB | refine below_sets _ (by omega) _ _ _ _ ?_ | refine Below.setCell ?_ (by first | omega | (simp; omega) | simp) _ | refine Below.alloc ?_ (by first | omega | (simp; omega) | simp) _
  have KK := fun W => hide (kind_any lv ilv.out W)
  have KW := fun W => hide (who_any lv ilv.out W)
  obtain ⟨kv, hkv⟩ : ∃ x, kdV lv = x := ⟨_, rfl⟩
  obtain ⟨wv, hwv⟩ : ∃ x, whV lv = x := ⟨_, rfl⟩
  rw [hkv] at KK
  rw [hwv] at KW
  have hc : ((lv == fv) = true ∧ Hid (lokG u = ({ u with d := { u.d with ph := 8 } } : Tn))) ∨ ((lv == fv) = false ∧ kv = 3 ∧ Hid (lokG u = ({ u with d := { u.d with who := wv, ph := 9 } } : Tn))) ∨ ((lv == fv) = false ∧ (kv == 3) = false ∧ Hid (lokG u = u)) := by
    by_cases h1 : lv = fv
    · exact .inl ⟨by simpa using h1, hide (by rw [lokG, if_pos he, hlv, hfv, if_pos h1])⟩
    · by_cases h2 : kv = 3
      · exact .inr (.inl ⟨by simpa using h1, h2, hide (by rw [lokG, if_pos he, hlv, hfv, if_neg h1, hkv, if_pos h2, hwv])⟩)
      · exact .inr (.inr ⟨by simpa using h1, by simpa using h2, hide (by rw [lokG, if_pos he, hlv, hfv, if_neg h1, hkv, if_neg h2])⟩)
  rw [he]
  clear he hlv hkv hfv hwv
  go_wp2_with fail
  refine (KF _).out.mono ?_
  rintro e w1 ⟨rfl, hb1⟩
  replace B1 := boxOf_keep B1 hb1
  replace B2 := boxOf_keep B2 hb1
  replace hs := Nat.lt_of_lt_of_le hs hb1.size
  replace hB := below_next hB hB.size hb1
  clear hb1
  clear KF
  rcases hc with ⟨h1, H⟩ | ⟨h1, h2, H⟩ | ⟨h1, h2, H⟩
  · go_wp2
    refine bodyPost_ret (v := .agg (tcs ({ u with d := { u.d with ph := 8 } } : Tn) a).toArray) (results_box Try.results39 _ _ (w.heap.size + 1) _ _ rfl (by simp [go_sem, B1, B2]) Try.underlying38 rfl (by kernel_rfl)) rfl ⟨by rw [H.out], ?_⟩
    repeat first | exact hB | refine below_sets _ (by omega) _ _ _ _ ?_ | refine Below.setCell ?_ (by first | omega | (simp; omega) | simp) _ | refine Below.alloc ?_ (by first | omega | (simp; omega) | simp) _
  · subst h2
    go_wp2_with fail
    refine (KK _).out.mono ?_
    rintro e w2 ⟨rfl, hb1⟩
    replace B1 := boxOf_keep B1 hb1
    replace B2 := boxOf_keep B2 hb1
    replace hs := Nat.lt_of_lt_of_le hs hb1.size
    replace hB := below_next hB hB.size hb1
    clear hb1
    go_wp2_with fail
    refine (KW _).out.mono ?_
    rintro e w3 ⟨rfl, hb1⟩
    replace B1 := boxOf_keep B1 hb1
    replace B2 := boxOf_keep B2 hb1
    replace hs := Nat.lt_of_lt_of_le hs hb1.size
    replace hB := below_next hB hB.size hb1
    clear hb1
    clear KK KW
    go_wp2
    refine bodyPost_ret (v := .agg (tcs ({ u with d := { u.d with who := wv, ph := 9 } } : Tn) a).toArray) (results_box Try.results39 _ _ (w.heap.size + 1) _ _ rfl (by simp [go_sem, B1, B2]) Try.underlying38 rfl (by kernel_rfl)) rfl ⟨by rw [H.out], ?_⟩
    repeat first | exact hB | refine below_sets _ (by omega) _ _ _ _ ?_ | refine Below.setCell ?_ (by first | omega | (simp; omega) | simp) _ | refine Below.alloc ?_ (by first | omega | (simp; omega) | simp) _
  · go_wp2_with fail
    refine (KK _).out.mono ?_
    rintro e w2 ⟨rfl, hb1⟩
    replace B1 := boxOf_keep B1 hb1
    replace B2 := boxOf_keep B2 hb1
    replace hs := Nat.lt_of_lt_of_le hs hb1.size
    replace hB := below_next hB hB.size hb1
    clear hb1
    clear KK KW
    go_wp2
    refine bodyPost_ret (v := .agg (tcs u a).toArray) (results_box Try.results39 _ _ (w.heap.size + 1) _ _ rfl (by simp [go_sem, B1, B2]) Try.underlying38 rfl (by kernel_rfl)) rfl ⟨by rw [H.out], ?_⟩
    repeat first | exact hB | refine below_sets _ (by omega) _ _ _ _ ?_ | refine Below.setCell ?_ (by first | omega | (simp; omega) | simp) _ | refine Below.alloc ?_ (by first | omega | (simp; omega) | simp) _
end Go.Proofs.Ytlbekjnpaiiilaa
