/- The walk of CollideSteps. -/
import Derived.Test.YtjghdbkkjhnpfaaGreatW15Base
import Derived.Test.YtjghdbkkjhnpfaaGreatAlC
import Derived.Test.YtjghdbkkjhnpfaaGreatItsN
import Derived.Test.YtjghdbkkjhnpfaaGreatAlk
import Derived.Test.YtjghdbkkjhnpfaaGreatRfE
import Derived.Lib.QuietBelow
import Derived.Deep.QuietTactic
import Derived.BigQuiet
import Derived.Deep.RegionHeld3
namespace Go.Proofs.YtjghdbkkjhnpfaaGreat
open Go.RowKit Go.Sort
set_option linter.unusedVariables false
set_option linter.unusedSimpArgs false

attribute [local irreducible] tcs thc ccs zT
attribute [local go_sem ↓] alTn_is alRn_is
attribute [local go_sem] run_alTnf run_alTnt run_alRnf run_alRnt zT_length
attribute [local go_sem ↓] lbTn_is lbRn_is lbTh_is lbRh_is lbCf_is lbRc_is sbTn_is sbRn_is sbTh_is sbRh_is sbCf_is sbRc_is
attribute [local go_sem] run_lbTn run_lbRn run_lbTh run_lbRh run_lbCf run_lbRc run_sbTn run_sbRn run_sbTh run_sbRh run_sbCf run_sbRc
attribute [local go_sem 2000] boxOf_old'
attribute [local go_sem] boxOf_at' boxOf_free' boxOf_alloc objBox_cells objBox_cellsA boxOf_drew boxOf_setI boxOf_setsI size_sets tcs_length thc_length ccs_length tcs_one thc_one ccs_one sub_tn sub_th sub_cf sub_thAll sub_cfAll put_turn put_thread
attribute [local go_sem] tc0 tc1 tc2 tc3 tc4 tc5 tc6 tc7 tc8 tc9 tc10 tc11 tc12 tc13 tc14 tc15 tc16 tc17 tc18 tc19 tc20 tc21 tc22 tc23 tc24 tc25 tc26 tc27 tc28 tc29 tc30 tc31 tc32 tc33 tc34 tc35 tc36 hc0 hc1 hc2 hc3 hc4 hc5 hc6 hc7 hc8 hc9 hc10 hc11 hc12 hc13 hc14 hc15 hc16 kc0 kc1 kc2 kc3 kc4 kc5 kc6 kc7 kc8 kc9 kc10 kc11 tg0 tg1 tg2 tg3 tg4 tg5 tg6 tg7 tg8 tg9 tg10 tg11 tg12 tg13 tg14 tg15 tg16 tg17 tg18 tg19 tg20 tg21 tg22 tg23 tg24 tg25 tg26 tg27 tg28 tg29 tg30 tg31 tg32 tg33 tg34 tg35 tg36 hg0 hg1 hg2 hg3 hg4 hg5 hg6 hg7 hg8 hg9 hg10 hg11 hg12 hg13 hg14 hg15 hg16 kg0 kg1 kg2 kg3 kg4 kg5 kg6 kg7 kg8 kg9 kg10 kg11
attribute [local go_sem] ts12 ts13 ts14 ts16 ts17 ts18 ts19 ts20 ts21 ts22 ts23 ts24 ts25 ts26 ts27 ts28 ts29 ts30 ts31 ts32 ts33 ts34 ts35 ts36 ts15 hs0 hs1 hs2 hs3 hs7 hs8 hs9 hs10 hs11 hs12 hs13 hs14 hs15 hs16

attribute [local irreducible] zC zH
attribute [local go_sem ↓] alCf_is alRc_is alTh_is
attribute [local go_sem] run_alCf run_alRc run_alTh zC_length zH_length put_conf put_thrd
set_option maxRecDepth 100000 in
set_option maxHeartbeats 4000000 in
theorem steps_walk (u : Tn) (a : TA) (hta0 : I64 u.ta) (w : World) (hi : TnIn w u a) : Calls Tryz.prog 3 #[.agg (tcs u a).toArray] w (BoolPost true w) := by
  have B1 : boxOf (w.alloc (.cells (tcs u a).toArray 38)) w.heap.size = some (tcs u a) := by simp [go_sem]
  have hB : Below w.heap.size w (w.alloc (.cells (tcs u a).toArray 38)) := belowN w _
  have hs : w.heap.size < (w.alloc (.cells (tcs u a).toArray 38)).heap.size := by simp
  go_enter Tryz.func3, Tryz.ntmps3
  go_wp2_with fail
  generalize (w.alloc (.cells (tcs u a).toArray 38)) = wz at *
  refine (big_tn u a _ (hi.m.later hB)).mono ?_
  rintro e w1 ⟨r, rfl, hr, hb1⟩
  replace B1 := boxOf_keep B1 hb1
  replace hB := below_next hB hB.size hb1
  replace hs := Nat.lt_of_lt_of_le hs hb1.size
  clear hb1
  cases r with
  | true =>
    go_wp2_with (go_at_call 6; refine (shown_any _).mono ?_; rintro e ws ⟨rfl, hbs⟩; replace hB := below_next hB hB.size hbs; clear hbs)
    go_ret
    exact ⟨ret_b (by simp), hB⟩
  | false =>
  have sm := hide (hr rfl)
  clear hr
  go_wp2_with fail
  refine (lay_any u a _).mono ?_
  rintro e w2 ⟨r, rfl, hr, hb1⟩
  replace B1 := boxOf_keep B1 hb1
  replace hB := below_next hB hB.size hb1
  replace hs := Nat.lt_of_lt_of_le hs hb1.size
  clear hb1
  cases r with
  | false =>
    go_wp2_with (go_at_call 6; refine (shown_any _).mono ?_; rintro e ws ⟨rfl, hbs⟩; replace hB := below_next hB hB.size hbs; clear hbs)
    go_ret
    exact ⟨ret_b (by simp), hB⟩
  | true =>
  have my := hide (hr rfl).1
  have hly := (hr rfl).2
  clear hr
  have h := hide (hi.at sm.out)
  have o := hide (hi.ok sm.out my.out)
  clear hi
  go_wp2_with fail
  refine (shown_any _).mono ?_
  rintro e w3 ⟨rfl, hb1⟩
  replace B1 := boxOf_keep B1 hb1
  replace hB := below_next hB hB.size hb1
  replace hs := Nat.lt_of_lt_of_le hs hb1.size
  clear hb1
  have ht := tt_my my.out o.out.c
  have hit := it_my my.out
  have hbx := hide (bx_20 h.out.bx sm.out.2.2.1)
  have OV := hide (sm_step o.out hbx.out)
  have KG := hide (fun A W (m : TnAt W u A) => cstep_any u A o.out ht hit hly hta0 W m)
  have KR := hide (fun A W (m : TnAt W u A) => rstep15_any u A o.out ht hit hly W m)
  obtain ⟨vv, hvv⟩ : ∃ x, stepC u = x := ⟨_, rfl⟩
  obtain ⟨is, his⟩ : ∃ x, isC u = x := ⟨_, rfl⟩
  rw [hvv] at OV
  rw [hvv, his] at KG KR
  clear hvv his sm my hbx ht hit hly hta0
  have S0 := hide (KG.out a _ (h.out.later hB))
  clear KG
  go_wp2_with fail
  refine S0.out.mono ?_
  rintro e z1 ⟨a2, rfl, T2, _, hb1⟩
  replace B1 := boxOf_keep B1 hb1
  replace hB := below_next hB hB.size hb1
  have nb := belowY z1 vv a2 38
  have B2 := boxY z1 vv a2 38
  replace B1 := boxOf_keep B1 nb
  replace T2 := hide (T2.later nb)
  replace hB := below_next hB hB.size nb
  clear nb hb1 S0
  go_wp2_with fail
  generalize ((z1.alloc (.cells zT.toArray 38)).setCells z1.heap.size 0 (tcs vv a2)) = y2 at *
  generalize z1.heap.size = k1 at *
  refine (its_any u a o.out _ (h.out.later hB)).mono ?_
  rintro e y3 ⟨a3, rfl, t3, hb1⟩
  replace B1 := boxOf_keep B1 hb1
  replace B2 := boxOf_keep B2 hb1
  replace hB := below_next hB hB.size hb1
  replace T2 := hide (T2.out.later hb1)
  clear hb1
  have S4 := hide (KR.out a3 _ t3)
  clear t3 KR
  go_wp2_with fail
  refine S4.out.mono ?_
  rintro e y4 ⟨a4, rfl, T4, _, hb1⟩
  replace B1 := boxOf_keep B1 hb1
  replace B2 := boxOf_keep B2 hb1
  replace hB := below_next hB hB.size hb1
  replace T2 := hide (T2.out.later hb1)
  clear hb1 S4
  have nb := belowY y4 vv a4 55
  have B3 := boxY y4 vv a4 55
  replace B1 := boxOf_keep B1 nb
  replace B2 := boxOf_keep B2 nb
  replace hB := below_next hB hB.size nb
  replace T2 := hide (T2.out.later nb)
  replace T4 := hide (T4.later nb)
  clear nb
  go_upto_region 5 with fail
  generalize ((y4.alloc (.cells zT.toArray 55)).setCells y4.heap.size 0 (tcs vv a4)) = y5 at *
  generalize y4.heap.size = k2 at *
  have hii : (is == is) = true := by simp
  have Z : boxOf y5.drew w.heap.size = some (tcs u a) ∧ boxOf y5.drew k1 = some (tcs vv a2) ∧ boxOf y5.drew k2 = some (tcs vv a4) ∧ Below y5.heap.size y5 y5.drew := ⟨by rw [boxOf_drew]; exact B1, by rw [boxOf_drew]; exact B2, by rw [boxOf_drew]; exact B3, (Below.refl _ _).drew⟩
  go_region_held3 (fun w' => boxOf w' w.heap.size = some (tcs u a) ∧ boxOf w' k1 = some (tcs vv a2) ∧ boxOf w' k2 = some (tcs vv a4) ∧ Below y5.heap.size y5 w')
    (first | (with_reducible exact Z) | (with_reducible exact Z1) | (with_reducible exact Z2))
    (first
      | (go_at_call 9; refine (its_sm vv a2 OV.out _ (T2.out.later Z.2.2.2)).mono ?_; rintro e v1 ⟨b1, rfl, t1, hb1⟩; have Z1 : boxOf v1 w.heap.size = some (tcs u a) ∧ boxOf v1 k1 = some (tcs vv a2) ∧ boxOf v1 k2 = some (tcs vv a4) ∧ Below y5.heap.size y5 v1 := keepR Z hb1)
      | (go_at_call 10; refine (alike_sm vv b1 a4 OV.out _ t1 (T4.out.later Z1.2.2.2)).mono ?_; rintro e v2 ⟨rfl, hb2⟩; have Z2 : boxOf v2 w.heap.size = some (tcs u a) ∧ boxOf v2 k1 = some (tcs vv a2) ∧ boxOf v2 k2 = some (tcs vv a4) ∧ Below y5.heap.size y5 v2 := keepR Z1 hb2))
  go_wp2
  go_ret
  exact ⟨ret_b (by simp), below_next hB hB.size Z2.2.2.2⟩
end Go.Proofs.YtjghdbkkjhnpfaaGreat
