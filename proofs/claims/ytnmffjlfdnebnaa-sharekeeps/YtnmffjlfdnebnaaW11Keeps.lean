/- The walk of ShareKeeps. -/
import Derived.Test.YtnmffjlfdnebnaaW11Base
import Derived.Test.YtnmffjlfdnebnaaM4
import Derived.Lib.QuietBelow
import Derived.Deep.QuietTactic
import Derived.BigQuiet
import Derived.Deep.RegionHeld3
namespace Go.Proofs.Ytnmffjlfdnebnaa
open Go.RowKit Go.Sort
set_option linter.unusedVariables false
set_option linter.unusedSimpArgs false

theorem stp_is (u : Tn) : ∃ (ws : List Int) (x y z : Int) (b : Bool), stepV u = { u with ws := ws, d := { u.d with ph := x, pl := y, x := z }, dn := b } := by
  unfold stepV
  split
  · obtain ⟨x, e⟩ := wait_is u
    exact ⟨u.ws, x, u.d.pl, u.d.x, u.dn, e⟩
  split
  · obtain ⟨x, y, z, b, e⟩ := fet_is u
    exact ⟨u.ws, x, y, z, b, e⟩
  split
  · unfold shrV; split
    · exact ⟨_, 16, u.d.pl, u.d.x, u.dn, rfl⟩
    · exact ⟨u.ws, u.d.ph, u.d.pl, u.d.x, u.dn, rfl⟩
  split
  · unfold telV; split
    · obtain ⟨x, b, e⟩ := setlV_is { u with ws := stV u.ws (lnV u.c (kidV u.d).1) 5, d := { u.d with pl := u.d.pl + 1 } }
      exact ⟨_, x, _, u.d.x, b, e⟩
    · exact ⟨u.ws, u.d.ph, u.d.pl, u.d.x, u.dn, rfl⟩
  · exact ⟨u.ws, u.d.ph, u.d.pl, u.d.x, u.dn, rfl⟩
theorem keepK {w W W' : World} {g gk gz gt : Nat} {cs ds es fs : List Value} (h : boxOf W g = some cs ∧ boxOf W gk = some ds ∧ boxOf W gz = some es ∧ boxOf W gt = some fs ∧ Below w.heap.size w W) (hb : Below W.heap.size W W') : boxOf W' g = some cs ∧ boxOf W' gk = some ds ∧ boxOf W' gz = some es ∧ boxOf W' gt = some fs ∧ Below w.heap.size w W' := ⟨boxOf_keep h.1 hb, boxOf_keep h.2.1 hb, boxOf_keep h.2.2.1 hb, boxOf_keep h.2.2.2.1 hb, below_next h.2.2.2.2 h.2.2.2.2.size hb⟩
theorem same_tn (d : Dt) (p q : Ad) (o : DtOk d) (w : World) (ha : ThAt w d p) (hb : ThAt w d q) : Calls Try.prog 23 #[.agg (thc d p).toArray, .agg (thc d q).toArray] w (BoolPost true w) := by
  have := sameT_any d d p q o w ha hb
  rw [sameB_self] at this
  exact this
attribute [local irreducible] tcs thc ccs zT
attribute [local go_sem ↓] alTn_is alRn_is alMo_is
attribute [local go_sem] run_alTnf run_alTnt run_alRnf run_alRnt run_alMof run_alMot zT_length
attribute [local go_sem ↓] lbTn_is lbRn_is lbMo_is lbTh_is lbRh_is lbCf_is lbRc_is sbTn_is sbRn_is sbMo_is sbTh_is sbRh_is sbCf_is sbRc_is
attribute [local go_sem] run_lbTn run_lbRn run_lbMo run_lbTh run_lbRh run_lbCf run_lbRc run_sbTn run_sbRn run_sbMo run_sbTh run_sbRh run_sbCf run_sbRc
attribute [local go_sem 2000] boxOf_old'
attribute [local go_sem] boxOf_at' boxOf_free' boxOf_alloc objBox_cells objBox_cellsA boxOf_drew boxOf_setI boxOf_setsI size_sets tcs_length thc_length ccs_length tcs_one thc_one ccs_one sub_tn sub_th sub_cf sub_thAll sub_cfAll put_turn put_thread
attribute [local go_sem] tc0 tc1 tc2 tc3 tc4 tc5 tc6 tc7 tc8 tc9 tc10 tc11 tc12 tc13 tc14 tc15 tc16 tc17 tc18 tc19 tc20 tc21 tc22 tc23 tc24 tc25 tc26 tc27 tc28 tc29 tc30 tc31 tc32 tc33 tc34 tc35 tc36 hc0 hc1 hc2 hc3 hc4 hc5 hc6 hc7 hc8 hc9 hc10 hc11 hc12 hc13 hc14 hc15 hc16 kc0 kc1 kc2 kc3 kc4 kc5 kc6 kc7 kc8 kc9 kc10 kc11 tg0 tg1 tg2 tg3 tg4 tg5 tg6 tg7 tg8 tg9 tg10 tg11 tg12 tg13 tg14 tg15 tg16 tg17 tg18 tg19 tg20 tg21 tg22 tg23 tg24 tg25 tg26 tg27 tg28 tg29 tg30 tg31 tg32 tg33 tg34 tg35 tg36 hg0 hg1 hg2 hg3 hg4 hg5 hg6 hg7 hg8 hg9 hg10 hg11 hg12 hg13 hg14 hg15 hg16 kg0 kg1 kg2 kg3 kg4 kg5 kg6 kg7 kg8 kg9 kg10 kg11
attribute [local go_sem] ts12 ts13 ts14 ts16 ts17 ts18 ts19 ts20 ts21 ts22 ts23 ts24 ts25 ts26 ts27 ts28 ts29 ts30 ts31 ts32 ts33 ts34 ts35 ts36 ts15 hs0 hs1 hs2 hs3 hs7 hs8 hs9 hs10 hs11 hs12 hs13 hs14 hs15 hs16

attribute [local irreducible] zC zH
attribute [local go_sem ↓] alCf_is alRc_is alTh_is
attribute [local go_sem] run_alCf run_alRc run_alTh zC_length zH_length put_conf put_thrd
set_option maxRecDepth 100000 in
set_option maxHeartbeats 4000000 in
theorem keeps_walk (u : Tn) (a : TA) (w : World) (hi : TnIn w u a) : Calls Try.prog 6 #[.agg (tcs u a).toArray] w (BoolPost true w) := by
  have B1 : boxOf (w.alloc (.cells (tcs u a).toArray 38)) w.heap.size = some (tcs u a) := by simp [go_sem]
  have hB : Below w.heap.size w (w.alloc (.cells (tcs u a).toArray 38)) := belowN w _
  have hs : w.heap.size < (w.alloc (.cells (tcs u a).toArray 38)).heap.size := by simp
  go_enter Try.func6, Try.ntmps6
  go_wp2_with fail
  generalize (w.alloc (.cells (tcs u a).toArray 38)) = wz at *
  refine (big_tn u a _ (hi.m.later hB)).mono ?_
  rintro e w1 ⟨r, rfl, hr, hb1⟩
  replace B1 := boxOf_keep B1 hb1
  replace hB := below_next hB hB.size hb1
  replace hs := Nat.lt_of_lt_of_le hs hb1.size
  clear hb1
  cases r with
  | true =>
    go_wp2_with (go_at_call 10; refine (shown_any _).mono ?_; rintro e ws ⟨rfl, hbs⟩; replace hB := below_next hB hB.size hbs; clear hbs)
    go_ret
    exact ⟨ret_b (by simp), hB⟩
  | false =>
  have sm := hide (hr rfl)
  clear hr
  go_wp2_with fail
  refine (may_any u a _).mono ?_
  rintro e w2 ⟨r, rfl, hr, hb1⟩
  replace B1 := boxOf_keep B1 hb1
  replace hB := below_next hB hB.size hb1
  replace hs := Nat.lt_of_lt_of_le hs hb1.size
  clear hb1
  cases r with
  | false =>
    go_wp2_with (go_at_call 10; refine (shown_any _).mono ?_; rintro e ws ⟨rfl, hbs⟩; replace hB := below_next hB hB.size hbs; clear hbs)
    go_ret
    exact ⟨ret_b (by simp), hB⟩
  | true =>
  have my := hide (hr rfl)
  clear hr
  have h := hide (hi.at sm.out)
  have o := hide (hi.ok sm.out my.out)
  have cap := hide hi.cap
  clear hi
  go_wp2_with fail
  refine (shown_any _).mono ?_
  rintro e w3 ⟨rfl, hb1⟩
  replace B1 := boxOf_keep B1 hb1
  replace hB := below_next hB hB.size hb1
  replace hs := Nat.lt_of_lt_of_le hs hb1.size
  clear hb1
  go_wp2_with fail
  refine (step_any u a o.out _ (h.out.later hB) cap.out).mono ?_
  rintro e z1 ⟨A2, c2, rfl, s2, _, hb1⟩
  have T2 := (like_step u).at (h.out.later hB) hb1 c2 s2
  replace B1 := boxOf_keep B1 hb1
  replace hB := below_next hB hB.size hb1
  replace hs := Nat.lt_of_lt_of_le hs hb1.size
  clear hb1 s2
  have HBS : Hid (bsIs ({ a with mA := A2, mc := c2 } : TA) a) := hide ⟨rfl, rfl, rfl⟩
  generalize ({ a with mA := A2, mc := c2 } : TA) = a2 at *
  have O2 := hide o.out.step
  obtain ⟨vv, hvv⟩ : ∃ x, stepV u = x := ⟨_, rfl⟩
  obtain ⟨is, his⟩ : ∃ x, isB u = x := ⟨_, rfl⟩
  rw [hvv] at T2 O2 ⊢
  rw [his]
  have HV := hide hvv
  have HI := hide his
  clear hvv his
  have nb := belowY z1 vv a2 38
  have B2 := boxY z1 vv a2 38
  replace B1 := boxOf_keep B1 nb
  replace T2 := hide (T2.later nb)
  replace hB := below_next hB hB.size nb
  have hs2 : w.heap.size < z1.heap.size ∧ z1.heap.size < ((z1.alloc (.cells zT.toArray 38)).setCells z1.heap.size 0 (tcs vv a2)).heap.size := ⟨hs, by rw [size_sets]; simp⟩
  clear nb hs
  go_wp2_with fail
  generalize ((z1.alloc (.cells zT.toArray 38)).setCells z1.heap.size 0 (tcs vv a2)) = y2 at *
  generalize z1.heap.size = k1 at *
  obtain ⟨nw, nx, ny, nz, nb1, hvv⟩ := stp_is u
  rw [HV.out] at hvv
  subst hvv
  refine (settle_any u a _ (h.out.later hB)).mono ?_
  rintro e z2 ⟨rfl, hb1⟩
  replace B1 := boxOf_keep B1 hb1
  replace B2 := boxOf_keep B2 hb1
  replace T2 := hide (T2.out.later hb1)
  replace hB := below_next hB hB.size hb1
  have hs3 : w.heap.size < z2.heap.size ∧ k1 < z2.heap.size := ⟨by have := hb1.size; omega, by have := hb1.size; omega⟩
  clear hb1 HV HI O2
  obtain ⟨sx, sy, se⟩ := setlV_is u
  rw [se]
  clear se
  have n1 : ¬ w.heap.size = z2.heap.size := by omega
  have n2 : ¬ k1 = z2.heap.size := by omega
  go_wp2_with fail
  have m1 : ¬ z2.heap.size + 1 + 1 = z2.heap.size := by omega
  have C5 : boxOf ((((((((((((z2.alloc (.cells zT.toArray 38)).setCells z2.heap.size 0 (tcs { u with d := { u.d with ph := sx }, dn := sy } a)).alloc (.cells zH.toArray 33)).setCells (z2.heap.size + 1) 0 (thc { u.d with ph := nx, pl := ny, x := nz } a2.p)).setCell ⟨z2.heap.size + 1, 0, none⟩ (.int .i64 u.d.ph)).setCell ⟨z2.heap.size + 1, 9, none⟩ (.int .i64 u.d.pl)).setCell ⟨z2.heap.size + 1, 14, none⟩ (.int .i64 u.d.x)).alloc (.cells zH.toArray 33)).setCells (z2.heap.size + 1 + 1) 0 (thc { u.d with ph := sx } a.p)).setCell ⟨z2.heap.size + 1 + 1, 0, none⟩ (.int .i64 u.d.ph)).setCells z2.heap.size 16 (thc { u.d with ph := u.d.ph } a.p)).setCell ⟨z2.heap.size, 36, none⟩ (.bool u.dn)) z2.heap.size = some (tcs u a) := by simp [go_sem, m1]
  have C6 : boxOf ((((((((((((z2.alloc (.cells zT.toArray 38)).setCells z2.heap.size 0 (tcs { u with d := { u.d with ph := sx }, dn := sy } a)).alloc (.cells zH.toArray 33)).setCells (z2.heap.size + 1) 0 (thc { u.d with ph := nx, pl := ny, x := nz } a2.p)).setCell ⟨z2.heap.size + 1, 0, none⟩ (.int .i64 u.d.ph)).setCell ⟨z2.heap.size + 1, 9, none⟩ (.int .i64 u.d.pl)).setCell ⟨z2.heap.size + 1, 14, none⟩ (.int .i64 u.d.x)).alloc (.cells zH.toArray 33)).setCells (z2.heap.size + 1 + 1) 0 (thc { u.d with ph := sx } a.p)).setCell ⟨z2.heap.size + 1 + 1, 0, none⟩ (.int .i64 u.d.ph)).setCells z2.heap.size 16 (thc { u.d with ph := u.d.ph } a.p)).setCell ⟨z2.heap.size, 36, none⟩ (.bool u.dn)) (z2.heap.size + 1) = some (thc u.d a2.p) := by simp [go_sem]
  have nb : Below z2.heap.size z2 ((((((((((((z2.alloc (.cells zT.toArray 38)).setCells z2.heap.size 0 (tcs { u with d := { u.d with ph := sx }, dn := sy } a)).alloc (.cells zH.toArray 33)).setCells (z2.heap.size + 1) 0 (thc { u.d with ph := nx, pl := ny, x := nz } a2.p)).setCell ⟨z2.heap.size + 1, 0, none⟩ (.int .i64 u.d.ph)).setCell ⟨z2.heap.size + 1, 9, none⟩ (.int .i64 u.d.pl)).setCell ⟨z2.heap.size + 1, 14, none⟩ (.int .i64 u.d.x)).alloc (.cells zH.toArray 33)).setCells (z2.heap.size + 1 + 1) 0 (thc { u.d with ph := sx } a.p)).setCell ⟨z2.heap.size + 1 + 1, 0, none⟩ (.int .i64 u.d.ph)).setCells z2.heap.size 16 (thc { u.d with ph := u.d.ph } a.p)).setCell ⟨z2.heap.size, 36, none⟩ (.bool u.dn)) := by
    have hB := Below.refl z2.heap.size z2
    repeat first | exact hB | refine below_sets _ (by omega) _ _ _ _ ?_ | refine Below.setCell ?_ (by first | omega | (simp [size_sets]; omega) | simp [size_sets]) _ | refine Below.alloc ?_ (by first | omega | (simp [size_sets]; omega) | simp [size_sets]) _
  replace B1 := boxOf_keep B1 nb
  replace B2 := boxOf_keep B2 nb
  replace T2 := hide (T2.out.later nb)
  replace hB := below_next hB hB.size nb
  clear nb n1 n2 hs3 hs2
  generalize ((((((((((((z2.alloc (.cells zT.toArray 38)).setCells z2.heap.size 0 (tcs { u with d := { u.d with ph := sx }, dn := sy } a)).alloc (.cells zH.toArray 33)).setCells (z2.heap.size + 1) 0 (thc { u.d with ph := nx, pl := ny, x := nz } a2.p)).setCell ⟨z2.heap.size + 1, 0, none⟩ (.int .i64 u.d.ph)).setCell ⟨z2.heap.size + 1, 9, none⟩ (.int .i64 u.d.pl)).setCell ⟨z2.heap.size + 1, 14, none⟩ (.int .i64 u.d.x)).alloc (.cells zH.toArray 33)).setCells (z2.heap.size + 1 + 1) 0 (thc { u.d with ph := sx } a.p)).setCell ⟨z2.heap.size + 1 + 1, 0, none⟩ (.int .i64 u.d.ph)).setCells z2.heap.size 16 (thc { u.d with ph := u.d.ph } a.p)).setCell ⟨z2.heap.size, 36, none⟩ (.bool u.dn)) = y5 at *
  generalize z2.heap.size = k5 at *
  have hD := hide (h.out.later hB)
  have tok1 := hide True.intro
  have tok2 := hide True.intro
  have Z : boxOf y5.drew w.heap.size = some (tcs u a) ∧ boxOf y5.drew k1 = some (tcs { u with ws := nw, d := { u.d with ph := nx, pl := ny, x := nz }, dn := nb1 } a2) ∧ boxOf y5.drew k5 = some (tcs u a) ∧ boxOf y5.drew (k5 + 1) = some (thc u.d a2.p) ∧ Below y5.heap.size y5 y5.drew := ⟨by rw [boxOf_drew]; exact B1, by rw [boxOf_drew]; exact B2, by rw [boxOf_drew]; exact C5, by rw [boxOf_drew]; exact C6, (Below.refl _ _).drew⟩
  go_region_held3 (fun w' => boxOf w' w.heap.size = some (tcs u a) ∧ boxOf w' k1 = some (tcs { u with ws := nw, d := { u.d with ph := nx, pl := ny, x := nz }, dn := nb1 } a2) ∧ boxOf w' k5 = some (tcs u a) ∧ boxOf w' (k5 + 1) = some (thc u.d a2.p) ∧ Below y5.heap.size y5 w')
    (first | (with_reducible exact Z) | (with_reducible exact Z1) | (with_reducible exact Z2) | (with_reducible exact Z3) | (with_reducible exact Z4))
    (first
      | (go_at_call 23; refine (same_tn u.d a2.p a.p o.out.d _ (ThAt.later (w := y5) ⟨T2.out.th.b, T2.out.th.k, T2.out.th.h⟩ Z.2.2.2.2) (hD.out.th.later Z.2.2.2.2)).mono ?_; rintro e v1 ⟨rfl, hb1⟩; have Z1 : boxOf v1 w.heap.size = some (tcs u a) ∧ boxOf v1 k1 = some (tcs { u with ws := nw, d := { u.d with ph := nx, pl := ny, x := nz }, dn := nb1 } a2) ∧ boxOf v1 k5 = some (tcs u a) ∧ boxOf v1 (k5 + 1) = some (thc u.d a2.p) ∧ Below y5.heap.size y5 v1 := keepK Z hb1)
      | (go_at_call 13; have _t := tok1; refine (its_any u a o.out _ (hD.out.later Z1.2.2.2.2)).mono ?_; rintro e v2 ⟨b1, rfl, t1, hb2⟩; have Z2 : boxOf v2 w.heap.size = some (tcs u a) ∧ boxOf v2 k1 = some (tcs { u with ws := nw, d := { u.d with ph := nx, pl := ny, x := nz }, dn := nb1 } a2) ∧ boxOf v2 k5 = some (tcs u a) ∧ boxOf v2 (k5 + 1) = some (thc u.d a2.p) ∧ Below y5.heap.size y5 v2 := keepK Z1 hb2; clear tok1)
      | (go_at_call 13; have _t := tok2; refine (its_any u a o.out _ (hD.out.later Z2.2.2.2.2)).mono ?_; rintro e v3 ⟨b2, rfl, t2, hb3⟩; have Z3 : boxOf v3 w.heap.size = some (tcs u a) ∧ boxOf v3 k1 = some (tcs { u with ws := nw, d := { u.d with ph := nx, pl := ny, x := nz }, dn := nb1 } a2) ∧ boxOf v3 k5 = some (tcs u a) ∧ boxOf v3 (k5 + 1) = some (thc u.d a2.p) ∧ Below y5.heap.size y5 v3 := keepK Z2 hb3; clear tok2)
      | (go_at_call 14; refine (alike_yes u b1 b2 o.out _ (t1.later hb3) t2).mono ?_; rintro e v4 ⟨rfl, hb4⟩; have Z4 : boxOf v4 w.heap.size = some (tcs u a) ∧ boxOf v4 k1 = some (tcs { u with ws := nw, d := { u.d with ph := nx, pl := ny, x := nz }, dn := nb1 } a2) ∧ boxOf v4 k5 = some (tcs u a) ∧ boxOf v4 (k5 + 1) = some (thc u.d a2.p) ∧ Below y5.heap.size y5 v4 := keepK Z3 hb4))
  go_wp2
  go_ret
  exact ⟨ret_b (by simp), below_next hB hB.size Z4.2.2.2.2⟩
end Go.Proofs.Ytnmffjlfdnebnaa
