/- The walk of CommitAlone. -/
import Derived.Test.YtiacgbkaflcbeaaW12Base
import Derived.Test.YtiacgbkaflcbeaaCmL
import Derived.Test.YtiacgbkaflcbeaaM4
import Derived.Test.YtiacgbkaflcbeaaM1
import Derived.Lib.QuietBelow
import Derived.Deep.QuietTactic
import Derived.BigQuiet
import Derived.Deep.RegionHeld3
namespace Go.Proofs.Ytiacgbkaflcbeaa
open Go.RowKit Go.Sort
set_option linter.unusedVariables false
set_option linter.unusedSimpArgs false

attribute [local irreducible] tcs thc ccs zT
attribute [local go_sem ↓] alTn_is
attribute [local go_sem] run_alTnf run_alTnt zT_length
attribute [local go_sem ↓] lbTn_is lbTh_is lbCf_is lbRc_is sbTn_is sbTh_is sbCf_is sbRc_is
attribute [local go_sem] run_lbTn run_lbTh run_lbCf run_lbRc run_sbTn run_sbTh run_sbCf run_sbRc
attribute [local go_sem 2000] boxOf_old'
attribute [local go_sem] boxOf_at' boxOf_free' boxOf_alloc objBox_cells objBox_cellsA boxOf_drew boxOf_setI boxOf_setsI size_sets tcs_length thc_length ccs_length tcs_one thc_one ccs_one sub_tn sub_th sub_cf sub_thAll sub_cfAll put_turn put_thread
attribute [local go_sem] tc0 tc1 tc2 tc3 tc4 tc5 tc6 tc7 tc8 tc9 tc10 tc11 tc12 tc13 tc14 tc15 tc16 tc17 tc18 tc19 tc20 tc21 tc22 tc23 tc24 tc25 tc26 tc27 tc28 tc29 tc30 tc31 tc32 tc33 tc34 tc35 tc36 hc0 hc1 hc2 hc3 hc4 hc5 hc6 hc7 hc8 hc9 hc10 hc11 hc12 hc13 hc14 hc15 hc16 kc0 kc1 kc2 kc3 kc4 kc5 kc6 kc7 kc8 kc9 kc10 kc11 tg0 tg1 tg2 tg3 tg4 tg5 tg6 tg7 tg8 tg9 tg10 tg11 tg12 tg13 tg14 tg15 tg16 tg17 tg18 tg19 tg20 tg21 tg22 tg23 tg24 tg25 tg26 tg27 tg28 tg29 tg30 tg31 tg32 tg33 tg34 tg35 tg36 hg0 hg1 hg2 hg3 hg4 hg5 hg6 hg7 hg8 hg9 hg10 hg11 hg12 hg13 hg14 hg15 hg16 kg0 kg1 kg2 kg3 kg4 kg5 kg6 kg7 kg8 kg9 kg10 kg11
attribute [local go_sem] ts12 ts13 ts14 ts16 ts17 ts18 ts19 ts20 ts21 ts22 ts23 ts24 ts25 ts26 ts27 ts28 ts29 ts30 ts31 ts32 ts33 ts34 ts35 ts36 ts15 hs0 hs1 hs2 hs3 hs7 hs8 hs9 hs10 hs11 hs12 hs13 hs14 hs15 hs16

attribute [local irreducible] zC zH
attribute [local go_sem ↓] alCf_is alRc_is alTh_is
attribute [local go_sem] run_alCf run_alRc run_alTh zC_length zH_length put_conf put_thrd
attribute [local go_sem] tsNil
theorem keepA {w W W' : World} {g : Nat} {cs : List Value} (h : boxOf W g = some cs ∧ Below w.heap.size w W) (hb : Below W.heap.size W W') : boxOf W' g = some cs ∧ Below w.heap.size w W' := ⟨boxOf_keep h.1 hb, below_next h.2 h.2.size hb⟩
set_option maxRecDepth 100000 in
set_option maxHeartbeats 4000000 in
theorem alone_walk (u : Tn) (a : TA) (w : World) (hi : TnIn w u a) : Calls Try.prog 3 #[.agg (tcs u a).toArray] w (BoolPost true w) := by
  have B1 : boxOf (w.alloc (.cells (tcs u a).toArray 38)) w.heap.size = some (tcs u a) := by simp [go_sem]
  have hB : Below w.heap.size w (w.alloc (.cells (tcs u a).toArray 38)) := belowN w _
  have hs : w.heap.size < (w.alloc (.cells (tcs u a).toArray 38)).heap.size := by simp
  go_enter Try.func3, Try.ntmps3
  go_wp2_with fail
  generalize (w.alloc (.cells (tcs u a).toArray 38)) = wz at *
  refine (big_tn u a _ (hi.m.later hB)).mono ?_
  rintro e w1 ⟨r, rfl, hr, hb1⟩
  replace B1 := boxOf_keep B1 hb1
  replace hB := below_next hB hB.size hb1
  replace hs := Nat.lt_of_lt_of_le hs hb1.size
  clear hb1
  cases r with
  | true =>
    go_wp2_with (go_at_call 10; refine (shown_any _).mono ?_; rintro e ws ⟨rfl, hbs⟩; replace hB := below_next hB hB.size hbs; clear hbs)
    go_ret
    exact ⟨ret_b (by simp), hB⟩
  | false =>
  have sm := hide (hr rfl)
  clear hr
  go_wp2_with fail
  refine (may_any u a _).mono ?_
  rintro e w2 ⟨r, rfl, hr, hb1⟩
  replace B1 := boxOf_keep B1 hb1
  replace hB := below_next hB hB.size hb1
  replace hs := Nat.lt_of_lt_of_le hs hb1.size
  clear hb1
  cases r with
  | false =>
    go_wp2_with (go_at_call 10; refine (shown_any _).mono ?_; rintro e ws ⟨rfl, hbs⟩; replace hB := below_next hB hB.size hbs; clear hbs)
    go_ret
    exact ⟨ret_b (by simp), hB⟩
  | true =>
  have my := hide (hr rfl)
  clear hr
  have h := hide (hi.at sm.out)
  have o := hide (hi.ok sm.out my.out)
  have cap := hide hi.cap
  clear hi
  go_wp2_with fail
  refine (shown_any _).mono ?_
  rintro e w3 ⟨rfl, hb1⟩
  replace B1 := boxOf_keep B1 hb1
  replace hB := below_next hB hB.size hb1
  replace hs := Nat.lt_of_lt_of_le hs hb1.size
  clear hb1
  have hz : Below w.heap.size w (((w3.setCell ⟨w.heap.size, 16, none⟩ (.int .i64 2)).setCell ⟨w.heap.size, 36, none⟩ (.bool false)).setCell ⟨w.heap.size, 35, none⟩ (.slice none 0 0)) := ((hB.setCell (by simp) _).setCell (by simp) _).setCell (by simp) _
  have C1 := boxOf_set _ w.heap.size 35 (.slice none 0 0) (boxOf_set _ w.heap.size 36 (.bool false) (boxOf_set w3 w.heap.size 16 (.int .i64 2) B1))
  rw [ts16, ts36, tsNil] at C1
  have hs' : w.heap.size < (((w3.setCell ⟨w.heap.size, 16, none⟩ (.int .i64 2)).setCell ⟨w.heap.size, 36, none⟩ (.bool false)).setCell ⟨w.heap.size, 35, none⟩ (.slice none 0 0)).heap.size := by simpa using hs
  have o0 : TnOk ({ u with ll := [], dn := false, d := { u.d with ph := 2 } } : Tn) := ⟨o.out.b, o.out.k, o.out.h, Nat.zero_le _, o.out.t, ⟨(o.out.f.phxy (i64_k 2 (by decide)) o.out.ix o.out.iy).n, o.out.f.t, o.out.f.v, o.out.f.b, o.out.f.h, o.out.f.k⟩, o.out.lo, o.out.hi, o.out.tt, o.out.ws, o.out.c⟩
  obtain ⟨k, hk, hkl⟩ := cell_in my.out o.out
  obtain ⟨x, hx⟩ : ∃ x, u.ws[k]? = some x := ⟨u.ws[k], List.getElem?_eq_getElem hkl⟩
  have ix := hide (o.out.ws x (List.mem_of_getElem? hx))
  have RC := fun W => hide (rcell_tn u.c o.out.c u.d.it (o.out.f.n _ (by simp [Dt.nums])) W)
  rw [hk] at RC
  obtain ⟨yv, hyv⟩ : ∃ y, allV u.d.bl x u.c.x9 u.c.x10 = y := ⟨_, rfl⟩
  have iy : Hid (I64 yv) := hide (by rw [← hyv]; exact allV_i64 o.out.f.b ix.out o.out.lo o.out.hi)
  have HC : (yv = x ∧ Hid (stepC ({ u with ll := [], dn := false, d := { u.d with ph := 2 } } : Tn) = comV ({ u with ll := [], dn := false, d := { u.d with ph := 2 } } : Tn) x)) ∨ (yv ≠ x ∧ Hid (stepC ({ u with ll := [], dn := false, d := { u.d with ph := 2 } } : Tn) = ({ u with ll := [], dn := false, d := { u.d with ph := 3, x := x, y := yv } } : Tn) ∧ stepC ({ u with ll := [], dn := false, d := { u.d with ph := 3, x := x, y := yv } } : Tn) = comV ({ u with ll := [], dn := false, ws := u.ws.set k yv, d := { u.d with ph := 3, x := x, y := yv } } : Tn) x)) := by
    have e1 : stepC ({ u with ll := [], dn := false, d := { u.d with ph := 2 } } : Tn) = lookV ({ u with ll := [], dn := false, d := { u.d with ph := 2 } } : Tn) := by simp [stepC]
    by_cases h1 : yv = x
    · exact .inl ⟨h1, hide (by rw [e1, look_at (u := ({ u with ll := [], dn := false, d := { u.d with ph := 2 } } : Tn)) hk hx]; exact if_pos (by rw [hyv]; exact h1))⟩
    · refine .inr ⟨h1, hide ⟨?_, ?_⟩⟩
      · rw [e1, look_at (u := ({ u with ll := [], dn := false, d := { u.d with ph := 2 } } : Tn)) hk hx]; simp only []; rw [hyv, if_neg h1]; rfl
      · have e2 : stepC ({ u with ll := [], dn := false, d := { u.d with ph := 3, x := x, y := yv } } : Tn) = swapV ({ u with ll := [], dn := false, d := { u.d with ph := 3, x := x, y := yv } } : Tn) := by simp [stepC]
        rw [e2, swap_at (u := ({ u with ll := [], dn := false, d := { u.d with ph := 3, x := x, y := yv } } : Tn)) hk hx]; exact if_pos rfl
  have RALL := fun E c W t => hide (rall_any E c u.d.bl u.d.bl.length rfl (by have := o.out.b; omega) x u.c.x9 u.c.x10 ix.out o.out.lo o.out.hi o.out.f.b W t)
  rw [hyv] at RALL
  obtain ⟨ba, oa, ea, _⟩ := h.out.m.words.some_of (by omega)
  obtain ⟨a0, ha0⟩ : ∃ z, ({ a with lA := none, lc := 0 } : TA) = z := ⟨_, rfl⟩
  have H0 : Hid (∀ W, Below w.heap.size w W → TnAt W ({ u with ll := [], dn := false, d := { u.d with ph := 2 } } : Tn) a0) := hide (fun W hb => by
    have hl := h.out.later hb
    rw [← ha0]
    exact ⟨hl.m, hl.bx, ⟨hl.th.b, hl.th.k, hl.th.h⟩, hl.tp, Sees.empty⟩)
  have ea0 : a0.mA = some ⟨ba, oa, none⟩ := by rw [← ha0]; exact ea
  have eb0 : a0.p = a.p := by rw [← ha0]
  have HX := hide hx
  have HB3 := hide (show u.d.bl.length ≤ 20 from o.out.b)
  rw [ha0] at C1
  have LC := hide (tsNil { u with dn := false, d := { u.d with ph := 2 } } a)
  rw [ha0] at LC
  have lc := LC.out
  clear hk hyv ea hx sm my cap ha0 LC
  go_wp2_with fail
  clear B1 hB hs lc
  generalize (((w3.setCell ⟨w.heap.size, 16, none⟩ (.int .i64 2)).setCell ⟨w.heap.size, 36, none⟩ (.bool false)).setCell ⟨w.heap.size, 35, none⟩ (.slice none 0 0)) = y0 at *
  refine (RC _).out.mono ?_
  rintro e y1 ⟨rfl, hb1⟩
  have B1 := boxOf_keep C1 hb1
  have hB := below_next hz hz.size hb1
  have hs := Nat.lt_of_lt_of_le hs' hb1.size
  clear hb1 C1 hz hs' RC
  have cw : y1.cell? ⟨ba, oa + k, none⟩ = some (.int .i64 x) := word_cell (by have := (H0.out y1 hB).m.words; rw [ea0] at this; exact this) HX.out
  have kk0 : (0 : Int) ≤ (k : Int) := Int.natCast_nonneg _
  have kk1 : (k : Int) < (u.ws.length : Int) := by omega
  have sb := hide (H0.out y1 hB).th.b
  rw [eb0] at sb
  have Z : boxOf y1.drew w.heap.size = some (tcs ({ u with ll := [], dn := false, d := { u.d with ph := 2 } } : Tn) a0) ∧ Below y1.heap.size y1 y1.drew := ⟨by rw [boxOf_drew]; exact B1, (Below.refl _ _).drew⟩
  go_wp2_with fail
  go_region_held3 (fun w' => boxOf w' w.heap.size = some (tcs ({ u with ll := [], dn := false, d := { u.d with ph := 2 } } : Tn) a0) ∧ Below y1.heap.size y1 w')
    (first | (with_reducible exact Z) | (with_reducible exact Z1) | (with_reducible exact Z2))
    (first
      | (go_at_call 13; refine (ents_any a.p.bA a.p.bc u.d.bl u.d.bl.length rfl (by have := HB3.out; omega) _ (by have := sb.out.later (And.right Z); exact this)).mono ?_; rintro e v1 ⟨E1, c1, rfl, _, s1, _, hb1⟩; have Z1 : boxOf v1 w.heap.size = some (tcs ({ u with ll := [], dn := false, d := { u.d with ph := 2 } } : Tn) a0) ∧ Below y1.heap.size y1 v1 := keepA Z hb1)
      | (go_at_call 12; refine (RALL E1 c1 _ s1).out.mono ?_; rintro e v2 ⟨rfl, hb2⟩; have Z2 : boxOf v2 w.heap.size = some (tcs ({ u with ll := [], dn := false, d := { u.d with ph := 2 } } : Tn) a0) ∧ Below y1.heap.size y1 v2 := keepA Z1 hb2))
  clear s1 Z Z1 hb1 hb2 RALL sb cw
  replace B1 := Z2.1
  replace hB := below_next hB hB.size Z2.2
  replace hs := Nat.lt_of_lt_of_le hs Z2.2.size
  clear Z2
  have S0 := cstep_at ({ u with ll := [], dn := false, d := { u.d with ph := 2 } } : Tn) a0 o0 _ (H0.out _ hB)
  have HS : Hid ((stepC ({ u with ll := [], dn := false, d := { u.d with ph := 2 } } : Tn)).ws.length = u.ws.length) := hide (step_likeC ({ u with ll := [], dn := false, d := { u.d with ph := 2 } } : Tn)).ws
  have is1 : isC ({ u with ll := [], dn := false, d := { u.d with ph := 2 } } : Tn) = true := by simp [isC]
  rw [is1] at S0
  clear is1
  rcases HC with ⟨e1, HV⟩ | ⟨e1, HV⟩
  · rw [HV.out] at S0 HS
    have d1 : (x != yv) = false := by simp [e1]
    have HLL := hide (com_ll ({ u with ll := [], dn := false, d := { u.d with ph := 2 } } : Tn) x)
    have dX : ((comV ({ u with ll := [], dn := false, d := { u.d with ph := 2 } } : Tn) x).d.x == x) = true := by rw [com_x]; simp
    have dD : ((comV ({ u with ll := [], dn := false, d := { u.d with ph := 2 } } : Tn) x).dn == ((u.d.kl.length : Int) == 0)) = true := by rw [com_dn _ _ rfl]; simp
    have dL : (((comV ({ u with ll := [], dn := false, d := { u.d with ph := 2 } } : Tn) x).ll.length : Int) == (u.d.bl.length : Int)) = true := by rw [HLL.out]; show ((([] ++ mkL u.d.bl u.d.it x u.c.x9 u.c.x10 : List M6).length : Int) == _) = true; rw [List.nil_append, mkL_length]; simp
    have bw : (((comV ({ u with ll := [], dn := false, d := { u.d with ph := 2 } } : Tn) x).ws.length : Int) != (u.ws.length : Int)) = false := by rw [HS.out]; simp
    have hxv : (comV ({ u with ll := [], dn := false, d := { u.d with ph := 2 } } : Tn) x).ws[k]? = some yv := by rw [com_ws, e1]; exact HX.out
    obtain ⟨V, hV⟩ : ∃ V, comV ({ u with ll := [], dn := false, d := { u.d with ph := 2 } } : Tn) x = V := ⟨_, rfl⟩
    rw [hV] at S0 HS dX dD dL bw hxv
    have kk2 : (k : Int) < (V.ws.length : Int) := by have := HS.out; omega
    clear hV HLL e1 HV
    go_wp2_with fail
    refine S0.mono ?_
    rintro e z1 ⟨a2, rfl, T2, M2, hb1⟩
    replace B1 := boxOf_keep B1 hb1
    replace hB := below_next hB hB.size hb1
    replace hs := Nat.lt_of_lt_of_le hs hb1.size
    have HSO := HS.out
    obtain ⟨b2, o2, e2, lb2⟩ := T2.m.words.some_of (by first | omega | (show 0 < u.ws.length; omega))
    clear HSO
    have nb := belowY z1 V a2 38
    have B2 := boxY z1 V a2 38
    replace B1 := boxOf_keep B1 nb
    replace T2 := T2.later nb
    replace hB := below_next hB hB.size nb
    have hs2 : w.heap.size < z1.heap.size := hs
    clear hb1 nb
    have cv : ((z1.alloc (.cells zT.toArray 38)).setCells z1.heap.size 0 (tcs V a2)).cell? ⟨b2, o2 + k, none⟩ = some (.int .i64 yv) := word_cell (by have := T2.m.words; rw [e2] at this; exact this) hxv
    have HBF := hide hB
    clear T2 hxv hB H0 S0
    go_wp2
    go_ret
    exact ⟨ret_b (by simp), HBF.out⟩
  · rw [HV.out.1] at S0 HS
    have d1 : (x != yv) = true := bne_iff_ne.2 (Ne.symm e1)
    have oV : TnOk ({ u with ll := [], dn := false, d := { u.d with ph := 3, x := x, y := yv } } : Tn) := o0.seen (i64_k 3 (by decide)) ix.out iy.out
    have iV : isC ({ u with ll := [], dn := false, d := { u.d with ph := 3, x := x, y := yv } } : Tn) = true := by simp [isC]
    have HLL := hide (com_ll ({ u with ll := [], dn := false, ws := u.ws.set k yv, d := { u.d with ph := 3, x := x, y := yv } } : Tn) x)
    have dX : ((comV ({ u with ll := [], dn := false, ws := u.ws.set k yv, d := { u.d with ph := 3, x := x, y := yv } } : Tn) x).d.x == x) = true := by rw [com_x]; simp
    have dD : ((comV ({ u with ll := [], dn := false, ws := u.ws.set k yv, d := { u.d with ph := 3, x := x, y := yv } } : Tn) x).dn == ((u.d.kl.length : Int) == 0)) = true := by rw [com_dn _ _ rfl]; simp
    have dL : (((comV ({ u with ll := [], dn := false, ws := u.ws.set k yv, d := { u.d with ph := 3, x := x, y := yv } } : Tn) x).ll.length : Int) == (u.d.bl.length : Int)) = true := by rw [HLL.out]; show ((([] ++ mkL u.d.bl u.d.it x u.c.x9 u.c.x10 : List M6).length : Int) == _) = true; rw [List.nil_append, mkL_length]; simp
    have HW := hide (show (comV ({ u with ll := [], dn := false, ws := u.ws.set k yv, d := { u.d with ph := 3, x := x, y := yv } } : Tn) x).ws.length = u.ws.length by rw [com_ws]; simp)
    have bw : (((comV ({ u with ll := [], dn := false, ws := u.ws.set k yv, d := { u.d with ph := 3, x := x, y := yv } } : Tn) x).ws.length : Int) != (u.ws.length : Int)) = false := by rw [HW.out]; simp
    have hxv : (comV ({ u with ll := [], dn := false, ws := u.ws.set k yv, d := { u.d with ph := 3, x := x, y := yv } } : Tn) x).ws[k]? = some yv := by rw [com_ws]; show (u.ws.set k yv)[k]? = _; rw [List.getElem?_set_self hkl]
    obtain ⟨V, hV⟩ : ∃ V, comV ({ u with ll := [], dn := false, ws := u.ws.set k yv, d := { u.d with ph := 3, x := x, y := yv } } : Tn) x = V := ⟨_, rfl⟩
    rw [hV] at HV HW dX dD dL bw hxv
    have kk2 : (k : Int) < (V.ws.length : Int) := by have := HW.out; omega
    have PX : ({ u with ll := [], dn := false, d := { u.d with ph := 3, x := x, y := yv } } : Tn).d.ph = 3 := rfl
    clear hV HLL e1
    go_wp2_with fail
    refine S0.mono ?_
    rintro e z1 ⟨a2, rfl, T2, M2, hb1⟩
    replace B1 := boxOf_keep B1 hb1
    replace hB := below_next hB hB.size hb1
    replace hs := Nat.lt_of_lt_of_le hs hb1.size
    have HSO := HS.out
    obtain ⟨b2, o2, e2, lb2⟩ := T2.m.words.some_of (by first | omega | (show 0 < u.ws.length; omega))
    clear HSO
    have nb := belowY z1 ({ u with ll := [], dn := false, d := { u.d with ph := 3, x := x, y := yv } } : Tn) a2 38
    have B2 := boxY z1 ({ u with ll := [], dn := false, d := { u.d with ph := 3, x := x, y := yv } } : Tn) a2 38
    replace B1 := boxOf_keep B1 nb
    replace T2 := T2.later nb
    replace hB := below_next hB hB.size nb
    have hs2 : w.heap.size < z1.heap.size := hs
    clear hb1 nb
    have S1 := cstep_at ({ u with ll := [], dn := false, d := { u.d with ph := 3, x := x, y := yv } } : Tn) a2 oV _ T2
    rw [HV.out.2, iV] at S1
    have cv : ((z1.alloc (.cells zT.toArray 38)).setCells z1.heap.size 0 (tcs ({ u with ll := [], dn := false, d := { u.d with ph := 3, x := x, y := yv } } : Tn) a2)).cell? ⟨b2, o2 + k, none⟩ = some (.int .i64 x) := word_cell (by have := T2.m.words; rw [e2] at this; exact this) HX.out
    have k1l : z1.heap.size < ((z1.alloc (.cells zT.toArray 38)).setCells z1.heap.size 0 (tcs ({ u with ll := [], dn := false, d := { u.d with ph := 3, x := x, y := yv } } : Tn) a2)).heap.size := by rw [size_sets]; simp
    clear T2 H0 S0 HV iV oV
    go_wp2_with fail
    generalize ((z1.alloc (.cells zT.toArray 38)).setCells z1.heap.size 0 (tcs ({ u with ll := [], dn := false, d := { u.d with ph := 3, x := x, y := yv } } : Tn) a2)) = y3 at *
    generalize z1.heap.size = k1 at *
    refine S1.mono ?_
    rintro e z2 ⟨a3, rfl, T3, M3, hb1⟩
    have hA3 : ∀ p, a3.mA = some p → p.block ≠ k1 := fun p hp => by
      rcases M3.mA with e | f
      · rw [e, e2] at hp; cases hp; show b2 ≠ k1; omega
      · have := f p hp; omega
    replace B1 := boxOf_keep B1 hb1
    replace B2 := boxOf_keep B2 hb1
    replace hB := below_next hB hB.size hb1
    have kz : k1 < z2.heap.size := Nat.lt_of_lt_of_le k1l hb1.size
    have nb := belowY z2 V a3 38
    have B3 := boxY z2 V a3 38
    replace B1 := boxOf_keep B1 nb
    replace B2 := boxOf_keep B2 nb
    replace T3 := T3.later nb
    replace hB := below_next hB hB.size nb
    have ne1 : ¬ k1 = z2.heap.size := by omega
    have ne2 : ¬ z2.heap.size = k1 := by omega
    have ne3 : ¬ k1 = w.heap.size := by omega
    obtain ⟨b3, o3, e3, _⟩ := T3.m.words.some_of (by have := HW.out; omega)
    have cf : (((z2.alloc (.cells zT.toArray 38)).setCells z2.heap.size 0 (tcs V a3)).setCells k1 0 (tcs V a3)).cell? ⟨b3, o3 + k, none⟩ = some (.int .i64 yv) := word_cell (by have := T3.m.words.setsC k1 (fun _ p hp => hA3 p hp) (tcs V a3) 0; rw [e3] at this; exact this) hxv
    have HBF := hide (below_sets (B := w.heap.size) k1 (by omega) (tcs V a3) 0 _ _ hB)
    clear T3 hxv hB S1 hb1 nb cv M3 hA3 e2 lb2
    go_wp2
    go_ret
    exact ⟨ret_b (by simp), HBF.out⟩
end Go.Proofs.Ytiacgbkaflcbeaa
