/- The walk of CommitRace. -/
import Derived.Test.YtiacgbkaflcbeaaW12Base
import Derived.Test.YtiacgbkaflcbeaaCmL
import Derived.Test.YtiacgbkaflcbeaaM4
import Derived.Test.YtiacgbkaflcbeaaM1
import Derived.Lib.QuietBelow
import Derived.Deep.QuietTactic
import Derived.BigQuiet
import Derived.Deep.RegionHeld3
import Derived.Deep.Cut
namespace Go.Proofs.Ytiacgbkaflcbeaa
open Go.RowKit Go.Sort
set_option linter.unusedVariables false
set_option linter.unusedSimpArgs false

attribute [local irreducible] tcs thc ccs zT
attribute [local go_sem ↓] alTn_is
attribute [local go_sem] run_alTnf run_alTnt zT_length
attribute [local go_sem ↓] lbTn_is lbTh_is lbCf_is lbRc_is sbTn_is sbTh_is sbCf_is sbRc_is
attribute [local go_sem] run_lbTn run_lbTh run_lbCf run_lbRc run_sbTn run_sbTh run_sbCf run_sbRc
attribute [local go_sem 2000] boxOf_old'
attribute [local go_sem] boxOf_at' boxOf_free' boxOf_alloc objBox_cells objBox_cellsA boxOf_drew boxOf_setI boxOf_setsI size_sets tcs_length thc_length ccs_length tcs_one thc_one ccs_one sub_tn sub_th sub_cf sub_thAll sub_cfAll put_turn put_thread
attribute [local go_sem] tc0 tc1 tc2 tc3 tc4 tc5 tc6 tc7 tc8 tc9 tc10 tc11 tc12 tc13 tc14 tc15 tc16 tc17 tc18 tc19 tc20 tc21 tc22 tc23 tc24 tc25 tc26 tc27 tc28 tc29 tc30 tc31 tc32 tc33 tc34 tc35 tc36 hc0 hc1 hc2 hc3 hc4 hc5 hc6 hc7 hc8 hc9 hc10 hc11 hc12 hc13 hc14 hc15 hc16 kc0 kc1 kc2 kc3 kc4 kc5 kc6 kc7 kc8 kc9 kc10 kc11 tg0 tg1 tg2 tg3 tg4 tg5 tg6 tg7 tg8 tg9 tg10 tg11 tg12 tg13 tg14 tg15 tg16 tg17 tg18 tg19 tg20 tg21 tg22 tg23 tg24 tg25 tg26 tg27 tg28 tg29 tg30 tg31 tg32 tg33 tg34 tg35 tg36 hg0 hg1 hg2 hg3 hg4 hg5 hg6 hg7 hg8 hg9 hg10 hg11 hg12 hg13 hg14 hg15 hg16 kg0 kg1 kg2 kg3 kg4 kg5 kg6 kg7 kg8 kg9 kg10 kg11
attribute [local go_sem] ts12 ts13 ts14 ts16 ts17 ts18 ts19 ts20 ts21 ts22 ts23 ts24 ts25 ts26 ts27 ts28 ts29 ts30 ts31 ts32 ts33 ts34 ts35 ts36 ts15 hs0 hs1 hs2 hs3 hs7 hs8 hs9 hs10 hs11 hs12 hs13 hs14 hs15 hs16

attribute [local irreducible] zC zH
attribute [local go_sem ↓] alCf_is alRc_is alTh_is
attribute [local go_sem] run_alCf run_alRc run_alTh zC_length zH_length put_conf put_thrd
attribute [local go_sem] tsNil
theorem i64_tmod (X m : Int) (h1 : 1 ≤ m) (h2 : m ≤ 16) : I64 (Int.tmod X m) := by
  have a1 : X.tmod m < m := Int.tmod_lt_of_pos X (by omega)
  have a2 : -m < X.tmod m := Int.lt_tmod_of_pos X (by omega)
  unfold I64; omega
set_option maxRecDepth 100000 in
set_option maxHeartbeats 4000000 in
theorem race_walk (u : Tn) (a : TA) (z : Int) (z0 : 0 ≤ z) (z1 : z ≤ 255) (Ab : Option Addr) (cb : Nat) (lb : List E3) (gb : Good lb) (w : World) (sb : Sees w w.heap.size 3 Ab lb.length (ecells lb)) (hi : TnIn w u a) : Calls Try.prog 6 #[.agg (tcs u a).toArray, .int .u8 z, .slice Ab lb.length cb] w (BoolPost true w) := by
  have B1 : boxOf (w.alloc (.cells (tcs u a).toArray 38)) w.heap.size = some (tcs u a) := by simp [go_sem]
  have hB : Below w.heap.size w (w.alloc (.cells (tcs u a).toArray 38)) := belowN w _
  have hs : w.heap.size < (w.alloc (.cells (tcs u a).toArray 38)).heap.size := by simp
  go_enter Try.func6, Try.ntmps6
  go_wp2_with fail
  generalize (w.alloc (.cells (tcs u a).toArray 38)) = wz at *
  refine (big_tn u a _ (hi.m.later hB)).mono ?_
  rintro e w1 ⟨r, rfl, hr, hb1⟩
  replace B1 := boxOf_keep B1 hb1
  replace hB := below_next hB hB.size hb1
  replace hs := Nat.lt_of_lt_of_le hs hb1.size
  clear hb1
  cases r with
  | true =>
    go_wp2_with (go_at_call 10; refine (shown_any _).mono ?_; rintro e ws ⟨rfl, hbs⟩; replace hB := below_next hB hB.size hbs; clear hbs)
    go_ret
    exact ⟨ret_b (by simp), hB⟩
  | false =>
  have sm := hide (hr rfl)
  clear hr
  go_wp2_with fail
  refine (may_any u a _).mono ?_
  rintro e w2 ⟨r, rfl, hr, hb1⟩
  replace B1 := boxOf_keep B1 hb1
  replace hB := below_next hB hB.size hb1
  replace hs := Nat.lt_of_lt_of_le hs hb1.size
  clear hb1
  cases r with
  | false =>
    go_wp2_with (go_at_call 10; refine (shown_any _).mono ?_; rintro e ws ⟨rfl, hbs⟩; replace hB := below_next hB hB.size hbs; clear hbs)
    go_ret
    exact ⟨ret_b (by simp), hB⟩
  | true =>
  have my := hide (hr rfl)
  clear hr
  have h := hide (hi.at sm.out)
  have o := hide (hi.ok sm.out my.out)
  have cap := hide hi.cap
  clear hi
  by_cases g1 : (20 : Int) < (lb.length : Int)
  · have g1' : decide ((20 : Int) < (lb.length : Int)) = true := decide_eq_true g1
    go_wp2_with (go_at_call 10; refine (shown_any _).mono ?_; rintro e ws ⟨rfl, hbs⟩; replace hB := below_next hB hB.size hbs; clear hbs)
    go_ret
    exact ⟨ret_b (by simp), hB⟩
  by_cases g2 : u.c.x0 < 2
  · have g2' : decide (u.c.x0 < 2) = true := decide_eq_true g2
    go_wp2_with (go_at_call 10; refine (shown_any _).mono ?_; rintro e ws ⟨rfl, hbs⟩; replace hB := below_next hB hB.size hbs; clear hbs)
    go_ret
    exact ⟨ret_b (by simp), hB⟩
  have lb20 : lb.length ≤ 20 := by omega
  have x02 : 2 ≤ u.c.x0 := by omega
  go_wp2_with fail
  refine (shown_any _).mono ?_
  rintro e w3 ⟨rfl, hb1⟩
  replace B1 := boxOf_keep B1 hb1
  replace hB := below_next hB hB.size hb1
  replace hs := Nat.lt_of_lt_of_le hs hb1.size
  clear hb1
  obtain ⟨k, hk, hkl⟩ := cell_in my.out o.out
  obtain ⟨x, hx⟩ : ∃ x, u.ws[k]? = some x := ⟨u.ws[k], List.getElem?_eq_getElem hkl⟩
  have C1 : boxOf (w3.setCell ⟨w.heap.size, 16, none⟩ (.int .i64 2)) w.heap.size = some (tcs ({ u with d := { u.d with ph := 2 } } : Tn) a) := (boxOf_set _ _ 16 _ B1).trans (congrArg some (ts16 u a 2))
  have hB0 : Below w.heap.size w (w3.setCell ⟨w.heap.size, 16, none⟩ (.int .i64 2)) := hB.setCell (by simp) _
  have hs0 : w.heap.size < (w3.setCell ⟨w.heap.size, 16, none⟩ (.int .i64 2)).heap.size := by simpa using hs
  have nb := belowY (w3.setCell ⟨w.heap.size, 16, none⟩ (.int .i64 2)) ({ u with d := { u.d with ph := 2 } } : Tn) a 38
  have D1 := boxOf_keep C1 nb
  have D2 := boxY (w3.setCell ⟨w.heap.size, 16, none⟩ (.int .i64 2)) ({ u with d := { u.d with ph := 2 } } : Tn) a 38
  have hBd := below_next hB0 hB0.size nb
  have hsd : (w3.setCell ⟨w.heap.size, 16, none⟩ (.int .i64 2)).heap.size < (((w3.setCell ⟨w.heap.size, 16, none⟩ (.int .i64 2)).alloc (.cells zT.toArray 38)).setCells (w3.setCell ⟨w.heap.size, 16, none⟩ (.int .i64 2)).heap.size 0 (tcs ({ u with d := { u.d with ph := 2 } } : Tn) a)).heap.size := by rw [size_sets]; simp
  have sz0 : (w3.setCell ⟨w.heap.size, 16, none⟩ (.int .i64 2)).heap.size = w3.heap.size := by simp
  have nz1 : ¬ u.c.x0 - 1 = 0 := by omega
  have nz2 : ¬ u.c.x0 = 0 := by omega
  have x16 := o.out.c.h0.2
  go_wp2_with fail
  rw [sz0] at D1 D2 hBd hsd
  clear C1 hB0 nb B1 hB sz0
  generalize (((w3.setCell ⟨w.heap.size, 16, none⟩ (.int .i64 2)).alloc (.cells zT.toArray 38)).setCells w3.heap.size 0 (tcs ({ u with d := { u.d with ph := 2 } } : Tn) a)) = y1 at *
  generalize w3.heap.size = g1 at *
  go_cut [6] from 43 (fun q wc => q = .bool false ∧ ∃ t, I64 t ∧ boxOf wc w.heap.size = some (tcs ({ u with d := { u.d with ph := 2 } } : Tn) a) ∧ boxOf wc g1 = some (tcs ({ u with tt := t, d := { u.d with ph := 2 } } : Tn) a) ∧ Below w.heap.size w wc)
  case first =>
    have ne1 : ¬ g1 = w.heap.size := by omega
    have ne2 : ¬ w.heap.size = g1 := by omega
    go_region
    all_goals
      go_wp2_with fail
      go_meet
      refine ⟨rfl, (wrap64 (wrap64 (u.tt + 1) + z % (u.c.x0 - 1))).tmod u.c.x0, i64_tmod _ _ (by omega) x16, ?_, ?_, ?_⟩
      · rw [boxOf_drew, boxOf_far _ _ _ _ ne1]; exact D1
      · exact (boxOf_set _ _ 12 _ D2).trans (congrArg some (ts12 _ _ _))
      · exact (hBd.setCell (by show w.heap.size ≤ g1; omega) _).drew
  case rest =>
    obtain ⟨rfl, t, it, D1, D2, hB⟩ := hcut
    clear hBd hsd
    have ne1 : ¬ g1 = w.heap.size := by omega
    have ne2 : ¬ w.heap.size = g1 := by omega
    have E1 : boxOf (wc.setCell ⟨g1, 20, none⟩ (.slice Ab lb.length cb)) w.heap.size = some (tcs ({ u with d := { u.d with ph := 2 } } : Tn) a) := by rw [boxOf_far _ _ _ _ ne1]; exact D1
    have E2 : boxOf (wc.setCell ⟨g1, 20, none⟩ (.slice Ab lb.length cb)) g1 = some (tcs ({ u with tt := t, d := { u.d with ph := 2, bl := lb } } : Tn) ({ a with p := { a.p with bA := Ab, bc := cb } } : TA)) := (boxOf_set _ _ 20 _ D2).trans (congrArg some (ts20 _ _ _ _ _))
    have hBb : Below w.heap.size w (wc.setCell ⟨g1, 20, none⟩ (.slice Ab lb.length cb)) := hB.setCell (by show w.heap.size ≤ g1; omega) _
    have hl := h.out.later hBb
    have T1 : TnAt (wc.setCell ⟨g1, 20, none⟩ (.slice Ab lb.length cb)) ({ u with d := { u.d with ph := 2 } } : Tn) a := ⟨hl.m, hl.bx, ⟨hl.th.b, hl.th.k, hl.th.h⟩, hl.tp, hl.lg⟩
    have o1 : TnOk ({ u with d := { u.d with ph := 2 } } : Tn) := ⟨o.out.b, o.out.k, o.out.h, o.out.l, o.out.t, ⟨(o.out.f.phxy (i64_k 2 (by decide)) o.out.ix o.out.iy).n, o.out.f.t, o.out.f.v, o.out.f.b, o.out.f.h, o.out.f.k⟩, o.out.lo, o.out.hi, o.out.tt, o.out.ws, o.out.c⟩
    have o2 : TnOk ({ u with tt := t, d := { u.d with ph := 2, bl := lb } } : Tn) := ⟨lb20, o.out.k, o.out.h, o.out.l, o.out.t, ⟨(o.out.f.phxy (i64_k 2 (by decide)) o.out.ix o.out.iy).n, o.out.f.t, o.out.f.v, gb, o.out.f.h, o.out.f.k⟩, o.out.lo, o.out.hi, it, o.out.ws, o.out.c⟩
    have ix := o.out.ws x (List.mem_of_getElem? hx)
    obtain ⟨yp, hyp⟩ : ∃ y, allV u.d.bl x u.c.x9 u.c.x10 = y := ⟨_, rfl⟩
    obtain ⟨yq, hyq⟩ : ∃ y, allV lb x u.c.x9 u.c.x10 = y := ⟨_, rfl⟩
    have ip : I64 yp := by rw [← hyp]; exact allV_i64 o.out.f.b ix o.out.lo o.out.hi
    have iq : I64 yq := by rw [← hyq]; exact allV_i64 gb ix o.out.lo o.out.hi
    have HP : ((stepC ({ u with d := { u.d with ph := 2 } } : Tn)).d.ph != 3) = true ∨ (yp ≠ x ∧ stepC ({ u with d := { u.d with ph := 2 } } : Tn) = ({ u with d := { u.d with ph := 3, x := x, y := yp } } : Tn)) := by
      have e1 : stepC ({ u with d := { u.d with ph := 2 } } : Tn) = lookV ({ u with d := { u.d with ph := 2 } } : Tn) := by simp [stepC]
      rw [e1, look_at (u := ({ u with d := { u.d with ph := 2 } } : Tn)) hk hx]
      by_cases h1 : yp = x
      · left
        rw [if_pos (by rw [← h1, ← hyp]; simp only []; rw [hyp, h1]; exact hyp.trans h1)]
        rcases com_ph ({ u with d := { u.d with ph := 2 } } : Tn) x with e | e <;> rw [e] <;> decide
      · right
        refine ⟨h1, ?_⟩
        simp only []
        rw [hyp, if_neg h1]
        rfl
    have HQ : ((stepC ({ u with tt := t, d := { u.d with ph := 2, bl := lb } } : Tn)).d.ph != 3) = true ∨ (yq ≠ x ∧ stepC ({ u with tt := t, d := { u.d with ph := 2, bl := lb } } : Tn) = ({ u with tt := t, d := { u.d with ph := 3, bl := lb, x := x, y := yq } } : Tn)) := by
      have e1 : stepC ({ u with tt := t, d := { u.d with ph := 2, bl := lb } } : Tn) = lookV ({ u with tt := t, d := { u.d with ph := 2, bl := lb } } : Tn) := by simp [stepC]
      rw [e1, look_at (u := ({ u with tt := t, d := { u.d with ph := 2, bl := lb } } : Tn)) hk hx]
      by_cases h1 : yq = x
      · left
        rw [if_pos (by simp only []; rw [hyq, h1])]
        rcases com_ph ({ u with tt := t, d := { u.d with ph := 2, bl := lb } } : Tn) x with e | e <;> rw [e] <;> decide
      · right
        refine ⟨h1, ?_⟩
        simp only []
        rw [hyq, if_neg h1]
        rfl
    have hXS : stepC ({ u with d := { u.d with ph := 3, x := x, y := yp } } : Tn) = comV ({ u with ws := u.ws.set k yp, d := { u.d with ph := 3, x := x, y := yp } } : Tn) x := by
      have e1 : stepC ({ u with d := { u.d with ph := 3, x := x, y := yp } } : Tn) = swapV ({ u with d := { u.d with ph := 3, x := x, y := yp } } : Tn) := by simp [stepC]
      rw [e1, swap_at (u := ({ u with d := { u.d with ph := 3, x := x, y := yp } } : Tn)) hk hx]; exact if_pos rfl
    have RC := fun W => hide (rcell_tn u.c o.out.c u.d.it (o.out.f.n _ (by simp [Dt.nums])) W)
    rw [hk] at RC
    have o3 : TnOk ({ u with d := { u.d with ph := 3, x := x, y := yp } } : Tn) := o1.seen (i64_k 3 (by decide)) ix ip
    have o4 : ∀ ws : List Int, (∀ v ∈ ws, I64 v) → TnOk ({ u with tt := t, ws := ws, d := { u.d with ph := 3, bl := lb, x := x, y := yq } } : Tn) := fun ws hw => ⟨o2.b, o2.k, o2.h, o2.l, o2.t, o2.f.phxy (i64_k 3 (by decide)) ix iq, o2.lo, o2.hi, o2.tt, hw, o2.c⟩
    have S1 := cstep_at ({ u with d := { u.d with ph := 2 } } : Tn) a o1 _ T1
    have i1 : isC ({ u with d := { u.d with ph := 2 } } : Tn) = true := by simp [isC]
    have i2 : isC ({ u with tt := t, d := { u.d with ph := 2, bl := lb } } : Tn) = true := by simp [isC]
    rw [i1] at S1
    obtain ⟨P, hP⟩ : ∃ P, stepC ({ u with d := { u.d with ph := 2 } } : Tn) = P := ⟨_, rfl⟩
    obtain ⟨Q, hQ⟩ : ∃ Q, stepC ({ u with tt := t, d := { u.d with ph := 2, bl := lb } } : Tn) = Q := ⟨_, rfl⟩
    rw [hP] at HP S1
    rw [hQ] at HQ
    have HQe := hide hQ
    have hgB := boxOf_lt E2
    go_wp2_with fail
    clear D1 D2 hB hl T1 o1 hyp hyq hP hQ sm my cap
    generalize (wc.setCell ⟨g1, 20, none⟩ (.slice Ab lb.length cb)) = y1' at *
    refine S1.mono ?_
    rintro e zp ⟨ap, rfl, TP, MP, hb1⟩
    replace MP := hide MP
    replace E1 := boxOf_keep E1 hb1
    replace E2 := boxOf_keep E2 hb1
    have hB := below_next hBb hBb.size hb1
    have nb := belowY zp P ap 38
    have E3 := boxY zp P ap 38
    replace E1 := boxOf_keep E1 nb
    replace E2 := boxOf_keep E2 nb
    have TP0 := hide TP
    replace TP := TP.later nb
    replace hB := below_next hB hB.size nb
    have hp0 := boxOf_lt E3
    have hgp : g1 < zp.heap.size := Nat.lt_of_lt_of_le hgB hb1.size
    have hl := h.out.later hB
    have T2 : TnAt ((zp.alloc (.cells zT.toArray 38)).setCells zp.heap.size 0 (tcs P ap)) ({ u with tt := t, d := { u.d with ph := 2, bl := lb } } : Tn) ({ a with p := { a.p with bA := Ab, bc := cb } } : TA) := ⟨hl.m, hl.bx, ⟨sb.later hB, hl.th.k, hl.th.h⟩, hl.tp, hl.lg⟩
    have S2 := cstep_at ({ u with tt := t, d := { u.d with ph := 2, bl := lb } } : Tn) ({ a with p := { a.p with bA := Ab, bc := cb } } : TA) o2 _ T2
    rw [i2, HQe.out] at S2
    clear hb1 nb hl T2 o2 hBb S1
    go_wp2_with fail
    generalize ((zp.alloc (.cells zT.toArray 38)).setCells zp.heap.size 0 (tcs P ap)) = y2 at *
    generalize hgpe : zp.heap.size = gp at *
    refine S2.mono ?_
    rintro e zq ⟨aq, rfl, TQ, MQ, hb1⟩
    replace E1 := boxOf_keep E1 hb1
    replace E2 := boxOf_keep E2 hb1
    replace E3 := boxOf_keep E3 hb1
    replace TP := TP.later hb1
    replace hB := below_next hB hB.size hb1
    have hpq : gp < zq.heap.size := boxOf_lt E3
    have nb := belowY zq Q aq 38
    have E4 := boxY zq Q aq 38
    replace E1 := boxOf_keep E1 nb
    replace E2 := boxOf_keep E2 nb
    replace E3 := boxOf_keep E3 nb
    replace TP := TP.later nb
    replace hB := below_next hB hB.size nb
    have hq0 := boxOf_lt E4
    clear hb1 S2 E2 ne1 ne2
    rcases HP with bp | ⟨hpx, rfl⟩
    · have HBF := hide hB
      clear TP TQ nb TP0
      go_wp2
      go_ret
      exact ⟨ret_b (by simp), HBF.out⟩
    rcases HQ with bq | ⟨hqx, rfl⟩
    · have HBF := hide hB
      clear TP TQ nb TP0
      go_wp2
      go_ret
      exact ⟨ret_b (by simp), HBF.out⟩
    have S3 := cstep_at ({ u with d := { u.d with ph := 3, x := x, y := yp } } : Tn) ap (o3) _ TP
    have i3 : isC ({ u with d := { u.d with ph := 3, x := x, y := yp } } : Tn) = true := by simp [isC]
    rw [hXS, i3] at S3
    have HXL := hide (show (comV ({ u with ws := u.ws.set k yp, d := { u.d with ph := 3, x := x, y := yp } } : Tn) x).ws = u.ws.set k yp by rw [com_ws])
    have hsum : (u.ll.length : Int) + (u.d.bl.length : Int) = ((comV ({ u with ws := u.ws.set k yp, d := { u.d with ph := 3, x := x, y := yp } } : Tn) x).ll.length : Int) := by rw [com_ll]; show _ = ((u.ll ++ mkL u.d.bl u.d.it x u.c.x9 u.c.x10 : List M6).length : Int); rw [List.length_append, mkL_length]; omega
    obtain ⟨X, hX⟩ : ∃ X, comV ({ u with ws := u.ws.set k yp, d := { u.d with ph := 3, x := x, y := yp } } : Tn) x = X := ⟨_, rfl⟩
    rw [hX] at S3 HXL hsum
    clear hX hXS
    have HWX := hide (show X.ws.length = u.ws.length by rw [HXL.out]; simp)
    have hxk : X.ws[k]? = some yp := by rw [HXL.out]; exact List.getElem?_set_self hkl
    have ixw : ∀ v ∈ X.ws, I64 v := fun v hv => by
      rw [HXL.out] at hv
      rcases List.mem_or_eq_of_mem_set hv with h | rfl
      · exact o.out.ws v h
      · exact ip
    have hwr : wrap64 (X.ll.length : Int) = (X.ll.length : Int) := by have := o.out.l; have := o.out.b; unfold wrap64; omega
    have HTQ := hide TQ
    have hqz := nb
    clear TQ nb
    go_wp2_with fail
    generalize ((zq.alloc (.cells zT.toArray 38)).setCells zq.heap.size 0 (tcs ({ u with tt := t, d := { u.d with ph := 3, bl := lb, x := x, y := yq } } : Tn) aq)) = y3 at *
    generalize hgqe : zq.heap.size = gq at *
    refine S3.mono ?_
    rintro e zx ⟨ax, rfl, TX, MX, hb1⟩
    have hAX : ∀ p, ax.mA = some p → p.block ≠ gq := fun p hp => by
      rcases MX.mA with e | f
      · have := TP0.out.m.words.block_lt (show 0 < u.ws.length by omega) p (by rw [← e]; exact hp); omega
      · have := f p hp; omega
    have exB : ax.mB = aq.mB := MX.mB.trans (MP.out.mB.trans MQ.mB.symm)
    have exD : ax.md = aq.md := MX.md.trans (MP.out.md.trans MQ.md.symm)
    have exS : ax.bs = aq.bs := MX.bs.trans (MP.out.bs.trans MQ.bs.symm)
    replace E1 := boxOf_keep E1 hb1
    replace E3 := boxOf_keep E3 hb1
    replace E4 := boxOf_keep E4 hb1
    replace hB := below_next hB hB.size hb1
    replace hqz := below_next hqz (by have := hqz.size; omega) hb1
    have hqx : gq < zx.heap.size := boxOf_lt E4
    have nb := belowY zx X ax 38
    have E5 := boxY zx X ax 38
    replace E1 := boxOf_keep E1 nb
    replace E3 := boxOf_keep E3 nb
    replace E4 := boxOf_keep E4 nb
    replace hB := below_next hB hB.size nb
    replace hqz := below_next hqz (by have := hqz.size; omega) nb
    have sX := TX.m.words.later nb
    have ne3 : ¬ gq = zx.heap.size := by omega
    have ne4 : ¬ zx.heap.size = gq := by omega
    have ne5 : ¬ gq = gp := by omega
    have ne6 : ¬ gq = w.heap.size := by omega
    have nbz := nb
    clear hb1 nb TX TP TP0 S3
    have TZ : (tcs ({ u with tt := t, ws := X.ws, d := { u.d with ph := 3, bl := lb, x := x, y := yq } } : Tn) ({ aq with mA := ax.mA, mc := ax.mc } : TA)).set 15 (.slice ax.mB ax.bs.length ax.md) = tcs ({ u with tt := t, ws := X.ws, d := { u.d with ph := 3, bl := lb, x := x, y := yq } } : Tn) ({ aq with mA := ax.mA, mc := ax.mc } : TA) := by rw [exB, exD, exS]; exact ts15 ({ u with tt := t, ws := X.ws, d := { u.d with ph := 3, bl := lb, x := x, y := yq } } : Tn) ({ aq with mA := ax.mA, mc := ax.mc } : TA)
    have F4 : boxOf ((((zx.alloc (.cells zT.toArray 38)).setCells zx.heap.size 0 (tcs X ax)).setCell ⟨gq, 14, none⟩ (.slice ax.mA X.ws.length ax.mc)).setCell ⟨gq, 15, none⟩ (.slice aq.mB aq.bs.length aq.md)) gq = some (tcs ({ u with tt := t, ws := X.ws, d := { u.d with ph := 3, bl := lb, x := x, y := yq } } : Tn) ({ aq with mA := ax.mA, mc := ax.mc } : TA)) := by
      have f := boxOf_set _ gq 15 (.slice aq.mB aq.bs.length aq.md) (boxOf_set _ gq 14 (.slice ax.mA X.ws.length ax.mc) E4)
      rw [ts14] at f
      exact f.trans (congrArg some (ts15 ({ u with tt := t, ws := X.ws, d := { u.d with ph := 3, bl := lb, x := x, y := yq } } : Tn) ({ aq with mA := ax.mA, mc := ax.mc } : TA)))
    have F1 : boxOf ((((zx.alloc (.cells zT.toArray 38)).setCells zx.heap.size 0 (tcs X ax)).setCell ⟨gq, 14, none⟩ (.slice ax.mA X.ws.length ax.mc)).setCell ⟨gq, 15, none⟩ (.slice aq.mB aq.bs.length aq.md)) w.heap.size = some (tcs ({ u with d := { u.d with ph := 2 } } : Tn) a) := by rw [boxOf_far _ _ _ _ ne6, boxOf_far _ _ _ _ ne6]; exact E1
    have F3 : boxOf ((((zx.alloc (.cells zT.toArray 38)).setCells zx.heap.size 0 (tcs X ax)).setCell ⟨gq, 14, none⟩ (.slice ax.mA X.ws.length ax.mc)).setCell ⟨gq, 15, none⟩ (.slice aq.mB aq.bs.length aq.md)) gp = some (tcs ({ u with d := { u.d with ph := 3, x := x, y := yp } } : Tn) ap) := by rw [boxOf_far _ _ _ _ ne5, boxOf_far _ _ _ _ ne5]; exact E3
    have F5 : boxOf ((((zx.alloc (.cells zT.toArray 38)).setCells zx.heap.size 0 (tcs X ax)).setCell ⟨gq, 14, none⟩ (.slice ax.mA X.ws.length ax.mc)).setCell ⟨gq, 15, none⟩ (.slice aq.mB aq.bs.length aq.md)) zx.heap.size = some (tcs X ax) := by rw [boxOf_far _ _ _ _ ne3, boxOf_far _ _ _ _ ne3]; exact E5
    have hBM : Below w.heap.size w ((((zx.alloc (.cells zT.toArray 38)).setCells zx.heap.size 0 (tcs X ax)).setCell ⟨gq, 14, none⟩ (.slice ax.mA X.ws.length ax.mc)).setCell ⟨gq, 15, none⟩ (.slice aq.mB aq.bs.length aq.md)) := (hB.setCell (by show w.heap.size ≤ gq; omega) _).setCell (by show w.heap.size ≤ gq; omega) _
    have hqM : Below zq.heap.size zq ((((zx.alloc (.cells zT.toArray 38)).setCells zx.heap.size 0 (tcs X ax)).setCell ⟨gq, 14, none⟩ (.slice ax.mA X.ws.length ax.mc)).setCell ⟨gq, 15, none⟩ (.slice aq.mB aq.bs.length aq.md)) := by
      rw [hgqe]
      exact (hqz.setCell (Nat.le_refl gq) _).setCell (Nat.le_refl gq) _
    have sM : Sees ((((zx.alloc (.cells zT.toArray 38)).setCells zx.heap.size 0 (tcs X ax)).setCell ⟨gq, 14, none⟩ (.slice ax.mA X.ws.length ax.mc)).setCell ⟨gq, 15, none⟩ (.slice aq.mB aq.bs.length aq.md)) ((((zx.alloc (.cells zT.toArray 38)).setCells zx.heap.size 0 (tcs X ax)).setCell ⟨gq, 14, none⟩ (.slice ax.mA X.ws.length ax.mc)).setCell ⟨gq, 15, none⟩ (.slice aq.mB aq.bs.length aq.md)).heap.size 1 ax.mA X.ws.length (X.ws.map (Value.int .i64)) := (sX.own1 _ _ _ (fun _ => hAX)).own1 _ _ _ (fun _ => hAX)
    have hlq := HTQ.out.later hqM
    have TQX : TnAt ((((zx.alloc (.cells zT.toArray 38)).setCells zx.heap.size 0 (tcs X ax)).setCell ⟨gq, 14, none⟩ (.slice ax.mA X.ws.length ax.mc)).setCell ⟨gq, 15, none⟩ (.slice aq.mB aq.bs.length aq.md)) ({ u with tt := t, ws := X.ws, d := { u.d with ph := 3, bl := lb, x := x, y := yq } } : Tn) ({ aq with mA := ax.mA, mc := ax.mc } : TA) := ⟨HTQ.out.m.words_at hqM sM HWX.out, hlq.bx, ⟨hlq.th.b, hlq.th.k, hlq.th.h⟩, hlq.tp, hlq.lg⟩
    have S4 := cstep_at ({ u with tt := t, ws := X.ws, d := { u.d with ph := 3, bl := lb, x := x, y := yq } } : Tn) ({ aq with mA := ax.mA, mc := ax.mc } : TA) (o4 X.ws ixw) _ TQX
    have i4 : isC ({ u with tt := t, ws := X.ws, d := { u.d with ph := 3, bl := lb, x := x, y := yq } } : Tn) = true := by simp [isC]
    have hYS : stepC ({ u with tt := t, ws := X.ws, d := { u.d with ph := 3, bl := lb, x := x, y := yq } } : Tn) = ({ u with tt := t, ws := X.ws, d := { u.d with ph := 2, bl := lb, x := x, y := yq, wd := widV u.d.wd u.c.x5 } } : Tn) := by
      have e1 : stepC ({ u with tt := t, ws := X.ws, d := { u.d with ph := 3, bl := lb, x := x, y := yq } } : Tn) = swapV ({ u with tt := t, ws := X.ws, d := { u.d with ph := 3, bl := lb, x := x, y := yq } } : Tn) := by simp [stepC]
      rw [e1, swap_at (u := ({ u with tt := t, ws := X.ws, d := { u.d with ph := 3, bl := lb, x := x, y := yq } } : Tn)) hk hxk]; exact if_neg hpx
    rw [hYS, i4] at S4
    have TY' : (tcs ({ u with tt := t, d := { u.d with ph := 3, bl := lb, x := x, y := yq } } : Tn) aq).set 14 (.slice ax.mA X.ws.length ax.mc) = tcs ({ u with tt := t, ws := X.ws, d := { u.d with ph := 3, bl := lb, x := x, y := yq } } : Tn) ({ aq with mA := ax.mA, mc := ax.mc } : TA) := ts14 _ _ _ _ _
    go_wp2_with fail
    clear E1 E3 E4 E5 hB hqz sX hqM hlq TQX sM HTQ TY' TZ exB exD exS hAX nbz MX MQ MP
    generalize ((((zx.alloc (.cells zT.toArray 38)).setCells zx.heap.size 0 (tcs X ax)).setCell ⟨gq, 14, none⟩ (.slice ax.mA X.ws.length ax.mc)).setCell ⟨gq, 15, none⟩ (.slice aq.mB aq.bs.length aq.md)) = y4 at *
    generalize hgxe : zx.heap.size = gx at *
    refine S4.mono ?_
    rintro e zy ⟨ay, rfl, TY, MY, hb1⟩
    replace F1 := boxOf_keep F1 hb1
    replace F3 := boxOf_keep F3 hb1
    replace F5 := boxOf_keep F5 hb1
    have hB := below_next hBM hBM.size hb1
    have nb := belowY zy ({ u with tt := t, ws := X.ws, d := { u.d with ph := 2, bl := lb, x := x, y := yq, wd := widV u.d.wd u.c.x5 } } : Tn) ay 38
    have F6 := boxY zy ({ u with tt := t, ws := X.ws, d := { u.d with ph := 2, bl := lb, x := x, y := yq, wd := widV u.d.wd u.c.x5 } } : Tn) ay 38
    replace F1 := boxOf_keep F1 nb
    replace F3 := boxOf_keep F3 nb
    replace F5 := boxOf_keep F5 nb
    replace hB := below_next hB hB.size nb
    obtain ⟨b6, o6, e6, _⟩ := (TY.m.words.later nb).some_of (show 0 < X.ws.length by have := HWX.out; omega)
    have cv : ((zy.alloc (.cells zT.toArray 38)).setCells zy.heap.size 0 (tcs ({ u with tt := t, ws := X.ws, d := { u.d with ph := 2, bl := lb, x := x, y := yq, wd := widV u.d.wd u.c.x5 } } : Tn) ay)).cell? ⟨b6, o6 + k, none⟩ = some (.int .i64 yp) := word_cell (by have := TY.m.words.later nb; rw [e6] at this; exact this) hxk
    have kk0 : (0 : Int) ≤ (k : Int) := Int.natCast_nonneg _
    have kk1 : (k : Int) < (X.ws.length : Int) := by have := HWX.out; omega
    have bw : ((X.ws.length : Int) == (u.ws.length : Int)) = true := by rw [HWX.out]; simp
    clear hb1 nb TY MY S4 hBM F4
    go_wp2_with fail
    generalize ((zy.alloc (.cells zT.toArray 38)).setCells zy.heap.size 0 (tcs ({ u with tt := t, ws := X.ws, d := { u.d with ph := 2, bl := lb, x := x, y := yq, wd := widV u.d.wd u.c.x5 } } : Tn) ay)) = y5 at *
    generalize zy.heap.size = gy at *
    refine (RC _).out.mono ?_
    rintro e y6 ⟨rfl, hb1⟩
    replace F1 := boxOf_keep F1 hb1
    replace F3 := boxOf_keep F3 hb1
    replace F5 := boxOf_keep F5 hb1
    replace F6 := boxOf_keep F6 hb1
    replace cv := cell_keep cv hb1
    replace hB := below_next hB hB.size hb1
    clear hb1 RC
    have HB := hide hB
    clear hB
    go_wp2_with fail
    have R1 := fun d os => boxOf_keep F1 (below_regrown y6 d os)
    have R3 := fun d os => boxOf_keep F3 (below_regrown y6 d os)
    have R5 := fun d os => boxOf_keep F5 (below_regrown y6 d os)
    have R6 := fun d os => boxOf_keep F6 (below_regrown y6 d os)
    have r1 := cell_regrown cv
    refine wp_region_quiet_below (by kernel_rfl) (by kernel_rfl) ?_
    repeat (go_big_quiet_step (fail))
    refine wpQuiet_nil ?_
    intro _ hw'
    obtain ⟨⟨dq, osq⟩, hw''⟩ := hw'
    subst hw''
    go_wp2
    go_ret
    exact ⟨ret_b (by simp), below_next HB.out HB.out.size (below_regrown y6 dq osq)⟩
theorem race_walk_n (u : Tn) (a : TA) (z : Int) (z0 : 0 ≤ z) (z1 : z ≤ 255) (Ab : Option Addr) (cb : Nat) (lb : List E3) (gb : Good lb) (n : Nat) (hn : n = lb.length) (w : World) (sb : Sees w w.heap.size 3 Ab n (ecells lb)) (hi : TnIn w u a) : Calls Try.prog 6 #[.agg (tcs u a).toArray, .int .u8 z, .slice Ab n cb] w (BoolPost true w) := by
  subst hn
  exact race_walk u a z z0 z1 Ab cb lb gb w sb hi
end Go.Proofs.Ytiacgbkaflcbeaa
