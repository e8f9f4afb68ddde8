/- The walk of ClimbJoins. -/
import Derived.Test.YtlmlmmkichkkhaaW13Base
import Derived.Test.YtlmlmmkichkkhaaItsN
import Derived.Test.YtlmlmmkichkkhaaAlk
import Derived.Test.YtlmlmmkichkkhaaM4
import Derived.Test.YtlmlmmkichkkhaaM1
import Derived.Lib.QuietBelow
import Derived.Deep.QuietTactic
import Derived.BigQuiet
import Derived.Deep.RegionHeld3
import Derived.Deep.Cut
namespace Go.Proofs.Ytlmlmmkichkkhaa
open Go.RowKit Go.Sort
set_option linter.unusedVariables false
set_option linter.unusedSimpArgs false

attribute [local irreducible] tcs thc ccs zT
attribute [local go_sem ↓] alTn_is alRn_is
attribute [local go_sem] run_alTnf run_alTnt run_alRnf run_alRnt zT_length
attribute [local go_sem ↓] lbTn_is lbRn_is lbTh_is lbRh_is lbCf_is lbRc_is sbTn_is sbRn_is sbTh_is sbRh_is sbCf_is sbRc_is
attribute [local go_sem] run_lbTn run_lbRn run_lbTh run_lbRh run_lbCf run_lbRc run_sbTn run_sbRn run_sbTh run_sbRh run_sbCf run_sbRc
attribute [local go_sem 2000] boxOf_old'
attribute [local go_sem] boxOf_at' boxOf_free' boxOf_alloc objBox_cells objBox_cellsA boxOf_drew boxOf_setI boxOf_setsI size_sets tcs_length thc_length ccs_length tcs_one thc_one ccs_one sub_tn sub_th sub_cf sub_thAll sub_cfAll put_turn put_thread
attribute [local go_sem] tc0 tc1 tc2 tc3 tc4 tc5 tc6 tc7 tc8 tc9 tc10 tc11 tc12 tc13 tc14 tc15 tc16 tc17 tc18 tc19 tc20 tc21 tc22 tc23 tc24 tc25 tc26 tc27 tc28 tc29 tc30 tc31 tc32 tc33 tc34 tc35 tc36 hc0 hc1 hc2 hc3 hc4 hc5 hc6 hc7 hc8 hc9 hc10 hc11 hc12 hc13 hc14 hc15 hc16 kc0 kc1 kc2 kc3 kc4 kc5 kc6 kc7 kc8 kc9 kc10 kc11 tg0 tg1 tg2 tg3 tg4 tg5 tg6 tg7 tg8 tg9 tg10 tg11 tg12 tg13 tg14 tg15 tg16 tg17 tg18 tg19 tg20 tg21 tg22 tg23 tg24 tg25 tg26 tg27 tg28 tg29 tg30 tg31 tg32 tg33 tg34 tg35 tg36 hg0 hg1 hg2 hg3 hg4 hg5 hg6 hg7 hg8 hg9 hg10 hg11 hg12 hg13 hg14 hg15 hg16 kg0 kg1 kg2 kg3 kg4 kg5 kg6 kg7 kg8 kg9 kg10 kg11
attribute [local go_sem] ts12 ts13 ts14 ts16 ts17 ts18 ts19 ts20 ts21 ts22 ts23 ts24 ts25 ts26 ts27 ts28 ts29 ts30 ts31 ts32 ts33 ts34 ts35 ts36 ts15 hs0 hs1 hs2 hs3 hs7 hs8 hs9 hs10 hs11 hs12 hs13 hs14 hs15 hs16

attribute [local irreducible] zC zH
attribute [local go_sem ↓] alCf_is alRc_is alTh_is
attribute [local go_sem] run_alCf run_alRc run_alTh zC_length zH_length put_conf put_thrd
theorem boxOf_grown {w w' : World} {row : Option Nat} {g : Nat} {cs : List Value} (hg : w.grownBy w' row) (h : boxOf w g = some cs) (hr : some g ≠ row) : boxOf w' g = some cs := by
  have hl := boxOf_lt h
  obtain ⟨t, h⟩ := boxOf_iff.1 h
  exact boxOf_iff.2 ⟨t, (hg.block g hl hr).trans h⟩
theorem rem_15 (z m : Int) (z0 : 0 ≤ z) (h : 1 ≤ m ∧ m ≤ 16) : 0 ≤ z % m ∧ z % m ≤ 15 := by
  have := Int.emod_nonneg z (show m ≠ 0 by omega); have := Int.emod_lt_of_pos z (show 0 < m by omega); omega
theorem trem_15 (z m : Int) (z0 : 0 ≤ z) (h : 1 ≤ m ∧ m ≤ 16) : 0 ≤ z.tmod m ∧ z.tmod m ≤ 15 := by
  have := Int.tmod_nonneg m z0; have := Int.tmod_lt_of_pos z (show 0 < m by omega); omega
def bdV (parts : Array (Nat × Value)) : Sem Value := Instr.build 38 parts
theorem bdV_is (parts : Array (Nat × Value)) : Instr.build 38 parts = bdV parts := rfl
theorem run_bdV (u : Tn) (ws : List Int) (t : Int) (A B : Option Addr) (c e : Nat) (bs : List Bt) (p : Ad) (d : Dt) (w : World) : (bdV #[(0, .agg (ccs u.c).toArray), (1, .int .i64 t), (2, .int .i64 u.now), (3, .agg #[.slice A ws.length c, .slice B bs.length e]), (4, .agg (thc d p).toArray)]).run Try.prog w = .ok (.agg (tcs ({ u with tt := t, ws := ws, d := d, tl := [], ta := 0, ll := [], dn := false } : Tn) (⟨A, c, B, e, bs, p, none, 0, none, 0⟩ : TA)).toArray) w := by kernel_rfl
theorem over_ph (v : Tn) : (overV v).d.ph ≠ 4 := by unfold overV downV; split; simp; split <;> simp
theorem over_st (v : Tn) : (overV v).d.st = v.d.st := by unfold overV downV; split; rfl; split <;> rfl
attribute [local go_sem ↓] bdV_is
attribute [local go_sem] run_bdV
set_option maxRecDepth 100000 in
set_option maxHeartbeats 4000000 in
theorem joins_walk (u : Tn) (a : TA) (z z' : Int) (z0 : 0 ≤ z) (z1 : z ≤ 255) (z0' : 0 ≤ z') (z1' : z' ≤ 255) (w : World) (hi : TnIn w u a) : Calls Try.prog 5 #[.agg (tcs u a).toArray, .int .u8 z, .int .u8 z'] w (BoolPost true w) := by
  have B1 : boxOf (((w.alloc (.cells (tcs u a).toArray 38)).alloc (.cells zC.toArray 43)).setCells (w.heap.size + 1) 0 (ccs u.c)) w.heap.size = some (tcs u a) := by simp [go_sem]
  have BC : boxOf (((w.alloc (.cells (tcs u a).toArray 38)).alloc (.cells zC.toArray 43)).setCells (w.heap.size + 1) 0 (ccs u.c)) (w.heap.size + 1) = some (ccs u.c) := by simp [go_sem]
  have hs : w.heap.size + 1 < (((w.alloc (.cells (tcs u a).toArray 38)).alloc (.cells zC.toArray 43)).setCells (w.heap.size + 1) 0 (ccs u.c)).heap.size := by simp [size_sets]
  have hB : Below w.heap.size w (((w.alloc (.cells (tcs u a).toArray 38)).alloc (.cells zC.toArray 43)).setCells (w.heap.size + 1) 0 (ccs u.c)) := below_sets _ (by omega) _ _ _ _ ((belowN w _).alloc (by simp) _)
  go_enter Try.func5, Try.ntmps5
  go_wp2_with fail
  generalize (((w.alloc (.cells (tcs u a).toArray 38)).alloc (.cells zC.toArray 43)).setCells (w.heap.size + 1) 0 (ccs u.c)) = wz at *
  refine (big_tn u a _ (hi.m.later hB)).mono ?_
  rintro e w1 ⟨r, rfl, hr, hb1⟩
  replace B1 := boxOf_keep B1 hb1
  replace BC := boxOf_keep BC hb1
  replace hB := below_next hB hB.size hb1
  replace hs := Nat.lt_of_lt_of_le hs hb1.size
  clear hb1
  cases r with
  | true =>
    go_wp2_with (go_at_call 11; refine (shown_any _).mono ?_; rintro e ws ⟨rfl, hbs⟩; replace hB := below_next hB hB.size hbs; clear hbs)
    go_ret
    exact ⟨ret_b (by simp), hB⟩
  | false =>
  have sm := hide (hr rfl)
  clear hr
  go_wp2_with fail
  refine (may_any u a _).mono ?_
  rintro e w2 ⟨r, rfl, hr, hb1⟩
  replace B1 := boxOf_keep B1 hb1
  replace BC := boxOf_keep BC hb1
  replace hB := below_next hB hB.size hb1
  replace hs := Nat.lt_of_lt_of_le hs hb1.size
  clear hb1
  cases r with
  | false =>
    go_wp2_with (go_at_call 11; refine (shown_any _).mono ?_; rintro e ws ⟨rfl, hbs⟩; replace hB := below_next hB hB.size hbs; clear hbs)
    go_ret
    exact ⟨ret_b (by simp), hB⟩
  | true =>
  have my := hide (hr rfl)
  clear hr
  have h := hide (hi.at sm.out)
  have o := hide (hi.ok sm.out my.out)
  have ht := tt_my my.out o.out
  have RC := fun W => rnode_tn u.c o.out.c u.d.it (o.out.f.n _ (by simp [Dt.nums])) u.d.nd o.out.ind W
  have hx0 := o.out.c.h0
  clear hi
  have hnp : ndP u = -1 ∨ 0 ≤ ndP u := by
    rcases np_cases u.c u.d.it u.d.nd with e | ⟨⟨⟨h0, h1⟩, h2, h3⟩, e⟩
    · exact .inl e
    · right
      have hb := bk_le o.out.c.h3 o.out.c.h4 o.out.c.h5
      have := Int.mul_nonneg h0 (show 0 ≤ bkV u.c.x3 u.c.x4 u.c.x5 by omega)
      unfold ndP; omega
  rcases hnp with hnp | hnp
  · rw [show npV u.c u.d.it u.d.nd = -1 from hnp] at RC
    replace RC := hide RC
    clear hnp
    go_wp2_with fail
    refine (RC.out _).mono ?_
    rintro e w3 ⟨rfl, hb1⟩
    replace B1 := boxOf_keep B1 hb1
    replace BC := boxOf_keep BC hb1
    replace hB := below_next hB hB.size hb1
    replace hs := Nat.lt_of_lt_of_le hs hb1.size
    clear hb1
    clear RC
    go_wp2_with (go_at_call 11; refine (shown_any _).mono ?_; rintro e ws ⟨rfl, hbs⟩; replace hB := below_next hB hB.size hbs; clear hbs)
    go_ret
    exact ⟨ret_b (by simp), hB⟩
  obtain ⟨k, hk, hkl⟩ := node_in my.out o.out hnp
  have hnd := nd_pos hnp
  rw [show npV u.c u.d.it u.d.nd = (k : Int) from hk] at RC
  replace RC := hide RC
  have kk0 : (0 : Int) ≤ (k : Int) := Int.natCast_nonneg _
  have kk1 : (k : Int) < (u.ws.length : Int) := by omega
  have HK := hide hk
  clear hnp hk
  go_wp2_with fail
  refine (RC.out _).mono ?_
  rintro e w3 ⟨rfl, hb1⟩
  replace B1 := boxOf_keep B1 hb1
  replace BC := boxOf_keep BC hb1
  replace hB := below_next hB hB.size hb1
  replace hs := Nat.lt_of_lt_of_le hs hb1.size
  clear hb1
  go_wp2_with fail
  refine (shown_any _).mono ?_
  rintro e w4 ⟨rfl, hb1⟩
  replace B1 := boxOf_keep B1 hb1
  replace BC := boxOf_keep BC hb1
  replace hB := below_next hB hB.size hb1
  replace hs := Nat.lt_of_lt_of_le hs hb1.size
  clear hb1
  have nz2 : ¬ u.c.x0 = 0 := by omega
  go_upto_region 4 with fail
  go_cut [8] from 43 (fun q wc => ∃ f, q = .int .i64 f ∧ (0 ≤ f ∧ f ≤ 15) ∧ boxOf wc w.heap.size = some (tcs u a) ∧ boxOf wc (w.heap.size + 1) = some (ccs u.c) ∧ Below w.heap.size w wc)
  case first =>
    go_wp2_with fail
    go_meet
    first
      | exact ⟨_, rfl, rem_15 _ _ (by omega) hx0, B1, BC, hB⟩
      | exact ⟨_, rfl, trem_15 _ _ (by omega) hx0, B1, BC, hB⟩
  case rest =>
  clear B1 BC hB hs
  obtain ⟨f, rfl, hf, B1, BC, hB⟩ := hcut
  have hs := boxOf_lt BC
  have ival := fr_i64 (k := 1) (by decide) hf
  have KF := fun W => first_any f hf W
  have KV := (kd_fr (k := 1) (t := f) (by decide) hf).1
  obtain ⟨fv, hfv⟩ : ∃ x, frV 1 f = x := ⟨_, rfl⟩
  rw [hfv] at ival KF KV
  replace KF := hide KF
  clear hfv
  go_wp2_with fail
  refine (RC.out _).mono ?_
  rintro e y1 ⟨rfl, hb1⟩
  replace B1 := boxOf_keep B1 hb1
  replace hB := below_next hB hB.size hb1
  replace hs := Nat.lt_of_lt_of_le hs hb1.size
  clear hb1 BC
  obtain ⟨i0, hi0, hz0, hz1, hz2⟩ := info_parts info3
  obtain ⟨nw, hnw⟩ : ∃ l, u.ws.set k fv = l := ⟨_, rfl⟩
  have HN : Hid (nw.length = u.ws.length) := hide (by rw [← hnw]; simp)
  have hxk : nw[k]? = some fv := by rw [← hnw, List.getElem?_set_self hkl]
  have o1 : TnOk ({ u with ws := nw, d := { u.d with ph := 4 } } : Tn) := o.out.all (ph := 4) (ws := nw) (i64_k 4 (by decide)) o.out.ix o.out.ist o.out.ind o.out.ipl o.out.f.h o.out.h (fun x hx => by
    rw [← hnw] at hx
    rcases List.mem_or_eq_of_mem_set hx with h | rfl
    · exact o.out.ws x h
    · exact ival)
  have HNW := hide hnw
  have hfew : u.ws.length ≤ 20000 := h.out.m.few
  have hsu : w.heap.size < y1.heap.size := by omega
  have sw := h.out.m.words.later hB
  have nbE := belowN y1 (.cells #[] 3)
  have B1e := boxOf_keep B1 nbE
  have HKL := hide hkl
  have HXK := hide hxk
  clear hnw hxk hkl
  go_wp2_with (at_builtin; refine wpList_app _ rfl _ _ 24 rfl y1.heap.size 3 i0 _ 1 8 Try.underlying24 hi0 hz0 hz1 hz2 rfl (by omega) _ 0 _ rfl (own_empty y1 _ _ _ (Nat.le_refl _)) _ _ u.ws.length a.mc _ rfl (sw.later nbE) (by simp [Value.oneCell']) (by unfold maxLen; omega) (by omega) (by simp) ?_; intro q y2 hown hgw; rw [Nat.zero_add] at hown; obtain ⟨A', cq, rfl, hcq⟩ := own_form hown)
  replace B1e := boxOf_grown hgw B1e (Ne.symm (own_ne (own_empty y1 y1.heap.size 3 1 (Nat.le_refl _)) hsu))
  have hB2 : Below w.heap.size w y2 := (hB.alloc hB.size _).grown hgw (by simp; omega) (fun k e => Nat.le_trans hB.size (own_at (own_empty y1 y1.heap.size 3 1 (Nat.le_refl _)) k e))
  refine (KF.out _).mono ?_
  rintro e y3 ⟨rfl, hb1⟩
  replace B1e := boxOf_keep B1e hb1
  replace hB2 := below_next hB2 hB2.size hb1
  replace hown := own_below hown hb1
  clear hb1
  obtain ⟨g, u0, rfl, hg, hgu, hgf, hset⟩ := own_set (w := y1) (.int .i64 fv) hown HKL.out
  have ne1 : ¬ g = w.heap.size := by omega
  have ne2 : ¬ w.heap.size = g := by omega
  clear B1
  go_wp2_with fail
  have hs2 : w.heap.size < y3.heap.size := boxOf_lt B1e
  have C1 : boxOf (((y3.setCell ⟨g, k, none⟩ (.int .i64 fv)).setCell ⟨w.heap.size, 14, none⟩ (.slice (some ⟨g, 0, none⟩) u.ws.length cq)).setCell ⟨w.heap.size, 16, none⟩ (.int .i64 4)) w.heap.size = some (tcs ({ u with ws := nw, d := { u.d with ph := 4 } } : Tn) ({ a with mA := some ⟨g, 0, none⟩, mc := cq } : TA)) := by
    have t := boxOf_set _ w.heap.size 16 (.int .i64 4) (boxOf_set _ w.heap.size 14 (.slice (some ⟨g, 0, none⟩) u.ws.length cq) (show boxOf (y3.setCell ⟨g, k, none⟩ (.int .i64 fv)) w.heap.size = some (tcs u a) by rw [boxOf_far _ _ _ _ ne1]; exact B1e))
    rw [← HN.out, ts14, ts16] at t
    rw [← HN.out]
    exact t
  have hBX : Below w.heap.size w (((y3.setCell ⟨g, k, none⟩ (.int .i64 fv)).setCell ⟨w.heap.size, 14, none⟩ (.slice (some ⟨g, 0, none⟩) u.ws.length cq)).setCell ⟨w.heap.size, 16, none⟩ (.int .i64 4)) := ((hB2.setCell (by show w.heap.size ≤ g; omega) _).setCell (by simp) _).setCell (by simp) _
  have hsX : w.heap.size < (((y3.setCell ⟨g, k, none⟩ (.int .i64 fv)).setCell ⟨w.heap.size, 14, none⟩ (.slice (some ⟨g, 0, none⟩) u.ws.length cq)).setCell ⟨w.heap.size, 16, none⟩ (.int .i64 4)).heap.size := by simpa using hs2
  have sX : Sees (((y3.setCell ⟨g, k, none⟩ (.int .i64 fv)).setCell ⟨w.heap.size, 14, none⟩ (.slice (some ⟨g, 0, none⟩) u.ws.length cq)).setCell ⟨w.heap.size, 16, none⟩ (.int .i64 4)) (((y3.setCell ⟨g, k, none⟩ (.int .i64 fv)).setCell ⟨w.heap.size, 14, none⟩ (.slice (some ⟨g, 0, none⟩) u.ws.length cq)).setCell ⟨w.heap.size, 16, none⟩ (.int .i64 4)).heap.size 1 (some ⟨g, 0, none⟩) nw.length (nw.map (Value.int .i64)) := by
    have t : Sees (y3.setCell ⟨g, k, none⟩ (.int .i64 fv)) (y3.setCell ⟨g, k, none⟩ (.int .i64 fv)).heap.size 1 (some ⟨g, 0, none⟩) nw.length (nw.map (Value.int .i64)) := by
      rw [List.nil_append, ← List.map_set, HNW.out] at hset
      rw [HN.out]
      simpa using hset
    exact (t.own1 _ _ _ (fun _ p hp => by cases hp; exact ne1)).own1 _ _ _ (fun _ p hp => by cases hp; exact ne1)
  have hl := h.out.later hBX
  have TX : TnAt (((y3.setCell ⟨g, k, none⟩ (.int .i64 fv)).setCell ⟨w.heap.size, 14, none⟩ (.slice (some ⟨g, 0, none⟩) u.ws.length cq)).setCell ⟨w.heap.size, 16, none⟩ (.int .i64 4)) ({ u with ws := nw, d := { u.d with ph := 4 } } : Tn) ({ a with mA := some ⟨g, 0, none⟩, mc := cq } : TA) := ⟨h.out.m.words_at hBX sX HN.out, hl.bx, ⟨hl.th.b, hl.th.k, hl.th.h⟩, hl.tp, hl.lg⟩
  have TW : tcs ({ u with d := { u.d with ph := 4 } } : Tn) ({ a with mA := some ⟨g, 0, none⟩, mc := cq } : TA) = tcs ({ u with ws := nw, d := { u.d with ph := 4 } } : Tn) ({ a with mA := some ⟨g, 0, none⟩, mc := cq } : TA) := by unfold tcs; rw [HN.out]
  have o2 : TnOk ({ u with ws := nw, d := { u.d with ph := 6, x := fv } } : Tn) := o.out.all (ph := 6) (x := fv) (ws := nw) (i64_k 6 (by decide)) ival o.out.ist o.out.ind o.out.ipl o.out.f.h o.out.h o1.ws
  have hk1 : ndP ({ u with ws := nw, d := { u.d with ph := 4 } } : Tn) = (k : Int) := HK.out
  have E1 : stepK ({ u with ws := nw, d := { u.d with ph := 4 } } : Tn) = ({ u with ws := nw, d := { u.d with ph := 6, x := fv } } : Tn) := by
    have e : stepK ({ u with ws := nw, d := { u.d with ph := 4 } } : Tn) = lookK ({ u with ws := nw, d := { u.d with ph := 4 } } : Tn) := by simp [stepK]
    rw [e, lookk_at hk1 HXK.out, if_neg (by rw [KV]; decide), if_pos KV]
  have I1 : isK ({ u with ws := nw, d := { u.d with ph := 4 } } : Tn) = true := by simp [isK]
  have KJ := fun W => joined_any u.tt ht W
  have hf2i := fr_i64 (k := 2) (by decide) ht
  have KV2 := (kd_fr (k := 2) (t := u.tt) (by decide) ht).1
  have E2 : stepK ({ u with ws := nw, d := { u.d with ph := 6, x := fv } } : Tn) = overV ({ u with ws := nw.set k (frV 2 u.tt), d := { u.d with ph := 6, x := fv, st := u.d.nd } } : Tn) := by
    have e : stepK ({ u with ws := nw, d := { u.d with ph := 6, x := fv } } : Tn) = clmV wonV ({ u with ws := nw, d := { u.d with ph := 6, x := fv } } : Tn) fv (frV 2 u.tt) := by simp [stepK]
    rw [e, clm_at (u := ({ u with ws := nw, d := { u.d with ph := 6, x := fv } } : Tn)) (k := k) (x := fv) wonV fv _ HK.out HXK.out, if_pos rfl]
    rfl
  obtain ⟨f2, hf2⟩ : ∃ x, frV 2 u.tt = x := ⟨_, rfl⟩
  rw [hf2] at KJ hf2i KV2 E2
  replace KJ := hide KJ
  have I2 : isK ({ u with ws := nw, d := { u.d with ph := 6, x := fv } } : Tn) = true := by simp [isK]
  have S1 := kstep_at ({ u with ws := nw, d := { u.d with ph := 4 } } : Tn) ({ a with mA := some ⟨g, 0, none⟩, mc := cq } : TA) o1 ht _ TX
  rw [E1, I1] at S1
  have HVW := hide (over_ws ({ u with ws := nw.set k f2, d := { u.d with ph := 6, x := fv, st := u.d.nd } } : Tn))
  have HVS : (overV ({ u with ws := nw.set k f2, d := { u.d with ph := 6, x := fv, st := u.d.nd } } : Tn)).d.st = u.d.nd := over_st _
  have HVP : (overV ({ u with ws := nw.set k f2, d := { u.d with ph := 6, x := fv, st := u.d.nd } } : Tn)).d.ph ≠ 4 := over_ph _
  have HBXV : (overV ({ u with ws := nw.set k f2, d := { u.d with ph := 6, x := fv, st := u.d.nd } } : Tn)).bx = u.bx := (over_like ({ u with ws := nw.set k f2, d := { u.d with ph := 6, x := fv, st := u.d.nd } } : Tn)).bx
  obtain ⟨V, hV⟩ : ∃ V, overV ({ u with ws := nw.set k f2, d := { u.d with ph := 6, x := fv, st := u.d.nd } } : Tn) = V := ⟨_, rfl⟩
  rw [hV] at E2 HVW HVS HVP HBXV
  replace HBXV := hide HBXV
  have HVP' : (V.d.ph == 4) = false := by simpa using HVP
  have HVL := hide (show V.ws.length = u.ws.length by rw [HVW.out]; show (nw.set k f2).length = _; rw [List.length_set]; exact HN.out)
  have HVK := hide (show V.ws[k]? = some f2 by rw [HVW.out]; show (nw.set k f2)[k]? = _; exact List.getElem?_set_self (by have := HN.out; have := HKL.out; omega))
  have hVi : ∀ x ∈ V.ws, I64 x := fun x hx => by
    rw [HVW.out] at hx
    rcases List.mem_or_eq_of_mem_set hx with h | rfl
    · exact o1.ws x h
    · exact hf2i
  have ht3 : ∀ t3, (0 ≤ t3 ∧ t3 ≤ 15) → TnOk ({ u with tt := t3, ws := V.ws, d := { u.d with ph := 4 }, tl := [], ta := 0, ll := [], dn := false } : Tn) := fun t3 hh => ⟨o.out.b, o.out.k, o.out.h, Nat.zero_le _, Nat.zero_le _, (o.out.f.all (ph := 4) (i64_k 4 (by decide)) o.out.ix o.out.ist o.out.ind o.out.ipl o.out.f.h), o.out.lo, o.out.hi, (by show I64 t3; unfold I64; omega), hVi, o.out.c⟩
  have HLT := hide (show ∀ t3, stepK ({ u with tt := t3, ws := V.ws, d := { u.d with ph := 4 }, tl := [], ta := 0, ll := [], dn := false } : Tn) = if lateB u.d.un u.now = true then overV ({ u with tt := t3, ws := V.ws, d := { u.d with ph := 4 }, tl := [], ta := 0, ll := [], dn := false } : Tn) else ({ u with tt := t3, ws := V.ws, d := { u.d with ph := 4 }, tl := [], ta := 0, ll := [], dn := false } : Tn) from fun t3 => by
    have e : stepK ({ u with tt := t3, ws := V.ws, d := { u.d with ph := 4 }, tl := [], ta := 0, ll := [], dn := false } : Tn) = lookK ({ u with tt := t3, ws := V.ws, d := { u.d with ph := 4 }, tl := [], ta := 0, ll := [], dn := false } : Tn) := by simp [stepK]
    rw [e, lookk_at (u := ({ u with tt := t3, ws := V.ws, d := { u.d with ph := 4 }, tl := [], ta := 0, ll := [], dn := false } : Tn)) (k := k) (x := f2) HK.out HVK.out, if_neg (by rw [KV2]; decide), if_neg (by rw [KV2]; decide)])
  have HO3 := hide ht3
  clear hV hf2 HVP HVW hVi ht3 E1 I1 sm my hl sX o1
  rw [TW] at *
  go_wp2_with fail
  generalize (((y3.setCell ⟨g, k, none⟩ (.int .i64 fv)).setCell ⟨w.heap.size, 14, none⟩ (.slice (some ⟨g, 0, none⟩) u.ws.length cq)).setCell ⟨w.heap.size, 16, none⟩ (.int .i64 4)) = yX at *
  refine S1.mono ?_
  rintro e z1 ⟨a2, rfl, T2, M2, hb1⟩
  replace C1 := boxOf_keep C1 hb1
  replace hBX := below_next hBX hBX.size hb1
  replace hsX := Nat.lt_of_lt_of_le hsX hb1.size
  have nb := belowY z1 ({ u with ws := nw, d := { u.d with ph := 6, x := fv } } : Tn) a2 38
  have C2 := boxY z1 ({ u with ws := nw, d := { u.d with ph := 6, x := fv } } : Tn) a2 38
  replace C1 := boxOf_keep C1 nb
  replace hBX := below_next hBX hBX.size nb
  have S2 := kstep_at ({ u with ws := nw, d := { u.d with ph := 6, x := fv } } : Tn) a2 o2 ht _ (T2.later nb)
  rw [E2, I2] at S2
  clear S1 hb1 nb T2 M2 E2 I2 o2
  go_wp2_with fail
  generalize ((z1.alloc (.cells zT.toArray 38)).setCells z1.heap.size 0 (tcs ({ u with ws := nw, d := { u.d with ph := 6, x := fv } } : Tn) a2)) = y4 at *
  generalize z1.heap.size = k1 at *
  refine S2.mono ?_
  rintro e z2 ⟨a3, rfl, T3, M3, hb1⟩
  replace C1 := boxOf_keep C1 hb1
  replace C2 := boxOf_keep C2 hb1
  replace hBX := below_next hBX hBX.size hb1
  have nb := belowY z2 V a3 38
  have C3 := boxY z2 V a3 38
  replace C1 := boxOf_keep C1 nb
  replace C2 := boxOf_keep C2 nb
  replace hBX := below_next hBX hBX.size nb
  have T3' := hide (T3.later nb)
  obtain ⟨b3, o3, e3, _⟩ := T3'.out.m.words.some_of (by have := HKL.out; have := HVL.out; omega)
  have cv : ((z2.alloc (.cells zT.toArray 38)).setCells z2.heap.size 0 (tcs V a3)).cell? ⟨b3, o3 + k, none⟩ = some (.int .i64 f2) := word_cell (by have := T3'.out.m.words; rw [e3] at this; exact this) HVK.out
  have bw : ((V.ws.length : Int) != (u.ws.length : Int)) = false := by rw [HVL.out]; simp
  have kk2 : (k : Int) < (V.ws.length : Int) := by have := HVL.out; omega
  have bf : (f2 != f2) = false := by simp
  have bn : (u.d.nd != u.d.nd) = false := by simp
  clear S2 hb1 nb T3 M3
  go_wp2_with fail
  generalize ((z2.alloc (.cells zT.toArray 38)).setCells z2.heap.size 0 (tcs V a3)) = y5 at *
  generalize z2.heap.size = k2 at *
  have R1 := fun d os => boxOf_keep C1 (below_regrown y5 d os)
  have R2 := fun d os => boxOf_keep C2 (below_regrown y5 d os)
  have R3 := fun d os => boxOf_keep C3 (below_regrown y5 d os)
  have r1 := cell_regrown cv
  have Q1 := hide (fun d os => Calls.regrown_of (w := y5) (KJ.out (grow (redrawn y5 d) os)))
  have T3r := hide (fun d os => T3'.out.later (below_regrown y5 d os))
  have hBr := hide (fun d os => below_next hBX hBX.size (below_regrown y5 d os))
  refine wp_region_quiet_below (by kernel_rfl) (by kernel_rfl) ?_
  repeat (go_big_quiet_step (first | (go_at_call 26; exact Q1.out _ _)))
  refine wpQuiet_nil ?_
  intro _ hw'
  obtain ⟨⟨dq, osq⟩, hw''⟩ := hw'
  subst hw''
  replace C1 := R1 dq osq
  replace C3 := R3 dq osq
  have T5 := hide (T3r.out dq osq)
  have hB5 := hBr.out dq osq
  clear R1 R2 R3 r1 Q1 T3r hBr C2 cv T3' hBX hsX
  generalize grow (redrawn y5 dq) osq = y6 at *
  go_wp2_with fail
  go_cut [15] from 130 (fun q wc => ∃ k3 t3, q = .pointer (some ⟨k3, 0, none⟩) ∧ (0 ≤ t3 ∧ t3 ≤ 15) ∧ boxOf wc k3 = some (tcs ({ u with tt := t3, ws := V.ws, d := { u.d with ph := 4 }, tl := [], ta := 0, ll := [], dn := false } : Tn) (⟨some ⟨b3, o3, none⟩, a3.mc, a3.mB, a3.md, a3.bs, a.p, none, 0, none, 0⟩ : TA)) ∧ boxOf wc w.heap.size = some (tcs ({ u with ws := nw, d := { u.d with ph := 4 } } : Tn) ({ a with mA := some ⟨g, 0, none⟩, mc := cq } : TA)) ∧ y6.heap.size ≤ k3 ∧ Below y6.heap.size y6 wc)
  case first =>
    have l1 := boxOf_lt C1
    have l3 := boxOf_lt C3
    have ne5 : ¬ y6.heap.size = w.heap.size := by omega
    have ne6 : ¬ w.heap.size = y6.heap.size := by omega
    have ne7 : ¬ y6.heap.size = k2 := by omega
    have ne8 : ¬ k2 = y6.heap.size := by omega
    go_region
    all_goals go_wp2_with fail
    all_goals go_meet
    all_goals
      refine ⟨_, _, rfl, ?_, boxOf_whole (cs := zT) _ _ _ (by simp [go_sem]) ((tcs_length _ _).trans zT_length.symm), ?_, Nat.le_refl _, ?_⟩
      · first | exact rem_15 _ _ (by omega) hx0 | exact trem_15 _ _ (by omega) hx0
      · rw [boxOf_sets_far _ _ ne5]; simp [go_sem, C1]
      · exact below_sets _ (Nat.le_refl _) _ _ _ _ (by repeat first | exact Below.refl _ _ | refine Below.drew ?_ | refine Below.alloc ?_ (by simp) _)
  case rest =>
  obtain ⟨k3, t3, rfl, ht3, D3, D1, hk3, hb7⟩ := hcut
  have T7 := T5.out.later hb7
  have hB7 := below_next hB5 hB5.size hb7
  have hth := h.out.th.later hB7
  have TV3 : TnAt wc ({ u with tt := t3, ws := V.ws, d := { u.d with ph := 4 }, tl := [], ta := 0, ll := [], dn := false } : Tn) (⟨some ⟨b3, o3, none⟩, a3.mc, a3.mB, a3.md, a3.bs, a.p, none, 0, none, 0⟩ : TA) := ⟨by have t := T7.m; rw [e3] at t; exact t, T7.bx.trans HBXV.out, ⟨hth.b, hth.k, hth.h⟩, Sees.empty, Sees.empty⟩
  have o3k := hide (HO3.out t3 ht3)
  have S3 := kstep_at ({ u with tt := t3, ws := V.ws, d := { u.d with ph := 4 }, tl := [], ta := 0, ll := [], dn := false } : Tn) (⟨some ⟨b3, o3, none⟩, a3.mc, a3.mB, a3.md, a3.bs, a.p, none, 0, none, 0⟩ : TA) o3k.out ht3 _ TV3
  have I3 : isK ({ u with tt := t3, ws := V.ws, d := { u.d with ph := 4 }, tl := [], ta := 0, ll := [], dn := false } : Tn) = true := by simp [isK]
  rw [HLT.out t3, I3] at S3
  have KLT := fun W => hide (show Calls Try.prog 27 #[.agg (tcs ({ u with tt := t3, ws := V.ws, d := { u.d with ph := 4 }, tl := [], ta := 0, ll := [], dn := false } : Tn) (⟨some ⟨b3, o3, none⟩, a3.mc, a3.mB, a3.md, a3.bs, a.p, none, 0, none, 0⟩ : TA)).toArray] W (BoolPost (lateB u.d.un u.now) W) from late_tn ({ u with tt := t3, ws := V.ws, d := { u.d with ph := 4 }, tl := [], ta := 0, ll := [], dn := false } : Tn) (⟨some ⟨b3, o3, none⟩, a3.mc, a3.mB, a3.md, a3.bs, a.p, none, 0, none, 0⟩ : TA) W)
  have hT3 := hide TV3
  clear TV3 T7 hth T5 I3 C1 C3 hb7 hB5 HO3 HLT
  rcases Bool.eq_false_or_eq_true (lateB u.d.un u.now) with hlt | hlt
  · rw [if_pos hlt] at S3
    rw [hlt] at KLT
    have HP : (overV ({ u with tt := t3, ws := V.ws, d := { u.d with ph := 4 }, tl := [], ta := 0, ll := [], dn := false } : Tn)).d.ph ≠ 4 := over_ph _
    have HS : (overV ({ u with tt := t3, ws := V.ws, d := { u.d with ph := 4 }, tl := [], ta := 0, ll := [], dn := false } : Tn)).d.st = u.d.st := over_st _
    obtain ⟨X, hX⟩ : ∃ X, overV ({ u with tt := t3, ws := V.ws, d := { u.d with ph := 4 }, tl := [], ta := 0, ll := [], dn := false } : Tn) = X := ⟨_, rfl⟩
    rw [hX] at S3 HP HS
    have HP' : (X.d.ph != 4) = true := bne_iff_ne.2 HP
    clear hX HP hlt
    go_wp2_with fail
    refine S3.mono ?_
    rintro e z3 ⟨b4, rfl, _, _, hb1⟩
    replace D1 := boxOf_keep D1 hb1
    replace D3 := boxOf_keep D3 hb1
    have hB := below_next hB7 hB7.size hb1
    have nb := belowY z3 X b4 38
    have D4 := boxY z3 X b4 38
    replace D1 := boxOf_keep D1 nb
    replace D3 := boxOf_keep D3 nb
    replace hB := below_next hB hB.size nb
    clear nb hb1 S3 hB7
    go_wp2_with fail
    generalize ((z3.alloc (.cells zT.toArray 38)).setCells z3.heap.size 0 (tcs X b4)) = y8 at *
    generalize z3.heap.size = k4 at *
    refine (KLT _).out.mono ?_
    rintro e y9 ⟨rfl, hb1⟩
    replace D1 := boxOf_keep D1 hb1
    replace D4 := boxOf_keep D4 hb1
    have HBF := hide (below_next hB hB.size hb1)
    clear hb1 hB
    go_wp2
    go_ret
    exact ⟨ret_b (by simp), HBF.out⟩
  · rw [if_neg (by rw [hlt]; decide)] at S3
    rw [hlt] at KLT
    clear hlt
    go_wp2_with fail
    refine S3.mono ?_
    rintro e z3 ⟨b4, rfl, T4, _, hb1⟩
    replace D3 := boxOf_keep D3 hb1
    have hT4 := hT3.out.later hb1
    have hB := below_next hB7 hB7.size hb1
    have nb := belowY z3 ({ u with tt := t3, ws := V.ws, d := { u.d with ph := 4 }, tl := [], ta := 0, ll := [], dn := false } : Tn) b4 38
    have D4 := boxY z3 ({ u with tt := t3, ws := V.ws, d := { u.d with ph := 4 }, tl := [], ta := 0, ll := [], dn := false } : Tn) b4 38
    replace D3 := boxOf_keep D3 nb
    replace hT4 := hT4.later nb
    replace T4 := T4.later nb
    replace hB := below_next hB hB.size nb
    clear nb hb1 S3 hB7 D1
    go_wp2_with fail
    generalize ((z3.alloc (.cells zT.toArray 38)).setCells z3.heap.size 0 (tcs ({ u with tt := t3, ws := V.ws, d := { u.d with ph := 4 }, tl := [], ta := 0, ll := [], dn := false } : Tn) b4)) = y8 at *
    generalize z3.heap.size = k4 at *
    refine (KLT _).out.mono ?_
    rintro e y7 ⟨rfl, hb1⟩
    replace D3 := boxOf_keep D3 hb1
    replace D4 := boxOf_keep D4 hb1
    have H3 := hide (hT4.later hb1)
    have H4 := hide (T4.later hb1)
    replace hB := below_next hB hB.size hb1
    clear hb1 hT4 T4 hT3 KLT
    go_wp2_with fail
    have tok1 := hide True.intro
    have tok2 := hide True.intro
    have Z : boxOf y7.drew k3 = some (tcs ({ u with tt := t3, ws := V.ws, d := { u.d with ph := 4 }, tl := [], ta := 0, ll := [], dn := false } : Tn) (⟨some ⟨b3, o3, none⟩, a3.mc, a3.mB, a3.md, a3.bs, a.p, none, 0, none, 0⟩ : TA)) ∧ boxOf y7.drew k4 = some (tcs ({ u with tt := t3, ws := V.ws, d := { u.d with ph := 4 }, tl := [], ta := 0, ll := [], dn := false } : Tn) b4) ∧ boxOf y7.drew k3 = some (tcs ({ u with tt := t3, ws := V.ws, d := { u.d with ph := 4 }, tl := [], ta := 0, ll := [], dn := false } : Tn) (⟨some ⟨b3, o3, none⟩, a3.mc, a3.mB, a3.md, a3.bs, a.p, none, 0, none, 0⟩ : TA)) ∧ Below y7.heap.size y7 y7.drew := ⟨by rw [boxOf_drew]; exact D3, by rw [boxOf_drew]; exact D4, by rw [boxOf_drew]; exact D3, (Below.refl _ _).drew⟩
    go_region_held3 (fun w' => boxOf w' k3 = some (tcs ({ u with tt := t3, ws := V.ws, d := { u.d with ph := 4 }, tl := [], ta := 0, ll := [], dn := false } : Tn) (⟨some ⟨b3, o3, none⟩, a3.mc, a3.mB, a3.md, a3.bs, a.p, none, 0, none, 0⟩ : TA)) ∧ boxOf w' k4 = some (tcs ({ u with tt := t3, ws := V.ws, d := { u.d with ph := 4 }, tl := [], ta := 0, ll := [], dn := false } : Tn) b4) ∧ boxOf w' k3 = some (tcs ({ u with tt := t3, ws := V.ws, d := { u.d with ph := 4 }, tl := [], ta := 0, ll := [], dn := false } : Tn) (⟨some ⟨b3, o3, none⟩, a3.mc, a3.mB, a3.md, a3.bs, a.p, none, 0, none, 0⟩ : TA)) ∧ Below y7.heap.size y7 w')
      (first | (with_reducible exact Z) | (with_reducible exact Z1) | (with_reducible exact Z2) | (with_reducible exact Z3))
      (first
        | (go_at_call 14; have _t := tok1; refine (its_any ({ u with tt := t3, ws := V.ws, d := { u.d with ph := 4 }, tl := [], ta := 0, ll := [], dn := false } : Tn) b4 o3k.out _ (H4.out.later (And.right (And.right (And.right (by assumption)))))).mono ?_; rintro e v1 ⟨q1, rfl, t1, hb1⟩; have Z1 : boxOf v1 k3 = some (tcs ({ u with tt := t3, ws := V.ws, d := { u.d with ph := 4 }, tl := [], ta := 0, ll := [], dn := false } : Tn) (⟨some ⟨b3, o3, none⟩, a3.mc, a3.mB, a3.md, a3.bs, a.p, none, 0, none, 0⟩ : TA)) ∧ boxOf v1 k4 = some (tcs ({ u with tt := t3, ws := V.ws, d := { u.d with ph := 4 }, tl := [], ta := 0, ll := [], dn := false } : Tn) b4) ∧ boxOf v1 k3 = some (tcs ({ u with tt := t3, ws := V.ws, d := { u.d with ph := 4 }, tl := [], ta := 0, ll := [], dn := false } : Tn) (⟨some ⟨b3, o3, none⟩, a3.mc, a3.mB, a3.md, a3.bs, a.p, none, 0, none, 0⟩ : TA)) ∧ Below y7.heap.size y7 v1 := keepR Z hb1; clear tok1)
        | (go_at_call 14; have _t := tok2; refine (its_any ({ u with tt := t3, ws := V.ws, d := { u.d with ph := 4 }, tl := [], ta := 0, ll := [], dn := false } : Tn) (⟨some ⟨b3, o3, none⟩, a3.mc, a3.mB, a3.md, a3.bs, a.p, none, 0, none, 0⟩ : TA) o3k.out _ (H3.out.later Z1.2.2.2)).mono ?_; rintro e v2 ⟨q2, rfl, t2, hb2⟩; have Z2 : boxOf v2 k3 = some (tcs ({ u with tt := t3, ws := V.ws, d := { u.d with ph := 4 }, tl := [], ta := 0, ll := [], dn := false } : Tn) (⟨some ⟨b3, o3, none⟩, a3.mc, a3.mB, a3.md, a3.bs, a.p, none, 0, none, 0⟩ : TA)) ∧ boxOf v2 k4 = some (tcs ({ u with tt := t3, ws := V.ws, d := { u.d with ph := 4 }, tl := [], ta := 0, ll := [], dn := false } : Tn) b4) ∧ boxOf v2 k3 = some (tcs ({ u with tt := t3, ws := V.ws, d := { u.d with ph := 4 }, tl := [], ta := 0, ll := [], dn := false } : Tn) (⟨some ⟨b3, o3, none⟩, a3.mc, a3.mB, a3.md, a3.bs, a.p, none, 0, none, 0⟩ : TA)) ∧ Below y7.heap.size y7 v2 := keepR Z1 hb2; clear tok2)
        | (go_at_call 15; refine (alike_yes ({ u with tt := t3, ws := V.ws, d := { u.d with ph := 4 }, tl := [], ta := 0, ll := [], dn := false } : Tn) q1 q2 o3k.out _ (t1.later hb2) t2).mono ?_; rintro e v3 ⟨rfl, hb3⟩; have Z3 : boxOf v3 k3 = some (tcs ({ u with tt := t3, ws := V.ws, d := { u.d with ph := 4 }, tl := [], ta := 0, ll := [], dn := false } : Tn) (⟨some ⟨b3, o3, none⟩, a3.mc, a3.mB, a3.md, a3.bs, a.p, none, 0, none, 0⟩ : TA)) ∧ boxOf v3 k4 = some (tcs ({ u with tt := t3, ws := V.ws, d := { u.d with ph := 4 }, tl := [], ta := 0, ll := [], dn := false } : Tn) b4) ∧ boxOf v3 k3 = some (tcs ({ u with tt := t3, ws := V.ws, d := { u.d with ph := 4 }, tl := [], ta := 0, ll := [], dn := false } : Tn) (⟨some ⟨b3, o3, none⟩, a3.mc, a3.mB, a3.md, a3.bs, a.p, none, 0, none, 0⟩ : TA)) ∧ Below y7.heap.size y7 v3 := keepR Z2 hb3))
    go_wp2
    go_ret
    exact ⟨ret_b (by simp), below_next hB hB.size Z3.2.2.2⟩
end Go.Proofs.Ytlmlmmkichkkhaa
