/- The walk of ClimbRace. -/
import Derived.Test.YtlmlmmkichkkhaaW13Base
import Derived.Test.YtlmlmmkichkkhaaM4
import Derived.Test.YtlmlmmkichkkhaaM1
import Derived.Lib.QuietBelow
import Derived.Deep.QuietTactic
import Derived.BigQuiet
import Derived.Deep.RegionHeld3
import Derived.Deep.Cut
namespace Go.Proofs.Ytlmlmmkichkkhaa
open Go.RowKit Go.Sort
set_option linter.unusedVariables false
set_option linter.unusedSimpArgs false

attribute [local irreducible] tcs thc ccs zT
attribute [local go_sem ↓] alTn_is alRn_is
attribute [local go_sem] run_alTnf run_alTnt run_alRnf run_alRnt zT_length
attribute [local go_sem ↓] lbTn_is lbRn_is lbTh_is lbRh_is lbCf_is lbRc_is sbTn_is sbRn_is sbTh_is sbRh_is sbCf_is sbRc_is
attribute [local go_sem] run_lbTn run_lbRn run_lbTh run_lbRh run_lbCf run_lbRc run_sbTn run_sbRn run_sbTh run_sbRh run_sbCf run_sbRc
attribute [local go_sem 2000] boxOf_old'
attribute [local go_sem] boxOf_at' boxOf_free' boxOf_alloc objBox_cells objBox_cellsA boxOf_drew boxOf_setI boxOf_setsI size_sets tcs_length thc_length ccs_length tcs_one thc_one ccs_one sub_tn sub_th sub_cf sub_thAll sub_cfAll put_turn put_thread
attribute [local go_sem] tc0 tc1 tc2 tc3 tc4 tc5 tc6 tc7 tc8 tc9 tc10 tc11 tc12 tc13 tc14 tc15 tc16 tc17 tc18 tc19 tc20 tc21 tc22 tc23 tc24 tc25 tc26 tc27 tc28 tc29 tc30 tc31 tc32 tc33 tc34 tc35 tc36 hc0 hc1 hc2 hc3 hc4 hc5 hc6 hc7 hc8 hc9 hc10 hc11 hc12 hc13 hc14 hc15 hc16 kc0 kc1 kc2 kc3 kc4 kc5 kc6 kc7 kc8 kc9 kc10 kc11 tg0 tg1 tg2 tg3 tg4 tg5 tg6 tg7 tg8 tg9 tg10 tg11 tg12 tg13 tg14 tg15 tg16 tg17 tg18 tg19 tg20 tg21 tg22 tg23 tg24 tg25 tg26 tg27 tg28 tg29 tg30 tg31 tg32 tg33 tg34 tg35 tg36 hg0 hg1 hg2 hg3 hg4 hg5 hg6 hg7 hg8 hg9 hg10 hg11 hg12 hg13 hg14 hg15 hg16 kg0 kg1 kg2 kg3 kg4 kg5 kg6 kg7 kg8 kg9 kg10 kg11
attribute [local go_sem] ts12 ts13 ts14 ts16 ts17 ts18 ts19 ts20 ts21 ts22 ts23 ts24 ts25 ts26 ts27 ts28 ts29 ts30 ts31 ts32 ts33 ts34 ts35 ts36 ts15 hs0 hs1 hs2 hs3 hs7 hs8 hs9 hs10 hs11 hs12 hs13 hs14 hs15 hs16

attribute [local irreducible] zC zH
attribute [local go_sem ↓] alCf_is alRc_is alTh_is
attribute [local go_sem] run_alCf run_alRc run_alTh zC_length zH_length put_conf put_thrd
theorem boxOf_grown {w w' : World} {row : Option Nat} {g : Nat} {cs : List Value} (hg : w.grownBy w' row) (h : boxOf w g = some cs) (hr : some g ≠ row) : boxOf w' g = some cs := by
  have hl := boxOf_lt h
  obtain ⟨t, h⟩ := boxOf_iff.1 h
  exact boxOf_iff.2 ⟨t, (hg.block g hl hr).trans h⟩
theorem race_t (tt z m : Int) (h0 : 0 ≤ tt ∧ tt ≤ 15) (z0 : 0 ≤ z) (z1 : z ≤ 255) (h : 2 ≤ m ∧ m ≤ 16) : 0 ≤ (wrap64 (tt + 1 + z % (m - 1))).tmod m ∧ (wrap64 (tt + 1 + z % (m - 1))).tmod m ≤ 15 := by
  have a1 := Int.emod_nonneg z (show m - 1 ≠ 0 by omega)
  have a2 := Int.emod_lt_of_pos z (show 0 < m - 1 by omega)
  generalize z % (m - 1) = r at *
  have e2 : wrap64 (tt + 1 + r) = tt + 1 + r := wrap64_id (by unfold I64; omega)
  rw [e2]
  have := Int.tmod_nonneg m (show 0 ≤ tt + 1 + r by omega)
  have := Int.tmod_lt_of_pos (tt + 1 + r) (show 0 < m by omega)
  omega
theorem won_st (v : Tn) : (wonV v).d.st = v.d.nd := by unfold wonV overV downV; split; rfl; split <;> rfl
set_option maxRecDepth 100000 in
set_option maxHeartbeats 8000000 in
theorem race_walk (u : Tn) (a : TA) (z : Int) (z0 : 0 ≤ z) (z1 : z ≤ 255) (w : World) (hi : TnIn w u a) : Calls Try.prog 6 #[.agg (tcs u a).toArray, .int .u8 z] w (BoolPost true w) := by
  have B1 : boxOf (((w.alloc (.cells (tcs u a).toArray 38)).alloc (.cells zC.toArray 43)).setCells (w.heap.size + 1) 0 (ccs u.c)) w.heap.size = some (tcs u a) := by simp [go_sem]
  have BC : boxOf (((w.alloc (.cells (tcs u a).toArray 38)).alloc (.cells zC.toArray 43)).setCells (w.heap.size + 1) 0 (ccs u.c)) (w.heap.size + 1) = some (ccs u.c) := by simp [go_sem]
  have hs : w.heap.size + 1 < (((w.alloc (.cells (tcs u a).toArray 38)).alloc (.cells zC.toArray 43)).setCells (w.heap.size + 1) 0 (ccs u.c)).heap.size := by simp [size_sets]
  have hB : Below w.heap.size w (((w.alloc (.cells (tcs u a).toArray 38)).alloc (.cells zC.toArray 43)).setCells (w.heap.size + 1) 0 (ccs u.c)) := below_sets _ (by omega) _ _ _ _ ((belowN w _).alloc (by simp) _)
  go_enter Try.func6, Try.ntmps6
  go_wp2_with fail
  generalize (((w.alloc (.cells (tcs u a).toArray 38)).alloc (.cells zC.toArray 43)).setCells (w.heap.size + 1) 0 (ccs u.c)) = wz at *
  refine (big_tn u a _ (hi.m.later hB)).mono ?_
  rintro e w1 ⟨r, rfl, hr, hb1⟩
  replace B1 := boxOf_keep B1 hb1
  replace BC := boxOf_keep BC hb1
  replace hB := below_next hB hB.size hb1
  replace hs := Nat.lt_of_lt_of_le hs hb1.size
  clear hb1
  cases r with
  | true =>
    go_wp2_with (go_at_call 11; refine (shown_any _).mono ?_; rintro e ws ⟨rfl, hbs⟩; replace hB := below_next hB hB.size hbs; clear hbs)
    go_ret
    exact ⟨ret_b (by simp), hB⟩
  | false =>
  have sm := hide (hr rfl)
  clear hr
  go_wp2_with fail
  refine (may_any u a _).mono ?_
  rintro e w2 ⟨r, rfl, hr, hb1⟩
  replace B1 := boxOf_keep B1 hb1
  replace BC := boxOf_keep BC hb1
  replace hB := below_next hB hB.size hb1
  replace hs := Nat.lt_of_lt_of_le hs hb1.size
  clear hb1
  cases r with
  | false =>
    go_wp2_with (go_at_call 11; refine (shown_any _).mono ?_; rintro e ws ⟨rfl, hbs⟩; replace hB := below_next hB hB.size hbs; clear hbs)
    go_ret
    exact ⟨ret_b (by simp), hB⟩
  | true =>
  have my := hide (hr rfl)
  clear hr
  have h := hide (hi.at sm.out)
  have o := hide (hi.ok sm.out my.out)
  have ht := tt_my my.out o.out
  have RC := fun W => rnode_tn u.c o.out.c u.d.it (o.out.f.n _ (by simp [Dt.nums])) u.d.nd o.out.ind W
  have hx0 := o.out.c.h0
  clear hi
  by_cases g2 : u.c.x0 < 2
  · have g2' : decide (u.c.x0 < 2) = true := decide_eq_true g2
    go_wp2_with (go_at_call 11; refine (shown_any _).mono ?_; rintro e ws ⟨rfl, hbs⟩; replace hB := below_next hB hB.size hbs; clear hbs)
    go_ret
    exact ⟨ret_b (by simp), hB⟩
  have x02 : 2 ≤ u.c.x0 := by omega
  have hnp : ndP u = -1 ∨ 0 ≤ ndP u := by
    rcases np_cases u.c u.d.it u.d.nd with e | ⟨⟨⟨h0, h1⟩, h2, h3⟩, e⟩
    · exact .inl e
    · right
      have hb := bk_le o.out.c.h3 o.out.c.h4 o.out.c.h5
      have := Int.mul_nonneg h0 (show 0 ≤ bkV u.c.x3 u.c.x4 u.c.x5 by omega)
      unfold ndP; omega
  rcases hnp with hnp | hnp
  · rw [show npV u.c u.d.it u.d.nd = -1 from hnp] at RC
    replace RC := hide RC
    clear hnp
    go_wp2_with fail
    refine (RC.out _).mono ?_
    rintro e w3 ⟨rfl, hb1⟩
    replace B1 := boxOf_keep B1 hb1
    replace BC := boxOf_keep BC hb1
    replace hB := below_next hB hB.size hb1
    replace hs := Nat.lt_of_lt_of_le hs hb1.size
    clear hb1
    clear RC
    go_wp2_with (go_at_call 11; refine (shown_any _).mono ?_; rintro e ws ⟨rfl, hbs⟩; replace hB := below_next hB hB.size hbs; clear hbs)
    go_ret
    exact ⟨ret_b (by simp), hB⟩
  obtain ⟨k, hk, hkl⟩ := node_in my.out o.out hnp
  have hnd := nd_pos hnp
  rw [show npV u.c u.d.it u.d.nd = (k : Int) from hk] at RC
  replace RC := hide RC
  have kk0 : (0 : Int) ≤ (k : Int) := Int.natCast_nonneg _
  have kk1 : (k : Int) < (u.ws.length : Int) := by omega
  have HK := hide hk
  clear hnp hk
  go_wp2_with fail
  refine (RC.out _).mono ?_
  rintro e w3 ⟨rfl, hb1⟩
  replace B1 := boxOf_keep B1 hb1
  replace BC := boxOf_keep BC hb1
  replace hB := below_next hB hB.size hb1
  replace hs := Nat.lt_of_lt_of_le hs hb1.size
  clear hb1
  go_wp2_with fail
  refine (shown_any _).mono ?_
  rintro e w4 ⟨rfl, hb1⟩
  replace B1 := boxOf_keep B1 hb1
  replace BC := boxOf_keep BC hb1
  replace hB := below_next hB hB.size hb1
  replace hs := Nat.lt_of_lt_of_le hs hb1.size
  clear hb1
  have nz1 : ¬ u.c.x0 - 1 = 0 := by omega
  have nz2 : ¬ u.c.x0 = 0 := by omega
  have ival : I64 0 := i64_0
  go_wp2_with fail
  refine (RC.out _).mono ?_
  rintro e y1 ⟨rfl, hb1⟩
  replace B1 := boxOf_keep B1 hb1
  replace hB := below_next hB hB.size hb1
  replace hs := Nat.lt_of_lt_of_le hs hb1.size
  clear hb1 BC
  obtain ⟨i0, hi0, hz0, hz1, hz2⟩ := info_parts info3
  obtain ⟨nw, hnw⟩ : ∃ l, u.ws.set k 0 = l := ⟨_, rfl⟩
  have HN : Hid (nw.length = u.ws.length) := hide (by rw [← hnw]; simp)
  have hxk : nw[k]? = some 0 := by rw [← hnw, List.getElem?_set_self hkl]
  have o1 : TnOk ({ u with ws := nw, d := { u.d with ph := 4 } } : Tn) := o.out.all (ph := 4) (ws := nw) (i64_k 4 (by decide)) o.out.ix o.out.ist o.out.ind o.out.ipl o.out.f.h o.out.h (fun x hx => by
    rw [← hnw] at hx
    rcases List.mem_or_eq_of_mem_set hx with h | rfl
    · exact o.out.ws x h
    · exact ival)
  have HNW := hide hnw
  have hfew : u.ws.length ≤ 20000 := h.out.m.few
  have hsu : w.heap.size < y1.heap.size := by omega
  have sw := h.out.m.words.later hB
  have nbE := belowN y1 (.cells #[] 3)
  have B1e := boxOf_keep B1 nbE
  have HKL := hide hkl
  have HXK := hide hxk
  clear hnw hxk hkl
  go_wp2_with (at_builtin; refine wpList_app _ rfl _ _ 24 rfl y1.heap.size 3 i0 _ 1 8 Try.underlying24 hi0 hz0 hz1 hz2 rfl (by omega) _ 0 _ rfl (own_empty y1 _ _ _ (Nat.le_refl _)) _ _ u.ws.length a.mc _ rfl (sw.later nbE) (by simp [Value.oneCell']) (by unfold maxLen; omega) (by omega) (by simp) ?_; intro q y2 hown hgw; rw [Nat.zero_add] at hown; obtain ⟨A', cq, rfl, hcq⟩ := own_form hown; obtain ⟨g, u0, rfl, hg, hgu, hgf, hset⟩ := own_set (w := y1) (.int .i64 0) hown HKL.out; replace B1e := boxOf_grown hgw B1e (Ne.symm (own_ne (own_empty y1 y1.heap.size 3 1 (Nat.le_refl _)) hsu)); have ne1 : ¬ g = w.heap.size := (by omega); have ne2 : ¬ w.heap.size = g := (by omega); clear B1)
  have hB2 : Below w.heap.size w y2 := (hB.alloc hB.size _).grown hgw (by simp; omega) (fun k e => Nat.le_trans hB.size (own_at (own_empty y1 y1.heap.size 3 1 (Nat.le_refl _)) k e))
  generalize y2 = y3 at *
  have hs2 : w.heap.size < y3.heap.size := boxOf_lt B1e
  have C1 : boxOf (((y3.setCell ⟨g, k, none⟩ (.int .i64 0)).setCell ⟨w.heap.size, 14, none⟩ (.slice (some ⟨g, 0, none⟩) u.ws.length cq)).setCell ⟨w.heap.size, 16, none⟩ (.int .i64 4)) w.heap.size = some (tcs ({ u with ws := nw, d := { u.d with ph := 4 } } : Tn) ({ a with mA := some ⟨g, 0, none⟩, mc := cq } : TA)) := by
    have t := boxOf_set _ w.heap.size 16 (.int .i64 4) (boxOf_set _ w.heap.size 14 (.slice (some ⟨g, 0, none⟩) u.ws.length cq) (show boxOf (y3.setCell ⟨g, k, none⟩ (.int .i64 0)) w.heap.size = some (tcs u a) by rw [boxOf_far _ _ _ _ ne1]; exact B1e))
    rw [← HN.out, ts14, ts16] at t
    rw [← HN.out]
    exact t
  have hBX : Below w.heap.size w (((y3.setCell ⟨g, k, none⟩ (.int .i64 0)).setCell ⟨w.heap.size, 14, none⟩ (.slice (some ⟨g, 0, none⟩) u.ws.length cq)).setCell ⟨w.heap.size, 16, none⟩ (.int .i64 4)) := ((hB2.setCell (by show w.heap.size ≤ g; omega) _).setCell (by simp) _).setCell (by simp) _
  have hsX : w.heap.size < (((y3.setCell ⟨g, k, none⟩ (.int .i64 0)).setCell ⟨w.heap.size, 14, none⟩ (.slice (some ⟨g, 0, none⟩) u.ws.length cq)).setCell ⟨w.heap.size, 16, none⟩ (.int .i64 4)).heap.size := by simpa using hs2
  have sX : Sees (((y3.setCell ⟨g, k, none⟩ (.int .i64 0)).setCell ⟨w.heap.size, 14, none⟩ (.slice (some ⟨g, 0, none⟩) u.ws.length cq)).setCell ⟨w.heap.size, 16, none⟩ (.int .i64 4)) (((y3.setCell ⟨g, k, none⟩ (.int .i64 0)).setCell ⟨w.heap.size, 14, none⟩ (.slice (some ⟨g, 0, none⟩) u.ws.length cq)).setCell ⟨w.heap.size, 16, none⟩ (.int .i64 4)).heap.size 1 (some ⟨g, 0, none⟩) nw.length (nw.map (Value.int .i64)) := by
    have t : Sees (y3.setCell ⟨g, k, none⟩ (.int .i64 0)) (y3.setCell ⟨g, k, none⟩ (.int .i64 0)).heap.size 1 (some ⟨g, 0, none⟩) nw.length (nw.map (Value.int .i64)) := by
      rw [List.nil_append, ← List.map_set, HNW.out] at hset
      rw [HN.out]
      simpa using hset
    exact (t.own1 _ _ _ (fun _ p hp => by cases hp; exact ne1)).own1 _ _ _ (fun _ p hp => by cases hp; exact ne1)
  have hl := h.out.later hBX
  have TX : TnAt (((y3.setCell ⟨g, k, none⟩ (.int .i64 0)).setCell ⟨w.heap.size, 14, none⟩ (.slice (some ⟨g, 0, none⟩) u.ws.length cq)).setCell ⟨w.heap.size, 16, none⟩ (.int .i64 4)) ({ u with ws := nw, d := { u.d with ph := 4 } } : Tn) ({ a with mA := some ⟨g, 0, none⟩, mc := cq } : TA) := ⟨h.out.m.words_at hBX sX HN.out, hl.bx, ⟨hl.th.b, hl.th.k, hl.th.h⟩, hl.tp, hl.lg⟩
  have TW : tcs ({ u with d := { u.d with ph := 4 } } : Tn) ({ a with mA := some ⟨g, 0, none⟩, mc := cq } : TA) = tcs ({ u with ws := nw, d := { u.d with ph := 4 } } : Tn) ({ a with mA := some ⟨g, 0, none⟩, mc := cq } : TA) := by unfold tcs; rw [HN.out]
  have nb := belowY (((y3.setCell ⟨g, k, none⟩ (.int .i64 0)).setCell ⟨w.heap.size, 14, none⟩ (.slice (some ⟨g, 0, none⟩) u.ws.length cq)).setCell ⟨w.heap.size, 16, none⟩ (.int .i64 4)) ({ u with ws := nw, d := { u.d with ph := 4 } } : Tn) ({ a with mA := some ⟨g, 0, none⟩, mc := cq } : TA) 38
  have D1 := boxOf_keep C1 nb
  have D2 := boxY (((y3.setCell ⟨g, k, none⟩ (.int .i64 0)).setCell ⟨w.heap.size, 14, none⟩ (.slice (some ⟨g, 0, none⟩) u.ws.length cq)).setCell ⟨w.heap.size, 16, none⟩ (.int .i64 4)) ({ u with ws := nw, d := { u.d with ph := 4 } } : Tn) ({ a with mA := some ⟨g, 0, none⟩, mc := cq } : TA) 38
  have hBd := below_next hBX hBX.size nb
  have hsd : (((y3.setCell ⟨g, k, none⟩ (.int .i64 0)).setCell ⟨w.heap.size, 14, none⟩ (.slice (some ⟨g, 0, none⟩) u.ws.length cq)).setCell ⟨w.heap.size, 16, none⟩ (.int .i64 4)).heap.size < (((((y3.setCell ⟨g, k, none⟩ (.int .i64 0)).setCell ⟨w.heap.size, 14, none⟩ (.slice (some ⟨g, 0, none⟩) u.ws.length cq)).setCell ⟨w.heap.size, 16, none⟩ (.int .i64 4)).alloc (.cells zT.toArray 38)).setCells (((y3.setCell ⟨g, k, none⟩ (.int .i64 0)).setCell ⟨w.heap.size, 14, none⟩ (.slice (some ⟨g, 0, none⟩) u.ws.length cq)).setCell ⟨w.heap.size, 16, none⟩ (.int .i64 4)).heap.size 0 (tcs ({ u with ws := nw, d := { u.d with ph := 4 } } : Tn) ({ a with mA := some ⟨g, 0, none⟩, mc := cq } : TA))).heap.size := by rw [size_sets]; simp
  have sz0 : (((y3.setCell ⟨g, k, none⟩ (.int .i64 0)).setCell ⟨w.heap.size, 14, none⟩ (.slice (some ⟨g, 0, none⟩) u.ws.length cq)).setCell ⟨w.heap.size, 16, none⟩ (.int .i64 4)).heap.size = y3.heap.size := by simp
  rw [TW] at *
  rw [sz0] at D1 D2 hBd hsd nb
  have hs3 : w.heap.size < y3.heap.size := hs2
  clear hl sX hBX hsX C1 B1e hset hgu hgf
  generalize hgy : y3.heap.size = g1 at *
  generalize (((((y3.setCell ⟨g, k, none⟩ (.int .i64 0)).setCell ⟨w.heap.size, 14, none⟩ (.slice (some ⟨g, 0, none⟩) u.ws.length cq)).setCell ⟨w.heap.size, 16, none⟩ (.int .i64 4)).alloc (.cells zT.toArray 38)).setCells g1 0 (tcs ({ u with ws := nw, d := { u.d with ph := 4 } } : Tn) ({ a with mA := some ⟨g, 0, none⟩, mc := cq } : TA))) = y4 at *
  generalize (((y3.setCell ⟨g, k, none⟩ (.int .i64 0)).setCell ⟨w.heap.size, 14, none⟩ (.slice (some ⟨g, 0, none⟩) u.ws.length cq)).setCell ⟨w.heap.size, 16, none⟩ (.int .i64 4)) = yX at *
  go_cut [4] from 74 (fun q wc => q = .bool false ∧ ∃ t, (0 ≤ t ∧ t ≤ 15) ∧ boxOf wc w.heap.size = some (tcs ({ u with ws := nw, d := { u.d with ph := 4 } } : Tn) ({ a with mA := some ⟨g, 0, none⟩, mc := cq } : TA)) ∧ boxOf wc g1 = some (tcs ({ u with tt := t, ws := nw, d := { u.d with ph := 4 } } : Tn) ({ a with mA := some ⟨g, 0, none⟩, mc := cq } : TA)) ∧ Below yX.heap.size yX wc ∧ Below w.heap.size w wc)
  case first =>
    have ne3 : ¬ g1 = w.heap.size := by omega
    have ne4 : ¬ w.heap.size = g1 := by omega
    go_region
    all_goals
      go_wp2_with fail
      go_meet
      refine ⟨rfl, (wrap64 (u.tt + 1 + z % (u.c.x0 - 1))).tmod u.c.x0, race_t _ _ _ ht (by omega) (by omega) ⟨x02, hx0.2⟩, ?_, ?_, ?_, ?_⟩
      · rw [boxOf_drew, boxOf_far _ _ _ _ ne3]; exact D1
      · exact (boxOf_set _ _ 12 _ D2).trans (congrArg some (ts12 _ _ _))
      · rw [sz0]; exact (nb.setCell (Nat.le_refl _) _).drew
      · exact (hBd.setCell (by show w.heap.size ≤ g1; omega) _).drew
  case rest =>
  clear D1 D2 hBd hsd nb
  obtain ⟨rfl, t, htt, D1, D2, hXc, hB⟩ := hcut
  have it : I64 t := by unfold I64; omega
  have o2 : TnOk ({ u with tt := t, ws := nw, d := { u.d with ph := 4 } } : Tn) := ⟨o1.b, o1.k, o1.h, o1.l, o1.t, o1.f, o1.lo, o1.hi, it, o1.ws, o1.c⟩
  have o3 : TnOk ({ u with ws := nw, d := { u.d with ph := 5 } } : Tn) := o.out.all (ph := 5) (ws := nw) (i64_k 5 (by decide)) o.out.ix o.out.ist o.out.ind o.out.ipl o.out.f.h o.out.h o1.ws
  have E1 : stepK ({ u with ws := nw, d := { u.d with ph := 4 } } : Tn) = ({ u with ws := nw, d := { u.d with ph := 5 } } : Tn) := by
    have e : stepK ({ u with ws := nw, d := { u.d with ph := 4 } } : Tn) = lookK ({ u with ws := nw, d := { u.d with ph := 4 } } : Tn) := by simp [stepK]
    rw [e, lookk_at (u := ({ u with ws := nw, d := { u.d with ph := 4 } } : Tn)) (k := k) HK.out HXK.out, if_pos (show kdV 0 = 0 by decide)]
  have E2 : stepK ({ u with tt := t, ws := nw, d := { u.d with ph := 4 } } : Tn) = ({ u with tt := t, ws := nw, d := { u.d with ph := 5 } } : Tn) := by
    have e : stepK ({ u with tt := t, ws := nw, d := { u.d with ph := 4 } } : Tn) = lookK ({ u with tt := t, ws := nw, d := { u.d with ph := 4 } } : Tn) := by simp [stepK]
    rw [e, lookk_at (u := ({ u with tt := t, ws := nw, d := { u.d with ph := 4 } } : Tn)) (k := k) HK.out HXK.out, if_pos (show kdV 0 = 0 by decide)]
  have I1 : isK ({ u with ws := nw, d := { u.d with ph := 4 } } : Tn) = true := by simp [isK]
  have I2 : isK ({ u with tt := t, ws := nw, d := { u.d with ph := 4 } } : Tn) = true := by simp [isK]
  have I3 : isK ({ u with ws := nw, d := { u.d with ph := 5 } } : Tn) = true := by simp [isK]
  have E3 : stepK ({ u with ws := nw, d := { u.d with ph := 5 } } : Tn) = holdV ({ u with ws := nw.set k (frV 1 u.tt), d := { u.d with ph := 5 } } : Tn) := by
    have e : stepK ({ u with ws := nw, d := { u.d with ph := 5 } } : Tn) = clmV holdV ({ u with ws := nw, d := { u.d with ph := 5 } } : Tn) 0 (frV 1 u.tt) := by simp [stepK]
    rw [e, clm_at (u := ({ u with ws := nw, d := { u.d with ph := 5 } } : Tn)) (k := k) (x := 0) holdV 0 _ HK.out HXK.out, if_pos rfl]
  have KF := fun W => first_any u.tt ht W
  have KV1 := (kd_fr (k := 1) (t := u.tt) (by decide) ht).1
  have if1 := fr_i64 (k := 1) (by decide) ht
  have nf1 : frV 1 u.tt ≠ 0 := by unfold frV; omega
  have E4 : ∀ ws : List Int, ws[k]? = some (frV 1 u.tt) → stepK ({ u with tt := t, ws := ws, d := { u.d with ph := 5 } } : Tn) = ({ u with tt := t, ws := ws, d := { u.d with ph := 4 } } : Tn) := fun ws hw => by
    have e : stepK ({ u with tt := t, ws := ws, d := { u.d with ph := 5 } } : Tn) = clmV holdV ({ u with tt := t, ws := ws, d := { u.d with ph := 5 } } : Tn) 0 (frV 1 t) := by simp [stepK]
    rw [e, clm_at (u := ({ u with tt := t, ws := ws, d := { u.d with ph := 5 } } : Tn)) (k := k) (x := frV 1 u.tt) holdV 0 _ HK.out hw, if_neg nf1]
  have E5 : ∀ ws : List Int, ws[k]? = some (frV 1 u.tt) → stepK ({ u with tt := t, ws := ws, d := { u.d with ph := 4 } } : Tn) = ({ u with tt := t, ws := ws, d := { u.d with ph := 6, x := frV 1 u.tt } } : Tn) := fun ws hw => by
    have e : stepK ({ u with tt := t, ws := ws, d := { u.d with ph := 4 } } : Tn) = lookK ({ u with tt := t, ws := ws, d := { u.d with ph := 4 } } : Tn) := by simp [stepK]
    rw [e, lookk_at (u := ({ u with tt := t, ws := ws, d := { u.d with ph := 4 } } : Tn)) (k := k) HK.out hw, if_neg (by rw [KV1]; decide), if_pos KV1]
  have E6 : ∀ ws : List Int, ws[k]? = some (frV 1 u.tt) → stepK ({ u with tt := t, ws := ws, d := { u.d with ph := 6, x := frV 1 u.tt } } : Tn) = wonV ({ u with tt := t, ws := ws.set k (frV 2 t), d := { u.d with ph := 6, x := frV 1 u.tt } } : Tn) := fun ws hw => by
    have e : stepK ({ u with tt := t, ws := ws, d := { u.d with ph := 6, x := frV 1 u.tt } } : Tn) = clmV wonV ({ u with tt := t, ws := ws, d := { u.d with ph := 6, x := frV 1 u.tt } } : Tn) (frV 1 u.tt) (frV 2 t) := by simp [stepK]
    rw [e, clm_at (u := ({ u with tt := t, ws := ws, d := { u.d with ph := 6, x := frV 1 u.tt } } : Tn)) (k := k) (x := frV 1 u.tt) wonV (frV 1 u.tt) _ HK.out hw, if_pos rfl]
  have KJ := fun W => joined_any t htt W
  have ig2 := fr_i64 (k := 2) (by decide) htt
  obtain ⟨f1, hf1⟩ : ∃ x, frV 1 u.tt = x := ⟨_, rfl⟩
  obtain ⟨g2, hg2⟩ : ∃ x, frV 2 t = x := ⟨_, rfl⟩
  rw [hf1] at KF if1 E3
  rw [hg2] at KJ ig2
  simp only [hf1, hg2] at E4 E5 E6
  replace KF := hide KF
  replace KJ := hide KJ
  have HXW : (holdV ({ u with ws := nw.set k f1, d := { u.d with ph := 5 } } : Tn)).ws = nw.set k f1 := hold_ws _
  have HXH : (holdV ({ u with ws := nw.set k f1, d := { u.d with ph := 5 } } : Tn)).d.hl = u.d.hl ++ [u.d.nd] := hold_hl _
  obtain ⟨X, hX⟩ : ∃ X, holdV ({ u with ws := nw.set k f1, d := { u.d with ph := 5 } } : Tn) = X := ⟨_, rfl⟩
  rw [hX] at E3 HXW HXH
  have hkw : k < nw.length := by have := HN.out; have := HKL.out; omega
  have HXL := hide (show X.ws.length = u.ws.length by rw [HXW, List.length_set]; exact HN.out)
  have hxk1 : X.ws[k]? = some f1 := by rw [HXW]; exact List.getElem?_set_self hkw
  have HXHL := hide (show X.d.hl.length = u.d.hl.length + 1 by rw [HXH]; simp)
  have hXi : ∀ x ∈ X.ws, I64 x := fun x hx => by
    rw [HXW] at hx
    rcases List.mem_or_eq_of_mem_set hx with h | rfl
    · exact o1.ws x h
    · exact if1
  replace E4 := E4 X.ws hxk1
  replace E5 := E5 X.ws hxk1
  replace E6 := E6 X.ws hxk1
  have HJS : (wonV ({ u with tt := t, ws := X.ws.set k g2, d := { u.d with ph := 6, x := f1 } } : Tn)).d.st = u.d.nd := won_st _
  have HJW : (wonV ({ u with tt := t, ws := X.ws.set k g2, d := { u.d with ph := 6, x := f1 } } : Tn)).ws = X.ws.set k g2 := won_ws _
  obtain ⟨J, hJ⟩ : ∃ J, wonV ({ u with tt := t, ws := X.ws.set k g2, d := { u.d with ph := 6, x := f1 } } : Tn) = J := ⟨_, rfl⟩
  rw [hJ] at E6 HJS HJW
  have HJL := hide (show J.ws.length = u.ws.length by rw [HJW, List.length_set]; exact HXL.out)
  have HJK := hide (show J.ws[k]? = some g2 by rw [HJW]; exact List.getElem?_set_self (by have := HXL.out; have := HKL.out; omega))
  have o4 : TnOk ({ u with tt := t, ws := X.ws, d := { u.d with ph := 5 } } : Tn) := ⟨o.out.b, o.out.k, o.out.h, o.out.l, o.out.t, o.out.f.all (ph := 5) (i64_k 5 (by decide)) o.out.ix o.out.ist o.out.ind o.out.ipl o.out.f.h, o.out.lo, o.out.hi, it, hXi, o.out.c⟩
  have o5 : TnOk ({ u with tt := t, ws := X.ws, d := { u.d with ph := 4 } } : Tn) := ⟨o.out.b, o.out.k, o.out.h, o.out.l, o.out.t, o.out.f.all (ph := 4) (i64_k 4 (by decide)) o.out.ix o.out.ist o.out.ind o.out.ipl o.out.f.h, o.out.lo, o.out.hi, it, hXi, o.out.c⟩
  have o6 : TnOk ({ u with tt := t, ws := X.ws, d := { u.d with ph := 6, x := f1 } } : Tn) := ⟨o.out.b, o.out.k, o.out.h, o.out.l, o.out.t, o.out.f.all (ph := 6) (x := f1) (i64_k 6 (by decide)) if1 o.out.ist o.out.ind o.out.ipl o.out.f.h, o.out.lo, o.out.hi, it, hXi, o.out.c⟩
  have I4 : isK ({ u with tt := t, ws := X.ws, d := { u.d with ph := 5 } } : Tn) = true := by simp [isK]
  have I5 : isK ({ u with tt := t, ws := X.ws, d := { u.d with ph := 4 } } : Tn) = true := by simp [isK]
  have I6 : isK ({ u with tt := t, ws := X.ws, d := { u.d with ph := 6, x := f1 } } : Tn) = true := by simp [isK]
  have HXKX := hide hxk1
  have hgX := sz0
  have hgB : w.heap.size < g1 := hs3
  have lg1 := boxOf_lt D2
  have hpos : 0 < u.ws.length := by have := HKL.out; omega
  clear hX hJ hf1 hg2 HXW HXH HJW hXi if1 ig2 nf1 KV1 hxk1 hkw sz0 hs3 sw nbE hown hgw hB2 hs2 HNW my sm
  have TU1 := TX.later hXc
  have S1 := kstep_at ({ u with ws := nw, d := { u.d with ph := 4 } } : Tn) ({ a with mA := some ⟨g, 0, none⟩, mc := cq } : TA) o1 ht _ TU1
  rw [E1, I1] at S1
  go_wp2_with fail
  refine S1.mono ?_
  rintro e zp ⟨ap, rfl, TP, MP, hb1⟩
  replace D1 := boxOf_keep D1 hb1
  replace D2 := boxOf_keep D2 hb1
  replace hB := below_next hB hB.size hb1
  replace hXc := below_next hXc hXc.size hb1
  have lgp : g1 < zp.heap.size := Nat.lt_of_lt_of_le lg1 hb1.size
  have nb := belowY zp ({ u with ws := nw, d := { u.d with ph := 5 } } : Tn) ap 38
  have D3 := boxY zp ({ u with ws := nw, d := { u.d with ph := 5 } } : Tn) ap 38
  replace D1 := boxOf_keep D1 nb
  replace D2 := boxOf_keep D2 nb
  replace hB := below_next hB hB.size nb
  replace hXc := below_next hXc hXc.size nb
  have TP0 := hide TP
  replace TP := TP.later nb
  have TV1 : TnAt ((zp.alloc (.cells zT.toArray 38)).setCells zp.heap.size 0 (tcs ({ u with ws := nw, d := { u.d with ph := 5 } } : Tn) ap)) ({ u with tt := t, ws := nw, d := { u.d with ph := 4 } } : Tn) ({ a with mA := some ⟨g, 0, none⟩, mc := cq } : TA) := (fun (q : TnAt ((zp.alloc (.cells zT.toArray 38)).setCells zp.heap.size 0 (tcs ({ u with ws := nw, d := { u.d with ph := 5 } } : Tn) ap)) ({ u with ws := nw, d := { u.d with ph := 4 } } : Tn) ({ a with mA := some ⟨g, 0, none⟩, mc := cq } : TA)) => ⟨q.m, q.bx, ⟨q.th.b, q.th.k, q.th.h⟩, q.tp, q.lg⟩) (TX.later hXc)
  have S2 := kstep_at ({ u with tt := t, ws := nw, d := { u.d with ph := 4 } } : Tn) ({ a with mA := some ⟨g, 0, none⟩, mc := cq } : TA) o2 htt _ TV1
  rw [E2, I2] at S2
  clear S1 hb1 nb TV1 TU1
  go_wp2_with fail
  generalize ((zp.alloc (.cells zT.toArray 38)).setCells zp.heap.size 0 (tcs ({ u with ws := nw, d := { u.d with ph := 5 } } : Tn) ap)) = y5 at *
  generalize hgp : zp.heap.size = gp at *
  refine S2.mono ?_
  rintro e zq ⟨aq, rfl, TQ, MQ, hb1⟩
  replace D1 := boxOf_keep D1 hb1
  replace D2 := boxOf_keep D2 hb1
  replace D3 := boxOf_keep D3 hb1
  replace hB := below_next hB hB.size hb1
  replace TP := TP.later hb1
  have lgq : gp < zq.heap.size := boxOf_lt D3
  have nb := belowY zq ({ u with tt := t, ws := nw, d := { u.d with ph := 5 } } : Tn) aq 38
  have D4 := boxY zq ({ u with tt := t, ws := nw, d := { u.d with ph := 5 } } : Tn) aq 38
  replace D1 := boxOf_keep D1 nb
  replace D2 := boxOf_keep D2 nb
  replace D3 := boxOf_keep D3 nb
  replace hB := below_next hB hB.size nb
  replace TP := TP.later nb
  have S3 := kstep_at ({ u with ws := nw, d := { u.d with ph := 5 } } : Tn) ap o3 ht _ TP
  rw [E3, I3] at S3
  have hqz := nb
  have HTQ := hide TQ
  clear S2 hb1 nb TQ E1 E2 E3 I1 I2 I3 o1 o2 o3 hXc TX
  go_wp2_with fail
  generalize ((zq.alloc (.cells zT.toArray 38)).setCells zq.heap.size 0 (tcs ({ u with tt := t, ws := nw, d := { u.d with ph := 5 } } : Tn) aq)) = y6 at *
  generalize hgq : zq.heap.size = gq at *
  refine S3.mono ?_
  rintro e zx ⟨ax, rfl, TX, MX, hb1⟩
  have hAX : ∀ p, ax.mA = some p → p.block ≠ gq := fun p hp => by
    rcases MX.mA with e | f
    · have := TP0.out.m.words.block_lt (show 0 < nw.length by have := HN.out; omega) p (by rw [← e]; exact hp); omega
    · have := f p hp; have := boxOf_lt D4; omega
  have exB : ax.mB = aq.mB := MX.mB.trans (MP.mB.trans MQ.mB.symm)
  have exD : ax.md = aq.md := MX.md.trans (MP.md.trans MQ.md.symm)
  have exS : ax.bs = aq.bs := MX.bs.trans (MP.bs.trans MQ.bs.symm)
  replace D1 := boxOf_keep D1 hb1
  replace D2 := boxOf_keep D2 hb1
  replace D3 := boxOf_keep D3 hb1
  replace D4 := boxOf_keep D4 hb1
  replace hB := below_next hB hB.size hb1
  replace hqz := below_next hqz (by have := hqz.size; omega) hb1
  have lgx : gq < zx.heap.size := boxOf_lt D4
  have nb := belowY zx X ax 38
  have D5 := boxY zx X ax 38
  replace D1 := boxOf_keep D1 nb
  replace D2 := boxOf_keep D2 nb
  replace D3 := boxOf_keep D3 nb
  replace D4 := boxOf_keep D4 nb
  replace hB := below_next hB hB.size nb
  replace hqz := below_next hqz (by have := hqz.size; omega) nb
  have sX := TX.m.words.later nb
  obtain ⟨bx, ox, ex, _⟩ := sX.some_of (by have := HXL.out; omega)
  have cx : ((zx.alloc (.cells zT.toArray 38)).setCells zx.heap.size 0 (tcs X ax)).cell? ⟨bx, ox + k, none⟩ = some (.int .i64 f1) := word_cell (by have := sX; rw [ex] at this; exact this) HXKX.out
  have bw : ((X.ws.length : Int) != (u.ws.length : Int)) = false := by rw [HXL.out]; simp
  have hsum : wrap64 ((u.d.hl.length : Int) + 1) = (X.d.hl.length : Int) := by rw [HXHL.out]; have := o.out.h; unfold wrap64; omega
  have kk2 : (k : Int) < (X.ws.length : Int) := by have := HXL.out; omega
  clear S3 hb1 nb TX TP TP0 MP MQ MX
  go_wp2_with fail
  generalize ((zx.alloc (.cells zT.toArray 38)).setCells zx.heap.size 0 (tcs X ax)) = y7 at *
  generalize hgx : zx.heap.size = gx at *
  have RD1 := fun d os => boxOf_keep D1 (below_regrown y7 d os)
  have RD2 := fun d os => boxOf_keep D2 (below_regrown y7 d os)
  have RD3 := fun d os => boxOf_keep D3 (below_regrown y7 d os)
  have RD4 := fun d os => boxOf_keep D4 (below_regrown y7 d os)
  have RD5 := fun d os => boxOf_keep D5 (below_regrown y7 d os)
  have rcx := cell_regrown cx
  have Qc := hide (fun d os => Calls.regrown_of (w := y7) (KF.out (grow (redrawn y7 d) os)))
  refine wp_region_quiet_below (by kernel_rfl) (by kernel_rfl) ?_
  repeat (go_big_quiet_step (first | (go_at_call 25; exact Qc.out _ _)))
  refine wpQuiet_nil ?_
  intro _ hw'
  obtain ⟨⟨dq, osq⟩, hw''⟩ := hw'
  subst hw''
  replace D1 := RD1 dq osq
  replace D2 := RD2 dq osq
  replace D4 := RD4 dq osq
  replace sX := sX.later (below_regrown y7 dq osq)
  replace hqz := below_next hqz (by have := hqz.size; omega) (below_regrown y7 dq osq)
  replace hB := below_next hB hB.size (below_regrown y7 dq osq)
  have D5' := RD5 dq osq
  clear RD1 RD2 RD3 RD4 RD5 rcx Qc D3 D5 cx ex
  generalize grow (redrawn y7 dq) osq = y8 at *
  have ne5 : ¬ gq = w.heap.size := by omega
  have ne6 : ¬ gq = g1 := by omega
  have ne7 : ¬ gq = gx := by have := boxOf_lt D4; omega
  have ne8 : ¬ gx = gq := by omega
  have F4 : boxOf ((y8.setCell ⟨gq, 14, none⟩ (.slice ax.mA X.ws.length ax.mc)).setCell ⟨gq, 15, none⟩ (.slice aq.mB aq.bs.length aq.md)) gq = some (tcs ({ u with tt := t, ws := X.ws, d := { u.d with ph := 5 } } : Tn) ({ aq with mA := ax.mA, mc := ax.mc } : TA)) := by
    have f := boxOf_set _ gq 15 (.slice aq.mB aq.bs.length aq.md) (boxOf_set _ gq 14 (.slice ax.mA X.ws.length ax.mc) D4)
    rw [ts14] at f
    exact f.trans (congrArg some (ts15 ({ u with tt := t, ws := X.ws, d := { u.d with ph := 5 } } : Tn) ({ aq with mA := ax.mA, mc := ax.mc } : TA)))
  have F1 : boxOf ((y8.setCell ⟨gq, 14, none⟩ (.slice ax.mA X.ws.length ax.mc)).setCell ⟨gq, 15, none⟩ (.slice aq.mB aq.bs.length aq.md)) w.heap.size = some (tcs ({ u with ws := nw, d := { u.d with ph := 4 } } : Tn) ({ a with mA := some ⟨g, 0, none⟩, mc := cq } : TA)) := by rw [boxOf_far _ _ _ _ ne5, boxOf_far _ _ _ _ ne5]; exact D1
  have F2 : boxOf ((y8.setCell ⟨gq, 14, none⟩ (.slice ax.mA X.ws.length ax.mc)).setCell ⟨gq, 15, none⟩ (.slice aq.mB aq.bs.length aq.md)) g1 = some (tcs ({ u with tt := t, ws := nw, d := { u.d with ph := 4 } } : Tn) ({ a with mA := some ⟨g, 0, none⟩, mc := cq } : TA)) := by rw [boxOf_far _ _ _ _ ne6, boxOf_far _ _ _ _ ne6]; exact D2
  have hBM : Below w.heap.size w ((y8.setCell ⟨gq, 14, none⟩ (.slice ax.mA X.ws.length ax.mc)).setCell ⟨gq, 15, none⟩ (.slice aq.mB aq.bs.length aq.md)) := (hB.setCell (by show w.heap.size ≤ gq; omega) _).setCell (by show w.heap.size ≤ gq; omega) _
  have hqM : Below zq.heap.size zq ((y8.setCell ⟨gq, 14, none⟩ (.slice ax.mA X.ws.length ax.mc)).setCell ⟨gq, 15, none⟩ (.slice aq.mB aq.bs.length aq.md)) := by
    rw [hgq]
    exact (hqz.setCell (Nat.le_refl gq) _).setCell (Nat.le_refl gq) _
  have sM : Sees ((y8.setCell ⟨gq, 14, none⟩ (.slice ax.mA X.ws.length ax.mc)).setCell ⟨gq, 15, none⟩ (.slice aq.mB aq.bs.length aq.md)) ((y8.setCell ⟨gq, 14, none⟩ (.slice ax.mA X.ws.length ax.mc)).setCell ⟨gq, 15, none⟩ (.slice aq.mB aq.bs.length aq.md)).heap.size 1 ax.mA X.ws.length (X.ws.map (Value.int .i64)) := (sX.own1 _ _ _ (fun _ => hAX)).own1 _ _ _ (fun _ => hAX)
  have hlq := HTQ.out.later hqM
  have TQX : TnAt ((y8.setCell ⟨gq, 14, none⟩ (.slice ax.mA X.ws.length ax.mc)).setCell ⟨gq, 15, none⟩ (.slice aq.mB aq.bs.length aq.md)) ({ u with tt := t, ws := X.ws, d := { u.d with ph := 5 } } : Tn) ({ aq with mA := ax.mA, mc := ax.mc } : TA) := ⟨HTQ.out.m.words_at hqM sM (by rw [HXL.out]; exact HN.out.symm), hlq.bx, ⟨hlq.th.b, hlq.th.k, hlq.th.h⟩, hlq.tp, hlq.lg⟩
  have S4 := kstep_at ({ u with tt := t, ws := X.ws, d := { u.d with ph := 5 } } : Tn) ({ aq with mA := ax.mA, mc := ax.mc } : TA) o4 htt _ TQX
  rw [E4, I4] at S4
  have TY' : (tcs ({ u with tt := t, ws := nw, d := { u.d with ph := 5 } } : Tn) aq).set 14 (.slice ax.mA X.ws.length ax.mc) = tcs ({ u with tt := t, ws := X.ws, d := { u.d with ph := 5 } } : Tn) ({ aq with mA := ax.mA, mc := ax.mc } : TA) := ts14 _ _ _ _ _
  go_wp2_with fail
  clear D1 D2 D4 D5' hB hqz sX hqM hlq TQX sM HTQ TY' exB exD exS hAX E4 I4 o4
  generalize ((y8.setCell ⟨gq, 14, none⟩ (.slice ax.mA X.ws.length ax.mc)).setCell ⟨gq, 15, none⟩ (.slice aq.mB aq.bs.length aq.md)) = y9 at *
  refine S4.mono ?_
  rintro e zy ⟨ay, rfl, TY, _, hb1⟩
  replace F1 := boxOf_keep F1 hb1
  replace F2 := boxOf_keep F2 hb1
  have hB := below_next hBM hBM.size hb1
  have nb := belowY zy ({ u with tt := t, ws := X.ws, d := { u.d with ph := 4 } } : Tn) ay 38
  have F5 := boxY zy ({ u with tt := t, ws := X.ws, d := { u.d with ph := 4 } } : Tn) ay 38
  replace F1 := boxOf_keep F1 nb
  replace F2 := boxOf_keep F2 nb
  replace hB := below_next hB hB.size nb
  have S5 := kstep_at ({ u with tt := t, ws := X.ws, d := { u.d with ph := 4 } } : Tn) ay o5 htt _ (TY.later nb)
  rw [E5, I5] at S5
  clear S4 hb1 nb TY hBM F4 ne5 ne6 ne7 ne8
  go_wp2_with fail
  generalize ((zy.alloc (.cells zT.toArray 38)).setCells zy.heap.size 0 (tcs ({ u with tt := t, ws := X.ws, d := { u.d with ph := 4 } } : Tn) ay)) = y10 at *
  generalize zy.heap.size = gy5 at *
  refine S5.mono ?_
  rintro e zz ⟨az, rfl, TZ, _, hb1⟩
  replace F1 := boxOf_keep F1 hb1
  replace F2 := boxOf_keep F2 hb1
  replace F5 := boxOf_keep F5 hb1
  replace hB := below_next hB hB.size hb1
  have nb := belowY zz ({ u with tt := t, ws := X.ws, d := { u.d with ph := 6, x := f1 } } : Tn) az 38
  have F6 := boxY zz ({ u with tt := t, ws := X.ws, d := { u.d with ph := 6, x := f1 } } : Tn) az 38
  replace F1 := boxOf_keep F1 nb
  replace F2 := boxOf_keep F2 nb
  replace F5 := boxOf_keep F5 nb
  replace hB := below_next hB hB.size nb
  have S6 := kstep_at ({ u with tt := t, ws := X.ws, d := { u.d with ph := 6, x := f1 } } : Tn) az o6 htt _ (TZ.later nb)
  rw [E6, I6] at S6
  clear S5 hb1 nb TZ E5 I5 o5
  go_wp2_with fail
  generalize ((zz.alloc (.cells zT.toArray 38)).setCells zz.heap.size 0 (tcs ({ u with tt := t, ws := X.ws, d := { u.d with ph := 6, x := f1 } } : Tn) az)) = y11 at *
  generalize zz.heap.size = gz6 at *
  refine S6.mono ?_
  rintro e zj ⟨aj, rfl, TJ, _, hb1⟩
  replace F1 := boxOf_keep F1 hb1
  replace F2 := boxOf_keep F2 hb1
  replace F5 := boxOf_keep F5 hb1
  replace F6 := boxOf_keep F6 hb1
  replace hB := below_next hB hB.size hb1
  have nb := belowY zj J aj 38
  have F7 := boxY zj J aj 38
  replace F1 := boxOf_keep F1 nb
  replace F2 := boxOf_keep F2 nb
  replace F5 := boxOf_keep F5 nb
  replace F6 := boxOf_keep F6 nb
  replace hB := below_next hB hB.size nb
  obtain ⟨bj, oj, ej, _⟩ := (TJ.m.words.later nb).some_of (by have := HJL.out; omega)
  have cj : ((zj.alloc (.cells zT.toArray 38)).setCells zj.heap.size 0 (tcs J aj)).cell? ⟨bj, oj + k, none⟩ = some (.int .i64 g2) := word_cell (by have := TJ.m.words.later nb; rw [ej] at this; exact this) HJK.out
  have bj1 : ((J.ws.length : Int) == (u.ws.length : Int)) = true := by rw [HJL.out]; simp
  have kk3 : (k : Int) < (J.ws.length : Int) := by have := HJL.out; omega
  clear S6 hb1 nb TJ E6 I6 o6
  go_wp2_with fail
  generalize ((zj.alloc (.cells zT.toArray 38)).setCells zj.heap.size 0 (tcs J aj)) = y12 at *
  generalize zj.heap.size = gj7 at *
  have HB := hide hB
  clear hB
  have RF1 := fun d os => boxOf_keep F1 (below_regrown y12 d os)
  have RF2 := fun d os => boxOf_keep F2 (below_regrown y12 d os)
  have RF5 := fun d os => boxOf_keep F5 (below_regrown y12 d os)
  have RF6 := fun d os => boxOf_keep F6 (below_regrown y12 d os)
  have RF7 := fun d os => boxOf_keep F7 (below_regrown y12 d os)
  have rcj := cell_regrown cj
  have Qc := hide (fun d os => Calls.regrown_of (w := y12) (KJ.out (grow (redrawn y12 d) os)))
  refine wp_region_quiet_below (by kernel_rfl) (by kernel_rfl) ?_
  repeat (go_big_quiet_step (first | (go_at_call 26; exact Qc.out _ _)))
  refine wpQuiet_nil ?_
  intro _ hw'
  obtain ⟨⟨dq, osq⟩, hw''⟩ := hw'
  subst hw''
  go_wp2
  go_ret
  exact ⟨ret_b (by simp), below_next HB.out HB.out.size (below_regrown y12 dq osq)⟩
end Go.Proofs.Ytlmlmmkichkkhaa
