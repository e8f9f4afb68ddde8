/- The walk of CommitFails. -/
import Derived.Test.YtiacgbkaflcbeaaW12Base
import Derived.Test.YtiacgbkaflcbeaaCmL
import Derived.Test.YtiacgbkaflcbeaaM4
import Derived.Test.YtiacgbkaflcbeaaM1
import Derived.Lib.QuietBelow
import Derived.Deep.QuietTactic
import Derived.BigQuiet
import Derived.Deep.RegionHeld3
namespace Go.Proofs.Ytiacgbkaflcbeaa
open Go.RowKit Go.Sort
set_option linter.unusedVariables false
set_option linter.unusedSimpArgs false

attribute [local irreducible] tcs thc ccs zT
attribute [local go_sem ↓] alTn_is
attribute [local go_sem] run_alTnf run_alTnt zT_length
attribute [local go_sem ↓] lbTn_is lbTh_is lbCf_is lbRc_is sbTn_is sbTh_is sbCf_is sbRc_is
attribute [local go_sem] run_lbTn run_lbTh run_lbCf run_lbRc run_sbTn run_sbTh run_sbCf run_sbRc
attribute [local go_sem 2000] boxOf_old'
attribute [local go_sem] boxOf_at' boxOf_free' boxOf_alloc objBox_cells objBox_cellsA boxOf_drew boxOf_setI boxOf_setsI size_sets tcs_length thc_length ccs_length tcs_one thc_one ccs_one sub_tn sub_th sub_cf sub_thAll sub_cfAll put_turn put_thread
attribute [local go_sem] tc0 tc1 tc2 tc3 tc4 tc5 tc6 tc7 tc8 tc9 tc10 tc11 tc12 tc13 tc14 tc15 tc16 tc17 tc18 tc19 tc20 tc21 tc22 tc23 tc24 tc25 tc26 tc27 tc28 tc29 tc30 tc31 tc32 tc33 tc34 tc35 tc36 hc0 hc1 hc2 hc3 hc4 hc5 hc6 hc7 hc8 hc9 hc10 hc11 hc12 hc13 hc14 hc15 hc16 kc0 kc1 kc2 kc3 kc4 kc5 kc6 kc7 kc8 kc9 kc10 kc11 tg0 tg1 tg2 tg3 tg4 tg5 tg6 tg7 tg8 tg9 tg10 tg11 tg12 tg13 tg14 tg15 tg16 tg17 tg18 tg19 tg20 tg21 tg22 tg23 tg24 tg25 tg26 tg27 tg28 tg29 tg30 tg31 tg32 tg33 tg34 tg35 tg36 hg0 hg1 hg2 hg3 hg4 hg5 hg6 hg7 hg8 hg9 hg10 hg11 hg12 hg13 hg14 hg15 hg16 kg0 kg1 kg2 kg3 kg4 kg5 kg6 kg7 kg8 kg9 kg10 kg11
attribute [local go_sem] ts12 ts13 ts14 ts16 ts17 ts18 ts19 ts20 ts21 ts22 ts23 ts24 ts25 ts26 ts27 ts28 ts29 ts30 ts31 ts32 ts33 ts34 ts35 ts36 ts15 hs0 hs1 hs2 hs3 hs7 hs8 hs9 hs10 hs11 hs12 hs13 hs14 hs15 hs16

attribute [local irreducible] zC zH
attribute [local go_sem ↓] alCf_is alRc_is alTh_is
attribute [local go_sem] run_alCf run_alRc run_alTh zC_length zH_length put_conf put_thrd
attribute [local go_sem] tsNil
theorem wid_le {n m : Int} (h1 : 1 ≤ n) (h2 : n ≤ m) (h3 : m ≤ 8) : n ≤ widV n m ∧ widV n m ≤ m := by
  have e : wrap64 (2 * n) = 2 * n := by unfold wrap64; omega
  unfold widV
  rw [e]
  split
  · omega
  · split <;> omega
set_option maxRecDepth 100000 in
set_option maxHeartbeats 4000000 in
theorem fails_walk (u : Tn) (a : TA) (z : Int) (iz : I64 z) (w : World) (hi : TnIn w u a) : Calls Try.prog 5 #[.agg (tcs u a).toArray, .int .i64 z] w (BoolPost true w) := by
  have B1 : boxOf (w.alloc (.cells (tcs u a).toArray 38)) w.heap.size = some (tcs u a) := by simp [go_sem]
  have hB : Below w.heap.size w (w.alloc (.cells (tcs u a).toArray 38)) := belowN w _
  have hs : w.heap.size < (w.alloc (.cells (tcs u a).toArray 38)).heap.size := by simp
  go_enter Try.func5, Try.ntmps5
  go_wp2_with fail
  generalize (w.alloc (.cells (tcs u a).toArray 38)) = wz at *
  refine (big_tn u a _ (hi.m.later hB)).mono ?_
  rintro e w1 ⟨r, rfl, hr, hb1⟩
  replace B1 := boxOf_keep B1 hb1
  replace hB := below_next hB hB.size hb1
  replace hs := Nat.lt_of_lt_of_le hs hb1.size
  clear hb1
  cases r with
  | true =>
    go_wp2_with (go_at_call 10; refine (shown_any _).mono ?_; rintro e ws ⟨rfl, hbs⟩; replace hB := below_next hB hB.size hbs; clear hbs)
    go_ret
    exact ⟨ret_b (by simp), hB⟩
  | false =>
  have sm := hide (hr rfl)
  clear hr
  go_wp2_with fail
  refine (may_any u a _).mono ?_
  rintro e w2 ⟨r, rfl, hr, hb1⟩
  replace B1 := boxOf_keep B1 hb1
  replace hB := below_next hB hB.size hb1
  replace hs := Nat.lt_of_lt_of_le hs hb1.size
  clear hb1
  cases r with
  | false =>
    go_wp2_with (go_at_call 10; refine (shown_any _).mono ?_; rintro e ws ⟨rfl, hbs⟩; replace hB := below_next hB hB.size hbs; clear hbs)
    go_ret
    exact ⟨ret_b (by simp), hB⟩
  | true =>
  have my := hide (hr rfl)
  clear hr
  have h := hide (hi.at sm.out)
  have o := hide (hi.ok sm.out my.out)
  have cap := hide hi.cap
  clear hi
  by_cases g1 : u.d.wd < 1
  · have g1' : decide (u.d.wd < 1) = true := decide_eq_true g1
    go_wp2_with (go_at_call 10; refine (shown_any _).mono ?_; rintro e ws ⟨rfl, hbs⟩; replace hB := below_next hB hB.size hbs; clear hbs)
    go_ret
    exact ⟨ret_b (by simp), hB⟩
  by_cases g2 : u.c.x5 < u.d.wd
  · have g2' : decide (u.c.x5 < u.d.wd) = true := decide_eq_true g2
    go_wp2_with (go_at_call 10; refine (shown_any _).mono ?_; rintro e ws ⟨rfl, hbs⟩; replace hB := below_next hB hB.size hbs; clear hbs)
    go_ret
    exact ⟨ret_b (by simp), hB⟩
  have w1' : 1 ≤ u.d.wd := by omega
  have w2' : u.d.wd ≤ u.c.x5 := by omega
  go_wp2_with fail
  refine (shown_any _).mono ?_
  rintro e w3 ⟨rfl, hb1⟩
  replace B1 := boxOf_keep B1 hb1
  replace hB := below_next hB hB.size hb1
  replace hs := Nat.lt_of_lt_of_le hs hb1.size
  clear hb1
  obtain ⟨i0, hi0, hz0, hz1, hz2⟩ := info_parts info3
  obtain ⟨k, hk, hkl⟩ := cell_in my.out o.out
  have RC := fun W => hide (rcell_tn u.c o.out.c u.d.it (o.out.f.n _ (by simp [Dt.nums])) W)
  rw [hk] at RC
  obtain ⟨nw, hnw⟩ : ∃ l, u.ws.set k z = l := ⟨_, rfl⟩
  have HN : Hid (nw.length = u.ws.length) := hide (by rw [← hnw]; simp)
  have hxk : nw[k]? = some z := by rw [← hnw, List.getElem?_set_self hkl]
  have o1 : TnOk ({ u with ws := nw, d := { u.d with ph := 3 } } : Tn) := ⟨o.out.b, o.out.k, o.out.h, o.out.l, o.out.t, ⟨(o.out.f.phxy (i64_k 3 (by decide)) o.out.ix o.out.iy).n, o.out.f.t, o.out.f.v, o.out.f.b, o.out.f.h, o.out.f.k⟩, o.out.lo, o.out.hi, o.out.tt, (fun x hx => by
    rw [← hnw] at hx
    rcases List.mem_or_eq_of_mem_set hx with h | rfl
    · exact o.out.ws x h
    · exact iz), o.out.c⟩
  obtain ⟨wv, hwv⟩ : ∃ x, widV u.d.wd u.c.x5 = x := ⟨_, rfl⟩
  have wle := wid_le w1' w2' o.out.c.h5.2
  rw [hwv] at wle
  have eS : stepC ({ u with ws := nw, d := { u.d with ph := 3 } } : Tn) = swapV ({ u with ws := nw, d := { u.d with ph := 3 } } : Tn) := by simp [stepC]
  have HC : (z = u.d.x ∧ Hid (stepC ({ u with ws := nw, d := { u.d with ph := 3 } } : Tn) = comV ({ u with ws := nw.set k u.d.y, d := { u.d with ph := 3 } } : Tn) u.d.x)) ∨ (z ≠ u.d.x ∧ Hid (stepC ({ u with ws := nw, d := { u.d with ph := 3 } } : Tn) = ({ u with ws := nw, d := { u.d with ph := 2, wd := wv } } : Tn))) := by
    by_cases h1 : z = u.d.x
    · exact .inl ⟨h1, hide (by rw [eS, swap_at (u := ({ u with ws := nw, d := { u.d with ph := 3 } } : Tn)) hk hxk]; exact if_pos h1)⟩
    · exact .inr ⟨h1, hide (by rw [eS, swap_at (u := ({ u with ws := nw, d := { u.d with ph := 3 } } : Tn)) hk hxk]; rw [← hwv]; exact if_neg h1)⟩
  have HLS := hide (step_likeC ({ u with ws := nw, d := { u.d with ph := 3 } } : Tn)).ws
  have kk0 : (0 : Int) ≤ (k : Int) := Int.natCast_nonneg _
  have kk1 : (k : Int) < (u.ws.length : Int) := by omega
  have hfew : u.ws.length ≤ 20000 := h.out.m.few
  have HNW := hide hnw
  have ll50 := o.out.l
  have bl20 := o.out.b
  clear hk hnw hwv sm my cap eS
  go_wp2_with fail
  refine (RC _).out.mono ?_
  rintro e y1 ⟨rfl, hb1⟩
  replace B1 := boxOf_keep B1 hb1
  replace hB := below_next hB hB.size hb1
  replace hs := Nat.lt_of_lt_of_le hs hb1.size
  have sw := h.out.m.words.later hB
  have nbE := belowN y1 (.cells #[] 3)
  have B1e := boxOf_keep B1 nbE
  clear hb1 RC
  have HKL := hide hkl
  go_wp2_with (at_builtin; refine wpList_app _ rfl _ _ 24 rfl y1.heap.size 3 i0 _ 1 8 Try.underlying24 hi0 hz0 hz1 hz2 rfl (by omega) _ 0 _ rfl (own_empty y1 _ _ _ (Nat.le_refl _)) _ _ u.ws.length a.mc _ rfl (sw.later nbE) (by simp [Value.oneCell']) (by unfold maxLen; omega) (by omega) (by simp) ?_; intro q y2 hown hgw; rw [Nat.zero_add] at hown; obtain ⟨A', cq, rfl, hcq⟩ := own_form hown; obtain ⟨g, u0, rfl, hg, hgu, hgf, hset⟩ := own_set (w := y1) (.int .i64 z) hown HKL.out; replace B1e := boxOf_grown hgw B1e (Ne.symm (own_ne (own_empty y1 y1.heap.size 3 1 (Nat.le_refl _)) hs)); have ne1 : ¬ g = w.heap.size := (by omega); have ne2 : ¬ w.heap.size = g := (by omega); clear B1)
  have hB2 : Below w.heap.size w y2 := (hB.alloc hB.size _).grown hgw (by simp; omega) (fun k e => Nat.le_trans hB.size (own_at (own_empty y1 y1.heap.size 3 1 (Nat.le_refl _)) k e))
  have hs2 : w.heap.size < y2.heap.size := boxOf_lt B1e
  have C1 : boxOf (((y2.setCell ⟨g, k, none⟩ (.int .i64 z)).setCell ⟨w.heap.size, 14, none⟩ (.slice (some ⟨g, 0, none⟩) u.ws.length cq)).setCell ⟨w.heap.size, 16, none⟩ (.int .i64 3)) w.heap.size = some (tcs ({ u with d := { u.d with ph := 3 } } : Tn) ({ a with mA := some ⟨g, 0, none⟩, mc := cq } : TA)) := by
    have t := boxOf_set _ w.heap.size 16 (.int .i64 3) (boxOf_set _ w.heap.size 14 (.slice (some ⟨g, 0, none⟩) u.ws.length cq) (show boxOf (y2.setCell ⟨g, k, none⟩ (.int .i64 z)) w.heap.size = some (tcs u a) by rw [boxOf_far _ _ _ _ ne1]; exact B1e))
    rw [ts14, ts16] at t
    exact t
  have hBX : Below w.heap.size w (((y2.setCell ⟨g, k, none⟩ (.int .i64 z)).setCell ⟨w.heap.size, 14, none⟩ (.slice (some ⟨g, 0, none⟩) u.ws.length cq)).setCell ⟨w.heap.size, 16, none⟩ (.int .i64 3)) := ((hB2.setCell (by show w.heap.size ≤ g; omega) _).setCell (by simp) _).setCell (by simp) _
  have hsX : w.heap.size < (((y2.setCell ⟨g, k, none⟩ (.int .i64 z)).setCell ⟨w.heap.size, 14, none⟩ (.slice (some ⟨g, 0, none⟩) u.ws.length cq)).setCell ⟨w.heap.size, 16, none⟩ (.int .i64 3)).heap.size := by simpa using hs2
  have sX : Sees (((y2.setCell ⟨g, k, none⟩ (.int .i64 z)).setCell ⟨w.heap.size, 14, none⟩ (.slice (some ⟨g, 0, none⟩) u.ws.length cq)).setCell ⟨w.heap.size, 16, none⟩ (.int .i64 3)) (((y2.setCell ⟨g, k, none⟩ (.int .i64 z)).setCell ⟨w.heap.size, 14, none⟩ (.slice (some ⟨g, 0, none⟩) u.ws.length cq)).setCell ⟨w.heap.size, 16, none⟩ (.int .i64 3)).heap.size 1 (some ⟨g, 0, none⟩) nw.length (nw.map (Value.int .i64)) := by
    have t : Sees (y2.setCell ⟨g, k, none⟩ (.int .i64 z)) (y2.setCell ⟨g, k, none⟩ (.int .i64 z)).heap.size 1 (some ⟨g, 0, none⟩) nw.length (nw.map (Value.int .i64)) := by
      rw [List.nil_append, ← List.map_set, HNW.out] at hset
      rw [HN.out]
      simpa using hset
    exact (t.own1 _ _ _ (fun _ p hp => by cases hp; exact ne1)).own1 _ _ _ (fun _ p hp => by cases hp; exact ne1)
  have hl := h.out.later hBX
  have hT : TnAt (((y2.setCell ⟨g, k, none⟩ (.int .i64 z)).setCell ⟨w.heap.size, 14, none⟩ (.slice (some ⟨g, 0, none⟩) u.ws.length cq)).setCell ⟨w.heap.size, 16, none⟩ (.int .i64 3)) ({ u with ws := nw, d := { u.d with ph := 3 } } : Tn) ({ a with mA := some ⟨g, 0, none⟩, mc := cq } : TA) := ⟨h.out.m.words_at hBX sX HN.out, hl.bx, ⟨hl.th.b, hl.th.k, hl.th.h⟩, hl.tp, hl.lg⟩
  have S0 := cstep_at ({ u with ws := nw, d := { u.d with ph := 3 } } : Tn) ({ a with mA := some ⟨g, 0, none⟩, mc := cq } : TA) o1 _ hT
  have TW : tcs ({ u with ws := nw, d := { u.d with ph := 3 } } : Tn) ({ a with mA := some ⟨g, 0, none⟩, mc := cq } : TA) = tcs ({ u with d := { u.d with ph := 3 } } : Tn) ({ a with mA := some ⟨g, 0, none⟩, mc := cq } : TA) := by unfold tcs; rw [HN.out]
  rw [TW] at S0
  have i1 : isC ({ u with ws := nw, d := { u.d with ph := 3 } } : Tn) = true := by simp [isC]
  rw [i1] at S0
  clear hB hs nbE B1e hB2 hs2 hset hgu hgf hown hgw sX hl hT i1 TW o1
  generalize (((y2.setCell ⟨g, k, none⟩ (.int .i64 z)).setCell ⟨w.heap.size, 14, none⟩ (.slice (some ⟨g, 0, none⟩) u.ws.length cq)).setCell ⟨w.heap.size, 16, none⟩ (.int .i64 3)) = y3 at *
  clear ne1 ne2
  rcases HC with ⟨e1, HV⟩ | ⟨e1, HV⟩
  · rw [HV.out] at S0 HLS
    have d1 : (z == u.d.x) = true := beq_iff_eq.2 e1
    have HLL := hide (com_ll ({ u with ws := nw.set k u.d.y, d := { u.d with ph := 3 } } : Tn) u.d.x)
    have hsum : (u.ll.length : Int) + (u.d.bl.length : Int) = ((comV ({ u with ws := nw.set k u.d.y, d := { u.d with ph := 3 } } : Tn) u.d.x).ll.length : Int) := by rw [HLL.out]; show _ = ((u.ll ++ mkL u.d.bl u.d.it u.d.x u.c.x9 u.c.x10 : List M6).length : Int); rw [List.length_append, mkL_length]; omega
    have bw : (((comV ({ u with ws := nw.set k u.d.y, d := { u.d with ph := 3 } } : Tn) u.d.x).ws.length : Int) != (u.ws.length : Int)) = false := by rw [HLS.out]; show ((nw.length : Int) != _) = false; rw [HN.out]; simp
    have hxv : (comV ({ u with ws := nw.set k u.d.y, d := { u.d with ph := 3 } } : Tn) u.d.x).ws[k]? = some u.d.y := by rw [com_ws]; show (nw.set k u.d.y)[k]? = _; exact List.getElem?_set_self (by have := HN.out; omega)
    have HWL := hide (show (comV ({ u with ws := nw.set k u.d.y, d := { u.d with ph := 3 } } : Tn) u.d.x).ws.length = u.ws.length by rw [HLS.out]; exact HN.out)
    obtain ⟨V, hV⟩ : ∃ V, comV ({ u with ws := nw.set k u.d.y, d := { u.d with ph := 3 } } : Tn) u.d.x = V := ⟨_, rfl⟩
    rw [hV] at S0 hsum bw hxv HWL
    have kk2 : (k : Int) < (V.ws.length : Int) := by have := HWL.out; omega
    have hwr : wrap64 (V.ll.length : Int) = (V.ll.length : Int) := by unfold wrap64; omega
    clear hV HLL e1 HV HLS
    refine S0.mono ?_
    rintro e z1 ⟨a2, rfl, T2, M2, hb1⟩
    have B1 := boxOf_keep C1 hb1
    have hB := below_next hBX hBX.size hb1
    have hs := Nat.lt_of_lt_of_le hsX hb1.size
    have hpos := HWL.out
    obtain ⟨b2, o2, e2, lb2⟩ := T2.m.words.some_of (by first | omega | (show 0 < nw.length; omega))
    clear hpos
    have nb := belowY z1 V a2 38
    have B2 := boxY z1 V a2 38
    replace B1 := boxOf_keep B1 nb
    replace T2 := T2.later nb
    have HBF := hide (below_next hB hB.size nb)
    have cv : ((z1.alloc (.cells zT.toArray 38)).setCells z1.heap.size 0 (tcs V a2)).cell? ⟨b2, o2 + k, none⟩ = some (.int .i64 u.d.y) := word_cell (by have := T2.m.words; rw [e2] at this; exact this) hxv
    have ne3 : ¬ z1.heap.size = w.heap.size := by omega
    have ne4 : ¬ w.heap.size = z1.heap.size := by omega
    clear T2 hb1 nb C1 hBX hsX S0 hB M2 lb2
    go_wp2_with fail
    go_quiet (fail)
    go_wp2
    go_ret
    exact ⟨ret_b (by simp), (by first | exact HBF.out | exact below_drewN HBF.out _)⟩
  · rw [HV.out] at S0 HLS
    have d1 : (z == u.d.x) = false := beq_eq_false_iff_ne.2 e1
    have hxv := hxk
    have HWL := HN
    have bw : (((nw.length : Int)) != (u.ws.length : Int)) = false := by rw [HN.out]; simp
    have kk2 : (k : Int) < (nw.length : Int) := by have := HN.out; omega
    obtain ⟨wl1, wl2⟩ := wle
    clear e1 HV HLS
    refine S0.mono ?_
    rintro e z1 ⟨a2, rfl, T2, M2, hb1⟩
    have B1 := boxOf_keep C1 hb1
    have hB := below_next hBX hBX.size hb1
    have hs := Nat.lt_of_lt_of_le hsX hb1.size
    have hpos := HWL.out
    obtain ⟨b2, o2, e2, lb2⟩ := T2.m.words.some_of (by first | omega | (show 0 < nw.length; omega))
    clear hpos
    have nb := belowY z1 ({ u with ws := nw, d := { u.d with ph := 2, wd := wv } } : Tn) a2 38
    have B2 := boxY z1 ({ u with ws := nw, d := { u.d with ph := 2, wd := wv } } : Tn) a2 38
    replace B1 := boxOf_keep B1 nb
    replace T2 := T2.later nb
    have HBF := hide (below_next hB hB.size nb)
    have cv : ((z1.alloc (.cells zT.toArray 38)).setCells z1.heap.size 0 (tcs ({ u with ws := nw, d := { u.d with ph := 2, wd := wv } } : Tn) a2)).cell? ⟨b2, o2 + k, none⟩ = some (.int .i64 z) := word_cell (by have := T2.m.words; rw [e2] at this; exact this) hxv
    have ne3 : ¬ z1.heap.size = w.heap.size := by omega
    have ne4 : ¬ w.heap.size = z1.heap.size := by omega
    clear T2 hb1 nb C1 hBX hsX S0 hB M2 lb2
    go_wp2
    go_ret
    exact ⟨ret_b (by simp), HBF.out⟩
end Go.Proofs.Ytiacgbkaflcbeaa
