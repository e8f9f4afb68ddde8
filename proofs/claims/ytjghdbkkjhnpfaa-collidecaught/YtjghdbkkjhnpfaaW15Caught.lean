/- The walk of CollideCaught. -/
import Derived.Test.YtjghdbkkjhnpfaaW15Base
import Derived.Test.YtjghdbkkjhnpfaaItsN
import Derived.Test.YtjghdbkkjhnpfaaAlk
import Derived.Test.YtjghdbkkjhnpfaaM4
import Derived.Test.YtjghdbkkjhnpfaaM1
import Derived.Lib.QuietBelow
import Derived.Deep.QuietTactic
import Derived.BigQuiet
import Derived.Deep.RegionHeld3
import Derived.Deep.Cut
namespace Go.Proofs.Ytjghdbkkjhnpfaa
open Go.RowKit Go.Sort
set_option linter.unusedVariables false
set_option linter.unusedSimpArgs false

theorem ph_cases (z : Int) (z0 : 0 ≤ z) : z.tmod 3 = 0 ∨ z.tmod 3 = 1 ∨ z.tmod 3 = 2 := by
  have := Int.tmod_nonneg 3 z0; have := Int.tmod_lt_of_pos z (show (0 : Int) < 3 by decide); omega
theorem cau_20 {u : Tn} {k : Nat} {x : Int} (hp : u.d.ph = 20) (hk : lnV u.c u.tt = (k : Int)) (hx : u.ws[k]? = some x) (hne : x ≠ opW u) : stepC u = { u with d := { u.d with ph := 13 } } ∧ isC u = true := by
  have hl := (List.getElem?_eq_some_iff.1 hx).1
  have hb : cmB u u.tt = false := by unfold cmB; rw [hk, casB_at _ hx]; simpa using hne
  refine ⟨?_, by simp [isC, hp]⟩
  rw [stepC, if_neg (by rw [hp]; decide), if_neg (by rw [hp]; decide), if_neg (by rw [hp]; decide), if_pos hp, cmpC, if_pos (er_in hk hl), if_neg (by rw [hb]; decide)]
  have : cmW u u.tt = u := by unfold cmW casV; unfold cmB at hb; rw [hb, if_neg (by decide)]
  rw [this]
theorem cau_26 {u : Tn} {k : Nat} {x : Int} (hp : u.d.ph = 26) (hk : lnV u.c u.tt = (k : Int)) (hx : u.ws[k]? = some x) (hne : x ≠ opW u) : stepC u = { u with d := { u.d with ph := 13 } } ∧ isC u = true := by
  have hl := (List.getElem?_eq_some_iff.1 hx).1
  have hb : cmB u u.tt = false := by unfold cmB; rw [hk, casB_at _ hx]; simpa using hne
  refine ⟨?_, by simp [isC, hp]⟩
  rw [stepC, if_neg (by rw [hp]; decide), if_neg (by rw [hp]; decide), if_neg (by rw [hp]; decide), if_neg (by rw [hp]; decide), if_neg (by rw [hp]; decide), if_neg (by rw [hp]; decide), if_neg (by rw [hp]; decide), if_neg (by rw [hp]; decide), if_pos hp, leaC, if_pos (er_in hk hl), if_neg (by rw [hb]; decide)]
  have : cmW u u.tt = u := by unfold cmW casV; unfold cmB at hb; rw [hb, if_neg (by decide)]
  rw [this]
theorem cau_23 {u : Tn} {k : Nat} {x : Int} (hp : u.d.ph = 23) (hk : lnV u.c u.tt = (k : Int)) (hx : u.ws[k]? = some x) (hne : x ≠ opW u) : stepC u = { u with d := { u.d with ph := 13 } } ∧ isC u = true := by
  have hl := (List.getElem?_eq_some_iff.1 hx).1
  refine ⟨?_, by simp [isC, hp]⟩
  rw [stepC, if_neg (by rw [hp]; decide), if_neg (by rw [hp]; decide), if_neg (by rw [hp]; decide), if_neg (by rw [hp]; decide), if_neg (by rw [hp]; decide), if_neg (by rw [hp]; decide), if_pos hp, spiC, if_pos (er_in hk hl), if_neg (by rw [ld_in hk hx]; exact hne)]
attribute [local irreducible] tcs thc ccs zT
attribute [local go_sem ↓] alTn_is alRn_is
attribute [local go_sem] run_alTnf run_alTnt run_alRnf run_alRnt zT_length
attribute [local go_sem ↓] lbTn_is lbRn_is lbTh_is lbRh_is lbCf_is lbRc_is sbTn_is sbRn_is sbTh_is sbRh_is sbCf_is sbRc_is
attribute [local go_sem] run_lbTn run_lbRn run_lbTh run_lbRh run_lbCf run_lbRc run_sbTn run_sbRn run_sbTh run_sbRh run_sbCf run_sbRc
attribute [local go_sem 2000] boxOf_old'
attribute [local go_sem] boxOf_at' boxOf_free' boxOf_alloc objBox_cells objBox_cellsA boxOf_drew boxOf_setI boxOf_setsI size_sets tcs_length thc_length ccs_length tcs_one thc_one ccs_one sub_tn sub_th sub_cf sub_thAll sub_cfAll put_turn put_thread
attribute [local go_sem] tc0 tc1 tc2 tc3 tc4 tc5 tc6 tc7 tc8 tc9 tc10 tc11 tc12 tc13 tc14 tc15 tc16 tc17 tc18 tc19 tc20 tc21 tc22 tc23 tc24 tc25 tc26 tc27 tc28 tc29 tc30 tc31 tc32 tc33 tc34 tc35 tc36 hc0 hc1 hc2 hc3 hc4 hc5 hc6 hc7 hc8 hc9 hc10 hc11 hc12 hc13 hc14 hc15 hc16 kc0 kc1 kc2 kc3 kc4 kc5 kc6 kc7 kc8 kc9 kc10 kc11 tg0 tg1 tg2 tg3 tg4 tg5 tg6 tg7 tg8 tg9 tg10 tg11 tg12 tg13 tg14 tg15 tg16 tg17 tg18 tg19 tg20 tg21 tg22 tg23 tg24 tg25 tg26 tg27 tg28 tg29 tg30 tg31 tg32 tg33 tg34 tg35 tg36 hg0 hg1 hg2 hg3 hg4 hg5 hg6 hg7 hg8 hg9 hg10 hg11 hg12 hg13 hg14 hg15 hg16 kg0 kg1 kg2 kg3 kg4 kg5 kg6 kg7 kg8 kg9 kg10 kg11
attribute [local go_sem] ts12 ts13 ts14 ts16 ts17 ts18 ts19 ts20 ts21 ts22 ts23 ts24 ts25 ts26 ts27 ts28 ts29 ts30 ts31 ts32 ts33 ts34 ts35 ts36 ts15 hs0 hs1 hs2 hs3 hs7 hs8 hs9 hs10 hs11 hs12 hs13 hs14 hs15 hs16

attribute [local irreducible] zC zH
attribute [local go_sem ↓] alCf_is alRc_is alTh_is
attribute [local go_sem] run_alCf run_alRc run_alTh zC_length zH_length put_conf put_thrd
set_option maxRecDepth 100000 in
set_option maxHeartbeats 4000000 in
theorem caught_walk (u : Tn) (a : TA) (line z : Int) (z0 : 0 ≤ z) (z1 : z ≤ 255) (il : I64 line) (hta0 : I64 u.ta) (w : World) (hi : TnIn w u a) : Calls Try.prog 5 #[.agg (tcs u a).toArray, .int .i64 line, .int .u8 z] w (BoolPost true w) := by
  have B1 : boxOf (((w.alloc (.cells (tcs u a).toArray 38)).alloc (.cells zC.toArray 39)).setCells (w.heap.size + 1) 0 (ccs u.c)) w.heap.size = some (tcs u a) := by simp [go_sem]
  have BC : boxOf (((w.alloc (.cells (tcs u a).toArray 38)).alloc (.cells zC.toArray 39)).setCells (w.heap.size + 1) 0 (ccs u.c)) (w.heap.size + 1) = some (ccs u.c) := by simp [go_sem]
  have hs : w.heap.size + 1 < (((w.alloc (.cells (tcs u a).toArray 38)).alloc (.cells zC.toArray 39)).setCells (w.heap.size + 1) 0 (ccs u.c)).heap.size := by simp [size_sets]
  have hB : Below w.heap.size w (((w.alloc (.cells (tcs u a).toArray 38)).alloc (.cells zC.toArray 39)).setCells (w.heap.size + 1) 0 (ccs u.c)) := below_sets _ (by omega) _ _ _ _ ((belowN w _).alloc (by simp) _)
  go_enter Try.func5, Try.ntmps5
  go_wp2_with fail
  generalize (((w.alloc (.cells (tcs u a).toArray 38)).alloc (.cells zC.toArray 39)).setCells (w.heap.size + 1) 0 (ccs u.c)) = wz at *
  refine (big_tn u a _ (hi.m.later hB)).mono ?_
  rintro e w1 ⟨r, rfl, hr, hb1⟩
  replace B1 := boxOf_keep B1 hb1
  replace BC := boxOf_keep BC hb1
  replace hs := Nat.lt_of_lt_of_le hs hb1.size
  replace hB := below_next hB hB.size hb1
  clear hb1
  cases r with
  | true =>
    go_wp2_with (go_at_call 11; refine (shown_any _).mono ?_; rintro e ws ⟨rfl, hbs⟩; replace hB := below_next hB hB.size hbs; clear hbs)
    go_ret
    exact ⟨ret_b (by simp), hB⟩
  | false =>
  have sm := hide (hr rfl)
  clear hr
  go_wp2_with fail
  refine (lay_any u a _).mono ?_
  rintro e w2 ⟨r, rfl, hr, hb1⟩
  replace B1 := boxOf_keep B1 hb1
  replace BC := boxOf_keep BC hb1
  replace hs := Nat.lt_of_lt_of_le hs hb1.size
  replace hB := below_next hB hB.size hb1
  clear hb1
  cases r with
  | false =>
    go_wp2_with (go_at_call 11; refine (shown_any _).mono ?_; rintro e ws ⟨rfl, hbs⟩; replace hB := below_next hB hB.size hbs; clear hbs)
    go_ret
    exact ⟨ret_b (by simp), hB⟩
  | true =>
  have my := hide (hr rfl).1
  have hly := (hr rfl).2
  clear hr
  have h := hide (hi.at sm.out)
  have o := hide (hi.ok sm.out my.out)
  have ht := tt_my my.out o.out.c
  have hit := it_my my.out
  have hx0 := o.out.c.h0
  have hta := hide hta0
  clear hi hta0
  have KO := fun W => hide (open_any u.d.it u.d.ly hit hly W)
  rw [show opV u.d.it u.d.ly = opW u from rfl] at KO
  obtain ⟨ov, hov⟩ : ∃ x, opW u = x := ⟨_, rfl⟩
  rw [hov] at KO
  go_wp2_with fail
  refine (KO _).out.mono ?_
  rintro e w3 ⟨rfl, hb1⟩
  replace B1 := boxOf_keep B1 hb1
  replace BC := boxOf_keep BC hb1
  replace hs := Nat.lt_of_lt_of_le hs hb1.size
  replace hB := below_next hB hB.size hb1
  clear hb1
  clear KO
  by_cases hq : line = ov
  · have hqb : (line == ov) = true := by simpa using hq
    clear hq
    go_wp2_with (go_at_call 11; refine (shown_any _).mono ?_; rintro e ws ⟨rfl, hbs⟩; replace hB := below_next hB hB.size hbs; clear hbs)
    go_ret
    exact ⟨ret_b (by simp), hB⟩
  have hqb : (line == ov) = false := by simpa using hq
  have HQ := hide hq
  clear hq
  obtain ⟨k, hk, hkl, hke⟩ := ln_in my.out my.out.t0 my.out.t1
  clear hke
  have HKL := hide hkl
  have HK := hide hk
  have RL := hide (fun W => rline_tn u.c o.out.c u.tt o.out.tt W)
  rw [hk] at RL
  clear hk hkl
  go_wp2_with fail
  refine (shown_any _).mono ?_
  rintro e w4 ⟨rfl, hb1⟩
  replace B1 := boxOf_keep B1 hb1
  replace BC := boxOf_keep BC hb1
  replace hs := Nat.lt_of_lt_of_le hs hb1.size
  replace hB := below_next hB hB.size hb1
  clear hb1
  obtain ⟨i0, hi0, hz0, hz1, hz2⟩ := info_parts info3
  generalize w4 = y1 at *
  have hfew : u.ws.length ≤ 20000 := h.out.m.few
  have hsu : w.heap.size < y1.heap.size := by omega
  have sw := h.out.m.words.later hB
  have nbE := belowN y1 (.cells #[] 3)
  have B1e := boxOf_keep B1 nbE
  have BCe := boxOf_keep BC nbE
  clear B1 BC
  go_wp2_with (at_builtin; refine wpList_app _ rfl _ _ 24 rfl y1.heap.size 3 i0 _ 1 8 Try.underlying24 hi0 hz0 hz1 hz2 rfl (by omega) _ 0 _ rfl (own_empty y1 _ _ _ (Nat.le_refl _)) _ _ u.ws.length a.mc _ rfl (sw.later nbE) (by simp [Value.oneCell']) (by unfold maxLen; omega) (by omega) (by simp) ?_; intro q y2 hown hgw; rw [Nat.zero_add] at hown; obtain ⟨g, cq, cur, rfl, hg, hcur, hcl, htake⟩ := own_box (by have := HKL.out; omega) hown; replace B1e := boxOf_grown hgw B1e (Ne.symm (own_ne (own_empty y1 y1.heap.size 3 1 (Nat.le_refl _)) hsu)); replace BCe := boxOf_grown hgw BCe (Ne.symm (own_ne (own_empty y1 y1.heap.size 3 1 (Nat.le_refl _)) hs)); have hB2 : Below w.heap.size w y2 := (hB.alloc hB.size _).grown hgw (by simp; omega) (fun k e => Nat.le_trans hB.size (own_at (own_empty y1 y1.heap.size 3 1 (Nat.le_refl _)) k e)))
  refine (RL.out _).mono ?_
  rintro e y3 ⟨rfl, hb1⟩
  replace B1e := boxOf_keep B1e hb1
  replace hcur := boxOf_keep hcur hb1
  replace hB2 := below_next hB2 hB2.size hb1
  clear RL hb1 hown hgw BCe
  obtain ⟨nw, hnw⟩ : ∃ l, u.ws.set k line = l := ⟨_, rfl⟩
  have HN : Hid (nw.length = u.ws.length) := hide (by rw [← hnw]; simp)
  have hxk : nw[k]? = some line := by rw [← hnw, List.getElem?_set_self HKL.out]
  have inw : ∀ x ∈ nw, I64 x := by rw [← hnw]; exact set_i64 o.out.ws k il
  have ne1 : ¬ g = w.heap.size := by omega
  have ne2 : ¬ w.heap.size = g := by omega
  have htk := take_set (k := k) htake line
  rw [hnw] at htk
  have ucur : cur[k]? = some (cur[k]'(by have := HKL.out; omega)) := List.getElem?_eq_getElem _
  obtain ⟨u0, hu0⟩ : ∃ x, cur[k]'(by have := HKL.out; omega) = x := ⟨_, rfl⟩
  rw [hu0] at ucur
  have kk0 : (0 : Int) ≤ (k : Int) := Int.natCast_nonneg _
  have kk1 : (k : Int) < (u.ws.length : Int) := by have := HKL.out; omega
  have hz := ph_cases z z0
  have hzm : z % 3 = z.tmod 3 := by rw [Int.tmod_eq_emod_of_nonneg z0]
  have hzw : IntKind.i64.wrap z = z := w64 (by omega)
  have hs2 : w.heap.size < y3.heap.size := boxOf_lt B1e
  have hneq : line ≠ opW u := by rw [hov]; exact HQ.out
  clear hu0 hnw sw nbE hqb hov
  go_upto_region 6 with fail
  rcases hz with hz | hz | hz
  · have E := cau_20 (u := ({ u with ws := nw, d := { u.d with ph := 20 } } : Tn)) rfl HK.out hxk hneq
    have o1 : TnOk ({ u with ws := nw, d := { u.d with ph := 20 } } : Tn) := o.out.ph (ws := nw) (bx := u.bx) (i64_k 20 (by decide)) inw
    have o13 : TnOk ({ u with ws := nw, d := { u.d with ph := 13 } } : Tn) := o.out.ph (ws := nw) (bx := u.bx) (i64_k 13 (by decide)) inw
    have S1h := hide (fun A W (m : TnAt W ({ u with ws := nw, d := { u.d with ph := 20 } } : Tn) A) => cstep_any ({ u with ws := nw, d := { u.d with ph := 20 } } : Tn) A o1 ht hit hly hta.out W m)
    rw [E.1, E.2] at S1h
    have O13 := hide o13
    have C1 : boxOf ((((y3.setCell ⟨g, k, none⟩ (.int .i64 line)).setCell ⟨w.heap.size, 14, none⟩ (.slice (some ⟨g, 0, none⟩) u.ws.length cq)).setCell ⟨w.heap.size, 16, none⟩ (.int .i64 20)).alloc (.cells #[.int .i64 20, .int .i64 23, .int .i64 26] 3)) w.heap.size = some (tcs ({ u with ws := nw, d := { u.d with ph := 20 } } : Tn) ({ a with mA := some ⟨g, 0, none⟩, mc := cq } : TA)) := by
      have t := boxOf_keep (boxOf_set _ w.heap.size 16 (.int .i64 20) (boxOf_set _ w.heap.size 14 (.slice (some ⟨g, 0, none⟩) u.ws.length cq) (show boxOf (y3.setCell ⟨g, k, none⟩ (.int .i64 line)) w.heap.size = some (tcs u a) by rw [boxOf_far _ _ _ _ ne1]; exact B1e))) (belowN _ (.cells #[.int .i64 20, .int .i64 23, .int .i64 26] 3))
      rw [← HN.out, ts14, ts16] at t
      rw [← HN.out]
      exact t
    have hBX : Below w.heap.size w ((((y3.setCell ⟨g, k, none⟩ (.int .i64 line)).setCell ⟨w.heap.size, 14, none⟩ (.slice (some ⟨g, 0, none⟩) u.ws.length cq)).setCell ⟨w.heap.size, 16, none⟩ (.int .i64 20)).alloc (.cells #[.int .i64 20, .int .i64 23, .int .i64 26] 3)) := (((hB2.setCell (by show w.heap.size ≤ g; omega) _).setCell (by simp) _).setCell (by simp) _).alloc (by simp; omega) _
    have sX : Sees ((((y3.setCell ⟨g, k, none⟩ (.int .i64 line)).setCell ⟨w.heap.size, 14, none⟩ (.slice (some ⟨g, 0, none⟩) u.ws.length cq)).setCell ⟨w.heap.size, 16, none⟩ (.int .i64 20)).alloc (.cells #[.int .i64 20, .int .i64 23, .int .i64 26] 3)) ((((y3.setCell ⟨g, k, none⟩ (.int .i64 line)).setCell ⟨w.heap.size, 14, none⟩ (.slice (some ⟨g, 0, none⟩) u.ws.length cq)).setCell ⟨w.heap.size, 16, none⟩ (.int .i64 20)).alloc (.cells #[.int .i64 20, .int .i64 23, .int .i64 26] 3)).heap.size 1 (some ⟨g, 0, none⟩) nw.length (nw.map (Value.int .i64)) := by
      have t := sees_take (boxOf_set _ g k (.int .i64 line) hcur) htk HN.out.symm
      exact ((t.own1 _ _ _ (fun _ p hp => by cases hp; exact ne1)).own1 _ _ _ (fun _ p hp => by cases hp; exact ne1)).later (belowN _ _)
    have hl := h.out.later hBX
    have TX : TnAt ((((y3.setCell ⟨g, k, none⟩ (.int .i64 line)).setCell ⟨w.heap.size, 14, none⟩ (.slice (some ⟨g, 0, none⟩) u.ws.length cq)).setCell ⟨w.heap.size, 16, none⟩ (.int .i64 20)).alloc (.cells #[.int .i64 20, .int .i64 23, .int .i64 26] 3)) ({ u with ws := nw, d := { u.d with ph := 20 } } : Tn) ({ a with mA := some ⟨g, 0, none⟩, mc := cq } : TA) := ⟨h.out.m.words_at hBX sX HN.out, hl.bx, ⟨hl.th.b, hl.th.k, hl.th.h⟩, hl.tp, hl.lg⟩
    have oh := h.out.off (Nat.le_refl _)
    have OX : Off w.heap.size ({ u with ws := nw, d := { u.d with ph := 20 } } : Tn) ({ a with mA := some ⟨g, 0, none⟩, mc := cq } : TA) := ⟨fun _ p hp => by cases hp; exact ne1, oh.x, oh.e, oh.b, oh.k, oh.h, oh.t, oh.l⟩
    have TW : tcs ({ u with d := { u.d with ph := 20 } } : Tn) ({ a with mA := some ⟨g, 0, none⟩, mc := cq } : TA) = tcs ({ u with ws := nw, d := { u.d with ph := 20 } } : Tn) ({ a with mA := some ⟨g, 0, none⟩, mc := cq } : TA) := by unfold tcs; rw [HN.out]
    have lX : w.heap.size < ((((y3.setCell ⟨g, k, none⟩ (.int .i64 line)).setCell ⟨w.heap.size, 14, none⟩ (.slice (some ⟨g, 0, none⟩) u.ws.length cq)).setCell ⟨w.heap.size, 16, none⟩ (.int .i64 20)).alloc (.cells #[.int .i64 20, .int .i64 23, .int .i64 26] 3)).heap.size := by simp; omega
    have S1 := hide (S1h.out _ _ TX)
    have OX' := hide OX
    have TX' := hide TX
    clear sX hl oh TX OX htk htake E o1 o13 S1h inw
    go_upto_region 8 with fail
    rw [TW] at *
    clear B1e hcur ucur hg hcl
    generalize ((((y3.setCell ⟨g, k, none⟩ (.int .i64 line)).setCell ⟨w.heap.size, 14, none⟩ (.slice (some ⟨g, 0, none⟩) u.ws.length cq)).setCell ⟨w.heap.size, 16, none⟩ (.int .i64 20)).alloc (.cells #[.int .i64 20, .int .i64 23, .int .i64 26] 3)) = yX at *
    go_wp2_with fail
    refine S1.out.mono ?_
    rintro e z1 ⟨a2, rfl, T2, off2, hb1⟩
    have O2 := off2 w.heap.size lX OX'.out
    replace C1 := boxOf_keep C1 hb1
    replace hBX := below_next hBX hBX.size hb1
    replace TX' := hide (TX'.out.later hb1)
    have nb := belowY z1 ({ u with ws := nw, d := { u.d with ph := 13 } } : Tn) a2 38
    have C2 := boxY z1 ({ u with ws := nw, d := { u.d with ph := 13 } } : Tn) a2 38
    have lz := boxOf_lt C1
    replace C1 := boxOf_keep C1 nb
    replace hBX := below_next hBX hBX.size nb
    replace TX' := hide (TX'.out.later nb)
    replace T2 := T2.later nb
    clear S1 off2 hb1 nb
    go_upto_region 10 with fail
    have D1 : boxOf ((((z1.alloc (.cells zT.toArray 38)).setCells z1.heap.size 0 (tcs ({ u with ws := nw, d := { u.d with ph := 13 } } : Tn) a2)).setCell ⟨w.heap.size, 16, none⟩ (.int .i64 13))) w.heap.size = some (tcs ({ u with ws := nw, d := { u.d with ph := 13 } } : Tn) ({ a with mA := some ⟨g, 0, none⟩, mc := cq } : TA)) := (boxOf_set _ _ 16 _ C1).trans (congrArg some (ts16 _ _ _))
    have D2 : boxOf ((((z1.alloc (.cells zT.toArray 38)).setCells z1.heap.size 0 (tcs ({ u with ws := nw, d := { u.d with ph := 13 } } : Tn) a2)).setCell ⟨w.heap.size, 16, none⟩ (.int .i64 13))) z1.heap.size = some (tcs ({ u with ws := nw, d := { u.d with ph := 13 } } : Tn) a2) := (boxOf_far _ _ _ _ (by show w.heap.size ≠ _; omega)).trans C2
    have hB8 : Below w.heap.size w ((((z1.alloc (.cells zT.toArray 38)).setCells z1.heap.size 0 (tcs ({ u with ws := nw, d := { u.d with ph := 13 } } : Tn) a2)).setCell ⟨w.heap.size, 16, none⟩ (.int .i64 13))) := hBX.setCell (by simp) _
    have L8 : Lk ({ u with ws := nw, d := { u.d with ph := 20 } } : Tn) ({ u with ws := nw, d := { u.d with ph := 13 } } : Tn) := ⟨rfl, rfl, rfl, rfl, rfl, rfl, rfl⟩
    have HU := hide (L8.at (TX'.out.set1 OX'.out 16 (.int .i64 13)))
    have HV := hide (T2.set1 O2 16 (.int .i64 13))
    clear C1 C2 hBX TX' T2 L8
    generalize ((((z1.alloc (.cells zT.toArray 38)).setCells z1.heap.size 0 (tcs ({ u with ws := nw, d := { u.d with ph := 13 } } : Tn) a2)).setCell ⟨w.heap.size, 16, none⟩ (.int .i64 13))) = y9 at *
    generalize z1.heap.size = g2 at *
    have tok1 := hide True.intro
    have Z : boxOf (y9.drew) w.heap.size = some (tcs ({ u with ws := nw, d := { u.d with ph := 13 } } : Tn) ({ a with mA := some ⟨g, 0, none⟩, mc := cq } : TA)) ∧ boxOf (y9.drew) g2 = some (tcs ({ u with ws := nw, d := { u.d with ph := 13 } } : Tn) a2) ∧ boxOf (y9.drew) g2 = some (tcs ({ u with ws := nw, d := { u.d with ph := 13 } } : Tn) a2) ∧ Below y9.heap.size y9 (y9.drew) := ⟨by rw [boxOf_drew]; exact D1, by rw [boxOf_drew]; exact D2, by rw [boxOf_drew]; exact D2, (Below.refl _ _).drew⟩
    have Z0 : boxOf (y9) w.heap.size = some (tcs ({ u with ws := nw, d := { u.d with ph := 13 } } : Tn) ({ a with mA := some ⟨g, 0, none⟩, mc := cq } : TA)) ∧ boxOf (y9) g2 = some (tcs ({ u with ws := nw, d := { u.d with ph := 13 } } : Tn) a2) ∧ boxOf (y9) g2 = some (tcs ({ u with ws := nw, d := { u.d with ph := 13 } } : Tn) a2) ∧ Below y9.heap.size y9 (y9) := ⟨D1, D2, D2, Below.refl _ _⟩
    first
      | (go_region_held3 (fun w' => boxOf (w') w.heap.size = some (tcs ({ u with ws := nw, d := { u.d with ph := 13 } } : Tn) ({ a with mA := some ⟨g, 0, none⟩, mc := cq } : TA)) ∧ boxOf (w') g2 = some (tcs ({ u with ws := nw, d := { u.d with ph := 13 } } : Tn) a2) ∧ boxOf (w') g2 = some (tcs ({ u with ws := nw, d := { u.d with ph := 13 } } : Tn) a2) ∧ Below y9.heap.size y9 (w'))
          (first | (with_reducible exact Z) | (with_reducible exact Z1) | (with_reducible exact Z2) | (with_reducible exact Z3))
          (first
            | (go_at_call 19; have _t := tok1; refine (its_any ({ u with ws := nw, d := { u.d with ph := 13 } } : Tn) a2 O13.out _ (HV.out.later Z.2.2.2)).mono ?_; rintro e v1 ⟨q1, rfl, t1, hb1⟩; have Z1 : boxOf (v1) w.heap.size = some (tcs ({ u with ws := nw, d := { u.d with ph := 13 } } : Tn) ({ a with mA := some ⟨g, 0, none⟩, mc := cq } : TA)) ∧ boxOf (v1) g2 = some (tcs ({ u with ws := nw, d := { u.d with ph := 13 } } : Tn) a2) ∧ boxOf (v1) g2 = some (tcs ({ u with ws := nw, d := { u.d with ph := 13 } } : Tn) a2) ∧ Below y9.heap.size y9 (v1) := keepR Z hb1; clear tok1)
            | (go_at_call 19; refine (its_any ({ u with ws := nw, d := { u.d with ph := 13 } } : Tn) ({ a with mA := some ⟨g, 0, none⟩, mc := cq } : TA) O13.out _ (HU.out.later Z1.2.2.2)).mono ?_; rintro e v2 ⟨q2, rfl, t2, hb2⟩; have Z2 : boxOf (v2) w.heap.size = some (tcs ({ u with ws := nw, d := { u.d with ph := 13 } } : Tn) ({ a with mA := some ⟨g, 0, none⟩, mc := cq } : TA)) ∧ boxOf (v2) g2 = some (tcs ({ u with ws := nw, d := { u.d with ph := 13 } } : Tn) a2) ∧ boxOf (v2) g2 = some (tcs ({ u with ws := nw, d := { u.d with ph := 13 } } : Tn) a2) ∧ Below y9.heap.size y9 (v2) := keepR Z1 hb2)
            | (go_at_call 18; refine (alike_yes ({ u with ws := nw, d := { u.d with ph := 13 } } : Tn) q1 q2 O13.out _ (t1.later hb2) t2).mono ?_; rintro e v3 ⟨rfl, hb3⟩; have Z3 : boxOf (v3) w.heap.size = some (tcs ({ u with ws := nw, d := { u.d with ph := 13 } } : Tn) ({ a with mA := some ⟨g, 0, none⟩, mc := cq } : TA)) ∧ boxOf (v3) g2 = some (tcs ({ u with ws := nw, d := { u.d with ph := 13 } } : Tn) a2) ∧ boxOf (v3) g2 = some (tcs ({ u with ws := nw, d := { u.d with ph := 13 } } : Tn) a2) ∧ Below y9.heap.size y9 (v3) := keepR Z2 hb3)))
      | skip
    go_wp2
    go_ret
    exact ⟨ret_b (by simp), below_next hB8 hB8.size Z3.2.2.2⟩
  · have E := cau_23 (u := ({ u with ws := nw, d := { u.d with ph := 23 } } : Tn)) rfl HK.out hxk hneq
    have o1 : TnOk ({ u with ws := nw, d := { u.d with ph := 23 } } : Tn) := o.out.ph (ws := nw) (bx := u.bx) (i64_k 23 (by decide)) inw
    have o13 : TnOk ({ u with ws := nw, d := { u.d with ph := 13 } } : Tn) := o.out.ph (ws := nw) (bx := u.bx) (i64_k 13 (by decide)) inw
    have S1h := hide (fun A W (m : TnAt W ({ u with ws := nw, d := { u.d with ph := 23 } } : Tn) A) => cstep_any ({ u with ws := nw, d := { u.d with ph := 23 } } : Tn) A o1 ht hit hly hta.out W m)
    rw [E.1, E.2] at S1h
    have O13 := hide o13
    have C1 : boxOf ((((y3.setCell ⟨g, k, none⟩ (.int .i64 line)).setCell ⟨w.heap.size, 14, none⟩ (.slice (some ⟨g, 0, none⟩) u.ws.length cq)).setCell ⟨w.heap.size, 16, none⟩ (.int .i64 23)).alloc (.cells #[.int .i64 20, .int .i64 23, .int .i64 26] 3)) w.heap.size = some (tcs ({ u with ws := nw, d := { u.d with ph := 23 } } : Tn) ({ a with mA := some ⟨g, 0, none⟩, mc := cq } : TA)) := by
      have t := boxOf_keep (boxOf_set _ w.heap.size 16 (.int .i64 23) (boxOf_set _ w.heap.size 14 (.slice (some ⟨g, 0, none⟩) u.ws.length cq) (show boxOf (y3.setCell ⟨g, k, none⟩ (.int .i64 line)) w.heap.size = some (tcs u a) by rw [boxOf_far _ _ _ _ ne1]; exact B1e))) (belowN _ (.cells #[.int .i64 20, .int .i64 23, .int .i64 26] 3))
      rw [← HN.out, ts14, ts16] at t
      rw [← HN.out]
      exact t
    have hBX : Below w.heap.size w ((((y3.setCell ⟨g, k, none⟩ (.int .i64 line)).setCell ⟨w.heap.size, 14, none⟩ (.slice (some ⟨g, 0, none⟩) u.ws.length cq)).setCell ⟨w.heap.size, 16, none⟩ (.int .i64 23)).alloc (.cells #[.int .i64 20, .int .i64 23, .int .i64 26] 3)) := (((hB2.setCell (by show w.heap.size ≤ g; omega) _).setCell (by simp) _).setCell (by simp) _).alloc (by simp; omega) _
    have sX : Sees ((((y3.setCell ⟨g, k, none⟩ (.int .i64 line)).setCell ⟨w.heap.size, 14, none⟩ (.slice (some ⟨g, 0, none⟩) u.ws.length cq)).setCell ⟨w.heap.size, 16, none⟩ (.int .i64 23)).alloc (.cells #[.int .i64 20, .int .i64 23, .int .i64 26] 3)) ((((y3.setCell ⟨g, k, none⟩ (.int .i64 line)).setCell ⟨w.heap.size, 14, none⟩ (.slice (some ⟨g, 0, none⟩) u.ws.length cq)).setCell ⟨w.heap.size, 16, none⟩ (.int .i64 23)).alloc (.cells #[.int .i64 20, .int .i64 23, .int .i64 26] 3)).heap.size 1 (some ⟨g, 0, none⟩) nw.length (nw.map (Value.int .i64)) := by
      have t := sees_take (boxOf_set _ g k (.int .i64 line) hcur) htk HN.out.symm
      exact ((t.own1 _ _ _ (fun _ p hp => by cases hp; exact ne1)).own1 _ _ _ (fun _ p hp => by cases hp; exact ne1)).later (belowN _ _)
    have hl := h.out.later hBX
    have TX : TnAt ((((y3.setCell ⟨g, k, none⟩ (.int .i64 line)).setCell ⟨w.heap.size, 14, none⟩ (.slice (some ⟨g, 0, none⟩) u.ws.length cq)).setCell ⟨w.heap.size, 16, none⟩ (.int .i64 23)).alloc (.cells #[.int .i64 20, .int .i64 23, .int .i64 26] 3)) ({ u with ws := nw, d := { u.d with ph := 23 } } : Tn) ({ a with mA := some ⟨g, 0, none⟩, mc := cq } : TA) := ⟨h.out.m.words_at hBX sX HN.out, hl.bx, ⟨hl.th.b, hl.th.k, hl.th.h⟩, hl.tp, hl.lg⟩
    have oh := h.out.off (Nat.le_refl _)
    have OX : Off w.heap.size ({ u with ws := nw, d := { u.d with ph := 23 } } : Tn) ({ a with mA := some ⟨g, 0, none⟩, mc := cq } : TA) := ⟨fun _ p hp => by cases hp; exact ne1, oh.x, oh.e, oh.b, oh.k, oh.h, oh.t, oh.l⟩
    have TW : tcs ({ u with d := { u.d with ph := 23 } } : Tn) ({ a with mA := some ⟨g, 0, none⟩, mc := cq } : TA) = tcs ({ u with ws := nw, d := { u.d with ph := 23 } } : Tn) ({ a with mA := some ⟨g, 0, none⟩, mc := cq } : TA) := by unfold tcs; rw [HN.out]
    have lX : w.heap.size < ((((y3.setCell ⟨g, k, none⟩ (.int .i64 line)).setCell ⟨w.heap.size, 14, none⟩ (.slice (some ⟨g, 0, none⟩) u.ws.length cq)).setCell ⟨w.heap.size, 16, none⟩ (.int .i64 23)).alloc (.cells #[.int .i64 20, .int .i64 23, .int .i64 26] 3)).heap.size := by simp; omega
    have S1 := hide (S1h.out _ _ TX)
    have OX' := hide OX
    have TX' := hide TX
    clear sX hl oh TX OX htk htake E o1 o13 S1h inw
    go_upto_region 8 with fail
    rw [TW] at *
    clear B1e hcur ucur hg hcl
    generalize ((((y3.setCell ⟨g, k, none⟩ (.int .i64 line)).setCell ⟨w.heap.size, 14, none⟩ (.slice (some ⟨g, 0, none⟩) u.ws.length cq)).setCell ⟨w.heap.size, 16, none⟩ (.int .i64 23)).alloc (.cells #[.int .i64 20, .int .i64 23, .int .i64 26] 3)) = yX at *
    go_wp2_with fail
    refine S1.out.mono ?_
    rintro e z1 ⟨a2, rfl, T2, off2, hb1⟩
    have O2 := off2 w.heap.size lX OX'.out
    replace C1 := boxOf_keep C1 hb1
    replace hBX := below_next hBX hBX.size hb1
    replace TX' := hide (TX'.out.later hb1)
    have nb := belowY z1 ({ u with ws := nw, d := { u.d with ph := 13 } } : Tn) a2 38
    have C2 := boxY z1 ({ u with ws := nw, d := { u.d with ph := 13 } } : Tn) a2 38
    have lz := boxOf_lt C1
    replace C1 := boxOf_keep C1 nb
    replace hBX := below_next hBX hBX.size nb
    replace TX' := hide (TX'.out.later nb)
    replace T2 := T2.later nb
    clear S1 off2 hb1 nb
    go_upto_region 10 with fail
    have D1 : boxOf ((((z1.alloc (.cells zT.toArray 38)).setCells z1.heap.size 0 (tcs ({ u with ws := nw, d := { u.d with ph := 13 } } : Tn) a2)).setCell ⟨w.heap.size, 16, none⟩ (.int .i64 13))) w.heap.size = some (tcs ({ u with ws := nw, d := { u.d with ph := 13 } } : Tn) ({ a with mA := some ⟨g, 0, none⟩, mc := cq } : TA)) := (boxOf_set _ _ 16 _ C1).trans (congrArg some (ts16 _ _ _))
    have D2 : boxOf ((((z1.alloc (.cells zT.toArray 38)).setCells z1.heap.size 0 (tcs ({ u with ws := nw, d := { u.d with ph := 13 } } : Tn) a2)).setCell ⟨w.heap.size, 16, none⟩ (.int .i64 13))) z1.heap.size = some (tcs ({ u with ws := nw, d := { u.d with ph := 13 } } : Tn) a2) := (boxOf_far _ _ _ _ (by show w.heap.size ≠ _; omega)).trans C2
    have hB8 : Below w.heap.size w ((((z1.alloc (.cells zT.toArray 38)).setCells z1.heap.size 0 (tcs ({ u with ws := nw, d := { u.d with ph := 13 } } : Tn) a2)).setCell ⟨w.heap.size, 16, none⟩ (.int .i64 13))) := hBX.setCell (by simp) _
    have L8 : Lk ({ u with ws := nw, d := { u.d with ph := 23 } } : Tn) ({ u with ws := nw, d := { u.d with ph := 13 } } : Tn) := ⟨rfl, rfl, rfl, rfl, rfl, rfl, rfl⟩
    have HU := hide (L8.at (TX'.out.set1 OX'.out 16 (.int .i64 13)))
    have HV := hide (T2.set1 O2 16 (.int .i64 13))
    clear C1 C2 hBX TX' T2 L8
    generalize ((((z1.alloc (.cells zT.toArray 38)).setCells z1.heap.size 0 (tcs ({ u with ws := nw, d := { u.d with ph := 13 } } : Tn) a2)).setCell ⟨w.heap.size, 16, none⟩ (.int .i64 13))) = y9 at *
    generalize z1.heap.size = g2 at *
    have tok1 := hide True.intro
    have Z : boxOf (y9.drew) w.heap.size = some (tcs ({ u with ws := nw, d := { u.d with ph := 13 } } : Tn) ({ a with mA := some ⟨g, 0, none⟩, mc := cq } : TA)) ∧ boxOf (y9.drew) g2 = some (tcs ({ u with ws := nw, d := { u.d with ph := 13 } } : Tn) a2) ∧ boxOf (y9.drew) g2 = some (tcs ({ u with ws := nw, d := { u.d with ph := 13 } } : Tn) a2) ∧ Below y9.heap.size y9 (y9.drew) := ⟨by rw [boxOf_drew]; exact D1, by rw [boxOf_drew]; exact D2, by rw [boxOf_drew]; exact D2, (Below.refl _ _).drew⟩
    have Z0 : boxOf (y9) w.heap.size = some (tcs ({ u with ws := nw, d := { u.d with ph := 13 } } : Tn) ({ a with mA := some ⟨g, 0, none⟩, mc := cq } : TA)) ∧ boxOf (y9) g2 = some (tcs ({ u with ws := nw, d := { u.d with ph := 13 } } : Tn) a2) ∧ boxOf (y9) g2 = some (tcs ({ u with ws := nw, d := { u.d with ph := 13 } } : Tn) a2) ∧ Below y9.heap.size y9 (y9) := ⟨D1, D2, D2, Below.refl _ _⟩
    first
      | (go_region_held3 (fun w' => boxOf (w') w.heap.size = some (tcs ({ u with ws := nw, d := { u.d with ph := 13 } } : Tn) ({ a with mA := some ⟨g, 0, none⟩, mc := cq } : TA)) ∧ boxOf (w') g2 = some (tcs ({ u with ws := nw, d := { u.d with ph := 13 } } : Tn) a2) ∧ boxOf (w') g2 = some (tcs ({ u with ws := nw, d := { u.d with ph := 13 } } : Tn) a2) ∧ Below y9.heap.size y9 (w'))
          (first | (with_reducible exact Z) | (with_reducible exact Z1) | (with_reducible exact Z2) | (with_reducible exact Z3))
          (first
            | (go_at_call 19; have _t := tok1; refine (its_any ({ u with ws := nw, d := { u.d with ph := 13 } } : Tn) a2 O13.out _ (HV.out.later Z.2.2.2)).mono ?_; rintro e v1 ⟨q1, rfl, t1, hb1⟩; have Z1 : boxOf (v1) w.heap.size = some (tcs ({ u with ws := nw, d := { u.d with ph := 13 } } : Tn) ({ a with mA := some ⟨g, 0, none⟩, mc := cq } : TA)) ∧ boxOf (v1) g2 = some (tcs ({ u with ws := nw, d := { u.d with ph := 13 } } : Tn) a2) ∧ boxOf (v1) g2 = some (tcs ({ u with ws := nw, d := { u.d with ph := 13 } } : Tn) a2) ∧ Below y9.heap.size y9 (v1) := keepR Z hb1; clear tok1)
            | (go_at_call 19; refine (its_any ({ u with ws := nw, d := { u.d with ph := 13 } } : Tn) ({ a with mA := some ⟨g, 0, none⟩, mc := cq } : TA) O13.out _ (HU.out.later Z1.2.2.2)).mono ?_; rintro e v2 ⟨q2, rfl, t2, hb2⟩; have Z2 : boxOf (v2) w.heap.size = some (tcs ({ u with ws := nw, d := { u.d with ph := 13 } } : Tn) ({ a with mA := some ⟨g, 0, none⟩, mc := cq } : TA)) ∧ boxOf (v2) g2 = some (tcs ({ u with ws := nw, d := { u.d with ph := 13 } } : Tn) a2) ∧ boxOf (v2) g2 = some (tcs ({ u with ws := nw, d := { u.d with ph := 13 } } : Tn) a2) ∧ Below y9.heap.size y9 (v2) := keepR Z1 hb2)
            | (go_at_call 18; refine (alike_yes ({ u with ws := nw, d := { u.d with ph := 13 } } : Tn) q1 q2 O13.out _ (t1.later hb2) t2).mono ?_; rintro e v3 ⟨rfl, hb3⟩; have Z3 : boxOf (v3) w.heap.size = some (tcs ({ u with ws := nw, d := { u.d with ph := 13 } } : Tn) ({ a with mA := some ⟨g, 0, none⟩, mc := cq } : TA)) ∧ boxOf (v3) g2 = some (tcs ({ u with ws := nw, d := { u.d with ph := 13 } } : Tn) a2) ∧ boxOf (v3) g2 = some (tcs ({ u with ws := nw, d := { u.d with ph := 13 } } : Tn) a2) ∧ Below y9.heap.size y9 (v3) := keepR Z2 hb3)))
      | skip
    go_wp2
    go_ret
    exact ⟨ret_b (by simp), below_next hB8 hB8.size Z3.2.2.2⟩
  · have E := cau_26 (u := ({ u with ws := nw, d := { u.d with ph := 26 } } : Tn)) rfl HK.out hxk hneq
    have o1 : TnOk ({ u with ws := nw, d := { u.d with ph := 26 } } : Tn) := o.out.ph (ws := nw) (bx := u.bx) (i64_k 26 (by decide)) inw
    have o13 : TnOk ({ u with ws := nw, d := { u.d with ph := 13 } } : Tn) := o.out.ph (ws := nw) (bx := u.bx) (i64_k 13 (by decide)) inw
    have S1h := hide (fun A W (m : TnAt W ({ u with ws := nw, d := { u.d with ph := 26 } } : Tn) A) => cstep_any ({ u with ws := nw, d := { u.d with ph := 26 } } : Tn) A o1 ht hit hly hta.out W m)
    rw [E.1, E.2] at S1h
    have O13 := hide o13
    have C1 : boxOf ((((y3.setCell ⟨g, k, none⟩ (.int .i64 line)).setCell ⟨w.heap.size, 14, none⟩ (.slice (some ⟨g, 0, none⟩) u.ws.length cq)).setCell ⟨w.heap.size, 16, none⟩ (.int .i64 26)).alloc (.cells #[.int .i64 20, .int .i64 23, .int .i64 26] 3)) w.heap.size = some (tcs ({ u with ws := nw, d := { u.d with ph := 26 } } : Tn) ({ a with mA := some ⟨g, 0, none⟩, mc := cq } : TA)) := by
      have t := boxOf_keep (boxOf_set _ w.heap.size 16 (.int .i64 26) (boxOf_set _ w.heap.size 14 (.slice (some ⟨g, 0, none⟩) u.ws.length cq) (show boxOf (y3.setCell ⟨g, k, none⟩ (.int .i64 line)) w.heap.size = some (tcs u a) by rw [boxOf_far _ _ _ _ ne1]; exact B1e))) (belowN _ (.cells #[.int .i64 20, .int .i64 23, .int .i64 26] 3))
      rw [← HN.out, ts14, ts16] at t
      rw [← HN.out]
      exact t
    have hBX : Below w.heap.size w ((((y3.setCell ⟨g, k, none⟩ (.int .i64 line)).setCell ⟨w.heap.size, 14, none⟩ (.slice (some ⟨g, 0, none⟩) u.ws.length cq)).setCell ⟨w.heap.size, 16, none⟩ (.int .i64 26)).alloc (.cells #[.int .i64 20, .int .i64 23, .int .i64 26] 3)) := (((hB2.setCell (by show w.heap.size ≤ g; omega) _).setCell (by simp) _).setCell (by simp) _).alloc (by simp; omega) _
    have sX : Sees ((((y3.setCell ⟨g, k, none⟩ (.int .i64 line)).setCell ⟨w.heap.size, 14, none⟩ (.slice (some ⟨g, 0, none⟩) u.ws.length cq)).setCell ⟨w.heap.size, 16, none⟩ (.int .i64 26)).alloc (.cells #[.int .i64 20, .int .i64 23, .int .i64 26] 3)) ((((y3.setCell ⟨g, k, none⟩ (.int .i64 line)).setCell ⟨w.heap.size, 14, none⟩ (.slice (some ⟨g, 0, none⟩) u.ws.length cq)).setCell ⟨w.heap.size, 16, none⟩ (.int .i64 26)).alloc (.cells #[.int .i64 20, .int .i64 23, .int .i64 26] 3)).heap.size 1 (some ⟨g, 0, none⟩) nw.length (nw.map (Value.int .i64)) := by
      have t := sees_take (boxOf_set _ g k (.int .i64 line) hcur) htk HN.out.symm
      exact ((t.own1 _ _ _ (fun _ p hp => by cases hp; exact ne1)).own1 _ _ _ (fun _ p hp => by cases hp; exact ne1)).later (belowN _ _)
    have hl := h.out.later hBX
    have TX : TnAt ((((y3.setCell ⟨g, k, none⟩ (.int .i64 line)).setCell ⟨w.heap.size, 14, none⟩ (.slice (some ⟨g, 0, none⟩) u.ws.length cq)).setCell ⟨w.heap.size, 16, none⟩ (.int .i64 26)).alloc (.cells #[.int .i64 20, .int .i64 23, .int .i64 26] 3)) ({ u with ws := nw, d := { u.d with ph := 26 } } : Tn) ({ a with mA := some ⟨g, 0, none⟩, mc := cq } : TA) := ⟨h.out.m.words_at hBX sX HN.out, hl.bx, ⟨hl.th.b, hl.th.k, hl.th.h⟩, hl.tp, hl.lg⟩
    have oh := h.out.off (Nat.le_refl _)
    have OX : Off w.heap.size ({ u with ws := nw, d := { u.d with ph := 26 } } : Tn) ({ a with mA := some ⟨g, 0, none⟩, mc := cq } : TA) := ⟨fun _ p hp => by cases hp; exact ne1, oh.x, oh.e, oh.b, oh.k, oh.h, oh.t, oh.l⟩
    have TW : tcs ({ u with d := { u.d with ph := 26 } } : Tn) ({ a with mA := some ⟨g, 0, none⟩, mc := cq } : TA) = tcs ({ u with ws := nw, d := { u.d with ph := 26 } } : Tn) ({ a with mA := some ⟨g, 0, none⟩, mc := cq } : TA) := by unfold tcs; rw [HN.out]
    have lX : w.heap.size < ((((y3.setCell ⟨g, k, none⟩ (.int .i64 line)).setCell ⟨w.heap.size, 14, none⟩ (.slice (some ⟨g, 0, none⟩) u.ws.length cq)).setCell ⟨w.heap.size, 16, none⟩ (.int .i64 26)).alloc (.cells #[.int .i64 20, .int .i64 23, .int .i64 26] 3)).heap.size := by simp; omega
    have S1 := hide (S1h.out _ _ TX)
    have OX' := hide OX
    have TX' := hide TX
    clear sX hl oh TX OX htk htake E o1 o13 S1h inw
    go_upto_region 8 with fail
    rw [TW] at *
    clear B1e hcur ucur hg hcl
    generalize ((((y3.setCell ⟨g, k, none⟩ (.int .i64 line)).setCell ⟨w.heap.size, 14, none⟩ (.slice (some ⟨g, 0, none⟩) u.ws.length cq)).setCell ⟨w.heap.size, 16, none⟩ (.int .i64 26)).alloc (.cells #[.int .i64 20, .int .i64 23, .int .i64 26] 3)) = yX at *
    go_wp2_with fail
    refine S1.out.mono ?_
    rintro e z1 ⟨a2, rfl, T2, off2, hb1⟩
    have O2 := off2 w.heap.size lX OX'.out
    replace C1 := boxOf_keep C1 hb1
    replace hBX := below_next hBX hBX.size hb1
    replace TX' := hide (TX'.out.later hb1)
    have nb := belowY z1 ({ u with ws := nw, d := { u.d with ph := 13 } } : Tn) a2 38
    have C2 := boxY z1 ({ u with ws := nw, d := { u.d with ph := 13 } } : Tn) a2 38
    have lz := boxOf_lt C1
    replace C1 := boxOf_keep C1 nb
    replace hBX := below_next hBX hBX.size nb
    replace TX' := hide (TX'.out.later nb)
    replace T2 := T2.later nb
    clear S1 off2 hb1 nb
    go_upto_region 10 with fail
    have D1 : boxOf ((((z1.alloc (.cells zT.toArray 38)).setCells z1.heap.size 0 (tcs ({ u with ws := nw, d := { u.d with ph := 13 } } : Tn) a2)).setCell ⟨w.heap.size, 16, none⟩ (.int .i64 13))) w.heap.size = some (tcs ({ u with ws := nw, d := { u.d with ph := 13 } } : Tn) ({ a with mA := some ⟨g, 0, none⟩, mc := cq } : TA)) := (boxOf_set _ _ 16 _ C1).trans (congrArg some (ts16 _ _ _))
    have D2 : boxOf ((((z1.alloc (.cells zT.toArray 38)).setCells z1.heap.size 0 (tcs ({ u with ws := nw, d := { u.d with ph := 13 } } : Tn) a2)).setCell ⟨w.heap.size, 16, none⟩ (.int .i64 13))) z1.heap.size = some (tcs ({ u with ws := nw, d := { u.d with ph := 13 } } : Tn) a2) := (boxOf_far _ _ _ _ (by show w.heap.size ≠ _; omega)).trans C2
    have hB8 : Below w.heap.size w ((((z1.alloc (.cells zT.toArray 38)).setCells z1.heap.size 0 (tcs ({ u with ws := nw, d := { u.d with ph := 13 } } : Tn) a2)).setCell ⟨w.heap.size, 16, none⟩ (.int .i64 13))) := hBX.setCell (by simp) _
    have L8 : Lk ({ u with ws := nw, d := { u.d with ph := 26 } } : Tn) ({ u with ws := nw, d := { u.d with ph := 13 } } : Tn) := ⟨rfl, rfl, rfl, rfl, rfl, rfl, rfl⟩
    have HU := hide (L8.at (TX'.out.set1 OX'.out 16 (.int .i64 13)))
    have HV := hide (T2.set1 O2 16 (.int .i64 13))
    clear C1 C2 hBX TX' T2 L8
    generalize ((((z1.alloc (.cells zT.toArray 38)).setCells z1.heap.size 0 (tcs ({ u with ws := nw, d := { u.d with ph := 13 } } : Tn) a2)).setCell ⟨w.heap.size, 16, none⟩ (.int .i64 13))) = y9 at *
    generalize z1.heap.size = g2 at *
    have tok1 := hide True.intro
    have Z : boxOf (y9.drew) w.heap.size = some (tcs ({ u with ws := nw, d := { u.d with ph := 13 } } : Tn) ({ a with mA := some ⟨g, 0, none⟩, mc := cq } : TA)) ∧ boxOf (y9.drew) g2 = some (tcs ({ u with ws := nw, d := { u.d with ph := 13 } } : Tn) a2) ∧ boxOf (y9.drew) g2 = some (tcs ({ u with ws := nw, d := { u.d with ph := 13 } } : Tn) a2) ∧ Below y9.heap.size y9 (y9.drew) := ⟨by rw [boxOf_drew]; exact D1, by rw [boxOf_drew]; exact D2, by rw [boxOf_drew]; exact D2, (Below.refl _ _).drew⟩
    have Z0 : boxOf (y9) w.heap.size = some (tcs ({ u with ws := nw, d := { u.d with ph := 13 } } : Tn) ({ a with mA := some ⟨g, 0, none⟩, mc := cq } : TA)) ∧ boxOf (y9) g2 = some (tcs ({ u with ws := nw, d := { u.d with ph := 13 } } : Tn) a2) ∧ boxOf (y9) g2 = some (tcs ({ u with ws := nw, d := { u.d with ph := 13 } } : Tn) a2) ∧ Below y9.heap.size y9 (y9) := ⟨D1, D2, D2, Below.refl _ _⟩
    first
      | (go_region_held3 (fun w' => boxOf (w') w.heap.size = some (tcs ({ u with ws := nw, d := { u.d with ph := 13 } } : Tn) ({ a with mA := some ⟨g, 0, none⟩, mc := cq } : TA)) ∧ boxOf (w') g2 = some (tcs ({ u with ws := nw, d := { u.d with ph := 13 } } : Tn) a2) ∧ boxOf (w') g2 = some (tcs ({ u with ws := nw, d := { u.d with ph := 13 } } : Tn) a2) ∧ Below y9.heap.size y9 (w'))
          (first | (with_reducible exact Z) | (with_reducible exact Z1) | (with_reducible exact Z2) | (with_reducible exact Z3))
          (first
            | (go_at_call 19; have _t := tok1; refine (its_any ({ u with ws := nw, d := { u.d with ph := 13 } } : Tn) a2 O13.out _ (HV.out.later Z.2.2.2)).mono ?_; rintro e v1 ⟨q1, rfl, t1, hb1⟩; have Z1 : boxOf (v1) w.heap.size = some (tcs ({ u with ws := nw, d := { u.d with ph := 13 } } : Tn) ({ a with mA := some ⟨g, 0, none⟩, mc := cq } : TA)) ∧ boxOf (v1) g2 = some (tcs ({ u with ws := nw, d := { u.d with ph := 13 } } : Tn) a2) ∧ boxOf (v1) g2 = some (tcs ({ u with ws := nw, d := { u.d with ph := 13 } } : Tn) a2) ∧ Below y9.heap.size y9 (v1) := keepR Z hb1; clear tok1)
            | (go_at_call 19; refine (its_any ({ u with ws := nw, d := { u.d with ph := 13 } } : Tn) ({ a with mA := some ⟨g, 0, none⟩, mc := cq } : TA) O13.out _ (HU.out.later Z1.2.2.2)).mono ?_; rintro e v2 ⟨q2, rfl, t2, hb2⟩; have Z2 : boxOf (v2) w.heap.size = some (tcs ({ u with ws := nw, d := { u.d with ph := 13 } } : Tn) ({ a with mA := some ⟨g, 0, none⟩, mc := cq } : TA)) ∧ boxOf (v2) g2 = some (tcs ({ u with ws := nw, d := { u.d with ph := 13 } } : Tn) a2) ∧ boxOf (v2) g2 = some (tcs ({ u with ws := nw, d := { u.d with ph := 13 } } : Tn) a2) ∧ Below y9.heap.size y9 (v2) := keepR Z1 hb2)
            | (go_at_call 18; refine (alike_yes ({ u with ws := nw, d := { u.d with ph := 13 } } : Tn) q1 q2 O13.out _ (t1.later hb2) t2).mono ?_; rintro e v3 ⟨rfl, hb3⟩; have Z3 : boxOf (v3) w.heap.size = some (tcs ({ u with ws := nw, d := { u.d with ph := 13 } } : Tn) ({ a with mA := some ⟨g, 0, none⟩, mc := cq } : TA)) ∧ boxOf (v3) g2 = some (tcs ({ u with ws := nw, d := { u.d with ph := 13 } } : Tn) a2) ∧ boxOf (v3) g2 = some (tcs ({ u with ws := nw, d := { u.d with ph := 13 } } : Tn) a2) ∧ Below y9.heap.size y9 (v3) := keepR Z2 hb3)))
      | skip
    go_wp2
    go_ret
    exact ⟨ret_b (by simp), below_next hB8 hB8.size Z3.2.2.2⟩
end Go.Proofs.Ytjghdbkkjhnpfaa
