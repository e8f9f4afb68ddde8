/- The walk of CollideSelf. -/
import Derived.Test.YtjghdbkkjhnpfaaW15Slots
import Derived.Test.YtjghdbkkjhnpfaaM4
import Derived.Test.YtjghdbkkjhnpfaaM1
import Derived.Lib.QuietBelow
import Derived.Deep.QuietTactic
import Derived.BigQuiet
import Derived.Deep.RegionHeld3
import Derived.Deep.Cut
namespace Go.Proofs.Ytjghdbkkjhnpfaa
open Go.RowKit Go.Sort
set_option linter.unusedVariables false
set_option linter.unusedSimpArgs false

theorem dr_lt {u : Tn} (h : 1 ≤ u.d.wd) : 0 ≤ drV u ∧ drV u < u.d.wd := by
  unfold drV blD
  rw [if_neg (by omega)]
  exact ⟨Int.emod_nonneg _ (by omega), Int.emod_lt_of_pos _ (by omega)⟩
/-- A turn whose slots all hold the same, at its swap. -/
theorem swp_at {u : Tn} {X : Int} {k : Nat} (hp : u.d.ph = 19) (hk : swP u = (k : Int)) (hx : u.ws[k]? = some X) : stepC u = (if metB u X = true then aprV (swW u) X else spnV (swW u)) ∧ isC u = true := by
  refine ⟨?_, by simp [isC, hp]⟩
  rw [stepC, if_neg (by rw [hp]; decide), if_neg (by rw [hp]; decide), if_pos hp, swpC, if_pos (er_in hk (List.getElem?_eq_some_iff.1 hx).1), show swQ u = X from ld_in hk hx]
attribute [local irreducible] tcs thc ccs zT
attribute [local go_sem ↓] alTn_is alRn_is
attribute [local go_sem] run_alTnf run_alTnt run_alRnf run_alRnt zT_length
attribute [local go_sem ↓] lbTn_is lbRn_is lbTh_is lbRh_is lbCf_is lbRc_is sbTn_is sbRn_is sbTh_is sbRh_is sbCf_is sbRc_is
attribute [local go_sem] run_lbTn run_lbRn run_lbTh run_lbRh run_lbCf run_lbRc run_sbTn run_sbRn run_sbTh run_sbRh run_sbCf run_sbRc
attribute [local go_sem 2000] boxOf_old'
attribute [local go_sem] boxOf_at' boxOf_free' boxOf_alloc objBox_cells objBox_cellsA boxOf_drew boxOf_setI boxOf_setsI size_sets tcs_length thc_length ccs_length tcs_one thc_one ccs_one sub_tn sub_th sub_cf sub_thAll sub_cfAll put_turn put_thread
attribute [local go_sem] tc0 tc1 tc2 tc3 tc4 tc5 tc6 tc7 tc8 tc9 tc10 tc11 tc12 tc13 tc14 tc15 tc16 tc17 tc18 tc19 tc20 tc21 tc22 tc23 tc24 tc25 tc26 tc27 tc28 tc29 tc30 tc31 tc32 tc33 tc34 tc35 tc36 hc0 hc1 hc2 hc3 hc4 hc5 hc6 hc7 hc8 hc9 hc10 hc11 hc12 hc13 hc14 hc15 hc16 kc0 kc1 kc2 kc3 kc4 kc5 kc6 kc7 kc8 kc9 kc10 kc11 tg0 tg1 tg2 tg3 tg4 tg5 tg6 tg7 tg8 tg9 tg10 tg11 tg12 tg13 tg14 tg15 tg16 tg17 tg18 tg19 tg20 tg21 tg22 tg23 tg24 tg25 tg26 tg27 tg28 tg29 tg30 tg31 tg32 tg33 tg34 tg35 tg36 hg0 hg1 hg2 hg3 hg4 hg5 hg6 hg7 hg8 hg9 hg10 hg11 hg12 hg13 hg14 hg15 hg16 kg0 kg1 kg2 kg3 kg4 kg5 kg6 kg7 kg8 kg9 kg10 kg11
attribute [local go_sem] ts12 ts13 ts14 ts16 ts17 ts18 ts19 ts20 ts21 ts22 ts23 ts24 ts25 ts26 ts27 ts28 ts29 ts30 ts31 ts32 ts33 ts34 ts35 ts36 ts15 hs0 hs1 hs2 hs3 hs7 hs8 hs9 hs10 hs11 hs12 hs13 hs14 hs15 hs16

attribute [local irreducible] zC zH
attribute [local go_sem ↓] alCf_is alRc_is alTh_is
attribute [local go_sem] run_alCf run_alRc run_alTh zC_length zH_length put_conf put_thrd
set_option maxRecDepth 100000 in
set_option maxHeartbeats 4000000 in
theorem self_walk (u : Tn) (a : TA) (word : Int) (il : I64 word) (hta0 : I64 u.ta) (w : World) (hi : TnIn w u a) : Calls Try.prog 6 #[.agg (tcs u a).toArray, .int .i64 word] w (BoolPost true w) := by
  have B1 : boxOf (((w.alloc (.cells (tcs u a).toArray 38)).alloc (.cells zC.toArray 39)).setCells (w.heap.size + 1) 0 (ccs u.c)) w.heap.size = some (tcs u a) := by simp [go_sem]
  have BC : boxOf (((w.alloc (.cells (tcs u a).toArray 38)).alloc (.cells zC.toArray 39)).setCells (w.heap.size + 1) 0 (ccs u.c)) (w.heap.size + 1) = some (ccs u.c) := by simp [go_sem]
  have hs : w.heap.size + 1 < (((w.alloc (.cells (tcs u a).toArray 38)).alloc (.cells zC.toArray 39)).setCells (w.heap.size + 1) 0 (ccs u.c)).heap.size := by simp [size_sets]
  have hB : Below w.heap.size w (((w.alloc (.cells (tcs u a).toArray 38)).alloc (.cells zC.toArray 39)).setCells (w.heap.size + 1) 0 (ccs u.c)) := below_sets _ (by omega) _ _ _ _ ((belowN w _).alloc (by simp) _)
  go_enter Try.func6, Try.ntmps6
  go_wp2_with fail
  generalize (((w.alloc (.cells (tcs u a).toArray 38)).alloc (.cells zC.toArray 39)).setCells (w.heap.size + 1) 0 (ccs u.c)) = wz at *
  refine (big_tn u a _ (hi.m.later hB)).mono ?_
  rintro e w1 ⟨r, rfl, hr, hb1⟩
  replace B1 := boxOf_keep B1 hb1
  replace BC := boxOf_keep BC hb1
  replace hs := Nat.lt_of_lt_of_le hs hb1.size
  replace hB := below_next hB hB.size hb1
  clear hb1
  cases r with
  | true =>
    go_wp2_with (go_at_call 11; refine (shown_any _).mono ?_; rintro e ws ⟨rfl, hbs⟩; replace hB := below_next hB hB.size hbs; clear hbs)
    go_ret
    exact ⟨ret_b (by simp), hB⟩
  | false =>
  have sm := hide (hr rfl)
  clear hr
  go_wp2_with fail
  refine (lay_any u a _).mono ?_
  rintro e w2 ⟨r, rfl, hr, hb1⟩
  replace B1 := boxOf_keep B1 hb1
  replace BC := boxOf_keep BC hb1
  replace hs := Nat.lt_of_lt_of_le hs hb1.size
  replace hB := below_next hB hB.size hb1
  clear hb1
  cases r with
  | false =>
    go_wp2_with (go_at_call 11; refine (shown_any _).mono ?_; rintro e ws ⟨rfl, hbs⟩; replace hB := below_next hB hB.size hbs; clear hbs)
    go_ret
    exact ⟨ret_b (by simp), hB⟩
  | true =>
  have my := hide (hr rfl).1
  have hly := (hr rfl).2
  clear hr
  have h := hide (hi.at sm.out)
  have o := hide (hi.ok sm.out my.out)
  have ht := tt_my my.out o.out.c
  have hit := it_my my.out
  have hx0 := o.out.c.h0
  have hta := hide hta0
  clear hi hta0
  by_cases hlx : u.d.ly ≤ u.c.x4
  case neg =>
    have hlx' : u.c.x4 < u.d.ly := by omega
    clear hlx
    go_wp2_with (go_at_call 11; refine (shown_any _).mono ?_; rintro e ws ⟨rfl, hbs⟩; replace hB := below_next hB hB.size hbs; clear hbs)
    go_ret
    exact ⟨ret_b (by simp), hB⟩
  by_cases hwd1 : 1 ≤ u.d.wd
  case neg =>
    have hwd1' : u.d.wd < 1 := by omega
    clear hwd1
    go_wp2_with (go_at_call 11; refine (shown_any _).mono ?_; rintro e ws ⟨rfl, hbs⟩; replace hB := below_next hB hB.size hbs; clear hbs)
    go_ret
    exact ⟨ret_b (by simp), hB⟩
  by_cases hwd2 : u.d.wd ≤ u.c.x5
  case neg =>
    have hwd2' : u.c.x5 < u.d.wd := by omega
    clear hwd2
    go_wp2_with (go_at_call 11; refine (shown_any _).mono ?_; rintro e ws ⟨rfl, hbs⟩; replace hB := below_next hB hB.size hbs; clear hbs)
    go_ret
    exact ⟨ret_b (by simp), hB⟩
  have dd1 : decide (u.c.x4 < u.d.ly) = false := decide_eq_false (by omega)
  have dd2 : decide (u.d.wd < 1) = false := decide_eq_false (by omega)
  have dd3 : decide (u.c.x5 < u.d.wd) = false := decide_eq_false (by omega)
  go_wp2_with fail
  refine (shown_any _).mono ?_
  rintro e w4 ⟨rfl, hb1⟩
  replace B1 := boxOf_keep B1 hb1
  replace BC := boxOf_keep BC hb1
  replace hs := Nat.lt_of_lt_of_le hs hb1.size
  replace hB := below_next hB hB.size hb1
  clear hb1
  have hXs : ∃ X, I64 X ∧ metB u X = false ∧ (((1 ≤ word ∧ word ≤ u.c.x0) ∧ X = u.tt + 1) ∨ ((1 ≤ word ∧ ¬ word ≤ u.c.x0) ∧ X = word) ∨ (¬ 1 ≤ word ∧ X = word)) := by
    by_cases h1 : 1 ≤ word
    · by_cases h2 : word ≤ u.c.x0
      · exact ⟨u.tt + 1, by unfold I64; omega, by simp [metB], .inl ⟨⟨h1, h2⟩, rfl⟩⟩
      · exact ⟨word, il, by simp [metB, h2], .inr (.inl ⟨⟨h1, h2⟩, rfl⟩)⟩
    · exact ⟨word, il, by simp [metB, h1], .inr (.inr ⟨h1, rfl⟩)⟩
  obtain ⟨X, iX, hmet, hXs⟩ := hXs
  have hw1 : wrap64 (u.tt + 1) = u.tt + 1 := wrap64_id (by unfold I64; omega)
  have HMET := hide hmet
  have HIX := hide iX
  have hfl : 0 < u.ws.length := by
    obtain ⟨k, _, hkl, _⟩ := ln_in my.out my.out.t0 my.out.t1
    omega
  clear hmet iX il
  clear dd1 dd2 dd3
  rcases hXs with ⟨⟨x1, x2⟩, hX⟩ | ⟨⟨x1, x2⟩, hX⟩ | ⟨x1, hX⟩
  · have HX := hide hX
    clear hX hw1
    go_upto_region 6 with fail
    rw [← HX.out]
    clear x1 x2
    obtain ⟨i0, hi0, hz0, hz1, hz2⟩ := info_parts info3
    generalize w4 = y1 at *
    have hfew : u.ws.length ≤ 20000 := h.out.m.few
    have hsu : w.heap.size < y1.heap.size := by omega
    have sw := h.out.m.words.later hB
    have nbE := belowN y1 (.cells #[] 3)
    have B1e := boxOf_keep B1 nbE
    have BCe := boxOf_keep BC nbE
    clear B1 BC
    go_wp2_with (at_builtin; refine wpList_app _ rfl _ _ 24 rfl y1.heap.size 3 i0 _ 1 8 Try.underlying24 hi0 hz0 hz1 hz2 rfl (by omega) _ 0 _ rfl (own_empty y1 _ _ _ (Nat.le_refl _)) _ _ u.ws.length a.mc _ rfl (sw.later nbE) (by simp [Value.oneCell']) (by unfold maxLen; omega) (by omega) (by simp) ?_; intro q y2 hown hgw; rw [Nat.zero_add] at hown; obtain ⟨g, cq, cur, rfl, hg, hcur, hcl, htake⟩ := own_box hfl hown; replace B1e := boxOf_grown hgw B1e (Ne.symm (own_ne (own_empty y1 y1.heap.size 3 1 (Nat.le_refl _)) hsu)); replace BCe := boxOf_grown hgw BCe (Ne.symm (own_ne (own_empty y1 y1.heap.size 3 1 (Nat.le_refl _)) hs)); have hB2 : Below w.heap.size w y2 := (hB.alloc hB.size _).grown hgw (by simp; omega) (fun k e => Nat.le_trans hB.size (own_at (own_empty y1 y1.heap.size 3 1 (Nat.le_refl _)) k e)))
    have L0 : SlAt u a X g 0 w y2 := ⟨⟨cur, hcur, hcl, htake⟩, B1e, BCe, hB2, by omega⟩
    have RS := hide (fun n hn W => rslot_tn u.c o.out.c u.d.it o.out.iit u.d.ly (o.out.f.n _ (by simp [Dt.nums])) n hn W)
    have hSL := hide (fun n h0 h1 => sl_in my.out hly.1 hlx (n := n) h0 h1)
    have hx5 := o.out.c.h5
    clear B1e BCe hcur htake hcl hB2 hown hgw hg
    go_wp2
    go_loopw [7] (fun kv wr => ∃ n : Nat, n ≤ u.c.x5.toNat ∧ kv = .int .i64 n ∧ SlAt u a X g n w wr) (fun kv _ => u.c.x5.toNat - (intOf kv).toNat)
    case atStart => exact ⟨0, Nat.zero_le _, rfl, L0⟩
    case round =>
      obtain ⟨n, hn, rfl, L⟩ := hrel
      clear L0
      have C1 := L.b
      have CC := L.c
      by_cases hlt : n < u.c.x5.toNat
      · have j1 : (n : Int) < u.c.x5 := by omega
        have j0 : (0 : Int) ≤ (n : Int) := Int.natCast_nonneg _
        obtain ⟨k, hk, hkl, hk1, hk2⟩ := hSL.out n j0 j1
        have HL := hide L
        have HK := hide hk
        have R := RS.out n (by unfold I64; omega)
        rw [hk] at R
        clear hk hk1 hk2 L RS hSL
        go_wp2_with fail
        refine (R _).mono ?_
        rintro e w7 ⟨rfl, hb1⟩
        have L1 := HL.out.keep hb1
        obtain ⟨cur2, xx, hc2, hx2⟩ := L1.cell hkl
        have C1' := L1.b
        have L2 := hide (L1.store HK.out)
        have kk0 : (0 : Int) ≤ (k : Int) := Int.natCast_nonneg _
        have kk1 : (k : Int) < (u.ws.length : Int) := by omega
        clear C1 CC R hb1 L1 HL
        go_wp2
        go_roundw
        case rel => exact ⟨n + 1, by omega, by go_num, L2.out⟩
        case measure => simp [intOf]; omega
      · have j1 : ¬ (n : Int) < u.c.x5 := by omega
        obtain rfl : n = u.c.x5.toNat := by omega
        clear RS hSL
        obtain ⟨nw, hnw⟩ : ∃ l, slN u X u.c.x5.toNat = l := ⟨_, rfl⟩
        have HN : Hid (nw.length = u.ws.length) := hide (by rw [← hnw]; exact slN_length _ _ _)
        have inw : ∀ x ∈ nw, I64 x := by rw [← hnw]; exact slN_i64 o.out.ws HIX.out _
        have hdr := dr_lt (u := u) hwd1
        obtain ⟨k, hk, hkl, _, _⟩ := sl_in my.out hly.1 hlx (n := drV u) hdr.1 (by omega)
        have hxk : nw[k]? = some X := by
          have e := slN_at my.out X hly.1 hlx u.c.x5.toNat (by omega) (s := (drV u).toNat) (by omega)
          rw [show (((drV u).toNat : Nat) : Int) = drV u by omega, hk, hnw] at e
          simpa using e
        have E := swp_at (u := ({ u with ws := nw, d := { u.d with ph := 19 } } : Tn)) rfl hk hxk
        rw [if_neg (by show ¬ metB u X = true; rw [HMET.out]; decide)] at E
        have o1 : TnOk ({ u with ws := nw, d := { u.d with ph := 19 } } : Tn) := o.out.ph (ws := nw) (bx := u.bx) (i64_k 19 (by decide)) inw
        have S1h := hide (fun A W (m : TnAt W ({ u with ws := nw, d := { u.d with ph := 19 } } : Tn) A) => cstep_any ({ u with ws := nw, d := { u.d with ph := 19 } } : Tn) A o1 ht hit hly hta.out W m)
        rw [E.1, E.2] at S1h
        have fV : (spnV (swW ({ u with ws := nw, d := { u.d with ph := 19 } } : Tn))).d.ph = 23 ∧ (spnV (swW ({ u with ws := nw, d := { u.d with ph := 19 } } : Tn))).d.lf = u.c.x6 ∧ (spnV (swW ({ u with ws := nw, d := { u.d with ph := 19 } } : Tn))).d.who = u.d.who ∧ (spnV (swW ({ u with ws := nw, d := { u.d with ph := 19 } } : Tn))).d.kl.length = u.d.kl.length := ⟨rfl, rfl, rfl, rfl⟩
        obtain ⟨V, hV⟩ : ∃ v, spnV (swW ({ u with ws := nw, d := { u.d with ph := 19 } } : Tn)) = v := ⟨_, rfl⟩
        rw [hV] at S1h fV
        obtain ⟨fV1, fV2, fV3, fV4⟩ := fV
        have hg := L.g
        have ne1 : ¬ g = w.heap.size := by omega
        have ne2 : ¬ w.heap.size = g := by omega
        obtain ⟨cur, hcur, hcl, htk⟩ := L.row
        rw [hnw] at htk
        have B1e := L.b
        have hB2 := L.lo
        have C1 : boxOf (((wr.setCell ⟨w.heap.size, 14, none⟩ (.slice (some ⟨g, 0, none⟩) u.ws.length cq)).setCell ⟨w.heap.size, 16, none⟩ (.int .i64 19))) w.heap.size = some (tcs ({ u with ws := nw, d := { u.d with ph := 19 } } : Tn) ({ a with mA := some ⟨g, 0, none⟩, mc := cq } : TA)) := by
          have t := boxOf_set _ w.heap.size 16 (.int .i64 19) (boxOf_set _ w.heap.size 14 (.slice (some ⟨g, 0, none⟩) u.ws.length cq) B1e)
          rw [← HN.out, ts14, ts16] at t
          rw [← HN.out]
          exact t
        have hBX : Below w.heap.size w (((wr.setCell ⟨w.heap.size, 14, none⟩ (.slice (some ⟨g, 0, none⟩) u.ws.length cq)).setCell ⟨w.heap.size, 16, none⟩ (.int .i64 19))) := (hB2.setCell (by simp) _).setCell (by simp) _
        have sX : Sees (((wr.setCell ⟨w.heap.size, 14, none⟩ (.slice (some ⟨g, 0, none⟩) u.ws.length cq)).setCell ⟨w.heap.size, 16, none⟩ (.int .i64 19))) (((wr.setCell ⟨w.heap.size, 14, none⟩ (.slice (some ⟨g, 0, none⟩) u.ws.length cq)).setCell ⟨w.heap.size, 16, none⟩ (.int .i64 19))).heap.size 1 (some ⟨g, 0, none⟩) nw.length (nw.map (Value.int .i64)) := by
          have t := sees_take hcur htk HN.out.symm
          exact (t.own1 _ _ _ (fun _ p hp => by cases hp; exact ne1)).own1 _ _ _ (fun _ p hp => by cases hp; exact ne1)
        have hl := h.out.later hBX
        have TX : TnAt (((wr.setCell ⟨w.heap.size, 14, none⟩ (.slice (some ⟨g, 0, none⟩) u.ws.length cq)).setCell ⟨w.heap.size, 16, none⟩ (.int .i64 19))) ({ u with ws := nw, d := { u.d with ph := 19 } } : Tn) ({ a with mA := some ⟨g, 0, none⟩, mc := cq } : TA) := ⟨h.out.m.words_at hBX sX HN.out, hl.bx, ⟨hl.th.b, hl.th.k, hl.th.h⟩, hl.tp, hl.lg⟩
        have TW : tcs ({ u with d := { u.d with ph := 19 } } : Tn) ({ a with mA := some ⟨g, 0, none⟩, mc := cq } : TA) = tcs ({ u with ws := nw, d := { u.d with ph := 19 } } : Tn) ({ a with mA := some ⟨g, 0, none⟩, mc := cq } : TA) := by unfold tcs; rw [HN.out]
        have lX : w.heap.size < (((wr.setCell ⟨w.heap.size, 14, none⟩ (.slice (some ⟨g, 0, none⟩) u.ws.length cq)).setCell ⟨w.heap.size, 16, none⟩ (.int .i64 19))).heap.size := boxOf_lt C1
        have S1 := hide (S1h.out _ _ TX)
        clear sX hl TX htk E o1 S1h inw hV hnw hk hxk CC L hdr
        go_upto_region 13 with fail
        rw [TW] at *
        clear B1e hcur hcl
        generalize (((wr.setCell ⟨w.heap.size, 14, none⟩ (.slice (some ⟨g, 0, none⟩) u.ws.length cq)).setCell ⟨w.heap.size, 16, none⟩ (.int .i64 19))) = yX at *
        go_wp2_with fail
        refine S1.out.mono ?_
        rintro e z1 ⟨a2, rfl, T2, off2, hb1⟩
        replace C1 := boxOf_keep C1 hb1
        replace hBX := below_next hBX hBX.size hb1
        have nb := belowY z1 V a2 38
        have C2 := boxY z1 V a2 38
        replace C1 := boxOf_keep C1 nb
        replace hBX := below_next hBX hBX.size nb
        clear S1 off2 hb1 nb T2
        go_upto_region 14 with fail
        generalize ((z1.alloc (.cells zT.toArray 38)).setCells z1.heap.size 0 (tcs V a2)) = y9 at *
        generalize z1.heap.size = g2 at *
        go_wp2
        go_ret
        exact ⟨ret_b (by simp), hBX⟩
  · subst hX
    clear hw1
    go_upto_region 6 with fail
    clear x1 x2
    obtain ⟨i0, hi0, hz0, hz1, hz2⟩ := info_parts info3
    generalize w4 = y1 at *
    have hfew : u.ws.length ≤ 20000 := h.out.m.few
    have hsu : w.heap.size < y1.heap.size := by omega
    have sw := h.out.m.words.later hB
    have nbE := belowN y1 (.cells #[] 3)
    have B1e := boxOf_keep B1 nbE
    have BCe := boxOf_keep BC nbE
    clear B1 BC
    go_wp2_with (at_builtin; refine wpList_app _ rfl _ _ 24 rfl y1.heap.size 3 i0 _ 1 8 Try.underlying24 hi0 hz0 hz1 hz2 rfl (by omega) _ 0 _ rfl (own_empty y1 _ _ _ (Nat.le_refl _)) _ _ u.ws.length a.mc _ rfl (sw.later nbE) (by simp [Value.oneCell']) (by unfold maxLen; omega) (by omega) (by simp) ?_; intro q y2 hown hgw; rw [Nat.zero_add] at hown; obtain ⟨g, cq, cur, rfl, hg, hcur, hcl, htake⟩ := own_box hfl hown; replace B1e := boxOf_grown hgw B1e (Ne.symm (own_ne (own_empty y1 y1.heap.size 3 1 (Nat.le_refl _)) hsu)); replace BCe := boxOf_grown hgw BCe (Ne.symm (own_ne (own_empty y1 y1.heap.size 3 1 (Nat.le_refl _)) hs)); have hB2 : Below w.heap.size w y2 := (hB.alloc hB.size _).grown hgw (by simp; omega) (fun k e => Nat.le_trans hB.size (own_at (own_empty y1 y1.heap.size 3 1 (Nat.le_refl _)) k e)))
    have L0 : SlAt u a X g 0 w y2 := ⟨⟨cur, hcur, hcl, htake⟩, B1e, BCe, hB2, by omega⟩
    have RS := hide (fun n hn W => rslot_tn u.c o.out.c u.d.it o.out.iit u.d.ly (o.out.f.n _ (by simp [Dt.nums])) n hn W)
    have hSL := hide (fun n h0 h1 => sl_in my.out hly.1 hlx (n := n) h0 h1)
    have hx5 := o.out.c.h5
    clear B1e BCe hcur htake hcl hB2 hown hgw hg
    go_wp2
    go_loopw [7] (fun kv wr => ∃ n : Nat, n ≤ u.c.x5.toNat ∧ kv = .int .i64 n ∧ SlAt u a X g n w wr) (fun kv _ => u.c.x5.toNat - (intOf kv).toNat)
    case atStart => exact ⟨0, Nat.zero_le _, rfl, L0⟩
    case round =>
      obtain ⟨n, hn, rfl, L⟩ := hrel
      clear L0
      have C1 := L.b
      have CC := L.c
      by_cases hlt : n < u.c.x5.toNat
      · have j1 : (n : Int) < u.c.x5 := by omega
        have j0 : (0 : Int) ≤ (n : Int) := Int.natCast_nonneg _
        obtain ⟨k, hk, hkl, hk1, hk2⟩ := hSL.out n j0 j1
        have HL := hide L
        have HK := hide hk
        have R := RS.out n (by unfold I64; omega)
        rw [hk] at R
        clear hk hk1 hk2 L RS hSL
        go_wp2_with fail
        refine (R _).mono ?_
        rintro e w7 ⟨rfl, hb1⟩
        have L1 := HL.out.keep hb1
        obtain ⟨cur2, xx, hc2, hx2⟩ := L1.cell hkl
        have C1' := L1.b
        have L2 := hide (L1.store HK.out)
        have kk0 : (0 : Int) ≤ (k : Int) := Int.natCast_nonneg _
        have kk1 : (k : Int) < (u.ws.length : Int) := by omega
        clear C1 CC R hb1 L1 HL
        go_wp2
        go_roundw
        case rel => exact ⟨n + 1, by omega, by go_num, L2.out⟩
        case measure => simp [intOf]; omega
      · have j1 : ¬ (n : Int) < u.c.x5 := by omega
        obtain rfl : n = u.c.x5.toNat := by omega
        clear RS hSL
        obtain ⟨nw, hnw⟩ : ∃ l, slN u X u.c.x5.toNat = l := ⟨_, rfl⟩
        have HN : Hid (nw.length = u.ws.length) := hide (by rw [← hnw]; exact slN_length _ _ _)
        have inw : ∀ x ∈ nw, I64 x := by rw [← hnw]; exact slN_i64 o.out.ws HIX.out _
        have hdr := dr_lt (u := u) hwd1
        obtain ⟨k, hk, hkl, _, _⟩ := sl_in my.out hly.1 hlx (n := drV u) hdr.1 (by omega)
        have hxk : nw[k]? = some X := by
          have e := slN_at my.out X hly.1 hlx u.c.x5.toNat (by omega) (s := (drV u).toNat) (by omega)
          rw [show (((drV u).toNat : Nat) : Int) = drV u by omega, hk, hnw] at e
          simpa using e
        have E := swp_at (u := ({ u with ws := nw, d := { u.d with ph := 19 } } : Tn)) rfl hk hxk
        rw [if_neg (by show ¬ metB u X = true; rw [HMET.out]; decide)] at E
        have o1 : TnOk ({ u with ws := nw, d := { u.d with ph := 19 } } : Tn) := o.out.ph (ws := nw) (bx := u.bx) (i64_k 19 (by decide)) inw
        have S1h := hide (fun A W (m : TnAt W ({ u with ws := nw, d := { u.d with ph := 19 } } : Tn) A) => cstep_any ({ u with ws := nw, d := { u.d with ph := 19 } } : Tn) A o1 ht hit hly hta.out W m)
        rw [E.1, E.2] at S1h
        have fV : (spnV (swW ({ u with ws := nw, d := { u.d with ph := 19 } } : Tn))).d.ph = 23 ∧ (spnV (swW ({ u with ws := nw, d := { u.d with ph := 19 } } : Tn))).d.lf = u.c.x6 ∧ (spnV (swW ({ u with ws := nw, d := { u.d with ph := 19 } } : Tn))).d.who = u.d.who ∧ (spnV (swW ({ u with ws := nw, d := { u.d with ph := 19 } } : Tn))).d.kl.length = u.d.kl.length := ⟨rfl, rfl, rfl, rfl⟩
        obtain ⟨V, hV⟩ : ∃ v, spnV (swW ({ u with ws := nw, d := { u.d with ph := 19 } } : Tn)) = v := ⟨_, rfl⟩
        rw [hV] at S1h fV
        obtain ⟨fV1, fV2, fV3, fV4⟩ := fV
        have hg := L.g
        have ne1 : ¬ g = w.heap.size := by omega
        have ne2 : ¬ w.heap.size = g := by omega
        obtain ⟨cur, hcur, hcl, htk⟩ := L.row
        rw [hnw] at htk
        have B1e := L.b
        have hB2 := L.lo
        have C1 : boxOf (((wr.setCell ⟨w.heap.size, 14, none⟩ (.slice (some ⟨g, 0, none⟩) u.ws.length cq)).setCell ⟨w.heap.size, 16, none⟩ (.int .i64 19))) w.heap.size = some (tcs ({ u with ws := nw, d := { u.d with ph := 19 } } : Tn) ({ a with mA := some ⟨g, 0, none⟩, mc := cq } : TA)) := by
          have t := boxOf_set _ w.heap.size 16 (.int .i64 19) (boxOf_set _ w.heap.size 14 (.slice (some ⟨g, 0, none⟩) u.ws.length cq) B1e)
          rw [← HN.out, ts14, ts16] at t
          rw [← HN.out]
          exact t
        have hBX : Below w.heap.size w (((wr.setCell ⟨w.heap.size, 14, none⟩ (.slice (some ⟨g, 0, none⟩) u.ws.length cq)).setCell ⟨w.heap.size, 16, none⟩ (.int .i64 19))) := (hB2.setCell (by simp) _).setCell (by simp) _
        have sX : Sees (((wr.setCell ⟨w.heap.size, 14, none⟩ (.slice (some ⟨g, 0, none⟩) u.ws.length cq)).setCell ⟨w.heap.size, 16, none⟩ (.int .i64 19))) (((wr.setCell ⟨w.heap.size, 14, none⟩ (.slice (some ⟨g, 0, none⟩) u.ws.length cq)).setCell ⟨w.heap.size, 16, none⟩ (.int .i64 19))).heap.size 1 (some ⟨g, 0, none⟩) nw.length (nw.map (Value.int .i64)) := by
          have t := sees_take hcur htk HN.out.symm
          exact (t.own1 _ _ _ (fun _ p hp => by cases hp; exact ne1)).own1 _ _ _ (fun _ p hp => by cases hp; exact ne1)
        have hl := h.out.later hBX
        have TX : TnAt (((wr.setCell ⟨w.heap.size, 14, none⟩ (.slice (some ⟨g, 0, none⟩) u.ws.length cq)).setCell ⟨w.heap.size, 16, none⟩ (.int .i64 19))) ({ u with ws := nw, d := { u.d with ph := 19 } } : Tn) ({ a with mA := some ⟨g, 0, none⟩, mc := cq } : TA) := ⟨h.out.m.words_at hBX sX HN.out, hl.bx, ⟨hl.th.b, hl.th.k, hl.th.h⟩, hl.tp, hl.lg⟩
        have TW : tcs ({ u with d := { u.d with ph := 19 } } : Tn) ({ a with mA := some ⟨g, 0, none⟩, mc := cq } : TA) = tcs ({ u with ws := nw, d := { u.d with ph := 19 } } : Tn) ({ a with mA := some ⟨g, 0, none⟩, mc := cq } : TA) := by unfold tcs; rw [HN.out]
        have lX : w.heap.size < (((wr.setCell ⟨w.heap.size, 14, none⟩ (.slice (some ⟨g, 0, none⟩) u.ws.length cq)).setCell ⟨w.heap.size, 16, none⟩ (.int .i64 19))).heap.size := boxOf_lt C1
        have S1 := hide (S1h.out _ _ TX)
        clear sX hl TX htk E o1 S1h inw hV hnw hk hxk CC L hdr
        go_upto_region 13 with fail
        rw [TW] at *
        clear B1e hcur hcl
        generalize (((wr.setCell ⟨w.heap.size, 14, none⟩ (.slice (some ⟨g, 0, none⟩) u.ws.length cq)).setCell ⟨w.heap.size, 16, none⟩ (.int .i64 19))) = yX at *
        go_wp2_with fail
        refine S1.out.mono ?_
        rintro e z1 ⟨a2, rfl, T2, off2, hb1⟩
        replace C1 := boxOf_keep C1 hb1
        replace hBX := below_next hBX hBX.size hb1
        have nb := belowY z1 V a2 38
        have C2 := boxY z1 V a2 38
        replace C1 := boxOf_keep C1 nb
        replace hBX := below_next hBX hBX.size nb
        clear S1 off2 hb1 nb T2
        go_upto_region 14 with fail
        generalize ((z1.alloc (.cells zT.toArray 38)).setCells z1.heap.size 0 (tcs V a2)) = y9 at *
        generalize z1.heap.size = g2 at *
        go_wp2
        go_ret
        exact ⟨ret_b (by simp), hBX⟩
  · subst hX
    clear hw1
    go_upto_region 6 with fail
    clear x1
    obtain ⟨i0, hi0, hz0, hz1, hz2⟩ := info_parts info3
    generalize w4 = y1 at *
    have hfew : u.ws.length ≤ 20000 := h.out.m.few
    have hsu : w.heap.size < y1.heap.size := by omega
    have sw := h.out.m.words.later hB
    have nbE := belowN y1 (.cells #[] 3)
    have B1e := boxOf_keep B1 nbE
    have BCe := boxOf_keep BC nbE
    clear B1 BC
    go_wp2_with (at_builtin; refine wpList_app _ rfl _ _ 24 rfl y1.heap.size 3 i0 _ 1 8 Try.underlying24 hi0 hz0 hz1 hz2 rfl (by omega) _ 0 _ rfl (own_empty y1 _ _ _ (Nat.le_refl _)) _ _ u.ws.length a.mc _ rfl (sw.later nbE) (by simp [Value.oneCell']) (by unfold maxLen; omega) (by omega) (by simp) ?_; intro q y2 hown hgw; rw [Nat.zero_add] at hown; obtain ⟨g, cq, cur, rfl, hg, hcur, hcl, htake⟩ := own_box hfl hown; replace B1e := boxOf_grown hgw B1e (Ne.symm (own_ne (own_empty y1 y1.heap.size 3 1 (Nat.le_refl _)) hsu)); replace BCe := boxOf_grown hgw BCe (Ne.symm (own_ne (own_empty y1 y1.heap.size 3 1 (Nat.le_refl _)) hs)); have hB2 : Below w.heap.size w y2 := (hB.alloc hB.size _).grown hgw (by simp; omega) (fun k e => Nat.le_trans hB.size (own_at (own_empty y1 y1.heap.size 3 1 (Nat.le_refl _)) k e)))
    have L0 : SlAt u a X g 0 w y2 := ⟨⟨cur, hcur, hcl, htake⟩, B1e, BCe, hB2, by omega⟩
    have RS := hide (fun n hn W => rslot_tn u.c o.out.c u.d.it o.out.iit u.d.ly (o.out.f.n _ (by simp [Dt.nums])) n hn W)
    have hSL := hide (fun n h0 h1 => sl_in my.out hly.1 hlx (n := n) h0 h1)
    have hx5 := o.out.c.h5
    clear B1e BCe hcur htake hcl hB2 hown hgw hg
    go_wp2
    go_loopw [7] (fun kv wr => ∃ n : Nat, n ≤ u.c.x5.toNat ∧ kv = .int .i64 n ∧ SlAt u a X g n w wr) (fun kv _ => u.c.x5.toNat - (intOf kv).toNat)
    case atStart => exact ⟨0, Nat.zero_le _, rfl, L0⟩
    case round =>
      obtain ⟨n, hn, rfl, L⟩ := hrel
      clear L0
      have C1 := L.b
      have CC := L.c
      by_cases hlt : n < u.c.x5.toNat
      · have j1 : (n : Int) < u.c.x5 := by omega
        have j0 : (0 : Int) ≤ (n : Int) := Int.natCast_nonneg _
        obtain ⟨k, hk, hkl, hk1, hk2⟩ := hSL.out n j0 j1
        have HL := hide L
        have HK := hide hk
        have R := RS.out n (by unfold I64; omega)
        rw [hk] at R
        clear hk hk1 hk2 L RS hSL
        go_wp2_with fail
        refine (R _).mono ?_
        rintro e w7 ⟨rfl, hb1⟩
        have L1 := HL.out.keep hb1
        obtain ⟨cur2, xx, hc2, hx2⟩ := L1.cell hkl
        have C1' := L1.b
        have L2 := hide (L1.store HK.out)
        have kk0 : (0 : Int) ≤ (k : Int) := Int.natCast_nonneg _
        have kk1 : (k : Int) < (u.ws.length : Int) := by omega
        clear C1 CC R hb1 L1 HL
        go_wp2
        go_roundw
        case rel => exact ⟨n + 1, by omega, by go_num, L2.out⟩
        case measure => simp [intOf]; omega
      · have j1 : ¬ (n : Int) < u.c.x5 := by omega
        obtain rfl : n = u.c.x5.toNat := by omega
        clear RS hSL
        obtain ⟨nw, hnw⟩ : ∃ l, slN u X u.c.x5.toNat = l := ⟨_, rfl⟩
        have HN : Hid (nw.length = u.ws.length) := hide (by rw [← hnw]; exact slN_length _ _ _)
        have inw : ∀ x ∈ nw, I64 x := by rw [← hnw]; exact slN_i64 o.out.ws HIX.out _
        have hdr := dr_lt (u := u) hwd1
        obtain ⟨k, hk, hkl, _, _⟩ := sl_in my.out hly.1 hlx (n := drV u) hdr.1 (by omega)
        have hxk : nw[k]? = some X := by
          have e := slN_at my.out X hly.1 hlx u.c.x5.toNat (by omega) (s := (drV u).toNat) (by omega)
          rw [show (((drV u).toNat : Nat) : Int) = drV u by omega, hk, hnw] at e
          simpa using e
        have E := swp_at (u := ({ u with ws := nw, d := { u.d with ph := 19 } } : Tn)) rfl hk hxk
        rw [if_neg (by show ¬ metB u X = true; rw [HMET.out]; decide)] at E
        have o1 : TnOk ({ u with ws := nw, d := { u.d with ph := 19 } } : Tn) := o.out.ph (ws := nw) (bx := u.bx) (i64_k 19 (by decide)) inw
        have S1h := hide (fun A W (m : TnAt W ({ u with ws := nw, d := { u.d with ph := 19 } } : Tn) A) => cstep_any ({ u with ws := nw, d := { u.d with ph := 19 } } : Tn) A o1 ht hit hly hta.out W m)
        rw [E.1, E.2] at S1h
        have fV : (spnV (swW ({ u with ws := nw, d := { u.d with ph := 19 } } : Tn))).d.ph = 23 ∧ (spnV (swW ({ u with ws := nw, d := { u.d with ph := 19 } } : Tn))).d.lf = u.c.x6 ∧ (spnV (swW ({ u with ws := nw, d := { u.d with ph := 19 } } : Tn))).d.who = u.d.who ∧ (spnV (swW ({ u with ws := nw, d := { u.d with ph := 19 } } : Tn))).d.kl.length = u.d.kl.length := ⟨rfl, rfl, rfl, rfl⟩
        obtain ⟨V, hV⟩ : ∃ v, spnV (swW ({ u with ws := nw, d := { u.d with ph := 19 } } : Tn)) = v := ⟨_, rfl⟩
        rw [hV] at S1h fV
        obtain ⟨fV1, fV2, fV3, fV4⟩ := fV
        have hg := L.g
        have ne1 : ¬ g = w.heap.size := by omega
        have ne2 : ¬ w.heap.size = g := by omega
        obtain ⟨cur, hcur, hcl, htk⟩ := L.row
        rw [hnw] at htk
        have B1e := L.b
        have hB2 := L.lo
        have C1 : boxOf (((wr.setCell ⟨w.heap.size, 14, none⟩ (.slice (some ⟨g, 0, none⟩) u.ws.length cq)).setCell ⟨w.heap.size, 16, none⟩ (.int .i64 19))) w.heap.size = some (tcs ({ u with ws := nw, d := { u.d with ph := 19 } } : Tn) ({ a with mA := some ⟨g, 0, none⟩, mc := cq } : TA)) := by
          have t := boxOf_set _ w.heap.size 16 (.int .i64 19) (boxOf_set _ w.heap.size 14 (.slice (some ⟨g, 0, none⟩) u.ws.length cq) B1e)
          rw [← HN.out, ts14, ts16] at t
          rw [← HN.out]
          exact t
        have hBX : Below w.heap.size w (((wr.setCell ⟨w.heap.size, 14, none⟩ (.slice (some ⟨g, 0, none⟩) u.ws.length cq)).setCell ⟨w.heap.size, 16, none⟩ (.int .i64 19))) := (hB2.setCell (by simp) _).setCell (by simp) _
        have sX : Sees (((wr.setCell ⟨w.heap.size, 14, none⟩ (.slice (some ⟨g, 0, none⟩) u.ws.length cq)).setCell ⟨w.heap.size, 16, none⟩ (.int .i64 19))) (((wr.setCell ⟨w.heap.size, 14, none⟩ (.slice (some ⟨g, 0, none⟩) u.ws.length cq)).setCell ⟨w.heap.size, 16, none⟩ (.int .i64 19))).heap.size 1 (some ⟨g, 0, none⟩) nw.length (nw.map (Value.int .i64)) := by
          have t := sees_take hcur htk HN.out.symm
          exact (t.own1 _ _ _ (fun _ p hp => by cases hp; exact ne1)).own1 _ _ _ (fun _ p hp => by cases hp; exact ne1)
        have hl := h.out.later hBX
        have TX : TnAt (((wr.setCell ⟨w.heap.size, 14, none⟩ (.slice (some ⟨g, 0, none⟩) u.ws.length cq)).setCell ⟨w.heap.size, 16, none⟩ (.int .i64 19))) ({ u with ws := nw, d := { u.d with ph := 19 } } : Tn) ({ a with mA := some ⟨g, 0, none⟩, mc := cq } : TA) := ⟨h.out.m.words_at hBX sX HN.out, hl.bx, ⟨hl.th.b, hl.th.k, hl.th.h⟩, hl.tp, hl.lg⟩
        have TW : tcs ({ u with d := { u.d with ph := 19 } } : Tn) ({ a with mA := some ⟨g, 0, none⟩, mc := cq } : TA) = tcs ({ u with ws := nw, d := { u.d with ph := 19 } } : Tn) ({ a with mA := some ⟨g, 0, none⟩, mc := cq } : TA) := by unfold tcs; rw [HN.out]
        have lX : w.heap.size < (((wr.setCell ⟨w.heap.size, 14, none⟩ (.slice (some ⟨g, 0, none⟩) u.ws.length cq)).setCell ⟨w.heap.size, 16, none⟩ (.int .i64 19))).heap.size := boxOf_lt C1
        have S1 := hide (S1h.out _ _ TX)
        clear sX hl TX htk E o1 S1h inw hV hnw hk hxk CC L hdr
        go_upto_region 13 with fail
        rw [TW] at *
        clear B1e hcur hcl
        generalize (((wr.setCell ⟨w.heap.size, 14, none⟩ (.slice (some ⟨g, 0, none⟩) u.ws.length cq)).setCell ⟨w.heap.size, 16, none⟩ (.int .i64 19))) = yX at *
        go_wp2_with fail
        refine S1.out.mono ?_
        rintro e z1 ⟨a2, rfl, T2, off2, hb1⟩
        replace C1 := boxOf_keep C1 hb1
        replace hBX := below_next hBX hBX.size hb1
        have nb := belowY z1 V a2 38
        have C2 := boxY z1 V a2 38
        replace C1 := boxOf_keep C1 nb
        replace hBX := below_next hBX hBX.size nb
        clear S1 off2 hb1 nb T2
        go_upto_region 14 with fail
        generalize ((z1.alloc (.cells zT.toArray 38)).setCells z1.heap.size 0 (tcs V a2)) = y9 at *
        generalize z1.heap.size = g2 at *
        go_wp2
        go_ret
        exact ⟨ret_b (by simp), hBX⟩
end Go.Proofs.Ytjghdbkkjhnpfaa
