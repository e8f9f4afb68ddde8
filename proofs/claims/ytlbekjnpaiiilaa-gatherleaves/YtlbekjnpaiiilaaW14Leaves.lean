/- The walk of GatherLeaves. -/
import Derived.Test.YtlbekjnpaiiilaaW14Base
import Derived.Test.YtlbekjnpaiiilaaItsN
import Derived.Test.YtlbekjnpaiiilaaAlk
import Derived.Test.YtlbekjnpaiiilaaM4
import Derived.Test.YtlbekjnpaiiilaaM1
import Derived.Lib.QuietBelow
import Derived.Deep.QuietTactic
import Derived.BigQuiet
import Derived.Deep.RegionHeld3
import Derived.Deep.Cut
namespace Go.Proofs.Ytlbekjnpaiiilaa
open Go.RowKit Go.Sort
set_option linter.unusedVariables false
set_option linter.unusedSimpArgs false

theorem pub_at {u : Tn} {t : Nat} (ht : u.tt = (t : Int)) (hl : t < u.bx.length) : pubG u = { u with bx := u.bx.set t u.d.bl, d := { u.d with ph := 12 } } := by
  rw [pubG, ht, erV_at hl, if_pos rfl, ptV_at _ hl]
theorem keepL {w W W' : World} {g gk gz b1 o1 b2 o2 : Nat} {cs ds es : List Value} {x1 x2 : Value} (h : boxOf W g = some cs ∧ boxOf W gk = some ds ∧ boxOf W gz = some es ∧ W.cell? ⟨b1, o1, none⟩ = some x1 ∧ W.cell? ⟨b2, o2, none⟩ = some x2 ∧ Below w.heap.size w W) (hb : Below W.heap.size W W') : boxOf W' g = some cs ∧ boxOf W' gk = some ds ∧ boxOf W' gz = some es ∧ W'.cell? ⟨b1, o1, none⟩ = some x1 ∧ W'.cell? ⟨b2, o2, none⟩ = some x2 ∧ Below w.heap.size w W' := ⟨boxOf_keep h.1 hb, boxOf_keep h.2.1 hb, boxOf_keep h.2.2.1 hb, cell_keep h.2.2.2.1 hb, cell_keep h.2.2.2.2.1 hb, below_next h.2.2.2.2.2 h.2.2.2.2.2.size hb⟩
theorem dep_at {u : Tn} {k : Nat} (hk : stP u = (k : Int)) (hl : k < u.ws.length) : depG u = { u with ws := u.ws.set k (frV 3 u.tt), d := { u.d with ph := 13 } } := by
  rw [depG, if_pos (er_in hk hl), hk, stV_at _ hl]
attribute [local irreducible] tcs thc ccs zT
attribute [local go_sem ↓] alTn_is alRn_is
attribute [local go_sem] run_alTnf run_alTnt run_alRnf run_alRnt zT_length
attribute [local go_sem ↓] lbTn_is lbRn_is lbTh_is lbRh_is lbCf_is lbRc_is sbTn_is sbRn_is sbTh_is sbRh_is sbCf_is sbRc_is
attribute [local go_sem] run_lbTn run_lbRn run_lbTh run_lbRh run_lbCf run_lbRc run_sbTn run_sbRn run_sbTh run_sbRh run_sbCf run_sbRc
attribute [local go_sem 2000] boxOf_old'
attribute [local go_sem] boxOf_at' boxOf_free' boxOf_alloc objBox_cells objBox_cellsA boxOf_drew boxOf_setI boxOf_setsI size_sets tcs_length thc_length ccs_length tcs_one thc_one ccs_one sub_tn sub_th sub_cf sub_thAll sub_cfAll put_turn put_thread
attribute [local go_sem] tc0 tc1 tc2 tc3 tc4 tc5 tc6 tc7 tc8 tc9 tc10 tc11 tc12 tc13 tc14 tc15 tc16 tc17 tc18 tc19 tc20 tc21 tc22 tc23 tc24 tc25 tc26 tc27 tc28 tc29 tc30 tc31 tc32 tc33 tc34 tc35 tc36 hc0 hc1 hc2 hc3 hc4 hc5 hc6 hc7 hc8 hc9 hc10 hc11 hc12 hc13 hc14 hc15 hc16 kc0 kc1 kc2 kc3 kc4 kc5 kc6 kc7 kc8 kc9 kc10 kc11 tg0 tg1 tg2 tg3 tg4 tg5 tg6 tg7 tg8 tg9 tg10 tg11 tg12 tg13 tg14 tg15 tg16 tg17 tg18 tg19 tg20 tg21 tg22 tg23 tg24 tg25 tg26 tg27 tg28 tg29 tg30 tg31 tg32 tg33 tg34 tg35 tg36 hg0 hg1 hg2 hg3 hg4 hg5 hg6 hg7 hg8 hg9 hg10 hg11 hg12 hg13 hg14 hg15 hg16 kg0 kg1 kg2 kg3 kg4 kg5 kg6 kg7 kg8 kg9 kg10 kg11
attribute [local go_sem] ts12 ts13 ts14 ts16 ts17 ts18 ts19 ts20 ts21 ts22 ts23 ts24 ts25 ts26 ts27 ts28 ts29 ts30 ts31 ts32 ts33 ts34 ts35 ts36 ts15 hs0 hs1 hs2 hs3 hs7 hs8 hs9 hs10 hs11 hs12 hs13 hs14 hs15 hs16

attribute [local irreducible] zC zH
attribute [local go_sem ↓] alCf_is alRc_is alTh_is
attribute [local go_sem] run_alCf run_alRc run_alTh zC_length zH_length put_conf put_thrd
set_option maxRecDepth 100000 in
set_option maxHeartbeats 4000000 in
theorem leaves_walk (u : Tn) (a : TA) (w : World) (hi : TnIn w u a) : Calls Try.prog 6 #[.agg (tcs u a).toArray] w (BoolPost true w) := by
  have B1 : boxOf (((w.alloc (.cells (tcs u a).toArray 38)).alloc (.cells zC.toArray 40)).setCells (w.heap.size + 1) 0 (ccs u.c)) w.heap.size = some (tcs u a) := by simp [go_sem]
  have BC : boxOf (((w.alloc (.cells (tcs u a).toArray 38)).alloc (.cells zC.toArray 40)).setCells (w.heap.size + 1) 0 (ccs u.c)) (w.heap.size + 1) = some (ccs u.c) := by simp [go_sem]
  have hs : w.heap.size + 1 < (((w.alloc (.cells (tcs u a).toArray 38)).alloc (.cells zC.toArray 40)).setCells (w.heap.size + 1) 0 (ccs u.c)).heap.size := by simp [size_sets]
  have hB : Below w.heap.size w (((w.alloc (.cells (tcs u a).toArray 38)).alloc (.cells zC.toArray 40)).setCells (w.heap.size + 1) 0 (ccs u.c)) := below_sets _ (by omega) _ _ _ _ ((belowN w _).alloc (by simp) _)
  go_enter Try.func6, Try.ntmps6
  go_wp2_with fail
  generalize (((w.alloc (.cells (tcs u a).toArray 38)).alloc (.cells zC.toArray 40)).setCells (w.heap.size + 1) 0 (ccs u.c)) = wz at *
  refine (may_any u a _).mono ?_
  rintro e w1 ⟨r, rfl, hr, hb1⟩
  replace B1 := boxOf_keep B1 hb1
  replace BC := boxOf_keep BC hb1
  replace hs := Nat.lt_of_lt_of_le hs hb1.size
  replace hB := below_next hB hB.size hb1
  clear hb1
  cases r with
  | false =>
    clear hr
    go_wp2_with fail
    refine (big_tn u a _ (hi.m.later hB)).mono ?_
    rintro e w2 ⟨r, rfl, _, hb1⟩
    replace B1 := boxOf_keep B1 hb1
    replace BC := boxOf_keep BC hb1
    replace hs := Nat.lt_of_lt_of_le hs hb1.size
    replace hB := below_next hB hB.size hb1
    clear hb1
    cases r with
    | true =>
      go_wp2_with (go_at_call 9; refine (shown_any _).mono ?_; rintro e ws ⟨rfl, hbs⟩; replace hB := below_next hB hB.size hbs; clear hbs)
      go_ret
      exact ⟨ret_b (by simp), hB⟩
    | false =>
      go_wp2_with (go_at_call 9; refine (shown_any _).mono ?_; rintro e ws ⟨rfl, hbs⟩; replace hB := below_next hB hB.size hbs; clear hbs)
      go_ret
      exact ⟨ret_b (by simp), hB⟩
  | true =>
  have my := hide (hr rfl)
  clear hr
  have okc := ok_my my.out
  have RC := fun W => rnode_tn u.c okc u.d.it (hi.f.n _ (by simp [Dt.nums])) u.d.st (hi.f.n _ (by simp [Dt.nums])) W
  have ht := tt_my my.out okc
  have hsg := np_sign u.c okc u.d.it u.d.st
  have hin := hide (fun h => node_inG my.out u.d.st h)
  have HNP := hide (show npV u.c u.d.it u.d.st = stP u from rfl)
  obtain ⟨np, hnp⟩ : ∃ x, npV u.c u.d.it u.d.st = x := ⟨_, rfl⟩
  rw [hnp] at RC hsg hin HNP
  replace RC := hide RC
  clear hnp okc
  go_wp2_with fail
  refine (RC.out _).mono ?_
  rintro e w2 ⟨rfl, hb1⟩
  replace B1 := boxOf_keep B1 hb1
  replace BC := boxOf_keep BC hb1
  replace hs := Nat.lt_of_lt_of_le hs hb1.size
  replace hB := below_next hB hB.size hb1
  clear hb1
  clear RC
  go_wp2_with fail
  refine (big_tn u a _ (hi.m.later hB)).mono ?_
  rintro e w3 ⟨r, rfl, hr, hb1⟩
  replace B1 := boxOf_keep B1 hb1
  replace BC := boxOf_keep BC hb1
  replace hs := Nat.lt_of_lt_of_le hs hb1.size
  replace hB := below_next hB hB.size hb1
  clear hb1
  cases r with
  | true =>
    clear hsg
    go_wp2_with (go_at_call 9; refine (shown_any _).mono ?_; rintro e ws ⟨rfl, hbs⟩; replace hB := below_next hB hB.size hbs; clear hbs)
    go_ret
    exact ⟨ret_b (by simp), hB⟩
  | false =>
  have sm := hide (hr rfl)
  clear hr
  rcases hsg with hsg | hsg
  · subst hsg
    go_wp2_with (go_at_call 9; refine (shown_any _).mono ?_; rintro e ws ⟨rfl, hbs⟩; replace hB := below_next hB hB.size hbs; clear hbs)
    go_ret
    exact ⟨ret_b (by simp), hB⟩
  obtain ⟨k, rfl, hkl⟩ := hin.out hsg
  have h := hide (hi.at sm.out)
  have o := hide (hi.ok sm.out my.out)
  have kk0 : (0 : Int) ≤ (k : Int) := Int.natCast_nonneg _
  have kk1 : (k : Int) < (u.ws.length : Int) := by omega
  have HKL := hide hkl
  clear hin hsg hkl hi
  go_wp2_with fail
  refine (shown_any _).mono ?_
  rintro e w4 ⟨rfl, hb1⟩
  replace B1 := boxOf_keep B1 hb1
  replace BC := boxOf_keep BC hb1
  replace hs := Nat.lt_of_lt_of_le hs hb1.size
  replace hB := below_next hB hB.size hb1
  clear hb1
  obtain ⟨t, htn⟩ : ∃ t : Nat, u.tt = (t : Int) := ⟨u.tt.toNat, by omega⟩
  have htl : t < a.bs.length := by have := my.out.b; have := my.out.t1; omega
  have hbl := hide (show u.bx.length = a.bs.length by rw [← h.out.bx, boxes_length])
  have E1 : stepG ({ u with d := { u.d with ph := 11 } } : Tn) = { u with bx := u.bx.set t u.d.bl, d := { u.d with ph := 12 } } := by
    rw [stepG11 rfl, pub_at (u := ({ u with d := { u.d with ph := 11 } } : Tn)) (t := t) htn (show t < u.bx.length by have := hbl.out; omega)]
  obtain ⟨nb, hnb⟩ : ∃ l, u.bx.set t u.d.bl = l := ⟨_, rfl⟩
  rw [hnb] at E1
  have HNB := hide hnb
  obtain ⟨dv, hdv⟩ : ∃ x, frV 3 u.tt = x := ⟨_, rfl⟩
  have KD := fun W => deposited_any u.tt ht W
  have idv := fr_i64 (k := 3) (by decide) ht
  have E2 : stepG ({ u with bx := nb, d := { u.d with ph := 12 } } : Tn) = { u with bx := nb, ws := u.ws.set k (frV 3 u.tt), d := { u.d with ph := 13 } } := by
    rw [stepG12 rfl, dep_at (u := ({ u with bx := nb, d := { u.d with ph := 12 } } : Tn)) (k := k) HNP.out.symm HKL.out]
  rw [hdv] at KD idv E2
  replace KD := hide KD
  obtain ⟨nw, hnw⟩ : ∃ l, u.ws.set k dv = l := ⟨_, rfl⟩
  rw [hnw] at E2
  have HNW := hide hnw
  have HN := hide (show nw.length = u.ws.length by rw [← hnw]; simp)
  have I1 : isG ({ u with d := { u.d with ph := 11 } } : Tn) = true := isG_of (show (7 : Int) ≤ 11 ∧ (11 : Int) ≤ 12 by decide)
  have I2 : isG ({ u with bx := nb, d := { u.d with ph := 12 } } : Tn) = true := isG_of (show (7 : Int) ≤ 12 ∧ (12 : Int) ≤ 12 by decide)
  have o1 : TnOk ({ u with d := { u.d with ph := 11 } } : Tn) := o.out.ph (ws := u.ws) (bx := u.bx) (i64_k 11 (by decide)) o.out.ws
  have o2 : TnOk ({ u with bx := nb, d := { u.d with ph := 12 } } : Tn) := o.out.ph (ws := u.ws) (bx := nb) (i64_k 12 (by decide)) o.out.ws
  clear hnb hdv hnw
  have TX : TnAt (w4.setCell ⟨w.heap.size, 16, none⟩ (.int .i64 11)) ({ u with d := { u.d with ph := 11 } } : Tn) a := (show Lk u ({ u with d := { u.d with ph := 11 } } : Tn) from ⟨rfl, rfl, rfl, rfl, rfl, rfl, rfl⟩).at (h.out.later (hB.setCell (by simp) _))
  have D1 : boxOf (w4.setCell ⟨w.heap.size, 16, none⟩ (.int .i64 11)) w.heap.size = some (tcs ({ u with d := { u.d with ph := 11 } } : Tn) a) := (boxOf_set _ _ 16 _ B1).trans (congrArg some (ts16 _ _ _))
  have hBX : Below w.heap.size w (w4.setCell ⟨w.heap.size, 16, none⟩ (.int .i64 11)) := hB.setCell (by simp) _
  have hsX : w.heap.size < (w4.setCell ⟨w.heap.size, 16, none⟩ (.int .i64 11)).heap.size := by simp; omega
  have S1 := gstep_any ({ u with d := { u.d with ph := 11 } } : Tn) a o1 ht _ TX
  rw [E1, I1] at S1
  have S2h := hide (fun A W (m : TnAt W ({ u with bx := nb, d := { u.d with ph := 12 } } : Tn) A) => gstep_any ({ u with bx := nb, d := { u.d with ph := 12 } } : Tn) A o2 ht W m)
  rw [E2, I2] at S2h
  replace S1 := hide S1
  replace htn := hide htn
  clear E1 I1 o1 TX E2 I2 o2 idv
  go_wp2_with fail
  generalize (w4.setCell ⟨w.heap.size, 16, none⟩ (.int .i64 11)) = y4 at *
  clear B1 BC hs hB
  refine S1.out.mono ?_
  rintro e z1 ⟨a2, rfl, T2, _, hb1⟩
  have nb2 := belowY z1 ({ u with bx := nb, d := { u.d with ph := 12 } } : Tn) a2 38
  have D2 := boxY z1 ({ u with bx := nb, d := { u.d with ph := 12 } } : Tn) a2 38
  replace D1 := boxOf_keep (boxOf_keep D1 hb1) nb2
  replace hBX := below_next (below_next hBX hBX.size hb1) (below_next hBX hBX.size hb1).size nb2
  replace hsX := Nat.lt_of_lt_of_le hsX (Nat.le_trans hb1.size (Nat.le_trans (Nat.le_refl _) nb2.size))
  have S2 := hide (S2h.out a2 _ (T2.later nb2))
  clear S1 hb1 nb2 T2 S2h
  go_wp2_with fail
  generalize ((z1.alloc (.cells zT.toArray 38)).setCells z1.heap.size 0 (tcs ({ u with bx := nb, d := { u.d with ph := 12 } } : Tn) a2)) = y5 at *
  generalize z1.heap.size = g2 at *
  refine S2.out.mono ?_
  rintro e z2 ⟨a3, rfl, T3, _, hb1⟩
  have l1 := boxOf_lt (boxOf_keep D1 hb1)
  have l2 := boxOf_lt (boxOf_keep D2 hb1)
  have nz1 : ¬ z2.heap.size = w.heap.size := by omega
  have nz2 : ¬ w.heap.size = z2.heap.size := by omega
  have nz3 : ¬ z2.heap.size = g2 := by omega
  have nz4 : ¬ g2 = z2.heap.size := by omega
  clear l1 l2
  have nb2 := belowY z2 ({ u with bx := nb, ws := nw, d := { u.d with ph := 13 } } : Tn) a3 38
  have D3 := boxY z2 ({ u with bx := nb, ws := nw, d := { u.d with ph := 13 } } : Tn) a3 38
  replace D1 := boxOf_keep (boxOf_keep D1 hb1) nb2
  replace D2 := boxOf_keep (boxOf_keep D2 hb1) nb2
  replace hBX := below_next (below_next hBX hBX.size hb1) (below_next hBX hBX.size hb1).size nb2
  have T3' := hide (T3.later nb2)
  clear S2 hb1 nb2 T3
  go_upto_region 10 with fail
  generalize ((z2.alloc (.cells zT.toArray 38)).setCells z2.heap.size 0 (tcs ({ u with bx := nb, ws := nw, d := { u.d with ph := 13 } } : Tn) a3)) = y6 at *
  generalize z2.heap.size = g3 at *
  have hbx3 : boxes a3.bs = nb := T3'.out.bx
  have hlen3 : a3.bs.length = a.bs.length := by rw [← boxes_length, hbx3, ← HNB.out, List.length_set]; exact hbl.out
  obtain ⟨q, hq⟩ : ∃ q, a3.bs[t]? = some q := ⟨a3.bs[t]'(by omega), List.getElem?_eq_getElem _⟩
  have hql : q.l = u.d.bl := by
    have h1 : (boxes a3.bs)[t]? = some q.l := boxes_at hq
    rw [hbx3, ← HNB.out, List.getElem?_set_self (by have := hbl.out; omega)] at h1
    exact (Option.some.inj h1).symm
  have sq : Sees y6 y6.heap.size 3 q.A q.l.length (ecells q.l) := T3'.out.m.each q (List.mem_of_getElem? hq)
  obtain ⟨bB, oB, eB, _, cB⟩ := T3'.out.m.bxs.2 (show 0 < a3.bs.length by omega)
  have cq := cB t q.val (by simp [hq])
  have sw3 := T3'.out.m.words
  obtain ⟨bA, oA, eA, _, cA⟩ := sw3.2 (by show 0 < nw.length; have := HN.out; have := HKL.out; omega)
  obtain ⟨b0, o0, e0, _, c0⟩ := (h.out.m.words.later hBX).2 (by have := HKL.out; omega)
  have hbs : u.d.bl.length ≤ 20 := sm.out.2.2.2.1
  obtain ⟨qA, qc, ql⟩ := q
  simp only [Bt.val] at cq hql sq
  subst hql
  have sb := hide (h.out.th.b.later hBX)
  replace sq := hide sq
  have hc0 := hide c0
  have hcA := hide cA
  have HLEN := hide hlen3
  have t1 : (t : Int) < (a3.bs.length : Int) := by omega
  have t0 : (0 : Int) ≤ (t : Int) := Int.natCast_nonneg _
  have bw1 : ((a3.bs.length : Int) != (a.bs.length : Int)) = false := by rw [hlen3]; simp
  have bw2 : ((nw.length : Int) != (u.ws.length : Int)) = false := by rw [HN.out]; simp
  have bw3 : decide ((100 : Int) < (u.d.bl.length : Int)) = false := by simp; omega
  have hfew := h.out.m.few
  have htn' := htn.out
  obtain ⟨mA, mc, mB, md, bs, pp, tA, tc, lA, lc⟩ := a
  obtain ⟨mA3, mc3, mB3, md3, bs3, pp3, tA3, tc3, lA3, lc3⟩ := a3
  change mA = some ⟨b0, o0, none⟩ at e0
  change mA3 = some ⟨bA, oA, none⟩ at eA
  change mB3 = some ⟨bB, oB, none⟩ at eB
  subst e0 eA eB
  clear cB c0 cA hbx3 hlen3 hq sw3 htl my sm T3' HNB
  go_wp2_with fail
  clear htn'
  go_loopw [9] (fun i wr => ∃ j : Nat, j ≤ u.ws.length ∧ i = .int .i64 j ∧ Below y6.heap.size y6 wr) (fun i _ => u.ws.length - (intOf i).toNat)
  case atStart => exact ⟨0, Nat.zero_le _, rfl, Below.refl _ _⟩
  case round =>
    obtain ⟨j, hj, rfl, hbr⟩ := hrel
    have C1 := boxOf_keep D1 hbr
    have C2 := boxOf_keep D2 hbr
    have C3 := boxOf_keep D3 hbr
    by_cases hlt : j < u.ws.length
    · have hl2 : j < nw.length := by have := HN.out; omega
      obtain ⟨x1, hx1⟩ : ∃ x, u.ws[j]? = some x := ⟨u.ws[j], List.getElem?_eq_getElem hlt⟩
      obtain ⟨x2, hx2⟩ : ∃ x, nw[j]? = some x := ⟨nw[j], List.getElem?_eq_getElem hl2⟩
      have f1 := cell_keep (hc0.out j (.int .i64 x1) (by simp [hx1])) hbr
      have f2 := cell_keep (hcA.out j (.int .i64 x2) (by show (List.map _ nw)[j]? = _; simp [hx2])) hbr
      have j0 : (0 : Int) ≤ (j : Int) := Int.natCast_nonneg _
      have j1 : (j : Int) < (u.ws.length : Int) := by omega
      have j2 : (j : Int) < (nw.length : Int) := by omega
      have hq : (((j : Int) != (k : Int)) = false) ∨ (((j : Int) != (k : Int)) = true ∧ (x2 != x1) = false) := by
        by_cases e : j = k
        · exact .inl (by simp [e])
        · refine .inr ⟨by simp; omega, ?_⟩
          rw [← HNW.out, List.getElem?_set_ne (Ne.symm e), hx1] at hx2
          simp [Option.some.inj hx2]
      clear hx1 hx2 hl2
      rcases hq with b1 | ⟨b1, b2⟩
      all_goals
        go_wp2_with fail
        have R1 := fun d os => boxOf_keep C1 (below_regrown wr d os)
        have R2 := fun d os => boxOf_keep C2 (below_regrown wr d os)
        have R3 := fun d os => boxOf_keep C3 (below_regrown wr d os)
        have r1 := cell_regrown f1
        have r2 := cell_regrown f2
        refine wp_region_quiet_below (by kernel_rfl) (by kernel_rfl) ?_
        repeat (go_big_quiet_step (fail))
        refine wpQuiet_nil ?_
        intro _ hw'
        obtain ⟨⟨dq, osq⟩, hw''⟩ := hw'
        subst hw''
        go_wp2
        go_roundw
        case rel => exact ⟨j + 1, by omega, by go_num, below_next hbr hbr.size (below_regrown wr dq osq)⟩
        case measure => simp [intOf]; omega
    · obtain rfl : j = u.ws.length := by omega
      have cq' := cell_keep cq hbr
      have hk2 : k < nw.length := by have := HN.out; have := HKL.out; omega
      have hxk : nw[k]? = some dv := by rw [← HNW.out]; exact List.getElem?_set_self HKL.out
      have cw := cell_keep (hcA.out k (.int .i64 dv) (by show (List.map _ nw)[k]? = _; simp [hxk])) hbr
      have kk2 : (k : Int) < (nw.length : Int) := by omega
      have KDt := hide (fun W => KD.out W)
      have htn' := htn.out
      rw [htn'] at KDt
      have HBR := hide hbr
      have sb1 := hide (sb.out.later hbr)
      have sq1 := hide (sq.out.later hbr)
      clear hj hlt hc0 hcA hxk hk2 D1 D2 D3 cq
      generalize hwl' : wr = wo at *
      clear hwl'
      have tok1 := hide True.intro
      have tok2 := hide True.intro
      have SBX : boxOf (wo.drew) w.heap.size = some (tcs ({ u with d := { u.d with ph := 11 } } : Tn) (⟨some ⟨b0, o0, none⟩, mc, mB, md, bs, pp, tA, tc, lA, lc⟩ : TA)) ∧ boxOf (wo.drew) g3 = some (tcs ({ u with bx := nb, ws := nw, d := { u.d with ph := 13 } } : Tn) (⟨some ⟨bA, oA, none⟩, mc3, some ⟨bB, oB, none⟩, md3, bs3, pp3, tA3, tc3, lA3, lc3⟩ : TA)) ∧ boxOf (wo.drew) g2 = some (tcs ({ u with bx := nb, d := { u.d with ph := 12 } } : Tn) a2) ∧ (wo.drew).cell? ⟨bB, oB + t, none⟩ = some (.slice qA u.d.bl.length qc) ∧ (wo.drew).cell? ⟨bA, oA + k, none⟩ = some (.int .i64 dv) ∧ Below wo.heap.size wo (wo.drew) := ⟨by rw [boxOf_drew]; exact C1, by rw [boxOf_drew]; exact C3, by rw [boxOf_drew]; exact C2, cq', cw, (Below.refl _ wo).drew⟩
      go_wp2_with fail
      go_region_held3 (fun w' => boxOf (w') w.heap.size = some (tcs ({ u with d := { u.d with ph := 11 } } : Tn) (⟨some ⟨b0, o0, none⟩, mc, mB, md, bs, pp, tA, tc, lA, lc⟩ : TA)) ∧ boxOf (w') g3 = some (tcs ({ u with bx := nb, ws := nw, d := { u.d with ph := 13 } } : Tn) (⟨some ⟨bA, oA, none⟩, mc3, some ⟨bB, oB, none⟩, md3, bs3, pp3, tA3, tc3, lA3, lc3⟩ : TA)) ∧ boxOf (w') g2 = some (tcs ({ u with bx := nb, d := { u.d with ph := 12 } } : Tn) a2) ∧ (w').cell? ⟨bB, oB + t, none⟩ = some (.slice qA u.d.bl.length qc) ∧ (w').cell? ⟨bA, oA + k, none⟩ = some (.int .i64 dv) ∧ Below wo.heap.size wo (w'))
        (first | (with_reducible exact SBX) | (with_reducible exact Z1) | (with_reducible exact Z2) | (with_reducible exact Z3) | (with_reducible exact Z4))
        (first
          | (go_at_call 10; have _t := tok1; refine (ents_any qA qc u.d.bl u.d.bl.length rfl (by omega) _ (sq1.out.later ((Below.refl _ _).drew))).mono ?_; rintro e v1 ⟨E1, c1, rfl, _, s1, _, hb1⟩; have Z1 : boxOf (v1) w.heap.size = some (tcs ({ u with d := { u.d with ph := 11 } } : Tn) (⟨some ⟨b0, o0, none⟩, mc, mB, md, bs, pp, tA, tc, lA, lc⟩ : TA)) ∧ boxOf (v1) g3 = some (tcs ({ u with bx := nb, ws := nw, d := { u.d with ph := 13 } } : Tn) (⟨some ⟨bA, oA, none⟩, mc3, some ⟨bB, oB, none⟩, md3, bs3, pp3, tA3, tc3, lA3, lc3⟩ : TA)) ∧ boxOf (v1) g2 = some (tcs ({ u with bx := nb, d := { u.d with ph := 12 } } : Tn) a2) ∧ (v1).cell? ⟨bB, oB + t, none⟩ = some (.slice qA u.d.bl.length qc) ∧ (v1).cell? ⟨bA, oA + k, none⟩ = some (.int .i64 dv) ∧ Below wo.heap.size wo (v1) := keepL SBX hb1; clear tok1)
          | (go_at_call 10; have _t := tok2; refine (ents_any pp.bA pp.bc u.d.bl u.d.bl.length rfl (by omega) _ (sb1.out.later Z1.2.2.2.2.2)).mono ?_; rintro e v2 ⟨E2, c2, rfl, _, s2, _, hb2⟩; have Z2 : boxOf (v2) w.heap.size = some (tcs ({ u with d := { u.d with ph := 11 } } : Tn) (⟨some ⟨b0, o0, none⟩, mc, mB, md, bs, pp, tA, tc, lA, lc⟩ : TA)) ∧ boxOf (v2) g3 = some (tcs ({ u with bx := nb, ws := nw, d := { u.d with ph := 13 } } : Tn) (⟨some ⟨bA, oA, none⟩, mc3, some ⟨bB, oB, none⟩, md3, bs3, pp3, tA3, tc3, lA3, lc3⟩ : TA)) ∧ boxOf (v2) g2 = some (tcs ({ u with bx := nb, d := { u.d with ph := 12 } } : Tn) a2) ∧ (v2).cell? ⟨bB, oB + t, none⟩ = some (.slice qA u.d.bl.length qc) ∧ (v2).cell? ⟨bA, oA + k, none⟩ = some (.int .i64 dv) ∧ Below wo.heap.size wo (v2) := keepL Z1 hb2; clear tok2)
          | (go_at_call 15; refine (same_any E1 E2 c1 c2 u.d.bl.length u.d.bl.length u.d.bl u.d.bl rfl rfl (by omega) _ (s1.later hb2) s2).mono ?_; rintro e v3 ⟨rfl, hb3⟩; have Z3 : boxOf (v3) w.heap.size = some (tcs ({ u with d := { u.d with ph := 11 } } : Tn) (⟨some ⟨b0, o0, none⟩, mc, mB, md, bs, pp, tA, tc, lA, lc⟩ : TA)) ∧ boxOf (v3) g3 = some (tcs ({ u with bx := nb, ws := nw, d := { u.d with ph := 13 } } : Tn) (⟨some ⟨bA, oA, none⟩, mc3, some ⟨bB, oB, none⟩, md3, bs3, pp3, tA3, tc3, lA3, lc3⟩ : TA)) ∧ boxOf (v3) g2 = some (tcs ({ u with bx := nb, d := { u.d with ph := 12 } } : Tn) a2) ∧ (v3).cell? ⟨bB, oB + t, none⟩ = some (.slice qA u.d.bl.length qc) ∧ (v3).cell? ⟨bA, oA + k, none⟩ = some (.int .i64 dv) ∧ Below wo.heap.size wo (v3) := keepL Z2 hb3; rw [decide_eq_true rfl])
          | (go_at_call 13; refine (KDt.out _).mono ?_; rintro e v4 ⟨rfl, hb4⟩; have Z4 : boxOf (v4) w.heap.size = some (tcs ({ u with d := { u.d with ph := 11 } } : Tn) (⟨some ⟨b0, o0, none⟩, mc, mB, md, bs, pp, tA, tc, lA, lc⟩ : TA)) ∧ boxOf (v4) g3 = some (tcs ({ u with bx := nb, ws := nw, d := { u.d with ph := 13 } } : Tn) (⟨some ⟨bA, oA, none⟩, mc3, some ⟨bB, oB, none⟩, md3, bs3, pp3, tA3, tc3, lA3, lc3⟩ : TA)) ∧ boxOf (v4) g2 = some (tcs ({ u with bx := nb, d := { u.d with ph := 12 } } : Tn) a2) ∧ (v4).cell? ⟨bB, oB + t, none⟩ = some (.slice qA u.d.bl.length qc) ∧ (v4).cell? ⟨bA, oA + k, none⟩ = some (.int .i64 dv) ∧ Below wo.heap.size wo (v4) := keepL Z3 hb4))
      go_wp2
      go_ret
      exact ⟨ret_b (by simp), below_next (below_next hBX hBX.size HBR.out) (below_next hBX hBX.size HBR.out).size Z4.2.2.2.2.2⟩
end Go.Proofs.Ytlbekjnpaiiilaa
