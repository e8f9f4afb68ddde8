/- The walk of CollideOther. -/
import Derived.Test.YtjghdbkkjhnpfaaW15OtherM
import Derived.Test.YtjghdbkkjhnpfaaW15Base
import Derived.Test.YtjghdbkkjhnpfaaW15Slots
import Derived.Test.YtjghdbkkjhnpfaaM4
import Derived.Test.YtjghdbkkjhnpfaaM1
import Derived.Lib.QuietBelow
import Derived.Deep.QuietTactic
import Derived.BigQuiet
import Derived.Deep.RegionHeld3
import Derived.Deep.Cut
import Derived.Deep.CutRange
namespace Go.Proofs.Ytjghdbkkjhnpfaa
open Go.RowKit Go.Sort
set_option linter.unusedVariables false
set_option linter.unusedSimpArgs false

theorem keepO {y2 W W' : World} {g gk b o b2 o2 : Nat} {cs ds : List Value} {v v2 : Value} (h : boxOf W g = some cs ∧ boxOf W gk = some ds ∧ W.cell? ⟨b, o, none⟩ = some v ∧ W.cell? ⟨b2, o2, none⟩ = some v2 ∧ Below y2.heap.size y2 W) (hb : Below W.heap.size W W') : boxOf W' g = some cs ∧ boxOf W' gk = some ds ∧ W'.cell? ⟨b, o, none⟩ = some v ∧ W'.cell? ⟨b2, o2, none⟩ = some v2 ∧ Below y2.heap.size y2 W' := ⟨boxOf_keep h.1 hb, boxOf_keep h.2.1 hb, cell_keep h.2.2.1 hb, cell_keep h.2.2.2.1 hb, below_next h.2.2.2.2 h.2.2.2.2.size hb⟩
attribute [local irreducible] tcs thc ccs zT
attribute [local go_sem ↓] alTn_is alRn_is
attribute [local go_sem] run_alTnf run_alTnt run_alRnf run_alRnt zT_length
attribute [local go_sem ↓] lbTn_is lbRn_is lbTh_is lbRh_is lbCf_is lbRc_is sbTn_is sbRn_is sbTh_is sbRh_is sbCf_is sbRc_is
attribute [local go_sem] run_lbTn run_lbRn run_lbTh run_lbRh run_lbCf run_lbRc run_sbTn run_sbRn run_sbTh run_sbRh run_sbCf run_sbRc
attribute [local go_sem 2000] boxOf_old'
attribute [local go_sem] boxOf_at' boxOf_free' boxOf_alloc objBox_cells objBox_cellsA boxOf_drew boxOf_setI boxOf_setsI size_sets tcs_length thc_length ccs_length tcs_one thc_one ccs_one sub_tn sub_th sub_cf sub_thAll sub_cfAll put_turn put_thread
attribute [local go_sem] tc0 tc1 tc2 tc3 tc4 tc5 tc6 tc7 tc8 tc9 tc10 tc11 tc12 tc13 tc14 tc15 tc16 tc17 tc18 tc19 tc20 tc21 tc22 tc23 tc24 tc25 tc26 tc27 tc28 tc29 tc30 tc31 tc32 tc33 tc34 tc35 tc36 hc0 hc1 hc2 hc3 hc4 hc5 hc6 hc7 hc8 hc9 hc10 hc11 hc12 hc13 hc14 hc15 hc16 kc0 kc1 kc2 kc3 kc4 kc5 kc6 kc7 kc8 kc9 kc10 kc11 tg0 tg1 tg2 tg3 tg4 tg5 tg6 tg7 tg8 tg9 tg10 tg11 tg12 tg13 tg14 tg15 tg16 tg17 tg18 tg19 tg20 tg21 tg22 tg23 tg24 tg25 tg26 tg27 tg28 tg29 tg30 tg31 tg32 tg33 tg34 tg35 tg36 hg0 hg1 hg2 hg3 hg4 hg5 hg6 hg7 hg8 hg9 hg10 hg11 hg12 hg13 hg14 hg15 hg16 kg0 kg1 kg2 kg3 kg4 kg5 kg6 kg7 kg8 kg9 kg10 kg11
attribute [local go_sem] ts12 ts13 ts14 ts16 ts17 ts18 ts19 ts20 ts21 ts22 ts23 ts24 ts25 ts26 ts27 ts28 ts29 ts30 ts31 ts32 ts33 ts34 ts35 ts36 ts15 hs0 hs1 hs2 hs3 hs7 hs8 hs9 hs10 hs11 hs12 hs13 hs14 hs15 hs16

attribute [local irreducible] zC zH
attribute [local go_sem ↓] alCf_is alRc_is alTh_is
attribute [local go_sem] run_alCf run_alRc run_alTh zC_length zH_length put_conf put_thrd
set_option maxRecDepth 100000 in
set_option maxHeartbeats 4000000 in
theorem other_walk (u : Tn) (a : TA) (hta0 : I64 u.ta) (w : World) (hi : TnIn w u a) : Calls Try.prog 8 #[.agg (tcs u a).toArray] w (BoolPost true w) := by
  have B1 : boxOf (((w.alloc (.cells (tcs u a).toArray 38)).alloc (.cells zC.toArray 39)).setCells (w.heap.size + 1) 0 (ccs u.c)) w.heap.size = some (tcs u a) := by simp [go_sem]
  have BC : boxOf (((w.alloc (.cells (tcs u a).toArray 38)).alloc (.cells zC.toArray 39)).setCells (w.heap.size + 1) 0 (ccs u.c)) (w.heap.size + 1) = some (ccs u.c) := by simp [go_sem]
  have hs : w.heap.size + 1 < (((w.alloc (.cells (tcs u a).toArray 38)).alloc (.cells zC.toArray 39)).setCells (w.heap.size + 1) 0 (ccs u.c)).heap.size := by simp [size_sets]
  have hB : Below w.heap.size w (((w.alloc (.cells (tcs u a).toArray 38)).alloc (.cells zC.toArray 39)).setCells (w.heap.size + 1) 0 (ccs u.c)) := below_sets _ (by omega) _ _ _ _ ((belowN w _).alloc (by simp) _)
  go_enter Try.func8, Try.ntmps8
  go_wp2_with fail
  generalize (((w.alloc (.cells (tcs u a).toArray 38)).alloc (.cells zC.toArray 39)).setCells (w.heap.size + 1) 0 (ccs u.c)) = wz at *
  refine (big_tn u a _ (hi.m.later hB)).mono ?_
  rintro e w1 ⟨r, rfl, hr, hb1⟩
  replace B1 := boxOf_keep B1 hb1
  replace BC := boxOf_keep BC hb1
  replace hs := Nat.lt_of_lt_of_le hs hb1.size
  replace hB := below_next hB hB.size hb1
  clear hb1
  cases r with
  | true =>
    go_wp2_with (go_at_call 11; refine (shown_any _).mono ?_; rintro e ws ⟨rfl, hbs⟩; replace hB := below_next hB hB.size hbs; clear hbs)
    go_ret
    exact ⟨ret_b (by simp), hB⟩
  | false =>
  have sm := hide (hr rfl)
  clear hr
  go_wp2_with fail
  refine (lay_any u a _).mono ?_
  rintro e w2 ⟨r, rfl, hr, hb1⟩
  replace B1 := boxOf_keep B1 hb1
  replace BC := boxOf_keep BC hb1
  replace hs := Nat.lt_of_lt_of_le hs hb1.size
  replace hB := below_next hB hB.size hb1
  clear hb1
  cases r with
  | false =>
    go_wp2_with (go_at_call 11; refine (shown_any _).mono ?_; rintro e ws ⟨rfl, hbs⟩; replace hB := below_next hB hB.size hbs; clear hbs)
    go_ret
    exact ⟨ret_b (by simp), hB⟩
  | true =>
  have my := hide (hr rfl).1
  have hly := (hr rfl).2
  clear hr
  have h := hide (hi.at sm.out)
  have o := hide (hi.ok sm.out my.out)
  have ht := tt_my my.out o.out.c
  have hit := it_my my.out
  have hx0 := o.out.c.h0
  have hta := hide hta0
  clear hi hta0
  go_wp2_with fail
  refine (shown_any _).mono ?_
  rintro e w4 ⟨rfl, hb1⟩
  replace B1 := boxOf_keep B1 hb1
  replace BC := boxOf_keep BC hb1
  replace hs := Nat.lt_of_lt_of_le hs hb1.size
  replace hB := below_next hB hB.size hb1
  clear hb1
  have HW := step_wsX u
  have HWL := step_wlX u
  have HBL := step_blX u
  have HBJ := hide (fun j hj => step_bxj (u := u) (j := j) hj)
  have S0 := cstep_any u a o.out ht hit hly hta.out _ (h.out.later hB)
  have RLN := hide (fun W => rline_tn u.c o.out.c u.tt o.out.tt W)
  have RS := hide (fun n hn W => rslot_tn u.c o.out.c u.d.it o.out.iit u.d.ly (o.out.f.n _ (by simp [Dt.nums])) n hn W)
  have KO := fun W => hide (open_any u.d.it u.d.ly hit hly W)
  rw [show opV u.d.it u.d.ly = opW u from rfl] at KO
  obtain ⟨np, hnp⟩ : ∃ x, lnV u.c u.tt = x := ⟨_, rfl⟩
  obtain ⟨ov, hov⟩ : ∃ x, opW u = x := ⟨_, rfl⟩
  obtain ⟨vv, hvv⟩ : ∃ x, stepC u = x := ⟨_, rfl⟩
  obtain ⟨is, his⟩ : ∃ x, isC u = x := ⟨_, rfl⟩
  obtain ⟨ax, hax⟩ := HW
  rw [hnp, hov, hvv] at hax
  rw [hvv] at S0 HWL HBL HBJ
  rw [his] at S0
  rw [hnp] at RLN
  rw [hov] at KO
  have HAX := hide hax
  have hx5 := o.out.c.h5
  have hfew := h.out.m.few
  have hfewb : a.bs.length ≤ 20000 := h.out.m.fewb
  have hubl : a.bs.length = u.bx.length := by rw [← h.out.bx]; simp [boxes]
  have tt1 : wrap64 (u.tt + 1) = u.tt + 1 := wrap64_id (i64_k _ ⟨by omega, by omega⟩)
  have tt2 : IntKind.i64.wrap (u.tt + 1) = u.tt + 1 := w64 (by omega)
  have ht15 := ht.2
  clear hvv his hnp hov hax sm my
  go_wp2_with fail
  refine S0.mono ?_
  rintro e z1 ⟨a2, rfl, T2, off2, hb1⟩
  replace B1 := boxOf_keep B1 hb1
  replace BC := boxOf_keep BC hb1
  replace hB := below_next hB hB.size hb1
  have nb := belowY z1 vv a2 38
  have B2 := boxY z1 vv a2 38
  replace B1 := boxOf_keep B1 nb
  replace BC := boxOf_keep BC nb
  replace T2 := hide (T2.later nb)
  replace hB := below_next hB hB.size nb
  have hvbl : a2.bs.length = vv.bx.length := by rw [← T2.out.bx]; simp [boxes]
  have hab : a2.bs.length = a.bs.length := by omega
  have bw : ((vv.ws.length : Int) != (u.ws.length : Int)) = false := by rw [HWL]; simp
  have bw2 : ((a2.bs.length : Int) != (a.bs.length : Int)) = false := by rw [hab]; simp
  have hD := hide (h.out.later hB)
  have HWL' := hide HWL
  obtain ⟨mA, mc, mB, md, bs, pp, tA, tc, lA, lc⟩ := a
  obtain ⟨A2, c2, B2a, d2a, bs2, pp2, tA2, tc2, lA2, lc2⟩ := a2
  change bs.length ≤ 20000 at hfewb
  have hab' : Hid (bs2.length = bs.length) := hide hab
  clear nb hb1 S0 h off2 hubl hvbl HBL HWL hab
  go_wp2_with fail
  generalize ((z1.alloc (.cells zT.toArray 38)).setCells z1.heap.size 0 (tcs vv (⟨A2, c2, B2a, d2a, bs2, pp2, tA2, tc2, lA2, lc2⟩ : TA))) = y2 at *
  generalize z1.heap.size = k1 at *
  go_loopw [6] (fun i wr => ∃ j : Nat, j ≤ bs.length ∧ i = .int .i64 j ∧ Below y2.heap.size y2 wr) (fun i _ => bs.length - (intOf i).toNat)
  case atStart => exact ⟨0, Nat.zero_le _, rfl, Below.refl _ _⟩
  case round =>
    obtain ⟨j, hj, rfl, hbr⟩ := hrel
    have C1 := boxOf_keep B1 hbr
    have C2 := boxOf_keep B2 hbr
    have C3 := boxOf_keep BC hbr
    by_cases hlt : j < bs.length
    · have j0 : (0 : Int) ≤ (j : Int) := Int.natCast_nonneg _
      have j1 : (j : Int) < (bs.length : Int) := by omega
      have j2 : (j : Int) < (bs2.length : Int) := by have := hab'.out; omega
      by_cases hjt : (j : Int) = u.tt
      · have hjb : ((j : Int) != u.tt) = false := by simpa using hjt
        clear hjt
        go_upto_region 10 with fail
        have R1 := fun d os => boxOf_keep C1 (below_regrown wr d os)
        have R2 := fun d os => boxOf_keep C2 (below_regrown wr d os)
        have R3 := fun d os => boxOf_keep C3 (below_regrown wr d os)
        refine wp_region_quiet_below (by kernel_rfl) (by kernel_rfl) ?_
        repeat (go_big_quiet_step (fail))
        refine wpQuiet_nil ?_
        intro _ hw'
        obtain ⟨⟨dq, osq⟩, hw''⟩ := hw'
        subst hw''
        go_wp2
        go_roundw
        case rel => exact ⟨j + 1, by omega, by go_num, below_next hbr hbr.size (below_regrown wr dq osq)⟩
        case measure => simp [intOf]; omega
      · have hjb : ((j : Int) != u.tt) = true := by simpa using hjt
        have mr := hD.out.m.later hbr
        have mr2 := T2.out.m.later hbr
        obtain ⟨b, off, e0, _, hc⟩ := mr.bxs.2 (show 0 < bs.length by omega)
        obtain ⟨b2, off2x, e2, _, hc2⟩ := mr2.bxs.2 (show 0 < bs2.length by omega)
        obtain ⟨q, hq⟩ : ∃ q, bs[j]? = some q := ⟨bs[j], List.getElem?_eq_getElem hlt⟩
        obtain ⟨q2, hq2⟩ : ∃ q, bs2[j]? = some q := ⟨bs2[j]'(by omega), List.getElem?_eq_getElem _⟩
        have hcq := hc j q.val (by simp [hq])
        have hcq2 := hc2 j q2.val (by simp [hq2])
        have hqs : Sees wr wr.heap.size 3 q.A q.l.length (ecells q.l) := mr.each q (List.mem_of_getElem? hq)
        have hqs2 : Sees wr wr.heap.size 3 q2.A q2.l.length (ecells q2.l) := mr2.each q2 (List.mem_of_getElem? hq2)
        have hqn := mr.short q (List.mem_of_getElem? hq)
        have hql : q2.l = q.l := by
          have e := HBJ.out j hjt
          rw [← T2.out.bx, ← hD.out.bx] at e
          have e1 : (boxes bs2)[j]? = some q2.l := by simp [boxes, hq2]
          have e3 : (boxes bs)[j]? = some q.l := by simp [boxes, hq]
          exact Option.some.inj (e1.symm.trans (e.trans e3))
        obtain ⟨qA, qc, ql⟩ := q
        obtain ⟨qA2, qc2, ql2⟩ := q2
        simp only [Bt.val] at hcq hqs hqn hcq2 hqs2 hql
        subst hql
        change mB = some ⟨b, off, none⟩ at e0
        change B2a = some ⟨b2, off2x, none⟩ at e2
        subst e0
        subst e2
        have tok1 := hide True.intro
        have HS := hide hqs
        have HS2 := hide hqs2
        clear hc hc2 mr mr2 hq hq2 hqs hqs2 hjt
        have Z : boxOf wr.drew w.heap.size = some (tcs u (⟨mA, mc, (some ⟨b, off, none⟩), md, bs, pp, tA, tc, lA, lc⟩ : TA)) ∧ boxOf wr.drew k1 = some (tcs vv (⟨A2, c2, (some ⟨b2, off2x, none⟩), d2a, bs2, pp2, tA2, tc2, lA2, lc2⟩ : TA)) ∧ wr.drew.cell? ⟨b, off + j, none⟩ = some (.slice qA ql2.length qc) ∧ wr.drew.cell? ⟨b2, off2x + j, none⟩ = some (.slice qA2 ql2.length qc2) ∧ Below y2.heap.size y2 wr.drew := ⟨by rw [boxOf_drew]; exact C1, by rw [boxOf_drew]; exact C2, hcq, hcq2, hbr.drew⟩
        go_upto_region 10 with fail
        go_region_held3 (fun w' => boxOf w' w.heap.size = some (tcs u (⟨mA, mc, (some ⟨b, off, none⟩), md, bs, pp, tA, tc, lA, lc⟩ : TA)) ∧ boxOf w' k1 = some (tcs vv (⟨A2, c2, (some ⟨b2, off2x, none⟩), d2a, bs2, pp2, tA2, tc2, lA2, lc2⟩ : TA)) ∧ w'.cell? ⟨b, off + j, none⟩ = some (.slice qA ql2.length qc) ∧ w'.cell? ⟨b2, off2x + j, none⟩ = some (.slice qA2 ql2.length qc2) ∧ Below y2.heap.size y2 w')
          (first | (with_reducible exact Z) | (with_reducible exact Z1) | (with_reducible exact Z2) | (with_reducible exact Z3))
          (first
            | (go_at_call 17; have _t := tok1; refine (ents_any qA qc ql2 ql2.length rfl (by omega) _ (HS.out.later ((Below.refl _ _).drew))).mono ?_; rintro e v1 ⟨E1, c1, rfl, _, s1, _, hb1⟩; have Z1 : boxOf v1 w.heap.size = some (tcs u (⟨mA, mc, (some ⟨b, off, none⟩), md, bs, pp, tA, tc, lA, lc⟩ : TA)) ∧ boxOf v1 k1 = some (tcs vv (⟨A2, c2, (some ⟨b2, off2x, none⟩), d2a, bs2, pp2, tA2, tc2, lA2, lc2⟩ : TA)) ∧ v1.cell? ⟨b, off + j, none⟩ = some (.slice qA ql2.length qc) ∧ v1.cell? ⟨b2, off2x + j, none⟩ = some (.slice qA2 ql2.length qc2) ∧ Below y2.heap.size y2 v1 := keepO Z hb1; have HS1 := hide ((HS2.out.later ((Below.refl _ _).drew)).later hb1); clear tok1)
            | (go_at_call 17; refine (ents_any qA2 qc2 ql2 ql2.length rfl (by omega) _ HS1.out).mono ?_; rintro e v2 ⟨E2, c2', rfl, _, s2, _, hb2⟩; have Z2 : boxOf v2 w.heap.size = some (tcs u (⟨mA, mc, (some ⟨b, off, none⟩), md, bs, pp, tA, tc, lA, lc⟩ : TA)) ∧ boxOf v2 k1 = some (tcs vv (⟨A2, c2, (some ⟨b2, off2x, none⟩), d2a, bs2, pp2, tA2, tc2, lA2, lc2⟩ : TA)) ∧ v2.cell? ⟨b, off + j, none⟩ = some (.slice qA ql2.length qc) ∧ v2.cell? ⟨b2, off2x + j, none⟩ = some (.slice qA2 ql2.length qc2) ∧ Below y2.heap.size y2 v2 := keepO Z1 hb2)
            | (go_at_call 16; refine (same_any E1 E2 c1 c2' ql2.length ql2.length ql2 ql2 rfl rfl (by omega) _ (s1.later hb2) s2).mono ?_; rintro e v3 ⟨rfl, hb3⟩; have Z3 : boxOf v3 w.heap.size = some (tcs u (⟨mA, mc, (some ⟨b, off, none⟩), md, bs, pp, tA, tc, lA, lc⟩ : TA)) ∧ boxOf v3 k1 = some (tcs vv (⟨A2, c2, (some ⟨b2, off2x, none⟩), d2a, bs2, pp2, tA2, tc2, lA2, lc2⟩ : TA)) ∧ v3.cell? ⟨b, off + j, none⟩ = some (.slice qA ql2.length qc) ∧ v3.cell? ⟨b2, off2x + j, none⟩ = some (.slice qA2 ql2.length qc2) ∧ Below y2.heap.size y2 v3 := keepO Z2 hb3; rw [decide_eq_true rfl]))
        go_wp2
        go_roundw
        case rel => exact ⟨j + 1, by omega, by go_num, Z3.2.2.2.2⟩
        case measure => simp [intOf]; omega
    · obtain rfl : j = bs.length := by omega
      generalize hwl' : wr = wl at *
      clear hwl'
      have h1 := hide ((hD.out.later hbr).m.words)
      have h2 := hide ((T2.out.later hbr).m.words)
      have hBl := below_next hB hB.size hbr
      clear hj hlt T2 hD HBJ
      go_wp2
      go_loopw [7, 8] (fun mv i wr => ∃ j m : Nat, j ≤ u.ws.length ∧ m ≤ 1 ∧ (m = 1 → ax < (j : Int)) ∧ mv = .int .i64 m ∧ i = .int .i64 j ∧ Below wl.heap.size wl wr) (fun _ i _ => u.ws.length - (intOf i).toNat)
      case atStart => exact ⟨0, 0, Nat.zero_le _, by omega, fun e => by omega, rfl, rfl, Below.refl _ _⟩
      case round =>
        obtain ⟨j, m, hj, hm1, hmx, rfl, rfl, hbr⟩ := hrel
        have D1 := boxOf_keep C1 hbr
        have D2 := boxOf_keep C2 hbr
        have D3 := boxOf_keep C3 hbr
        by_cases hlt : j < u.ws.length
        · obtain ⟨ba, oa, ea, _, da⟩ := (h1.out.later hbr).2 (by omega)
          obtain ⟨bb, ob, eb, _, db⟩ := (h2.out.later hbr).2 (by have := HWL'.out; omega)
          change mA = some ⟨ba, oa, none⟩ at ea
          change A2 = some ⟨bb, ob, none⟩ at eb
          have j2 : (j : Int) < (vv.ws.length : Int) := by have := HWL'.out; omega
          subst ea
          subst eb
          obtain ⟨x1, hx1⟩ : ∃ x, u.ws[j]? = some x := ⟨u.ws[j], List.getElem?_eq_getElem hlt⟩
          have hl2 : j < vv.ws.length := by have := HWL'.out; omega
          obtain ⟨x2, hx2⟩ : ∃ x, vv.ws[j]? = some x := ⟨vv.ws[j], List.getElem?_eq_getElem hl2⟩
          have g1 := da j (.int .i64 x1) (by simp [hx1])
          have g2 := db j (.int .i64 x2) (by simp [hx2])
          have r1 := cell_regrown g1
          have r2 := cell_regrown g2
          have j0 : (0 : Int) ≤ (j : Int) := Int.natCast_nonneg _
          have j1 : (j : Int) < (u.ws.length : Int) := by omega
          have hq := HAX.out j x1 x2 hx1 hx2
          clear da db hx1 hx2 hl2
          go_upto_region 16 with fail
          by_cases hxx : x2 = x1
          · have b1 : (x2 == x1) = true := by simpa using hxx
            have hmx' := hide hmx
            clear hxx hq hmx
            have R1 := fun d os => boxOf_keep D1 (below_regrown wr d os)
            have R2 := fun d os => boxOf_keep D2 (below_regrown wr d os)
            have R3 := fun d os => boxOf_keep D3 (below_regrown wr d os)
            refine wp_region_quiet_below (by kernel_rfl) (by kernel_rfl) ?_
            repeat (go_big_quiet_step (fail))
            refine wpQuiet_nil ?_
            intro _ hw'
            obtain ⟨⟨dq, osq⟩, hw''⟩ := hw'
            subst hw''
            go_wp2
            go_roundw
            case rel => exact ⟨j + 1, m, by omega, hm1, fun e => by have := hmx'.out e; omega, rfl, by go_num, below_next hbr hbr.size (below_regrown wr dq osq)⟩
            case measure => simp [intOf]; omega
          · have b1 : (x2 == x1) = false := by simpa using hxx
            obtain ⟨hjx, hcs⟩ := hq.resolve_left hxx
            obtain rfl : m = 0 := by
              rcases Nat.eq_zero_or_pos m with e | e
              · exact e
              · exfalso
                have := hmx (by omega)
                omega
            have HJX := hide hjx
            have HCS := hide hcs
            clear hxx hq hmx hjx hcs hm1
            have R1 := fun d os => boxOf_keep D1 (below_regrown wr d os)
            have R2 := fun d os => boxOf_keep D2 (below_regrown wr d os)
            have R3 := fun d os => boxOf_keep D3 (below_regrown wr d os)
            refine wp_region_quiet_below (by kernel_rfl) (by kernel_rfl) ?_
            repeat (go_big_quiet_step (fail))
            refine wpQuiet_nil ?_
            intro _ hw'
            obtain ⟨⟨dq, osq⟩, hw''⟩ := hw'
            subst hw''
            have hb2 := below_regrown wr dq osq
            have hbr2 := below_next hbr hbr.size hb2
            replace D1 := boxOf_keep D1 hb2
            replace D2 := boxOf_keep D2 hb2
            replace D3 := boxOf_keep D3 hb2
            replace g1 := cell_keep g1 hb2
            replace g2 := cell_keep g2 hb2
            clear R1 R2 R3 r1 r2 hb2 hbr
            generalize grow (redrawn wr dq) osq = wr at *
            have r1 := cell_regrown g1
            have r2 := cell_regrown g2
            go_upto_region 18 with fail
            go_cut [9] from 101 to 133 (fun fv wc => ∃ f, fv = .bool f ∧ ((j : Int) = np ∨ (x2 = 0 ∧ x1 = ov) → f = true) ∧ Below wr.heap.size wr wc)
            case first =>
              by_cases p1 : (j : Int) = np
              · have q1 : ((j : Int) == np) = true := by simpa using p1
                clear p1
                have Q1 := hide (fun d os => Calls.regrown_of (w := wr) (RLN.out (grow (redrawn wr d) os)))
                have Q2 := hide (fun d os => Calls.regrown_of (w := wr) ((KO (grow (redrawn wr d) os)).out))
                have R1 := fun d os => boxOf_keep D1 (below_regrown wr d os)
                have R2 := fun d os => boxOf_keep D2 (below_regrown wr d os)
                have R3 := fun d os => boxOf_keep D3 (below_regrown wr d os)
                refine wp_region_quiet_below (by kernel_rfl) (by kernel_rfl) ?_
                repeat (go_big_quiet_step (first | (go_at_call 14; exact Q1.out _ _) | (go_at_call 15; exact Q2.out _ _)))
                refine wpQuiet_nil ?_
                intro _ hw'
                obtain ⟨⟨dq, osq⟩, hw''⟩ := hw'
                subst hw''
                go_wp2
                go_meet
                exact ⟨_, rfl, fun _ => rfl, below_regrown wr dq osq⟩
              · have q1 : ((j : Int) == np) = false := by simpa using p1
                by_cases p2 : x2 = 0
                · have q2 : (x2 == 0) = true := by simpa using p2
                  by_cases p3 : x1 = ov
                  · have q3 : (x1 == ov) = true := by simpa using p3
                    clear p1 p2 p3
                    have Q1 := hide (fun d os => Calls.regrown_of (w := wr) (RLN.out (grow (redrawn wr d) os)))
                    have Q2 := hide (fun d os => Calls.regrown_of (w := wr) ((KO (grow (redrawn wr d) os)).out))
                    have R1 := fun d os => boxOf_keep D1 (below_regrown wr d os)
                    have R2 := fun d os => boxOf_keep D2 (below_regrown wr d os)
                    have R3 := fun d os => boxOf_keep D3 (below_regrown wr d os)
                    refine wp_region_quiet_below (by kernel_rfl) (by kernel_rfl) ?_
                    repeat (go_big_quiet_step (first | (go_at_call 14; exact Q1.out _ _) | (go_at_call 15; exact Q2.out _ _)))
                    refine wpQuiet_nil ?_
                    intro _ hw'
                    obtain ⟨⟨dq, osq⟩, hw''⟩ := hw'
                    subst hw''
                    go_wp2
                    go_meet
                    exact ⟨_, rfl, fun _ => rfl, below_regrown wr dq osq⟩
                  · have q3 : (x1 == ov) = false := by simpa using p3
                    have P1 := hide p1
                    have P3 := hide p3
                    clear p1 p2 p3
                    have Q1 := hide (fun d os => Calls.regrown_of (w := wr) (RLN.out (grow (redrawn wr d) os)))
                    have Q2 := hide (fun d os => Calls.regrown_of (w := wr) ((KO (grow (redrawn wr d) os)).out))
                    have R1 := fun d os => boxOf_keep D1 (below_regrown wr d os)
                    have R2 := fun d os => boxOf_keep D2 (below_regrown wr d os)
                    have R3 := fun d os => boxOf_keep D3 (below_regrown wr d os)
                    refine wp_region_quiet_below (by kernel_rfl) (by kernel_rfl) ?_
                    repeat (go_big_quiet_step (first | (go_at_call 14; exact Q1.out _ _) | (go_at_call 15; exact Q2.out _ _)))
                    refine wpQuiet_nil ?_
                    intro _ hw'
                    obtain ⟨⟨dq, osq⟩, hw''⟩ := hw'
                    subst hw''
                    go_wp2
                    go_meet
                    exact ⟨_, rfl, fun e => e.elim (fun h => absurd h P1.out) (fun h => absurd h.2 P3.out), below_regrown wr dq osq⟩
                · have q2 : (x2 == 0) = false := by simpa using p2
                  have P1 := hide p1
                  have P2 := hide p2
                  clear p1 p2
                  have Q1 := hide (fun d os => Calls.regrown_of (w := wr) (RLN.out (grow (redrawn wr d) os)))
                  have Q2 := hide (fun d os => Calls.regrown_of (w := wr) ((KO (grow (redrawn wr d) os)).out))
                  have R1 := fun d os => boxOf_keep D1 (below_regrown wr d os)
                  have R2 := fun d os => boxOf_keep D2 (below_regrown wr d os)
                  have R3 := fun d os => boxOf_keep D3 (below_regrown wr d os)
                  refine wp_region_quiet_below (by kernel_rfl) (by kernel_rfl) ?_
                  repeat (go_big_quiet_step (first | (go_at_call 14; exact Q1.out _ _) | (go_at_call 15; exact Q2.out _ _)))
                  refine wpQuiet_nil ?_
                  intro _ hw'
                  obtain ⟨⟨dq, osq⟩, hw''⟩ := hw'
                  subst hw''
                  go_wp2
                  go_meet
                  exact ⟨_, rfl, fun e => e.elim (fun h => absurd h P1.out) (fun h => absurd h.1 P2.out), below_regrown wr dq osq⟩
            case rest =>
            obtain ⟨f, rfl, hF, hbc⟩ := hcut
            have X1 := boxOf_keep D1 hbc
            have X2 := boxOf_keep D2 hbc
            have X3 := boxOf_keep D3 hbc
            have k1c := cell_keep g1 hbc
            have k2c := cell_keep g2 hbc
            have hbw2 := below_next hbr2 hbr2.size hbc
            have HF := hide hF
            clear hF D1 D2 D3 g1 g2 r1 r2 hbc hbr2
            generalize wr = wo at *
            go_wp2
            go_loopw [9, 10] (fun fv kv wq => ∃ (f' : Bool) (t : Nat), t ≤ u.c.x5.toNat ∧ fv = .bool f' ∧ kv = .int .i64 t ∧ (((j : Int) = np ∨ (x2 = 0 ∧ x1 = ov) ∨ ∃ t' : Nat, t' < t ∧ (j : Int) = slV u.c u.d.it u.d.ly (t' : Int) ∧ x2 = u.tt + 1) → f' = true) ∧ Below wc.heap.size wc wq) (fun _ kv _ => u.c.x5.toNat - (intOf kv).toNat)
            case atStart => exact ⟨f, 0, Nat.zero_le _, rfl, rfl, fun e => HF.out (by rcases e with e | e | ⟨t', ht', _⟩; exact .inl e; exact .inr e; exact absurd ht' (Nat.not_lt_zero _)), Below.refl _ _⟩
            case round =>
              obtain ⟨f', t, hst, rfl, rfl, hG, hbq⟩ := hrel
              have D1 := boxOf_keep X1 hbq
              have D2 := boxOf_keep X2 hbq
              have D3 := boxOf_keep X3 hbq
              by_cases hlt2 : t < u.c.x5.toNat
              · have t0 : (0 : Int) ≤ (t : Int) := Int.natCast_nonneg _
                have t1 : (t : Int) < u.c.x5 := by omega
                have r1 := cell_regrown (cell_keep k1c hbq)
                have r2 := cell_regrown (cell_keep k2c hbq)
                have KS := RS.out (t : Int) (i64_k _ ⟨by omega, by omega⟩)
                obtain ⟨sv, hsv⟩ : ∃ x, slV u.c u.d.it u.d.ly (t : Int) = x := ⟨_, rfl⟩
                rw [hsv] at KS
                have HSV := hide hsv
                have HG := hide hG
                have Q1 := hide (fun d os => Calls.regrown_of (w := wr) (KS (grow (redrawn wr d) os)))
                clear hsv hG KS
                go_upto_region 22 with fail
                cases f' with
                | true =>
                  have R1 := fun d os => boxOf_keep D1 (below_regrown wr d os)
                  have R2 := fun d os => boxOf_keep D2 (below_regrown wr d os)
                  have R3 := fun d os => boxOf_keep D3 (below_regrown wr d os)
                  refine wp_region_quiet_below (by kernel_rfl) (by kernel_rfl) ?_
                  repeat (go_big_quiet_step (first | (go_at_call 12; exact Q1.out _ _)))
                  refine wpQuiet_nil ?_
                  intro _ hw'
                  obtain ⟨⟨dq, osq⟩, hw''⟩ := hw'
                  subst hw''
                  go_wp2
                  go_roundw
                  case rel => exact ⟨true, t + 1, by omega, rfl, by go_num, fun _ => rfl, below_next hbq hbq.size (below_regrown wr dq osq)⟩
                  case measure => simp [intOf]; omega
                | false =>
                  by_cases p1 : (j : Int) = sv
                  · have q1 : ((j : Int) == sv) = true := by simpa using p1
                    by_cases p2 : x2 = u.tt + 1
                    · have q2 : (x2 == u.tt + 1) = true := by simpa using p2
                      clear p1 p2
                      have R1 := fun d os => boxOf_keep D1 (below_regrown wr d os)
                      have R2 := fun d os => boxOf_keep D2 (below_regrown wr d os)
                      have R3 := fun d os => boxOf_keep D3 (below_regrown wr d os)
                      refine wp_region_quiet_below (by kernel_rfl) (by kernel_rfl) ?_
                      repeat (go_big_quiet_step (first | (go_at_call 12; exact Q1.out _ _)))
                      refine wpQuiet_nil ?_
                      intro _ hw'
                      obtain ⟨⟨dq, osq⟩, hw''⟩ := hw'
                      subst hw''
                      go_wp2
                      go_roundw
                      case rel => exact ⟨true, t + 1, by omega, rfl, by go_num, fun _ => rfl, below_next hbq hbq.size (below_regrown wr dq osq)⟩
                      case measure => simp [intOf]; omega
                    · have q2 : (x2 == u.tt + 1) = false := by simpa using p2
                      have P2 := hide p2
                      clear p1 p2
                      have R1 := fun d os => boxOf_keep D1 (below_regrown wr d os)
                      have R2 := fun d os => boxOf_keep D2 (below_regrown wr d os)
                      have R3 := fun d os => boxOf_keep D3 (below_regrown wr d os)
                      refine wp_region_quiet_below (by kernel_rfl) (by kernel_rfl) ?_
                      repeat (go_big_quiet_step (first | (go_at_call 12; exact Q1.out _ _)))
                      refine wpQuiet_nil ?_
                      intro _ hw'
                      obtain ⟨⟨dq, osq⟩, hw''⟩ := hw'
                      subst hw''
                      go_wp2
                      go_roundw
                      case rel => exact ⟨false, t + 1, by omega, rfl, by go_num, fun e => HG.out (by rcases e with e | e | ⟨t', h1, h2, h3⟩; exact .inl e; exact .inr (.inl e); exact absurd h3 P2.out), below_next hbq hbq.size (below_regrown wr dq osq)⟩
                      case measure => simp [intOf]; omega
                  · have q1 : ((j : Int) == sv) = false := by simpa using p1
                    have P1 := hide p1
                    clear p1
                    have R1 := fun d os => boxOf_keep D1 (below_regrown wr d os)
                    have R2 := fun d os => boxOf_keep D2 (below_regrown wr d os)
                    have R3 := fun d os => boxOf_keep D3 (below_regrown wr d os)
                    refine wp_region_quiet_below (by kernel_rfl) (by kernel_rfl) ?_
                    repeat (go_big_quiet_step (first | (go_at_call 12; exact Q1.out _ _)))
                    refine wpQuiet_nil ?_
                    intro _ hw'
                    obtain ⟨⟨dq, osq⟩, hw''⟩ := hw'
                    subst hw''
                    go_wp2
                    go_roundw
                    case rel => exact ⟨false, t + 1, by omega, rfl, by go_num, fun e => HG.out (by
                      rcases e with e | e | ⟨t', h1, h2, h3⟩
                      · exact .inl e
                      · exact .inr (.inl e)
                      · rcases Nat.lt_or_ge t' t with h4 | h4
                        · exact .inr (.inr ⟨t', h4, h2, h3⟩)
                        · obtain rfl : t' = t := by omega
                          exact absurd (h2.trans HSV.out) P1.out), below_next hbq hbq.size (below_regrown wr dq osq)⟩
                    case measure => simp [intOf]; omega
              · obtain rfl : t = u.c.x5.toNat := by omega
                obtain rfl : f' = true := hG (by
                  rcases HCS.out with c | c | ⟨t', h2, h3, h4⟩
                  · exact .inl c
                  · exact .inr (.inl c)
                  · exact .inr (.inr ⟨t', by omega, h3, h4⟩))
                have HBN := hide (below_next hbw2 hbw2.size hbq)
                clear hG
                go_wp2
                go_roundw
                case rel => exact ⟨j + 1, 1, by omega, Nat.le_refl _, fun _ => by have := HJX.out; omega, by go_num, by go_num, HBN.out⟩
                case measure => simp [intOf]; omega
        · obtain rfl : j = u.ws.length := by omega
          have m2 : decide ((m : Int) ≤ 1) = true := decide_eq_true (by omega)
          have hBz := below_next hBl hBl.size hbr
          go_wp2
          go_ret
          exact ⟨ret_b (by simp), hBz⟩
end Go.Proofs.Ytjghdbkkjhnpfaa
