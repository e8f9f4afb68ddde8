/- The walk of ClimbOther. -/
import Derived.Test.YtlmlmmkichkkhaaW13Base
import Derived.Test.YtlmlmmkichkkhaaM4
import Derived.Test.YtlmlmmkichkkhaaM1
import Derived.Lib.QuietBelow
import Derived.Deep.QuietTactic
import Derived.BigQuiet
import Derived.Deep.RegionHeld3
namespace Go.Proofs.Ytlmlmmkichkkhaa
open Go.RowKit Go.Sort
set_option linter.unusedVariables false
set_option linter.unusedSimpArgs false

theorem keepO {w W W' : World} {g gk b o : Nat} {cs ds : List Value} {v : Value} (h : boxOf W g = some cs ∧ boxOf W gk = some ds ∧ W.cell? ⟨b, o, none⟩ = some v ∧ Below w.heap.size w W) (hb : Below W.heap.size W W') : boxOf W' g = some cs ∧ boxOf W' gk = some ds ∧ W'.cell? ⟨b, o, none⟩ = some v ∧ Below w.heap.size w W' := ⟨boxOf_keep h.1 hb, boxOf_keep h.2.1 hb, cell_keep h.2.2.1 hb, below_next h.2.2.2 h.2.2.2.size hb⟩
attribute [local irreducible] tcs thc ccs zT
attribute [local go_sem ↓] alTn_is alRn_is
attribute [local go_sem] run_alTnf run_alTnt run_alRnf run_alRnt zT_length
attribute [local go_sem ↓] lbTn_is lbRn_is lbTh_is lbRh_is lbCf_is lbRc_is sbTn_is sbRn_is sbTh_is sbRh_is sbCf_is sbRc_is
attribute [local go_sem] run_lbTn run_lbRn run_lbTh run_lbRh run_lbCf run_lbRc run_sbTn run_sbRn run_sbTh run_sbRh run_sbCf run_sbRc
attribute [local go_sem 2000] boxOf_old'
attribute [local go_sem] boxOf_at' boxOf_free' boxOf_alloc objBox_cells objBox_cellsA boxOf_drew boxOf_setI boxOf_setsI size_sets tcs_length thc_length ccs_length tcs_one thc_one ccs_one sub_tn sub_th sub_cf sub_thAll sub_cfAll put_turn put_thread
attribute [local go_sem] tc0 tc1 tc2 tc3 tc4 tc5 tc6 tc7 tc8 tc9 tc10 tc11 tc12 tc13 tc14 tc15 tc16 tc17 tc18 tc19 tc20 tc21 tc22 tc23 tc24 tc25 tc26 tc27 tc28 tc29 tc30 tc31 tc32 tc33 tc34 tc35 tc36 hc0 hc1 hc2 hc3 hc4 hc5 hc6 hc7 hc8 hc9 hc10 hc11 hc12 hc13 hc14 hc15 hc16 kc0 kc1 kc2 kc3 kc4 kc5 kc6 kc7 kc8 kc9 kc10 kc11 tg0 tg1 tg2 tg3 tg4 tg5 tg6 tg7 tg8 tg9 tg10 tg11 tg12 tg13 tg14 tg15 tg16 tg17 tg18 tg19 tg20 tg21 tg22 tg23 tg24 tg25 tg26 tg27 tg28 tg29 tg30 tg31 tg32 tg33 tg34 tg35 tg36 hg0 hg1 hg2 hg3 hg4 hg5 hg6 hg7 hg8 hg9 hg10 hg11 hg12 hg13 hg14 hg15 hg16 kg0 kg1 kg2 kg3 kg4 kg5 kg6 kg7 kg8 kg9 kg10 kg11
attribute [local go_sem] ts12 ts13 ts14 ts16 ts17 ts18 ts19 ts20 ts21 ts22 ts23 ts24 ts25 ts26 ts27 ts28 ts29 ts30 ts31 ts32 ts33 ts34 ts35 ts36 ts15 hs0 hs1 hs2 hs3 hs7 hs8 hs9 hs10 hs11 hs12 hs13 hs14 hs15 hs16

attribute [local irreducible] zC zH
attribute [local go_sem ↓] alCf_is alRc_is alTh_is
attribute [local go_sem] run_alCf run_alRc run_alTh zC_length zH_length put_conf put_thrd
set_option maxRecDepth 100000 in
set_option maxHeartbeats 4000000 in
theorem other_walk (u : Tn) (a : TA) (w : World) (hi : TnIn w u a) : Calls Try.prog 8 #[.agg (tcs u a).toArray] w (BoolPost true w) := by
  have B1 : boxOf (w.alloc (.cells (tcs u a).toArray 38)) w.heap.size = some (tcs u a) := by simp [go_sem]
  have hB : Below w.heap.size w (w.alloc (.cells (tcs u a).toArray 38)) := belowN w _
  have hs : w.heap.size < (w.alloc (.cells (tcs u a).toArray 38)).heap.size := by simp
  go_enter Try.func8, Try.ntmps8
  go_wp2_with fail
  generalize (w.alloc (.cells (tcs u a).toArray 38)) = wz at *
  refine (big_tn u a _ (hi.m.later hB)).mono ?_
  rintro e w1 ⟨r, rfl, hr, hb1⟩
  replace B1 := boxOf_keep B1 hb1
  replace hB := below_next hB hB.size hb1
  replace hs := Nat.lt_of_lt_of_le hs hb1.size
  clear hb1
  cases r with
  | true =>
    go_wp2_with (go_at_call 11; refine (shown_any _).mono ?_; rintro e ws ⟨rfl, hbs⟩; replace hB := below_next hB hB.size hbs; clear hbs)
    go_ret
    exact ⟨ret_b (by simp), hB⟩
  | false =>
  have sm := hide (hr rfl)
  clear hr
  go_wp2_with fail
  refine (may_any u a _).mono ?_
  rintro e w2 ⟨r, rfl, hr, hb1⟩
  replace B1 := boxOf_keep B1 hb1
  replace hB := below_next hB hB.size hb1
  replace hs := Nat.lt_of_lt_of_le hs hb1.size
  clear hb1
  cases r with
  | false =>
    go_wp2_with (go_at_call 11; refine (shown_any _).mono ?_; rintro e ws ⟨rfl, hbs⟩; replace hB := below_next hB hB.size hbs; clear hbs)
    go_ret
    exact ⟨ret_b (by simp), hB⟩
  | true =>
  have my := hide (hr rfl)
  clear hr
  have h := hide (hi.at sm.out)
  have o := hide (hi.ok sm.out my.out)
  have cap := hide hi.cap
  clear hi
  go_wp2_with fail
  refine (shown_any _).mono ?_
  rintro e w3 ⟨rfl, hb1⟩
  replace B1 := boxOf_keep B1 hb1
  replace hB := below_next hB hB.size hb1
  replace hs := Nat.lt_of_lt_of_le hs hb1.size
  clear hb1
  have ht := tt_my my.out o.out
  have HWJ := hide (fun j x y hx hy => step_wsK (u := u) j (x := x) (y := y) hx hy)
  have HWL := hide (step_like u).ws
  have RC := fun W => hide (rnode_tn u.c o.out.c u.d.it (o.out.f.n _ (by simp [Dt.nums])) u.d.nd o.out.ind W)
  have HNP := hide (show npV u.c u.d.it u.d.nd = ndP u from rfl)
  rw [HNP.out] at RC
  have KF := fun W => first_any u.tt ht W
  have KJ := fun W => joined_any u.tt ht W
  obtain ⟨f1, hf1⟩ : ∃ x, frV 1 u.tt = x := ⟨_, rfl⟩
  obtain ⟨f2, hf2⟩ : ∃ x, frV 2 u.tt = x := ⟨_, rfl⟩
  obtain ⟨np, hnp⟩ : ∃ x, ndP u = x := ⟨_, rfl⟩
  have S0 := kstep_at u a o.out ht _ (h.out.later hB)
  obtain ⟨vv, hvv⟩ : ∃ x, stepK u = x := ⟨_, rfl⟩
  obtain ⟨is, his⟩ : ∃ x, isK u = x := ⟨_, rfl⟩
  rw [hvv] at S0 HWJ HWL
  rw [his] at S0
  rw [hnp, hf1, hf2] at HWJ
  rw [hnp] at RC
  rw [hf1] at KF
  rw [hf2] at KJ
  replace KF := hide KF
  replace KJ := hide KJ
  clear hvv his hnp hf1 hf2 HNP sm my cap ht
  go_wp2_with fail
  refine S0.mono ?_
  rintro e z1 ⟨a2, rfl, T2, M2, hb1⟩
  replace B1 := boxOf_keep B1 hb1
  replace hB := below_next hB hB.size hb1
  replace hs := Nat.lt_of_lt_of_le hs hb1.size
  have nb := belowY z1 vv a2 38
  have B2 := boxY z1 vv a2 38
  replace B1 := boxOf_keep B1 nb
  replace T2 := hide (T2.later nb)
  replace hB := below_next hB hB.size nb
  have bw : ((vv.ws.length : Int) != (u.ws.length : Int)) = false := by rw [HWL.out]; simp
  have hD := hide (h.out.later hB)
  have hfew := h.out.m.few
  have hfewb : a.bs.length ≤ 20000 := h.out.m.fewb
  obtain ⟨mA, mc, mB, md, bs, pp, tA, tc, lA, lc⟩ := a
  obtain ⟨A2, c2, mB2, md2, bs2, pp2, tA2, tc2, lA2, lc2⟩ := a2
  obtain ⟨-, -, e2, e3, e1, -, -, -, -⟩ := M2
  change bs2 = bs at e1
  change mB2 = mB at e2
  change md2 = md at e3
  subst bs2
  subst mB2
  subst md2
  change bs.length ≤ 20000 at hfewb
  clear nb hb1 S0 h
  go_wp2_with fail
  generalize ((z1.alloc (.cells zT.toArray 38)).setCells z1.heap.size 0 (tcs vv (⟨A2, c2, mB, md, bs, pp2, tA2, tc2, lA2, lc2⟩ : TA))) = y2 at *
  generalize z1.heap.size = k1 at *
  go_loopw [5] (fun i wr => ∃ j : Nat, j ≤ bs.length ∧ i = .int .i64 j ∧ Below y2.heap.size y2 wr) (fun i _ => bs.length - (intOf i).toNat)
  case atStart => exact ⟨0, Nat.zero_le _, rfl, Below.refl _ _⟩
  case round =>
    obtain ⟨j, hj, rfl, hbr⟩ := hrel
    have C1 := boxOf_keep B1 hbr
    have C2 := boxOf_keep B2 hbr
    by_cases hlt : j < bs.length
    · have mr := hD.out.m.later hbr
      obtain ⟨b, off, e0, _, hc⟩ := mr.bxs.2 (show 0 < bs.length by omega)
      obtain ⟨q, hq⟩ : ∃ q, bs[j]? = some q := ⟨bs[j], List.getElem?_eq_getElem hlt⟩
      have hcq := hc j q.val (by simp [hq])
      have hqs : Sees wr wr.heap.size 3 q.A q.l.length (ecells q.l) := mr.each q (List.mem_of_getElem? hq)
      have hqn := mr.short q (List.mem_of_getElem? hq)
      obtain ⟨qA, qc, ql⟩ := q
      simp only [Bt.val] at hcq hqs hqn
      change mB = some ⟨b, off, none⟩ at e0
      subst e0
      have j0 : (0 : Int) ≤ (j : Int) := Int.natCast_nonneg _
      have j1 : (j : Int) < (bs.length : Int) := by omega
      have tok1 := hide True.intro
      have tok2 := hide True.intro
      have HS := hide hqs
      clear hc mr hq hqs
      have Z : boxOf wr.drew w.heap.size = some (tcs u (⟨mA, mc, (some ⟨b, off, none⟩), md, bs, pp, tA, tc, lA, lc⟩ : TA)) ∧ boxOf wr.drew k1 = some (tcs vv (⟨A2, c2, (some ⟨b, off, none⟩), md, bs, pp2, tA2, tc2, lA2, lc2⟩ : TA)) ∧ wr.drew.cell? ⟨b, off + j, none⟩ = some (.slice qA ql.length qc) ∧ Below y2.heap.size y2 wr.drew := ⟨by rw [boxOf_drew]; exact C1, by rw [boxOf_drew]; exact C2, hcq, hbr.drew⟩
      go_wp2_with fail
      go_region_held3 (fun w' => boxOf w' w.heap.size = some (tcs u (⟨mA, mc, (some ⟨b, off, none⟩), md, bs, pp, tA, tc, lA, lc⟩ : TA)) ∧ boxOf w' k1 = some (tcs vv (⟨A2, c2, (some ⟨b, off, none⟩), md, bs, pp2, tA2, tc2, lA2, lc2⟩ : TA)) ∧ w'.cell? ⟨b, off + j, none⟩ = some (.slice qA ql.length qc) ∧ Below y2.heap.size y2 w')
        (first | (with_reducible exact Z) | (with_reducible exact Z1) | (with_reducible exact Z2) | (with_reducible exact Z3))
        (first
          | (go_at_call 29; have _t := tok1; refine (ents_any qA qc ql ql.length rfl (by omega) _ (HS.out.later ((Below.refl _ _).drew))).mono ?_; rintro e v1 ⟨E1, c1, rfl, _, s1, _, hb1⟩; have Z1 : boxOf v1 w.heap.size = some (tcs u (⟨mA, mc, (some ⟨b, off, none⟩), md, bs, pp, tA, tc, lA, lc⟩ : TA)) ∧ boxOf v1 k1 = some (tcs vv (⟨A2, c2, (some ⟨b, off, none⟩), md, bs, pp2, tA2, tc2, lA2, lc2⟩ : TA)) ∧ v1.cell? ⟨b, off + j, none⟩ = some (.slice qA ql.length qc) ∧ Below y2.heap.size y2 v1 := keepO Z hb1; have HS1 := hide ((HS.out.later ((Below.refl _ _).drew)).later hb1); clear tok1)
          | (go_at_call 29; have _t := tok2; refine (ents_any qA qc ql ql.length rfl (by omega) _ HS1.out).mono ?_; rintro e v2 ⟨E2, c2', rfl, _, s2, _, hb2⟩; have Z2 : boxOf v2 w.heap.size = some (tcs u (⟨mA, mc, (some ⟨b, off, none⟩), md, bs, pp, tA, tc, lA, lc⟩ : TA)) ∧ boxOf v2 k1 = some (tcs vv (⟨A2, c2, (some ⟨b, off, none⟩), md, bs, pp2, tA2, tc2, lA2, lc2⟩ : TA)) ∧ v2.cell? ⟨b, off + j, none⟩ = some (.slice qA ql.length qc) ∧ Below y2.heap.size y2 v2 := keepO Z1 hb2; clear tok2)
          | (go_at_call 28; refine (same_any E1 E2 c1 c2' ql.length ql.length ql ql rfl rfl (by omega) _ (s1.later hb2) s2).mono ?_; rintro e v3 ⟨rfl, hb3⟩; have Z3 : boxOf v3 w.heap.size = some (tcs u (⟨mA, mc, (some ⟨b, off, none⟩), md, bs, pp, tA, tc, lA, lc⟩ : TA)) ∧ boxOf v3 k1 = some (tcs vv (⟨A2, c2, (some ⟨b, off, none⟩), md, bs, pp2, tA2, tc2, lA2, lc2⟩ : TA)) ∧ v3.cell? ⟨b, off + j, none⟩ = some (.slice qA ql.length qc) ∧ Below y2.heap.size y2 v3 := keepO Z2 hb3; rw [decide_eq_true rfl]))
      go_wp2
      go_roundw
      case rel => exact ⟨j + 1, by omega, by go_num, Z3.2.2.2⟩
      case measure => simp [intOf]; omega
    · obtain rfl : j = bs.length := by omega
      generalize hwl' : wr = wo at *
      clear hwl'
      have h1 := hide ((hD.out.later hbr).m.words)
      have h2 := hide ((T2.out.later hbr).m.words)
      clear hj hlt
      go_wp2_with fail
      refine (RC _).out.mono ?_
      rintro e wl ⟨rfl, hb1⟩
      replace C1 := boxOf_keep C1 hb1
      replace C2 := boxOf_keep C2 hb1
      replace h1 := hide (h1.out.later hb1)
      replace h2 := hide (h2.out.later hb1)
      have hbl := below_next hbr hbr.size hb1
      clear hb1 hbr RC T2 hD
      go_wp2
      go_loopw [7] (fun i wr => ∃ j : Nat, j ≤ u.ws.length ∧ i = .int .i64 j ∧ Below wl.heap.size wl wr) (fun i _ => u.ws.length - (intOf i).toNat)
      case atStart => exact ⟨0, Nat.zero_le _, rfl, Below.refl _ _⟩
      case round =>
        obtain ⟨j, hj, rfl, hbr⟩ := hrel
        have D1 := boxOf_keep C1 hbr
        have D2 := boxOf_keep C2 hbr
        by_cases hlt : j < u.ws.length
        · obtain ⟨ba, oa, ea, _, da⟩ := (h1.out.later hbr).2 (by omega)
          obtain ⟨bb, ob, eb, _, db⟩ := (h2.out.later hbr).2 (by have := HWL.out; omega)
          change mA = some ⟨ba, oa, none⟩ at ea
          change A2 = some ⟨bb, ob, none⟩ at eb
          have j2 : (j : Int) < (vv.ws.length : Int) := by have := HWL.out; omega
          subst ea
          subst eb
          obtain ⟨x1, hx1⟩ : ∃ x, u.ws[j]? = some x := ⟨u.ws[j], List.getElem?_eq_getElem hlt⟩
          have hl2 : j < vv.ws.length := by have := HWL.out; omega
          obtain ⟨x2, hx2⟩ : ∃ x, vv.ws[j]? = some x := ⟨vv.ws[j], List.getElem?_eq_getElem hl2⟩
          have g1 := da j (.int .i64 x1) (by simp [hx1])
          have g2 := db j (.int .i64 x2) (by simp [hx2])
          have j0 : (0 : Int) ≤ (j : Int) := Int.natCast_nonneg _
          have j1 : (j : Int) < (u.ws.length : Int) := by omega
          have hq : ((x2 != x1) = false) ∨ ((x2 != x1) = true ∧ ((j : Int) != np) = false ∧ (x2 != f1) = false) ∨ ((x2 != x1) = true ∧ ((j : Int) != np) = false ∧ (x2 != f1) = true ∧ (x2 != f2) = false) := by
            rcases HWJ.out j x1 x2 hx1 hx2 with e | ⟨e, f⟩
            · exact .inl (by simpa using e)
            · rcases Bool.eq_false_or_eq_true (x2 != x1) with b1 | b1
              · rcases Bool.eq_false_or_eq_true (x2 != f1) with b3 | b3
                · refine .inr (.inr ⟨b1, by simp [e], b3, ?_⟩)
                  rcases f with f | f
                  · simp [f] at b3
                  · simp [f]
                · exact .inr (.inl ⟨b1, by simp [e], b3⟩)
              · exact .inl b1
          clear da db hx1 hx2 hl2
          rcases hq with b1 | ⟨b1, b2, b3⟩ | ⟨b1, b2, b3, b4⟩
          · go_wp2_with fail
            have R1 := fun d os => boxOf_keep D1 (below_regrown wr d os)
            have R2 := fun d os => boxOf_keep D2 (below_regrown wr d os)
            have r1 := cell_regrown g1
            have r2 := cell_regrown g2
            have Q1 := hide (fun d os => Calls.regrown_of (w := wr) (KF.out (grow (redrawn wr d) os)))
            have Q2 := hide (fun d os => Calls.regrown_of (w := wr) (KJ.out (grow (redrawn wr d) os)))
            refine wp_region_quiet_below (by kernel_rfl) (by kernel_rfl) ?_
            repeat (go_big_quiet_step (first | (go_at_call 25; exact Q1.out _ _) | (go_at_call 26; exact Q2.out _ _)))
            refine wpQuiet_nil ?_
            intro _ hw'
            obtain ⟨⟨dq, osq⟩, hw''⟩ := hw'
            subst hw''
            go_wp2
            go_roundw
            case rel => exact ⟨j + 1, by omega, by go_num, below_next hbr hbr.size (below_regrown wr dq osq)⟩
            case measure => simp [intOf]; omega
          · go_wp2_with fail
            have R1 := fun d os => boxOf_keep D1 (below_regrown wr d os)
            have R2 := fun d os => boxOf_keep D2 (below_regrown wr d os)
            have r1 := cell_regrown g1
            have r2 := cell_regrown g2
            have Q1 := hide (fun d os => Calls.regrown_of (w := wr) (KF.out (grow (redrawn wr d) os)))
            have Q2 := hide (fun d os => Calls.regrown_of (w := wr) (KJ.out (grow (redrawn wr d) os)))
            refine wp_region_quiet_below (by kernel_rfl) (by kernel_rfl) ?_
            repeat (go_big_quiet_step (first | (go_at_call 25; exact Q1.out _ _) | (go_at_call 26; exact Q2.out _ _)))
            refine wpQuiet_nil ?_
            intro _ hw'
            obtain ⟨⟨dq, osq⟩, hw''⟩ := hw'
            subst hw''
            go_wp2
            go_roundw
            case rel => exact ⟨j + 1, by omega, by go_num, below_next hbr hbr.size (below_regrown wr dq osq)⟩
            case measure => simp [intOf]; omega
          · go_wp2_with fail
            have R1 := fun d os => boxOf_keep D1 (below_regrown wr d os)
            have R2 := fun d os => boxOf_keep D2 (below_regrown wr d os)
            have r1 := cell_regrown g1
            have r2 := cell_regrown g2
            have Q1 := hide (fun d os => Calls.regrown_of (w := wr) (KF.out (grow (redrawn wr d) os)))
            have Q2 := hide (fun d os => Calls.regrown_of (w := wr) (KJ.out (grow (redrawn wr d) os)))
            refine wp_region_quiet_below (by kernel_rfl) (by kernel_rfl) ?_
            repeat (go_big_quiet_step (first | (go_at_call 25; exact Q1.out _ _) | (go_at_call 26; exact Q2.out _ _)))
            refine wpQuiet_nil ?_
            intro _ hw'
            obtain ⟨⟨dq, osq⟩, hw''⟩ := hw'
            subst hw''
            go_wp2
            go_roundw
            case rel => exact ⟨j + 1, by omega, by go_num, below_next hbr hbr.size (below_regrown wr dq osq)⟩
            case measure => simp [intOf]; omega
        · obtain rfl : j = u.ws.length := by omega
          go_wp2
          go_ret
          exact ⟨ret_b (by simp), below_next (below_next hB hB.size hbl) (below_next hB hB.size hbl).size hbr⟩
end Go.Proofs.Ytlmlmmkichkkhaa
