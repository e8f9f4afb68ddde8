/- The walk of CommitLogs. -/
import Derived.Test.YtiacgbkaflcbeaaW12Base
import Derived.Test.YtiacgbkaflcbeaaCmL
import Derived.Lib.QuietBelow
import Derived.Deep.QuietTactic
import Derived.BigQuiet
import Derived.Deep.RegionHeld3
namespace Go.Proofs.Ytiacgbkaflcbeaa
open Go.RowKit Go.Sort
set_option linter.unusedVariables false
set_option linter.unusedSimpArgs false

attribute [local irreducible] tcs thc ccs zT
attribute [local go_sem ↓] alTn_is
attribute [local go_sem] run_alTnf run_alTnt zT_length
attribute [local go_sem ↓] lbTn_is lbTh_is lbCf_is lbRc_is sbTn_is sbTh_is sbCf_is sbRc_is
attribute [local go_sem] run_lbTn run_lbTh run_lbCf run_lbRc run_sbTn run_sbTh run_sbCf run_sbRc
attribute [local go_sem 2000] boxOf_old'
attribute [local go_sem] boxOf_at' boxOf_free' boxOf_alloc objBox_cells objBox_cellsA boxOf_drew boxOf_setI boxOf_setsI size_sets tcs_length thc_length ccs_length tcs_one thc_one ccs_one sub_tn sub_th sub_cf sub_thAll sub_cfAll put_turn put_thread
attribute [local go_sem] tc0 tc1 tc2 tc3 tc4 tc5 tc6 tc7 tc8 tc9 tc10 tc11 tc12 tc13 tc14 tc15 tc16 tc17 tc18 tc19 tc20 tc21 tc22 tc23 tc24 tc25 tc26 tc27 tc28 tc29 tc30 tc31 tc32 tc33 tc34 tc35 tc36 hc0 hc1 hc2 hc3 hc4 hc5 hc6 hc7 hc8 hc9 hc10 hc11 hc12 hc13 hc14 hc15 hc16 kc0 kc1 kc2 kc3 kc4 kc5 kc6 kc7 kc8 kc9 kc10 kc11 tg0 tg1 tg2 tg3 tg4 tg5 tg6 tg7 tg8 tg9 tg10 tg11 tg12 tg13 tg14 tg15 tg16 tg17 tg18 tg19 tg20 tg21 tg22 tg23 tg24 tg25 tg26 tg27 tg28 tg29 tg30 tg31 tg32 tg33 tg34 tg35 tg36 hg0 hg1 hg2 hg3 hg4 hg5 hg6 hg7 hg8 hg9 hg10 hg11 hg12 hg13 hg14 hg15 hg16 kg0 kg1 kg2 kg3 kg4 kg5 kg6 kg7 kg8 kg9 kg10 kg11
attribute [local go_sem] ts12 ts13 ts14 ts16 ts17 ts18 ts19 ts20 ts21 ts22 ts23 ts24 ts25 ts26 ts27 ts28 ts29 ts30 ts31 ts32 ts33 ts34 ts35 ts36 ts15 hs0 hs1 hs2 hs3 hs7 hs8 hs9 hs10 hs11 hs12 hs13 hs14 hs15 hs16

attribute [local irreducible] zC zH
attribute [local go_sem ↓] alCf_is alRc_is alTh_is
attribute [local go_sem] run_alCf run_alRc run_alTh zC_length zH_length put_conf put_thrd
attribute [local go_sem] tsNil
set_option maxRecDepth 100000 in
set_option maxHeartbeats 4000000 in
theorem logs_walk (u : Tn) (a : TA) (w : World) (hi : TnIn w u a) : Calls Try.prog 4 #[.agg (tcs u a).toArray] w (BoolPost true w) := by
  have B1 : boxOf (w.alloc (.cells (tcs u a).toArray 38)) w.heap.size = some (tcs u a) := by simp [go_sem]
  have hB : Below w.heap.size w (w.alloc (.cells (tcs u a).toArray 38)) := belowN w _
  have hs : w.heap.size < (w.alloc (.cells (tcs u a).toArray 38)).heap.size := by simp
  go_enter Try.func4, Try.ntmps4
  go_wp2_with fail
  generalize (w.alloc (.cells (tcs u a).toArray 38)) = wz at *
  refine (big_tn u a _ (hi.m.later hB)).mono ?_
  rintro e w1 ⟨r, rfl, hr, hb1⟩
  replace B1 := boxOf_keep B1 hb1
  replace hB := below_next hB hB.size hb1
  replace hs := Nat.lt_of_lt_of_le hs hb1.size
  clear hb1
  cases r with
  | true =>
    go_wp2_with (go_at_call 10; refine (shown_any _).mono ?_; rintro e ws ⟨rfl, hbs⟩; replace hB := below_next hB hB.size hbs; clear hbs)
    go_ret
    exact ⟨ret_b (by simp), hB⟩
  | false =>
  have sm := hide (hr rfl)
  clear hr
  go_wp2_with fail
  refine (may_any u a _).mono ?_
  rintro e w2 ⟨r, rfl, hr, hb1⟩
  replace B1 := boxOf_keep B1 hb1
  replace hB := below_next hB hB.size hb1
  replace hs := Nat.lt_of_lt_of_le hs hb1.size
  clear hb1
  cases r with
  | false =>
    go_wp2_with (go_at_call 10; refine (shown_any _).mono ?_; rintro e ws ⟨rfl, hbs⟩; replace hB := below_next hB hB.size hbs; clear hbs)
    go_ret
    exact ⟨ret_b (by simp), hB⟩
  | true =>
  have my := hide (hr rfl)
  clear hr
  have h := hide (hi.at sm.out)
  have o := hide (hi.ok sm.out my.out)
  have cap := hide hi.cap
  clear hi
  go_wp2_with fail
  refine (shown_any _).mono ?_
  rintro e w3 ⟨rfl, hb1⟩
  replace B1 := boxOf_keep B1 hb1
  replace hB := below_next hB hB.size hb1
  replace hs := Nat.lt_of_lt_of_le hs hb1.size
  clear hb1
  obtain ⟨mA, mc, mB, md, bs, ⟨bA, bc, kA, kc, hA, hc⟩, tA, tc, lA, lc⟩ := a
  have hz : Below w.heap.size w (w3.setCell ⟨w.heap.size, 35, none⟩ (.slice none 0 0)) := hB.setCell (by simp) _
  have C1 : boxOf (w3.setCell ⟨w.heap.size, 35, none⟩ (.slice none 0 0)) w.heap.size = some (tcs ({ u with ll := [] } : Tn) (⟨mA, mc, mB, md, bs, ⟨bA, bc, kA, kc, hA, hc⟩, tA, tc, none, 0⟩ : TA)) := (boxOf_set _ _ 35 _ B1).trans (congrArg some (tsNil u (⟨mA, mc, mB, md, bs, ⟨bA, bc, kA, kc, hA, hc⟩, tA, tc, lA, lc⟩ : TA)))
  have hl := h.out.later hz
  have h0 : TnAt (w3.setCell ⟨w.heap.size, 35, none⟩ (.slice none 0 0)) ({ u with ll := [] } : Tn) (⟨mA, mc, mB, md, bs, ⟨bA, bc, kA, kc, hA, hc⟩, tA, tc, none, 0⟩ : TA) := ⟨hl.m, hl.bx, ⟨hl.th.b, hl.th.k, hl.th.h⟩, hl.tp, Sees.empty⟩
  have o0 : TnOk ({ u with ll := [] } : Tn) := ⟨o.out.b, o.out.k, o.out.h, Nat.zero_le _, o.out.t, o.out.f, o.out.lo, o.out.hi, o.out.tt, o.out.ws, o.out.c⟩
  obtain ⟨k, hk, hkl⟩ := cell_in my.out o.out
  obtain ⟨x, hx⟩ : ∃ x, u.ws[k]? = some x := ⟨u.ws[k], List.getElem?_eq_getElem hkl⟩
  have HLL := hide (step_ll (u := ({ u with ll := [] } : Tn)) hk hx rfl)
  have HLC := hide (step_likeC ({ u with ll := [] } : Tn)).ws
  have hs' : w.heap.size < (w3.setCell ⟨w.heap.size, 35, none⟩ (.slice none 0 0)).heap.size := by simpa using hs
  have S0 := cstep_at ({ u with ll := [] } : Tn) (⟨mA, mc, mB, md, bs, ⟨bA, bc, kA, kc, hA, hc⟩, tA, tc, none, 0⟩ : TA) o0 _ h0
  have RC := fun W => hide (rcell_tn u.c o.out.c u.d.it (o.out.f.n _ (by simp [Dt.nums])) W)
  rw [hk] at RC
  clear hl h0 o0 sm my cap
  obtain ⟨vv, hvv⟩ : ∃ x, stepC ({ u with ll := [] } : Tn) = x := ⟨_, rfl⟩
  obtain ⟨is, his⟩ : ∃ x, isC ({ u with ll := [] } : Tn) = x := ⟨_, rfl⟩
  rw [hvv] at HLL HLC S0
  rw [his] at S0
  clear hvv his hk
  go_wp2_with fail
  clear B1 hB hs
  refine S0.mono ?_
  rintro e z1 ⟨a2, rfl, T2, M2, hb1⟩
  have B1 := boxOf_keep C1 hb1
  have hB := below_next hz hz.size hb1
  have hs := Nat.lt_of_lt_of_le hs' hb1.size
  have nb := belowY z1 vv a2 38
  have B2 := boxY z1 vv a2 38
  replace B1 := boxOf_keep B1 nb
  replace T2 := T2.later nb
  replace hB := below_next hB hB.size nb
  clear C1 hz hs' S0 hb1 nb M2
  have hn : vv.ll.length = 0 ∨ (0 < vv.ll.length ∧ vv.ll = mkL u.d.bl u.d.it x u.c.x9 u.c.x10) := by
    rcases HLL.out with e | e
    · exact .inl (by rw [e]; rfl)
    · rcases Nat.eq_zero_or_pos vv.ll.length with h0 | h0
      · exact .inl h0
      · exact .inr ⟨h0, e⟩
  rcases hn with hn | ⟨hn, hL⟩
  · have d0 : ((vv.ll.length : Int) == 0) = true := beq_iff_eq.2 (by omega)
    clear hn
    go_wp2
    go_ret
    exact ⟨ret_b (by simp), hB⟩
  have hlen : vv.ll.length = u.d.bl.length := by rw [hL, mkL_length]
  have d0 : ((vv.ll.length : Int) == 0) = false := beq_eq_false_iff_ne.2 (by omega)
  have dl : ((vv.ll.length : Int) != (u.d.bl.length : Int)) = false := by rw [hlen]; simp
  have bw : ((vv.ws.length : Int) != (u.ws.length : Int)) = false := by rw [HLC.out]; simp
  have kk0 : (0 : Int) ≤ (k : Int) := Int.natCast_nonneg _
  have kk1 : (k : Int) < (u.ws.length : Int) := by omega
  have nb20 := o.out.b
  have HL := hide hL
  have HN := hide hlen
  have hbl : 0 < u.d.bl.length := by omega
  have ix := hide (o.out.ws x (List.mem_of_getElem? hx))
  obtain ⟨A2, c2, mB2, md2, bs2, ⟨bA2, bc2, kA2, kc2, hA2, hc2⟩, tA2, tc2, lA2, lc2⟩ := a2
  have h2 := h.out.later hB
  obtain ⟨ba, oa, ea, _⟩ := h2.m.words.some_of (by omega)
  obtain ⟨bb, ob, eb, _⟩ := h2.th.b.some_of hbl
  obtain ⟨bl, ol, el, _⟩ := T2.lg.some_of hn
  change mA = _ at ea
  change bA = _ at eb
  change lA2 = _ at el
  subst ea eb el
  have cw := word_cell h2.m.words hx
  have hS := hide h2.th.b
  have hM := hide T2.lg
  clear hL hlen hn h2 hx HLL HLC h T2 hkl
  go_wp2_with fail
  generalize ((z1.alloc (.cells zT.toArray 38)).setCells z1.heap.size 0 (tcs vv (⟨A2, c2, mB2, md2, bs2, ⟨bA2, bc2, kA2, kc2, hA2, hc2⟩, tA2, tc2, some ⟨bl, ol, none⟩, lc2⟩ : TA))) = y at *
  generalize z1.heap.size = k1 at *
  refine (RC _).out.mono ?_
  rintro e y1 ⟨rfl, hb1⟩
  replace B1 := boxOf_keep B1 hb1
  replace B2 := boxOf_keep B2 hb1
  replace cw := cell_keep cw hb1
  replace hS := hide (hS.out.later hb1)
  replace hM := hide (hM.out.later hb1)
  replace hB := below_next hB hB.size hb1
  clear hb1 RC
  go_wp2
  go_loopw [6, 7] (fun p i wr => ∃ j : Nat, j ≤ u.d.bl.length ∧ i = .int .i64 j ∧ p = .int .i64 (allV (u.d.bl.take j) x u.c.x9 u.c.x10) ∧ Below y1.heap.size y1 wr) (fun _ i _ => u.d.bl.length - (intOf i).toNat)
  case atStart => exact ⟨0, Nat.zero_le _, rfl, rfl, Below.refl _ _⟩
  case round =>
    obtain ⟨j, hj, rfl, rfl, hbr⟩ := hrel
    have C1 := boxOf_keep B1 hbr
    have C2 := boxOf_keep B2 hbr
    by_cases hlt : j < u.d.bl.length
    · obtain ⟨⟨e0, e1, e2⟩, he⟩ : ∃ e, u.d.bl[j]? = some e := ⟨u.d.bl[j], List.getElem?_eq_getElem hlt⟩
      obtain ⟨q1, q2, q3⟩ := (hS.out.later hbr).entry_of he
      obtain ⟨m0, m1, m2, m3, m4, m5⟩ := (hM.out.later hbr).mark_of (e := (e0, u.d.it, e1, e2, allV (u.d.bl.take j) x u.c.x9 u.c.x10, 0)) (by rw [HL.out]; exact mkL_at he _ _ _ _)
      have HT := hide (show allV (u.d.bl.take (j + 1)) x u.c.x9 u.c.x10 = apV e1 e2 (allV (u.d.bl.take j) x u.c.x9 u.c.x10) u.c.x9 u.c.x10 by rw [take_snoc _ _ _ he, allV_snoc]; rfl)
      have ip := hide (allV_i64 (o.out.f.b.take j) ix.out o.out.lo o.out.hi)
      have ie := hide (o.out.f.b.at he)
      obtain ⟨p, hp⟩ : ∃ p, allV (u.d.bl.take j) x u.c.x9 u.c.x10 = p := ⟨_, rfl⟩
      simp only [] at m0 m1 m2 m3 m4 m5 q1 q2 q3 ie
      rw [hp] at HT ip m4 ⊢
      have hne : ∀ W, (binOp .neq 29 (.agg #[.int .i64 e1, .int .i64 e2]) (.agg #[.int .i64 e1, .int .i64 e2])).run Try.prog W = .ok (.bool false) W := fun W => by simp [go_sem]
      have j0 : (0 : Int) ≤ (j : Int) := Int.natCast_nonneg _
      have j1 : (j : Int) < (u.d.bl.length : Int) := by omega
      have j2 : (j : Int) < (vv.ll.length : Int) := by have := HN.out; omega
      clear hp he
      go_wp2_with fail
      have D1 := boxOf_keep C1 (belowN wr (.cells #[.int .i64 e0, .int .i64 u.d.it, .int .i64 e1, .int .i64 e2, .int .i64 p, .int .i64 0] 49))
      have D2 := boxOf_keep C2 (belowN wr (.cells #[.int .i64 e0, .int .i64 u.d.it, .int .i64 e1, .int .i64 e2, .int .i64 p, .int .i64 0] 49))
      have D3 := boxOf_newA wr #[.int .i64 e0, .int .i64 u.d.it, .int .i64 e1, .int .i64 e2, .int .i64 p, .int .i64 0] 49 _ rfl
      replace q1 := cell_keep q1 (belowN wr (.cells #[.int .i64 e0, .int .i64 u.d.it, .int .i64 e1, .int .i64 e2, .int .i64 p, .int .i64 0] 49))
      replace q2 := cell_keep q2 (belowN wr (.cells #[.int .i64 e0, .int .i64 u.d.it, .int .i64 e1, .int .i64 e2, .int .i64 p, .int .i64 0] 49))
      replace q3 := cell_keep q3 (belowN wr (.cells #[.int .i64 e0, .int .i64 u.d.it, .int .i64 e1, .int .i64 e2, .int .i64 p, .int .i64 0] 49))
      replace hbr := hbr.alloc hbr.size (.cells #[.int .i64 e0, .int .i64 u.d.it, .int .i64 e1, .int .i64 e2, .int .i64 p, .int .i64 0] 49)
      obtain ⟨gm, hgm⟩ : ∃ g, wr.heap.size = g := ⟨_, rfl⟩
      rw [hgm] at D3 ⊢
      clear hgm C1 C2 m0 m1 m2 m3 m4 m5
      generalize (wr.alloc (.cells #[.int .i64 e0, .int .i64 u.d.it, .int .i64 e1, .int .i64 e2, .int .i64 p, .int .i64 0] 49)) = wq at *
      go_quiet (fail)
      go_wp2_with fail
      refine (rapply_any e1 e2 p u.c.x9 u.c.x10 _ ip.out ie.out o.out.lo o.out.hi).mono ?_
      rintro e v1 ⟨rfl, hb1⟩
      go_wp2
      go_roundw
      case rel => exact ⟨j + 1, by omega, by go_num, by rw [HT.out], below_next (below_drewN hbr _) (below_drewN hbr _).size hb1⟩
      case measure => simp [intOf]; omega
    · obtain rfl : j = u.d.bl.length := by omega
      have j2 : ¬ ((u.d.bl.length : Int) < (vv.ll.length : Int)) := by have := HN.out; omega
      go_wp2
      go_ret
      exact ⟨ret_b (by simp), below_next hB hB.size hbr⟩
end Go.Proofs.Ytiacgbkaflcbeaa
