/- The walk of GatherWaits. -/
import Derived.Test.YtlbekjnpaiiilaaW14Base
import Derived.Test.YtlbekjnpaiiilaaItsN
import Derived.Test.YtlbekjnpaiiilaaAlk
import Derived.Test.YtlbekjnpaiiilaaM4
import Derived.Test.YtlbekjnpaiiilaaM1
import Derived.Lib.QuietBelow
import Derived.Deep.QuietTactic
import Derived.BigQuiet
import Derived.Deep.RegionHeld3
import Derived.Deep.Cut
namespace Go.Proofs.Ytlbekjnpaiiilaa
open Go.RowKit Go.Sort
set_option linter.unusedVariables false
set_option linter.unusedSimpArgs false

attribute [local irreducible] tcs thc ccs zT
attribute [local go_sem ↓] alTn_is alRn_is
attribute [local go_sem] run_alTnf run_alTnt run_alRnf run_alRnt zT_length
attribute [local go_sem ↓] lbTn_is lbRn_is lbTh_is lbRh_is lbCf_is lbRc_is sbTn_is sbRn_is sbTh_is sbRh_is sbCf_is sbRc_is
attribute [local go_sem] run_lbTn run_lbRn run_lbTh run_lbRh run_lbCf run_lbRc run_sbTn run_sbRn run_sbTh run_sbRh run_sbCf run_sbRc
attribute [local go_sem 2000] boxOf_old'
attribute [local go_sem] boxOf_at' boxOf_free' boxOf_alloc objBox_cells objBox_cellsA boxOf_drew boxOf_setI boxOf_setsI size_sets tcs_length thc_length ccs_length tcs_one thc_one ccs_one sub_tn sub_th sub_cf sub_thAll sub_cfAll put_turn put_thread
attribute [local go_sem] tc0 tc1 tc2 tc3 tc4 tc5 tc6 tc7 tc8 tc9 tc10 tc11 tc12 tc13 tc14 tc15 tc16 tc17 tc18 tc19 tc20 tc21 tc22 tc23 tc24 tc25 tc26 tc27 tc28 tc29 tc30 tc31 tc32 tc33 tc34 tc35 tc36 hc0 hc1 hc2 hc3 hc4 hc5 hc6 hc7 hc8 hc9 hc10 hc11 hc12 hc13 hc14 hc15 hc16 kc0 kc1 kc2 kc3 kc4 kc5 kc6 kc7 kc8 kc9 kc10 kc11 tg0 tg1 tg2 tg3 tg4 tg5 tg6 tg7 tg8 tg9 tg10 tg11 tg12 tg13 tg14 tg15 tg16 tg17 tg18 tg19 tg20 tg21 tg22 tg23 tg24 tg25 tg26 tg27 tg28 tg29 tg30 tg31 tg32 tg33 tg34 tg35 tg36 hg0 hg1 hg2 hg3 hg4 hg5 hg6 hg7 hg8 hg9 hg10 hg11 hg12 hg13 hg14 hg15 hg16 kg0 kg1 kg2 kg3 kg4 kg5 kg6 kg7 kg8 kg9 kg10 kg11
attribute [local go_sem] ts12 ts13 ts14 ts16 ts17 ts18 ts19 ts20 ts21 ts22 ts23 ts24 ts25 ts26 ts27 ts28 ts29 ts30 ts31 ts32 ts33 ts34 ts35 ts36 ts15 hs0 hs1 hs2 hs3 hs7 hs8 hs9 hs10 hs11 hs12 hs13 hs14 hs15 hs16

attribute [local irreducible] zC zH
attribute [local go_sem ↓] alCf_is alRc_is alTh_is
attribute [local go_sem] run_alCf run_alRc run_alTh zC_length zH_length put_conf put_thrd
set_option maxRecDepth 100000 in
set_option maxHeartbeats 4000000 in
theorem waits_walk (u : Tn) (a : TA) (z : Int) (z0 : 0 ≤ z) (z1 : z ≤ 255) (w : World) (hi : TnIn w u a) : Calls Try.prog 4 #[.agg (tcs u a).toArray, .int .u8 z] w (BoolPost true w) := by
  have B1 : boxOf (((w.alloc (.cells (tcs u a).toArray 38)).alloc (.cells zC.toArray 40)).setCells (w.heap.size + 1) 0 (ccs u.c)) w.heap.size = some (tcs u a) := by simp [go_sem]
  have BC : boxOf (((w.alloc (.cells (tcs u a).toArray 38)).alloc (.cells zC.toArray 40)).setCells (w.heap.size + 1) 0 (ccs u.c)) (w.heap.size + 1) = some (ccs u.c) := by simp [go_sem]
  have hs : w.heap.size + 1 < (((w.alloc (.cells (tcs u a).toArray 38)).alloc (.cells zC.toArray 40)).setCells (w.heap.size + 1) 0 (ccs u.c)).heap.size := by simp [size_sets]
  have hB : Below w.heap.size w (((w.alloc (.cells (tcs u a).toArray 38)).alloc (.cells zC.toArray 40)).setCells (w.heap.size + 1) 0 (ccs u.c)) := below_sets _ (by omega) _ _ _ _ ((belowN w _).alloc (by simp) _)
  go_enter Try.func4, Try.ntmps4
  go_wp2_with fail
  generalize (((w.alloc (.cells (tcs u a).toArray 38)).alloc (.cells zC.toArray 40)).setCells (w.heap.size + 1) 0 (ccs u.c)) = wz at *
  refine (big_tn u a _ (hi.m.later hB)).mono ?_
  rintro e w1 ⟨r, rfl, hr, hb1⟩
  replace B1 := boxOf_keep B1 hb1
  replace BC := boxOf_keep BC hb1
  replace hs := Nat.lt_of_lt_of_le hs hb1.size
  replace hB := below_next hB hB.size hb1
  clear hb1
  cases r with
  | true =>
    go_wp2_with (go_at_call 9; refine (shown_any _).mono ?_; rintro e ws ⟨rfl, hbs⟩; replace hB := below_next hB hB.size hbs; clear hbs)
    go_ret
    exact ⟨ret_b (by simp), hB⟩
  | false =>
  have sm := hide (hr rfl)
  clear hr
  go_wp2_with fail
  refine (may_any u a _).mono ?_
  rintro e w2 ⟨r, rfl, hr, hb1⟩
  replace B1 := boxOf_keep B1 hb1
  replace BC := boxOf_keep BC hb1
  replace hs := Nat.lt_of_lt_of_le hs hb1.size
  replace hB := below_next hB hB.size hb1
  clear hb1
  cases r with
  | false =>
    go_wp2_with (go_at_call 9; refine (shown_any _).mono ?_; rintro e ws ⟨rfl, hbs⟩; replace hB := below_next hB hB.size hbs; clear hbs)
    go_ret
    exact ⟨ret_b (by simp), hB⟩
  | true =>
  have my := hide (hr rfl)
  clear hr
  have h := hide (hi.at sm.out)
  have o := hide (hi.ok sm.out my.out)
  have ht := tt_my my.out o.out.c
  have hx0 := o.out.c.h0
  clear hi
  rcases inR_cases u.d.hl.length u.d.pl with ⟨j, hj, hpl⟩ | hno
  case inr =>
    by_cases h0 : u.d.pl < 0
    · clear hno
      go_wp2_with (go_at_call 9; refine (shown_any _).mono ?_; rintro e ws ⟨rfl, hbs⟩; replace hB := below_next hB hB.size hbs; clear hbs)
      go_ret
      exact ⟨ret_b (by simp), hB⟩
    · have h1 : (u.d.hl.length : Int) ≤ u.d.pl := by omega
      clear hno
      go_wp2_with (go_at_call 9; refine (shown_any _).mono ?_; rintro e ws ⟨rfl, hbs⟩; replace hB := below_next hB hB.size hbs; clear hbs)
      go_ret
      exact ⟨ret_b (by simp), hB⟩
  obtain ⟨n, hn⟩ : ∃ n, u.d.hl[j]? = some n := ⟨u.d.hl[j], List.getElem?_eq_getElem hj⟩
  have hin6 := o.out.f.h n (List.mem_of_getElem? hn)
  have HDP := hide (hdP_at hpl hn)
  have RC := fun W => rnode_tn u.c o.out.c u.d.it o.out.iit n hin6 W
  have hsg := np_sign u.c o.out.c u.d.it n
  have hin := hide (fun q => node_inG my.out n q)
  obtain ⟨np, hnp⟩ : ∃ x, npV u.c u.d.it n = x := ⟨_, rfl⟩
  rw [hnp] at RC hsg hin HDP
  have k0 : (0 : Int) ≤ (j : Int) := Int.natCast_nonneg _
  have k1 : (j : Int) < (u.d.hl.length : Int) := by omega
  have k2 : ¬ (u.d.hl.length : Int) ≤ (j : Int) := by omega
  have k3 : ¬ (j : Int) < 0 := by omega
  have HJ := hide hj
  clear hnp hj
  go_wp2_with fail
  refine (shown_any _).mono ?_
  rintro e w4 ⟨rfl, hb1⟩
  replace B1 := boxOf_keep B1 hb1
  replace BC := boxOf_keep BC hb1
  replace hs := Nat.lt_of_lt_of_le hs hb1.size
  replace hB := below_next hB hB.size hb1
  clear hb1
  obtain ⟨bh, oh, eh, _, ch⟩ := (h.out.th.h.later hB).2 (show 0 < u.d.hl.length by have := HJ.out; omega)
  have chj := ch j (.int .i64 n) (by simp [hn])
  have HN0 := hide hn
  clear ch hn
  go_upto_region 4 with fail
  have R1 := fun d os => boxOf_keep B1 (below_regrown w4 d os)
  have R2 := fun d os => boxOf_keep BC (below_regrown w4 d os)
  have r1 := cell_regrown chj
  have Qn := hide (fun d os => Calls.regrown_of (w := w4) (RC (grow (redrawn w4 d) os)))
  clear RC
  refine wp_region_quiet_below (by kernel_rfl) (by kernel_rfl) ?_
  repeat (go_big_quiet_step (first | (go_at_call 11; exact Qn.out _ _)))
  refine wpQuiet_nil ?_
  intro _ hw'
  obtain ⟨⟨dq, osq⟩, hw''⟩ := hw'
  subst hw''
  replace B1 := R1 dq osq
  replace hB := below_next hB hB.size (below_regrown w4 dq osq)
  replace hs := Nat.lt_of_lt_of_le hs (below_regrown w4 dq osq).size
  replace BC := R2 dq osq
  clear R1 R2 r1 Qn chj
  generalize grow (redrawn w4 dq) osq = wq at *
  rcases hsg with hsg | hsg
  · subst hsg
    go_wp2
    go_ret
    exact ⟨ret_b (by simp), hB⟩
  obtain ⟨k, rfl, hkl⟩ := hin.out hsg
  have kk0 : (0 : Int) ≤ (k : Int) := Int.natCast_nonneg _
  have kk1 : (k : Int) < (u.ws.length : Int) := by omega
  have HKL := hide hkl
  have HPL := hide hpl
  clear hin hsg hpl eh k0 k1 k2 k3
  obtain ⟨i0, hi0, hz0, hz1, hz2⟩ := info_parts info3
  generalize wq = y1 at *
  have hfew : u.ws.length ≤ 20000 := h.out.m.few
  have hsu : w.heap.size < y1.heap.size := by omega
  have sw := h.out.m.words.later hB
  have nbE := belowN y1 (.cells #[] 3)
  have B1e := boxOf_keep B1 nbE
  have BCe := boxOf_keep BC nbE
  clear hkl B1 BC
  go_wp2_with (at_builtin; refine wpList_app _ rfl _ _ 24 rfl y1.heap.size 3 i0 _ 1 8 Try.underlying24 hi0 hz0 hz1 hz2 rfl (by omega) _ 0 _ rfl (own_empty y1 _ _ _ (Nat.le_refl _)) _ _ u.ws.length a.mc _ rfl (sw.later nbE) (by simp [Value.oneCell']) (by unfold maxLen; omega) (by omega) (by simp) ?_; intro q y2 hown hgw; rw [Nat.zero_add] at hown; obtain ⟨g, cq, cur, rfl, hg, hcur, hcl, htake⟩ := own_box (by have := HKL.out; omega) hown; replace B1e := boxOf_grown hgw B1e (Ne.symm (own_ne (own_empty y1 y1.heap.size 3 1 (Nat.le_refl _)) hsu)); replace BCe := boxOf_grown hgw BCe (Ne.symm (own_ne (own_empty y1 y1.heap.size 3 1 (Nat.le_refl _)) hs)); have hB2 : Below w.heap.size w y2 := (hB.alloc hB.size _).grown hgw (by simp; omega) (fun k e => Nat.le_trans hB.size (own_at (own_empty y1 y1.heap.size 3 1 (Nat.le_refl _)) k e)))
  have hf := rem_15 z u.c.x0 z0 hx0
  have KJ := fun W => joined_any (z % u.c.x0) hf W
  have ijv := fr_i64 (k := 2) (by decide) hf
  obtain ⟨f, hfe⟩ : ∃ f, z % u.c.x0 = f := ⟨_, rfl⟩
  rw [hfe] at KJ ijv hf ⊢
  have HJ1 : ∀ (v : Tn), v.tt = u.tt → hdP v = (k : Int) → v.ws[k]? = some (frV 2 f) → lokG v = v := fun v _ hk hx => lok_join hf hk hx
  have HJ2 : ∀ (v : Tn), hdP v = (k : Int) → v.ws[k]? = some (frV 2 f) → relG v = { v with d := { v.d with ph := 7 } } := fun v hk hx => rel_no hk hx (fr_ne (by decide) (by decide) (by decide))
  obtain ⟨jv, hjv⟩ : ∃ x, frV 2 f = x := ⟨_, rfl⟩
  rw [hjv] at KJ ijv
  simp only [hjv] at HJ1 HJ2
  clear hfe hjv
  refine (KJ _).mono ?_
  rintro e y3 ⟨rfl, hb1⟩
  replace B1e := boxOf_keep B1e hb1
  replace hcur := boxOf_keep hcur hb1
  replace hB2 := below_next hB2 hB2.size hb1
  clear KJ hb1 hown hgw BCe
  obtain ⟨nw, hnw⟩ : ∃ l, u.ws.set k jv = l := ⟨_, rfl⟩
  have HN : Hid (nw.length = u.ws.length) := hide (by rw [← hnw]; simp)
  have hxk : nw[k]? = some jv := by rw [← hnw, List.getElem?_set_self HKL.out]
  have inw : ∀ x ∈ nw, I64 x := by rw [← hnw]; exact set_i64 o.out.ws k ijv
  have ne1 : ¬ g = w.heap.size := by omega
  have ne2 : ¬ w.heap.size = g := by omega
  have htk := take_set (k := k) htake jv
  rw [hnw] at htk
  have ucur : cur[k]? = some (cur[k]'(by have := HKL.out; omega)) := List.getElem?_eq_getElem _
  obtain ⟨u0, hu0⟩ : ∃ x, cur[k]'(by have := HKL.out; omega) = x := ⟨_, rfl⟩
  rw [hu0] at ucur
  have hdp1 : hdP ({ u with ws := nw, d := { u.d with ph := 7 } } : Tn) = (k : Int) := HDP.out
  have E1 : stepG ({ u with ws := nw, d := { u.d with ph := 7 } } : Tn) = ({ u with ws := nw, d := { u.d with ph := 7 } } : Tn) := by rw [stepG7 rfl]; exact HJ1 _ rfl hdp1 hxk
  have E2 : stepG ({ u with ws := nw, d := { u.d with ph := 8 } } : Tn) = ({ u with ws := nw, d := { u.d with ph := 7 } } : Tn) := by rw [stepG8 rfl]; exact HJ2 ({ u with ws := nw, d := { u.d with ph := 8 } } : Tn) HDP.out hxk
  have I1 : isG ({ u with ws := nw, d := { u.d with ph := 7 } } : Tn) = true := isG_of (show (7 : Int) ≤ 7 ∧ (7 : Int) ≤ 12 by decide)
  have I2 : isG ({ u with ws := nw, d := { u.d with ph := 8 } } : Tn) = true := isG_of (show (7 : Int) ≤ 8 ∧ (8 : Int) ≤ 12 by decide)
  have o1 : TnOk ({ u with ws := nw, d := { u.d with ph := 7 } } : Tn) := o.out.ph (ws := nw) (bx := u.bx) (i64_k 7 (by decide)) inw
  have o2 : TnOk ({ u with ws := nw, d := { u.d with ph := 8 } } : Tn) := o.out.ph (ws := nw) (bx := u.bx) (i64_k 8 (by decide)) inw
  have S1h := hide (fun A W (m : TnAt W ({ u with ws := nw, d := { u.d with ph := 7 } } : Tn) A) => gstep_any ({ u with ws := nw, d := { u.d with ph := 7 } } : Tn) A o1 ht W m)
  have S2h := hide (fun A W (m : TnAt W ({ u with ws := nw, d := { u.d with ph := 8 } } : Tn) A) => gstep_any ({ u with ws := nw, d := { u.d with ph := 8 } } : Tn) A o2 ht W m)
  rw [E1, I1] at S1h
  rw [E2, I2] at S2h
  have O1 := hide o1
  clear E1 E2 I1 I2 o1 o2 HJ1 HJ2 hdp1 inw hnw hu0 hf ijv
  have hs2 : w.heap.size < y3.heap.size := boxOf_lt B1e
  have C1 : boxOf (((y3.setCell ⟨g, k, none⟩ (.int .i64 jv)).setCell ⟨w.heap.size, 14, none⟩ (.slice (some ⟨g, 0, none⟩) u.ws.length cq)).setCell ⟨w.heap.size, 16, none⟩ (.int .i64 7)) w.heap.size = some (tcs ({ u with ws := nw, d := { u.d with ph := 7 } } : Tn) ({ a with mA := some ⟨g, 0, none⟩, mc := cq } : TA)) := by
    have t := boxOf_set _ w.heap.size 16 (.int .i64 7) (boxOf_set _ w.heap.size 14 (.slice (some ⟨g, 0, none⟩) u.ws.length cq) (show boxOf (y3.setCell ⟨g, k, none⟩ (.int .i64 jv)) w.heap.size = some (tcs u a) by rw [boxOf_far _ _ _ _ ne1]; exact B1e))
    rw [← HN.out, ts14, ts16] at t
    rw [← HN.out]
    exact t
  have hBX : Below w.heap.size w (((y3.setCell ⟨g, k, none⟩ (.int .i64 jv)).setCell ⟨w.heap.size, 14, none⟩ (.slice (some ⟨g, 0, none⟩) u.ws.length cq)).setCell ⟨w.heap.size, 16, none⟩ (.int .i64 7)) := ((hB2.setCell (by show w.heap.size ≤ g; omega) _).setCell (by simp) _).setCell (by simp) _
  have sX : Sees (((y3.setCell ⟨g, k, none⟩ (.int .i64 jv)).setCell ⟨w.heap.size, 14, none⟩ (.slice (some ⟨g, 0, none⟩) u.ws.length cq)).setCell ⟨w.heap.size, 16, none⟩ (.int .i64 7)) (((y3.setCell ⟨g, k, none⟩ (.int .i64 jv)).setCell ⟨w.heap.size, 14, none⟩ (.slice (some ⟨g, 0, none⟩) u.ws.length cq)).setCell ⟨w.heap.size, 16, none⟩ (.int .i64 7)).heap.size 1 (some ⟨g, 0, none⟩) nw.length (nw.map (Value.int .i64)) := by
    have t := sees_take (boxOf_set _ g k (.int .i64 jv) hcur) htk HN.out.symm
    exact (t.own1 _ _ _ (fun _ p hp => by cases hp; exact ne1)).own1 _ _ _ (fun _ p hp => by cases hp; exact ne1)
  have hl := h.out.later hBX
  have TX : TnAt (((y3.setCell ⟨g, k, none⟩ (.int .i64 jv)).setCell ⟨w.heap.size, 14, none⟩ (.slice (some ⟨g, 0, none⟩) u.ws.length cq)).setCell ⟨w.heap.size, 16, none⟩ (.int .i64 7)) ({ u with ws := nw, d := { u.d with ph := 7 } } : Tn) ({ a with mA := some ⟨g, 0, none⟩, mc := cq } : TA) := ⟨h.out.m.words_at hBX sX HN.out, hl.bx, ⟨hl.th.b, hl.th.k, hl.th.h⟩, hl.tp, hl.lg⟩
  have oh := h.out.off (Nat.le_refl _)
  have OX : Off w.heap.size ({ u with ws := nw, d := { u.d with ph := 7 } } : Tn) ({ a with mA := some ⟨g, 0, none⟩, mc := cq } : TA) := ⟨fun _ p hp => by cases hp; exact ne1, oh.x, oh.e, oh.b, oh.k, oh.h, oh.t, oh.l⟩
  have TW : tcs ({ u with d := { u.d with ph := 7 } } : Tn) ({ a with mA := some ⟨g, 0, none⟩, mc := cq } : TA) = tcs ({ u with ws := nw, d := { u.d with ph := 7 } } : Tn) ({ a with mA := some ⟨g, 0, none⟩, mc := cq } : TA) := by unfold tcs; rw [HN.out]
  have lX : w.heap.size < (((y3.setCell ⟨g, k, none⟩ (.int .i64 jv)).setCell ⟨w.heap.size, 14, none⟩ (.slice (some ⟨g, 0, none⟩) u.ws.length cq)).setCell ⟨w.heap.size, 16, none⟩ (.int .i64 7)).heap.size := by simp; omega
  have S1 := hide (S1h.out _ _ TX)
  have OX' := hide OX
  have TX' := hide TX
  clear sX hl oh TX OX htk htake sw nbE
  rw [TW] at *
  go_wp2_with fail
  clear B1e hcur ucur hg hcl
  generalize (((y3.setCell ⟨g, k, none⟩ (.int .i64 jv)).setCell ⟨w.heap.size, 14, none⟩ (.slice (some ⟨g, 0, none⟩) u.ws.length cq)).setCell ⟨w.heap.size, 16, none⟩ (.int .i64 7)) = yX at *
  refine S1.out.mono ?_
  rintro e z1 ⟨a2, rfl, T2, off2, hb1⟩
  have O2 := off2 w.heap.size lX OX'.out
  replace C1 := boxOf_keep C1 hb1
  replace hBX := below_next hBX hBX.size hb1
  replace TX' := hide (TX'.out.later hb1)
  have nb := belowY z1 ({ u with ws := nw, d := { u.d with ph := 7 } } : Tn) a2 38
  have C2 := boxY z1 ({ u with ws := nw, d := { u.d with ph := 7 } } : Tn) a2 38
  have lz := boxOf_lt C1
  replace C1 := boxOf_keep C1 nb
  replace hBX := below_next hBX hBX.size nb
  replace TX' := hide (TX'.out.later nb)
  replace T2 := T2.later nb
  clear S1 S1h off2 hb1 nb
  go_upto_region 9 with fail
  have D1 : boxOf (((z1.alloc (.cells zT.toArray 38)).setCells z1.heap.size 0 (tcs ({ u with ws := nw, d := { u.d with ph := 7 } } : Tn) a2)).setCell ⟨w.heap.size, 16, none⟩ (.int .i64 8)) w.heap.size = some (tcs ({ u with ws := nw, d := { u.d with ph := 8 } } : Tn) ({ a with mA := some ⟨g, 0, none⟩, mc := cq } : TA)) := (boxOf_set _ _ 16 _ C1).trans (congrArg some (ts16 _ _ _))
  have D2 : boxOf (((z1.alloc (.cells zT.toArray 38)).setCells z1.heap.size 0 (tcs ({ u with ws := nw, d := { u.d with ph := 7 } } : Tn) a2)).setCell ⟨w.heap.size, 16, none⟩ (.int .i64 8)) z1.heap.size = some (tcs ({ u with ws := nw, d := { u.d with ph := 7 } } : Tn) a2) := (boxOf_far _ _ _ _ (by show w.heap.size ≠ _; omega)).trans C2
  have hB8 : Below w.heap.size w (((z1.alloc (.cells zT.toArray 38)).setCells z1.heap.size 0 (tcs ({ u with ws := nw, d := { u.d with ph := 7 } } : Tn) a2)).setCell ⟨w.heap.size, 16, none⟩ (.int .i64 8)) := hBX.setCell (by simp) _
  have L8 : Lk ({ u with ws := nw, d := { u.d with ph := 7 } } : Tn) ({ u with ws := nw, d := { u.d with ph := 8 } } : Tn) := ⟨rfl, rfl, rfl, rfl, rfl, rfl, rfl⟩
  have TX8 : TnAt (((z1.alloc (.cells zT.toArray 38)).setCells z1.heap.size 0 (tcs ({ u with ws := nw, d := { u.d with ph := 7 } } : Tn) a2)).setCell ⟨w.heap.size, 16, none⟩ (.int .i64 8)) ({ u with ws := nw, d := { u.d with ph := 8 } } : Tn) ({ a with mA := some ⟨g, 0, none⟩, mc := cq } : TA) := L8.at (TX'.out.set1 OX'.out 16 _)
  have T28 := hide (T2.set1 O2 16 (.int .i64 8))
  have S2 := hide (S2h.out _ _ TX8)
  have l8 : w.heap.size < (((z1.alloc (.cells zT.toArray 38)).setCells z1.heap.size 0 (tcs ({ u with ws := nw, d := { u.d with ph := 7 } } : Tn) a2)).setCell ⟨w.heap.size, 16, none⟩ (.int .i64 8)).heap.size := by have := boxOf_lt D1; omega
  have TX9 := hide TX8
  have OX8 := hide (L8.off OX'.out)
  clear C1 C2 hBX TX' T2 S2h TX8 L8
  generalize (((z1.alloc (.cells zT.toArray 38)).setCells z1.heap.size 0 (tcs ({ u with ws := nw, d := { u.d with ph := 7 } } : Tn) a2)).setCell ⟨w.heap.size, 16, none⟩ (.int .i64 8)) = y8 at *
  generalize z1.heap.size = g2 at *
  refine S2.out.mono ?_
  rintro e z2 ⟨a3, rfl, T3, off3, hb1⟩
  have O3 := off3 w.heap.size l8 OX8.out
  replace D1 := boxOf_keep D1 hb1
  replace D2 := boxOf_keep D2 hb1
  replace hB8 := below_next hB8 hB8.size hb1
  have nb := belowY z2 ({ u with ws := nw, d := { u.d with ph := 7 } } : Tn) a3 38
  have D3 := boxY z2 ({ u with ws := nw, d := { u.d with ph := 7 } } : Tn) a3 38
  have lz2 := boxOf_lt D1
  have lg2 := boxOf_lt D2
  replace D1 := boxOf_keep D1 nb
  replace D2 := boxOf_keep D2 nb
  replace hB8 := below_next hB8 hB8.size nb
  replace TX9 := hide ((TX9.out.later hb1).later nb)
  replace T28 := hide ((T28.out.later hb1).later nb)
  replace T3 := T3.later nb
  have nz1 : ¬ z2.heap.size = w.heap.size := by omega
  have nz2 : ¬ w.heap.size = z2.heap.size := by omega
  have nz3 : ¬ w.heap.size = g2 := by omega
  have nz4 : ¬ g2 = w.heap.size := by omega
  clear S2 off3 hb1 nb
  have F1 : boxOf (((z2.alloc (.cells zT.toArray 38)).setCells z2.heap.size 0 (tcs ({ u with ws := nw, d := { u.d with ph := 7 } } : Tn) a3)).setCell ⟨w.heap.size, 16, none⟩ (.int .i64 7)) w.heap.size = some (tcs ({ u with ws := nw, d := { u.d with ph := 7 } } : Tn) ({ a with mA := some ⟨g, 0, none⟩, mc := cq } : TA)) := (boxOf_set _ _ 16 _ D1).trans (congrArg some (ts16 _ _ _))
  have F2 : boxOf (((z2.alloc (.cells zT.toArray 38)).setCells z2.heap.size 0 (tcs ({ u with ws := nw, d := { u.d with ph := 7 } } : Tn) a3)).setCell ⟨w.heap.size, 16, none⟩ (.int .i64 7)) g2 = some (tcs ({ u with ws := nw, d := { u.d with ph := 7 } } : Tn) a2) := (boxOf_far _ _ _ _ nz3).trans D2
  have F3 : boxOf (((z2.alloc (.cells zT.toArray 38)).setCells z2.heap.size 0 (tcs ({ u with ws := nw, d := { u.d with ph := 7 } } : Tn) a3)).setCell ⟨w.heap.size, 16, none⟩ (.int .i64 7)) z2.heap.size = some (tcs ({ u with ws := nw, d := { u.d with ph := 7 } } : Tn) a3) := (boxOf_far _ _ _ _ nz2).trans D3
  have hB9 : Below w.heap.size w (((z2.alloc (.cells zT.toArray 38)).setCells z2.heap.size 0 (tcs ({ u with ws := nw, d := { u.d with ph := 7 } } : Tn) a3)).setCell ⟨w.heap.size, 16, none⟩ (.int .i64 7)) := hB8.setCell (by simp) _
  have L9 : Lk ({ u with ws := nw, d := { u.d with ph := 8 } } : Tn) ({ u with ws := nw, d := { u.d with ph := 7 } } : Tn) := ⟨rfl, rfl, rfl, rfl, rfl, rfl, rfl⟩
  have HU := hide (L9.at (TX9.out.set1 OX8.out 16 (.int .i64 7)))
  have HV := hide (T28.out.set1 O2 16 (.int .i64 7))
  have HX := hide (T3.set1 O3 16 (.int .i64 7))
  clear TX9 T28 T3 L9
  go_wp2_with fail
  clear D1 D2 D3 hB8
  generalize (((z2.alloc (.cells zT.toArray 38)).setCells z2.heap.size 0 (tcs ({ u with ws := nw, d := { u.d with ph := 7 } } : Tn) a3)).setCell ⟨w.heap.size, 16, none⟩ (.int .i64 7)) = y9 at *
  generalize z2.heap.size = g3 at *
  have tok1 := hide True.intro
  have tok2 := hide True.intro
  have tok3 := hide True.intro
  have tok4 := hide True.intro
  have tok5 := hide True.intro
  have Z : boxOf (y9.drew) w.heap.size = some (tcs ({ u with ws := nw, d := { u.d with ph := 7 } } : Tn) ({ a with mA := some ⟨g, 0, none⟩, mc := cq } : TA)) ∧ boxOf (y9.drew) g2 = some (tcs ({ u with ws := nw, d := { u.d with ph := 7 } } : Tn) a2) ∧ boxOf (y9.drew) g3 = some (tcs ({ u with ws := nw, d := { u.d with ph := 7 } } : Tn) a3) ∧ Below y9.heap.size y9 (y9.drew) := ⟨by rw [boxOf_drew]; exact F1, by rw [boxOf_drew]; exact F2, by rw [boxOf_drew]; exact F3, (Below.refl _ _).drew⟩
  go_region_held3 (fun w' => boxOf (w') w.heap.size = some (tcs ({ u with ws := nw, d := { u.d with ph := 7 } } : Tn) ({ a with mA := some ⟨g, 0, none⟩, mc := cq } : TA)) ∧ boxOf (w') g2 = some (tcs ({ u with ws := nw, d := { u.d with ph := 7 } } : Tn) a2) ∧ boxOf (w') g3 = some (tcs ({ u with ws := nw, d := { u.d with ph := 7 } } : Tn) a3) ∧ Below y9.heap.size y9 (w'))
    (first | (with_reducible exact Z) | (with_reducible exact Z1) | (with_reducible exact Z2) | (with_reducible exact Z3) | (with_reducible exact Z4) | (with_reducible exact Z5) | (with_reducible exact Z6))
    (first
      | (go_at_call 18; have _t := tok1; refine (its_any ({ u with ws := nw, d := { u.d with ph := 7 } } : Tn) a2 O1.out _ (HV.out.later Z.2.2.2)).mono ?_; rintro e v1 ⟨q1, rfl, t1, hb1⟩; have Z1 : boxOf (v1) w.heap.size = some (tcs ({ u with ws := nw, d := { u.d with ph := 7 } } : Tn) ({ a with mA := some ⟨g, 0, none⟩, mc := cq } : TA)) ∧ boxOf (v1) g2 = some (tcs ({ u with ws := nw, d := { u.d with ph := 7 } } : Tn) a2) ∧ boxOf (v1) g3 = some (tcs ({ u with ws := nw, d := { u.d with ph := 7 } } : Tn) a3) ∧ Below y9.heap.size y9 (v1) := keepR Z hb1; clear tok1)
      | (go_at_call 18; have _t := tok2; refine (its_any ({ u with ws := nw, d := { u.d with ph := 7 } } : Tn) ({ a with mA := some ⟨g, 0, none⟩, mc := cq } : TA) O1.out _ (HU.out.later Z1.2.2.2)).mono ?_; rintro e v2 ⟨q2, rfl, t2, hb2⟩; have Z2 : boxOf (v2) w.heap.size = some (tcs ({ u with ws := nw, d := { u.d with ph := 7 } } : Tn) ({ a with mA := some ⟨g, 0, none⟩, mc := cq } : TA)) ∧ boxOf (v2) g2 = some (tcs ({ u with ws := nw, d := { u.d with ph := 7 } } : Tn) a2) ∧ boxOf (v2) g3 = some (tcs ({ u with ws := nw, d := { u.d with ph := 7 } } : Tn) a3) ∧ Below y9.heap.size y9 (v2) := keepR Z1 hb2; clear tok2)
      | (go_at_call 17; have _t := tok3; refine (alike_yes ({ u with ws := nw, d := { u.d with ph := 7 } } : Tn) q1 q2 O1.out _ (t1.later hb2) t2).mono ?_; rintro e v3 ⟨rfl, hb3⟩; have Z3 : boxOf (v3) w.heap.size = some (tcs ({ u with ws := nw, d := { u.d with ph := 7 } } : Tn) ({ a with mA := some ⟨g, 0, none⟩, mc := cq } : TA)) ∧ boxOf (v3) g2 = some (tcs ({ u with ws := nw, d := { u.d with ph := 7 } } : Tn) a2) ∧ boxOf (v3) g3 = some (tcs ({ u with ws := nw, d := { u.d with ph := 7 } } : Tn) a3) ∧ Below y9.heap.size y9 (v3) := keepR Z2 hb3; clear tok3)
      | (go_at_call 18; have _t := tok4; refine (its_any ({ u with ws := nw, d := { u.d with ph := 7 } } : Tn) a3 O1.out _ (HX.out.later Z3.2.2.2)).mono ?_; rintro e v4 ⟨q4, rfl, t4, hb4⟩; have Z4 : boxOf (v4) w.heap.size = some (tcs ({ u with ws := nw, d := { u.d with ph := 7 } } : Tn) ({ a with mA := some ⟨g, 0, none⟩, mc := cq } : TA)) ∧ boxOf (v4) g2 = some (tcs ({ u with ws := nw, d := { u.d with ph := 7 } } : Tn) a2) ∧ boxOf (v4) g3 = some (tcs ({ u with ws := nw, d := { u.d with ph := 7 } } : Tn) a3) ∧ Below y9.heap.size y9 (v4) := keepR Z3 hb4; clear tok4)
      | (go_at_call 18; have _t := tok5; refine (its_any ({ u with ws := nw, d := { u.d with ph := 7 } } : Tn) ({ a with mA := some ⟨g, 0, none⟩, mc := cq } : TA) O1.out _ (HU.out.later Z4.2.2.2)).mono ?_; rintro e v5 ⟨q5, rfl, t5, hb5⟩; have Z5 : boxOf (v5) w.heap.size = some (tcs ({ u with ws := nw, d := { u.d with ph := 7 } } : Tn) ({ a with mA := some ⟨g, 0, none⟩, mc := cq } : TA)) ∧ boxOf (v5) g2 = some (tcs ({ u with ws := nw, d := { u.d with ph := 7 } } : Tn) a2) ∧ boxOf (v5) g3 = some (tcs ({ u with ws := nw, d := { u.d with ph := 7 } } : Tn) a3) ∧ Below y9.heap.size y9 (v5) := keepR Z4 hb5; clear tok5)
      | (go_at_call 17; refine (alike_yes ({ u with ws := nw, d := { u.d with ph := 7 } } : Tn) q4 q5 O1.out _ (t4.later hb5) t5).mono ?_; rintro e v6 ⟨rfl, hb6⟩; have Z6 : boxOf (v6) w.heap.size = some (tcs ({ u with ws := nw, d := { u.d with ph := 7 } } : Tn) ({ a with mA := some ⟨g, 0, none⟩, mc := cq } : TA)) ∧ boxOf (v6) g2 = some (tcs ({ u with ws := nw, d := { u.d with ph := 7 } } : Tn) a2) ∧ boxOf (v6) g3 = some (tcs ({ u with ws := nw, d := { u.d with ph := 7 } } : Tn) a3) ∧ Below y9.heap.size y9 (v6) := keepR Z5 hb6))
  go_wp2
  go_ret
  exact ⟨ret_b (by simp), below_next hB9 hB9.size Z6.2.2.2⟩
end Go.Proofs.Ytlbekjnpaiiilaa
