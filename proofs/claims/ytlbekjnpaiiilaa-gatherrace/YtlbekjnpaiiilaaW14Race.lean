/- The walk of GatherRace. -/
import Derived.Test.YtlbekjnpaiiilaaW14Base
import Derived.Test.YtlbekjnpaiiilaaItsN
import Derived.Test.YtlbekjnpaiiilaaAlk
import Derived.Test.YtlbekjnpaiiilaaM4
import Derived.Test.YtlbekjnpaiiilaaM1
import Derived.Lib.QuietBelow
import Derived.Deep.QuietTactic
import Derived.BigQuiet
import Derived.Deep.RegionHeld3
import Derived.Deep.Cut
namespace Go.Proofs.Ytlbekjnpaiiilaa
open Go.RowKit Go.Sort
set_option linter.unusedVariables false
set_option linter.unusedSimpArgs false

theorem keep7 {w W W' : World} {g1 g2 g3 g4 b1 o1 b2 o2 : Nat} {c1 c2 c3 c4 : List Value} {x1 x2 : Value} (h : boxOf W g1 = some c1 ∧ boxOf W g2 = some c2 ∧ boxOf W g3 = some c3 ∧ boxOf W g4 = some c4 ∧ W.cell? ⟨b1, o1, none⟩ = some x1 ∧ W.cell? ⟨b2, o2, none⟩ = some x2 ∧ Below w.heap.size w W) (hb : Below W.heap.size W W') : boxOf W' g1 = some c1 ∧ boxOf W' g2 = some c2 ∧ boxOf W' g3 = some c3 ∧ boxOf W' g4 = some c4 ∧ W'.cell? ⟨b1, o1, none⟩ = some x1 ∧ W'.cell? ⟨b2, o2, none⟩ = some x2 ∧ Below w.heap.size w W' := ⟨boxOf_keep h.1 hb, boxOf_keep h.2.1 hb, boxOf_keep h.2.2.1 hb, boxOf_keep h.2.2.2.1 hb, cell_keep h.2.2.2.2.1 hb, cell_keep h.2.2.2.2.2.1 hb, below_next h.2.2.2.2.2.2 h.2.2.2.2.2.2.size hb⟩
attribute [local irreducible] tcs thc ccs zT
attribute [local go_sem ↓] alTn_is alRn_is
attribute [local go_sem] run_alTnf run_alTnt run_alRnf run_alRnt zT_length
attribute [local go_sem ↓] lbTn_is lbRn_is lbTh_is lbRh_is lbCf_is lbRc_is sbTn_is sbRn_is sbTh_is sbRh_is sbCf_is sbRc_is
attribute [local go_sem] run_lbTn run_lbRn run_lbTh run_lbRh run_lbCf run_lbRc run_sbTn run_sbRn run_sbTh run_sbRh run_sbCf run_sbRc
attribute [local go_sem 2000] boxOf_old'
attribute [local go_sem] boxOf_at' boxOf_free' boxOf_alloc objBox_cells objBox_cellsA boxOf_drew boxOf_setI boxOf_setsI size_sets tcs_length thc_length ccs_length tcs_one thc_one ccs_one sub_tn sub_th sub_cf sub_thAll sub_cfAll put_turn put_thread
attribute [local go_sem] tc0 tc1 tc2 tc3 tc4 tc5 tc6 tc7 tc8 tc9 tc10 tc11 tc12 tc13 tc14 tc15 tc16 tc17 tc18 tc19 tc20 tc21 tc22 tc23 tc24 tc25 tc26 tc27 tc28 tc29 tc30 tc31 tc32 tc33 tc34 tc35 tc36 hc0 hc1 hc2 hc3 hc4 hc5 hc6 hc7 hc8 hc9 hc10 hc11 hc12 hc13 hc14 hc15 hc16 kc0 kc1 kc2 kc3 kc4 kc5 kc6 kc7 kc8 kc9 kc10 kc11 tg0 tg1 tg2 tg3 tg4 tg5 tg6 tg7 tg8 tg9 tg10 tg11 tg12 tg13 tg14 tg15 tg16 tg17 tg18 tg19 tg20 tg21 tg22 tg23 tg24 tg25 tg26 tg27 tg28 tg29 tg30 tg31 tg32 tg33 tg34 tg35 tg36 hg0 hg1 hg2 hg3 hg4 hg5 hg6 hg7 hg8 hg9 hg10 hg11 hg12 hg13 hg14 hg15 hg16 kg0 kg1 kg2 kg3 kg4 kg5 kg6 kg7 kg8 kg9 kg10 kg11
attribute [local go_sem] ts12 ts13 ts14 ts16 ts17 ts18 ts19 ts20 ts21 ts22 ts23 ts24 ts25 ts26 ts27 ts28 ts29 ts30 ts31 ts32 ts33 ts34 ts35 ts36 ts15 hs0 hs1 hs2 hs3 hs7 hs8 hs9 hs10 hs11 hs12 hs13 hs14 hs15 hs16

attribute [local irreducible] zC zH
attribute [local go_sem ↓] alCf_is alRc_is alTh_is
attribute [local go_sem] run_alCf run_alRc run_alTh zC_length zH_length put_conf put_thrd
set_option maxRecDepth 100000 in
set_option maxHeartbeats 4000000 in
theorem race_walk (u : Tn) (a : TA) (z : Int) (z0 : 0 ≤ z) (z1 : z ≤ 255) (w : World) (hi : TnIn w u a) : Calls Try.prog 5 #[.agg (tcs u a).toArray, .int .u8 z] w (BoolPost true w) := by
  have B1 : boxOf (((w.alloc (.cells (tcs u a).toArray 38)).alloc (.cells zC.toArray 40)).setCells (w.heap.size + 1) 0 (ccs u.c)) w.heap.size = some (tcs u a) := by simp [go_sem]
  have BC : boxOf (((w.alloc (.cells (tcs u a).toArray 38)).alloc (.cells zC.toArray 40)).setCells (w.heap.size + 1) 0 (ccs u.c)) (w.heap.size + 1) = some (ccs u.c) := by simp [go_sem]
  have hs : w.heap.size + 1 < (((w.alloc (.cells (tcs u a).toArray 38)).alloc (.cells zC.toArray 40)).setCells (w.heap.size + 1) 0 (ccs u.c)).heap.size := by simp [size_sets]
  have hB : Below w.heap.size w (((w.alloc (.cells (tcs u a).toArray 38)).alloc (.cells zC.toArray 40)).setCells (w.heap.size + 1) 0 (ccs u.c)) := below_sets _ (by omega) _ _ _ _ ((belowN w _).alloc (by simp) _)
  go_enter Try.func5, Try.ntmps5
  go_wp2_with fail
  generalize (((w.alloc (.cells (tcs u a).toArray 38)).alloc (.cells zC.toArray 40)).setCells (w.heap.size + 1) 0 (ccs u.c)) = wz at *
  refine (big_tn u a _ (hi.m.later hB)).mono ?_
  rintro e w1 ⟨r, rfl, hr, hb1⟩
  replace B1 := boxOf_keep B1 hb1
  replace BC := boxOf_keep BC hb1
  replace hs := Nat.lt_of_lt_of_le hs hb1.size
  replace hB := below_next hB hB.size hb1
  clear hb1
  cases r with
  | true =>
    go_wp2_with (go_at_call 9; refine (shown_any _).mono ?_; rintro e ws ⟨rfl, hbs⟩; replace hB := below_next hB hB.size hbs; clear hbs)
    go_ret
    exact ⟨ret_b (by simp), hB⟩
  | false =>
  have sm := hide (hr rfl)
  clear hr
  go_wp2_with fail
  refine (may_any u a _).mono ?_
  rintro e w2 ⟨r, rfl, hr, hb1⟩
  replace B1 := boxOf_keep B1 hb1
  replace BC := boxOf_keep BC hb1
  replace hs := Nat.lt_of_lt_of_le hs hb1.size
  replace hB := below_next hB hB.size hb1
  clear hb1
  cases r with
  | false =>
    go_wp2_with (go_at_call 9; refine (shown_any _).mono ?_; rintro e ws ⟨rfl, hbs⟩; replace hB := below_next hB hB.size hbs; clear hbs)
    go_ret
    exact ⟨ret_b (by simp), hB⟩
  | true =>
  have my := hide (hr rfl)
  clear hr
  have h := hide (hi.at sm.out)
  have o := hide (hi.ok sm.out my.out)
  have ht := tt_my my.out o.out.c
  have hx0 := o.out.c.h0
  clear hi
  rcases inR_cases u.d.hl.length u.d.pl with ⟨j, hj, hpl⟩ | hno
  case inr =>
    by_cases h0 : u.d.pl < 0
    · clear hno
      go_wp2_with (go_at_call 9; refine (shown_any _).mono ?_; rintro e ws ⟨rfl, hbs⟩; replace hB := below_next hB hB.size hbs; clear hbs)
      go_ret
      exact ⟨ret_b (by simp), hB⟩
    · have h1 : (u.d.hl.length : Int) ≤ u.d.pl := by omega
      clear hno
      go_wp2_with (go_at_call 9; refine (shown_any _).mono ?_; rintro e ws ⟨rfl, hbs⟩; replace hB := below_next hB hB.size hbs; clear hbs)
      go_ret
      exact ⟨ret_b (by simp), hB⟩
  obtain ⟨n, hn⟩ : ∃ n, u.d.hl[j]? = some n := ⟨u.d.hl[j], List.getElem?_eq_getElem hj⟩
  have hin6 := o.out.f.h n (List.mem_of_getElem? hn)
  have HDP := hide (hdP_at hpl hn)
  have RC := fun W => rnode_tn u.c o.out.c u.d.it o.out.iit n hin6 W
  have hsg := np_sign u.c o.out.c u.d.it n
  have hin := hide (fun q => node_inG my.out n q)
  obtain ⟨np, hnp⟩ : ∃ x, npV u.c u.d.it n = x := ⟨_, rfl⟩
  rw [hnp] at RC hsg hin HDP
  have k0 : (0 : Int) ≤ (j : Int) := Int.natCast_nonneg _
  have k1 : (j : Int) < (u.d.hl.length : Int) := by omega
  have k2 : ¬ (u.d.hl.length : Int) ≤ (j : Int) := by omega
  have k3 : ¬ (j : Int) < 0 := by omega
  have HJ := hide hj
  clear hnp hj
  go_wp2_with fail
  refine (shown_any _).mono ?_
  rintro e w4 ⟨rfl, hb1⟩
  replace B1 := boxOf_keep B1 hb1
  replace BC := boxOf_keep BC hb1
  replace hs := Nat.lt_of_lt_of_le hs hb1.size
  replace hB := below_next hB hB.size hb1
  clear hb1
  obtain ⟨bh, oh, eh, _, ch⟩ := (h.out.th.h.later hB).2 (show 0 < u.d.hl.length by have := HJ.out; omega)
  have chj := ch j (.int .i64 n) (by simp [hn])
  have HN0 := hide hn
  clear ch hn
  go_upto_region 4 with fail
  have R1 := fun d os => boxOf_keep B1 (below_regrown w4 d os)
  have R2 := fun d os => boxOf_keep BC (below_regrown w4 d os)
  have r1 := cell_regrown chj
  have Qn := hide (fun d os => Calls.regrown_of (w := w4) (RC (grow (redrawn w4 d) os)))
  clear RC
  refine wp_region_quiet_below (by kernel_rfl) (by kernel_rfl) ?_
  repeat (go_big_quiet_step (first | (go_at_call 11; exact Qn.out _ _)))
  refine wpQuiet_nil ?_
  intro _ hw'
  obtain ⟨⟨dq, osq⟩, hw''⟩ := hw'
  subst hw''
  replace B1 := R1 dq osq
  replace hB := below_next hB hB.size (below_regrown w4 dq osq)
  replace hs := Nat.lt_of_lt_of_le hs (below_regrown w4 dq osq).size
  replace BC := R2 dq osq
  clear R1 R2 r1 Qn chj
  generalize grow (redrawn w4 dq) osq = wq at *
  rcases hsg with hsg | hsg
  · subst hsg
    go_wp2
    go_ret
    exact ⟨ret_b (by simp), hB⟩
  obtain ⟨k, rfl, hkl⟩ := hin.out hsg
  have kk0 : (0 : Int) ≤ (k : Int) := Int.natCast_nonneg _
  have kk1 : (k : Int) < (u.ws.length : Int) := by omega
  have HKL := hide hkl
  have HPL := hide hpl
  clear hin hsg hpl eh k0 k1 k2 k3
  obtain ⟨i0, hi0, hz0, hz1, hz2⟩ := info_parts info3
  generalize wq = y1 at *
  have hfew : u.ws.length ≤ 20000 := h.out.m.few
  have hsu : w.heap.size < y1.heap.size := by omega
  have sw := h.out.m.words.later hB
  have nbE := belowN y1 (.cells #[] 3)
  have B1e := boxOf_keep B1 nbE
  have BCe := boxOf_keep BC nbE
  clear hkl B1 BC
  go_wp2_with (at_builtin; refine wpList_app _ rfl _ _ 24 rfl y1.heap.size 3 i0 _ 1 8 Try.underlying24 hi0 hz0 hz1 hz2 rfl (by omega) _ 0 _ rfl (own_empty y1 _ _ _ (Nat.le_refl _)) _ _ u.ws.length a.mc _ rfl (sw.later nbE) (by simp [Value.oneCell']) (by unfold maxLen; omega) (by omega) (by simp) ?_; intro q y2 hown hgw; rw [Nat.zero_add] at hown; obtain ⟨g, cq, cur, rfl, hg, hcur, hcl, htake⟩ := own_box (by have := HKL.out; omega) hown; replace B1e := boxOf_grown hgw B1e (Ne.symm (own_ne (own_empty y1 y1.heap.size 3 1 (Nat.le_refl _)) hsu)); replace BCe := boxOf_grown hgw BCe (Ne.symm (own_ne (own_empty y1 y1.heap.size 3 1 (Nat.le_refl _)) hs)); have hB2 : Below w.heap.size w y2 := (hB.alloc hB.size _).grown hgw (by simp; omega) (fun k e => Nat.le_trans hB.size (own_at (own_empty y1 y1.heap.size 3 1 (Nat.le_refl _)) k e)))
  have KF := fun W => first_any u.tt ht W
  have ifv := fr_i64 (k := 1) (by decide) ht
  have hf := rem_15 z u.c.x0 z0 hx0
  have KJ := fun W => joined_any (z % u.c.x0) hf W
  have ijv := fr_i64 (k := 2) (by decide) hf
  obtain ⟨f, hfe⟩ : ∃ f, z % u.c.x0 = f := ⟨_, rfl⟩
  rw [hfe] at ijv hf
  rw [hfe] at KJ
  have HZ := hide hfe
  have HJ0 : ∀ (v : Tn), v.tt = u.tt → hdP v = (k : Int) → v.ws[k]? = some (frV 1 u.tt) → lokG v = { v with d := { v.d with ph := 8 } } := fun v hv hk hx => lok_first hk (by rw [hv]; exact hx)
  have HJ1 : ∀ (v : Tn), hdP v = (k : Int) → v.ws[k]? = some (frV 2 f) → lokG v = v := fun v hk hx => lok_join hf hk hx
  have HJ2 : ∀ (v : Tn), hdP v = (k : Int) → v.ws[k]? = some (frV 2 f) → relG v = { v with d := { v.d with ph := 7 } } := fun v hk hx => rel_no hk hx (fr_ne (by decide) (by decide) (by decide))
  obtain ⟨fv, hfv⟩ : ∃ x, frV 1 u.tt = x := ⟨_, rfl⟩
  obtain ⟨jv, hjv⟩ : ∃ x, frV 2 f = x := ⟨_, rfl⟩
  rw [hfv] at KF ifv
  rw [hjv] at KJ ijv
  simp only [hjv] at HJ1 HJ2
  simp only [hfv] at HJ0
  replace KJ := hide KJ
  clear hfe hjv hfv
  refine (KF _).mono ?_
  rintro e y3 ⟨rfl, hb1⟩
  replace B1e := boxOf_keep B1e hb1
  replace hcur := boxOf_keep hcur hb1
  replace hB2 := below_next hB2 hB2.size hb1
  clear KF hb1 hown hgw BCe
  obtain ⟨nw, hnw⟩ : ∃ l, u.ws.set k fv = l := ⟨_, rfl⟩
  have HN : Hid (nw.length = u.ws.length) := hide (by rw [← hnw]; simp)
  have hxk : nw[k]? = some fv := by rw [← hnw, List.getElem?_set_self HKL.out]
  have inw : ∀ x ∈ nw, I64 x := by rw [← hnw]; exact set_i64 o.out.ws k ifv
  obtain ⟨kw, hkw⟩ : ∃ l, nw.set k jv = l := ⟨_, rfl⟩
  have HNK : Hid (kw.length = nw.length) := hide (by rw [← hkw]; simp)
  have hkk : kw[k]? = some jv := by rw [← hkw]; exact List.getElem?_set_self (by have := HN.out; have := HKL.out; omega)
  have ikw : ∀ x ∈ kw, I64 x := by rw [← hkw]; exact set_i64 inw k ijv
  have ne1 : ¬ g = w.heap.size := by omega
  have ne2 : ¬ w.heap.size = g := by omega
  have htk := take_set (k := k) htake fv
  rw [hnw] at htk
  have ucur : cur[k]? = some (cur[k]'(by have := HKL.out; omega)) := List.getElem?_eq_getElem _
  obtain ⟨u0, hu0⟩ : ∃ x, cur[k]'(by have := HKL.out; omega) = x := ⟨_, rfl⟩
  rw [hu0] at ucur
  have E1 : stepG ({ u with ws := nw, d := { u.d with ph := 7 } } : Tn) = ({ u with ws := nw, d := { u.d with ph := 8 } } : Tn) := by rw [stepG7 rfl]; exact HJ0 ({ u with ws := nw, d := { u.d with ph := 7 } } : Tn) rfl HDP.out hxk
  have E2 : stepG ({ u with ws := kw, d := { u.d with ph := 8 } } : Tn) = ({ u with ws := kw, d := { u.d with ph := 7 } } : Tn) := by rw [stepG8 rfl]; exact HJ2 ({ u with ws := kw, d := { u.d with ph := 8 } } : Tn) HDP.out hkk
  have E3 : stepG ({ u with ws := kw, d := { u.d with ph := 7 } } : Tn) = ({ u with ws := kw, d := { u.d with ph := 7 } } : Tn) := by rw [stepG7 rfl]; exact HJ1 ({ u with ws := kw, d := { u.d with ph := 7 } } : Tn) HDP.out hkk
  have I1 : isG ({ u with ws := nw, d := { u.d with ph := 7 } } : Tn) = true := isG_of (show (7 : Int) ≤ 7 ∧ (7 : Int) ≤ 12 by decide)
  have I2 : isG ({ u with ws := kw, d := { u.d with ph := 8 } } : Tn) = true := isG_of (show (7 : Int) ≤ 8 ∧ (8 : Int) ≤ 12 by decide)
  have I3 : isG ({ u with ws := kw, d := { u.d with ph := 7 } } : Tn) = true := isG_of (show (7 : Int) ≤ 7 ∧ (7 : Int) ≤ 12 by decide)
  have o1 : TnOk ({ u with ws := nw, d := { u.d with ph := 7 } } : Tn) := o.out.ph (ws := nw) (bx := u.bx) (i64_k 7 (by decide)) inw
  have o2 : TnOk ({ u with ws := kw, d := { u.d with ph := 8 } } : Tn) := o.out.ph (ws := kw) (bx := u.bx) (i64_k 8 (by decide)) ikw
  have o3 : TnOk ({ u with ws := kw, d := { u.d with ph := 7 } } : Tn) := o.out.ph (ws := kw) (bx := u.bx) (i64_k 7 (by decide)) ikw
  have S1h := hide (fun A W (m : TnAt W ({ u with ws := nw, d := { u.d with ph := 7 } } : Tn) A) => gstep_any ({ u with ws := nw, d := { u.d with ph := 7 } } : Tn) A o1 ht W m)
  have S2h := hide (fun A W (m : TnAt W ({ u with ws := kw, d := { u.d with ph := 8 } } : Tn) A) => gstep_any ({ u with ws := kw, d := { u.d with ph := 8 } } : Tn) A o2 ht W m)
  have S3h := hide (fun A W (m : TnAt W ({ u with ws := kw, d := { u.d with ph := 7 } } : Tn) A) => gstep_any ({ u with ws := kw, d := { u.d with ph := 7 } } : Tn) A o3 ht W m)
  rw [E1, I1] at S1h
  rw [E2, I2] at S2h
  rw [E3, I3] at S3h
  have O3 := hide o3
  have HKW := hide hkw
  have HKK := hide hkk
  clear E1 E2 E3 I1 I2 I3 o1 o2 o3 HJ0 HJ1 HJ2 inw hnw hu0 hf ijv ifv hkw hkk ikw hxk
  have hs2 : w.heap.size < y3.heap.size := boxOf_lt B1e
  have C1 : boxOf (((y3.setCell ⟨g, k, none⟩ (.int .i64 fv)).setCell ⟨w.heap.size, 14, none⟩ (.slice (some ⟨g, 0, none⟩) u.ws.length cq)).setCell ⟨w.heap.size, 16, none⟩ (.int .i64 7)) w.heap.size = some (tcs ({ u with ws := nw, d := { u.d with ph := 7 } } : Tn) ({ a with mA := some ⟨g, 0, none⟩, mc := cq } : TA)) := by
    have t := boxOf_set _ w.heap.size 16 (.int .i64 7) (boxOf_set _ w.heap.size 14 (.slice (some ⟨g, 0, none⟩) u.ws.length cq) (show boxOf (y3.setCell ⟨g, k, none⟩ (.int .i64 fv)) w.heap.size = some (tcs u a) by rw [boxOf_far _ _ _ _ ne1]; exact B1e))
    rw [← HN.out, ts14, ts16] at t
    rw [← HN.out]
    exact t
  have hBX : Below w.heap.size w (((y3.setCell ⟨g, k, none⟩ (.int .i64 fv)).setCell ⟨w.heap.size, 14, none⟩ (.slice (some ⟨g, 0, none⟩) u.ws.length cq)).setCell ⟨w.heap.size, 16, none⟩ (.int .i64 7)) := ((hB2.setCell (by show w.heap.size ≤ g; omega) _).setCell (by simp) _).setCell (by simp) _
  have sX : Sees (((y3.setCell ⟨g, k, none⟩ (.int .i64 fv)).setCell ⟨w.heap.size, 14, none⟩ (.slice (some ⟨g, 0, none⟩) u.ws.length cq)).setCell ⟨w.heap.size, 16, none⟩ (.int .i64 7)) (((y3.setCell ⟨g, k, none⟩ (.int .i64 fv)).setCell ⟨w.heap.size, 14, none⟩ (.slice (some ⟨g, 0, none⟩) u.ws.length cq)).setCell ⟨w.heap.size, 16, none⟩ (.int .i64 7)).heap.size 1 (some ⟨g, 0, none⟩) nw.length (nw.map (Value.int .i64)) := by
    have t := sees_take (boxOf_set _ g k (.int .i64 fv) hcur) htk HN.out.symm
    exact (t.own1 _ _ _ (fun _ p hp => by cases hp; exact ne1)).own1 _ _ _ (fun _ p hp => by cases hp; exact ne1)
  have hl := h.out.later hBX
  have TX : TnAt (((y3.setCell ⟨g, k, none⟩ (.int .i64 fv)).setCell ⟨w.heap.size, 14, none⟩ (.slice (some ⟨g, 0, none⟩) u.ws.length cq)).setCell ⟨w.heap.size, 16, none⟩ (.int .i64 7)) ({ u with ws := nw, d := { u.d with ph := 7 } } : Tn) ({ a with mA := some ⟨g, 0, none⟩, mc := cq } : TA) := ⟨h.out.m.words_at hBX sX HN.out, hl.bx, ⟨hl.th.b, hl.th.k, hl.th.h⟩, hl.tp, hl.lg⟩
  have TW : tcs ({ u with d := { u.d with ph := 7 } } : Tn) ({ a with mA := some ⟨g, 0, none⟩, mc := cq } : TA) = tcs ({ u with ws := nw, d := { u.d with ph := 7 } } : Tn) ({ a with mA := some ⟨g, 0, none⟩, mc := cq } : TA) := by unfold tcs; rw [HN.out]
  have S1 := hide (S1h.out _ _ TX)
  have HSX := hide sX
  clear hl TX htk htake sw nbE S1h sX
  rw [TW] at *
  go_wp2_with fail
  clear B1e hcur ucur hg hcl
  generalize (((y3.setCell ⟨g, k, none⟩ (.int .i64 fv)).setCell ⟨w.heap.size, 14, none⟩ (.slice (some ⟨g, 0, none⟩) u.ws.length cq)).setCell ⟨w.heap.size, 16, none⟩ (.int .i64 7)) = yX at *
  refine S1.out.mono ?_
  rintro e z2 ⟨a2, rfl, T2, _, hb1⟩
  replace C1 := boxOf_keep C1 hb1
  replace hBX := below_next hBX hBX.size hb1
  replace HSX := hide (HSX.out.later hb1)
  have nb := belowY z2 ({ u with ws := nw, d := { u.d with ph := 8 } } : Tn) a2 38
  have C2 := boxY z2 ({ u with ws := nw, d := { u.d with ph := 8 } } : Tn) a2 38
  have lz := boxOf_lt C1
  replace C1 := boxOf_keep C1 nb
  replace hBX := below_next hBX hBX.size nb
  replace HSX := hide (HSX.out.later nb)
  have hz := nb
  have HT2 := hide T2
  clear S1 hb1 nb T2
  go_upto_region 12 with fail
  generalize ((z2.alloc (.cells zT.toArray 38)).setCells z2.heap.size 0 (tcs ({ u with ws := nw, d := { u.d with ph := 8 } } : Tn) a2)) = y5 at *
  generalize hga : z2.heap.size = ga at *
  have sw2 := HSX.out
  rw [HN.out] at sw2
  have nbE := belowN y5 (.cells #[] 3)
  have C1e := boxOf_keep C1 nbE
  have C2e := boxOf_keep C2 nbE
  have hy5 : ga < y5.heap.size := boxOf_lt C2
  have hyw : w.heap.size < y5.heap.size := boxOf_lt C1
  have hBe := below_next hBX hBX.size nbE
  have hze := below_next hz (by have := hz.size; omega) nbE
  go_wp2_with (at_builtin; refine wpList_app _ rfl _ _ 24 rfl y5.heap.size 3 i0 _ 1 8 Try.underlying24 hi0 hz0 hz1 hz2 rfl (by omega) _ 0 _ rfl (own_empty y5 _ _ _ (Nat.le_refl _)) _ _ u.ws.length cq _ rfl (sw2.later nbE) (by simp [Value.oneCell']) (by unfold maxLen; omega) (by omega) (by simp) ?_; intro q y6 hown2 hgw2; rw [Nat.zero_add] at hown2; obtain ⟨g2, cq2, cur2, rfl, hg2, hcur2, hcl2, htake2⟩ := own_box (by have := HKL.out; omega) hown2; replace C1e := boxOf_grown hgw2 C1e (Ne.symm (own_ne (own_empty y5 y5.heap.size 3 1 (Nat.le_refl _)) hyw)); replace C2e := boxOf_grown hgw2 C2e (Ne.symm (own_ne (own_empty y5 y5.heap.size 3 1 (Nat.le_refl _)) hy5)); have hB6 : Below w.heap.size w y6 := hBe.grown hgw2 (by simp; omega) (fun k e => Nat.le_trans (Nat.le_of_lt hyw) (own_at (own_empty y5 y5.heap.size 3 1 (Nat.le_refl _)) k e)); have hz6 : Below ga z2 y6 := hze.grown hgw2 (by simp; omega) (fun k e => Nat.le_trans (Nat.le_of_lt hy5) (own_at (own_empty y5 y5.heap.size 3 1 (Nat.le_refl _)) k e)))
  have hgz : ga < g2 := Nat.lt_of_lt_of_le hy5 hg2
  clear C1 C2 hBX hz nbE hBe hze hown2 hgw2 sw2 hg2 hy5 hyw HSX
  rw [HZ.out]
  refine (KJ.out _).mono ?_
  rintro e y7 ⟨rfl, hb1⟩
  have l6 := boxOf_lt C2e
  replace C1e := boxOf_keep C1e hb1
  replace C2e := boxOf_keep C2e hb1
  replace hcur2 := boxOf_keep hcur2 hb1
  replace hB6 := below_next hB6 hB6.size hb1
  replace hz6 := below_next (B := ga) hz6 (Nat.le_of_lt l6) hb1
  clear hb1
  have ucur2 : cur2[k]? = some (cur2[k]'(by have := HKL.out; omega)) := List.getElem?_eq_getElem _
  obtain ⟨u2, hu2⟩ : ∃ x, cur2[k]'(by have := HKL.out; omega) = x := ⟨_, rfl⟩
  rw [hu2] at ucur2
  have htk2 := take_set (k := k) htake2 jv
  rw [HKW.out] at htk2
  have me1 : ¬ g2 = w.heap.size := by omega
  have me2 : ¬ w.heap.size = g2 := by omega
  have me3 : ¬ g2 = ga := by omega
  have me4 : ¬ ga = g2 := by omega
  have me5 : ¬ ga = w.heap.size := by omega
  have me6 : ¬ w.heap.size = ga := by omega
  have F1 : boxOf ((y7.setCell ⟨g2, k, none⟩ (.int .i64 jv)).setCell ⟨ga, 14, none⟩ (.slice (some ⟨g2, 0, none⟩) u.ws.length cq2)) w.heap.size = some (tcs ({ u with ws := nw, d := { u.d with ph := 7 } } : Tn) ({ a with mA := some ⟨g, 0, none⟩, mc := cq } : TA)) := by rw [boxOf_far _ _ _ _ me5, boxOf_far _ _ _ _ me1]; exact C1e
  have F2 : boxOf ((y7.setCell ⟨g2, k, none⟩ (.int .i64 jv)).setCell ⟨ga, 14, none⟩ (.slice (some ⟨g2, 0, none⟩) u.ws.length cq2)) ga = some (tcs ({ u with ws := kw, d := { u.d with ph := 8 } } : Tn) ({ a2 with mA := some ⟨g2, 0, none⟩, mc := cq2 } : TA)) := by
    have t := boxOf_set _ ga 14 (.slice (some ⟨g2, 0, none⟩) u.ws.length cq2) (show boxOf (y7.setCell ⟨g2, k, none⟩ (.int .i64 jv)) ga = some (tcs ({ u with ws := nw, d := { u.d with ph := 8 } } : Tn) a2) by rw [boxOf_far _ _ _ _ me3]; exact C2e)
    rw [← HN.out, ← HNK.out, ts14] at t
    rw [← HN.out, ← HNK.out]
    exact t
  have FR : boxOf ((y7.setCell ⟨g2, k, none⟩ (.int .i64 jv)).setCell ⟨ga, 14, none⟩ (.slice (some ⟨g2, 0, none⟩) u.ws.length cq2)) g2 = some (cur2.set k (.int .i64 jv)) := by rw [boxOf_far _ _ _ _ me4]; exact boxOf_set _ g2 k _ hcur2
  have hBK : Below w.heap.size w ((y7.setCell ⟨g2, k, none⟩ (.int .i64 jv)).setCell ⟨ga, 14, none⟩ (.slice (some ⟨g2, 0, none⟩) u.ws.length cq2)) := (hB6.setCell (by show w.heap.size ≤ g2; omega) _).setCell (by show w.heap.size ≤ ga; omega) _
  have hzK : Below z2.heap.size z2 ((y7.setCell ⟨g2, k, none⟩ (.int .i64 jv)).setCell ⟨ga, 14, none⟩ (.slice (some ⟨g2, 0, none⟩) u.ws.length cq2)) := by
    rw [hga]
    exact (hz6.setCell (by show ga ≤ g2; omega) _).setCell (Nat.le_refl ga) _
  have sK : Sees ((y7.setCell ⟨g2, k, none⟩ (.int .i64 jv)).setCell ⟨ga, 14, none⟩ (.slice (some ⟨g2, 0, none⟩) u.ws.length cq2)) ((y7.setCell ⟨g2, k, none⟩ (.int .i64 jv)).setCell ⟨ga, 14, none⟩ (.slice (some ⟨g2, 0, none⟩) u.ws.length cq2)).heap.size 1 (some ⟨g2, 0, none⟩) kw.length (kw.map (Value.int .i64)) := sees_take FR htk2 (by rw [HNK.out, HN.out])
  have hl2 := HT2.out.later hzK
  have TQ : TnAt ((y7.setCell ⟨g2, k, none⟩ (.int .i64 jv)).setCell ⟨ga, 14, none⟩ (.slice (some ⟨g2, 0, none⟩) u.ws.length cq2)) ({ u with ws := kw, d := { u.d with ph := 8 } } : Tn) ({ a2 with mA := some ⟨g2, 0, none⟩, mc := cq2 } : TA) := ⟨HT2.out.m.words_at hzK sK HNK.out, hl2.bx, ⟨hl2.th.b, hl2.th.k, hl2.th.h⟩, hl2.tp, hl2.lg⟩
  have S2 := hide (S2h.out _ _ TQ)
  have TWK : (tcs ({ u with ws := nw, d := { u.d with ph := 8 } } : Tn) a2).set 14 (.slice (some ⟨g2, 0, none⟩) nw.length cq2) = tcs ({ u with ws := kw, d := { u.d with ph := 8 } } : Tn) ({ a2 with mA := some ⟨g2, 0, none⟩, mc := cq2 } : TA) := by
    have t := ts14 ({ u with ws := nw, d := { u.d with ph := 8 } } : Tn) a2 (some ⟨g2, 0, none⟩) kw cq2
    rw [HNK.out] at t
    exact t
  have TWN : (tcs ({ u with ws := nw, d := { u.d with ph := 8 } } : Tn) a2).set 14 (.slice (some ⟨g2, 0, none⟩) u.ws.length cq2) = tcs ({ u with ws := kw, d := { u.d with ph := 8 } } : Tn) ({ a2 with mA := some ⟨g2, 0, none⟩, mc := cq2 } : TA) := by rw [← HN.out]; exact TWK
  have ckr : (cur2.set k (.int .i64 jv))[k]? = some (.int .i64 jv) := List.getElem?_set_self (by have := HKL.out; omega)
  clear hl2 TQ hzK sK HT2 hz6 S2h htk2 htake2 hu2
  go_wp2_with fail
  clear C1e C2e hcur2 ucur2 hB6 TWK TWN hcl2 hgz
  generalize ((y7.setCell ⟨g2, k, none⟩ (.int .i64 jv)).setCell ⟨ga, 14, none⟩ (.slice (some ⟨g2, 0, none⟩) u.ws.length cq2)) = y8 at *
  refine S2.out.mono ?_
  rintro e z4 ⟨a3, rfl, T3, _, hb1⟩
  replace F1 := boxOf_keep F1 hb1
  replace F2 := boxOf_keep F2 hb1
  replace FR := boxOf_keep FR hb1
  replace hBK := below_next hBK hBK.size hb1
  have nb := belowY z4 ({ u with ws := kw, d := { u.d with ph := 7 } } : Tn) a3 38
  have F3 := boxY z4 ({ u with ws := kw, d := { u.d with ph := 7 } } : Tn) a3 38
  have lf1 := boxOf_lt F1
  have lf2 := boxOf_lt F2
  have lfr := boxOf_lt FR
  replace F1 := boxOf_keep F1 nb
  replace F2 := boxOf_keep F2 nb
  replace FR := boxOf_keep FR nb
  replace hBK := below_next hBK hBK.size nb
  have HT3 := hide (T3.later nb)
  have S3 := hide (S3h.out _ _ HT3.out)
  clear S2 hb1 nb T3 S3h
  go_wp2_with fail
  generalize ((z4.alloc (.cells zT.toArray 38)).setCells z4.heap.size 0 (tcs ({ u with ws := kw, d := { u.d with ph := 7 } } : Tn) a3)) = y10 at *
  generalize z4.heap.size = gb at *
  refine S3.out.mono ?_
  rintro e z5 ⟨a4, rfl, T4, _, hb1⟩
  replace F1 := boxOf_keep F1 hb1
  replace F2 := boxOf_keep F2 hb1
  replace F3 := boxOf_keep F3 hb1
  replace FR := boxOf_keep FR hb1
  replace hBK := below_next hBK hBK.size hb1
  have nb := belowY z5 ({ u with ws := kw, d := { u.d with ph := 7 } } : Tn) a4 38
  have F4 := boxY z5 ({ u with ws := kw, d := { u.d with ph := 7 } } : Tn) a4 38
  replace F1 := boxOf_keep F1 nb
  replace F2 := boxOf_keep F2 nb
  replace F3 := boxOf_keep F3 nb
  replace FR := boxOf_keep FR nb
  replace hBK := below_next hBK hBK.size nb
  replace HT3 := hide ((HT3.out.later hb1).later nb)
  have HT4 := hide (T4.later nb)
  have hkl3 : kw.length = u.ws.length := by rw [HNK.out, HN.out]
  obtain ⟨b3, o3, e3, _⟩ := HT3.out.m.words.some_of (by show 0 < kw.length; have := HKL.out; omega)
  have cw : ((z5.alloc (.cells zT.toArray 38)).setCells z5.heap.size 0 (tcs ({ u with ws := kw, d := { u.d with ph := 7 } } : Tn) a4)).cell? ⟨b3, o3 + k, none⟩ = some (.int .i64 jv) := word_cell (by have := HT3.out.m.words; rw [e3] at this; exact this) HKK.out
  have cr : ((z5.alloc (.cells zT.toArray 38)).setCells z5.heap.size 0 (tcs ({ u with ws := kw, d := { u.d with ph := 7 } } : Tn) a4)).cell? ⟨g2, k, none⟩ = some (.int .i64 jv) := by rw [boxOf_at _ _ _ FR]; exact ckr
  have bw : ((kw.length : Int) == (u.ws.length : Int)) = true := by rw [hkl3]; simp
  have kk2 : (k : Int) < (kw.length : Int) := by omega
  clear S3 hb1 nb T4 FR ckr hkl3
  go_upto_region 17 with fail
  generalize ((z5.alloc (.cells zT.toArray 38)).setCells z5.heap.size 0 (tcs ({ u with ws := kw, d := { u.d with ph := 7 } } : Tn) a4)) = y9 at *
  generalize z5.heap.size = gd at *
  have tok1 := hide True.intro
  have Z : boxOf (y9.drew) w.heap.size = some (tcs ({ u with ws := nw, d := { u.d with ph := 7 } } : Tn) ({ a with mA := some ⟨g, 0, none⟩, mc := cq } : TA)) ∧ boxOf (y9.drew) ga = some (tcs ({ u with ws := kw, d := { u.d with ph := 8 } } : Tn) ({ a2 with mA := some ⟨g2, 0, none⟩, mc := cq2 } : TA)) ∧ boxOf (y9.drew) gb = some (tcs ({ u with ws := kw, d := { u.d with ph := 7 } } : Tn) a3) ∧ boxOf (y9.drew) gd = some (tcs ({ u with ws := kw, d := { u.d with ph := 7 } } : Tn) a4) ∧ (y9.drew).cell? ⟨g2, k, none⟩ = some (.int .i64 jv) ∧ (y9.drew).cell? ⟨b3, o3 + k, none⟩ = some (.int .i64 jv) ∧ Below y9.heap.size y9 (y9.drew) := ⟨by rw [boxOf_drew]; exact F1, by rw [boxOf_drew]; exact F2, by rw [boxOf_drew]; exact F3, by rw [boxOf_drew]; exact F4, cr, cw, (Below.refl _ _).drew⟩
  go_region_held3 (fun w' => boxOf (w') w.heap.size = some (tcs ({ u with ws := nw, d := { u.d with ph := 7 } } : Tn) ({ a with mA := some ⟨g, 0, none⟩, mc := cq } : TA)) ∧ boxOf (w') ga = some (tcs ({ u with ws := kw, d := { u.d with ph := 8 } } : Tn) ({ a2 with mA := some ⟨g2, 0, none⟩, mc := cq2 } : TA)) ∧ boxOf (w') gb = some (tcs ({ u with ws := kw, d := { u.d with ph := 7 } } : Tn) a3) ∧ boxOf (w') gd = some (tcs ({ u with ws := kw, d := { u.d with ph := 7 } } : Tn) a4) ∧ (w').cell? ⟨g2, k, none⟩ = some (.int .i64 jv) ∧ (w').cell? ⟨b3, o3 + k, none⟩ = some (.int .i64 jv) ∧ Below y9.heap.size y9 (w'))
    (first | (with_reducible exact Z) | (with_reducible exact Z1) | (with_reducible exact Z2) | (with_reducible exact Z3))
    (first
      | (go_at_call 18; have _t := tok1; refine (its_any ({ u with ws := kw, d := { u.d with ph := 7 } } : Tn) a4 O3.out _ (HT4.out.later Z.2.2.2.2.2.2)).mono ?_; rintro e v1 ⟨q1, rfl, t1, hb1⟩; have Z1 : boxOf (v1) w.heap.size = some (tcs ({ u with ws := nw, d := { u.d with ph := 7 } } : Tn) ({ a with mA := some ⟨g, 0, none⟩, mc := cq } : TA)) ∧ boxOf (v1) ga = some (tcs ({ u with ws := kw, d := { u.d with ph := 8 } } : Tn) ({ a2 with mA := some ⟨g2, 0, none⟩, mc := cq2 } : TA)) ∧ boxOf (v1) gb = some (tcs ({ u with ws := kw, d := { u.d with ph := 7 } } : Tn) a3) ∧ boxOf (v1) gd = some (tcs ({ u with ws := kw, d := { u.d with ph := 7 } } : Tn) a4) ∧ (v1).cell? ⟨g2, k, none⟩ = some (.int .i64 jv) ∧ (v1).cell? ⟨b3, o3 + k, none⟩ = some (.int .i64 jv) ∧ Below y9.heap.size y9 (v1) := keep7 Z hb1; clear tok1)
      | (go_at_call 18; refine (its_any ({ u with ws := kw, d := { u.d with ph := 7 } } : Tn) a3 O3.out _ (HT3.out.later Z1.2.2.2.2.2.2)).mono ?_; rintro e v2 ⟨q2, rfl, t2, hb2⟩; have Z2 : boxOf (v2) w.heap.size = some (tcs ({ u with ws := nw, d := { u.d with ph := 7 } } : Tn) ({ a with mA := some ⟨g, 0, none⟩, mc := cq } : TA)) ∧ boxOf (v2) ga = some (tcs ({ u with ws := kw, d := { u.d with ph := 8 } } : Tn) ({ a2 with mA := some ⟨g2, 0, none⟩, mc := cq2 } : TA)) ∧ boxOf (v2) gb = some (tcs ({ u with ws := kw, d := { u.d with ph := 7 } } : Tn) a3) ∧ boxOf (v2) gd = some (tcs ({ u with ws := kw, d := { u.d with ph := 7 } } : Tn) a4) ∧ (v2).cell? ⟨g2, k, none⟩ = some (.int .i64 jv) ∧ (v2).cell? ⟨b3, o3 + k, none⟩ = some (.int .i64 jv) ∧ Below y9.heap.size y9 (v2) := keep7 Z1 hb2)
      | (go_at_call 17; refine (alike_yes ({ u with ws := kw, d := { u.d with ph := 7 } } : Tn) q1 q2 O3.out _ (t1.later hb2) t2).mono ?_; rintro e v3 ⟨rfl, hb3⟩; have Z3 : boxOf (v3) w.heap.size = some (tcs ({ u with ws := nw, d := { u.d with ph := 7 } } : Tn) ({ a with mA := some ⟨g, 0, none⟩, mc := cq } : TA)) ∧ boxOf (v3) ga = some (tcs ({ u with ws := kw, d := { u.d with ph := 8 } } : Tn) ({ a2 with mA := some ⟨g2, 0, none⟩, mc := cq2 } : TA)) ∧ boxOf (v3) gb = some (tcs ({ u with ws := kw, d := { u.d with ph := 7 } } : Tn) a3) ∧ boxOf (v3) gd = some (tcs ({ u with ws := kw, d := { u.d with ph := 7 } } : Tn) a4) ∧ (v3).cell? ⟨g2, k, none⟩ = some (.int .i64 jv) ∧ (v3).cell? ⟨b3, o3 + k, none⟩ = some (.int .i64 jv) ∧ Below y9.heap.size y9 (v3) := keep7 Z2 hb3))
  go_wp2
  go_ret
  exact ⟨ret_b (by simp), below_next hBK hBK.size Z3.2.2.2.2.2.2⟩
end Go.Proofs.Ytlbekjnpaiiilaa
