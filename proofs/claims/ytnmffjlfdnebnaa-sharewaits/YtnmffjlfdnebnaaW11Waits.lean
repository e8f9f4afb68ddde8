/- The walk of ShareWaits. -/
import Derived.Test.YtnmffjlfdnebnaaW11Base
import Derived.Test.YtnmffjlfdnebnaaM4
import Derived.Test.YtnmffjlfdnebnaaM1
import Derived.Lib.QuietBelow
import Derived.Deep.QuietTactic
import Derived.BigQuiet
import Derived.Deep.RegionHeld3
namespace Go.Proofs.Ytnmffjlfdnebnaa
open Go.RowKit Go.Sort
set_option linter.unusedVariables false
set_option linter.unusedSimpArgs false

theorem ts21n (u : Tn) (a : TA) : (tcs u a).set 21 (.slice none 0 0) = tcs { u with d := { u.d with kl := [] } } { a with p := { a.p with kA := none, kc := 0 } } := id rfl
theorem busy_tn (d : Dt) (p : Ad) (w : World) : Calls Try.prog 17 #[.agg (thc d p).toArray] w (BoolPost (d.ph != 0) w) := busy_any d.ph _ _ _ _ _ _ _ _ _ _ _ _ _ _ _ _ w
/-- A row of the call's own, as a box. -/
theorem own_box {w : World} {base n : Nat} {v : Value} {l : List Int} (hn : 0 < n) (h : w.ownsRow base 3 1 v n (l.map (Value.int .i64))) : ∃ g cap cur, v = .slice (some ⟨g, 0, none⟩) n cap ∧ base ≤ g ∧ boxOf w g = some cur ∧ n ≤ cur.length ∧ cur.take n = l.map (Value.int .i64) := by
  rcases h.2 with ⟨_, h0⟩ | ⟨g, cap, cur, hv, hb, hh, hc, _, hz, ht⟩
  · omega
  · exact ⟨g, cap, cur.toList, hv, hb, boxOf_iff.2 ⟨3, by simpa using hh⟩, by simp; omega, by simpa using ht⟩
theorem sees_take {w : World} {g n : Nat} {cur : List Value} {l : List Int} (hb : boxOf w g = some cur) (ht : cur.take n = l.map (Value.int .i64)) (hn : n = l.length) : Sees w w.heap.size 1 (some ⟨g, 0, none⟩) l.length (l.map (Value.int .i64)) := by
  refine ⟨by simp, fun _ => ⟨g, 0, rfl, boxOf_lt hb, fun j v hv => ?_⟩⟩
  rw [Nat.zero_add, boxOf_at w g j hb]
  rw [← ht, List.getElem?_take] at hv
  split at hv
  · exact hv
  · cases hv
theorem take_set {cur : List Value} {n k : Nat} {l : List Int} (ht : cur.take n = l.map (Value.int .i64)) (x : Int) : (cur.set k (.int .i64 x)).take n = (l.set k x).map (Value.int .i64) := by
  rw [List.take_set, ht, List.map_set]
def capOk' (u : Tn) (a : TA) : Prop := u.d.bl.length ≤ a.p.bc
theorem tcs_ws (u : Tn) (a : TA) (ws : List Int) (h : ws.length = u.ws.length) : tcs { u with ws := ws } a = tcs u a := by unfold tcs; rw [h]
theorem wait_stay (u : Tn) (h : u.d.ph = 13) (hl : ldV u.ws (lnV u.c u.tt) ≠ 5) : stepV u = u := by
  rw [stepV, if_pos h, waitV, if_neg (fun e => hl e.2)]
theorem wait_go (u : Tn) (h : u.d.ph = 13) (he : erV u.ws.length (lnV u.c u.tt) = 0) (hl : ldV u.ws (lnV u.c u.tt) = 5) : stepV u = { u with d := { u.d with ph := 14 } } := by
  rw [stepV, if_pos h, waitV, if_pos ⟨he, hl⟩]
theorem fet_go (u : Tn) (h : u.d.ph = 14) (hk : u.d.kl = []) (he : erV u.ws.length (rsV u.c u.tt) = 0) : stepV u = { u with d := { u.d with ph := 0, pl := 0, x := ldV u.ws (rsV u.c u.tt) }, dn := true } := by
  rw [stepV, if_neg (by rw [h]; decide), if_pos h, fetV, if_pos he, setlV, if_neg (by simp [kidB, inR, hk])]
theorem TnOk.none {u : Tn} (o : TnOk u) {ws : List Int} (hw : ∀ x ∈ ws, I64 x) : TnOk { u with ws := ws, d := { u.d with ph := 13, kl := [] } } := by
  refine ⟨o.b, Nat.zero_le _, o.h, o.l, o.t, ⟨fun e he => ?_, o.f.t, o.f.v, o.f.b, o.f.h, fun e he => (List.not_mem_nil he).elim⟩, o.lo, o.hi, o.tt, hw, o.c⟩
  simp only [Dt.nums, List.mem_cons, List.not_mem_nil, or_false] at he
  rcases he with rfl | rfl | rfl | rfl | rfl | rfl | rfl | rfl | rfl | rfl | rfl | rfl <;> first | exact i64_k 13 (by decide) | exact o.f.n _ (by simp [Dt.nums])
theorem TnAt.none {w w' : World} {u : Tn} {a : TA} (h : TnAt w u a) (hb : Below w.heap.size w w') {A : Option Addr} {c : Nat} {ws : List Int} (hs : Sees w' w'.heap.size 1 A ws.length (ws.map (Value.int .i64))) (hl : ws.length = u.ws.length) : TnAt w' { u with ws := ws, d := { u.d with ph := 13, kl := [] } } { a with mA := A, mc := c, p := { a.p with kA := none, kc := 0 } } :=
  ⟨h.m.words_at hb hs hl, h.bx, ⟨h.th.b.later hb, Sees.empty, h.th.h.later hb⟩, h.tp.later hb, h.lg.later hb⟩
attribute [local irreducible] tcs thc ccs zT
attribute [local go_sem ↓] alTn_is alRn_is alMo_is
attribute [local go_sem] run_alTnf run_alTnt run_alRnf run_alRnt run_alMof run_alMot zT_length
attribute [local go_sem ↓] lbTn_is lbRn_is lbMo_is lbTh_is lbRh_is lbCf_is lbRc_is sbTn_is sbRn_is sbMo_is sbTh_is sbRh_is sbCf_is sbRc_is
attribute [local go_sem] run_lbTn run_lbRn run_lbMo run_lbTh run_lbRh run_lbCf run_lbRc run_sbTn run_sbRn run_sbMo run_sbTh run_sbRh run_sbCf run_sbRc
attribute [local go_sem 2000] boxOf_old'
attribute [local go_sem] boxOf_at' boxOf_free' boxOf_alloc objBox_cells objBox_cellsA boxOf_drew boxOf_setI boxOf_setsI size_sets tcs_length thc_length ccs_length tcs_one thc_one ccs_one sub_tn sub_th sub_cf sub_thAll sub_cfAll put_turn put_thread
attribute [local go_sem] tc0 tc1 tc2 tc3 tc4 tc5 tc6 tc7 tc8 tc9 tc10 tc11 tc12 tc13 tc14 tc15 tc16 tc17 tc18 tc19 tc20 tc21 tc22 tc23 tc24 tc25 tc26 tc27 tc28 tc29 tc30 tc31 tc32 tc33 tc34 tc35 tc36 hc0 hc1 hc2 hc3 hc4 hc5 hc6 hc7 hc8 hc9 hc10 hc11 hc12 hc13 hc14 hc15 hc16 kc0 kc1 kc2 kc3 kc4 kc5 kc6 kc7 kc8 kc9 kc10 kc11 tg0 tg1 tg2 tg3 tg4 tg5 tg6 tg7 tg8 tg9 tg10 tg11 tg12 tg13 tg14 tg15 tg16 tg17 tg18 tg19 tg20 tg21 tg22 tg23 tg24 tg25 tg26 tg27 tg28 tg29 tg30 tg31 tg32 tg33 tg34 tg35 tg36 hg0 hg1 hg2 hg3 hg4 hg5 hg6 hg7 hg8 hg9 hg10 hg11 hg12 hg13 hg14 hg15 hg16 kg0 kg1 kg2 kg3 kg4 kg5 kg6 kg7 kg8 kg9 kg10 kg11
attribute [local go_sem] ts12 ts13 ts14 ts16 ts17 ts18 ts19 ts20 ts21 ts22 ts23 ts24 ts25 ts26 ts27 ts28 ts29 ts30 ts31 ts32 ts33 ts34 ts35 ts36 ts15 hs0 hs1 hs2 hs3 hs7 hs8 hs9 hs10 hs11 hs12 hs13 hs14 hs15 hs16

attribute [local irreducible] zC zH
attribute [local go_sem ↓] alCf_is alRc_is alTh_is
attribute [local go_sem] run_alCf run_alRc run_alTh zC_length zH_length put_conf put_thrd
attribute [local go_sem] ts21n
set_option maxRecDepth 100000 in
set_option maxHeartbeats 4000000 in
theorem waits_walk (u : Tn) (a : TA) (pr : Int) (hpr : I64 pr) (w : World) (hi : TnIn w u a) : Calls Try.prog 5 #[.agg (tcs u a).toArray, .int .i64 pr] w (BoolPost true w) := by
  obtain ⟨i0, hi0, hz0, hz1, hz2⟩ := info_parts info3
  have B1 : boxOf (w.alloc (.cells (tcs u a).toArray 38)) w.heap.size = some (tcs u a) := by simp [go_sem]
  have hB : Below w.heap.size w (w.alloc (.cells (tcs u a).toArray 38)) := belowN w _
  have hs : w.heap.size < (w.alloc (.cells (tcs u a).toArray 38)).heap.size := by simp
  go_enter Try.func5, Try.ntmps5
  go_wp2_with fail
  generalize (w.alloc (.cells (tcs u a).toArray 38)) = wz at *
  refine (big_tn u a _ (hi.m.later hB)).mono ?_
  rintro e w1 ⟨r, rfl, hr, hb1⟩
  replace B1 := boxOf_keep B1 hb1
  replace hB := below_next hB hB.size hb1
  replace hs := Nat.lt_of_lt_of_le hs hb1.size
  clear hb1
  cases r with
  | true =>
    go_wp2_with (go_at_call 10; refine (shown_any _).mono ?_; rintro e ws ⟨rfl, hbs⟩; replace hB := below_next hB hB.size hbs; clear hbs)
    go_ret
    exact ⟨ret_b (by simp), hB⟩
  | false =>
  have sm := hide (hr rfl)
  clear hr
  go_wp2_with fail
  refine (may_any u a _).mono ?_
  rintro e w2 ⟨r, rfl, hr, hb1⟩
  replace B1 := boxOf_keep B1 hb1
  replace hB := below_next hB hB.size hb1
  replace hs := Nat.lt_of_lt_of_le hs hb1.size
  clear hb1
  cases r with
  | false =>
    go_wp2_with (go_at_call 10; refine (shown_any _).mono ?_; rintro e ws ⟨rfl, hbs⟩; replace hB := below_next hB hB.size hbs; clear hbs)
    go_ret
    exact ⟨ret_b (by simp), hB⟩
  | true =>
  have my := hide (hr rfl)
  clear hr
  have h := hide (hi.at sm.out)
  have o := hide (hi.ok sm.out my.out)
  have cap := hide hi.cap
  clear hi
  go_wp2_with fail
  refine (shown_any _).mono ?_
  rintro e w3 ⟨rfl, hb1⟩
  replace B1 := boxOf_keep B1 hb1
  replace hB := below_next hB hB.size hb1
  replace hs := Nat.lt_of_lt_of_le hs hb1.size
  clear hb1
  have HMY := my
  obtain ⟨K, hK, hK1⟩ : ∃ K : Nat, lnV u.c u.tt = (K : Int) ∧ K + 1 < u.ws.length := by
    have m := my.out
    have hb := bk_le o.out.c.h3 o.out.c.h4 o.out.c.h5
    have h1 := o.out.c.h1
    have hl : lnV u.c u.tt = u.c.x1 * bkV u.c.x3 u.c.x4 u.c.x5 + 2 * u.tt := by rw [lnV, lineV, if_pos ⟨m.t0, m.t1⟩]
    have hz : (u.ws.length : Int) = u.c.x1 * bkV u.c.x3 u.c.x4 u.c.x5 + 2 * u.c.x0 := m.w
    have hp : 0 ≤ u.c.x1 * bkV u.c.x3 u.c.x4 u.c.x5 := Int.mul_nonneg (by omega) (by omega)
    have := m.t0; have := m.t1
    exact ⟨(lnV u.c u.tt).toNat, by omega, by omega⟩
  have hln := rline_tn u.c o.out.c u.tt o.out.tt
  rw [hK] at hln
  have HLN := hide hln
  clear hln
  have T1 : Hid (TnAt w { u with d := { u.d with ph := 13, kl := [] } } { a with p := { a.p with kA := none, kc := 0 } }) := hide ⟨h.out.m, h.out.bx, ⟨h.out.th.b, Sees.empty, h.out.th.h⟩, h.out.tp, h.out.lg⟩
  have hfew := h.out.m.few
  go_wp2_with fail
  have C1 : boxOf ((w3.setCell ⟨w.heap.size, 16, none⟩ (.int .i64 13)).setCell ⟨w.heap.size, 21, none⟩ (.slice none 0 0)) w.heap.size = some (tcs { u with d := { u.d with ph := 13, kl := [] } } { a with p := { a.p with kA := none, kc := 0 } }) := by simp [go_sem, B1]
  replace hB : Below w.heap.size w ((w3.setCell ⟨w.heap.size, 16, none⟩ (.int .i64 13)).setCell ⟨w.heap.size, 21, none⟩ (.slice none 0 0)) := (hB.setCell (Nat.le_refl _) _).setCell (Nat.le_refl _) _
  generalize ((w3.setCell ⟨w.heap.size, 16, none⟩ (.int .i64 13)).setCell ⟨w.heap.size, 21, none⟩ (.slice none 0 0)) = y0 at *
  refine (HLN.out _).mono ?_
  rintro e y1 ⟨rfl, hb1⟩
  replace C1 := boxOf_keep C1 hb1
  replace hB := below_next hB hB.size hb1
  clear hb1 B1 hs HLN
  have k0 : (0 : Int) ≤ (K : Int) := Int.natCast_nonneg _
  have k1 : (K : Int) < (u.ws.length : Int) := by omega
  obtain ⟨K2, hK2⟩ : ∃ n : Nat, n = K + 1 := ⟨_, rfl⟩
  have kq : (K : Int) + 1 = (K2 : Int) := by omega
  have k2 : (0 : Int) ≤ (K2 : Int) := Int.natCast_nonneg _
  have k3 : (K2 : Int) < (u.ws.length : Int) := by omega
  have kne : ¬ K = K2 := by omega
  have kw : wrap64 (K2 : Int) = (K2 : Int) := wrap64_id (by unfold I64; omega)
  have kv : IntKind.i64.wrap (K2 : Int) = (K2 : Int) := by rw [IntKind.wrap_i64]; omega
  have HK2 := hide hK2
  have hW := hide (T1.out.m.words.later hB)
  have hW2 := hide (hW.out.later (belowN y1 (.cells #[] 3)))
  go_wp2_with (at_builtin; refine wpList_app _ rfl _ _ 24 rfl y1.heap.size 3 i0 _ 1 8 Try.underlying24 hi0 hz0 hz1 hz2 rfl (by omega) _ 0 [] rfl (own_empty y1 _ _ _ (Nat.le_refl _)) _ a.mA u.ws.length a.mc (u.ws.map (Value.int .i64)) rfl hW2.out (by simp [Value.oneCell']) (by unfold maxLen; omega) (by omega) (by simp) ?_; intro v1 y2 hown1 hg1; simp only [List.nil_append, Nat.zero_add] at hown1; obtain ⟨g, cpg, cur, rfl, hg0, Bg, hcl, hct⟩ := own_box (by omega) hown1; have hbA : Below y1.heap.size y1 y2 := (belowN y1 (.cells #[] 3)).grown hg1 (by simp) (fun k hk => by cases hk; exact Nat.le_refl _); have C2 := boxOf_keep C1 hbA; have ne1 : ¬ g = w.heap.size := (by have := boxOf_lt C1; omega); have ne2 : ¬ w.heap.size = g := (by omega); obtain ⟨x1, hx1⟩ : ∃ x, cur[K]? = some x := ⟨cur[K]'(by omega), List.getElem?_eq_getElem (by omega)⟩; obtain ⟨x2, hx2⟩ : ∃ x, cur[K2]? = some x := ⟨cur[K2]'(by omega), List.getElem?_eq_getElem (by omega)⟩; clear hK2; clear hown1 hg1 hW hW2)
  obtain ⟨wa, hwa⟩ : ∃ l, (u.ws.set K 0).set K2 pr = l := ⟨_, rfl⟩
  have hal : wa.length = u.ws.length := by rw [← hwa]; simp
  have hBf : Below w.heap.size w (((y2.setCell ⟨g, K, none⟩ (.int .i64 0)).setCell ⟨g, K2, none⟩ (.int .i64 pr)).setCell ⟨w.heap.size, 14, none⟩ (.slice (some ⟨g, 0, none⟩) u.ws.length cpg)) := ((below_next hB hB.size hbA).setCell (show w.heap.size ≤ g by have := hB.size; omega) _).setCell (show w.heap.size ≤ g by have := hB.size; omega) _ |>.setCell (Nat.le_refl _) _
  have D1 : boxOf (((y2.setCell ⟨g, K, none⟩ (.int .i64 0)).setCell ⟨g, K2, none⟩ (.int .i64 pr)).setCell ⟨w.heap.size, 14, none⟩ (.slice (some ⟨g, 0, none⟩) u.ws.length cpg)) w.heap.size = some (tcs { u with ws := wa, d := { u.d with ph := 13, kl := [] } } { a with mA := some ⟨g, 0, none⟩, mc := cpg, p := { a.p with kA := none, kc := 0 } }) := by
    rw [show tcs { u with ws := wa, d := { u.d with ph := 13, kl := [] } } { a with mA := some ⟨g, 0, none⟩, mc := cpg, p := { a.p with kA := none, kc := 0 } } = tcs { u with d := { u.d with ph := 13, kl := [] } } { a with mA := some ⟨g, 0, none⟩, mc := cpg, p := { a.p with kA := none, kc := 0 } } from tcs_ws { u with d := { u.d with ph := 13, kl := [] } } { a with mA := some ⟨g, 0, none⟩, mc := cpg, p := { a.p with kA := none, kc := 0 } } wa hal]
    simp [go_sem, C2, ne1, ne2]
  have Dg : boxOf (((y2.setCell ⟨g, K, none⟩ (.int .i64 0)).setCell ⟨g, K2, none⟩ (.int .i64 pr)).setCell ⟨w.heap.size, 14, none⟩ (.slice (some ⟨g, 0, none⟩) u.ws.length cpg)) g = some ((cur.set K (.int .i64 0)).set K2 (.int .i64 pr)) := by simp [go_sem, Bg, ne1, ne2]
  have sg := sees_take (n := u.ws.length) Dg (take_set (take_set hct 0) pr) (by simp)
  rw [hwa] at sg
  have T2 := hide (h.out.none hBf sg (c := cpg) hal)
  have hwI : ∀ x ∈ wa, I64 x := fun x hx => by
    rw [← hwa] at hx
    rcases List.mem_or_eq_of_mem_set hx with hx | rfl
    · rcases List.mem_or_eq_of_mem_set hx with hx | rfl
      · exact o.out.ws x hx
      · exact i64_k 0 (by decide)
    · exact hpr
  have HK := HK2.out
  have gK : wa[K]? = some 0 := by rw [← hwa, List.getElem?_set_ne (by omega), List.getElem?_set_self (by omega)]
  have gK2 : wa[K2]? = some pr := by rw [← hwa, List.getElem?_set_self (by simp; omega)]
  have O2 := hide (o.out.none hwI)
  have S1 := step_any { u with ws := wa, d := { u.d with ph := 13, kl := [] } } { a with mA := some ⟨g, 0, none⟩, mc := cpg, p := { a.p with kA := none, kc := 0 } } O2.out _ T2.out cap.out
  rw [wait_stay { u with ws := wa, d := { u.d with ph := 13, kl := [] } } rfl (by show ldV wa (lnV u.c u.tt) ≠ 5; rw [hK, ldV_at gK]; decide), show isB { u with ws := wa, d := { u.d with ph := 13, kl := [] } } = true from rfl] at S1
  have e1 : tcs { u with ws := wa, d := { u.d with ph := 13, kl := [] } } { a with mA := some ⟨g, 0, none⟩, mc := cpg, p := { a.p with kA := none, kc := 0 } } = tcs { u with d := { u.d with ph := 13, kl := [] } } { a with mA := some ⟨g, 0, none⟩, mc := cpg, p := { a.p with kA := none, kc := 0 } } := tcs_ws { u with d := { u.d with ph := 13, kl := [] } } { a with mA := some ⟨g, 0, none⟩, mc := cpg, p := { a.p with kA := none, kc := 0 } } wa hal
  have S2 := hide S1
  have HG := hide (And.intro gK gK2)
  have HGW := hide (And.intro hal (And.intro hct Bg))
  clear S1 HK gK gK2 hwI C2 hct Bg hx1 hx2 hcl
  refine (show Calls Try.prog 11 #[.agg (tcs { u with d := { u.d with ph := 13, kl := [] } } { a with mA := some ⟨g, 0, none⟩, mc := cpg, p := { a.p with kA := none, kc := 0 } }).toArray] (((y2.setCell ⟨g, K, none⟩ (.int .i64 0)).setCell ⟨g, K2, none⟩ (.int .i64 pr)).setCell ⟨w.heap.size, 14, none⟩ (.slice (some ⟨g, 0, none⟩) u.ws.length cpg)) _ from ?_)
  rw [← e1]
  generalize (((y2.setCell ⟨g, K, none⟩ (.int .i64 0)).setCell ⟨g, K2, none⟩ (.int .i64 pr)).setCell ⟨w.heap.size, 14, none⟩ (.slice (some ⟨g, 0, none⟩) u.ws.length cpg)) = y3 at *
  refine S2.out.mono ?_
  rintro e y4 ⟨A3, c3, rfl, s3, _, hb1⟩
  have T3 := (Like.refl { u with ws := wa, d := { u.d with ph := 13, kl := [] } }).at T2.out hb1 c3 s3
  replace D1 := boxOf_keep D1 hb1
  replace T2 := hide (T2.out.later hb1)
  have SG := hide (sg.later hb1)
  replace hBf := below_next hBf hBf.size hb1
  clear S2 hb1 s3 sg
  generalize ({ { a with mA := some ⟨g, 0, none⟩, mc := cpg, p := { a.p with kA := none, kc := 0 } } with mA := A3, mc := c3 } : TA) = a3 at *
  have nb := belowY y4 { u with ws := wa, d := { u.d with ph := 13, kl := [] } } a3 38
  have D7 := boxY y4 { u with ws := wa, d := { u.d with ph := 13, kl := [] } } a3 38
  replace D1 := boxOf_keep D1 nb
  replace T2 := hide (T2.out.later nb)
  replace T3 := hide (T3.later nb)
  replace SG := hide (SG.out.later nb)
  replace hBf := below_next hBf hBf.size nb
  clear nb e1
  go_wp2_with fail
  generalize ((y4.alloc (.cells zT.toArray 38)).setCells y4.heap.size 0 (tcs { u with ws := wa, d := { u.d with ph := 13, kl := [] } } a3)) = y5 at *
  generalize y4.heap.size = k7 at *
  have tok1 := hide True.intro
  have tok2 := hide True.intro
  have Z : boxOf y5.drew w.heap.size = some (tcs { u with ws := wa, d := { u.d with ph := 13, kl := [] } } { a with mA := some ⟨g, 0, none⟩, mc := cpg, p := { a.p with kA := none, kc := 0 } }) ∧ boxOf y5.drew k7 = some (tcs { u with ws := wa, d := { u.d with ph := 13, kl := [] } } a3) ∧ Below y5.heap.size y5 y5.drew := ⟨by rw [boxOf_drew]; exact D1, by rw [boxOf_drew]; exact D7, (Below.refl _ _).drew⟩
  go_region_held3 (fun w' => boxOf w' w.heap.size = some (tcs { u with ws := wa, d := { u.d with ph := 13, kl := [] } } { a with mA := some ⟨g, 0, none⟩, mc := cpg, p := { a.p with kA := none, kc := 0 } }) ∧ boxOf w' k7 = some (tcs { u with ws := wa, d := { u.d with ph := 13, kl := [] } } a3) ∧ Below y5.heap.size y5 w')
    (first | (with_reducible exact Z) | (with_reducible exact Z1) | (with_reducible exact Z2) | (with_reducible exact Z3))
    (first
      | (go_at_call 13; have _t := tok1; refine (its_any { u with ws := wa, d := { u.d with ph := 13, kl := [] } } a3 O2.out _ (T3.out.later Z.2.2)).mono ?_; rintro e v1 ⟨b1, rfl, t1, hb1⟩; have Z1 : boxOf v1 w.heap.size = some (tcs { u with ws := wa, d := { u.d with ph := 13, kl := [] } } { a with mA := some ⟨g, 0, none⟩, mc := cpg, p := { a.p with kA := none, kc := 0 } }) ∧ boxOf v1 k7 = some (tcs { u with ws := wa, d := { u.d with ph := 13, kl := [] } } a3) ∧ Below y5.heap.size y5 v1 := keepT3 Z hb1; clear tok1)
      | (go_at_call 13; have _t := tok2; refine (its_any { u with ws := wa, d := { u.d with ph := 13, kl := [] } } { a with mA := some ⟨g, 0, none⟩, mc := cpg, p := { a.p with kA := none, kc := 0 } } O2.out _ (T2.out.later Z1.2.2)).mono ?_; rintro e v2 ⟨b2, rfl, t2, hb2⟩; have Z2 : boxOf v2 w.heap.size = some (tcs { u with ws := wa, d := { u.d with ph := 13, kl := [] } } { a with mA := some ⟨g, 0, none⟩, mc := cpg, p := { a.p with kA := none, kc := 0 } }) ∧ boxOf v2 k7 = some (tcs { u with ws := wa, d := { u.d with ph := 13, kl := [] } } a3) ∧ Below y5.heap.size y5 v2 := keepT3 Z1 hb2; clear tok2)
      | (go_at_call 14; refine (alike_yes { u with ws := wa, d := { u.d with ph := 13, kl := [] } } b1 b2 O2.out _ (t1.later hb2) t2).mono ?_; rintro e v3 ⟨rfl, hb3⟩; have Z3 : boxOf v3 w.heap.size = some (tcs { u with ws := wa, d := { u.d with ph := 13, kl := [] } } { a with mA := some ⟨g, 0, none⟩, mc := cpg, p := { a.p with kA := none, kc := 0 } }) ∧ boxOf v3 k7 = some (tcs { u with ws := wa, d := { u.d with ph := 13, kl := [] } } a3) ∧ Below y5.heap.size y5 v3 := keepT3 Z2 hb3))
  have G1 := Z3.1
  have SGu : Hid (Sees v3 v3.heap.size 1 (some ⟨g, 0, none⟩) u.ws.length (wa.map (Value.int .i64))) := hide (by have := SG.out.later Z3.2.2; rwa [HGW.out.1] at this)
  replace hBf := below_next hBf hBf.size Z3.2.2
  have SGa := hide (SGu.out.later (belowN v3 (.cells #[] 3)))
  have h20 : u.ws.length ≤ 20000 := hfew
  clear D1 D7 Z Z1 Z2 Z3 t1 t2 hb1 hb2 hb3 T2 T3 SG
  go_wp2_with (first
    | (at_builtin; refine wpList_app _ rfl _ _ 24 rfl v3.heap.size 3 i0 _ 1 8 Try.underlying24 hi0 hz0 hz1 hz2 rfl (by omega) _ 0 [] rfl (own_empty v3 _ _ _ (Nat.le_refl _)) _ (some ⟨g, 0, none⟩) u.ws.length cpg (wa.map (Value.int .i64)) rfl SGa.out (by simp [Value.oneCell']) (by unfold maxLen; omega) (by omega) (by simp) ?_; intro q1 v4 hown1 hg1; simp only [List.nil_append, Nat.zero_add] at hown1; obtain ⟨g2, cp2, cu2, rfl, hg2, Bh, hcl, hct⟩ := own_box (by omega) hown1; have hbA2 : Below v3.heap.size v3 v4 := (belowN v3 (.cells #[] 3)).grown hg1 (by simp) (fun k hk => by cases hk; exact Nat.le_refl _); clear hown1 hg1)
    | (go_at_call 22; refine (told_any _).mono ?_; rintro e v5 ⟨rfl, hbt⟩; have E1 := boxOf_keep (boxOf_keep G1 hbA2) hbt; have Eg := boxOf_keep Bh hbt; have hBt := below_next (below_next hBf hBf.size hbA2) (below_next hBf hBf.size hbA2).size hbt; have m1 : ¬ g2 = w.heap.size := (by have := boxOf_lt G1; omega); have m2 : ¬ w.heap.size = g2 := (by omega); obtain ⟨x3, hx3⟩ : ∃ x, cu2[K]? = some x := ⟨cu2[K]'(by omega), List.getElem?_eq_getElem (by omega)⟩))
  obtain ⟨wb, hwb⟩ : ∃ l, wa.set K 5 = l := ⟨_, rfl⟩
  have hbl : wb.length = u.ws.length := by rw [← hwb]; simp [HGW.out.1]
  have hB5 : Below w.heap.size w ((v5.setCell ⟨g2, K, none⟩ (.int .i64 5)).setCell ⟨w.heap.size, 14, none⟩ (.slice (some ⟨g2, 0, none⟩) u.ws.length cp2)) := (hBt.setCell (show w.heap.size ≤ g2 by have := hBf.size; omega) _).setCell (Nat.le_refl _) _
  have Dh : boxOf ((v5.setCell ⟨g2, K, none⟩ (.int .i64 5)).setCell ⟨w.heap.size, 14, none⟩ (.slice (some ⟨g2, 0, none⟩) u.ws.length cp2)) g2 = some (cu2.set K (.int .i64 5)) := by simp [go_sem, Eg, m1, m2]
  have sg2 := sees_take (n := u.ws.length) Dh (take_set hct 5) (by simp [HGW.out.1])
  rw [hwb] at sg2
  have T4 := h.out.none hB5 sg2 (c := cp2) hbl
  have hwI2 : ∀ x ∈ wb, I64 x := fun x hx => by
    rw [← hwb] at hx
    rcases List.mem_or_eq_of_mem_set hx with hx | rfl
    · exact O2.out.ws x hx
    · exact i64_k 5 (by decide)
  have gL : wb[K]? = some 5 := by rw [← hwb, List.getElem?_set_self (by rw [HGW.out.1]; omega)]
  have gR : wb[K2]? = some pr := by rw [← hwb, List.getElem?_set_ne kne]; exact HG.out.2
  have hR : rsV u.c u.tt = (K2 : Int) := by
    have h1 : lnV u.c u.tt = u.c.x1 * bkV u.c.x3 u.c.x4 u.c.x5 + 2 * u.tt := by rw [lnV, lineV, if_pos ⟨my.out.t0, my.out.t1⟩]
    have h2 : rsV u.c u.tt = u.c.x1 * bkV u.c.x3 u.c.x4 u.c.x5 + 2 * u.tt + 1 := by rw [rsV, resV, if_pos ⟨my.out.t0, my.out.t1⟩]
    omega
  have O3 := hide (o.out.none hwI2)
  have S3 := step_any { u with ws := wb, d := { u.d with ph := 13, kl := [] } } { a with mA := some ⟨g2, 0, none⟩, mc := cp2, p := { a.p with kA := none, kc := 0 } } O3.out _ T4 cap.out
  have E4 : stepV { u with ws := wb, d := { u.d with ph := 13, kl := [] } } = { u with ws := wb, d := { u.d with ph := 14, kl := [] } } := wait_go { u with ws := wb, d := { u.d with ph := 13, kl := [] } } rfl (by show erV wb.length (lnV u.c u.tt) = 0; rw [hK, hbl]; exact erV_at (by omega)) (by show ldV wb (lnV u.c u.tt) = 5; rw [hK]; exact ldV_at gL)
  have O4 : Hid (TnOk { u with ws := wb, d := { u.d with ph := 14, kl := [] } }) := hide (E4 ▸ O3.out.step)
  have L4 : Like { u with ws := wb, d := { u.d with ph := 13, kl := [] } } { u with ws := wb, d := { u.d with ph := 14, kl := [] } } := E4 ▸ like_step { u with ws := wb, d := { u.d with ph := 13, kl := [] } }
  rw [E4, show isB { u with ws := wb, d := { u.d with ph := 13, kl := [] } } = true from rfl] at S3
  have E5 : stepV { u with ws := wb, d := { u.d with ph := 14, kl := [] } } = { u with ws := wb, d := { u.d with ph := 0, kl := [], pl := 0, x := pr }, dn := true } := by
    rw [fet_go { u with ws := wb, d := { u.d with ph := 14, kl := [] } } rfl rfl (by show erV wb.length (rsV u.c u.tt) = 0; rw [hR, hbl]; exact erV_at (by omega)), show ldV ({ u with ws := wb, d := { u.d with ph := 14, kl := [] } } : Tn).ws (rsV ({ u with ws := wb, d := { u.d with ph := 14, kl := [] } } : Tn).c ({ u with ws := wb, d := { u.d with ph := 14, kl := [] } } : Tn).tt) = pr from (by show ldV wb (rsV u.c u.tt) = pr; rw [hR]; exact ldV_at gR)]
  have L5 : Like { u with ws := wb, d := { u.d with ph := 14, kl := [] } } { u with ws := wb, d := { u.d with ph := 0, kl := [], pl := 0, x := pr }, dn := true } := E5 ▸ like_step { u with ws := wb, d := { u.d with ph := 14, kl := [] } }
  have e1 : tcs { u with ws := wb, d := { u.d with ph := 13, kl := [] } } { a with mA := some ⟨g2, 0, none⟩, mc := cp2, p := { a.p with kA := none, kc := 0 } } = tcs { u with d := { u.d with ph := 13, kl := [] } } { a with mA := some ⟨g2, 0, none⟩, mc := cp2, p := { a.p with kA := none, kc := 0 } } := tcs_ws { u with d := { u.d with ph := 13, kl := [] } } { a with mA := some ⟨g2, 0, none⟩, mc := cp2, p := { a.p with kA := none, kc := 0 } } wb hbl
  have S4 := hide S3
  clear S3 E4 gL gR hwI2 Dh sg2 E1 Eg hx3 hct hcl Bh
  refine (show Calls Try.prog 11 #[.agg (tcs { u with d := { u.d with ph := 13, kl := [] } } { a with mA := some ⟨g2, 0, none⟩, mc := cp2, p := { a.p with kA := none, kc := 0 } }).toArray] ((v5.setCell ⟨g2, K, none⟩ (.int .i64 5)).setCell ⟨w.heap.size, 14, none⟩ (.slice (some ⟨g2, 0, none⟩) u.ws.length cp2)) _ from ?_)
  rw [← e1]
  generalize ((v5.setCell ⟨g2, K, none⟩ (.int .i64 5)).setCell ⟨w.heap.size, 14, none⟩ (.slice (some ⟨g2, 0, none⟩) u.ws.length cp2)) = z5 at *
  refine S4.out.mono ?_
  rintro e z6 ⟨A6, c6, rfl, s6, _, hb1⟩
  have T6 := L4.at T4 hb1 c6 s6
  replace hB5 := below_next hB5 hB5.size hb1
  have C6 : Hid (capOk { u with ws := wb, d := { u.d with ph := 14, kl := [] } } ({ { a with mA := some ⟨g2, 0, none⟩, mc := cp2, p := { a.p with kA := none, kc := 0 } } with mA := A6, mc := c6 } : TA)) := hide cap.out
  clear S4 hb1 s6 T4 e1 L4
  generalize ({ { a with mA := some ⟨g2, 0, none⟩, mc := cp2, p := { a.p with kA := none, kc := 0 } } with mA := A6, mc := c6 } : TA) = a6 at *
  have nb := belowY z6 { u with ws := wb, d := { u.d with ph := 14, kl := [] } } a6 38
  have D10 := boxY z6 { u with ws := wb, d := { u.d with ph := 14, kl := [] } } a6 38
  replace T6 := T6.later nb
  replace hB5 := below_next hB5 hB5.size nb
  clear nb
  have S5 := step_any { u with ws := wb, d := { u.d with ph := 14, kl := [] } } a6 O4.out _ T6 C6.out
  rw [E5, show isB { u with ws := wb, d := { u.d with ph := 14, kl := [] } } = true from rfl] at S5
  have S6 := hide S5
  clear S5 E5
  go_wp2_with fail
  generalize ((z6.alloc (.cells zT.toArray 38)).setCells z6.heap.size 0 (tcs { u with ws := wb, d := { u.d with ph := 14, kl := [] } } a6)) = z7 at *
  generalize z6.heap.size = k10 at *
  refine S6.out.mono ?_
  rintro e z8 ⟨A8, c8, rfl, s8, _, hb1⟩
  replace D10 := boxOf_keep D10 hb1
  replace hB5 := below_next hB5 hB5.size hb1
  clear S6 hb1 s8 T6 L5
  generalize ({ a6 with mA := A8, mc := c8 } : TA) = a8 at *
  have nb := belowY z8 { u with ws := wb, d := { u.d with ph := 0, kl := [], pl := 0, x := pr }, dn := true } a8 38
  have D12 := boxY z8 { u with ws := wb, d := { u.d with ph := 0, kl := [], pl := 0, x := pr }, dn := true } a8 38
  replace D10 := boxOf_keep D10 nb
  replace hB5 := below_next hB5 hB5.size nb
  clear nb
  have hpp : (pr == pr) = true := by simp
  go_wp2_with (go_at_call 17; refine (busy_tn { u.d with ph := 0, kl := [], pl := 0, x := pr } a8.p _).mono ?_; rintro e z9 ⟨rfl, hb9⟩)
  go_ret
  exact ⟨ret_b (by simp), below_next hB5 hB5.size hb9⟩
end Go.Proofs.Ytnmffjlfdnebnaa
