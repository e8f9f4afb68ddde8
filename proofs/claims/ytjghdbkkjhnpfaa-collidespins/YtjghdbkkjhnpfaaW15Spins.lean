/- The walk of CollideSpins. -/
import Derived.Test.YtjghdbkkjhnpfaaW15Base
import Derived.Test.YtjghdbkkjhnpfaaM4
import Derived.Test.YtjghdbkkjhnpfaaM1
import Derived.Lib.QuietBelow
import Derived.Deep.QuietTactic
import Derived.BigQuiet
import Derived.Deep.RegionHeld3
import Derived.Deep.Cut
namespace Go.Proofs.Ytjghdbkkjhnpfaa
open Go.RowKit Go.Sort
set_option linter.unusedVariables false
set_option linter.unusedSimpArgs false

/-- The turn behind n looks: a thread that is late looks once. -/
def spM (u : Tn) (L : Nat) : Nat := if lateB u.d.un u.now = true then 0 else L
def spT (u : Tn) (nw : List Int) (L n : Nat) : Tn := if n ≤ spM u L then { u with ws := nw, d := { u.d with ph := 23, lf := (L : Int) - (n : Int) } } else { u with ws := nw, d := { u.d with ph := 26, lf := (L : Int) - (spM u L : Int) } }
theorem spT_0 (u : Tn) (nw : List Int) (L : Nat) : spT u nw L 0 = { u with ws := nw, d := { u.d with ph := 23, lf := (L : Int) } } := by
  unfold spT; rw [if_pos (Nat.zero_le _)]; simp
theorem sp_step {u : Tn} (hp : u.d.ph = 23) {k : Nat} (hk : lnV u.c u.tt = (k : Int)) (hx : u.ws[k]? = some (opW u)) : stepC u = (if 1 ≤ u.d.lf ∧ lateB u.d.un u.now = false then spoV u else ({ u with d := { u.d with ph := 26 } } : Tn)) ∧ isC u = true := by
  refine ⟨?_, by simp [isC, hp]⟩
  rw [stepC, if_neg (by rw [hp]; decide), if_neg (by rw [hp]; decide), if_neg (by rw [hp]; decide), if_neg (by rw [hp]; decide), if_neg (by rw [hp]; decide), if_neg (by rw [hp]; decide), if_pos hp, spiC, if_pos (er_in hk (List.getElem?_eq_some_iff.1 hx).1), ld_in hk hx, if_pos rfl]
theorem spT_next {u : Tn} {nw : List Int} {L k n : Nat} (hL : L < 30) (hk : lnV u.c u.tt = (k : Int)) (hx : nw[k]? = some (opW u)) (hn : n ≤ spM u L) : stepC (spT u nw L n) = spT u nw L (n + 1) ∧ isC (spT u nw L n) = true := by
  have e : spT u nw L n = { u with ws := nw, d := { u.d with ph := 23, lf := (L : Int) - (n : Int) } } := by unfold spT; rw [if_pos hn]
  have hml : spM u L ≤ L := by unfold spM; split <;> omega
  rw [e]
  have st := sp_step (u := { u with ws := nw, d := { u.d with ph := 23, lf := (L : Int) - (n : Int) } }) rfl (k := k) hk hx
  refine ⟨st.1.trans ?_, st.2⟩
  by_cases q : n < spM u L
  · have hl : lateB u.d.un u.now = false := by
      cases hb : lateB u.d.un u.now with
      | false => rfl
      | true => unfold spM at q; rw [hb, if_pos rfl] at q; omega
    rw [if_pos ⟨by show 1 ≤ (L : Int) - (n : Int); omega, hl⟩]
    have hw : wrap64 ((L : Int) - (n : Int) - 1) = (L : Int) - ((n + 1 : Nat) : Int) := by
      rw [wrap64_id (by unfold I64; omega)]; omega
    unfold spT spoV
    rw [if_pos (show n + 1 ≤ spM u L by omega), hw]
  · have hnm : n = spM u L := by omega
    rw [if_neg (fun e => by
      have h1 : 1 ≤ (L : Int) - (n : Int) := e.1
      have h2 : lateB u.d.un u.now = false := e.2
      unfold spM at hnm; rw [h2, if_neg (by decide)] at hnm; omega)]
    unfold spT
    rw [if_neg (show ¬ n + 1 ≤ spM u L by omega), hnm]
theorem spT_ok {u : Tn} (o : TnOk u) {nw : List Int} (hw : ∀ x ∈ nw, I64 x) {L : Nat} (hL : L < 30) (n : Nat) (hn : n ≤ spM u L + 1) : TnOk (spT u nw L n) := by
  have hml : spM u L ≤ L := by unfold spM; split <;> omega
  have key : ∀ (p q : Int), I64 p → I64 q → TnOk { u with ws := nw, d := { u.d with ph := p, lf := q } } := fun p q hp hq => by
    refine ⟨o.b, o.k, o.h, o.l, o.t, ⟨fun e he => ?_, o.f.t, o.f.v, o.f.b, o.f.h, o.f.k⟩, o.lo, o.hi, o.tt, hw, o.c⟩
    simp only [Dt.nums, List.mem_cons, List.not_mem_nil, or_false] at he
    rcases he with rfl | rfl | rfl | rfl | rfl | rfl | rfl | rfl | rfl | rfl | rfl | rfl <;> first | assumption | exact o.f.n _ (by simp [Dt.nums])
  unfold spT
  split
  · exact key _ _ (i64_k 23 (by decide)) (by unfold I64; omega)
  · exact key _ _ (i64_k 26 (by decide)) (by unfold I64; omega)
theorem spT_same (u : Tn) (nw : List Int) (L n : Nat) : (spT u nw L n).tt = u.tt ∧ (spT u nw L n).d.it = u.d.it ∧ (spT u nw L n).d.ly = u.d.ly ∧ (spT u nw L n).ta = u.ta ∧ (spT u nw L n).ws = nw := by unfold spT; split <;> exact ⟨rfl, rfl, rfl, rfl, rfl⟩
theorem spT_ph (u : Tn) (nw : List Int) (L n : Nat) : (n ≤ spM u L → (spT u nw L n).d.ph = 23) ∧ (¬ n ≤ spM u L → (spT u nw L n).d.ph = 26 ∧ (spT u nw L n).d.lf = (L : Int) - (spM u L : Int)) := by
  unfold spT
  exact ⟨fun h => by rw [if_pos h], fun h => by rw [if_neg h]; exact ⟨rfl, rfl⟩⟩
attribute [local irreducible] tcs thc ccs zT
attribute [local go_sem ↓] alTn_is alRn_is
attribute [local go_sem] run_alTnf run_alTnt run_alRnf run_alRnt zT_length
attribute [local go_sem ↓] lbTn_is lbRn_is lbTh_is lbRh_is lbCf_is lbRc_is sbTn_is sbRn_is sbTh_is sbRh_is sbCf_is sbRc_is
attribute [local go_sem] run_lbTn run_lbRn run_lbTh run_lbRh run_lbCf run_lbRc run_sbTn run_sbRn run_sbTh run_sbRh run_sbCf run_sbRc
attribute [local go_sem 2000] boxOf_old'
attribute [local go_sem] boxOf_at' boxOf_free' boxOf_alloc objBox_cells objBox_cellsA boxOf_drew boxOf_setI boxOf_setsI size_sets tcs_length thc_length ccs_length tcs_one thc_one ccs_one sub_tn sub_th sub_cf sub_thAll sub_cfAll put_turn put_thread
attribute [local go_sem] tc0 tc1 tc2 tc3 tc4 tc5 tc6 tc7 tc8 tc9 tc10 tc11 tc12 tc13 tc14 tc15 tc16 tc17 tc18 tc19 tc20 tc21 tc22 tc23 tc24 tc25 tc26 tc27 tc28 tc29 tc30 tc31 tc32 tc33 tc34 tc35 tc36 hc0 hc1 hc2 hc3 hc4 hc5 hc6 hc7 hc8 hc9 hc10 hc11 hc12 hc13 hc14 hc15 hc16 kc0 kc1 kc2 kc3 kc4 kc5 kc6 kc7 kc8 kc9 kc10 kc11 tg0 tg1 tg2 tg3 tg4 tg5 tg6 tg7 tg8 tg9 tg10 tg11 tg12 tg13 tg14 tg15 tg16 tg17 tg18 tg19 tg20 tg21 tg22 tg23 tg24 tg25 tg26 tg27 tg28 tg29 tg30 tg31 tg32 tg33 tg34 tg35 tg36 hg0 hg1 hg2 hg3 hg4 hg5 hg6 hg7 hg8 hg9 hg10 hg11 hg12 hg13 hg14 hg15 hg16 kg0 kg1 kg2 kg3 kg4 kg5 kg6 kg7 kg8 kg9 kg10 kg11
attribute [local go_sem] ts12 ts13 ts14 ts16 ts17 ts18 ts19 ts20 ts21 ts22 ts23 ts24 ts25 ts26 ts27 ts28 ts29 ts30 ts31 ts32 ts33 ts34 ts35 ts36 ts15 hs0 hs1 hs2 hs3 hs7 hs8 hs9 hs10 hs11 hs12 hs13 hs14 hs15 hs16

attribute [local irreducible] zC zH
attribute [local go_sem ↓] alCf_is alRc_is alTh_is
attribute [local go_sem] run_alCf run_alRc run_alTh zC_length zH_length put_conf put_thrd
set_option maxRecDepth 100000 in
set_option maxHeartbeats 4000000 in
theorem spins_walk (u : Tn) (a : TA) (z : Int) (z0 : 0 ≤ z) (z1 : z ≤ 255) (hta0 : I64 u.ta) (w : World) (hi : TnIn w u a) : Calls Try.prog 7 #[.agg (tcs u a).toArray, .int .u8 z] w (BoolPost true w) := by
  have B1 : boxOf (((w.alloc (.cells (tcs u a).toArray 38)).alloc (.cells zC.toArray 39)).setCells (w.heap.size + 1) 0 (ccs u.c)) w.heap.size = some (tcs u a) := by simp [go_sem]
  have BC : boxOf (((w.alloc (.cells (tcs u a).toArray 38)).alloc (.cells zC.toArray 39)).setCells (w.heap.size + 1) 0 (ccs u.c)) (w.heap.size + 1) = some (ccs u.c) := by simp [go_sem]
  have hs : w.heap.size + 1 < (((w.alloc (.cells (tcs u a).toArray 38)).alloc (.cells zC.toArray 39)).setCells (w.heap.size + 1) 0 (ccs u.c)).heap.size := by simp [size_sets]
  have hB : Below w.heap.size w (((w.alloc (.cells (tcs u a).toArray 38)).alloc (.cells zC.toArray 39)).setCells (w.heap.size + 1) 0 (ccs u.c)) := below_sets _ (by omega) _ _ _ _ ((belowN w _).alloc (by simp) _)
  go_enter Try.func7, Try.ntmps7
  go_wp2_with fail
  generalize (((w.alloc (.cells (tcs u a).toArray 38)).alloc (.cells zC.toArray 39)).setCells (w.heap.size + 1) 0 (ccs u.c)) = wz at *
  refine (big_tn u a _ (hi.m.later hB)).mono ?_
  rintro e w1 ⟨r, rfl, hr, hb1⟩
  replace B1 := boxOf_keep B1 hb1
  replace BC := boxOf_keep BC hb1
  replace hs := Nat.lt_of_lt_of_le hs hb1.size
  replace hB := below_next hB hB.size hb1
  clear hb1
  cases r with
  | true =>
    go_wp2_with (go_at_call 11; refine (shown_any _).mono ?_; rintro e ws ⟨rfl, hbs⟩; replace hB := below_next hB hB.size hbs; clear hbs)
    go_ret
    exact ⟨ret_b (by simp), hB⟩
  | false =>
  have sm := hide (hr rfl)
  clear hr
  go_wp2_with fail
  refine (lay_any u a _).mono ?_
  rintro e w2 ⟨r, rfl, hr, hb1⟩
  replace B1 := boxOf_keep B1 hb1
  replace BC := boxOf_keep BC hb1
  replace hs := Nat.lt_of_lt_of_le hs hb1.size
  replace hB := below_next hB hB.size hb1
  clear hb1
  cases r with
  | false =>
    go_wp2_with (go_at_call 11; refine (shown_any _).mono ?_; rintro e ws ⟨rfl, hbs⟩; replace hB := below_next hB hB.size hbs; clear hbs)
    go_ret
    exact ⟨ret_b (by simp), hB⟩
  | true =>
  have my := hide (hr rfl).1
  have hly := (hr rfl).2
  clear hr
  have h := hide (hi.at sm.out)
  have o := hide (hi.ok sm.out my.out)
  have ht := tt_my my.out o.out.c
  have hit := it_my my.out
  have hx0 := o.out.c.h0
  have hta := hide hta0
  clear hi hta0
  have KO := fun W => hide (open_any u.d.it u.d.ly hit hly W)
  rw [show opV u.d.it u.d.ly = opW u from rfl] at KO
  obtain ⟨ov, hov⟩ : ∃ x, opW u = x := ⟨_, rfl⟩
  rw [hov] at KO
  obtain ⟨k, hk, hkl, hke⟩ := ln_in my.out my.out.t0 my.out.t1
  clear hke
  have HKL := hide hkl
  have HK := hide hk
  have RL := hide (fun W => rline_tn u.c o.out.c u.tt o.out.tt W)
  rw [hk] at RL
  have iov : I64 ov := by rw [← hov]; exact opW_i64 hit hly
  clear hk hkl
  go_wp2_with fail
  refine (shown_any _).mono ?_
  rintro e w4 ⟨rfl, hb1⟩
  replace B1 := boxOf_keep B1 hb1
  replace BC := boxOf_keep BC hb1
  replace hs := Nat.lt_of_lt_of_le hs hb1.size
  replace hB := below_next hB hB.size hb1
  clear hb1
  obtain ⟨i0, hi0, hz0, hz1, hz2⟩ := info_parts info3
  generalize w4 = y1 at *
  have hfew : u.ws.length ≤ 20000 := h.out.m.few
  have hsu : w.heap.size < y1.heap.size := by omega
  have sw := h.out.m.words.later hB
  have nbE := belowN y1 (.cells #[] 3)
  have B1e := boxOf_keep B1 nbE
  have BCe := boxOf_keep BC nbE
  clear B1 BC
  go_wp2_with (at_builtin; refine wpList_app _ rfl _ _ 24 rfl y1.heap.size 3 i0 _ 1 8 Try.underlying24 hi0 hz0 hz1 hz2 rfl (by omega) _ 0 _ rfl (own_empty y1 _ _ _ (Nat.le_refl _)) _ _ u.ws.length a.mc _ rfl (sw.later nbE) (by simp [Value.oneCell']) (by unfold maxLen; omega) (by omega) (by simp) ?_; intro q y2 hown hgw; rw [Nat.zero_add] at hown; obtain ⟨g, cq, cur, rfl, hg, hcur, hcl, htake⟩ := own_box (by have := HKL.out; omega) hown; replace B1e := boxOf_grown hgw B1e (Ne.symm (own_ne (own_empty y1 y1.heap.size 3 1 (Nat.le_refl _)) hsu)); replace BCe := boxOf_grown hgw BCe (Ne.symm (own_ne (own_empty y1 y1.heap.size 3 1 (Nat.le_refl _)) hs)); have hB2 : Below w.heap.size w y2 := (hB.alloc hB.size _).grown hgw (by simp; omega) (fun k e => Nat.le_trans hB.size (own_at (own_empty y1 y1.heap.size 3 1 (Nat.le_refl _)) k e)))
  clear hown hgw sw nbE
  have kk0 : (0 : Int) ≤ (k : Int) := Int.natCast_nonneg _
  have kk1 : (k : Int) < (u.ws.length : Int) := by have := HKL.out; omega
  have ucur : cur[k]? = some (cur[k]'(by have := HKL.out; omega)) := List.getElem?_eq_getElem _
  obtain ⟨u0, hu0⟩ : ∃ x, cur[k]'(by have := HKL.out; omega) = x := ⟨_, rfl⟩
  rw [hu0] at ucur
  clear hu0
  have ne1 : ¬ g = w.heap.size := by omega
  have ne2 : ¬ w.heap.size = g := by omega
  have ne3 : ¬ g = w.heap.size + 1 := by omega
  have Z : boxOf (y2.drew) w.heap.size = some (tcs u a) ∧ boxOf (y2.drew) (w.heap.size + 1) = some (ccs u.c) ∧ boxOf (y2.drew) g = some cur ∧ Below w.heap.size w (y2.drew) := ⟨by rw [boxOf_drew]; exact B1e, by rw [boxOf_drew]; exact BCe, by rw [boxOf_drew]; exact hcur, hB2.drew⟩
  go_region_held3 (fun w' => boxOf w' w.heap.size = some (tcs u a) ∧ boxOf w' (w.heap.size + 1) = some (ccs u.c))
    (first | (with_reducible exact ⟨Z.1, Z.2.1⟩) | (with_reducible exact ⟨Z1.1, Z1.2.1⟩) | (with_reducible exact ⟨Z2.1, Z2.2.1⟩) | (exact ⟨(boxOf_far _ _ _ _ ne1).trans Z2.1, (boxOf_far _ _ _ _ ne3).trans Z2.2.1⟩))
    (first
      | (go_at_call 14; refine (RL.out _).mono ?_; rintro e v1 ⟨rfl, hb1⟩; have Z1 : boxOf (v1) w.heap.size = some (tcs u a) ∧ boxOf (v1) (w.heap.size + 1) = some (ccs u.c) ∧ boxOf (v1) g = some cur ∧ Below w.heap.size w (v1) := keepR Z hb1)
      | (go_at_call 15; refine (KO _).out.mono ?_; rintro e v2 ⟨rfl, hb2⟩; have Z2 : boxOf (v2) w.heap.size = some (tcs u a) ∧ boxOf (v2) (w.heap.size + 1) = some (ccs u.c) ∧ boxOf (v2) g = some cur ∧ Below w.heap.size w (v2) := keepR Z1 hb2; have kg := Z2.2.2.1))
  clear B1e BCe hcur hB2 Z Z1 KO RL
  obtain ⟨B1e, BCe, hcur, hB2⟩ := Z2
  generalize v2 = y4 at *
  obtain ⟨nw, hnw⟩ : ∃ l, u.ws.set k ov = l := ⟨_, rfl⟩
  have HN : Hid (nw.length = u.ws.length) := hide (by rw [← hnw]; simp)
  have hxk : nw[k]? = some ov := by rw [← hnw, List.getElem?_set_self HKL.out]
  have inw : ∀ x ∈ nw, I64 x := by rw [← hnw]; exact set_i64 o.out.ws k iov
  have htk := take_set (k := k) htake ov
  rw [hnw] at htk
  have hz30 : 0 ≤ z % 30 ∧ z % 30 < 30 := ⟨Int.emod_nonneg _ (by decide), Int.emod_lt_of_pos _ (by decide)⟩
  obtain ⟨L, hL⟩ : ∃ L : Nat, z % 30 = (L : Int) := ⟨(z % 30).toNat, by omega⟩
  have hL30 : L < 30 := by omega
  have HL := hide hL
  have hzm : (IntKind.i64.wrap z).tmod 30 = z % 30 := by rw [w64 (by omega), Int.tmod_eq_emod_of_nonneg z0]
  clear hL hz30
  go_upto_region 9 with fail
  (try rw [HL.out])
  have C1 : boxOf ((((y4.setCell ⟨g, k, none⟩ (.int .i64 ov)).setCell ⟨w.heap.size, 14, none⟩ (.slice (some ⟨g, 0, none⟩) u.ws.length cq)).setCell ⟨w.heap.size, 16, none⟩ (.int .i64 23)).setCell ⟨w.heap.size, 27, none⟩ (.int .i64 (L : Int))) w.heap.size = some (tcs ({ u with ws := nw, d := { u.d with ph := 23, lf := (L : Int) } } : Tn) ({ a with mA := some ⟨g, 0, none⟩, mc := cq } : TA)) := by
    have t := boxOf_set _ w.heap.size 27 (.int .i64 (L : Int)) (boxOf_set _ w.heap.size 16 (.int .i64 23) (boxOf_set _ w.heap.size 14 (.slice (some ⟨g, 0, none⟩) u.ws.length cq) (show boxOf (y4.setCell ⟨g, k, none⟩ (.int .i64 ov)) w.heap.size = some (tcs u a) by rw [boxOf_far _ _ _ _ ne1]; exact B1e)))
    rw [← HN.out, ts14, ts16, ts27] at t
    rw [← HN.out]
    exact t
  have hBX : Below w.heap.size w ((((y4.setCell ⟨g, k, none⟩ (.int .i64 ov)).setCell ⟨w.heap.size, 14, none⟩ (.slice (some ⟨g, 0, none⟩) u.ws.length cq)).setCell ⟨w.heap.size, 16, none⟩ (.int .i64 23)).setCell ⟨w.heap.size, 27, none⟩ (.int .i64 (L : Int))) := (((hB2.setCell (by show w.heap.size ≤ g; omega) _).setCell (by simp) _).setCell (by simp) _).setCell (by simp) _
  have sX : Sees ((((y4.setCell ⟨g, k, none⟩ (.int .i64 ov)).setCell ⟨w.heap.size, 14, none⟩ (.slice (some ⟨g, 0, none⟩) u.ws.length cq)).setCell ⟨w.heap.size, 16, none⟩ (.int .i64 23)).setCell ⟨w.heap.size, 27, none⟩ (.int .i64 (L : Int))) ((((y4.setCell ⟨g, k, none⟩ (.int .i64 ov)).setCell ⟨w.heap.size, 14, none⟩ (.slice (some ⟨g, 0, none⟩) u.ws.length cq)).setCell ⟨w.heap.size, 16, none⟩ (.int .i64 23)).setCell ⟨w.heap.size, 27, none⟩ (.int .i64 (L : Int))).heap.size 1 (some ⟨g, 0, none⟩) nw.length (nw.map (Value.int .i64)) := by
    have t := sees_take (boxOf_set _ g k (.int .i64 ov) hcur) htk HN.out.symm
    exact ((t.own1 _ _ _ (fun _ p hp => by cases hp; exact ne1)).own1 _ _ _ (fun _ p hp => by cases hp; exact ne1)).own1 _ _ _ (fun _ p hp => by cases hp; exact ne1)
  have hl := h.out.later hBX
  have TX : TnAt ((((y4.setCell ⟨g, k, none⟩ (.int .i64 ov)).setCell ⟨w.heap.size, 14, none⟩ (.slice (some ⟨g, 0, none⟩) u.ws.length cq)).setCell ⟨w.heap.size, 16, none⟩ (.int .i64 23)).setCell ⟨w.heap.size, 27, none⟩ (.int .i64 (L : Int))) ({ u with ws := nw, d := { u.d with ph := 23, lf := (L : Int) } } : Tn) ({ a with mA := some ⟨g, 0, none⟩, mc := cq } : TA) := ⟨h.out.m.words_at hBX sX HN.out, hl.bx, ⟨hl.th.b, hl.th.k, hl.th.h⟩, hl.tp, hl.lg⟩
  clear sX hl htk htake B1e BCe hcur hB2 ucur hg hcl hnw kg hzm
  generalize ((((y4.setCell ⟨g, k, none⟩ (.int .i64 ov)).setCell ⟨w.heap.size, 14, none⟩ (.slice (some ⟨g, 0, none⟩) u.ws.length cq)).setCell ⟨w.heap.size, 16, none⟩ (.int .i64 23)).setCell ⟨w.heap.size, 27, none⟩ (.int .i64 (L : Int))) = yX at *
  generalize ({ a with mA := some ⟨g, 0, none⟩, mc := cq } : TA) = a1 at *
  have Lp0 : LpC yX.heap.size (spT u nw L 0) a1 yX ((yX.alloc (.cells zT.toArray 38)).setCells yX.heap.size 0 (tcs ({ u with ws := nw, d := { u.d with ph := 23, lf := (L : Int) } } : Tn) a1)) := by
    rw [spT_0]
    exact ⟨boxY yX ({ u with ws := nw, d := { u.d with ph := 23, lf := (L : Int) } } : Tn) a1 38, TX.later (belowY yX ({ u with ws := nw, d := { u.d with ph := 23, lf := (L : Int) } } : Tn) a1 38), TX.off (Nat.le_refl _), belowY yX ({ u with ws := nw, d := { u.d with ph := 23, lf := (L : Int) } } : Tn) a1 38, Nat.le_refl _⟩
  have hml : spM u L ≤ L := by unfold spM; split <;> omega
  have hok := hide (fun n hn => spT_ok o.out inw hL30 (nw := nw) n hn)
  have hnx := hide (fun n hn => spT_next hL30 HK.out (n := n) (by rw [← hov] at hxk; exact hxk) hn)
  have hsm := hide (fun n => spT_same u nw L n)
  have hph := hide (fun n => spT_ph u nw L n)
  have hlm := hide (show (lateB u.d.un u.now = true → spM u L = 0) ∧ (lateB u.d.un u.now = false → spM u L = L) from ⟨fun e => by unfold spM; rw [if_pos e], fun e => by unfold spM; rw [if_neg (by rw [e]; decide)]⟩)
  have hC1 := hide C1
  have KLt := hide (fun W => late_tn ({ u with ws := nw, d := { u.d with ph := 23, lf := (L : Int) } } : Tn) a1 W)
  have hBXh := hide hBX
  clear inw hxk TX hBX hov iov
  go_wp2_with fail
  clear C1
  go_loopw [8] (fun nv wr => ∃ n : Nat, n ≤ spM u L + 1 ∧ nv = .int .i64 n ∧ ∃ b, LpC yX.heap.size (spT u nw L n) b yX wr) (fun nv _ => spM u L + 1 - (intOf nv).toNat)
  case atStart => exact ⟨0, Nat.zero_le _, rfl, a1, Lp0⟩
  case round =>
    obtain ⟨n, hn, rfl, b, Lp⟩ := hrel
    clear Lp0
    have C9 := Lp.b
    have hn50 : (n : Int) < 50 := by omega
    by_cases hlt : n ≤ spM u L
    · have S0 := cstep_any (spT u nw L n) b (hok.out n hn) (by rw [(hsm.out n).1]; exact ht) (by rw [(hsm.out n).2.1]; exact hit) (by rw [(hsm.out n).2.2.1]; exact hly) (by rw [(hsm.out n).2.2.2.1]; exact hta.out) _ Lp.t
      rw [(hnx.out n hlt).1, (hnx.out n hlt).2] at S0
      have p1 := (hph.out n).1 hlt
      obtain ⟨v, hv⟩ : ∃ v, spT u nw L (n + 1) = v := ⟨_, rfl⟩
      rw [hv] at S0
      have HVV := hide hv
      obtain ⟨u1, hu1⟩ : ∃ x, spT u nw L n = x := ⟨_, rfl⟩
      rw [hu1] at S0 Lp C9 p1
      have HLp := hide Lp
      clear Lp hv hu1
      go_wp2_with fail
      refine S0.mono ?_
      rintro e z1 ⟨b', rfl, T2, off2, hb1⟩
      have LN := hide (HLp.out.next T2 off2 hb1 38)
      have D9 := boxOf_keep C9 hb1
      have lk := Nat.lt_of_lt_of_le (boxOf_lt C9) hb1.size
      have ne5 : ¬ z1.heap.size = yX.heap.size := by omega
      have ne6 : ¬ yX.heap.size = z1.heap.size := by omega
      clear C9 hb1 T2 off2 S0 HLp p1
      go_wp2
      go_roundw
      case rel => exact ⟨n + 1, by omega, by go_num, b', by rw [HVV.out]; exact LN.out⟩
      case measure => simp [intOf]; omega
    · obtain rfl : n = spM u L + 1 := by omega
      have p1 := ((hph.out (spM u L + 1)).2 hlt).1
      have p2 := ((hph.out (spM u L + 1)).2 hlt).2
      have p3 : (spT u nw L (spM u L + 1)).ws.length = u.ws.length := by rw [(hsm.out _).2.2.2.2]; exact HN.out
      have cU := Lp.box hC1.out
      have hBF := below_next hBXh.out hBXh.out.size (Lp.lo)
      generalize spT u nw L (spM u L + 1) = vv at *
      have hKL := KLt.out
      obtain ⟨lb, hlb⟩ : ∃ x, lateB u.d.un u.now = x := ⟨_, rfl⟩
      have hl1 := hlm.out
      rw [hlb] at hl1
      rw [show lateB (({ u with ws := nw, d := { u.d with ph := 23, lf := (L : Int) } } : Tn)).d.un (({ u with ws := nw, d := { u.d with ph := 23, lf := (L : Int) } } : Tn)).now = lb from hlb] at hKL
      clear hok hnx hsm hph hlm hC1 KLt hBXh Lp hlb HK
      cases lb with
      | true =>
        have e0 := hl1.1 rfl
        rw [e0] at *
        clear hl1 e0
        go_wp2_with fail
        refine (hKL _).mono ?_
        rintro e w9 ⟨rfl, hb1⟩
        replace C9 := boxOf_keep C9 hb1
        replace hBF := below_next hBF hBF.size hb1
        go_wp2
        go_ret
        exact ⟨ret_b (by simp), hBF⟩
      | false =>
        have e0 := hl1.2 rfl
        have p4 : vv.d.lf = 0 := by rw [p2, e0]; exact Int.sub_self _
        clear p2
        rw [e0] at *
        clear hl1 e0
        have hwr : wrap64 ((L : Int) + 1) = (L : Int) + 1 := wrap64_id (by unfold I64; omega)
        go_wp2_with fail
        refine (hKL _).mono ?_
        rintro e w9 ⟨rfl, hb1⟩
        replace C9 := boxOf_keep C9 hb1
        replace cU := boxOf_keep cU hb1
        replace hBF := below_next hBF hBF.size hb1
        go_wp2
        go_ret
        exact ⟨ret_b (by simp), hBF⟩
end Go.Proofs.Ytjghdbkkjhnpfaa
