/- The walk of GatherAll. -/
import Derived.Test.YtlbekjnpaiiilaaW14Base
import Derived.Test.YtlbekjnpaiiilaaGaD
import Derived.Test.YtlbekjnpaiiilaaEnO
import Derived.Test.YtlbekjnpaiiilaaM4
import Derived.Test.YtlbekjnpaiiilaaM1
import Derived.Lib.QuietBelow
import Derived.Deep.QuietTactic
import Derived.BigQuiet
import Derived.Deep.RegionHeld3
import Derived.Deep.Cut
namespace Go.Proofs.Ytlbekjnpaiiilaa
open Go.RowKit Go.Sort
set_option linter.unusedVariables false
set_option linter.unusedSimpArgs false

theorem rem_lt (z m : Int) (h : 1 ≤ m) : 0 ≤ z % m ∧ z % m < m := ⟨Int.emod_nonneg z (by omega), Int.emod_lt_of_pos z (by omega)⟩
/-- Behind j rounds of the first loop. -/
structure L1 (u : Tn) (a : TA) (q : Nat → Int) (g base : Nat) (w W : World) (v : Value) (j : Nat) : Prop where
  ok : OkG u j
  b : boxOf W w.heap.size = some (tcs u a)
  c : boxOf W (w.heap.size + 1) = some (ccs u.c)
  row : ∃ cur, boxOf W g = some cur ∧ u.ws.length ≤ cur.length ∧ cur.take u.ws.length = (mkG u q j).map (Value.int .i64)
  own : W.ownsRow base 74 3 v (wtG u q j).length (ecells (wtG u q j))
  lo : Below w.heap.size w W
  sz : base ≤ W.heap.size
theorem L1.keep {u : Tn} {a : TA} {q : Nat → Int} {g base : Nat} {w W W' : World} {v : Value} {j : Nat} (h : L1 u a q g base w W v j) (hb : Below W.heap.size W W') : L1 u a q g base w W' v j :=
  ⟨h.ok, boxOf_keep h.b hb, boxOf_keep h.c hb, by obtain ⟨cur, h1, h2, h3⟩ := h.row; exact ⟨cur, boxOf_keep h1 hb, h2, h3⟩, own_below h.own hb, below_next h.lo h.lo.size hb, Nat.le_trans h.sz hb.size⟩
/-- .. and the mark of the next node is stored. -/
structure L1s (u : Tn) (a : TA) (q : Nat → Int) (g base : Nat) (w W : World) (v : Value) (j : Nat) : Prop where
  ok : OkG u (j + 1)
  b : boxOf W w.heap.size = some (tcs u a)
  c : boxOf W (w.heap.size + 1) = some (ccs u.c)
  row : ∃ cur, boxOf W g = some cur ∧ u.ws.length ≤ cur.length ∧ cur.take u.ws.length = (mkG u q (j + 1)).map (Value.int .i64)
  own : W.ownsRow base 74 3 v (wtG u q j).length (ecells (wtG u q j))
  lo : Below w.heap.size w W
  sz : base ≤ W.heap.size
theorem L1s.keep {u : Tn} {a : TA} {q : Nat → Int} {g base : Nat} {w W W' : World} {v : Value} {j : Nat} (h : L1s u a q g base w W v j) (hb : Below W.heap.size W W') : L1s u a q g base w W' v j :=
  ⟨h.ok, boxOf_keep h.b hb, boxOf_keep h.c hb, by obtain ⟨cur, h1, h2, h3⟩ := h.row; exact ⟨cur, boxOf_keep h1 hb, h2, h3⟩, own_below h.own hb, below_next h.lo h.lo.size hb, Nat.le_trans h.sz hb.size⟩
theorem L1s.mk' {u : Tn} {a : TA} {q : Nat → Int} {g base : Nat} {w W : World} {v : Value} {j : Nat} (h : L1s u a q g base w W v j) (e : wtG u q (j + 1) = wtG u q j) : L1 u a q g base w W v (j + 1) :=
  ⟨h.ok, h.b, h.c, h.row, by rw [e]; exact h.own, h.lo, h.sz⟩
theorem L1s.app {u : Tn} {a : TA} {q : Nat → Int} {g base : Nat} {w W W' : World} {v v' : Value} {j : Nat} {l : List E3} (h : L1s u a q g base w W v j) (hgw : W.grownBy W' v.ownBlock) (ho : W'.ownsRow base 74 3 v' ((wtG u q j).length + l.length) (ecells (wtG u q j) ++ ecells l)) (e : wtG u q (j + 1) = wtG u q j ++ l) (hg : w.heap.size + 1 < g) (hgb : g < base) : L1 u a q g base w W' v' (j + 1) :=
  ⟨h.ok, boxOf_grown hgw h.b (Ne.symm (own_ne h.own (by omega))), boxOf_grown hgw h.c (Ne.symm (own_ne h.own (by omega))), by obtain ⟨cur, h1, h2, h3⟩ := h.row; exact ⟨cur, boxOf_grown hgw h1 (Ne.symm (own_ne h.own hgb)), h2, h3⟩, by rw [e, List.length_append, ecells_append]; exact ho, h.lo.grown hgw h.lo.size (fun k ek => by have := own_at h.own k ek; omega), Nat.le_trans h.sz hgw.size⟩
theorem L1.store {u : Tn} {a : TA} {q : Nat → Int} {g base : Nat} {w W : World} {v : Value} {j k : Nat} (h : L1 u a q g base w W v j) (hj : j < u.d.hl.length) (hk : npV u.c u.d.it (u.d.hl[j]?.getD 0) = (k : Int)) (hap : ∀ k' : Nat, k' < j → u.d.hl[k']?.getD 0 ≠ u.d.hl[j]?.getD 0) (hg : w.heap.size + 1 < g) (hgb : g < base) :
    L1s u a q g base w (W.setCell ⟨g, k, none⟩ (.int .i64 (maG u q j))) v j := by
  have ek : ksG u j = k := by rw [ksG, hk]; simp
  refine ⟨⟨hj, fun i hi => ?_, fun i k' hi hk' => ?_⟩, ?_, ?_, ?_, ?_, ?_, by simpa using h.sz⟩
  · rcases Nat.lt_or_ge i j with q | q
    · exact h.ok.np i q
    · obtain rfl : i = j := by omega
      rw [hk]; exact Int.natCast_nonneg _
  · rcases Nat.lt_or_ge i j with q | q
    · exact h.ok.ap i k' q hk'
    · obtain rfl : i = j := by omega
      exact hap k' hk'
  · rw [boxOf_far _ _ _ _ (show ¬ g = w.heap.size by omega)]; exact h.b
  · rw [boxOf_far _ _ _ _ (show ¬ g = w.heap.size + 1 by omega)]; exact h.c
  · obtain ⟨cur, h1, h2, h3⟩ := h.row
    refine ⟨cur.set k (.int .i64 (maG u q j)), boxOf_set _ _ _ _ h1, by rw [List.length_set]; exact h2, ?_⟩
    rw [take_set h3, mkG, ek]
  · exact ownsRow_setCell_below h.own hgb _
  · exact h.lo.setCell (by show w.heap.size ≤ g; omega) _
theorem sG_0 (u : Tn) (q : Nat → Int) (n : Nat) : sG u q n 0 = { u with ws := mkG u q n, d := { u.d with ph := 7, pl := 0 } } := by
  unfold sG; rw [show phG u n 0 = 7 from if_pos (Or.inr rfl)]; rfl
/-- Behind some rounds of the second loop. -/
structure L2 (U : Tn) (A : TA) (kv : Nat) (wA : Option Addr) (want : List E3) (w W : World) (v : Tn) (b : TA) : Prop where
  bu : boxOf W w.heap.size = some (tcs U A)
  bc : boxOf W (w.heap.size + 1) = some (ccs U.c)
  bv : boxOf W kv = some (tcs v b)
  t : TnAt W v b
  off : Off kv v b
  s : Sees W W.heap.size 3 wA want.length (ecells want)
  wo : 0 < want.length → ∀ p, wA = some p → p.block ≠ kv
  lo : Below w.heap.size w W
  k : w.heap.size + 1 < kv
theorem L2.start {U : Tn} {A : TA} {wA : Option Addr} {want : List E3} {w W : World} (kv : Nat) (hkv : kv = W.heap.size) (ty : TypeId) (bu : boxOf W w.heap.size = some (tcs U A)) (bc : boxOf W (w.heap.size + 1) = some (ccs U.c)) (t : TnAt W U A) (s : Sees W W.heap.size 3 wA want.length (ecells want)) (lo : Below w.heap.size w W) :
    L2 U A kv wA want w ((W.alloc (.cells zT.toArray ty)).setCells kv 0 (tcs U A)) U A := by
  subst hkv
  have nb := belowY W U A ty
  exact ⟨boxOf_keep bu nb, boxOf_keep bc nb, boxY W U A ty, t.later nb, t.off (Nat.le_refl _), s.later nb, s.off (Nat.le_refl _), below_next lo lo.size nb, boxOf_lt bc⟩
theorem L2.next {U : Tn} {A : TA} {kv : Nat} {wA : Option Addr} {want : List E3} {w W W1 : World} {v v' : Tn} {b b' : TA} (h : L2 U A kv wA want w W v b) (t1 : TnAt W1 v' b') (ho : ∀ g, g < W.heap.size → Off g v b → Off g v' b') (hb : Below W.heap.size W W1) (ty : TypeId) :
    L2 U A kv wA want w (((W1.alloc (.cells zT.toArray ty)).setCells W1.heap.size 0 (tcs v' b')).setCells kv 0 (tcs v' b')) v' b' := by
  have nb := belowY W1 v' b' ty
  have lk := boxOf_lt h.bv
  have lk1 := Nat.lt_of_lt_of_le lk hb.size
  have B0 := boxOf_keep (boxOf_keep h.bv hb) nb
  have off' := ho kv lk h.off
  have hk := h.k
  have h1 := below_next h.lo h.lo.size hb
  refine ⟨?_, ?_, boxOf_whole _ _ _ B0 ((tcs_length _ _).trans (tcs_length _ _).symm), (t1.later nb).sets off' _ _, off', ((h.s.later hb).later nb).setsC kv h.wo _ _, h.wo, below_sets _ (by omega) _ _ _ _ (below_next h1 h1.size nb), h.k⟩
  · rw [boxOf_sets_far _ _ (show ¬ kv = w.heap.size by omega)]; exact boxOf_keep (boxOf_keep h.bu hb) nb
  · rw [boxOf_sets_far _ _ (show ¬ kv = w.heap.size + 1 by omega)]; exact boxOf_keep (boxOf_keep h.bc hb) nb
attribute [local irreducible] tcs thc ccs zT
attribute [local go_sem ↓] alTn_is alRn_is
attribute [local go_sem] run_alTnf run_alTnt run_alRnf run_alRnt zT_length
attribute [local go_sem ↓] lbTn_is lbRn_is lbTh_is lbRh_is lbCf_is lbRc_is sbTn_is sbRn_is sbTh_is sbRh_is sbCf_is sbRc_is
attribute [local go_sem] run_lbTn run_lbRn run_lbTh run_lbRh run_lbCf run_lbRc run_sbTn run_sbRn run_sbTh run_sbRh run_sbCf run_sbRc
attribute [local go_sem 2000] boxOf_old'
attribute [local go_sem] boxOf_at' boxOf_free' boxOf_alloc objBox_cells objBox_cellsA boxOf_drew boxOf_setI boxOf_setsI size_sets tcs_length thc_length ccs_length tcs_one thc_one ccs_one sub_tn sub_th sub_cf sub_thAll sub_cfAll put_turn put_thread
attribute [local go_sem] tc0 tc1 tc2 tc3 tc4 tc5 tc6 tc7 tc8 tc9 tc10 tc11 tc12 tc13 tc14 tc15 tc16 tc17 tc18 tc19 tc20 tc21 tc22 tc23 tc24 tc25 tc26 tc27 tc28 tc29 tc30 tc31 tc32 tc33 tc34 tc35 tc36 hc0 hc1 hc2 hc3 hc4 hc5 hc6 hc7 hc8 hc9 hc10 hc11 hc12 hc13 hc14 hc15 hc16 kc0 kc1 kc2 kc3 kc4 kc5 kc6 kc7 kc8 kc9 kc10 kc11 tg0 tg1 tg2 tg3 tg4 tg5 tg6 tg7 tg8 tg9 tg10 tg11 tg12 tg13 tg14 tg15 tg16 tg17 tg18 tg19 tg20 tg21 tg22 tg23 tg24 tg25 tg26 tg27 tg28 tg29 tg30 tg31 tg32 tg33 tg34 tg35 tg36 hg0 hg1 hg2 hg3 hg4 hg5 hg6 hg7 hg8 hg9 hg10 hg11 hg12 hg13 hg14 hg15 hg16 kg0 kg1 kg2 kg3 kg4 kg5 kg6 kg7 kg8 kg9 kg10 kg11
attribute [local go_sem] ts12 ts13 ts14 ts16 ts17 ts18 ts19 ts20 ts21 ts22 ts23 ts24 ts25 ts26 ts27 ts28 ts29 ts30 ts31 ts32 ts33 ts34 ts35 ts36 ts15 hs0 hs1 hs2 hs3 hs7 hs8 hs9 hs10 hs11 hs12 hs13 hs14 hs15 hs16

attribute [local irreducible] zC zH
attribute [local go_sem ↓] alCf_is alRc_is alTh_is
attribute [local go_sem] run_alCf run_alRc run_alTh zC_length zH_length put_conf put_thrd
set_option maxRecDepth 100000 in
set_option maxHeartbeats 4000000 in
theorem all_walk (u : Tn) (a : TA) (A2 : Option Addr) (c2 : Nat) (l2 : List Int) (h8 : ∀ x ∈ l2, 0 ≤ x ∧ x ≤ 255) (w : World) (hi : TnIn w u a) (gb : ∀ q ∈ a.bs, Good q.l) (s8 : Sees w w.heap.size 1 A2 l2.length (l2.map (Value.int .u8))) : Calls Try.prog 3 #[.agg (tcs u a).toArray, .slice A2 l2.length c2] w (BoolPost true w) := by
  have B1 : boxOf (((w.alloc (.cells (tcs u a).toArray 38)).alloc (.cells zC.toArray 40)).setCells (w.heap.size + 1) 0 (ccs u.c)) w.heap.size = some (tcs u a) := by simp [go_sem]
  have BC : boxOf (((w.alloc (.cells (tcs u a).toArray 38)).alloc (.cells zC.toArray 40)).setCells (w.heap.size + 1) 0 (ccs u.c)) (w.heap.size + 1) = some (ccs u.c) := by simp [go_sem]
  have hs : w.heap.size + 1 < (((w.alloc (.cells (tcs u a).toArray 38)).alloc (.cells zC.toArray 40)).setCells (w.heap.size + 1) 0 (ccs u.c)).heap.size := by simp [size_sets]
  have hB : Below w.heap.size w (((w.alloc (.cells (tcs u a).toArray 38)).alloc (.cells zC.toArray 40)).setCells (w.heap.size + 1) 0 (ccs u.c)) := below_sets _ (by omega) _ _ _ _ ((belowN w _).alloc (by simp) _)
  go_enter Try.func3, Try.ntmps3
  go_wp2_with fail
  generalize (((w.alloc (.cells (tcs u a).toArray 38)).alloc (.cells zC.toArray 40)).setCells (w.heap.size + 1) 0 (ccs u.c)) = wz at *
  refine (big_tn u a _ (hi.m.later hB)).mono ?_
  rintro e w1 ⟨r, rfl, hr, hb1⟩
  replace B1 := boxOf_keep B1 hb1
  replace BC := boxOf_keep BC hb1
  replace hs := Nat.lt_of_lt_of_le hs hb1.size
  replace hB := below_next hB hB.size hb1
  clear hb1
  cases r with
  | true =>
    go_wp2_with (go_at_call 9; refine (shown_any _).mono ?_; rintro e ws ⟨rfl, hbs⟩; replace hB := below_next hB hB.size hbs; clear hbs)
    go_ret
    exact ⟨ret_b (by simp), hB⟩
  | false =>
  have sm := hide (hr rfl)
  clear hr
  go_wp2_with fail
  refine (may_any u a _).mono ?_
  rintro e w2 ⟨r, rfl, hr, hb1⟩
  replace B1 := boxOf_keep B1 hb1
  replace BC := boxOf_keep BC hb1
  replace hs := Nat.lt_of_lt_of_le hs hb1.size
  replace hB := below_next hB hB.size hb1
  clear hb1
  cases r with
  | false =>
    go_wp2_with (go_at_call 9; refine (shown_any _).mono ?_; rintro e ws ⟨rfl, hbs⟩; replace hB := below_next hB hB.size hbs; clear hbs)
    go_ret
    exact ⟨ret_b (by simp), hB⟩
  | true =>
  have my := hide (hr rfl)
  clear hr
  have h := hide (hi.at sm.out)
  have o := hide (hi.ok sm.out my.out)
  have ht := tt_my my.out o.out.c
  have hx0 := o.out.c.h0
  clear hi
  by_cases h4 : 4 < (u.d.hl.length : Int)
  · clear my sm h o
    go_wp2_with (go_at_call 9; refine (shown_any _).mono ?_; rintro e ws ⟨rfl, hbs⟩; replace hB := below_next hB hB.size hbs; clear hbs)
    go_ret
    exact ⟨ret_b (by simp), hB⟩
  by_cases hw : (l2.length : Int) < (u.d.hl.length : Int)
  · clear my sm h o
    go_wp2_with (go_at_call 9; refine (shown_any _).mono ?_; rintro e ws ⟨rfl, hbs⟩; replace hB := below_next hB hB.size hbs; clear hbs)
    go_ret
    exact ⟨ret_b (by simp), hB⟩
  have hwn : ¬ l2.length < u.d.hl.length := by omega
  have d4 : decide (4 < (u.d.hl.length : Int)) = false := decide_eq_false h4
  have dw : decide (l2.length < u.d.hl.length) = false := decide_eq_false hwn
  go_wp2_with fail
  refine (shown_any _).mono ?_
  rintro e w3 ⟨rfl, hb1⟩
  replace B1 := boxOf_keep B1 hb1
  replace BC := boxOf_keep BC hb1
  replace hs := Nat.lt_of_lt_of_le hs hb1.size
  replace hB := below_next hB hB.size hb1
  clear hb1
  have HN4 := hide (show u.d.hl.length ≤ 4 by omega)
  have HL2 := hide (show u.d.hl.length ≤ l2.length by omega)
  have HWS : Hid (0 < u.ws.length) := hide (by
    have h1 := my.out.w
    have hb := bk_le o.out.c.h3 o.out.c.h4 o.out.c.h5
    have hx1 := o.out.c.h1
    have hm := mul_le (a := u.c.x1) (b := bkV u.c.x3 u.c.x4 u.c.x5) (p := 4) (q := 40) ⟨by omega, hx1.2⟩ ⟨by omega, hb.2⟩
    unfold szV sizeV at h1
    omega)
  have hin := hide (fun x q => node_inG my.out x q)
  obtain ⟨i0, hi0, hz0, hz1, hz2⟩ := info_parts info3
  have hfew : u.ws.length ≤ 20000 := h.out.m.few
  have sw := h.out.m.words.later hB
  have nbE := belowN w3 (.cells #[] 3)
  have B1e := boxOf_keep B1 nbE
  have BCe := boxOf_keep BC nbE
  have hsu : w.heap.size < w3.heap.size := by omega
  clear B1 BC hw
  go_wp2_with (at_builtin; refine wpList_app _ rfl _ _ 24 rfl w3.heap.size 3 i0 _ 1 8 Try.underlying24 hi0 hz0 hz1 hz2 rfl (by omega) _ 0 _ rfl (own_empty w3 _ _ _ (Nat.le_refl _)) _ _ u.ws.length a.mc _ rfl (sw.later nbE) (by simp [Value.oneCell']) (by unfold maxLen; omega) (by omega) (by simp) ?_; intro q y2 hown hgw; rw [Nat.zero_add] at hown; obtain ⟨g, cq, cur, rfl, hg, hcur, hcl, htake⟩ := own_box HWS.out hown; replace B1e := boxOf_grown hgw B1e (Ne.symm (own_ne (own_empty w3 w3.heap.size 3 1 (Nat.le_refl _)) hsu)); replace BCe := boxOf_grown hgw BCe (Ne.symm (own_ne (own_empty w3 w3.heap.size 3 1 (Nat.le_refl _)) hs)); have hB2 : Below w.heap.size w y2 := (hB.alloc hB.size _).grown hgw (by simp; omega) (fun k e => Nat.le_trans hB.size (own_at (own_empty w3 w3.heap.size 3 1 (Nat.le_refl _)) k e)))
  clear hown hgw nbE sw
  have KE := fun W (m : Sees W W.heap.size 3 a.p.bA u.d.bl.length (ecells u.d.bl)) => ents_own a.p.bA a.p.bc u.d.bl u.d.bl.length rfl (by have := o.out.b; omega) W m
  refine (KE _ (h.out.later hB2).th.b).mono ?_
  rintro e y3 ⟨v0, rfl, hown, hb1⟩
  have hgy := boxOf_lt hcur
  have hyy := hb1.size
  replace B1e := boxOf_keep B1e hb1
  replace BCe := boxOf_keep BCe hb1
  replace hcur := boxOf_keep hcur hb1
  replace hB2 := below_next hB2 hB2.size hb1
  clear hb1 KE
  obtain ⟨q, hqd⟩ : ∃ q : Nat → Int, (fun i => (l2[i]?.getD 0) % (u.c.x0 + 1)) = q := ⟨_, rfl⟩
  have hgw1 : w.heap.size + 1 < g := by omega
  have hG : Hid (InG u q) := hide ⟨o.out, ht, fun x hx => node_inG my.out x hx, by rw [← h.out.bx, boxes_length]; exact my.out.b, HN4.out, sm.out.2.2.2.1, sm.out.2.2.2.2.1, fun l hl => by rw [← h.out.bx] at hl; obtain ⟨bq, hb, rfl⟩ := List.mem_map.1 hl; exact ⟨sm.out.2.2.1 bq hb, gb bq hb⟩, fun i => by subst hqd; have := rem_lt (l2[i]?.getD 0) (u.c.x0 + 1) (by omega); exact ⟨this.1, Int.lt_add_one_iff.1 this.2⟩⟩
  obtain ⟨i1, hi1, hy0, hy1, hy2⟩ := info_parts info52
  have L0 : L1 u a q g y2.heap.size w y3 v0 0 := ⟨⟨Nat.zero_le _, fun i h => absurd h (Nat.not_lt_zero _), fun i k h => absurd h (Nat.not_lt_zero _)⟩, B1e, BCe, ⟨cur, hcur, hcl, htake⟩, hown, hB2, hyy⟩
  clear B1e BCe hcur hcl htake hown hB2 hg hs hB
  go_wp2
  go_loopw [7, 8, 9] (fun v s i wr => ∃ j : Nat, j ≤ u.d.hl.length ∧ i = .int .i64 j ∧ s = .int .i64 (ctG u q j : Int) ∧ L1 u a q g y2.heap.size w wr v j) (fun _ _ i _ => u.d.hl.length - (intOf i).toNat)
  case atStart => exact ⟨0, Nat.zero_le _, rfl, rfl, L0⟩
  case round =>
    obtain ⟨j, hj, rfl, rfl, L⟩ := hrel
    have C1 := L.b
    have C2 := L.c
    by_cases hlt : j < u.d.hl.length
    · have hpn : 0 < u.d.hl.length := by omega
      obtain ⟨n, hn⟩ : ∃ n, u.d.hl[j]? = some n := ⟨u.d.hl[j], List.getElem?_eq_getElem hlt⟩
      have RC := fun W => rnode_tn u.c o.out.c u.d.it o.out.iit n (o.out.f.h n (List.mem_of_getElem? hn)) W
      have hsg := np_sign u.c o.out.c u.d.it n
      obtain ⟨np, hnp⟩ : ∃ x, npV u.c u.d.it n = x := ⟨_, rfl⟩
      rw [hnp] at RC hsg
      obtain ⟨bh, oh, eh, _, ch⟩ := (h.out.th.h.later L.lo).2 hpn
      have chj := ch j (.int .i64 n) (by simp [hn])
      have j0 : (0 : Int) ≤ (j : Int) := Int.natCast_nonneg _
      have j1 : (j : Int) < (u.d.hl.length : Int) := by omega
      have HNP := hide hnp
      have HN0 := hide hn
      have HL := hide L
      clear hnp hn L ch
      go_wp2_with fail
      have R1 := fun d os => boxOf_keep C1 (below_regrown wr d os)
      have R2 := fun d os => boxOf_keep C2 (below_regrown wr d os)
      have r1 := cell_regrown chj
      have Qn := hide (fun d os => Calls.regrown_of (w := wr) (RC (grow (redrawn wr d) os)))
      refine wp_region_quiet_below (by kernel_rfl) (by kernel_rfl) ?_
      repeat (go_big_quiet_step (first | (go_at_call 11; exact Qn.out _ _)))
      refine wpQuiet_nil ?_
      intro _ hw'
      obtain ⟨⟨dq, osq⟩, hw''⟩ := hw'
      subst hw''
      have LQ := hide (HL.out.keep (below_regrown wr dq osq))
      have cj2 := cell_regrown chj dq osq
      clear R1 R2 r1 Qn RC C1 C2 chj HL
      generalize grow (redrawn wr dq) osq = wq at *
      have HH := hide (h.out.th.h.later LQ.out.lo)
      clear cj2
      go_wp2
      go_loopw [11] (fun k wr => ∃ m : Nat, m ≤ j ∧ k = .int .i64 m ∧ (∀ k' : Nat, k' < m → u.d.hl[k']?.getD 0 ≠ n) ∧ Below wq.heap.size wq wr) (fun k _ => j - (intOf k).toNat)
      case atStart => exact ⟨0, Nat.zero_le _, rfl, fun k' hk => absurd hk (Nat.not_lt_zero _), Below.refl _ _⟩
      case round =>
        obtain ⟨m, hm, rfl, hap, hbr⟩ := hrel
        have D1 := boxOf_keep LQ.out.b hbr
        have D2 := boxOf_keep LQ.out.c hbr
        obtain ⟨bk, ok', ek, _, ck⟩ := (HH.out.later hbr).2 hpn
        have cj := ck j (.int .i64 n) (by simp [HN0.out])
        by_cases hmj : m < j
        · obtain ⟨x, hx⟩ : ∃ x, u.d.hl[m]? = some x := ⟨u.d.hl[m], List.getElem?_eq_getElem (by omega)⟩
          have cm := ck m (.int .i64 x) (by simp [hx])
          have m0 : (0 : Int) ≤ (m : Int) := Int.natCast_nonneg _
          have m1 : (m : Int) < (u.d.hl.length : Int) := by omega
          have m2 : (m : Int) < (j : Int) := by omega
          by_cases hxn : x = n
          · subst hxn
            have hLo := hide (fun d os => below_next (below_next LQ.out.lo LQ.out.lo.size hbr) (below_next LQ.out.lo LQ.out.lo.size hbr).size (below_regrown wr d os))
            clear ck hx eh LQ
            go_wp2_with fail
            have R1 := fun d os => boxOf_keep D1 (below_regrown wr d os)
            have R2 := fun d os => boxOf_keep D2 (below_regrown wr d os)
            have r1 := cell_regrown cj
            have r2 := cell_regrown cm
            refine wp_region_quiet_below (by kernel_rfl) (by kernel_rfl) ?_
            repeat (go_big_quiet_step (fail))
            refine wpQuiet_nil ?_
            intro _ hw'
            obtain ⟨⟨dq2, osq2⟩, hw''⟩ := hw'
            subst hw''
            clear R1 R2 r1 r2
            have hL2 := hLo.out dq2 osq2
            generalize grow (redrawn wr dq2) osq2 = wv at *
            go_wp2
            go_ret
            exact ⟨ret_b (by simp), hL2⟩
          · have hbn : (x == n) = false := by simpa using hxn
            have HAP : Hid (∀ k' : Nat, k' < m + 1 → u.d.hl[k']?.getD 0 ≠ n) := hide (fun k' hk => by
              rcases Nat.lt_or_ge k' m with q | q
              · exact hap k' q
              · obtain rfl : k' = m := by omega
                rw [hx]; exact hxn)
            have hLo := hide (fun d os => below_next hbr hbr.size (below_regrown wr d os))
            clear ck hx eh hap
            go_wp2_with fail
            have R1 := fun d os => boxOf_keep D1 (below_regrown wr d os)
            have R2 := fun d os => boxOf_keep D2 (below_regrown wr d os)
            have r1 := cell_regrown cj
            have r2 := cell_regrown cm
            refine wp_region_quiet_below (by kernel_rfl) (by kernel_rfl) ?_
            repeat (go_big_quiet_step (fail))
            refine wpQuiet_nil ?_
            intro _ hw'
            obtain ⟨⟨dq2, osq2⟩, hw''⟩ := hw'
            subst hw''
            clear R1 R2 r1 r2
            have hL2 := hLo.out dq2 osq2
            generalize grow (redrawn wr dq2) osq2 = wv at *
            go_wp2
            go_roundw
            case rel => exact ⟨m + 1, by omega, by go_num, HAP.out, hL2⟩
            case measure => simp [intOf]; omega
        · obtain rfl : m = j := by omega
          have LR := hide (LQ.out.keep hbr)
          have m2 : ¬ (m : Int) < (m : Int) := by omega
          clear LQ ck HH hm eh cj
          rcases hsg with hsg | hsg
          · subst hsg
            have hLo := LR.out.lo
            go_wp2
            go_ret
            exact ⟨ret_b (by simp), hLo⟩
          have hmem := List.getElem?_eq_getElem (l := l2) (i := m) (by have := HL2.out; omega)
          obtain ⟨z, hz⟩ : ∃ z, l2[m]? = some z := ⟨_, hmem⟩
          have hz8 := h8 z (List.mem_of_getElem? hz)
          obtain ⟨b8, o8, e8, _, c8⟩ := (s8.later LR.out.lo).2 (by have := HL2.out; omega)
          have c8m := c8 m (.int .u8 z) (by simp [hz])
          have m3 : (0 : Int) ≤ (m : Int) := Int.natCast_nonneg _
          have m4 : (m : Int) < (l2.length : Int) := by have := HL2.out; omega
          have hqm : q m = z % (u.c.x0 + 1) := by rw [← hqd]; simp [hz]
          have hq0 := rem_lt z (u.c.x0 + 1) (by omega)
          have nz : ¬ u.c.x0 + 1 = 0 := by omega
          have w1x : wrap64 (u.c.x0 + 1) = u.c.x0 + 1 := wrap64_id (by unfold I64; omega)
          clear hmem c8 hz
          go_wp2_with fail
          have R1 := fun d os => boxOf_keep D1 (below_regrown wr d os)
          have R2 := fun d os => boxOf_keep D2 (below_regrown wr d os)
          have r1 := cell_regrown c8m
          refine wp_region_quiet_below (by kernel_rfl) (by kernel_rfl) ?_
          repeat (go_big_quiet_step (fail))
          refine wpQuiet_nil ?_
          intro _ hw'
          obtain ⟨⟨dq2, osq2⟩, hw''⟩ := hw'
          subst hw''
          have LS := hide (LR.out.keep (below_regrown wr dq2 osq2))
          clear R1 R2 r1 D1 D2 c8m LR
          generalize grow (redrawn wr dq2) osq2 = wv at *
          have D1 := LS.out.b
          have D2 := LS.out.c
          obtain ⟨k, hk, hkl⟩ := hin.out n (by rw [HNP.out]; exact hsg)
          obtain rfl : np = (k : Int) := by rw [← HNP.out]; exact hk
          have kk0 : (0 : Int) ≤ (k : Int) := Int.natCast_nonneg _
          have kk1 : (k : Int) < (u.ws.length : Int) := by omega
          have hNJ : u.d.hl[m]?.getD 0 = n := by rw [HN0.out]; rfl
          have HST := fun W (L : L1 u a q g y2.heap.size w W u7 m) => hide (L.store hlt (by rw [hNJ]; exact hk) (by intro k' hk'; rw [hNJ]; exact hap k' hk') hgw1 hgy)
          have hct : ctG u q m ≤ 12 := by have := ct_le u q m; have := HN4.out; omega
          clear hap hsg hk HNP HN0
          by_cases hqx : q m = u.c.x0
          · have hbe : (z % (u.c.x0 + 1) == u.c.x0) = true := by rw [← hqm]; simpa using hqx
            have KF := fun W => first_any u.tt ht W
            have hma : maG u q m = frV 1 u.tt := by rw [maG, if_pos hqx]
            have hwt : wtG u q (m + 1) = wtG u q m := by rw [wtG, if_pos hqx]
            have hcte : ctG u q (m + 1) = ctG u q m + 2 := by rw [ctG, if_pos hqx]
            obtain ⟨fv, hfv⟩ : ∃ x, frV 1 u.tt = x := ⟨_, rfl⟩
            rw [hfv] at KF hma
            rw [hma] at HST
            clear hfv hma
            go_wp2_with fail
            refine (KF _).mono ?_
            rintro e y4 ⟨rfl, hb1⟩
            have LT := LS.out.keep hb1
            obtain ⟨cur, hcur, hcl, _⟩ := LT.row
            have hS := HST _ LT
            have ucur : cur[k]? = some (cur[k]'(by omega)) := List.getElem?_eq_getElem _
            have D1 := LT.b
            have hcte' := hide hcte
            have hwt' := hide hwt
            clear LS LT hb1 KF HST hcte hwt D2
            go_wp2_with fail
            rw [← e8, ← ek]
            go_roundw
            case rel => exact ⟨m + 1, hlt, by go_num, by rw [hcte'.out]; go_num, hS.out.mk' hwt'.out⟩
            case measure => simp [intOf]; omega
          · have hbe : (z % (u.c.x0 + 1) == u.c.x0) = false := by rw [← hqm]; simpa using hqx
            have h15 : 0 ≤ z % (u.c.x0 + 1) ∧ z % (u.c.x0 + 1) ≤ 15 := by rw [← hqm] at *; omega
            have hqlt : z % (u.c.x0 + 1) < u.c.x0 := by rw [← hqm] at *; omega
            have hma : maG u q m = frV 3 (z % (u.c.x0 + 1)) := by rw [maG, if_neg hqx, hqm]
            have hwt : wtG u q (m + 1) = wtG u q m ++ bxV u.bx (z % (u.c.x0 + 1)) := by rw [wtG, if_neg hqx, hqm]
            have hcte : ctG u q (m + 1) = ctG u q m + 3 := by rw [ctG, if_neg hqx]
            obtain ⟨t, ht0⟩ : ∃ t : Nat, z % (u.c.x0 + 1) = (t : Int) := ⟨(z % (u.c.x0 + 1)).toNat, by omega⟩
            rw [ht0] at h15 hqlt hma hwt hbe ⊢
            have KD := fun W => deposited_any (t : Int) h15 W
            obtain ⟨fv, hfv⟩ : ∃ x, frV 3 (t : Int) = x := ⟨_, rfl⟩
            rw [hfv] at KD hma
            rw [hma] at HST
            clear hfv hma
            go_wp2_with fail
            refine (KD _).mono ?_
            rintro e y4 ⟨rfl, hb1⟩
            have LT := LS.out.keep hb1
            obtain ⟨cur, hcur, hcl, _⟩ := LT.row
            have hS := HST _ LT
            have ucur : cur[k]? = some (cur[k]'(by omega)) := List.getElem?_eq_getElem _
            have D1 := LT.b
            have hcte' := hide hcte
            have hwt' := hide hwt
            have htb : t < a.bs.length := by have := my.out.b; omega
            obtain ⟨bq, hbq⟩ : ∃ bq, a.bs[t]? = some bq := ⟨a.bs[t], List.getElem?_eq_getElem htb⟩
            have hbv : bxV u.bx (t : Int) = bq.l := bxV_at (by rw [← h.out.bx, boxes, List.getElem?_map, hbq]; rfl)
            clear LS LT hb1 KD HST hcte hwt D2
            go_upto_region 23 with fail
            have hqs : Sees w w.heap.size 3 bq.A bq.l.length (ecells bq.l) := h.out.m.each bq (List.mem_of_getElem? hbq)
            have hqn : bq.l.length ≤ 20 := sm.out.2.2.1 bq (List.mem_of_getElem? hbq)
            have hwl := (wt_in hG.out m).1
            have hm4 : m < 4 := by have := HN4.out; omega
            obtain ⟨W1, hW1⟩ : ∃ W1, y4.setCell ⟨g, k, none⟩ (.int .i64 fv) = W1 := ⟨_, rfl⟩
            replace hS := hide hS.out
            rw [hW1] at hS ⊢
            obtain ⟨bB, oB, eB, _, cB⟩ := (h.out.m.bxs.later hS.out.lo).2 (show 0 < a.bs.length by omega)
            have cBt := cB t bq.val (by simp [hbq])
            have t0 : (0 : Int) ≤ (t : Int) := Int.natCast_nonneg _
            have t1 : (t : Int) < (a.bs.length : Int) := by omega
            have D1 := hS.out.b
            replace hqs := hqs.later hS.out.lo
            obtain ⟨qA, qc, ql⟩ := bq
            simp only [Bt.val] at cBt hqs hqn hbv
            rw [hbv] at hwt'
            have KE := fun W (s : Sees W W.heap.size 3 qA ql.length (ecells ql)) => ents_any qA qc ql ql.length rfl (by omega) W s
            have HLA := hide (fun (v' : Value) (W' W : World) (L : L1s u a q g y2.heap.size w W u7 m) (p : W'.ownsRow y2.heap.size 74 3 v' ((wtG u q m).length + ql.length) (ecells (wtG u q m) ++ ecells ql)) (gw : W.grownBy W' u7.ownBlock) => L.app (l := ql) gw p hwt'.out hgw1 hgy)
            clear hbq hbv cB hW1 hcur hcl ucur
            go_wp2_with fail
            refine (KE _ hqs).mono ?_
            rintro e W2 ⟨E1, c1, rfl, _, s1, _, hb1⟩
            have hS2 := hide (hS.out.keep hb1)
            have D1 := hS2.out.b
            have hbz : y2.heap.size ≤ W2.heap.size := hS2.out.sz
            clear hS hqs KE cBt
            go_wp2_with (at_builtin; refine wpList_app _ rfl _ _ 43 rfl y2.heap.size 74 i1 _ 3 24 Try.underlying43 hi1 hy0 hy1 hy2 rfl (by omega) _ (wtG u q m).length _ rfl hS2.out.own _ _ ql.length c1 _ rfl s1 (ecells_one _) (by unfold maxLen; omega) (by omega) hbz ?_; intro v' W3 hown' hgw3)
            have hL := hide (HLA.out v' W3 W2 hS2.out hown' hgw3)
            rw [← e8, ← ek, ← eB]
            clear HLA hown' hgw3 s1
            go_roundw
            case rel => exact ⟨m + 1, hlt, by go_num, by rw [hcte'.out]; go_num, hL.out⟩
            case measure => simp [intOf]; omega
    · obtain rfl : j = u.d.hl.length := by omega
      have hL := hide L
      obtain ⟨wA, wc, rfl, _⟩ := own_form L.own
      obtain ⟨cur, hcur, hcl, htake⟩ := L.row
      have j1 : ¬ (u.d.hl.length : Int) < (u.d.hl.length : Int) := by omega
      have C1 := L.b
      have ne1 : ¬ g = w.heap.size := by omega
      have hml := mkG_length u q u.d.hl.length
      have hlo := L.lo
      have hk0 := boxOf_lt L.c
      have hWa : ∃ Wa, Wa = (((wr.setCell ⟨w.heap.size, 14, none⟩ (.slice (some ⟨g, 0, none⟩) u.ws.length cq)).setCell ⟨w.heap.size, 16, none⟩ (.int .i64 7)).setCell ⟨w.heap.size, 25, none⟩ (.int .i64 0)) := ⟨_, rfl⟩
      obtain ⟨Wa, hWa⟩ := hWa
      have t1 : boxOf Wa w.heap.size = some (tcs (sG u q u.d.hl.length 0) ({ a with mA := some ⟨g, 0, none⟩, mc := cq } : TA)) := by
        have t := boxOf_set _ w.heap.size 25 (.int .i64 0) (boxOf_set _ w.heap.size 16 (.int .i64 7) (boxOf_set _ w.heap.size 14 (.slice (some ⟨g, 0, none⟩) u.ws.length cq) C1))
        rw [← hml, ts14, ts16, ts25] at t
        rw [hWa, sG_0, ← hml]
        exact t
      have t2 : boxOf Wa (w.heap.size + 1) = some (ccs u.c) := by
        rw [hWa, boxOf_far _ _ _ _ (show ¬ w.heap.size = w.heap.size + 1 by omega), boxOf_far _ _ _ _ (show ¬ w.heap.size = w.heap.size + 1 by omega), boxOf_far _ _ _ _ (show ¬ w.heap.size = w.heap.size + 1 by omega)]; exact L.c
      have t3 : Below w.heap.size w Wa := by rw [hWa]; exact ((hlo.setCell (Nat.le_refl _) _).setCell (Nat.le_refl _) _).setCell (Nat.le_refl _) _
      have sX : Sees Wa Wa.heap.size 1 (some ⟨g, 0, none⟩) (mkG u q u.d.hl.length).length ((mkG u q u.d.hl.length).map (Value.int .i64)) := by
        have t := sees_take hcur htake hml.symm
        rw [hWa]
        exact ((t.own1 _ _ _ (fun _ p hp => by cases hp; exact ne1)).own1 _ _ _ (fun _ p hp => by cases hp; exact ne1)).own1 _ _ _ (fun _ p hp => by cases hp; exact ne1)
      have hl := h.out.later t3
      have TX : TnAt Wa (sG u q u.d.hl.length 0) ({ a with mA := some ⟨g, 0, none⟩, mc := cq } : TA) := by rw [sG_0]; exact ⟨h.out.m.words_at t3 sX hml, hl.bx, ⟨hl.th.b, hl.th.k, hl.th.h⟩, hl.tp, hl.lg⟩
      have sW : Sees Wa Wa.heap.size 3 wA (wtG u q u.d.hl.length).length (ecells (wtG u q u.d.hl.length)) := by
        have t := Sees.of_own L.own
        have nw : 0 < (wtG u q u.d.hl.length).length → ∀ p, wA = some p → p.block ≠ w.heap.size := fun _ p hp => by
          have := own_at L.own p.block (by rw [hp]; rfl); omega
        rw [hWa]
        exact ((t.own1 _ _ _ nw).own1 _ _ _ nw).own1 _ _ _ nw
      have hsz : wr.heap.size = Wa.heap.size := by rw [hWa]; simp
      have hOKn := L.ok
      have M0 := hide (L2.start wr.heap.size hsz 38 t1 t2 TX sW t3)
      have TW : tcs ({ u with d := { u.d with ph := 7, pl := 0 } } : Tn) ({ a with mA := some ⟨g, 0, none⟩, mc := cq } : TA) = tcs (sG u q u.d.hl.length 0) ({ a with mA := some ⟨g, 0, none⟩, mc := cq } : TA) := by rw [sG_0]; unfold tcs; rw [hml]
      have HWA := hide hWa
      have HTW := hide TW
      have hk1 := M0.out.k
      clear L hj hlt L0 t1 t2 t3 sX hl TX sW hcur htake hcl hL hsz hWa TW hml hlo hk0
      go_upto_region 29 with fail
      rw [HTW.out, ← HWA.out]
      generalize hYb : (Wa.alloc (.cells zT.toArray 38)).setCells wr.heap.size 0 (tcs (sG u q u.d.hl.length 0) ({ a with mA := some ⟨g, 0, none⟩, mc := cq } : TA)) = yb at *
      generalize wr.heap.size = kv at *
      have hok := hide (fun j v (p : AtG u q u.d.hl.length j v) => at_ok hG.out rfl p)
      have hnx := hide (fun j v (p : AtG u q u.d.hl.length j v) (hj : j < ctG u q u.d.hl.length) => at_next hG.out hOKn rfl p hj)
      clear HTW HWA C1 C2 ne1 hYb
      go_wp2
      go_loopw [14] (fun i wr => ∃ j : Nat, j ≤ ctG u q u.d.hl.length ∧ i = .int .i64 j ∧ ∃ v b, AtG u q u.d.hl.length j v ∧ L2 (sG u q u.d.hl.length 0) ({ a with mA := some ⟨g, 0, none⟩, mc := cq } : TA) kv wA (wtG u q u.d.hl.length) w wr v b) (fun i _ => ctG u q u.d.hl.length - (intOf i).toNat)
      case atStart => exact ⟨0, Nat.zero_le _, rfl, _, _, at_0 u q u.d.hl.length, M0.out⟩
      case round =>
        obtain ⟨j, hj, rfl, v, b, hv, M⟩ := hrel
        have C9 := M.bv
        have C1 := M.bu
        by_cases hlt : j < ctG u q u.d.hl.length
        · have j1 : (j : Int) < (ctG u q u.d.hl.length : Int) := by omega
          have o9 := hok.out j v hv
          have S0 := gstep_any v b o9.1 (by rw [o9.2]; exact ht) _ M.t
          have n9 := hnx.out j v hv hlt
          rw [n9.2] at S0
          obtain ⟨v', hv'⟩ : ∃ x, stepG v = x := ⟨_, rfl⟩
          rw [hv'] at S0 n9
          have HM := hide M
          have HN9 := hide n9.1
          clear M n9 hv' hv o9
          replace S0 := hide S0
          have hct : ctG u q u.d.hl.length ≤ 12 := by have := ct_le u q u.d.hl.length; have := HN4.out; omega
          go_wp2_with fail
          refine S0.out.mono ?_
          rintro e z1 ⟨b', rfl, T2, O2, hb1⟩
          have LN := hide (HM.out.next T2 O2 hb1 38)
          have D9 := boxOf_keep C9 hb1
          have lk := Nat.lt_of_lt_of_le (boxOf_lt C9) hb1.size
          have ne1 : ¬ z1.heap.size = kv := by omega
          have ne2 : ¬ kv = z1.heap.size := by omega
          clear C1 C9 hb1 T2 O2 S0 HM
          go_wp2
          go_roundw
          case rel => exact ⟨j + 1, by omega, by go_num, v', b', HN9.out, LN.out⟩
          case measure => simp [intOf]; omega
        · obtain rfl : j = ctG u q u.d.hl.length := by omega
          have hE := at_end hv
          subst hE
          have hVw : (sG u q u.d.hl.length u.d.hl.length).ws.length = u.ws.length := frG_length u q _ _
          have hVb : (sG u q u.d.hl.length u.d.hl.length).d.bl = wtG u q u.d.hl.length := rfl
          have hVf : ∀ i, i < u.d.hl.length → (sG u q u.d.hl.length u.d.hl.length).ws[ksG u i]? = some 0 := fun i hi => frG_0 hG.out hOKn _ hi (Nat.le_refl _)
          have hVp : (sG u q u.d.hl.length u.d.hl.length).d.ph = phG u u.d.hl.length u.d.hl.length := rfl
          have hVs : (sG u q u.d.hl.length u.d.hl.length).d.st = u.d.st := rfl
          have hwl := (wt_in hG.out u.d.hl.length).1
          obtain ⟨V, hV⟩ : ∃ x, sG u q u.d.hl.length u.d.hl.length = x := ⟨_, rfl⟩
          rw [hV] at hVw hVb hVf hVp hVs M C9
          rw [sG_0] at M C1
          have HM := hide M
          rw [← hVb] at hwl
          have h4 := HN4.out
          have hlb : V.d.bl.length ≤ 100 := by omega
          have b1 : ((V.ws.length : Int) != (u.ws.length : Int)) = false := by rw [hVw]; simp
          have b2 : decide (100 < (V.d.bl.length : Int)) = false := decide_eq_false (by omega)
          have b3 : ¬ 100 < (V.d.bl.length : Int) := by omega
          have HVB := hide hVb
          have HVW := hide hVw
          have HVF := hide hVf
          have HVP := hide hVp
          have HVS := hide hVs
          have sW : Sees wr wr.heap.size 3 wA V.d.bl.length (ecells V.d.bl) := by rw [hVb]; exact M.s
          have HSW := hide sW
          have j1 : ¬ (ctG u q u.d.hl.length : Int) < (ctG u q u.d.hl.length : Int) := by omega
          rw [← hVb]
          clear M hv hV hVb hVw hVf hVp hVs hwl sW hnx hok hlt hj
          generalize wr = wo at *
          go_wp2_with fail
          refine (ents_any b.p.bA b.p.bc V.d.bl V.d.bl.length rfl (by omega) _ HM.out.t.th.b).mono ?_
          rintro e y5 ⟨E1, c1, rfl, _, s1, _, hb1⟩
          have C9 := boxOf_keep HM.out.bv hb1
          have C1 := boxOf_keep HM.out.bu hb1
          go_wp2_with fail
          refine (same_any E1 wA c1 wc V.d.bl.length V.d.bl.length V.d.bl V.d.bl rfl rfl (by omega) _ s1 (HSW.out.later hb1)).mono ?_
          rintro e y6 ⟨rfl, hb2⟩
          rw [decide_eq_true rfl]
          have D9 := boxOf_keep C9 hb2
          have D1 := boxOf_keep C1 hb2
          have D2 := boxOf_keep (boxOf_keep HM.out.bc hb1) hb2
          have hw1 := below_next HM.out.lo HM.out.lo.size hb1
          have hw6 := hide (below_next hw1 hw1.size hb2)
          have hT := hide ((HM.out.t.later hb1).later hb2)
          clear C1 C9 s1 hb1 hb2 hw1 HM HSW
          go_wp2
          go_loopw [17] (fun i wr => ∃ j : Nat, j ≤ u.d.hl.length ∧ i = .int .i64 j ∧ Below y6.heap.size y6 wr) (fun i _ => u.d.hl.length - (intOf i).toNat)
          case atStart => exact ⟨0, Nat.zero_le _, rfl, Below.refl _ _⟩
          case round =>
            obtain ⟨j, hj, rfl, hbr⟩ := hrel
            have G9 := boxOf_keep D9 hbr
            have G1 := boxOf_keep D1 hbr
            have G2 := boxOf_keep D2 hbr
            have hlr := below_next hw6.out hw6.out.size hbr
            have hLR := hide hlr
            by_cases hlt : j < u.d.hl.length
            · obtain ⟨x, hx⟩ : ∃ x, u.d.hl[j]? = some x := ⟨u.d.hl[j], List.getElem?_eq_getElem hlt⟩
              have ix := o.out.f.h x (List.mem_of_getElem? hx)
              have hkx : npV u.c u.d.it x = (ksG u j : Int) ∧ ksG u j < u.ws.length := by have := ksG_is hG.out hOKn hlt; rw [hx] at this; exact this
              have KN := fun W => rnode_tn u.c o.out.c u.d.it o.out.iit x ix W
              rw [hkx.1] at KN
              have hk2 := hkx.2
              have hvf := HVF.out j hlt
              obtain ⟨k, hk⟩ : ∃ k, ksG u j = k := ⟨_, rfl⟩
              rw [hk] at KN hk2 hvf
              obtain ⟨bk, ok', ek, _, ck⟩ := (h.out.th.h.later hlr).2 (by omega)
              have g1 := ck j (.int .i64 x) (by simp [hx])
              obtain ⟨bw, ow, ew, _, cw⟩ := (hT.out.later hbr).m.words.2 (by rw [HVW.out]; omega)
              have g2 := cw k (.int .i64 0) (by rw [List.getElem?_map, hvf]; rfl)
              have j0 : (0 : Int) ≤ (j : Int) := Int.natCast_nonneg _
              have j1 : (j : Int) < (u.d.hl.length : Int) := by omega
              have kk0 : (0 : Int) ≤ (k : Int) := Int.natCast_nonneg _
              have kk1 : (k : Int) < (V.ws.length : Int) := by rw [HVW.out]; omega
              replace KN := hide KN
              have HBR := hide hbr
              clear ck cw hx hk hkx hvf hlr
              go_wp2_with fail
              have R9 := fun d os => boxOf_keep G9 (below_regrown wr d os)
              have R1 := fun d os => boxOf_keep G1 (below_regrown wr d os)
              have R2 := fun d os => boxOf_keep G2 (below_regrown wr d os)
              have r1 := cell_regrown g1
              have r2 := cell_regrown g2
              have Q1 := hide (fun d os => Calls.regrown_of (w := wr) (KN.out (grow (redrawn wr d) os)))
              refine wp_region_quiet_below (by kernel_rfl) (by kernel_rfl) ?_
              repeat (go_big_quiet_step (first | (go_at_call 11; exact Q1.out _ _)))
              refine wpQuiet_nil ?_
              intro _ hw'
              obtain ⟨⟨dq, osq⟩, hw''⟩ := hw'
              subst hw''
              clear R9 R1 R2 r1 r2 Q1 G9 G1 G2 g1 g2
              go_wp2
              (try rw [← ek])
              (try rw [← ew])
              go_roundw
              case rel => exact ⟨j + 1, by omega, by go_num, below_next HBR.out HBR.out.size (below_regrown wr dq osq)⟩
              case measure => simp [intOf]; omega
            · obtain rfl : j = u.d.hl.length := by omega
              have hp := HVP.out
              have hs0 := HVS.out
              clear hbr hlr hj hlt
              by_cases hn0 : u.d.hl.length = 0
              · have e0 : ((u.d.hl.length : Int) == 0) = true := by simp [hn0]
                clear hp hs0
                go_wp2
                go_ret
                exact ⟨ret_b (by simp [hn0]), hLR.out⟩
              · have e0 : ((u.d.hl.length : Int) == 0) = false := by simp [hn0]
                by_cases hst : 0 < u.d.st
                · have hph : V.d.ph = 11 := by rw [hp, phG, if_neg (by omega), if_pos hst]
                  have d1 : decide (0 < u.d.st) = true := decide_eq_true hst
                  clear hp hs0
                  go_wp2
                  go_ret
                  exact ⟨ret_b (by simp [hn0, hph, hst]), hLR.out⟩
                · have hph : V.d.ph = 2 := by rw [hp, phG, if_neg (by omega), if_neg hst]
                  have d1 : decide (0 < u.d.st) = false := decide_eq_false hst
                  have d2 : u.d.st ≤ 0 := by omega
                  clear hp hs0
                  go_wp2
                  go_ret
                  exact ⟨ret_b (by simp [hn0, hph, d2]), hLR.out⟩
theorem all_walk_n (u : Tn) (a : TA) (A2 : Option Addr) (c2 : Nat) (l2 : List Int) (h8 : ∀ x ∈ l2, 0 ≤ x ∧ x ≤ 255) (n : Nat) (hn : n = l2.length) (w : World) (hi : TnIn w u a) (gb : ∀ q ∈ a.bs, Good q.l) (s8 : Sees w w.heap.size 1 A2 n (l2.map (Value.int .u8))) : Calls Try.prog 3 #[.agg (tcs u a).toArray, .slice A2 n c2] w (BoolPost true w) := by
  subst hn; exact all_walk u a A2 c2 l2 h8 w hi gb s8
end Go.Proofs.Ytlbekjnpaiiilaa
