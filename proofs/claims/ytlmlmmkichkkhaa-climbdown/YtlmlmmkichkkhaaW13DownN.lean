/- The walk of ClimbDown, in part (N). -/
import Derived.Test.YtlmlmmkichkkhaaW13Base
import Derived.Test.YtlmlmmkichkkhaaItsN
import Derived.Test.YtlmlmmkichkkhaaAlk
import Derived.Lib.QuietBelow
import Derived.Deep.QuietTactic
import Derived.BigQuiet
import Derived.Deep.RegionHeld3
namespace Go.Proofs.Ytlmlmmkichkkhaa
open Go.RowKit Go.Sort
set_option linter.unusedVariables false
set_option linter.unusedSimpArgs false

attribute [local irreducible] tcs thc ccs zT
attribute [local go_sem ↓] alTn_is alRn_is
attribute [local go_sem] run_alTnf run_alTnt run_alRnf run_alRnt zT_length
attribute [local go_sem ↓] lbTn_is lbRn_is lbTh_is lbRh_is lbCf_is lbRc_is sbTn_is sbRn_is sbTh_is sbRh_is sbCf_is sbRc_is
attribute [local go_sem] run_lbTn run_lbRn run_lbTh run_lbRh run_lbCf run_lbRc run_sbTn run_sbRn run_sbTh run_sbRh run_sbCf run_sbRc
attribute [local go_sem 2000] boxOf_old'
attribute [local go_sem] boxOf_at' boxOf_free' boxOf_alloc objBox_cells objBox_cellsA boxOf_drew boxOf_setI boxOf_setsI size_sets tcs_length thc_length ccs_length tcs_one thc_one ccs_one sub_tn sub_th sub_cf sub_thAll sub_cfAll put_turn put_thread
attribute [local go_sem] tc0 tc1 tc2 tc3 tc4 tc5 tc6 tc7 tc8 tc9 tc10 tc11 tc12 tc13 tc14 tc15 tc16 tc17 tc18 tc19 tc20 tc21 tc22 tc23 tc24 tc25 tc26 tc27 tc28 tc29 tc30 tc31 tc32 tc33 tc34 tc35 tc36 hc0 hc1 hc2 hc3 hc4 hc5 hc6 hc7 hc8 hc9 hc10 hc11 hc12 hc13 hc14 hc15 hc16 kc0 kc1 kc2 kc3 kc4 kc5 kc6 kc7 kc8 kc9 kc10 kc11 tg0 tg1 tg2 tg3 tg4 tg5 tg6 tg7 tg8 tg9 tg10 tg11 tg12 tg13 tg14 tg15 tg16 tg17 tg18 tg19 tg20 tg21 tg22 tg23 tg24 tg25 tg26 tg27 tg28 tg29 tg30 tg31 tg32 tg33 tg34 tg35 tg36 hg0 hg1 hg2 hg3 hg4 hg5 hg6 hg7 hg8 hg9 hg10 hg11 hg12 hg13 hg14 hg15 hg16 kg0 kg1 kg2 kg3 kg4 kg5 kg6 kg7 kg8 kg9 kg10 kg11
attribute [local go_sem] ts12 ts13 ts14 ts16 ts17 ts18 ts19 ts20 ts21 ts22 ts23 ts24 ts25 ts26 ts27 ts28 ts29 ts30 ts31 ts32 ts33 ts34 ts35 ts36 ts15 hs0 hs1 hs2 hs3 hs7 hs8 hs9 hs10 hs11 hs12 hs13 hs14 hs15 hs16

set_option maxRecDepth 100000 in
set_option maxHeartbeats 40000000 in
theorem down_walkN (u : Tn) (a : TA) (w : World) (hi : TnIn w u a) (hA : ¬ (0 ≤ u.d.pl ∧ u.d.pl < (u.d.hl.length : Int))) : Calls Try.prog 7 #[.agg (tcs u a).toArray] w (BoolPost true w) := by
  have B1 : boxOf (w.alloc (.cells (tcs u a).toArray 38)) w.heap.size = some (tcs u a) := by simp [go_sem]
  have hB : Below w.heap.size w (w.alloc (.cells (tcs u a).toArray 38)) := belowN w _
  have hs : w.heap.size < (w.alloc (.cells (tcs u a).toArray 38)).heap.size := by simp
  go_enter Try.func7, Try.ntmps7
  go_wp2_with fail
  generalize (w.alloc (.cells (tcs u a).toArray 38)) = wz at *
  refine (big_tn u a _ (hi.m.later hB)).mono ?_
  rintro e w1 ⟨r, rfl, hr, hb1⟩
  replace B1 := boxOf_keep B1 hb1
  replace hB := below_next hB hB.size hb1
  replace hs := Nat.lt_of_lt_of_le hs hb1.size
  clear hb1
  cases r with
  | true =>
    go_wp2_with (go_at_call 11; refine (shown_any _).mono ?_; rintro e ws ⟨rfl, hbs⟩; replace hB := below_next hB hB.size hbs; clear hbs)
    go_ret
    exact ⟨ret_b (by simp), hB⟩
  | false =>
  have sm := hide (hr rfl)
  clear hr
  go_wp2_with fail
  refine (may_any u a _).mono ?_
  rintro e w2 ⟨r, rfl, hr, hb1⟩
  replace B1 := boxOf_keep B1 hb1
  replace hB := below_next hB hB.size hb1
  replace hs := Nat.lt_of_lt_of_le hs hb1.size
  clear hb1
  cases r with
  | false =>
    go_wp2_with (go_at_call 11; refine (shown_any _).mono ?_; rintro e ws ⟨rfl, hbs⟩; replace hB := below_next hB hB.size hbs; clear hbs)
    go_ret
    exact ⟨ret_b (by simp), hB⟩
  | true =>
  have my := hide (hr rfl)
  clear hr
  have h := hide (hi.at sm.out)
  have o := hide (hi.ok sm.out my.out)
  have cap := hide hi.cap
  clear hi
  go_wp2_with fail
  refine (shown_any _).mono ?_
  rintro e w3 ⟨rfl, hb1⟩
  replace B1 := boxOf_keep B1 hb1
  replace hB := below_next hB hB.size hb1
  replace hs := Nat.lt_of_lt_of_le hs hb1.size
  clear hb1
  have hc : (u.d.pl < 0 ∧ 0 < u.d.st ∧ (downV u).d.ph = 11) ∨ (u.d.pl < 0 ∧ u.d.st ≤ 0 ∧ (downV u).d.ph = 2) ∨ ((0 ≤ u.d.pl ∧ (u.d.hl.length : Int) ≤ u.d.pl) ∧ 0 < u.d.st ∧ (downV u).d.ph = 11) ∨ ((0 ≤ u.d.pl ∧ (u.d.hl.length : Int) ≤ u.d.pl) ∧ u.d.st ≤ 0 ∧ (downV u).d.ph = 2) := by
    by_cases h1 : 0 ≤ u.d.pl
    · have h2 : ¬ u.d.pl < (u.d.hl.length : Int) := fun e => hA ⟨h1, e⟩
      by_cases h3 : 0 < u.d.st
      · exact .inr (.inr (.inl ⟨⟨h1, by omega⟩, h3, by rw [downV, if_neg (fun e => h2 e.2), if_pos h3]⟩))
      · exact .inr (.inr (.inr ⟨⟨h1, by omega⟩, by omega, by rw [downV, if_neg (fun e => h2 e.2), if_neg h3]⟩))
    · by_cases h3 : 0 < u.d.st
      · exact .inl ⟨by omega, h3, by rw [downV, if_neg (fun e => h1 e.1), if_pos h3]⟩
      · exact .inr (.inl ⟨by omega, by omega, by rw [downV, if_neg (fun e => h1 e.1), if_neg h3]⟩)
  have KD := fun W => hide (down_any u a W)
  have HBK := hide (down_back u)
  obtain ⟨vv, hvv⟩ : ∃ x, downV u = x := ⟨_, rfl⟩
  rw [hvv] at hc KD HBK
  clear hvv sm my cap
  go_wp2_with fail
  refine (KD _).out.mono ?_
  rintro e z1 ⟨rfl, hb1⟩
  replace B1 := boxOf_keep B1 hb1
  replace hB := below_next hB hB.size hb1
  replace hs := Nat.lt_of_lt_of_le hs hb1.size
  clear hb1 KD
  have ne1 : ¬ z1.heap.size = w.heap.size := by omega
  have ne2 : ¬ w.heap.size = z1.heap.size := by omega
  have ne3 : ¬ z1.heap.size + 1 = w.heap.size := by omega
  have ne4 : ¬ w.heap.size = z1.heap.size + 1 := by omega
  have TW : tcs ({ vv with d := { vv.d with ph := u.d.ph } } : Tn) a = tcs u a := by rw [HBK.out]
  have hsz : ((z1.alloc (.cells zT.toArray 38)).setCells z1.heap.size 0 (tcs vv a)).heap.size = z1.heap.size + 1 := by rw [size_sets]; simp
  have n1 := belowY z1 vv a 38
  have n2 := belowY ((z1.alloc (.cells zT.toArray 38)).setCells z1.heap.size 0 (tcs vv a)) vv a 38
  have X3 := boxY ((z1.alloc (.cells zT.toArray 38)).setCells z1.heap.size 0 (tcs vv a)) vv a 38
  rw [hsz] at n2 X3
  have nb : Below z1.heap.size z1 ((((z1.alloc (.cells zT.toArray 38)).setCells z1.heap.size 0 (tcs vv a)).alloc (.cells zT.toArray 38)).setCells (z1.heap.size + 1) 0 (tcs vv a)) := below_next n1 (by omega) (by rw [hsz]; exact n2)
  have nb2 : Below z1.heap.size z1 (((((z1.alloc (.cells zT.toArray 38)).setCells z1.heap.size 0 (tcs vv a)).alloc (.cells zT.toArray 38)).setCells (z1.heap.size + 1) 0 (tcs vv a)).setCell ⟨z1.heap.size + 1, 16, none⟩ (.int .i64 u.d.ph)) := nb.setCell (by show z1.heap.size ≤ z1.heap.size + 1; omega) _
  have C1 := boxOf_keep B1 nb2
  have C2 : boxOf (((((z1.alloc (.cells zT.toArray 38)).setCells z1.heap.size 0 (tcs vv a)).alloc (.cells zT.toArray 38)).setCells (z1.heap.size + 1) 0 (tcs vv a)).setCell ⟨z1.heap.size + 1, 16, none⟩ (.int .i64 u.d.ph)) z1.heap.size = some (tcs vv a) := by rw [boxOf_far _ _ _ _ (by simp)]; exact boxOf_keep (boxY z1 vv a 38) (by rw [hsz]; exact n2)
  have C3 : boxOf (((((z1.alloc (.cells zT.toArray 38)).setCells z1.heap.size 0 (tcs vv a)).alloc (.cells zT.toArray 38)).setCells (z1.heap.size + 1) 0 (tcs vv a)).setCell ⟨z1.heap.size + 1, 16, none⟩ (.int .i64 u.d.ph)) (z1.heap.size + 1) = some (tcs u a) := by rw [← TW]; exact (boxOf_set _ _ 16 _ X3).trans (congrArg some (ts16 vv a u.d.ph))
  replace hB := below_next hB hB.size nb2
  clear n1 n2 X3 nb nb2 hsz TW hs
  have hD := hide (h.out.later hB)
  rcases hc with ⟨h1, h3, h4⟩ | ⟨h1, h3, h4⟩ | ⟨⟨h1, h2⟩, h3, h4⟩ | ⟨⟨h1, h2⟩, h3, h4⟩
  · have d1 : decide (0 ≤ u.d.pl) = false := by simpa using h1
    have d3 : decide (0 < u.d.st) = true := by simpa using h3
    have d4 : decide (u.d.st ≤ 0) = false := by simpa using h3
    clear h1 h3
    go_wp2_with fail
    clear ne1 ne2 ne3 ne4 B1
    generalize (((((z1.alloc (.cells zT.toArray 38)).setCells z1.heap.size 0 (tcs vv a)).alloc (.cells zT.toArray 38)).setCells (z1.heap.size + 1) 0 (tcs vv a)).setCell ⟨z1.heap.size + 1, 16, none⟩ (.int .i64 u.d.ph)) = y5 at *
    generalize z1.heap.size + 1 = k2 at *
    generalize z1.heap.size = k1 at *
    have tok1 := hide True.intro
    have tok2 := hide True.intro
    have Z : boxOf y5.drew w.heap.size = some (tcs u a) ∧ boxOf y5.drew k1 = some (tcs vv a) ∧ boxOf y5.drew k2 = some (tcs u a) ∧ Below y5.heap.size y5 y5.drew := ⟨by rw [boxOf_drew]; exact C1, by rw [boxOf_drew]; exact C2, by rw [boxOf_drew]; exact C3, (Below.refl _ _).drew⟩
    first
      | (go_region_held3 (fun w' => boxOf w' w.heap.size = some (tcs u a) ∧ boxOf w' k1 = some (tcs vv a) ∧ boxOf w' k2 = some (tcs u a) ∧ Below y5.heap.size y5 w')
          (first | (with_reducible exact Z) | (with_reducible exact Z1) | (with_reducible exact Z2) | (with_reducible exact Z3))
          (first
            | (go_at_call 14; have _t := tok1; refine (its_any u a o.out _ (hD.out.later (And.right (And.right (And.right (by assumption)))))).mono ?_; rintro e v1 ⟨b1, rfl, t1, hb1⟩; have Z1 : boxOf v1 w.heap.size = some (tcs u a) ∧ boxOf v1 k1 = some (tcs vv a) ∧ boxOf v1 k2 = some (tcs u a) ∧ Below y5.heap.size y5 v1 := keepR Z hb1; clear tok1)
            | (go_at_call 14; have _t := tok2; refine (its_any u a o.out _ (hD.out.later Z1.2.2.2)).mono ?_; rintro e v2 ⟨b2, rfl, t2, hb2⟩; have Z2 : boxOf v2 w.heap.size = some (tcs u a) ∧ boxOf v2 k1 = some (tcs vv a) ∧ boxOf v2 k2 = some (tcs u a) ∧ Below y5.heap.size y5 v2 := keepR Z1 hb2; clear tok2)
            | (go_at_call 15; refine (alike_yes u b1 b2 o.out _ (t1.later hb2) t2).mono ?_; rintro e v3 ⟨rfl, hb3⟩; have Z3 : boxOf v3 w.heap.size = some (tcs u a) ∧ boxOf v3 k1 = some (tcs vv a) ∧ boxOf v3 k2 = some (tcs u a) ∧ Below y5.heap.size y5 v3 := keepR Z2 hb3)
            | (go_at_call 15; refine (alike_yes u b2 b1 o.out _ t2 (t1.later hb2)).mono ?_; rintro e v3 ⟨rfl, hb3⟩; have Z3 : boxOf v3 w.heap.size = some (tcs u a) ∧ boxOf v3 k1 = some (tcs vv a) ∧ boxOf v3 k2 = some (tcs u a) ∧ Below y5.heap.size y5 v3 := keepR Z2 hb3)))
      | fail "held3"
    go_wp2
    go_ret
    exact ⟨ret_b (by simp), below_next hB hB.size Z3.2.2.2⟩
  · have d1 : decide (0 ≤ u.d.pl) = false := by simpa using h1
    have d3 : decide (0 < u.d.st) = false := by simpa using h3
    have d4 : decide (u.d.st ≤ 0) = true := by simpa using h3
    clear h1 h3
    go_wp2_with fail
    clear ne1 ne2 ne3 ne4 B1
    generalize (((((z1.alloc (.cells zT.toArray 38)).setCells z1.heap.size 0 (tcs vv a)).alloc (.cells zT.toArray 38)).setCells (z1.heap.size + 1) 0 (tcs vv a)).setCell ⟨z1.heap.size + 1, 16, none⟩ (.int .i64 u.d.ph)) = y5 at *
    generalize z1.heap.size + 1 = k2 at *
    generalize z1.heap.size = k1 at *
    have tok1 := hide True.intro
    have tok2 := hide True.intro
    have Z : boxOf y5.drew w.heap.size = some (tcs u a) ∧ boxOf y5.drew k1 = some (tcs vv a) ∧ boxOf y5.drew k2 = some (tcs u a) ∧ Below y5.heap.size y5 y5.drew := ⟨by rw [boxOf_drew]; exact C1, by rw [boxOf_drew]; exact C2, by rw [boxOf_drew]; exact C3, (Below.refl _ _).drew⟩
    first
      | (go_region_held3 (fun w' => boxOf w' w.heap.size = some (tcs u a) ∧ boxOf w' k1 = some (tcs vv a) ∧ boxOf w' k2 = some (tcs u a) ∧ Below y5.heap.size y5 w')
          (first | (with_reducible exact Z) | (with_reducible exact Z1) | (with_reducible exact Z2) | (with_reducible exact Z3))
          (first
            | (go_at_call 14; have _t := tok1; refine (its_any u a o.out _ (hD.out.later (And.right (And.right (And.right (by assumption)))))).mono ?_; rintro e v1 ⟨b1, rfl, t1, hb1⟩; have Z1 : boxOf v1 w.heap.size = some (tcs u a) ∧ boxOf v1 k1 = some (tcs vv a) ∧ boxOf v1 k2 = some (tcs u a) ∧ Below y5.heap.size y5 v1 := keepR Z hb1; clear tok1)
            | (go_at_call 14; have _t := tok2; refine (its_any u a o.out _ (hD.out.later Z1.2.2.2)).mono ?_; rintro e v2 ⟨b2, rfl, t2, hb2⟩; have Z2 : boxOf v2 w.heap.size = some (tcs u a) ∧ boxOf v2 k1 = some (tcs vv a) ∧ boxOf v2 k2 = some (tcs u a) ∧ Below y5.heap.size y5 v2 := keepR Z1 hb2; clear tok2)
            | (go_at_call 15; refine (alike_yes u b1 b2 o.out _ (t1.later hb2) t2).mono ?_; rintro e v3 ⟨rfl, hb3⟩; have Z3 : boxOf v3 w.heap.size = some (tcs u a) ∧ boxOf v3 k1 = some (tcs vv a) ∧ boxOf v3 k2 = some (tcs u a) ∧ Below y5.heap.size y5 v3 := keepR Z2 hb3)
            | (go_at_call 15; refine (alike_yes u b2 b1 o.out _ t2 (t1.later hb2)).mono ?_; rintro e v3 ⟨rfl, hb3⟩; have Z3 : boxOf v3 w.heap.size = some (tcs u a) ∧ boxOf v3 k1 = some (tcs vv a) ∧ boxOf v3 k2 = some (tcs u a) ∧ Below y5.heap.size y5 v3 := keepR Z2 hb3)))
      | fail "held3"
    go_wp2
    go_ret
    exact ⟨ret_b (by simp), below_next hB hB.size Z3.2.2.2⟩
  · have d1 : decide (0 ≤ u.d.pl) = true := by simpa using h1
    have d2 : decide (u.d.pl < (u.d.hl.length : Int)) = false := by simpa using h2
    have d3 : decide (0 < u.d.st) = true := by simpa using h3
    have d4 : decide (u.d.st ≤ 0) = false := by simpa using h3
    clear h1 h2 h3
    go_wp2_with fail
    clear ne1 ne2 ne3 ne4 B1
    generalize (((((z1.alloc (.cells zT.toArray 38)).setCells z1.heap.size 0 (tcs vv a)).alloc (.cells zT.toArray 38)).setCells (z1.heap.size + 1) 0 (tcs vv a)).setCell ⟨z1.heap.size + 1, 16, none⟩ (.int .i64 u.d.ph)) = y5 at *
    generalize z1.heap.size + 1 = k2 at *
    generalize z1.heap.size = k1 at *
    have tok1 := hide True.intro
    have tok2 := hide True.intro
    have Z : boxOf y5.drew w.heap.size = some (tcs u a) ∧ boxOf y5.drew k1 = some (tcs vv a) ∧ boxOf y5.drew k2 = some (tcs u a) ∧ Below y5.heap.size y5 y5.drew := ⟨by rw [boxOf_drew]; exact C1, by rw [boxOf_drew]; exact C2, by rw [boxOf_drew]; exact C3, (Below.refl _ _).drew⟩
    first
      | (go_region_held3 (fun w' => boxOf w' w.heap.size = some (tcs u a) ∧ boxOf w' k1 = some (tcs vv a) ∧ boxOf w' k2 = some (tcs u a) ∧ Below y5.heap.size y5 w')
          (first | (with_reducible exact Z) | (with_reducible exact Z1) | (with_reducible exact Z2) | (with_reducible exact Z3))
          (first
            | (go_at_call 14; have _t := tok1; refine (its_any u a o.out _ (hD.out.later (And.right (And.right (And.right (by assumption)))))).mono ?_; rintro e v1 ⟨b1, rfl, t1, hb1⟩; have Z1 : boxOf v1 w.heap.size = some (tcs u a) ∧ boxOf v1 k1 = some (tcs vv a) ∧ boxOf v1 k2 = some (tcs u a) ∧ Below y5.heap.size y5 v1 := keepR Z hb1; clear tok1)
            | (go_at_call 14; have _t := tok2; refine (its_any u a o.out _ (hD.out.later Z1.2.2.2)).mono ?_; rintro e v2 ⟨b2, rfl, t2, hb2⟩; have Z2 : boxOf v2 w.heap.size = some (tcs u a) ∧ boxOf v2 k1 = some (tcs vv a) ∧ boxOf v2 k2 = some (tcs u a) ∧ Below y5.heap.size y5 v2 := keepR Z1 hb2; clear tok2)
            | (go_at_call 15; refine (alike_yes u b1 b2 o.out _ (t1.later hb2) t2).mono ?_; rintro e v3 ⟨rfl, hb3⟩; have Z3 : boxOf v3 w.heap.size = some (tcs u a) ∧ boxOf v3 k1 = some (tcs vv a) ∧ boxOf v3 k2 = some (tcs u a) ∧ Below y5.heap.size y5 v3 := keepR Z2 hb3)
            | (go_at_call 15; refine (alike_yes u b2 b1 o.out _ t2 (t1.later hb2)).mono ?_; rintro e v3 ⟨rfl, hb3⟩; have Z3 : boxOf v3 w.heap.size = some (tcs u a) ∧ boxOf v3 k1 = some (tcs vv a) ∧ boxOf v3 k2 = some (tcs u a) ∧ Below y5.heap.size y5 v3 := keepR Z2 hb3)))
      | fail "held3"
    go_wp2
    go_ret
    exact ⟨ret_b (by simp), below_next hB hB.size Z3.2.2.2⟩
  · have d1 : decide (0 ≤ u.d.pl) = true := by simpa using h1
    have d2 : decide (u.d.pl < (u.d.hl.length : Int)) = false := by simpa using h2
    have d3 : decide (0 < u.d.st) = false := by simpa using h3
    have d4 : decide (u.d.st ≤ 0) = true := by simpa using h3
    clear h1 h2 h3
    go_wp2_with fail
    clear ne1 ne2 ne3 ne4 B1
    generalize (((((z1.alloc (.cells zT.toArray 38)).setCells z1.heap.size 0 (tcs vv a)).alloc (.cells zT.toArray 38)).setCells (z1.heap.size + 1) 0 (tcs vv a)).setCell ⟨z1.heap.size + 1, 16, none⟩ (.int .i64 u.d.ph)) = y5 at *
    generalize z1.heap.size + 1 = k2 at *
    generalize z1.heap.size = k1 at *
    have tok1 := hide True.intro
    have tok2 := hide True.intro
    have Z : boxOf y5.drew w.heap.size = some (tcs u a) ∧ boxOf y5.drew k1 = some (tcs vv a) ∧ boxOf y5.drew k2 = some (tcs u a) ∧ Below y5.heap.size y5 y5.drew := ⟨by rw [boxOf_drew]; exact C1, by rw [boxOf_drew]; exact C2, by rw [boxOf_drew]; exact C3, (Below.refl _ _).drew⟩
    first
      | (go_region_held3 (fun w' => boxOf w' w.heap.size = some (tcs u a) ∧ boxOf w' k1 = some (tcs vv a) ∧ boxOf w' k2 = some (tcs u a) ∧ Below y5.heap.size y5 w')
          (first | (with_reducible exact Z) | (with_reducible exact Z1) | (with_reducible exact Z2) | (with_reducible exact Z3))
          (first
            | (go_at_call 14; have _t := tok1; refine (its_any u a o.out _ (hD.out.later (And.right (And.right (And.right (by assumption)))))).mono ?_; rintro e v1 ⟨b1, rfl, t1, hb1⟩; have Z1 : boxOf v1 w.heap.size = some (tcs u a) ∧ boxOf v1 k1 = some (tcs vv a) ∧ boxOf v1 k2 = some (tcs u a) ∧ Below y5.heap.size y5 v1 := keepR Z hb1; clear tok1)
            | (go_at_call 14; have _t := tok2; refine (its_any u a o.out _ (hD.out.later Z1.2.2.2)).mono ?_; rintro e v2 ⟨b2, rfl, t2, hb2⟩; have Z2 : boxOf v2 w.heap.size = some (tcs u a) ∧ boxOf v2 k1 = some (tcs vv a) ∧ boxOf v2 k2 = some (tcs u a) ∧ Below y5.heap.size y5 v2 := keepR Z1 hb2; clear tok2)
            | (go_at_call 15; refine (alike_yes u b1 b2 o.out _ (t1.later hb2) t2).mono ?_; rintro e v3 ⟨rfl, hb3⟩; have Z3 : boxOf v3 w.heap.size = some (tcs u a) ∧ boxOf v3 k1 = some (tcs vv a) ∧ boxOf v3 k2 = some (tcs u a) ∧ Below y5.heap.size y5 v3 := keepR Z2 hb3)
            | (go_at_call 15; refine (alike_yes u b2 b1 o.out _ t2 (t1.later hb2)).mono ?_; rintro e v3 ⟨rfl, hb3⟩; have Z3 : boxOf v3 w.heap.size = some (tcs u a) ∧ boxOf v3 k1 = some (tcs vv a) ∧ boxOf v3 k2 = some (tcs u a) ∧ Below y5.heap.size y5 v3 := keepR Z2 hb3)))
      | fail "held3"
    go_wp2
    go_ret
    exact ⟨ret_b (by simp), below_next hB hB.size Z3.2.2.2⟩
end Go.Proofs.Ytlmlmmkichkkhaa
