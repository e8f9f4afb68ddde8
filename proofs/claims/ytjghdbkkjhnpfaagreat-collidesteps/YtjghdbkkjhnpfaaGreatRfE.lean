/- The document's step: leaving; of whatever turn. -/
import Derived.Test.YtjghdbkkjhnpfaaGreatRfD
import Derived.Test.YtjghdbkkjhnpfaaGreatRfS
import Derived.Test.YtjghdbkkjhnpfaaGreatRfB
import Derived.Test.YtjghdbkkjhnpfaaGreatCoH
import Derived.Test.YtjghdbkkjhnpfaaGreatCoF
import Derived.Test.YtjghdbkkjhnpfaaGreatM2
import Derived.Test.YtjghdbkkjhnpfaaGreatM6
import Derived.Lib.QuietBelow
import Derived.Deep.QuietTactic
import Derived.BigQuiet
import Derived.Deep.RegionHeld3
import Derived.Deep.Cut
namespace Go.Proofs.YtjghdbkkjhnpfaaGreat
open Go.RowKit Go.Sort
set_option linter.unusedVariables false
set_option linter.unusedSimpArgs false

theorem onw_ph (u : Tn) (k : Int) : onwV ({ u with d := { u.d with ph := k } } : Tn) = onwV u := by unfold onwV; rfl
theorem wd_hf (n : Int) : wdV n = (if hfV n ≤ 1 then 1 else hfV n) := by
  unfold wdV hfV
  by_cases h : n < 0
  · rw [if_pos h, if_neg (by omega), if_pos (by decide)]
  · rw [if_neg h, Int.tdiv_eq_ediv_of_nonneg (by omega)]
    split <;> split <;> omega
attribute [local irreducible] tcs thc ccs zT
attribute [local go_sem ↓] alTn_is alRn_is
attribute [local go_sem] run_alTnf run_alTnt run_alRnf run_alRnt zT_length
attribute [local go_sem ↓] lbTn_is lbRn_is lbTh_is lbRh_is lbCf_is lbRc_is sbTn_is sbRn_is sbTh_is sbRh_is sbCf_is sbRc_is
attribute [local go_sem] run_lbTn run_lbRn run_lbTh run_lbRh run_lbCf run_lbRc run_sbTn run_sbRn run_sbTh run_sbRh run_sbCf run_sbRc
attribute [local go_sem 2000] boxOf_old'
attribute [local go_sem] boxOf_at' boxOf_free' boxOf_alloc objBox_cells objBox_cellsA boxOf_drew boxOf_setI boxOf_setsI size_sets tcs_length thc_length ccs_length tcs_one thc_one ccs_one sub_tn sub_th sub_cf sub_thAll sub_cfAll put_turn put_thread
attribute [local go_sem] tc0 tc1 tc2 tc3 tc4 tc5 tc6 tc7 tc8 tc9 tc10 tc11 tc12 tc13 tc14 tc15 tc16 tc17 tc18 tc19 tc20 tc21 tc22 tc23 tc24 tc25 tc26 tc27 tc28 tc29 tc30 tc31 tc32 tc33 tc34 tc35 tc36 hc0 hc1 hc2 hc3 hc4 hc5 hc6 hc7 hc8 hc9 hc10 hc11 hc12 hc13 hc14 hc15 hc16 kc0 kc1 kc2 kc3 kc4 kc5 kc6 kc7 kc8 kc9 kc10 kc11 tg0 tg1 tg2 tg3 tg4 tg5 tg6 tg7 tg8 tg9 tg10 tg11 tg12 tg13 tg14 tg15 tg16 tg17 tg18 tg19 tg20 tg21 tg22 tg23 tg24 tg25 tg26 tg27 tg28 tg29 tg30 tg31 tg32 tg33 tg34 tg35 tg36 hg0 hg1 hg2 hg3 hg4 hg5 hg6 hg7 hg8 hg9 hg10 hg11 hg12 hg13 hg14 hg15 hg16 kg0 kg1 kg2 kg3 kg4 kg5 kg6 kg7 kg8 kg9 kg10 kg11
attribute [local go_sem] ts12 ts13 ts14 ts16 ts17 ts18 ts19 ts20 ts21 ts22 ts23 ts24 ts25 ts26 ts27 ts28 ts29 ts30 ts31 ts32 ts33 ts34 ts35 ts36 ts15 hs0 hs1 hs2 hs3 hs7 hs8 hs9 hs10 hs11 hs12 hs13 hs14 hs15 hs16

set_option maxRecDepth 100000 in
set_option maxHeartbeats 16000000 in
theorem rst_26 (u : Tn) (a : TA) (o : TnOk u) (ht : 0 ≤ u.tt ∧ u.tt ≤ 15) (hi : 0 ≤ u.d.it ∧ u.d.it ≤ 3) (hl : 1 ≤ u.d.ly ∧ u.d.ly ≤ 3) (hp : u.d.ph = 26) (w : World) (h : TnAt w u a) : Calls Tryz.prog 8 #[.agg (tcs u a).toArray] w (GsPost (leaC u) u true a w) := by
  have B1 : boxOf ((w.alloc (.cells (tcs u a).toArray 55)).alloc (.cells zT.toArray 55)) w.heap.size = some (tcs u a) := by simp [go_sem]
  have B2 : boxOf ((w.alloc (.cells (tcs u a).toArray 55)).alloc (.cells zT.toArray 55)) (w.heap.size + 1) = some zT := by simp [go_sem]
  have hs : w.heap.size + 1 < ((w.alloc (.cells (tcs u a).toArray 55)).alloc (.cells zT.toArray 55)).heap.size := by simp
  have hB : Below w.heap.size w ((w.alloc (.cells (tcs u a).toArray 55)).alloc (.cells zT.toArray 55)) := (belowN w _).alloc (by simp) _
  have h0 := h
  replace h := h.later hB
  go_enter Tryz.func8, Tryz.ntmps8
  go_wp2_with fail
  generalize ((w.alloc (.cells (tcs u a).toArray 55)).alloc (.cells zT.toArray 55)) = w1 at *
  have KG := hide (rcompared_any u a o ht hi hl w1 h u.tt 2 13 o.tt)
  have iwd : I64 u.d.wd := o.f.n _ (by simp [Dt.nums])
  have hL := hide (lv_cmp u u.tt 2 13)
  have HC : ∃ v z, cmpC u u.tt 2 13 = v ∧ leaC u = z ∧ v.d.wd = u.d.wd ∧ ((v.d.ph = 2 ∧ z = onwV { v with d := { v.d with wd := wdV u.d.wd } }) ∨ ((v.d.ph == 2) = false ∧ z = v)) := by
    refine ⟨_, _, rfl, rfl, ?_, ?_⟩
    · unfold cmpC; repeat' split
      all_goals rfl
    · unfold cmpC leaC
      split
      · split
        · exact .inl ⟨rfl, (onw_ph { cmW u u.tt with d := { (cmW u u.tt).d with wd := wdV u.d.wd } } 2).symm⟩
        · exact .inr ⟨rfl, rfl⟩
      · exact .inr ⟨(by rw [hp]; decide), rfl⟩
  obtain ⟨v, z, hv, hz, hvw, hc⟩ := HC
  rw [hv] at KG hL
  have HZ := hide hz
  clear hv hz
  refine KG.out.mono ?_
  rintro e w2 ht2
  obtain ⟨b, rfl, T2, off, hb1⟩ := wt_gp hL.out h ht2
  have off' : ∀ g, g < w.heap.size → Off g u a → Off g v b := fun g hg f => off g (by omega) f
  have O2 := off (w.heap.size + 1) hs (h0.off (by omega))
  replace B1 := boxOf_keep B1 hb1
  replace B2 := boxOf_keep B2 hb1
  replace hs := Nat.lt_of_lt_of_le hs hb1.size
  replace hB := below_next hB hB.size hb1
  clear hb1
  have nb := belowY w2 v b 55
  have C8 := boxY w2 v b 55
  have T3 := T2.later nb
  have Okv := T2.off (Nat.le_refl w2.heap.size)
  replace B1 := boxOf_keep B1 nb
  replace B2 := boxOf_keep B2 nb
  replace hB := below_next hB hB.size nb
  clear KG off ht2 h h0 nb T2 hL
  go_upto_region 28 with fail
  generalize ((w2.alloc (.cells zT.toArray 55)).setCells w2.heap.size 0 (tcs v b)) = y3 at *
  obtain ⟨kv, hkv⟩ : ∃ k, w2.heap.size = k := ⟨_, rfl⟩
  rw [hkv] at C8 Okv hs ⊢
  clear hkv
  have ne1 : ¬ kv = w.heap.size + 1 := by omega
  have ne2 : ¬ w.heap.size + 1 = kv := by omega
  rcases hc with ⟨h2, hz⟩ | ⟨h2, rfl⟩
  case inr =>
    have key : ∀ W', Below w.heap.size w W' → TnAt W' z b → GsPost z u true a w (.returned (.tuple #[.agg (tcs z b).toArray, .bool true])) W' := fun W' hb tn => ⟨b, rfl, tn, off', hb⟩
    clear off'
    go_wp2
    refine bodyPost_ret (v := .tuple #[.agg (tcs z b).toArray, .bool true]) (results_box2 Tryz.results8 _ _ (w.heap.size + 1) _ _ _ rfl rfl (by simp [go_sem, C8, B2]) Tryz.underlying55 rfl (by kernel_rfl)) rfl ?_
    rw [HZ.out]
    exact key _ (by repeat first | (with_reducible exact hB) | refine below_sets _ (by omega) _ _ _ _ ?_ | refine Below.setCell ?_ (by first | omega | (simp; omega) | simp) _ | refine Below.alloc ?_ (by first | omega | (simp; omega) | simp) _) (T3.sets O2 (tcs z b) 0)
  have KH := fun W => hide (rhalf_any u.d.wd iwd W)
  rw [wd_hf] at hz
  obtain ⟨hv1, hhv⟩ : ∃ x, hfV u.d.wd = x := ⟨_, rfl⟩
  rw [hhv] at KH hz
  rw [← hvw] at KH
  have hc2 : ∃ xv, z = onwV ({ v with d := { v.d with wd := xv } } : Tn) ∧ ((1 < hv1 ∧ ¬ hv1 ≤ 1 ∧ xv = hv1) ∨ (hv1 ≤ 1 ∧ ¬ 1 < hv1 ∧ xv = 1)) := by
    by_cases q : hv1 ≤ 1
    · rw [if_pos q] at hz; exact ⟨1, hz, .inr ⟨q, by omega, rfl⟩⟩
    · rw [if_neg q] at hz; exact ⟨hv1, hz, .inl ⟨by omega, q, rfl⟩⟩
  obtain ⟨xv, hzz0, hc2⟩ := hc2
  have hzz : z = onwV ({ v with d := { v.d with ph := 2, wd := xv } } : Tn) := hzz0.trans (onw_ph ({ v with d := { v.d with wd := xv } } : Tn) 2).symm
  clear hzz0
  have KO := fun W => hide (ronward_any ({ v with d := { v.d with ph := 2, wd := xv } } : Tn) b W)
  rw [← hzz] at KO
  have hzl := hide (show Lk v z by rw [hzz]; exact Lk.trans (v := ({ v with d := { v.d with ph := 2, wd := xv } } : Tn)) ⟨rfl, rfl, rfl, rfl, rfl, rfl, rfl⟩ (onw_lk _))
  clear hhv hz hzz hvw iwd
  go_wp2_with fail
  refine (KH _).out.mono ?_
  rintro e w3 ⟨rfl, hb1⟩
  replace C8 := boxOf_keep C8 hb1
  replace B2 := boxOf_keep B2 hb1
  replace T3 := T3.later hb1
  replace hB := below_next hB hB.size hb1
  have lkv := boxOf_lt C8
  clear hb1 KH B1
  have hkey := hide (fun (W' : World) (hb : Below w.heap.size w W') (tn : TnAt W' z b) => (show GsPost z u true a w (.returned (.tuple #[.agg (tcs z b).toArray, .bool true])) W' from ⟨b, rfl, tn, fun g hg f => hzl.out.off (off' g hg f), hb⟩))
  clear off'
  rcases hc2 with ⟨q1, q2, rfl⟩ | ⟨q1, q2, rfl⟩
  all_goals go_wp2_with fail
  all_goals refine (KO _).out.mono ?_
  all_goals rintro e w6 ⟨rfl, hb2⟩
  all_goals replace B2 := boxOf_keep ((boxOf_far _ _ _ _ ne1).trans B2) hb2
  all_goals have T4 := (hzl.out.at (T3.set1 Okv 28 (.int .i64 _))).later hb2
  all_goals replace hB := below_next (hB.setCell (by show w.heap.size ≤ kv; omega) _) (by simp; exact hB.size) hb2
  all_goals have O4 := hzl.out.off O2
  all_goals have hs6 : w.heap.size + 1 < w6.heap.size := boxOf_lt B2
  all_goals clear KO C8 hb2 T3
  all_goals go_wp2
  all_goals refine bodyPost_ret (v := .tuple #[.agg (tcs z b).toArray, .bool true]) (results_box2 Tryz.results8 _ _ (w.heap.size + 1) _ _ _ rfl rfl (by simp [go_sem, B2]) Tryz.underlying55 rfl (by kernel_rfl)) rfl ?_
  all_goals rw [HZ.out]
  all_goals exact hkey.out _ (by repeat first | (with_reducible exact hB) | refine below_sets _ (by omega) _ _ _ _ ?_ | refine Below.setCell ?_ (by first | omega | (simp; omega) | simp) _ | refine Below.alloc ?_ (by first | omega | (simp; omega) | simp) _) (T4.sets O4 (tcs z b) 0)
/-- The document's step of whatever turn. -/
theorem rstep15_any (u : Tn) (a : TA) (o : TnOk u) (ht : 0 ≤ u.tt ∧ u.tt ≤ 15) (hi : 0 ≤ u.d.it ∧ u.d.it ≤ 3) (hl : 1 ≤ u.d.ly ∧ u.d.ly ≤ 3) (w : World) (h : TnAt w u a) : Calls Tryz.prog 8 #[.agg (tcs u a).toArray] w (GsPost (stepC u) u (isC u) a w) := by
  by_cases h17 : u.d.ph = 17
  · rw [show stepC u = shwC u by rw [stepC, if_pos h17], show isC u = true by simp [isC, h17]]; exact rst_17 u a o ht hi hl h17 w h
  by_cases h18 : u.d.ph = 18
  · rw [show stepC u = opnC u by rw [stepC, if_neg h17, if_pos h18], show isC u = true by simp [isC, h18]]; exact rst_18 u a o ht hi hl h18 w h
  by_cases h19 : u.d.ph = 19
  · rw [show stepC u = swpC u by rw [stepC, if_neg h17, if_neg h18, if_pos h19], show isC u = true by simp [isC, h19]]; exact rst_19 u a o ht hi hl h19 w h
  by_cases h20 : u.d.ph = 20
  · rw [show stepC u = cmpC u u.tt 21 13 by rw [stepC, if_neg h17, if_neg h18, if_neg h19, if_pos h20], show isC u = true by simp [isC, h20]]; exact rst_20 u a o ht hi hl h20 w h
  by_cases h21 : u.d.ph = 21
  · rw [show stepC u = cmpC u u.d.who 22 24 by rw [stepC, if_neg h17, if_neg h18, if_neg h19, if_neg h20, if_pos h21], show isC u = true by simp [isC, h21]]; exact rst_21 u a o ht hi hl h21 w h
  by_cases h22 : u.d.ph = 22
  · rw [show stepC u = absC u by rw [stepC, if_neg h17, if_neg h18, if_neg h19, if_neg h20, if_neg h21, if_pos h22], show isC u = true by simp [isC, h22]]; exact rst_22 u a o ht hi hl h22 w h
  by_cases h23 : u.d.ph = 23
  · rw [show stepC u = spiC u by rw [stepC, if_neg h17, if_neg h18, if_neg h19, if_neg h20, if_neg h21, if_neg h22, if_pos h23], show isC u = true by simp [isC, h23]]; exact rst_23 u a o ht hi hl h23 w h
  by_cases h24 : u.d.ph = 24
  · rw [show stepC u = reoC u by rw [stepC, if_neg h17, if_neg h18, if_neg h19, if_neg h20, if_neg h21, if_neg h22, if_neg h23, if_pos h24], show isC u = true by simp [isC, h24]]; exact rst_24 u a o ht hi hl h24 w h
  by_cases h26 : u.d.ph = 26
  · rw [show stepC u = leaC u by rw [stepC, if_neg h17, if_neg h18, if_neg h19, if_neg h20, if_neg h21, if_neg h22, if_neg h23, if_neg h24, if_pos h26], show isC u = true by simp [isC, h26]]; exact rst_26 u a o ht hi hl h26 w h
  have e : ∀ k : Int, u.d.ph ≠ k → (u.d.ph == k) = false := fun k hk => beq_eq_false_iff_ne.2 hk
  rw [show stepC u = u by rw [stepC, if_neg h17, if_neg h18, if_neg h19, if_neg h20, if_neg h21, if_neg h22, if_neg h23, if_neg h24, if_neg h26], show isC u = false by simp [isC, h17, h18, h19, h20, h21, h22, h23, h24, h26]]
  exact rst_n u a (e 17 h17) (e 18 h18) (e 19 h19) (e 20 h20) (e 21 h21) (e 22 h22) (e 23 h23) (e 24 h24) (e 26 h26) w h
end Go.Proofs.YtjghdbkkjhnpfaaGreat
