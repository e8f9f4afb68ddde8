/- The document's step: the swap. -/
import Derived.Test.YtjghdbkkjhnpfaaGreatRfD
import Derived.Test.YtjghdbkkjhnpfaaGreatRfC
import Derived.Test.YtjghdbkkjhnpfaaGreatCoF
import Derived.Test.YtjghdbkkjhnpfaaGreatM2
import Derived.Test.YtjghdbkkjhnpfaaGreatM6
import Derived.Lib.QuietBelow
import Derived.Deep.QuietTactic
import Derived.BigQuiet
import Derived.Deep.RegionHeld3
import Derived.Deep.Cut
namespace Go.Proofs.YtjghdbkkjhnpfaaGreat
open Go.RowKit Go.Sort
set_option linter.unusedVariables false
set_option linter.unusedSimpArgs false

attribute [local irreducible] tcs thc ccs zT
attribute [local go_sem ↓] alTn_is alRn_is
attribute [local go_sem] run_alTnf run_alTnt run_alRnf run_alRnt zT_length
attribute [local go_sem ↓] lbTn_is lbRn_is lbTh_is lbRh_is lbCf_is lbRc_is sbTn_is sbRn_is sbTh_is sbRh_is sbCf_is sbRc_is
attribute [local go_sem] run_lbTn run_lbRn run_lbTh run_lbRh run_lbCf run_lbRc run_sbTn run_sbRn run_sbTh run_sbRh run_sbCf run_sbRc
attribute [local go_sem 2000] boxOf_old'
attribute [local go_sem] boxOf_at' boxOf_free' boxOf_alloc objBox_cells objBox_cellsA boxOf_drew boxOf_setI boxOf_setsI size_sets tcs_length thc_length ccs_length tcs_one thc_one ccs_one sub_tn sub_th sub_cf sub_thAll sub_cfAll put_turn put_thread
attribute [local go_sem] tc0 tc1 tc2 tc3 tc4 tc5 tc6 tc7 tc8 tc9 tc10 tc11 tc12 tc13 tc14 tc15 tc16 tc17 tc18 tc19 tc20 tc21 tc22 tc23 tc24 tc25 tc26 tc27 tc28 tc29 tc30 tc31 tc32 tc33 tc34 tc35 tc36 hc0 hc1 hc2 hc3 hc4 hc5 hc6 hc7 hc8 hc9 hc10 hc11 hc12 hc13 hc14 hc15 hc16 kc0 kc1 kc2 kc3 kc4 kc5 kc6 kc7 kc8 kc9 kc10 kc11 tg0 tg1 tg2 tg3 tg4 tg5 tg6 tg7 tg8 tg9 tg10 tg11 tg12 tg13 tg14 tg15 tg16 tg17 tg18 tg19 tg20 tg21 tg22 tg23 tg24 tg25 tg26 tg27 tg28 tg29 tg30 tg31 tg32 tg33 tg34 tg35 tg36 hg0 hg1 hg2 hg3 hg4 hg5 hg6 hg7 hg8 hg9 hg10 hg11 hg12 hg13 hg14 hg15 hg16 kg0 kg1 kg2 kg3 kg4 kg5 kg6 kg7 kg8 kg9 kg10 kg11
attribute [local go_sem] ts12 ts13 ts14 ts16 ts17 ts18 ts19 ts20 ts21 ts22 ts23 ts24 ts25 ts26 ts27 ts28 ts29 ts30 ts31 ts32 ts33 ts34 ts35 ts36 ts15 hs0 hs1 hs2 hs3 hs7 hs8 hs9 hs10 hs11 hs12 hs13 hs14 hs15 hs16

attribute [local go_sem] ts15g
set_option maxRecDepth 100000 in
set_option maxHeartbeats 4000000 in
theorem rst_19 (u : Tn) (a : TA) (o : TnOk u) (ht : 0 ≤ u.tt ∧ u.tt ≤ 15) (hi : 0 ≤ u.d.it ∧ u.d.it ≤ 3) (hl : 1 ≤ u.d.ly ∧ u.d.ly ≤ 3) (hp : u.d.ph = 19) (w : World) (h : TnAt w u a) : Calls Tryz.prog 8 #[.agg (tcs u a).toArray] w (GsPost (swpC u) u true a w) := by
  have B1 : boxOf ((w.alloc (.cells (tcs u a).toArray 55)).alloc (.cells zT.toArray 55)) w.heap.size = some (tcs u a) := by simp [go_sem]
  have B2 : boxOf ((w.alloc (.cells (tcs u a).toArray 55)).alloc (.cells zT.toArray 55)) (w.heap.size + 1) = some zT := by simp [go_sem]
  have hs : w.heap.size + 1 < ((w.alloc (.cells (tcs u a).toArray 55)).alloc (.cells zT.toArray 55)).heap.size := by simp
  have hB : Below w.heap.size w ((w.alloc (.cells (tcs u a).toArray 55)).alloc (.cells zT.toArray 55)) := (belowN w _).alloc (by simp) _
  have h0 := h
  replace h := h.later hB
  go_enter Tryz.func8, Tryz.ntmps8
  go_wp2_with fail
  generalize ((w.alloc (.cells (tcs u a).toArray 55)).alloc (.cells zT.toArray 55)) = w1 at *
  have KG := hide (rswap15_any u a o ht hi hl w1 h)
  have hL := hide (lv_swp u)
  obtain ⟨v, hv⟩ : ∃ v, swpC u = v := ⟨_, rfl⟩
  rw [hv] at KG hL
  have HV := hide hv
  clear hv
  refine KG.out.mono ?_
  rintro e w2 ht2
  obtain ⟨b, rfl, T2, off, hb1⟩ := wt_gp hL.out h ht2
  have off' : ∀ g, g < w.heap.size → Off g u a → Off g v b := fun g hg f => off g (by omega) f
  have O2 := off (w.heap.size + 1) hs (h0.off (by omega))
  replace B1 := boxOf_keep B1 hb1
  replace B2 := boxOf_keep B2 hb1
  replace hs := Nat.lt_of_lt_of_le hs hb1.size
  replace hB := below_next hB hB.size hb1
  clear hb1
  have key : ∀ W', Below w.heap.size w W' → TnAt W' v b → GsPost v u true a w (.returned (.tuple #[.agg (tcs v b).toArray, .bool true])) W' := fun W' hb tn => ⟨b, rfl, tn, off', hb⟩
  clear KG off off' ht2 h h0
  go_wp2
  refine bodyPost_ret (v := .tuple #[.agg (tcs v b).toArray, .bool true]) (results_box2 Tryz.results8 _ _ (w.heap.size + 1) _ _ _ rfl rfl (by simp [go_sem, B1, B2]) Tryz.underlying55 rfl (by kernel_rfl)) rfl ?_
  rw [HV.out]
  exact key _ (by repeat first | exact hB | refine below_sets _ (by omega) _ _ _ _ ?_ | refine Below.setCell ?_ (by first | omega | (simp; omega) | simp) _ | refine Below.alloc ?_ (by first | omega | (simp; omega) | simp) _) (T2.sets O2 (tcs v b) 0)
end Go.Proofs.YtjghdbkkjhnpfaaGreat
