/- The contract of the step of layer 14. -/
import Derived.Test.YtlbekjnpaiiilaaGaE
import Derived.Test.YtlbekjnpaiiilaaGaP
import Derived.Test.YtlbekjnpaiiilaaGaX
import Derived.Test.YtlbekjnpaiiilaaGaW
import Derived.Test.YtlbekjnpaiiilaaGaR
import Derived.Test.YtlbekjnpaiiilaaGaO
import Derived.Test.YtlbekjnpaiiilaaGaC
import Derived.Test.YtlbekjnpaiiilaaGaA
import Derived.Lib.QuietBelow
import Derived.Deep.QuietTactic
import Derived.BigQuiet
import Derived.Deep.RegionHeld3
namespace Go.Proofs.Ytlbekjnpaiiilaa
open Go.RowKit Go.Sort
set_option linter.unusedVariables false
set_option linter.unusedSimpArgs false

/-- Behind a step: how the turn lies, and a bool. -/
def GsPost (v u : Tn) (q : Bool) (a : TA) (w : World) (e : Ending) (w' : World) : Prop := ∃ b, e = .returned (.tuple #[.agg (tcs v b).toArray, .bool q]) ∧ TnAt w' v b ∧ (∀ g, g < w.heap.size → Off g u a → Off g v b) ∧ Below w.heap.size w w'
theorem fn_nil (f : Fn) (xs ys : Array Value) (w : World) : (binOp .eql 80 (.func f xs ys) .nilFunc).run Try.prog w = .ok (.bool false) w := by kernel_rfl
theorem nil_nil (w : World) : (binOp .eql 80 .nilFunc .nilFunc).run Try.prog w = .ok (.bool true) w := by kernel_rfl
attribute [local irreducible] tcs thc ccs zT
attribute [local go_sem ↓] alTn_is alRn_is
attribute [local go_sem] run_alTnf run_alTnt run_alRnf run_alRnt zT_length
attribute [local go_sem ↓] lbTn_is lbRn_is lbTh_is lbRh_is lbCf_is lbRc_is sbTn_is sbRn_is sbTh_is sbRh_is sbCf_is sbRc_is
attribute [local go_sem] run_lbTn run_lbRn run_lbTh run_lbRh run_lbCf run_lbRc run_sbTn run_sbRn run_sbTh run_sbRh run_sbCf run_sbRc
attribute [local go_sem 2000] boxOf_old'
attribute [local go_sem] boxOf_at' boxOf_free' boxOf_alloc objBox_cells objBox_cellsA boxOf_drew boxOf_setI boxOf_setsI size_sets tcs_length thc_length ccs_length tcs_one thc_one ccs_one sub_tn sub_th sub_cf sub_thAll sub_cfAll put_turn put_thread
attribute [local go_sem] tc0 tc1 tc2 tc3 tc4 tc5 tc6 tc7 tc8 tc9 tc10 tc11 tc12 tc13 tc14 tc15 tc16 tc17 tc18 tc19 tc20 tc21 tc22 tc23 tc24 tc25 tc26 tc27 tc28 tc29 tc30 tc31 tc32 tc33 tc34 tc35 tc36 hc0 hc1 hc2 hc3 hc4 hc5 hc6 hc7 hc8 hc9 hc10 hc11 hc12 hc13 hc14 hc15 hc16 kc0 kc1 kc2 kc3 kc4 kc5 kc6 kc7 kc8 kc9 kc10 kc11 tg0 tg1 tg2 tg3 tg4 tg5 tg6 tg7 tg8 tg9 tg10 tg11 tg12 tg13 tg14 tg15 tg16 tg17 tg18 tg19 tg20 tg21 tg22 tg23 tg24 tg25 tg26 tg27 tg28 tg29 tg30 tg31 tg32 tg33 tg34 tg35 tg36 hg0 hg1 hg2 hg3 hg4 hg5 hg6 hg7 hg8 hg9 hg10 hg11 hg12 hg13 hg14 hg15 hg16 kg0 kg1 kg2 kg3 kg4 kg5 kg6 kg7 kg8 kg9 kg10 kg11
attribute [local go_sem] ts12 ts13 ts14 ts16 ts17 ts18 ts19 ts20 ts21 ts22 ts23 ts24 ts25 ts26 ts27 ts28 ts29 ts30 ts31 ts32 ts33 ts34 ts35 ts36 ts15 hs0 hs1 hs2 hs3 hs7 hs8 hs9 hs10 hs11 hs12 hs13 hs14 hs15 hs16

attribute [local go_sem] fn_nil nil_nil
set_option maxRecDepth 100000 in
set_option maxHeartbeats 4000000 in
theorem gs_7 (u : Tn) (a : TA) (o : TnOk u) (ht : 0 ≤ u.tt ∧ u.tt ≤ 15) (hp : u.d.ph = 7) (w : World) (h : TnAt w u a) : Calls Try.prog 14 #[.agg (tcs u a).toArray] w (GsPost (lokG u) u true a w) := by
  have KT := fun W => hide (step_7 W)
  have B1 : boxOf ((w.alloc (.cells (tcs u a).toArray 38)).alloc (.cells zT.toArray 38)) w.heap.size = some (tcs u a) := by simp [go_sem]
  have B2 : boxOf ((w.alloc (.cells (tcs u a).toArray 38)).alloc (.cells zT.toArray 38)) (w.heap.size + 1) = some zT := by simp [go_sem]
  have hs : w.heap.size + 1 < ((w.alloc (.cells (tcs u a).toArray 38)).alloc (.cells zT.toArray 38)).heap.size := by simp
  have hB : Below w.heap.size w ((w.alloc (.cells (tcs u a).toArray 38)).alloc (.cells zT.toArray 38)) := (belowN w _).alloc (by simp) _
  have h0 := h
  replace h := h.later hB
  go_enter Try.func14, Try.ntmps14
  go_wp2_with fail
  generalize ((w.alloc (.cells (tcs u a).toArray 38)).alloc (.cells zT.toArray 38)) = wz at *
  refine (KT _).out.mono ?_
  rintro e w1 ⟨rfl, hb1⟩
  have h1 := h.later hb1
  replace B1 := boxOf_keep B1 hb1
  replace B2 := boxOf_keep B2 hb1
  replace hs := Nat.lt_of_lt_of_le hs hb1.size
  replace hB := below_next hB hB.size hb1
  clear hb1
  clear KT h
  have KG := hide (look_any u a o ht w1 h1)
  go_wp2_with fail
  refine KG.out.mono ?_
  rintro e w2 ht2
  obtain ⟨b, rfl, T2, off, hb1⟩ := gp_tp (lok_lk u) h1 ht2
  have off' : ∀ g, g < w.heap.size → Off g u a → Off g (lokG u) b := fun g hg f => off g (by omega) f
  have O2 := off (w.heap.size + 1) hs (h0.off (by omega))
  replace B1 := boxOf_keep B1 hb1
  replace B2 := boxOf_keep B2 hb1
  replace hs := Nat.lt_of_lt_of_le hs hb1.size
  replace hB := below_next hB hB.size hb1
  clear hb1
  obtain ⟨v, hv⟩ : ∃ v, lokG u = v := ⟨_, rfl⟩
  rw [hv] at T2 off' O2 ⊢
  have HV := hide hv
  have key : ∀ W', Below w.heap.size w W' → TnAt W' v b → GsPost v u true a w (.returned (.tuple #[.agg (tcs v b).toArray, .bool true])) W' := fun W' hb tn => ⟨b, rfl, tn, off', hb⟩
  clear KG off off' ht2 hv
  go_wp2
  refine bodyPost_ret (v := .tuple #[.agg (tcs v b).toArray, .bool true]) (results_box2 Try.results14 _ _ (w.heap.size + 1) _ _ _ rfl rfl (by simp [go_sem, B2]) Try.underlying38 rfl (by kernel_rfl)) rfl ?_
  rw [HV.out]
  exact key (w2.setCells (w.heap.size + 1) 0 (tcs v b)) (by repeat first | exact hB | refine below_sets _ (by omega) _ _ _ _ ?_ | refine Below.setCell ?_ (by first | omega | (simp; omega) | simp) _ | refine Below.alloc ?_ (by first | omega | (simp; omega) | simp) _) (T2.sets O2 (tcs v b) 0)
set_option maxRecDepth 100000 in
set_option maxHeartbeats 4000000 in
theorem gs_8 (u : Tn) (a : TA) (o : TnOk u) (ht : 0 ≤ u.tt ∧ u.tt ≤ 15) (hp : u.d.ph = 8) (w : World) (h : TnAt w u a) : Calls Try.prog 14 #[.agg (tcs u a).toArray] w (GsPost (relG u) u true a w) := by
  have KT := fun W => hide (step_8 W)
  have B1 : boxOf ((w.alloc (.cells (tcs u a).toArray 38)).alloc (.cells zT.toArray 38)) w.heap.size = some (tcs u a) := by simp [go_sem]
  have B2 : boxOf ((w.alloc (.cells (tcs u a).toArray 38)).alloc (.cells zT.toArray 38)) (w.heap.size + 1) = some zT := by simp [go_sem]
  have hs : w.heap.size + 1 < ((w.alloc (.cells (tcs u a).toArray 38)).alloc (.cells zT.toArray 38)).heap.size := by simp
  have hB : Below w.heap.size w ((w.alloc (.cells (tcs u a).toArray 38)).alloc (.cells zT.toArray 38)) := (belowN w _).alloc (by simp) _
  have h0 := h
  replace h := h.later hB
  go_enter Try.func14, Try.ntmps14
  go_wp2_with fail
  generalize ((w.alloc (.cells (tcs u a).toArray 38)).alloc (.cells zT.toArray 38)) = wz at *
  refine (KT _).out.mono ?_
  rintro e w1 ⟨rfl, hb1⟩
  have h1 := h.later hb1
  replace B1 := boxOf_keep B1 hb1
  replace B2 := boxOf_keep B2 hb1
  replace hs := Nat.lt_of_lt_of_le hs hb1.size
  replace hB := below_next hB hB.size hb1
  clear hb1
  clear KT h
  have KG := hide (release_any u a o ht w1 h1)
  go_wp2_with fail
  refine KG.out.mono ?_
  rintro e w2 ht2
  obtain ⟨b, rfl, T2, off, hb1⟩ := wp_gp (rel_lk u) h1 ht2
  have off' : ∀ g, g < w.heap.size → Off g u a → Off g (relG u) b := fun g hg f => off g (by omega) f
  have O2 := off (w.heap.size + 1) hs (h0.off (by omega))
  replace B1 := boxOf_keep B1 hb1
  replace B2 := boxOf_keep B2 hb1
  replace hs := Nat.lt_of_lt_of_le hs hb1.size
  replace hB := below_next hB hB.size hb1
  clear hb1
  obtain ⟨v, hv⟩ : ∃ v, relG u = v := ⟨_, rfl⟩
  rw [hv] at T2 off' O2 ⊢
  have HV := hide hv
  have key : ∀ W', Below w.heap.size w W' → TnAt W' v b → GsPost v u true a w (.returned (.tuple #[.agg (tcs v b).toArray, .bool true])) W' := fun W' hb tn => ⟨b, rfl, tn, off', hb⟩
  clear KG off off' ht2 hv
  go_wp2
  refine bodyPost_ret (v := .tuple #[.agg (tcs v b).toArray, .bool true]) (results_box2 Try.results14 _ _ (w.heap.size + 1) _ _ _ rfl rfl (by simp [go_sem, B2]) Try.underlying38 rfl (by kernel_rfl)) rfl ?_
  rw [HV.out]
  exact key (w2.setCells (w.heap.size + 1) 0 (tcs v b)) (by repeat first | exact hB | refine below_sets _ (by omega) _ _ _ _ ?_ | refine Below.setCell ?_ (by first | omega | (simp; omega) | simp) _ | refine Below.alloc ?_ (by first | omega | (simp; omega) | simp) _) (T2.sets O2 (tcs v b) 0)
set_option maxRecDepth 100000 in
set_option maxHeartbeats 4000000 in
theorem gs_9 (u : Tn) (a : TA) (o : TnOk u) (ht : 0 ≤ u.tt ∧ u.tt ≤ 15) (hp : u.d.ph = 9) (w : World) (h : TnAt w u a) : Calls Try.prog 14 #[.agg (tcs u a).toArray] w (GsPost (colG u) u true a w) := by
  have KT := fun W => hide (step_9 W)
  have B1 : boxOf ((w.alloc (.cells (tcs u a).toArray 38)).alloc (.cells zT.toArray 38)) w.heap.size = some (tcs u a) := by simp [go_sem]
  have B2 : boxOf ((w.alloc (.cells (tcs u a).toArray 38)).alloc (.cells zT.toArray 38)) (w.heap.size + 1) = some zT := by simp [go_sem]
  have hs : w.heap.size + 1 < ((w.alloc (.cells (tcs u a).toArray 38)).alloc (.cells zT.toArray 38)).heap.size := by simp
  have hB : Below w.heap.size w ((w.alloc (.cells (tcs u a).toArray 38)).alloc (.cells zT.toArray 38)) := (belowN w _).alloc (by simp) _
  have h0 := h
  replace h := h.later hB
  go_enter Try.func14, Try.ntmps14
  go_wp2_with fail
  generalize ((w.alloc (.cells (tcs u a).toArray 38)).alloc (.cells zT.toArray 38)) = wz at *
  refine (KT _).out.mono ?_
  rintro e w1 ⟨rfl, hb1⟩
  have h1 := h.later hb1
  replace B1 := boxOf_keep B1 hb1
  replace B2 := boxOf_keep B2 hb1
  replace hs := Nat.lt_of_lt_of_le hs hb1.size
  replace hB := below_next hB hB.size hb1
  clear hb1
  clear KT h
  have KG := hide (collect_any u a o w1 h1)
  go_wp2_with fail
  refine KG.out.mono ?_
  rintro e w2 ht2
  obtain ⟨b, rfl, T2, off, hb1⟩ := id ht2
  have off' : ∀ g, g < w.heap.size → Off g u a → Off g (colG u) b := fun g hg f => off g (by omega) f
  have O2 := off (w.heap.size + 1) hs (h0.off (by omega))
  replace B1 := boxOf_keep B1 hb1
  replace B2 := boxOf_keep B2 hb1
  replace hs := Nat.lt_of_lt_of_le hs hb1.size
  replace hB := below_next hB hB.size hb1
  clear hb1
  obtain ⟨v, hv⟩ : ∃ v, colG u = v := ⟨_, rfl⟩
  rw [hv] at T2 off' O2 ⊢
  have HV := hide hv
  have key : ∀ W', Below w.heap.size w W' → TnAt W' v b → GsPost v u true a w (.returned (.tuple #[.agg (tcs v b).toArray, .bool true])) W' := fun W' hb tn => ⟨b, rfl, tn, off', hb⟩
  clear KG off off' ht2 hv
  go_wp2
  refine bodyPost_ret (v := .tuple #[.agg (tcs v b).toArray, .bool true]) (results_box2 Try.results14 _ _ (w.heap.size + 1) _ _ _ rfl rfl (by simp [go_sem, B2]) Try.underlying38 rfl (by kernel_rfl)) rfl ?_
  rw [HV.out]
  exact key (w2.setCells (w.heap.size + 1) 0 (tcs v b)) (by repeat first | exact hB | refine below_sets _ (by omega) _ _ _ _ ?_ | refine Below.setCell ?_ (by first | omega | (simp; omega) | simp) _ | refine Below.alloc ?_ (by first | omega | (simp; omega) | simp) _) (T2.sets O2 (tcs v b) 0)
set_option maxRecDepth 100000 in
set_option maxHeartbeats 4000000 in
theorem gs_10 (u : Tn) (a : TA) (o : TnOk u) (ht : 0 ≤ u.tt ∧ u.tt ≤ 15) (hp : u.d.ph = 10) (w : World) (h : TnAt w u a) : Calls Try.prog 14 #[.agg (tcs u a).toArray] w (GsPost (freG u) u true a w) := by
  have KT := fun W => hide (step_10 W)
  have B1 : boxOf ((w.alloc (.cells (tcs u a).toArray 38)).alloc (.cells zT.toArray 38)) w.heap.size = some (tcs u a) := by simp [go_sem]
  have B2 : boxOf ((w.alloc (.cells (tcs u a).toArray 38)).alloc (.cells zT.toArray 38)) (w.heap.size + 1) = some zT := by simp [go_sem]
  have hs : w.heap.size + 1 < ((w.alloc (.cells (tcs u a).toArray 38)).alloc (.cells zT.toArray 38)).heap.size := by simp
  have hB : Below w.heap.size w ((w.alloc (.cells (tcs u a).toArray 38)).alloc (.cells zT.toArray 38)) := (belowN w _).alloc (by simp) _
  have h0 := h
  replace h := h.later hB
  go_enter Try.func14, Try.ntmps14
  go_wp2_with fail
  generalize ((w.alloc (.cells (tcs u a).toArray 38)).alloc (.cells zT.toArray 38)) = wz at *
  refine (KT _).out.mono ?_
  rintro e w1 ⟨g1, g2, rfl, k1, k2, hb1⟩
  have h1 := h.later hb1
  replace B1 := boxOf_keep B1 hb1
  replace B2 := boxOf_keep B2 hb1
  replace hs := Nat.lt_of_lt_of_le hs hb1.size
  replace hB := below_next hB hB.size hb1
  clear hb1
  clear KT h
  have KG := hide (free_any u a o ht g1 g2 w1 h1 k1 k2)
  go_wp2_with fail
  refine KG.out.mono ?_
  rintro e w2 ht2
  obtain ⟨b, rfl, T2, off, hb1⟩ := wp_gp (fre_lk u) h1 ht2
  have off' : ∀ g, g < w.heap.size → Off g u a → Off g (freG u) b := fun g hg f => off g (by omega) f
  have O2 := off (w.heap.size + 1) hs (h0.off (by omega))
  replace B1 := boxOf_keep B1 hb1
  replace B2 := boxOf_keep B2 hb1
  replace hs := Nat.lt_of_lt_of_le hs hb1.size
  replace hB := below_next hB hB.size hb1
  clear hb1
  obtain ⟨v, hv⟩ : ∃ v, freG u = v := ⟨_, rfl⟩
  rw [hv] at T2 off' O2 ⊢
  have HV := hide hv
  have key : ∀ W', Below w.heap.size w W' → TnAt W' v b → GsPost v u true a w (.returned (.tuple #[.agg (tcs v b).toArray, .bool true])) W' := fun W' hb tn => ⟨b, rfl, tn, off', hb⟩
  clear KG off off' ht2 hv
  go_wp2
  refine bodyPost_ret (v := .tuple #[.agg (tcs v b).toArray, .bool true]) (results_box2 Try.results14 _ _ (w.heap.size + 1) _ _ _ rfl rfl (by simp [go_sem, B2]) Try.underlying38 rfl (by kernel_rfl)) rfl ?_
  rw [HV.out]
  exact key (w2.setCells (w.heap.size + 1) 0 (tcs v b)) (by repeat first | exact hB | refine below_sets _ (by omega) _ _ _ _ ?_ | refine Below.setCell ?_ (by first | omega | (simp; omega) | simp) _ | refine Below.alloc ?_ (by first | omega | (simp; omega) | simp) _) (T2.sets O2 (tcs v b) 0)
set_option maxRecDepth 100000 in
set_option maxHeartbeats 4000000 in
theorem gs_11 (u : Tn) (a : TA) (o : TnOk u) (ht : 0 ≤ u.tt ∧ u.tt ≤ 15) (hp : u.d.ph = 11) (w : World) (h : TnAt w u a) : Calls Try.prog 14 #[.agg (tcs u a).toArray] w (GsPost (pubG u) u true a w) := by
  have KT := fun W => hide (step_11 W)
  have B1 : boxOf ((w.alloc (.cells (tcs u a).toArray 38)).alloc (.cells zT.toArray 38)) w.heap.size = some (tcs u a) := by simp [go_sem]
  have B2 : boxOf ((w.alloc (.cells (tcs u a).toArray 38)).alloc (.cells zT.toArray 38)) (w.heap.size + 1) = some zT := by simp [go_sem]
  have hs : w.heap.size + 1 < ((w.alloc (.cells (tcs u a).toArray 38)).alloc (.cells zT.toArray 38)).heap.size := by simp
  have hB : Below w.heap.size w ((w.alloc (.cells (tcs u a).toArray 38)).alloc (.cells zT.toArray 38)) := (belowN w _).alloc (by simp) _
  have h0 := h
  replace h := h.later hB
  go_enter Try.func14, Try.ntmps14
  go_wp2_with fail
  generalize ((w.alloc (.cells (tcs u a).toArray 38)).alloc (.cells zT.toArray 38)) = wz at *
  refine (KT _).out.mono ?_
  rintro e w1 ⟨g1, g2, g3, rfl, k1, k2, k3, hb1⟩
  have h1 := h.later hb1
  replace B1 := boxOf_keep B1 hb1
  replace B2 := boxOf_keep B2 hb1
  replace hs := Nat.lt_of_lt_of_le hs hb1.size
  replace hB := below_next hB hB.size hb1
  clear hb1
  clear KT h
  have KG := hide (pub_any u a o g1 g2 g3 w1 h1 k1 k2 k3)
  go_wp2_with fail
  refine KG.out.mono ?_
  rintro e w2 ht2
  obtain ⟨b, rfl, T2, off, hb1⟩ := pub_gp h1 ht2
  have off' : ∀ g, g < w.heap.size → Off g u a → Off g (pubG u) b := fun g hg f => off g (by omega) f
  have O2 := off (w.heap.size + 1) hs (h0.off (by omega))
  replace B1 := boxOf_keep B1 hb1
  replace B2 := boxOf_keep B2 hb1
  replace hs := Nat.lt_of_lt_of_le hs hb1.size
  replace hB := below_next hB hB.size hb1
  clear hb1
  obtain ⟨v, hv⟩ : ∃ v, pubG u = v := ⟨_, rfl⟩
  rw [hv] at T2 off' O2 ⊢
  have HV := hide hv
  have key : ∀ W', Below w.heap.size w W' → TnAt W' v b → GsPost v u true a w (.returned (.tuple #[.agg (tcs v b).toArray, .bool true])) W' := fun W' hb tn => ⟨b, rfl, tn, off', hb⟩
  clear KG off off' ht2 hv
  go_wp2
  refine bodyPost_ret (v := .tuple #[.agg (tcs v b).toArray, .bool true]) (results_box2 Try.results14 _ _ (w.heap.size + 1) _ _ _ rfl rfl (by simp [go_sem, B2]) Try.underlying38 rfl (by kernel_rfl)) rfl ?_
  rw [HV.out]
  exact key (w2.setCells (w.heap.size + 1) 0 (tcs v b)) (by repeat first | exact hB | refine below_sets _ (by omega) _ _ _ _ ?_ | refine Below.setCell ?_ (by first | omega | (simp; omega) | simp) _ | refine Below.alloc ?_ (by first | omega | (simp; omega) | simp) _) (T2.sets O2 (tcs v b) 0)
set_option maxRecDepth 100000 in
set_option maxHeartbeats 4000000 in
theorem gs_12 (u : Tn) (a : TA) (o : TnOk u) (ht : 0 ≤ u.tt ∧ u.tt ≤ 15) (hp : u.d.ph = 12) (w : World) (h : TnAt w u a) : Calls Try.prog 14 #[.agg (tcs u a).toArray] w (GsPost (depG u) u true a w) := by
  have KT := fun W => hide (step_12 W)
  have B1 : boxOf ((w.alloc (.cells (tcs u a).toArray 38)).alloc (.cells zT.toArray 38)) w.heap.size = some (tcs u a) := by simp [go_sem]
  have B2 : boxOf ((w.alloc (.cells (tcs u a).toArray 38)).alloc (.cells zT.toArray 38)) (w.heap.size + 1) = some zT := by simp [go_sem]
  have hs : w.heap.size + 1 < ((w.alloc (.cells (tcs u a).toArray 38)).alloc (.cells zT.toArray 38)).heap.size := by simp
  have hB : Below w.heap.size w ((w.alloc (.cells (tcs u a).toArray 38)).alloc (.cells zT.toArray 38)) := (belowN w _).alloc (by simp) _
  have h0 := h
  replace h := h.later hB
  go_enter Try.func14, Try.ntmps14
  go_wp2_with fail
  generalize ((w.alloc (.cells (tcs u a).toArray 38)).alloc (.cells zT.toArray 38)) = wz at *
  refine (KT _).out.mono ?_
  rintro e w1 ⟨g1, g2, g3, rfl, k1, k2, k3, hb1⟩
  have h1 := h.later hb1
  replace B1 := boxOf_keep B1 hb1
  replace B2 := boxOf_keep B2 hb1
  replace hs := Nat.lt_of_lt_of_le hs hb1.size
  replace hB := below_next hB hB.size hb1
  clear hb1
  clear KT h
  have KG := hide (dep_any u a o ht g1 g2 g3 w1 h1 k1 k2 k3)
  go_wp2_with fail
  refine KG.out.mono ?_
  rintro e w2 ht2
  obtain ⟨b, rfl, T2, off, hb1⟩ := wp_gp (dep_lk u) h1 ht2
  have off' : ∀ g, g < w.heap.size → Off g u a → Off g (depG u) b := fun g hg f => off g (by omega) f
  have O2 := off (w.heap.size + 1) hs (h0.off (by omega))
  replace B1 := boxOf_keep B1 hb1
  replace B2 := boxOf_keep B2 hb1
  replace hs := Nat.lt_of_lt_of_le hs hb1.size
  replace hB := below_next hB hB.size hb1
  clear hb1
  obtain ⟨v, hv⟩ : ∃ v, depG u = v := ⟨_, rfl⟩
  rw [hv] at T2 off' O2 ⊢
  have HV := hide hv
  have key : ∀ W', Below w.heap.size w W' → TnAt W' v b → GsPost v u true a w (.returned (.tuple #[.agg (tcs v b).toArray, .bool true])) W' := fun W' hb tn => ⟨b, rfl, tn, off', hb⟩
  clear KG off off' ht2 hv
  go_wp2
  refine bodyPost_ret (v := .tuple #[.agg (tcs v b).toArray, .bool true]) (results_box2 Try.results14 _ _ (w.heap.size + 1) _ _ _ rfl rfl (by simp [go_sem, B2]) Try.underlying38 rfl (by kernel_rfl)) rfl ?_
  rw [HV.out]
  exact key (w2.setCells (w.heap.size + 1) 0 (tcs v b)) (by repeat first | exact hB | refine below_sets _ (by omega) _ _ _ _ ?_ | refine Below.setCell ?_ (by first | omega | (simp; omega) | simp) _ | refine Below.alloc ?_ (by first | omega | (simp; omega) | simp) _) (T2.sets O2 (tcs v b) 0)
set_option maxRecDepth 100000 in
set_option maxHeartbeats 4000000 in
theorem gs_n (u : Tn) (a : TA) (h7 : (u.d.ph == 7) = false) (h8 : (u.d.ph == 8) = false) (h9 : (u.d.ph == 9) = false) (h10 : (u.d.ph == 10) = false) (h11 : (u.d.ph == 11) = false) (h12 : (u.d.ph == 12) = false) (w : World) (h : TnAt w u a) : Calls Try.prog 14 #[.agg (tcs u a).toArray] w (GsPost u u false a w) := by
  have KT := fun W => hide (step_n u.d.ph h7 h8 h9 h10 h11 h12 W)
  have B1 : boxOf ((w.alloc (.cells (tcs u a).toArray 38)).alloc (.cells zT.toArray 38)) w.heap.size = some (tcs u a) := by simp [go_sem]
  have B2 : boxOf ((w.alloc (.cells (tcs u a).toArray 38)).alloc (.cells zT.toArray 38)) (w.heap.size + 1) = some zT := by simp [go_sem]
  have hs : w.heap.size + 1 < ((w.alloc (.cells (tcs u a).toArray 38)).alloc (.cells zT.toArray 38)).heap.size := by simp
  have hB : Below w.heap.size w ((w.alloc (.cells (tcs u a).toArray 38)).alloc (.cells zT.toArray 38)) := (belowN w _).alloc (by simp) _
  have h0 := h
  replace h := h.later hB
  go_enter Try.func14, Try.ntmps14
  go_wp2_with fail
  generalize ((w.alloc (.cells (tcs u a).toArray 38)).alloc (.cells zT.toArray 38)) = wz at *
  refine (KT _).out.mono ?_
  rintro e w1 ⟨rfl, hb1⟩
  replace B1 := boxOf_keep B1 hb1
  replace B2 := boxOf_keep B2 hb1
  replace hs := Nat.lt_of_lt_of_le hs hb1.size
  replace hB := below_next hB hB.size hb1
  clear hb1
  have key : ∀ W', Below w.heap.size w W' → GsPost u u false a w (.returned (.tuple #[.agg (tcs u a).toArray, .bool false])) W' := fun W' hb => ⟨a, rfl, h0.later hb, fun _ _ f => f, hb⟩
  clear KT h
  go_wp2
  refine bodyPost_ret (v := .tuple #[.agg (tcs u a).toArray, .bool false]) (results_box2 Try.results14 _ _ (w.heap.size + 1) _ _ _ rfl rfl (by simp [go_sem, B1, B2]) Try.underlying38 rfl (by kernel_rfl)) rfl ?_
  exact key _ (by repeat first | exact hB | refine below_sets _ (by omega) _ _ _ _ ?_ | refine Below.setCell ?_ (by first | omega | (simp; omega) | simp) _ | refine Below.alloc ?_ (by first | omega | (simp; omega) | simp) _)
/-- The step of whatever turn. -/
theorem gstep_any (u : Tn) (a : TA) (o : TnOk u) (ht : 0 ≤ u.tt ∧ u.tt ≤ 15) (w : World) (h : TnAt w u a) : Calls Try.prog 14 #[.agg (tcs u a).toArray] w (GsPost (stepG u) u (isG u) a w) := by
  by_cases h7 : u.d.ph = 7
  · rw [show stepG u = lokG u by rw [stepG, if_pos h7], show isG u = true by simp [isG, h7]]; exact gs_7 u a o ht h7 w h
  by_cases h8 : u.d.ph = 8
  · rw [show stepG u = relG u by rw [stepG, if_neg h7, if_pos h8], show isG u = true by simp [isG, h8]]; exact gs_8 u a o ht h8 w h
  by_cases h9 : u.d.ph = 9
  · rw [show stepG u = colG u by rw [stepG, if_neg h7, if_neg h8, if_pos h9], show isG u = true by simp [isG, h9]]; exact gs_9 u a o ht h9 w h
  by_cases h10 : u.d.ph = 10
  · rw [show stepG u = freG u by rw [stepG, if_neg h7, if_neg h8, if_neg h9, if_pos h10], show isG u = true by simp [isG, h10]]; exact gs_10 u a o ht h10 w h
  by_cases h11 : u.d.ph = 11
  · rw [show stepG u = pubG u by rw [stepG, if_neg h7, if_neg h8, if_neg h9, if_neg h10, if_pos h11], show isG u = true by simp [isG, h11]]; exact gs_11 u a o ht h11 w h
  by_cases h12 : u.d.ph = 12
  · rw [show stepG u = depG u by rw [stepG, if_neg h7, if_neg h8, if_neg h9, if_neg h10, if_neg h11, if_pos h12], show isG u = true by simp [isG, h12]]; exact gs_12 u a o ht h12 w h
  have e : ∀ k : Int, u.d.ph ≠ k → (u.d.ph == k) = false := fun k hk => beq_eq_false_iff_ne.2 hk
  rw [show stepG u = u by rw [stepG, if_neg h7, if_neg h8, if_neg h9, if_neg h10, if_neg h11, if_neg h12], show isG u = false by simp [isG, h7, h8, h9, h10, h11, h12]]
  exact gs_n u a (e 7 h7) (e 8 h8) (e 9 h9) (e 10 h10) (e 11 h11) (e 12 h12) w h
end Go.Proofs.Ytlbekjnpaiiilaa
