/- Layer 15: what happens behind a step. -/
import Derived.Test.YtjghdbkkjhnpfaaCoA
import Derived.Test.YtjghdbkkjhnpfaaCoB
import Derived.Lib.QuietBelow
import Derived.Deep.QuietTactic
import Derived.BigQuiet
import Derived.Laws.EntriesVeiled
import Derived.Handy
namespace Go.Proofs.Ytjghdbkkjhnpfaa
open Go.RowKit Go.Sort
set_option linter.unusedVariables false
set_option linter.unusedSimpArgs false

attribute [local irreducible] tcs thc ccs zT
attribute [local go_sem ↓] alTn_is alRn_is
attribute [local go_sem] run_alTnf run_alTnt run_alRnf run_alRnt zT_length
attribute [local go_sem ↓] lbTn_is lbRn_is lbTh_is lbRh_is lbCf_is lbRc_is sbTn_is sbRn_is sbTh_is sbRh_is sbCf_is sbRc_is
attribute [local go_sem] run_lbTn run_lbRn run_lbTh run_lbRh run_lbCf run_lbRc run_sbTn run_sbRn run_sbTh run_sbRh run_sbCf run_sbRc
attribute [local go_sem 2000] boxOf_old'
attribute [local go_sem] boxOf_at' boxOf_free' boxOf_alloc objBox_cells objBox_cellsA boxOf_drew boxOf_setI boxOf_setsI size_sets tcs_length thc_length ccs_length tcs_one thc_one ccs_one sub_tn sub_th sub_cf sub_thAll sub_cfAll put_turn put_thread
attribute [local go_sem] tc0 tc1 tc2 tc3 tc4 tc5 tc6 tc7 tc8 tc9 tc10 tc11 tc12 tc13 tc14 tc15 tc16 tc17 tc18 tc19 tc20 tc21 tc22 tc23 tc24 tc25 tc26 tc27 tc28 tc29 tc30 tc31 tc32 tc33 tc34 tc35 tc36 hc0 hc1 hc2 hc3 hc4 hc5 hc6 hc7 hc8 hc9 hc10 hc11 hc12 hc13 hc14 hc15 hc16 kc0 kc1 kc2 kc3 kc4 kc5 kc6 kc7 kc8 kc9 kc10 kc11 tg0 tg1 tg2 tg3 tg4 tg5 tg6 tg7 tg8 tg9 tg10 tg11 tg12 tg13 tg14 tg15 tg16 tg17 tg18 tg19 tg20 tg21 tg22 tg23 tg24 tg25 tg26 tg27 tg28 tg29 tg30 tg31 tg32 tg33 tg34 tg35 tg36 hg0 hg1 hg2 hg3 hg4 hg5 hg6 hg7 hg8 hg9 hg10 hg11 hg12 hg13 hg14 hg15 hg16 kg0 kg1 kg2 kg3 kg4 kg5 kg6 kg7 kg8 kg9 kg10 kg11
attribute [local go_sem] ts12 ts13 ts14 ts16 ts17 ts18 ts19 ts20 ts21 ts22 ts23 ts24 ts25 ts26 ts27 ts28 ts29 ts30 ts31 ts32 ts33 ts34 ts35 ts36 ts15 hs0 hs1 hs2 hs3 hs7 hs8 hs9 hs10 hs11 hs12 hs13 hs14 hs15 hs16

set_option maxRecDepth 100000 in
set_option maxHeartbeats 4000000 in
theorem goOn_17 (u : Tn) (a : TA) (o : TnOk u) (ht : 0 ≤ u.tt ∧ u.tt ≤ 15) (q : Int) (p : Bool) (A : Option Addr) (n c : Nat) (hp : u.d.ph = 17) (w : World) : Calls Try.prog 27 #[.agg (tcs u a).toArray, .agg #[.int .i64 q, .bool p, .slice A n c]] w (TPost ({ u with d := { u.d with ph := 18 } } : Tn) a w) := by
  have B1 : boxOf (((w.alloc (.cells (tcs u a).toArray 38)).alloc (.cells #[.int .i64 q, .bool p, .slice A n c] 75)).alloc (.cells zT.toArray 38)) w.heap.size = some (tcs u a) := by simp [go_sem]
  have B2 : boxOf (((w.alloc (.cells (tcs u a).toArray 38)).alloc (.cells #[.int .i64 q, .bool p, .slice A n c] 75)).alloc (.cells zT.toArray 38)) (w.heap.size + 1) = some [.int .i64 q, .bool p, .slice A n c] := by simp [go_sem]
  have B3 : boxOf (((w.alloc (.cells (tcs u a).toArray 38)).alloc (.cells #[.int .i64 q, .bool p, .slice A n c] 75)).alloc (.cells zT.toArray 38)) (w.heap.size + 1 + 1) = some zT := by simp [go_sem]
  have hs : w.heap.size + 1 + 1 < (((w.alloc (.cells (tcs u a).toArray 38)).alloc (.cells #[.int .i64 q, .bool p, .slice A n c] 75)).alloc (.cells zT.toArray 38)).heap.size := by simp
  have hB : Below w.heap.size w (((w.alloc (.cells (tcs u a).toArray 38)).alloc (.cells #[.int .i64 q, .bool p, .slice A n c] 75)).alloc (.cells zT.toArray 38)) := ((belowN w _).alloc (by simp) _).alloc (by simp; omega) _
  obtain ⟨vv, hvv⟩ : ∃ x, (({ u with d := { u.d with ph := 18 } } : Tn) : Tn) = x := ⟨_, rfl⟩
  have KD : ∀ W, Hid (∀ g, boxOf W g = some [.int .i64 18] → Calls Try.prog 91 #[.agg (tcs u a).toArray, .agg #[.int .i64 q, .bool p, .slice A n c], .pointer (some ⟨g, 0, none⟩)] W (TPost vv a W)) := fun W => hide (fun g hg => hvv ▸ cto1_any u a q p A n c W 18 g hg)
  rw [hvv]
  clear hvv o ht
  go_enter Try.func27, Try.ntmps27
  go_wp2_with fail
  go_step3
  go_wp2_with fail
  go_step3
  go_wp2_with fail
  generalize (((w.alloc (.cells (tcs u a).toArray 38)).alloc (.cells #[.int .i64 q, .bool p, .slice A n c] 75)).alloc (.cells zT.toArray 38)) = wz at *
  refine (chances_17 _).mono ?_
  rintro e w1 ⟨gb, g0, rfl, kgb, kg0, hb1⟩
  replace B1 := boxOf_keep B1 hb1
  replace B2 := boxOf_keep B2 hb1
  replace B3 := boxOf_keep B3 hb1
  replace hs := Nat.lt_of_lt_of_le hs hb1.size
  replace hB := below_next hB hB.size hb1
  clear hb1
  go_wp2_with fail
  refine wp_loop_rounds 1 ?_
  rw [rounds_succ]
  go_wp2_with fail
  refine wp_loop_rounds 1 ?_
  rw [rounds_succ]
  go_wp2_with fail
  refine ((KD _).out _ (boxOf_keep kg0 (belowN _ _))).mono ?_
  rintro e wr ⟨rfl, hb1⟩
  replace B3 := boxOf_keep (boxOf_keep B3 (belowN _ _)) hb1
  replace hs := Nat.lt_of_lt_of_le hs (show _ ≤ wr.heap.size by have := hb1.size; (try simp at this); omega)
  replace hB := below_next (hB.alloc hB.size _) (by have := hB.size; first | omega | (simp; done) | (simp; omega)) hb1
  clear hb1
  go_wp2
  (try rw [Exit.noGoto_ret])
  refine bodyPost_ret (v := .agg (tcs vv a).toArray) (results_box Try.results27 _ _ (w.heap.size + 1 + 1) _ _ rfl (by simp [go_sem, B3]) Try.underlying38 rfl (by kernel_rfl)) rfl ⟨rfl, ?_⟩
  repeat first | exact hB | refine below_sets _ (by omega) _ _ _ _ ?_ | refine Below.setCell ?_ (by first | omega | (simp; omega) | simp | (simp [size_sets]; omega)) _ | refine Below.alloc ?_ (by first | omega | (simp; omega) | simp | (simp [size_sets]; omega)) _ | exact Below.refl _ _
set_option maxRecDepth 100000 in
set_option maxHeartbeats 4000000 in
theorem goOn_18 (u : Tn) (a : TA) (o : TnOk u) (ht : 0 ≤ u.tt ∧ u.tt ≤ 15) (q : Int) (p : Bool) (A : Option Addr) (n c : Nat) (hp : u.d.ph = 18) (w : World) : Calls Try.prog 27 #[.agg (tcs u a).toArray, .agg #[.int .i64 q, .bool p, .slice A n c]] w (TPost ({ u with d := { u.d with ph := 19 } } : Tn) a w) := by
  have B1 : boxOf (((w.alloc (.cells (tcs u a).toArray 38)).alloc (.cells #[.int .i64 q, .bool p, .slice A n c] 75)).alloc (.cells zT.toArray 38)) w.heap.size = some (tcs u a) := by simp [go_sem]
  have B2 : boxOf (((w.alloc (.cells (tcs u a).toArray 38)).alloc (.cells #[.int .i64 q, .bool p, .slice A n c] 75)).alloc (.cells zT.toArray 38)) (w.heap.size + 1) = some [.int .i64 q, .bool p, .slice A n c] := by simp [go_sem]
  have B3 : boxOf (((w.alloc (.cells (tcs u a).toArray 38)).alloc (.cells #[.int .i64 q, .bool p, .slice A n c] 75)).alloc (.cells zT.toArray 38)) (w.heap.size + 1 + 1) = some zT := by simp [go_sem]
  have hs : w.heap.size + 1 + 1 < (((w.alloc (.cells (tcs u a).toArray 38)).alloc (.cells #[.int .i64 q, .bool p, .slice A n c] 75)).alloc (.cells zT.toArray 38)).heap.size := by simp
  have hB : Below w.heap.size w (((w.alloc (.cells (tcs u a).toArray 38)).alloc (.cells #[.int .i64 q, .bool p, .slice A n c] 75)).alloc (.cells zT.toArray 38)) := ((belowN w _).alloc (by simp) _).alloc (by simp; omega) _
  obtain ⟨vv, hvv⟩ : ∃ x, (({ u with d := { u.d with ph := 19 } } : Tn) : Tn) = x := ⟨_, rfl⟩
  have KD : ∀ W, Hid (∀ g, boxOf W g = some [.int .i64 19] → Calls Try.prog 91 #[.agg (tcs u a).toArray, .agg #[.int .i64 q, .bool p, .slice A n c], .pointer (some ⟨g, 0, none⟩)] W (TPost vv a W)) := fun W => hide (fun g hg => hvv ▸ cto1_any u a q p A n c W 19 g hg)
  rw [hvv]
  clear hvv o ht
  go_enter Try.func27, Try.ntmps27
  go_wp2_with fail
  go_step3
  go_wp2_with fail
  go_step3
  go_wp2_with fail
  generalize (((w.alloc (.cells (tcs u a).toArray 38)).alloc (.cells #[.int .i64 q, .bool p, .slice A n c] 75)).alloc (.cells zT.toArray 38)) = wz at *
  refine (chances_18 _).mono ?_
  rintro e w1 ⟨gb, g0, rfl, kgb, kg0, hb1⟩
  replace B1 := boxOf_keep B1 hb1
  replace B2 := boxOf_keep B2 hb1
  replace B3 := boxOf_keep B3 hb1
  replace hs := Nat.lt_of_lt_of_le hs hb1.size
  replace hB := below_next hB hB.size hb1
  clear hb1
  go_wp2_with fail
  refine wp_loop_rounds 1 ?_
  rw [rounds_succ]
  go_wp2_with fail
  refine wp_loop_rounds 1 ?_
  rw [rounds_succ]
  go_wp2_with fail
  refine ((KD _).out _ (boxOf_keep kg0 (belowN _ _))).mono ?_
  rintro e wr ⟨rfl, hb1⟩
  replace B3 := boxOf_keep (boxOf_keep B3 (belowN _ _)) hb1
  replace hs := Nat.lt_of_lt_of_le hs (show _ ≤ wr.heap.size by have := hb1.size; (try simp at this); omega)
  replace hB := below_next (hB.alloc hB.size _) (by have := hB.size; first | omega | (simp; done) | (simp; omega)) hb1
  clear hb1
  go_wp2
  (try rw [Exit.noGoto_ret])
  refine bodyPost_ret (v := .agg (tcs vv a).toArray) (results_box Try.results27 _ _ (w.heap.size + 1 + 1) _ _ rfl (by simp [go_sem, B3]) Try.underlying38 rfl (by kernel_rfl)) rfl ⟨rfl, ?_⟩
  repeat first | exact hB | refine below_sets _ (by omega) _ _ _ _ ?_ | refine Below.setCell ?_ (by first | omega | (simp; omega) | simp | (simp [size_sets]; omega)) _ | refine Below.alloc ?_ (by first | omega | (simp; omega) | simp | (simp [size_sets]; omega)) _ | exact Below.refl _ _
set_option maxRecDepth 100000 in
set_option maxHeartbeats 4000000 in
theorem goOn_24 (u : Tn) (a : TA) (o : TnOk u) (ht : 0 ≤ u.tt ∧ u.tt ≤ 15) (q : Int) (p : Bool) (A : Option Addr) (n c : Nat) (hp : u.d.ph = 24) (w : World) : Calls Try.prog 27 #[.agg (tcs u a).toArray, .agg #[.int .i64 q, .bool p, .slice A n c]] w (TPost (spnV u) a w) := by
  have B1 : boxOf (((w.alloc (.cells (tcs u a).toArray 38)).alloc (.cells #[.int .i64 q, .bool p, .slice A n c] 75)).alloc (.cells zT.toArray 38)) w.heap.size = some (tcs u a) := by simp [go_sem]
  have B2 : boxOf (((w.alloc (.cells (tcs u a).toArray 38)).alloc (.cells #[.int .i64 q, .bool p, .slice A n c] 75)).alloc (.cells zT.toArray 38)) (w.heap.size + 1) = some [.int .i64 q, .bool p, .slice A n c] := by simp [go_sem]
  have B3 : boxOf (((w.alloc (.cells (tcs u a).toArray 38)).alloc (.cells #[.int .i64 q, .bool p, .slice A n c] 75)).alloc (.cells zT.toArray 38)) (w.heap.size + 1 + 1) = some zT := by simp [go_sem]
  have hs : w.heap.size + 1 + 1 < (((w.alloc (.cells (tcs u a).toArray 38)).alloc (.cells #[.int .i64 q, .bool p, .slice A n c] 75)).alloc (.cells zT.toArray 38)).heap.size := by simp
  have hB : Below w.heap.size w (((w.alloc (.cells (tcs u a).toArray 38)).alloc (.cells #[.int .i64 q, .bool p, .slice A n c] 75)).alloc (.cells zT.toArray 38)) := ((belowN w _).alloc (by simp) _).alloc (by simp; omega) _
  obtain ⟨vv, hvv⟩ : ∃ x, ((spnV u) : Tn) = x := ⟨_, rfl⟩
  have KD : ∀ W, Hid (Calls Try.prog 77 #[.agg (tcs u a).toArray, .agg #[.int .i64 q, .bool p, .slice A n c]] W (TPost vv a W)) := fun W => hide (hvv ▸ spin_any u a q p A n c W)
  rw [hvv]
  clear hvv o ht
  go_enter Try.func27, Try.ntmps27
  go_wp2_with fail
  go_step3
  go_wp2_with fail
  go_step3
  go_wp2_with fail
  generalize (((w.alloc (.cells (tcs u a).toArray 38)).alloc (.cells #[.int .i64 q, .bool p, .slice A n c] 75)).alloc (.cells zT.toArray 38)) = wz at *
  refine (chances_24 _).mono ?_
  rintro e w1 ⟨gb, rfl, kgb, hb1⟩
  replace B1 := boxOf_keep B1 hb1
  replace B2 := boxOf_keep B2 hb1
  replace B3 := boxOf_keep B3 hb1
  replace hs := Nat.lt_of_lt_of_le hs hb1.size
  replace hB := below_next hB hB.size hb1
  clear hb1
  go_wp2_with fail
  refine wp_loop_rounds 1 ?_
  rw [rounds_succ]
  go_wp2_with fail
  refine wp_loop_rounds 1 ?_
  rw [rounds_succ]
  go_wp2_with fail
  refine (KD _).out.mono ?_
  rintro e wr ⟨rfl, hb1⟩
  replace B3 := boxOf_keep (boxOf_keep B3 (belowN _ _)) hb1
  replace hs := Nat.lt_of_lt_of_le hs (show _ ≤ wr.heap.size by have := hb1.size; (try simp at this); omega)
  replace hB := below_next (hB.alloc hB.size _) (by have := hB.size; first | omega | (simp; done) | (simp; omega)) hb1
  clear hb1
  go_wp2
  (try rw [Exit.noGoto_ret])
  refine bodyPost_ret (v := .agg (tcs vv a).toArray) (results_box Try.results27 _ _ (w.heap.size + 1 + 1) _ _ rfl (by simp [go_sem, B3]) Try.underlying38 rfl (by kernel_rfl)) rfl ⟨rfl, ?_⟩
  repeat first | exact hB | refine below_sets _ (by omega) _ _ _ _ ?_ | refine Below.setCell ?_ (by first | omega | (simp; omega) | simp | (simp [size_sets]; omega)) _ | refine Below.alloc ?_ (by first | omega | (simp; omega) | simp | (simp [size_sets]; omega)) _ | exact Below.refl _ _
set_option maxRecDepth 100000 in
set_option maxHeartbeats 4000000 in
theorem goOn_19y (u : Tn) (a : TA) (o : TnOk u) (ht : 0 ≤ u.tt ∧ u.tt ≤ 15) (q : Int) (p : Bool) (A : Option Addr) (n c : Nat) (hp : u.d.ph = 19) (hot : (decide (1 ≤ q) && decide (q ≤ u.c.x0)) = true) (hoa : (q == u.tt + 1) = false) (w : World) : Calls Try.prog 27 #[.agg (tcs u a).toArray, .agg #[.int .i64 q, .bool p, .slice A n c]] w (TPost (aprV u q) a w) := by
  have B1 : boxOf (((w.alloc (.cells (tcs u a).toArray 38)).alloc (.cells #[.int .i64 q, .bool p, .slice A n c] 75)).alloc (.cells zT.toArray 38)) w.heap.size = some (tcs u a) := by simp [go_sem]
  have B2 : boxOf (((w.alloc (.cells (tcs u a).toArray 38)).alloc (.cells #[.int .i64 q, .bool p, .slice A n c] 75)).alloc (.cells zT.toArray 38)) (w.heap.size + 1) = some [.int .i64 q, .bool p, .slice A n c] := by simp [go_sem]
  have B3 : boxOf (((w.alloc (.cells (tcs u a).toArray 38)).alloc (.cells #[.int .i64 q, .bool p, .slice A n c] 75)).alloc (.cells zT.toArray 38)) (w.heap.size + 1 + 1) = some zT := by simp [go_sem]
  have hs : w.heap.size + 1 + 1 < (((w.alloc (.cells (tcs u a).toArray 38)).alloc (.cells #[.int .i64 q, .bool p, .slice A n c] 75)).alloc (.cells zT.toArray 38)).heap.size := by simp
  have hB : Below w.heap.size w (((w.alloc (.cells (tcs u a).toArray 38)).alloc (.cells #[.int .i64 q, .bool p, .slice A n c] 75)).alloc (.cells zT.toArray 38)) := ((belowN w _).alloc (by simp) _).alloc (by simp; omega) _
  have K_ofThread : ∀ W, Hid (Calls Try.prog 75 #[.agg (tcs u a).toArray, .agg #[.int .i64 q, .bool p, .slice A n c]] W (BoolPost true W)) := fun W => hide (by have := ofThread_any u a q p A n c W true hot; exact this)
  have K_ofAnother : ∀ W, Hid (Calls Try.prog 76 #[.agg (tcs u a).toArray, .agg #[.int .i64 q, .bool p, .slice A n c]] W (BoolPost true W)) := fun W => hide (by have := ofAnother_any u a q p A n c W ht; rw [hoa] at this; exact this)
  obtain ⟨vv, hvv⟩ : ∃ x, ((aprV u q) : Tn) = x := ⟨_, rfl⟩
  have KD : ∀ W, Hid (Calls Try.prog 74 #[.agg (tcs u a).toArray, .agg #[.int .i64 q, .bool p, .slice A n c]] W (TPost vv a W)) := fun W => hide (hvv ▸ approach_any u a q p A n c W)
  rw [hvv]
  clear hvv o ht hot hoa
  go_enter Try.func27, Try.ntmps27
  go_wp2_with fail
  go_step3
  go_wp2_with fail
  go_step3
  go_wp2_with fail
  generalize (((w.alloc (.cells (tcs u a).toArray 38)).alloc (.cells #[.int .i64 q, .bool p, .slice A n c] 75)).alloc (.cells zT.toArray 38)) = wz at *
  refine (chances_19 _).mono ?_
  rintro e w1 ⟨gb, c0, rfl, kgb, kc0, hb1⟩
  replace B1 := boxOf_keep B1 hb1
  replace B2 := boxOf_keep B2 hb1
  replace B3 := boxOf_keep B3 hb1
  replace hs := Nat.lt_of_lt_of_le hs hb1.size
  replace hB := below_next hB hB.size hb1
  clear hb1
  go_wp2_with fail
  refine wp_loop_rounds 2 ?_
  rw [rounds_succ]
  go_wp2_with fail
  refine wp_loop_rounds 3 ?_
  rw [rounds_succ]
  go_wp2_with fail
  refine (K_ofThread _).out.mono ?_
  rintro e w2 ⟨rfl, hb1⟩
  replace B1 := boxOf_keep (boxOf_keep B1 (belowN _ _)) hb1
  replace B2 := boxOf_keep (boxOf_keep B2 (belowN _ _)) hb1
  replace B3 := boxOf_keep (boxOf_keep B3 (belowN _ _)) hb1
  replace kgb := boxOf_keep (boxOf_keep kgb (belowN _ _)) hb1
  replace kc0 := boxOf_keep (boxOf_keep kc0 (belowN _ _)) hb1
  have kv0 := (box_newk hb1).1
  replace hs := Nat.lt_of_lt_of_le hs (show _ ≤ w2.heap.size by have := hb1.size; simp at this; omega)
  replace hB := below_next (hB.alloc hB.size _) (by have := hB.size; simp; omega) hb1
  clear hb1
  go_wp2_with fail
  rw [rounds_succ]
  go_wp2_with fail
  refine (K_ofAnother _).out.mono ?_
  rintro e w3 ⟨rfl, hb1⟩
  replace B1 := boxOf_keep B1 hb1
  replace B2 := boxOf_keep B2 hb1
  replace B3 := boxOf_keep B3 hb1
  replace kgb := boxOf_keep kgb hb1
  replace kc0 := boxOf_keep kc0 hb1
  replace kv0 := boxOf_keep kv0 hb1
  replace hs := Nat.lt_of_lt_of_le hs hb1.size
  replace hB := below_next hB hB.size hb1
  clear hb1
  go_wp2_with fail
  rw [rounds_succ]
  go_wp2_with fail
  refine (KD _).out.mono ?_
  rintro e wr ⟨rfl, hb1⟩
  replace B3 := boxOf_keep B3 hb1
  replace hs := Nat.lt_of_lt_of_le hs (show _ ≤ wr.heap.size by have := hb1.size; (try simp at this); omega)
  replace hB := below_next hB (by have := hB.size; first | omega | (simp; done) | (simp; omega)) hb1
  clear hb1
  go_wp2
  (try rw [Exit.noGoto_ret])
  refine bodyPost_ret (v := .agg (tcs vv a).toArray) (results_box Try.results27 _ _ (w.heap.size + 1 + 1) _ _ rfl (by simp [go_sem, B3]) Try.underlying38 rfl (by kernel_rfl)) rfl ⟨rfl, ?_⟩
  repeat first | exact hB | refine below_sets _ (by omega) _ _ _ _ ?_ | refine Below.setCell ?_ (by first | omega | (simp; omega) | simp | (simp [size_sets]; omega)) _ | refine Below.alloc ?_ (by first | omega | (simp; omega) | simp | (simp [size_sets]; omega)) _ | exact Below.refl _ _
set_option maxRecDepth 100000 in
set_option maxHeartbeats 4000000 in
theorem goOn_19n (u : Tn) (a : TA) (o : TnOk u) (ht : 0 ≤ u.tt ∧ u.tt ≤ 15) (q : Int) (p : Bool) (A : Option Addr) (n c : Nat) (hp : u.d.ph = 19) (hot : (decide (1 ≤ q) && decide (q ≤ u.c.x0)) = false) (w : World) : Calls Try.prog 27 #[.agg (tcs u a).toArray, .agg #[.int .i64 q, .bool p, .slice A n c]] w (TPost (spnV u) a w) := by
  have B1 : boxOf (((w.alloc (.cells (tcs u a).toArray 38)).alloc (.cells #[.int .i64 q, .bool p, .slice A n c] 75)).alloc (.cells zT.toArray 38)) w.heap.size = some (tcs u a) := by simp [go_sem]
  have B2 : boxOf (((w.alloc (.cells (tcs u a).toArray 38)).alloc (.cells #[.int .i64 q, .bool p, .slice A n c] 75)).alloc (.cells zT.toArray 38)) (w.heap.size + 1) = some [.int .i64 q, .bool p, .slice A n c] := by simp [go_sem]
  have B3 : boxOf (((w.alloc (.cells (tcs u a).toArray 38)).alloc (.cells #[.int .i64 q, .bool p, .slice A n c] 75)).alloc (.cells zT.toArray 38)) (w.heap.size + 1 + 1) = some zT := by simp [go_sem]
  have hs : w.heap.size + 1 + 1 < (((w.alloc (.cells (tcs u a).toArray 38)).alloc (.cells #[.int .i64 q, .bool p, .slice A n c] 75)).alloc (.cells zT.toArray 38)).heap.size := by simp
  have hB : Below w.heap.size w (((w.alloc (.cells (tcs u a).toArray 38)).alloc (.cells #[.int .i64 q, .bool p, .slice A n c] 75)).alloc (.cells zT.toArray 38)) := ((belowN w _).alloc (by simp) _).alloc (by simp; omega) _
  have K_ofThread : ∀ W, Hid (Calls Try.prog 75 #[.agg (tcs u a).toArray, .agg #[.int .i64 q, .bool p, .slice A n c]] W (BoolPost false W)) := fun W => hide (by have := ofThread_any u a q p A n c W false hot; exact this)
  obtain ⟨vv, hvv⟩ : ∃ x, ((spnV u) : Tn) = x := ⟨_, rfl⟩
  have KD : ∀ W, Hid (Calls Try.prog 77 #[.agg (tcs u a).toArray, .agg #[.int .i64 q, .bool p, .slice A n c]] W (TPost vv a W)) := fun W => hide (hvv ▸ spin_any u a q p A n c W)
  rw [hvv]
  clear hvv o ht hot
  go_enter Try.func27, Try.ntmps27
  go_wp2_with fail
  go_step3
  go_wp2_with fail
  go_step3
  go_wp2_with fail
  generalize (((w.alloc (.cells (tcs u a).toArray 38)).alloc (.cells #[.int .i64 q, .bool p, .slice A n c] 75)).alloc (.cells zT.toArray 38)) = wz at *
  refine (chances_19 _).mono ?_
  rintro e w1 ⟨gb, c0, rfl, kgb, kc0, hb1⟩
  replace B1 := boxOf_keep B1 hb1
  replace B2 := boxOf_keep B2 hb1
  replace B3 := boxOf_keep B3 hb1
  replace hs := Nat.lt_of_lt_of_le hs hb1.size
  replace hB := below_next hB hB.size hb1
  clear hb1
  go_wp2_with fail
  refine wp_loop_rounds 2 ?_
  rw [rounds_succ]
  go_wp2_with fail
  refine wp_loop_rounds 3 ?_
  rw [rounds_succ]
  go_wp2_with fail
  refine (K_ofThread _).out.mono ?_
  rintro e w2 ⟨rfl, hb1⟩
  replace B1 := boxOf_keep (boxOf_keep B1 (belowN _ _)) hb1
  replace B2 := boxOf_keep (boxOf_keep B2 (belowN _ _)) hb1
  replace B3 := boxOf_keep (boxOf_keep B3 (belowN _ _)) hb1
  replace kgb := boxOf_keep (boxOf_keep kgb (belowN _ _)) hb1
  replace kc0 := boxOf_keep (boxOf_keep kc0 (belowN _ _)) hb1
  have kv0 := (box_newk hb1).1
  replace hs := Nat.lt_of_lt_of_le hs (show _ ≤ w2.heap.size by have := hb1.size; simp at this; omega)
  replace hB := below_next (hB.alloc hB.size _) (by have := hB.size; simp; omega) hb1
  clear hb1
  go_wp2_with fail
  rw [rounds_succ]
  go_wp2_with fail
  refine wp_loop_rounds 1 ?_
  rw [rounds_succ]
  go_wp2_with fail
  refine (KD _).out.mono ?_
  rintro e wr ⟨rfl, hb1⟩
  replace B3 := boxOf_keep (boxOf_keep B3 (belowN _ _)) hb1
  replace hs := Nat.lt_of_lt_of_le hs (show _ ≤ wr.heap.size by have := hb1.size; (try simp at this); omega)
  replace hB := below_next (hB.alloc hB.size _) (by have := hB.size; first | omega | (simp; done) | (simp; omega)) hb1
  clear hb1
  go_wp2
  (try rw [Exit.noGoto_ret])
  refine bodyPost_ret (v := .agg (tcs vv a).toArray) (results_box Try.results27 _ _ (w.heap.size + 1 + 1) _ _ rfl (by simp [go_sem, B3]) Try.underlying38 rfl (by kernel_rfl)) rfl ⟨rfl, ?_⟩
  repeat first | exact hB | refine below_sets _ (by omega) _ _ _ _ ?_ | refine Below.setCell ?_ (by first | omega | (simp; omega) | simp | (simp [size_sets]; omega)) _ | refine Below.alloc ?_ (by first | omega | (simp; omega) | simp | (simp [size_sets]; omega)) _ | exact Below.refl _ _
set_option maxRecDepth 100000 in
set_option maxHeartbeats 4000000 in
theorem goOn_19m (u : Tn) (a : TA) (o : TnOk u) (ht : 0 ≤ u.tt ∧ u.tt ≤ 15) (q : Int) (p : Bool) (A : Option Addr) (n c : Nat) (hp : u.d.ph = 19) (hot : (decide (1 ≤ q) && decide (q ≤ u.c.x0)) = true) (hoa : (q == u.tt + 1) = true) (w : World) : Calls Try.prog 27 #[.agg (tcs u a).toArray, .agg #[.int .i64 q, .bool p, .slice A n c]] w (TPost (spnV u) a w) := by
  have B1 : boxOf (((w.alloc (.cells (tcs u a).toArray 38)).alloc (.cells #[.int .i64 q, .bool p, .slice A n c] 75)).alloc (.cells zT.toArray 38)) w.heap.size = some (tcs u a) := by simp [go_sem]
  have B2 : boxOf (((w.alloc (.cells (tcs u a).toArray 38)).alloc (.cells #[.int .i64 q, .bool p, .slice A n c] 75)).alloc (.cells zT.toArray 38)) (w.heap.size + 1) = some [.int .i64 q, .bool p, .slice A n c] := by simp [go_sem]
  have B3 : boxOf (((w.alloc (.cells (tcs u a).toArray 38)).alloc (.cells #[.int .i64 q, .bool p, .slice A n c] 75)).alloc (.cells zT.toArray 38)) (w.heap.size + 1 + 1) = some zT := by simp [go_sem]
  have hs : w.heap.size + 1 + 1 < (((w.alloc (.cells (tcs u a).toArray 38)).alloc (.cells #[.int .i64 q, .bool p, .slice A n c] 75)).alloc (.cells zT.toArray 38)).heap.size := by simp
  have hB : Below w.heap.size w (((w.alloc (.cells (tcs u a).toArray 38)).alloc (.cells #[.int .i64 q, .bool p, .slice A n c] 75)).alloc (.cells zT.toArray 38)) := ((belowN w _).alloc (by simp) _).alloc (by simp; omega) _
  have K_ofThread : ∀ W, Hid (Calls Try.prog 75 #[.agg (tcs u a).toArray, .agg #[.int .i64 q, .bool p, .slice A n c]] W (BoolPost true W)) := fun W => hide (by have := ofThread_any u a q p A n c W true hot; exact this)
  have K_ofAnother : ∀ W, Hid (Calls Try.prog 76 #[.agg (tcs u a).toArray, .agg #[.int .i64 q, .bool p, .slice A n c]] W (BoolPost false W)) := fun W => hide (by have := ofAnother_any u a q p A n c W ht; rw [hoa] at this; exact this)
  obtain ⟨vv, hvv⟩ : ∃ x, ((spnV u) : Tn) = x := ⟨_, rfl⟩
  have KD : ∀ W, Hid (Calls Try.prog 77 #[.agg (tcs u a).toArray, .agg #[.int .i64 q, .bool p, .slice A n c]] W (TPost vv a W)) := fun W => hide (hvv ▸ spin_any u a q p A n c W)
  rw [hvv]
  clear hvv o ht hot hoa
  go_enter Try.func27, Try.ntmps27
  go_wp2_with fail
  go_step3
  go_wp2_with fail
  go_step3
  go_wp2_with fail
  generalize (((w.alloc (.cells (tcs u a).toArray 38)).alloc (.cells #[.int .i64 q, .bool p, .slice A n c] 75)).alloc (.cells zT.toArray 38)) = wz at *
  refine (chances_19 _).mono ?_
  rintro e w1 ⟨gb, c0, rfl, kgb, kc0, hb1⟩
  replace B1 := boxOf_keep B1 hb1
  replace B2 := boxOf_keep B2 hb1
  replace B3 := boxOf_keep B3 hb1
  replace hs := Nat.lt_of_lt_of_le hs hb1.size
  replace hB := below_next hB hB.size hb1
  clear hb1
  go_wp2_with fail
  refine wp_loop_rounds 2 ?_
  rw [rounds_succ]
  go_wp2_with fail
  refine wp_loop_rounds 3 ?_
  rw [rounds_succ]
  go_wp2_with fail
  refine (K_ofThread _).out.mono ?_
  rintro e w2 ⟨rfl, hb1⟩
  replace B1 := boxOf_keep (boxOf_keep B1 (belowN _ _)) hb1
  replace B2 := boxOf_keep (boxOf_keep B2 (belowN _ _)) hb1
  replace B3 := boxOf_keep (boxOf_keep B3 (belowN _ _)) hb1
  replace kgb := boxOf_keep (boxOf_keep kgb (belowN _ _)) hb1
  replace kc0 := boxOf_keep (boxOf_keep kc0 (belowN _ _)) hb1
  have kv0 := (box_newk hb1).1
  replace hs := Nat.lt_of_lt_of_le hs (show _ ≤ w2.heap.size by have := hb1.size; simp at this; omega)
  replace hB := below_next (hB.alloc hB.size _) (by have := hB.size; simp; omega) hb1
  clear hb1
  go_wp2_with fail
  rw [rounds_succ]
  go_wp2_with fail
  refine (K_ofAnother _).out.mono ?_
  rintro e w3 ⟨rfl, hb1⟩
  replace B1 := boxOf_keep B1 hb1
  replace B2 := boxOf_keep B2 hb1
  replace B3 := boxOf_keep B3 hb1
  replace kgb := boxOf_keep kgb hb1
  replace kc0 := boxOf_keep kc0 hb1
  replace kv0 := boxOf_keep kv0 hb1
  replace hs := Nat.lt_of_lt_of_le hs hb1.size
  replace hB := below_next hB hB.size hb1
  clear hb1
  go_wp2_with fail
  rw [rounds_succ]
  go_wp2_with fail
  refine wp_loop_rounds 1 ?_
  rw [rounds_succ]
  go_wp2_with fail
  refine (KD _).out.mono ?_
  rintro e wr ⟨rfl, hb1⟩
  replace B3 := boxOf_keep (boxOf_keep B3 (belowN _ _)) hb1
  replace hs := Nat.lt_of_lt_of_le hs (show _ ≤ wr.heap.size by have := hb1.size; (try simp at this); omega)
  replace hB := below_next (hB.alloc hB.size _) (by have := hB.size; first | omega | (simp; done) | (simp; omega)) hb1
  clear hb1
  go_wp2
  (try rw [Exit.noGoto_ret])
  refine bodyPost_ret (v := .agg (tcs vv a).toArray) (results_box Try.results27 _ _ (w.heap.size + 1 + 1) _ _ rfl (by simp [go_sem, B3]) Try.underlying38 rfl (by kernel_rfl)) rfl ⟨rfl, ?_⟩
  repeat first | exact hB | refine below_sets _ (by omega) _ _ _ _ ?_ | refine Below.setCell ?_ (by first | omega | (simp; omega) | simp | (simp [size_sets]; omega)) _ | refine Below.alloc ?_ (by first | omega | (simp; omega) | simp | (simp [size_sets]; omega)) _ | exact Below.refl _ _
set_option maxRecDepth 100000 in
set_option maxHeartbeats 4000000 in
theorem goOn_20y (u : Tn) (a : TA) (o : TnOk u) (ht : 0 ≤ u.tt ∧ u.tt ≤ 15) (q : Int) (A : Option Addr) (n c : Nat) (hp : u.d.ph = 20) (w : World) : Calls Try.prog 27 #[.agg (tcs u a).toArray, .agg #[.int .i64 q, .bool true, .slice A n c]] w (TPost ({ u with d := { u.d with ph := 21 } } : Tn) a w) := by
  have B1 : boxOf (((w.alloc (.cells (tcs u a).toArray 38)).alloc (.cells #[.int .i64 q, .bool true, .slice A n c] 75)).alloc (.cells zT.toArray 38)) w.heap.size = some (tcs u a) := by simp [go_sem]
  have B2 : boxOf (((w.alloc (.cells (tcs u a).toArray 38)).alloc (.cells #[.int .i64 q, .bool true, .slice A n c] 75)).alloc (.cells zT.toArray 38)) (w.heap.size + 1) = some [.int .i64 q, .bool true, .slice A n c] := by simp [go_sem]
  have B3 : boxOf (((w.alloc (.cells (tcs u a).toArray 38)).alloc (.cells #[.int .i64 q, .bool true, .slice A n c] 75)).alloc (.cells zT.toArray 38)) (w.heap.size + 1 + 1) = some zT := by simp [go_sem]
  have hs : w.heap.size + 1 + 1 < (((w.alloc (.cells (tcs u a).toArray 38)).alloc (.cells #[.int .i64 q, .bool true, .slice A n c] 75)).alloc (.cells zT.toArray 38)).heap.size := by simp
  have hB : Below w.heap.size w (((w.alloc (.cells (tcs u a).toArray 38)).alloc (.cells #[.int .i64 q, .bool true, .slice A n c] 75)).alloc (.cells zT.toArray 38)) := ((belowN w _).alloc (by simp) _).alloc (by simp; omega) _
  have K_wasOpen : ∀ W, Hid (Calls Try.prog 78 #[.agg (tcs u a).toArray, .agg #[.int .i64 q, .bool true, .slice A n c]] W (BoolPost true W)) := fun W => hide (by have := wasOpen_any u a q true A n c W; exact this)
  obtain ⟨vv, hvv⟩ : ∃ x, (({ u with d := { u.d with ph := 21 } } : Tn) : Tn) = x := ⟨_, rfl⟩
  have KD : ∀ W, Hid (∀ g, boxOf W g = some [.int .i64 21] → Calls Try.prog 91 #[.agg (tcs u a).toArray, .agg #[.int .i64 q, .bool true, .slice A n c], .pointer (some ⟨g, 0, none⟩)] W (TPost vv a W)) := fun W => hide (fun g hg => hvv ▸ cto1_any u a q true A n c W 21 g hg)
  rw [hvv]
  clear hvv o ht
  go_enter Try.func27, Try.ntmps27
  go_wp2_with fail
  go_step3
  go_wp2_with fail
  go_step3
  go_wp2_with fail
  generalize (((w.alloc (.cells (tcs u a).toArray 38)).alloc (.cells #[.int .i64 q, .bool true, .slice A n c] 75)).alloc (.cells zT.toArray 38)) = wz at *
  refine (chances_20 _).mono ?_
  rintro e w1 ⟨gb, g0, c0, g1, rfl, kgb, kg0, kc0, kg1, hb1⟩
  replace B1 := boxOf_keep B1 hb1
  replace B2 := boxOf_keep B2 hb1
  replace B3 := boxOf_keep B3 hb1
  replace hs := Nat.lt_of_lt_of_le hs hb1.size
  replace hB := below_next hB hB.size hb1
  clear hb1
  go_wp2_with fail
  refine wp_loop_rounds 2 ?_
  rw [rounds_succ]
  go_wp2_with fail
  refine wp_loop_rounds 2 ?_
  rw [rounds_succ]
  go_wp2_with fail
  refine (K_wasOpen _).out.mono ?_
  rintro e w2 ⟨rfl, hb1⟩
  replace B1 := boxOf_keep (boxOf_keep B1 (belowN _ _)) hb1
  replace B2 := boxOf_keep (boxOf_keep B2 (belowN _ _)) hb1
  replace B3 := boxOf_keep (boxOf_keep B3 (belowN _ _)) hb1
  replace kgb := boxOf_keep (boxOf_keep kgb (belowN _ _)) hb1
  replace kg0 := boxOf_keep (boxOf_keep kg0 (belowN _ _)) hb1
  replace kc0 := boxOf_keep (boxOf_keep kc0 (belowN _ _)) hb1
  replace kg1 := boxOf_keep (boxOf_keep kg1 (belowN _ _)) hb1
  have kv0 := (box_newk hb1).1
  replace hs := Nat.lt_of_lt_of_le hs (show _ ≤ w2.heap.size by have := hb1.size; simp at this; omega)
  replace hB := below_next (hB.alloc hB.size _) (by have := hB.size; simp; omega) hb1
  clear hb1
  go_wp2_with fail
  rw [rounds_succ]
  go_wp2_with fail
  refine ((KD _).out _ kg0).mono ?_
  rintro e wr ⟨rfl, hb1⟩
  replace B3 := boxOf_keep B3 hb1
  replace hs := Nat.lt_of_lt_of_le hs (show _ ≤ wr.heap.size by have := hb1.size; (try simp at this); omega)
  replace hB := below_next hB (by have := hB.size; first | omega | (simp; done) | (simp; omega)) hb1
  clear hb1
  go_wp2
  (try rw [Exit.noGoto_ret])
  refine bodyPost_ret (v := .agg (tcs vv a).toArray) (results_box Try.results27 _ _ (w.heap.size + 1 + 1) _ _ rfl (by simp [go_sem, B3]) Try.underlying38 rfl (by kernel_rfl)) rfl ⟨rfl, ?_⟩
  repeat first | exact hB | refine below_sets _ (by omega) _ _ _ _ ?_ | refine Below.setCell ?_ (by first | omega | (simp; omega) | simp | (simp [size_sets]; omega)) _ | refine Below.alloc ?_ (by first | omega | (simp; omega) | simp | (simp [size_sets]; omega)) _ | exact Below.refl _ _
set_option maxRecDepth 100000 in
set_option maxHeartbeats 4000000 in
theorem goOn_20n (u : Tn) (a : TA) (o : TnOk u) (ht : 0 ≤ u.tt ∧ u.tt ≤ 15) (q : Int) (A : Option Addr) (n c : Nat) (hp : u.d.ph = 20) (w : World) : Calls Try.prog 27 #[.agg (tcs u a).toArray, .agg #[.int .i64 q, .bool false, .slice A n c]] w (TPost ({ u with d := { u.d with ph := 13 } } : Tn) a w) := by
  have B1 : boxOf (((w.alloc (.cells (tcs u a).toArray 38)).alloc (.cells #[.int .i64 q, .bool false, .slice A n c] 75)).alloc (.cells zT.toArray 38)) w.heap.size = some (tcs u a) := by simp [go_sem]
  have B2 : boxOf (((w.alloc (.cells (tcs u a).toArray 38)).alloc (.cells #[.int .i64 q, .bool false, .slice A n c] 75)).alloc (.cells zT.toArray 38)) (w.heap.size + 1) = some [.int .i64 q, .bool false, .slice A n c] := by simp [go_sem]
  have B3 : boxOf (((w.alloc (.cells (tcs u a).toArray 38)).alloc (.cells #[.int .i64 q, .bool false, .slice A n c] 75)).alloc (.cells zT.toArray 38)) (w.heap.size + 1 + 1) = some zT := by simp [go_sem]
  have hs : w.heap.size + 1 + 1 < (((w.alloc (.cells (tcs u a).toArray 38)).alloc (.cells #[.int .i64 q, .bool false, .slice A n c] 75)).alloc (.cells zT.toArray 38)).heap.size := by simp
  have hB : Below w.heap.size w (((w.alloc (.cells (tcs u a).toArray 38)).alloc (.cells #[.int .i64 q, .bool false, .slice A n c] 75)).alloc (.cells zT.toArray 38)) := ((belowN w _).alloc (by simp) _).alloc (by simp; omega) _
  have K_wasOpen : ∀ W, Hid (Calls Try.prog 78 #[.agg (tcs u a).toArray, .agg #[.int .i64 q, .bool false, .slice A n c]] W (BoolPost false W)) := fun W => hide (by have := wasOpen_any u a q false A n c W; exact this)
  obtain ⟨vv, hvv⟩ : ∃ x, (({ u with d := { u.d with ph := 13 } } : Tn) : Tn) = x := ⟨_, rfl⟩
  have KD : ∀ W, Hid (∀ g, boxOf W g = some [.int .i64 13] → Calls Try.prog 91 #[.agg (tcs u a).toArray, .agg #[.int .i64 q, .bool false, .slice A n c], .pointer (some ⟨g, 0, none⟩)] W (TPost vv a W)) := fun W => hide (fun g hg => hvv ▸ cto1_any u a q false A n c W 13 g hg)
  rw [hvv]
  clear hvv o ht
  go_enter Try.func27, Try.ntmps27
  go_wp2_with fail
  go_step3
  go_wp2_with fail
  go_step3
  go_wp2_with fail
  generalize (((w.alloc (.cells (tcs u a).toArray 38)).alloc (.cells #[.int .i64 q, .bool false, .slice A n c] 75)).alloc (.cells zT.toArray 38)) = wz at *
  refine (chances_20 _).mono ?_
  rintro e w1 ⟨gb, g0, c0, g1, rfl, kgb, kg0, kc0, kg1, hb1⟩
  replace B1 := boxOf_keep B1 hb1
  replace B2 := boxOf_keep B2 hb1
  replace B3 := boxOf_keep B3 hb1
  replace hs := Nat.lt_of_lt_of_le hs hb1.size
  replace hB := below_next hB hB.size hb1
  clear hb1
  go_wp2_with fail
  refine wp_loop_rounds 2 ?_
  rw [rounds_succ]
  go_wp2_with fail
  refine wp_loop_rounds 2 ?_
  rw [rounds_succ]
  go_wp2_with fail
  refine (K_wasOpen _).out.mono ?_
  rintro e w2 ⟨rfl, hb1⟩
  replace B1 := boxOf_keep (boxOf_keep B1 (belowN _ _)) hb1
  replace B2 := boxOf_keep (boxOf_keep B2 (belowN _ _)) hb1
  replace B3 := boxOf_keep (boxOf_keep B3 (belowN _ _)) hb1
  replace kgb := boxOf_keep (boxOf_keep kgb (belowN _ _)) hb1
  replace kg0 := boxOf_keep (boxOf_keep kg0 (belowN _ _)) hb1
  replace kc0 := boxOf_keep (boxOf_keep kc0 (belowN _ _)) hb1
  replace kg1 := boxOf_keep (boxOf_keep kg1 (belowN _ _)) hb1
  have kv0 := (box_newk hb1).1
  replace hs := Nat.lt_of_lt_of_le hs (show _ ≤ w2.heap.size by have := hb1.size; simp at this; omega)
  replace hB := below_next (hB.alloc hB.size _) (by have := hB.size; simp; omega) hb1
  clear hb1
  go_wp2_with fail
  rw [rounds_succ]
  go_wp2_with fail
  refine wp_loop_rounds 1 ?_
  rw [rounds_succ]
  go_wp2_with fail
  refine ((KD _).out _ (boxOf_keep kg1 (belowN _ _))).mono ?_
  rintro e wr ⟨rfl, hb1⟩
  replace B3 := boxOf_keep (boxOf_keep B3 (belowN _ _)) hb1
  replace hs := Nat.lt_of_lt_of_le hs (show _ ≤ wr.heap.size by have := hb1.size; (try simp at this); omega)
  replace hB := below_next (hB.alloc hB.size _) (by have := hB.size; first | omega | (simp; done) | (simp; omega)) hb1
  clear hb1
  go_wp2
  (try rw [Exit.noGoto_ret])
  refine bodyPost_ret (v := .agg (tcs vv a).toArray) (results_box Try.results27 _ _ (w.heap.size + 1 + 1) _ _ rfl (by simp [go_sem, B3]) Try.underlying38 rfl (by kernel_rfl)) rfl ⟨rfl, ?_⟩
  repeat first | exact hB | refine below_sets _ (by omega) _ _ _ _ ?_ | refine Below.setCell ?_ (by first | omega | (simp; omega) | simp | (simp [size_sets]; omega)) _ | refine Below.alloc ?_ (by first | omega | (simp; omega) | simp | (simp [size_sets]; omega)) _ | exact Below.refl _ _
set_option maxRecDepth 100000 in
set_option maxHeartbeats 4000000 in
theorem goOn_21y (u : Tn) (a : TA) (o : TnOk u) (ht : 0 ≤ u.tt ∧ u.tt ≤ 15) (q : Int) (A : Option Addr) (n c : Nat) (hp : u.d.ph = 21) (w : World) : Calls Try.prog 27 #[.agg (tcs u a).toArray, .agg #[.int .i64 q, .bool true, .slice A n c]] w (TPost ({ u with d := { u.d with ph := 22 } } : Tn) a w) := by
  have B1 : boxOf (((w.alloc (.cells (tcs u a).toArray 38)).alloc (.cells #[.int .i64 q, .bool true, .slice A n c] 75)).alloc (.cells zT.toArray 38)) w.heap.size = some (tcs u a) := by simp [go_sem]
  have B2 : boxOf (((w.alloc (.cells (tcs u a).toArray 38)).alloc (.cells #[.int .i64 q, .bool true, .slice A n c] 75)).alloc (.cells zT.toArray 38)) (w.heap.size + 1) = some [.int .i64 q, .bool true, .slice A n c] := by simp [go_sem]
  have B3 : boxOf (((w.alloc (.cells (tcs u a).toArray 38)).alloc (.cells #[.int .i64 q, .bool true, .slice A n c] 75)).alloc (.cells zT.toArray 38)) (w.heap.size + 1 + 1) = some zT := by simp [go_sem]
  have hs : w.heap.size + 1 + 1 < (((w.alloc (.cells (tcs u a).toArray 38)).alloc (.cells #[.int .i64 q, .bool true, .slice A n c] 75)).alloc (.cells zT.toArray 38)).heap.size := by simp
  have hB : Below w.heap.size w (((w.alloc (.cells (tcs u a).toArray 38)).alloc (.cells #[.int .i64 q, .bool true, .slice A n c] 75)).alloc (.cells zT.toArray 38)) := ((belowN w _).alloc (by simp) _).alloc (by simp; omega) _
  have K_wasOpen : ∀ W, Hid (Calls Try.prog 78 #[.agg (tcs u a).toArray, .agg #[.int .i64 q, .bool true, .slice A n c]] W (BoolPost true W)) := fun W => hide (by have := wasOpen_any u a q true A n c W; exact this)
  obtain ⟨vv, hvv⟩ : ∃ x, (({ u with d := { u.d with ph := 22 } } : Tn) : Tn) = x := ⟨_, rfl⟩
  have KD : ∀ W, Hid (∀ g, boxOf W g = some [.int .i64 22] → Calls Try.prog 91 #[.agg (tcs u a).toArray, .agg #[.int .i64 q, .bool true, .slice A n c], .pointer (some ⟨g, 0, none⟩)] W (TPost vv a W)) := fun W => hide (fun g hg => hvv ▸ cto1_any u a q true A n c W 22 g hg)
  rw [hvv]
  clear hvv o ht
  go_enter Try.func27, Try.ntmps27
  go_wp2_with fail
  go_step3
  go_wp2_with fail
  go_step3
  go_wp2_with fail
  generalize (((w.alloc (.cells (tcs u a).toArray 38)).alloc (.cells #[.int .i64 q, .bool true, .slice A n c] 75)).alloc (.cells zT.toArray 38)) = wz at *
  refine (chances_21 _).mono ?_
  rintro e w1 ⟨gb, g0, c0, g1, rfl, kgb, kg0, kc0, kg1, hb1⟩
  replace B1 := boxOf_keep B1 hb1
  replace B2 := boxOf_keep B2 hb1
  replace B3 := boxOf_keep B3 hb1
  replace hs := Nat.lt_of_lt_of_le hs hb1.size
  replace hB := below_next hB hB.size hb1
  clear hb1
  go_wp2_with fail
  refine wp_loop_rounds 2 ?_
  rw [rounds_succ]
  go_wp2_with fail
  refine wp_loop_rounds 2 ?_
  rw [rounds_succ]
  go_wp2_with fail
  refine (K_wasOpen _).out.mono ?_
  rintro e w2 ⟨rfl, hb1⟩
  replace B1 := boxOf_keep (boxOf_keep B1 (belowN _ _)) hb1
  replace B2 := boxOf_keep (boxOf_keep B2 (belowN _ _)) hb1
  replace B3 := boxOf_keep (boxOf_keep B3 (belowN _ _)) hb1
  replace kgb := boxOf_keep (boxOf_keep kgb (belowN _ _)) hb1
  replace kg0 := boxOf_keep (boxOf_keep kg0 (belowN _ _)) hb1
  replace kc0 := boxOf_keep (boxOf_keep kc0 (belowN _ _)) hb1
  replace kg1 := boxOf_keep (boxOf_keep kg1 (belowN _ _)) hb1
  have kv0 := (box_newk hb1).1
  replace hs := Nat.lt_of_lt_of_le hs (show _ ≤ w2.heap.size by have := hb1.size; simp at this; omega)
  replace hB := below_next (hB.alloc hB.size _) (by have := hB.size; simp; omega) hb1
  clear hb1
  go_wp2_with fail
  rw [rounds_succ]
  go_wp2_with fail
  refine ((KD _).out _ kg0).mono ?_
  rintro e wr ⟨rfl, hb1⟩
  replace B3 := boxOf_keep B3 hb1
  replace hs := Nat.lt_of_lt_of_le hs (show _ ≤ wr.heap.size by have := hb1.size; (try simp at this); omega)
  replace hB := below_next hB (by have := hB.size; first | omega | (simp; done) | (simp; omega)) hb1
  clear hb1
  go_wp2
  (try rw [Exit.noGoto_ret])
  refine bodyPost_ret (v := .agg (tcs vv a).toArray) (results_box Try.results27 _ _ (w.heap.size + 1 + 1) _ _ rfl (by simp [go_sem, B3]) Try.underlying38 rfl (by kernel_rfl)) rfl ⟨rfl, ?_⟩
  repeat first | exact hB | refine below_sets _ (by omega) _ _ _ _ ?_ | refine Below.setCell ?_ (by first | omega | (simp; omega) | simp | (simp [size_sets]; omega)) _ | refine Below.alloc ?_ (by first | omega | (simp; omega) | simp | (simp [size_sets]; omega)) _ | exact Below.refl _ _
set_option maxRecDepth 100000 in
set_option maxHeartbeats 4000000 in
theorem goOn_21n (u : Tn) (a : TA) (o : TnOk u) (ht : 0 ≤ u.tt ∧ u.tt ≤ 15) (q : Int) (A : Option Addr) (n c : Nat) (hp : u.d.ph = 21) (w : World) : Calls Try.prog 27 #[.agg (tcs u a).toArray, .agg #[.int .i64 q, .bool false, .slice A n c]] w (TPost ({ u with d := { u.d with ph := 24 } } : Tn) a w) := by
  have B1 : boxOf (((w.alloc (.cells (tcs u a).toArray 38)).alloc (.cells #[.int .i64 q, .bool false, .slice A n c] 75)).alloc (.cells zT.toArray 38)) w.heap.size = some (tcs u a) := by simp [go_sem]
  have B2 : boxOf (((w.alloc (.cells (tcs u a).toArray 38)).alloc (.cells #[.int .i64 q, .bool false, .slice A n c] 75)).alloc (.cells zT.toArray 38)) (w.heap.size + 1) = some [.int .i64 q, .bool false, .slice A n c] := by simp [go_sem]
  have B3 : boxOf (((w.alloc (.cells (tcs u a).toArray 38)).alloc (.cells #[.int .i64 q, .bool false, .slice A n c] 75)).alloc (.cells zT.toArray 38)) (w.heap.size + 1 + 1) = some zT := by simp [go_sem]
  have hs : w.heap.size + 1 + 1 < (((w.alloc (.cells (tcs u a).toArray 38)).alloc (.cells #[.int .i64 q, .bool false, .slice A n c] 75)).alloc (.cells zT.toArray 38)).heap.size := by simp
  have hB : Below w.heap.size w (((w.alloc (.cells (tcs u a).toArray 38)).alloc (.cells #[.int .i64 q, .bool false, .slice A n c] 75)).alloc (.cells zT.toArray 38)) := ((belowN w _).alloc (by simp) _).alloc (by simp; omega) _
  have K_wasOpen : ∀ W, Hid (Calls Try.prog 78 #[.agg (tcs u a).toArray, .agg #[.int .i64 q, .bool false, .slice A n c]] W (BoolPost false W)) := fun W => hide (by have := wasOpen_any u a q false A n c W; exact this)
  obtain ⟨vv, hvv⟩ : ∃ x, (({ u with d := { u.d with ph := 24 } } : Tn) : Tn) = x := ⟨_, rfl⟩
  have KD : ∀ W, Hid (∀ g, boxOf W g = some [.int .i64 24] → Calls Try.prog 91 #[.agg (tcs u a).toArray, .agg #[.int .i64 q, .bool false, .slice A n c], .pointer (some ⟨g, 0, none⟩)] W (TPost vv a W)) := fun W => hide (fun g hg => hvv ▸ cto1_any u a q false A n c W 24 g hg)
  rw [hvv]
  clear hvv o ht
  go_enter Try.func27, Try.ntmps27
  go_wp2_with fail
  go_step3
  go_wp2_with fail
  go_step3
  go_wp2_with fail
  generalize (((w.alloc (.cells (tcs u a).toArray 38)).alloc (.cells #[.int .i64 q, .bool false, .slice A n c] 75)).alloc (.cells zT.toArray 38)) = wz at *
  refine (chances_21 _).mono ?_
  rintro e w1 ⟨gb, g0, c0, g1, rfl, kgb, kg0, kc0, kg1, hb1⟩
  replace B1 := boxOf_keep B1 hb1
  replace B2 := boxOf_keep B2 hb1
  replace B3 := boxOf_keep B3 hb1
  replace hs := Nat.lt_of_lt_of_le hs hb1.size
  replace hB := below_next hB hB.size hb1
  clear hb1
  go_wp2_with fail
  refine wp_loop_rounds 2 ?_
  rw [rounds_succ]
  go_wp2_with fail
  refine wp_loop_rounds 2 ?_
  rw [rounds_succ]
  go_wp2_with fail
  refine (K_wasOpen _).out.mono ?_
  rintro e w2 ⟨rfl, hb1⟩
  replace B1 := boxOf_keep (boxOf_keep B1 (belowN _ _)) hb1
  replace B2 := boxOf_keep (boxOf_keep B2 (belowN _ _)) hb1
  replace B3 := boxOf_keep (boxOf_keep B3 (belowN _ _)) hb1
  replace kgb := boxOf_keep (boxOf_keep kgb (belowN _ _)) hb1
  replace kg0 := boxOf_keep (boxOf_keep kg0 (belowN _ _)) hb1
  replace kc0 := boxOf_keep (boxOf_keep kc0 (belowN _ _)) hb1
  replace kg1 := boxOf_keep (boxOf_keep kg1 (belowN _ _)) hb1
  have kv0 := (box_newk hb1).1
  replace hs := Nat.lt_of_lt_of_le hs (show _ ≤ w2.heap.size by have := hb1.size; simp at this; omega)
  replace hB := below_next (hB.alloc hB.size _) (by have := hB.size; simp; omega) hb1
  clear hb1
  go_wp2_with fail
  rw [rounds_succ]
  go_wp2_with fail
  refine wp_loop_rounds 1 ?_
  rw [rounds_succ]
  go_wp2_with fail
  refine ((KD _).out _ (boxOf_keep kg1 (belowN _ _))).mono ?_
  rintro e wr ⟨rfl, hb1⟩
  replace B3 := boxOf_keep (boxOf_keep B3 (belowN _ _)) hb1
  replace hs := Nat.lt_of_lt_of_le hs (show _ ≤ wr.heap.size by have := hb1.size; (try simp at this); omega)
  replace hB := below_next (hB.alloc hB.size _) (by have := hB.size; first | omega | (simp; done) | (simp; omega)) hb1
  clear hb1
  go_wp2
  (try rw [Exit.noGoto_ret])
  refine bodyPost_ret (v := .agg (tcs vv a).toArray) (results_box Try.results27 _ _ (w.heap.size + 1 + 1) _ _ rfl (by simp [go_sem, B3]) Try.underlying38 rfl (by kernel_rfl)) rfl ⟨rfl, ?_⟩
  repeat first | exact hB | refine below_sets _ (by omega) _ _ _ _ ?_ | refine Below.setCell ?_ (by first | omega | (simp; omega) | simp | (simp [size_sets]; omega)) _ | refine Below.alloc ?_ (by first | omega | (simp; omega) | simp | (simp [size_sets]; omega)) _ | exact Below.refl _ _
set_option maxRecDepth 100000 in
set_option maxHeartbeats 4000000 in
theorem goOn_26y (u : Tn) (a : TA) (o : TnOk u) (ht : 0 ≤ u.tt ∧ u.tt ≤ 15) (q : Int) (A : Option Addr) (n c : Nat) (hp : u.d.ph = 26) (w : World) : Calls Try.prog 27 #[.agg (tcs u a).toArray, .agg #[.int .i64 q, .bool true, .slice A n c]] w (TPost (leaV u) a w) := by
  have B1 : boxOf (((w.alloc (.cells (tcs u a).toArray 38)).alloc (.cells #[.int .i64 q, .bool true, .slice A n c] 75)).alloc (.cells zT.toArray 38)) w.heap.size = some (tcs u a) := by simp [go_sem]
  have B2 : boxOf (((w.alloc (.cells (tcs u a).toArray 38)).alloc (.cells #[.int .i64 q, .bool true, .slice A n c] 75)).alloc (.cells zT.toArray 38)) (w.heap.size + 1) = some [.int .i64 q, .bool true, .slice A n c] := by simp [go_sem]
  have B3 : boxOf (((w.alloc (.cells (tcs u a).toArray 38)).alloc (.cells #[.int .i64 q, .bool true, .slice A n c] 75)).alloc (.cells zT.toArray 38)) (w.heap.size + 1 + 1) = some zT := by simp [go_sem]
  have hs : w.heap.size + 1 + 1 < (((w.alloc (.cells (tcs u a).toArray 38)).alloc (.cells #[.int .i64 q, .bool true, .slice A n c] 75)).alloc (.cells zT.toArray 38)).heap.size := by simp
  have hB : Below w.heap.size w (((w.alloc (.cells (tcs u a).toArray 38)).alloc (.cells #[.int .i64 q, .bool true, .slice A n c] 75)).alloc (.cells zT.toArray 38)) := ((belowN w _).alloc (by simp) _).alloc (by simp; omega) _
  have K_wasOpen : ∀ W, Hid (Calls Try.prog 78 #[.agg (tcs u a).toArray, .agg #[.int .i64 q, .bool true, .slice A n c]] W (BoolPost true W)) := fun W => hide (by have := wasOpen_any u a q true A n c W; exact this)
  obtain ⟨vv, hvv⟩ : ∃ x, ((leaV u) : Tn) = x := ⟨_, rfl⟩
  have KD : ∀ W, Hid (Calls Try.prog 83 #[.agg (tcs u a).toArray, .agg #[.int .i64 q, .bool true, .slice A n c]] W (TPost vv a W)) := fun W => hide (hvv ▸ leave_any u a q true A n c W o)
  rw [hvv]
  clear hvv o ht
  go_enter Try.func27, Try.ntmps27
  go_wp2_with fail
  go_step3
  go_wp2_with fail
  go_step3
  go_wp2_with fail
  generalize (((w.alloc (.cells (tcs u a).toArray 38)).alloc (.cells #[.int .i64 q, .bool true, .slice A n c] 75)).alloc (.cells zT.toArray 38)) = wz at *
  refine (chances_26 _).mono ?_
  rintro e w1 ⟨gb, c0, g1, rfl, kgb, kc0, kg1, hb1⟩
  replace B1 := boxOf_keep B1 hb1
  replace B2 := boxOf_keep B2 hb1
  replace B3 := boxOf_keep B3 hb1
  replace hs := Nat.lt_of_lt_of_le hs hb1.size
  replace hB := below_next hB hB.size hb1
  clear hb1
  go_wp2_with fail
  refine wp_loop_rounds 2 ?_
  rw [rounds_succ]
  go_wp2_with fail
  refine wp_loop_rounds 2 ?_
  rw [rounds_succ]
  go_wp2_with fail
  refine (K_wasOpen _).out.mono ?_
  rintro e w2 ⟨rfl, hb1⟩
  replace B1 := boxOf_keep (boxOf_keep B1 (belowN _ _)) hb1
  replace B2 := boxOf_keep (boxOf_keep B2 (belowN _ _)) hb1
  replace B3 := boxOf_keep (boxOf_keep B3 (belowN _ _)) hb1
  replace kgb := boxOf_keep (boxOf_keep kgb (belowN _ _)) hb1
  replace kc0 := boxOf_keep (boxOf_keep kc0 (belowN _ _)) hb1
  replace kg1 := boxOf_keep (boxOf_keep kg1 (belowN _ _)) hb1
  have kv0 := (box_newk hb1).1
  replace hs := Nat.lt_of_lt_of_le hs (show _ ≤ w2.heap.size by have := hb1.size; simp at this; omega)
  replace hB := below_next (hB.alloc hB.size _) (by have := hB.size; simp; omega) hb1
  clear hb1
  go_wp2_with fail
  rw [rounds_succ]
  go_wp2_with fail
  refine (KD _).out.mono ?_
  rintro e wr ⟨rfl, hb1⟩
  replace B3 := boxOf_keep B3 hb1
  replace hs := Nat.lt_of_lt_of_le hs (show _ ≤ wr.heap.size by have := hb1.size; (try simp at this); omega)
  replace hB := below_next hB (by have := hB.size; first | omega | (simp; done) | (simp; omega)) hb1
  clear hb1
  go_wp2
  (try rw [Exit.noGoto_ret])
  refine bodyPost_ret (v := .agg (tcs vv a).toArray) (results_box Try.results27 _ _ (w.heap.size + 1 + 1) _ _ rfl (by simp [go_sem, B3]) Try.underlying38 rfl (by kernel_rfl)) rfl ⟨rfl, ?_⟩
  repeat first | exact hB | refine below_sets _ (by omega) _ _ _ _ ?_ | refine Below.setCell ?_ (by first | omega | (simp; omega) | simp | (simp [size_sets]; omega)) _ | refine Below.alloc ?_ (by first | omega | (simp; omega) | simp | (simp [size_sets]; omega)) _ | exact Below.refl _ _
set_option maxRecDepth 100000 in
set_option maxHeartbeats 4000000 in
theorem goOn_26n (u : Tn) (a : TA) (o : TnOk u) (ht : 0 ≤ u.tt ∧ u.tt ≤ 15) (q : Int) (A : Option Addr) (n c : Nat) (hp : u.d.ph = 26) (w : World) : Calls Try.prog 27 #[.agg (tcs u a).toArray, .agg #[.int .i64 q, .bool false, .slice A n c]] w (TPost ({ u with d := { u.d with ph := 13 } } : Tn) a w) := by
  have B1 : boxOf (((w.alloc (.cells (tcs u a).toArray 38)).alloc (.cells #[.int .i64 q, .bool false, .slice A n c] 75)).alloc (.cells zT.toArray 38)) w.heap.size = some (tcs u a) := by simp [go_sem]
  have B2 : boxOf (((w.alloc (.cells (tcs u a).toArray 38)).alloc (.cells #[.int .i64 q, .bool false, .slice A n c] 75)).alloc (.cells zT.toArray 38)) (w.heap.size + 1) = some [.int .i64 q, .bool false, .slice A n c] := by simp [go_sem]
  have B3 : boxOf (((w.alloc (.cells (tcs u a).toArray 38)).alloc (.cells #[.int .i64 q, .bool false, .slice A n c] 75)).alloc (.cells zT.toArray 38)) (w.heap.size + 1 + 1) = some zT := by simp [go_sem]
  have hs : w.heap.size + 1 + 1 < (((w.alloc (.cells (tcs u a).toArray 38)).alloc (.cells #[.int .i64 q, .bool false, .slice A n c] 75)).alloc (.cells zT.toArray 38)).heap.size := by simp
  have hB : Below w.heap.size w (((w.alloc (.cells (tcs u a).toArray 38)).alloc (.cells #[.int .i64 q, .bool false, .slice A n c] 75)).alloc (.cells zT.toArray 38)) := ((belowN w _).alloc (by simp) _).alloc (by simp; omega) _
  have K_wasOpen : ∀ W, Hid (Calls Try.prog 78 #[.agg (tcs u a).toArray, .agg #[.int .i64 q, .bool false, .slice A n c]] W (BoolPost false W)) := fun W => hide (by have := wasOpen_any u a q false A n c W; exact this)
  obtain ⟨vv, hvv⟩ : ∃ x, (({ u with d := { u.d with ph := 13 } } : Tn) : Tn) = x := ⟨_, rfl⟩
  have KD : ∀ W, Hid (∀ g, boxOf W g = some [.int .i64 13] → Calls Try.prog 91 #[.agg (tcs u a).toArray, .agg #[.int .i64 q, .bool false, .slice A n c], .pointer (some ⟨g, 0, none⟩)] W (TPost vv a W)) := fun W => hide (fun g hg => hvv ▸ cto1_any u a q false A n c W 13 g hg)
  rw [hvv]
  clear hvv o ht
  go_enter Try.func27, Try.ntmps27
  go_wp2_with fail
  go_step3
  go_wp2_with fail
  go_step3
  go_wp2_with fail
  generalize (((w.alloc (.cells (tcs u a).toArray 38)).alloc (.cells #[.int .i64 q, .bool false, .slice A n c] 75)).alloc (.cells zT.toArray 38)) = wz at *
  refine (chances_26 _).mono ?_
  rintro e w1 ⟨gb, c0, g1, rfl, kgb, kc0, kg1, hb1⟩
  replace B1 := boxOf_keep B1 hb1
  replace B2 := boxOf_keep B2 hb1
  replace B3 := boxOf_keep B3 hb1
  replace hs := Nat.lt_of_lt_of_le hs hb1.size
  replace hB := below_next hB hB.size hb1
  clear hb1
  go_wp2_with fail
  refine wp_loop_rounds 2 ?_
  rw [rounds_succ]
  go_wp2_with fail
  refine wp_loop_rounds 2 ?_
  rw [rounds_succ]
  go_wp2_with fail
  refine (K_wasOpen _).out.mono ?_
  rintro e w2 ⟨rfl, hb1⟩
  replace B1 := boxOf_keep (boxOf_keep B1 (belowN _ _)) hb1
  replace B2 := boxOf_keep (boxOf_keep B2 (belowN _ _)) hb1
  replace B3 := boxOf_keep (boxOf_keep B3 (belowN _ _)) hb1
  replace kgb := boxOf_keep (boxOf_keep kgb (belowN _ _)) hb1
  replace kc0 := boxOf_keep (boxOf_keep kc0 (belowN _ _)) hb1
  replace kg1 := boxOf_keep (boxOf_keep kg1 (belowN _ _)) hb1
  have kv0 := (box_newk hb1).1
  replace hs := Nat.lt_of_lt_of_le hs (show _ ≤ w2.heap.size by have := hb1.size; simp at this; omega)
  replace hB := below_next (hB.alloc hB.size _) (by have := hB.size; simp; omega) hb1
  clear hb1
  go_wp2_with fail
  rw [rounds_succ]
  go_wp2_with fail
  refine wp_loop_rounds 1 ?_
  rw [rounds_succ]
  go_wp2_with fail
  refine ((KD _).out _ (boxOf_keep kg1 (belowN _ _))).mono ?_
  rintro e wr ⟨rfl, hb1⟩
  replace B3 := boxOf_keep (boxOf_keep B3 (belowN _ _)) hb1
  replace hs := Nat.lt_of_lt_of_le hs (show _ ≤ wr.heap.size by have := hb1.size; (try simp at this); omega)
  replace hB := below_next (hB.alloc hB.size _) (by have := hB.size; first | omega | (simp; done) | (simp; omega)) hb1
  clear hb1
  go_wp2
  (try rw [Exit.noGoto_ret])
  refine bodyPost_ret (v := .agg (tcs vv a).toArray) (results_box Try.results27 _ _ (w.heap.size + 1 + 1) _ _ rfl (by simp [go_sem, B3]) Try.underlying38 rfl (by kernel_rfl)) rfl ⟨rfl, ?_⟩
  repeat first | exact hB | refine below_sets _ (by omega) _ _ _ _ ?_ | refine Below.setCell ?_ (by first | omega | (simp; omega) | simp | (simp [size_sets]; omega)) _ | refine Below.alloc ?_ (by first | omega | (simp; omega) | simp | (simp [size_sets]; omega)) _ | exact Below.refl _ _
set_option maxRecDepth 100000 in
set_option maxHeartbeats 4000000 in
theorem goOn_23a (u : Tn) (a : TA) (o : TnOk u) (ht : 0 ≤ u.tt ∧ u.tt ≤ 15) (q : Int) (A : Option Addr) (n c : Nat) (hp : u.d.ph = 23) (hll : decide (1 ≤ u.d.lf) = true) (hlt : lateB u.d.un u.now = false) (w : World) : Calls Try.prog 27 #[.agg (tcs u a).toArray, .agg #[.int .i64 q, .bool true, .slice A n c]] w (TPost (spoV u) a w) := by
  have B1 : boxOf (((w.alloc (.cells (tcs u a).toArray 38)).alloc (.cells #[.int .i64 q, .bool true, .slice A n c] 75)).alloc (.cells zT.toArray 38)) w.heap.size = some (tcs u a) := by simp [go_sem]
  have B2 : boxOf (((w.alloc (.cells (tcs u a).toArray 38)).alloc (.cells #[.int .i64 q, .bool true, .slice A n c] 75)).alloc (.cells zT.toArray 38)) (w.heap.size + 1) = some [.int .i64 q, .bool true, .slice A n c] := by simp [go_sem]
  have B3 : boxOf (((w.alloc (.cells (tcs u a).toArray 38)).alloc (.cells #[.int .i64 q, .bool true, .slice A n c] 75)).alloc (.cells zT.toArray 38)) (w.heap.size + 1 + 1) = some zT := by simp [go_sem]
  have hs : w.heap.size + 1 + 1 < (((w.alloc (.cells (tcs u a).toArray 38)).alloc (.cells #[.int .i64 q, .bool true, .slice A n c] 75)).alloc (.cells zT.toArray 38)).heap.size := by simp
  have hB : Below w.heap.size w (((w.alloc (.cells (tcs u a).toArray 38)).alloc (.cells #[.int .i64 q, .bool true, .slice A n c] 75)).alloc (.cells zT.toArray 38)) := ((belowN w _).alloc (by simp) _).alloc (by simp; omega) _
  have K_wasOpen : ∀ W, Hid (Calls Try.prog 78 #[.agg (tcs u a).toArray, .agg #[.int .i64 q, .bool true, .slice A n c]] W (BoolPost true W)) := fun W => hide (by have := wasOpen_any u a q true A n c W; exact this)
  have K_looksLeft : ∀ W, Hid (Calls Try.prog 81 #[.agg (tcs u a).toArray, .agg #[.int .i64 q, .bool true, .slice A n c]] W (BoolPost true W)) := fun W => hide (by have := looksLeft_any u a q true A n c W true hll; exact this)
  have K_inTime : ∀ W, Hid (Calls Try.prog 82 #[.agg (tcs u a).toArray, .agg #[.int .i64 q, .bool true, .slice A n c]] W (BoolPost true W)) := fun W => hide (by have := inTime_any u a q true A n c W; rw [hlt] at this; exact this)
  obtain ⟨vv, hvv⟩ : ∃ x, ((spoV u) : Tn) = x := ⟨_, rfl⟩
  have KD : ∀ W, Hid (Calls Try.prog 80 #[.agg (tcs u a).toArray, .agg #[.int .i64 q, .bool true, .slice A n c]] W (TPost vv a W)) := fun W => hide (hvv ▸ spinOn_any u a q true A n c W)
  rw [hvv]
  clear hvv o ht hll hlt
  go_enter Try.func27, Try.ntmps27
  go_wp2_with fail
  go_step3
  go_wp2_with fail
  go_step3
  go_wp2_with fail
  generalize (((w.alloc (.cells (tcs u a).toArray 38)).alloc (.cells #[.int .i64 q, .bool true, .slice A n c] 75)).alloc (.cells zT.toArray 38)) = wz at *
  refine (chances_23 _).mono ?_
  rintro e w1 ⟨gb, c0, g1, c1, g2, rfl, kgb, kc0, kg1, kc1, kg2, hb1⟩
  replace B1 := boxOf_keep B1 hb1
  replace B2 := boxOf_keep B2 hb1
  replace B3 := boxOf_keep B3 hb1
  replace hs := Nat.lt_of_lt_of_le hs hb1.size
  replace hB := below_next hB hB.size hb1
  clear hb1
  go_wp2_with fail
  refine wp_loop_rounds 3 ?_
  rw [rounds_succ]
  go_wp2_with fail
  refine wp_loop_rounds 4 ?_
  rw [rounds_succ]
  go_wp2_with fail
  refine (K_wasOpen _).out.mono ?_
  rintro e w2 ⟨rfl, hb1⟩
  replace B1 := boxOf_keep (boxOf_keep B1 (belowN _ _)) hb1
  replace B2 := boxOf_keep (boxOf_keep B2 (belowN _ _)) hb1
  replace B3 := boxOf_keep (boxOf_keep B3 (belowN _ _)) hb1
  replace kgb := boxOf_keep (boxOf_keep kgb (belowN _ _)) hb1
  replace kc0 := boxOf_keep (boxOf_keep kc0 (belowN _ _)) hb1
  replace kg1 := boxOf_keep (boxOf_keep kg1 (belowN _ _)) hb1
  replace kc1 := boxOf_keep (boxOf_keep kc1 (belowN _ _)) hb1
  replace kg2 := boxOf_keep (boxOf_keep kg2 (belowN _ _)) hb1
  have kv0 := (box_newk hb1).1
  replace hs := Nat.lt_of_lt_of_le hs (show _ ≤ w2.heap.size by have := hb1.size; simp at this; omega)
  replace hB := below_next (hB.alloc hB.size _) (by have := hB.size; simp; omega) hb1
  clear hb1
  go_wp2_with fail
  rw [rounds_succ]
  go_wp2_with fail
  refine (K_looksLeft _).out.mono ?_
  rintro e w3 ⟨rfl, hb1⟩
  replace B1 := boxOf_keep B1 hb1
  replace B2 := boxOf_keep B2 hb1
  replace B3 := boxOf_keep B3 hb1
  replace kgb := boxOf_keep kgb hb1
  replace kc0 := boxOf_keep kc0 hb1
  replace kg1 := boxOf_keep kg1 hb1
  replace kc1 := boxOf_keep kc1 hb1
  replace kg2 := boxOf_keep kg2 hb1
  replace kv0 := boxOf_keep kv0 hb1
  replace hs := Nat.lt_of_lt_of_le hs hb1.size
  replace hB := below_next hB hB.size hb1
  clear hb1
  go_wp2_with fail
  rw [rounds_succ]
  go_wp2_with fail
  refine (K_inTime _).out.mono ?_
  rintro e w4 ⟨rfl, hb1⟩
  replace B1 := boxOf_keep B1 hb1
  replace B2 := boxOf_keep B2 hb1
  replace B3 := boxOf_keep B3 hb1
  replace kgb := boxOf_keep kgb hb1
  replace kc0 := boxOf_keep kc0 hb1
  replace kg1 := boxOf_keep kg1 hb1
  replace kc1 := boxOf_keep kc1 hb1
  replace kg2 := boxOf_keep kg2 hb1
  replace kv0 := boxOf_keep kv0 hb1
  replace hs := Nat.lt_of_lt_of_le hs hb1.size
  replace hB := below_next hB hB.size hb1
  clear hb1
  go_wp2_with fail
  rw [rounds_succ]
  go_wp2_with fail
  refine (KD _).out.mono ?_
  rintro e wr ⟨rfl, hb1⟩
  replace B3 := boxOf_keep B3 hb1
  replace hs := Nat.lt_of_lt_of_le hs (show _ ≤ wr.heap.size by have := hb1.size; (try simp at this); omega)
  replace hB := below_next hB (by have := hB.size; first | omega | (simp; done) | (simp; omega)) hb1
  clear hb1
  go_wp2
  (try rw [Exit.noGoto_ret])
  refine bodyPost_ret (v := .agg (tcs vv a).toArray) (results_box Try.results27 _ _ (w.heap.size + 1 + 1) _ _ rfl (by simp [go_sem, B3]) Try.underlying38 rfl (by kernel_rfl)) rfl ⟨rfl, ?_⟩
  repeat first | exact hB | refine below_sets _ (by omega) _ _ _ _ ?_ | refine Below.setCell ?_ (by first | omega | (simp; omega) | simp | (simp [size_sets]; omega)) _ | refine Below.alloc ?_ (by first | omega | (simp; omega) | simp | (simp [size_sets]; omega)) _ | exact Below.refl _ _
set_option maxRecDepth 100000 in
set_option maxHeartbeats 4000000 in
theorem goOn_23b (u : Tn) (a : TA) (o : TnOk u) (ht : 0 ≤ u.tt ∧ u.tt ≤ 15) (q : Int) (A : Option Addr) (n c : Nat) (hp : u.d.ph = 23) (hll : decide (1 ≤ u.d.lf) = false) (w : World) : Calls Try.prog 27 #[.agg (tcs u a).toArray, .agg #[.int .i64 q, .bool true, .slice A n c]] w (TPost ({ u with d := { u.d with ph := 26 } } : Tn) a w) := by
  have B1 : boxOf (((w.alloc (.cells (tcs u a).toArray 38)).alloc (.cells #[.int .i64 q, .bool true, .slice A n c] 75)).alloc (.cells zT.toArray 38)) w.heap.size = some (tcs u a) := by simp [go_sem]
  have B2 : boxOf (((w.alloc (.cells (tcs u a).toArray 38)).alloc (.cells #[.int .i64 q, .bool true, .slice A n c] 75)).alloc (.cells zT.toArray 38)) (w.heap.size + 1) = some [.int .i64 q, .bool true, .slice A n c] := by simp [go_sem]
  have B3 : boxOf (((w.alloc (.cells (tcs u a).toArray 38)).alloc (.cells #[.int .i64 q, .bool true, .slice A n c] 75)).alloc (.cells zT.toArray 38)) (w.heap.size + 1 + 1) = some zT := by simp [go_sem]
  have hs : w.heap.size + 1 + 1 < (((w.alloc (.cells (tcs u a).toArray 38)).alloc (.cells #[.int .i64 q, .bool true, .slice A n c] 75)).alloc (.cells zT.toArray 38)).heap.size := by simp
  have hB : Below w.heap.size w (((w.alloc (.cells (tcs u a).toArray 38)).alloc (.cells #[.int .i64 q, .bool true, .slice A n c] 75)).alloc (.cells zT.toArray 38)) := ((belowN w _).alloc (by simp) _).alloc (by simp; omega) _
  have K_wasOpen : ∀ W, Hid (Calls Try.prog 78 #[.agg (tcs u a).toArray, .agg #[.int .i64 q, .bool true, .slice A n c]] W (BoolPost true W)) := fun W => hide (by have := wasOpen_any u a q true A n c W; exact this)
  have K_looksLeft : ∀ W, Hid (Calls Try.prog 81 #[.agg (tcs u a).toArray, .agg #[.int .i64 q, .bool true, .slice A n c]] W (BoolPost false W)) := fun W => hide (by have := looksLeft_any u a q true A n c W false hll; exact this)
  obtain ⟨vv, hvv⟩ : ∃ x, (({ u with d := { u.d with ph := 26 } } : Tn) : Tn) = x := ⟨_, rfl⟩
  have KD : ∀ W, Hid (∀ g, boxOf W g = some [.int .i64 26] → Calls Try.prog 91 #[.agg (tcs u a).toArray, .agg #[.int .i64 q, .bool true, .slice A n c], .pointer (some ⟨g, 0, none⟩)] W (TPost vv a W)) := fun W => hide (fun g hg => hvv ▸ cto1_any u a q true A n c W 26 g hg)
  rw [hvv]
  clear hvv o ht hll
  go_enter Try.func27, Try.ntmps27
  go_wp2_with fail
  go_step3
  go_wp2_with fail
  go_step3
  go_wp2_with fail
  generalize (((w.alloc (.cells (tcs u a).toArray 38)).alloc (.cells #[.int .i64 q, .bool true, .slice A n c] 75)).alloc (.cells zT.toArray 38)) = wz at *
  refine (chances_23 _).mono ?_
  rintro e w1 ⟨gb, c0, g1, c1, g2, rfl, kgb, kc0, kg1, kc1, kg2, hb1⟩
  replace B1 := boxOf_keep B1 hb1
  replace B2 := boxOf_keep B2 hb1
  replace B3 := boxOf_keep B3 hb1
  replace hs := Nat.lt_of_lt_of_le hs hb1.size
  replace hB := below_next hB hB.size hb1
  clear hb1
  go_wp2_with fail
  refine wp_loop_rounds 3 ?_
  rw [rounds_succ]
  go_wp2_with fail
  refine wp_loop_rounds 4 ?_
  rw [rounds_succ]
  go_wp2_with fail
  refine (K_wasOpen _).out.mono ?_
  rintro e w2 ⟨rfl, hb1⟩
  replace B1 := boxOf_keep (boxOf_keep B1 (belowN _ _)) hb1
  replace B2 := boxOf_keep (boxOf_keep B2 (belowN _ _)) hb1
  replace B3 := boxOf_keep (boxOf_keep B3 (belowN _ _)) hb1
  replace kgb := boxOf_keep (boxOf_keep kgb (belowN _ _)) hb1
  replace kc0 := boxOf_keep (boxOf_keep kc0 (belowN _ _)) hb1
  replace kg1 := boxOf_keep (boxOf_keep kg1 (belowN _ _)) hb1
  replace kc1 := boxOf_keep (boxOf_keep kc1 (belowN _ _)) hb1
  replace kg2 := boxOf_keep (boxOf_keep kg2 (belowN _ _)) hb1
  have kv0 := (box_newk hb1).1
  replace hs := Nat.lt_of_lt_of_le hs (show _ ≤ w2.heap.size by have := hb1.size; simp at this; omega)
  replace hB := below_next (hB.alloc hB.size _) (by have := hB.size; simp; omega) hb1
  clear hb1
  go_wp2_with fail
  rw [rounds_succ]
  go_wp2_with fail
  refine (K_looksLeft _).out.mono ?_
  rintro e w3 ⟨rfl, hb1⟩
  replace B1 := boxOf_keep B1 hb1
  replace B2 := boxOf_keep B2 hb1
  replace B3 := boxOf_keep B3 hb1
  replace kgb := boxOf_keep kgb hb1
  replace kc0 := boxOf_keep kc0 hb1
  replace kg1 := boxOf_keep kg1 hb1
  replace kc1 := boxOf_keep kc1 hb1
  replace kg2 := boxOf_keep kg2 hb1
  replace kv0 := boxOf_keep kv0 hb1
  replace hs := Nat.lt_of_lt_of_le hs hb1.size
  replace hB := below_next hB hB.size hb1
  clear hb1
  go_wp2_with fail
  rw [rounds_succ]
  go_wp2_with fail
  refine wp_loop_rounds 2 ?_
  rw [rounds_succ]
  go_wp2_with fail
  refine (K_wasOpen _).out.mono ?_
  rintro e w4 ⟨rfl, hb1⟩
  replace B1 := boxOf_keep (boxOf_keep B1 (belowN _ _)) hb1
  replace B2 := boxOf_keep (boxOf_keep B2 (belowN _ _)) hb1
  replace B3 := boxOf_keep (boxOf_keep B3 (belowN _ _)) hb1
  replace kgb := boxOf_keep (boxOf_keep kgb (belowN _ _)) hb1
  replace kc0 := boxOf_keep (boxOf_keep kc0 (belowN _ _)) hb1
  replace kg1 := boxOf_keep (boxOf_keep kg1 (belowN _ _)) hb1
  replace kc1 := boxOf_keep (boxOf_keep kc1 (belowN _ _)) hb1
  replace kg2 := boxOf_keep (boxOf_keep kg2 (belowN _ _)) hb1
  replace kv0 := boxOf_keep (boxOf_keep kv0 (belowN _ _)) hb1
  have kv1 := (box_newk hb1).1
  replace hs := Nat.lt_of_lt_of_le hs (show _ ≤ w4.heap.size by have := hb1.size; simp at this; omega)
  replace hB := below_next (hB.alloc hB.size _) (by have := hB.size; simp; omega) hb1
  clear hb1
  go_wp2_with fail
  rw [rounds_succ]
  go_wp2_with fail
  refine ((KD _).out _ kg1).mono ?_
  rintro e wr ⟨rfl, hb1⟩
  replace B3 := boxOf_keep B3 hb1
  replace hs := Nat.lt_of_lt_of_le hs (show _ ≤ wr.heap.size by have := hb1.size; (try simp at this); omega)
  replace hB := below_next hB (by have := hB.size; first | omega | (simp; done) | (simp; omega)) hb1
  clear hb1
  go_wp2
  (try rw [Exit.noGoto_ret])
  refine bodyPost_ret (v := .agg (tcs vv a).toArray) (results_box Try.results27 _ _ (w.heap.size + 1 + 1) _ _ rfl (by simp [go_sem, B3]) Try.underlying38 rfl (by kernel_rfl)) rfl ⟨rfl, ?_⟩
  repeat first | exact hB | refine below_sets _ (by omega) _ _ _ _ ?_ | refine Below.setCell ?_ (by first | omega | (simp; omega) | simp | (simp [size_sets]; omega)) _ | refine Below.alloc ?_ (by first | omega | (simp; omega) | simp | (simp [size_sets]; omega)) _ | exact Below.refl _ _
set_option maxRecDepth 100000 in
set_option maxHeartbeats 4000000 in
theorem goOn_23c (u : Tn) (a : TA) (o : TnOk u) (ht : 0 ≤ u.tt ∧ u.tt ≤ 15) (q : Int) (A : Option Addr) (n c : Nat) (hp : u.d.ph = 23) (hll : decide (1 ≤ u.d.lf) = true) (hlt : lateB u.d.un u.now = true) (w : World) : Calls Try.prog 27 #[.agg (tcs u a).toArray, .agg #[.int .i64 q, .bool true, .slice A n c]] w (TPost ({ u with d := { u.d with ph := 26 } } : Tn) a w) := by
  have B1 : boxOf (((w.alloc (.cells (tcs u a).toArray 38)).alloc (.cells #[.int .i64 q, .bool true, .slice A n c] 75)).alloc (.cells zT.toArray 38)) w.heap.size = some (tcs u a) := by simp [go_sem]
  have B2 : boxOf (((w.alloc (.cells (tcs u a).toArray 38)).alloc (.cells #[.int .i64 q, .bool true, .slice A n c] 75)).alloc (.cells zT.toArray 38)) (w.heap.size + 1) = some [.int .i64 q, .bool true, .slice A n c] := by simp [go_sem]
  have B3 : boxOf (((w.alloc (.cells (tcs u a).toArray 38)).alloc (.cells #[.int .i64 q, .bool true, .slice A n c] 75)).alloc (.cells zT.toArray 38)) (w.heap.size + 1 + 1) = some zT := by simp [go_sem]
  have hs : w.heap.size + 1 + 1 < (((w.alloc (.cells (tcs u a).toArray 38)).alloc (.cells #[.int .i64 q, .bool true, .slice A n c] 75)).alloc (.cells zT.toArray 38)).heap.size := by simp
  have hB : Below w.heap.size w (((w.alloc (.cells (tcs u a).toArray 38)).alloc (.cells #[.int .i64 q, .bool true, .slice A n c] 75)).alloc (.cells zT.toArray 38)) := ((belowN w _).alloc (by simp) _).alloc (by simp; omega) _
  have K_wasOpen : ∀ W, Hid (Calls Try.prog 78 #[.agg (tcs u a).toArray, .agg #[.int .i64 q, .bool true, .slice A n c]] W (BoolPost true W)) := fun W => hide (by have := wasOpen_any u a q true A n c W; exact this)
  have K_looksLeft : ∀ W, Hid (Calls Try.prog 81 #[.agg (tcs u a).toArray, .agg #[.int .i64 q, .bool true, .slice A n c]] W (BoolPost true W)) := fun W => hide (by have := looksLeft_any u a q true A n c W true hll; exact this)
  have K_inTime : ∀ W, Hid (Calls Try.prog 82 #[.agg (tcs u a).toArray, .agg #[.int .i64 q, .bool true, .slice A n c]] W (BoolPost false W)) := fun W => hide (by have := inTime_any u a q true A n c W; rw [hlt] at this; exact this)
  obtain ⟨vv, hvv⟩ : ∃ x, (({ u with d := { u.d with ph := 26 } } : Tn) : Tn) = x := ⟨_, rfl⟩
  have KD : ∀ W, Hid (∀ g, boxOf W g = some [.int .i64 26] → Calls Try.prog 91 #[.agg (tcs u a).toArray, .agg #[.int .i64 q, .bool true, .slice A n c], .pointer (some ⟨g, 0, none⟩)] W (TPost vv a W)) := fun W => hide (fun g hg => hvv ▸ cto1_any u a q true A n c W 26 g hg)
  rw [hvv]
  clear hvv o ht hll hlt
  go_enter Try.func27, Try.ntmps27
  go_wp2_with fail
  go_step3
  go_wp2_with fail
  go_step3
  go_wp2_with fail
  generalize (((w.alloc (.cells (tcs u a).toArray 38)).alloc (.cells #[.int .i64 q, .bool true, .slice A n c] 75)).alloc (.cells zT.toArray 38)) = wz at *
  refine (chances_23 _).mono ?_
  rintro e w1 ⟨gb, c0, g1, c1, g2, rfl, kgb, kc0, kg1, kc1, kg2, hb1⟩
  replace B1 := boxOf_keep B1 hb1
  replace B2 := boxOf_keep B2 hb1
  replace B3 := boxOf_keep B3 hb1
  replace hs := Nat.lt_of_lt_of_le hs hb1.size
  replace hB := below_next hB hB.size hb1
  clear hb1
  go_wp2_with fail
  refine wp_loop_rounds 3 ?_
  rw [rounds_succ]
  go_wp2_with fail
  refine wp_loop_rounds 4 ?_
  rw [rounds_succ]
  go_wp2_with fail
  refine (K_wasOpen _).out.mono ?_
  rintro e w2 ⟨rfl, hb1⟩
  replace B1 := boxOf_keep (boxOf_keep B1 (belowN _ _)) hb1
  replace B2 := boxOf_keep (boxOf_keep B2 (belowN _ _)) hb1
  replace B3 := boxOf_keep (boxOf_keep B3 (belowN _ _)) hb1
  replace kgb := boxOf_keep (boxOf_keep kgb (belowN _ _)) hb1
  replace kc0 := boxOf_keep (boxOf_keep kc0 (belowN _ _)) hb1
  replace kg1 := boxOf_keep (boxOf_keep kg1 (belowN _ _)) hb1
  replace kc1 := boxOf_keep (boxOf_keep kc1 (belowN _ _)) hb1
  replace kg2 := boxOf_keep (boxOf_keep kg2 (belowN _ _)) hb1
  have kv0 := (box_newk hb1).1
  replace hs := Nat.lt_of_lt_of_le hs (show _ ≤ w2.heap.size by have := hb1.size; simp at this; omega)
  replace hB := below_next (hB.alloc hB.size _) (by have := hB.size; simp; omega) hb1
  clear hb1
  go_wp2_with fail
  rw [rounds_succ]
  go_wp2_with fail
  refine (K_looksLeft _).out.mono ?_
  rintro e w3 ⟨rfl, hb1⟩
  replace B1 := boxOf_keep B1 hb1
  replace B2 := boxOf_keep B2 hb1
  replace B3 := boxOf_keep B3 hb1
  replace kgb := boxOf_keep kgb hb1
  replace kc0 := boxOf_keep kc0 hb1
  replace kg1 := boxOf_keep kg1 hb1
  replace kc1 := boxOf_keep kc1 hb1
  replace kg2 := boxOf_keep kg2 hb1
  replace kv0 := boxOf_keep kv0 hb1
  replace hs := Nat.lt_of_lt_of_le hs hb1.size
  replace hB := below_next hB hB.size hb1
  clear hb1
  go_wp2_with fail
  rw [rounds_succ]
  go_wp2_with fail
  refine (K_inTime _).out.mono ?_
  rintro e w4 ⟨rfl, hb1⟩
  replace B1 := boxOf_keep B1 hb1
  replace B2 := boxOf_keep B2 hb1
  replace B3 := boxOf_keep B3 hb1
  replace kgb := boxOf_keep kgb hb1
  replace kc0 := boxOf_keep kc0 hb1
  replace kg1 := boxOf_keep kg1 hb1
  replace kc1 := boxOf_keep kc1 hb1
  replace kg2 := boxOf_keep kg2 hb1
  replace kv0 := boxOf_keep kv0 hb1
  replace hs := Nat.lt_of_lt_of_le hs hb1.size
  replace hB := below_next hB hB.size hb1
  clear hb1
  go_wp2_with fail
  rw [rounds_succ]
  go_wp2_with fail
  refine wp_loop_rounds 2 ?_
  rw [rounds_succ]
  go_wp2_with fail
  refine (K_wasOpen _).out.mono ?_
  rintro e w5 ⟨rfl, hb1⟩
  replace B1 := boxOf_keep (boxOf_keep B1 (belowN _ _)) hb1
  replace B2 := boxOf_keep (boxOf_keep B2 (belowN _ _)) hb1
  replace B3 := boxOf_keep (boxOf_keep B3 (belowN _ _)) hb1
  replace kgb := boxOf_keep (boxOf_keep kgb (belowN _ _)) hb1
  replace kc0 := boxOf_keep (boxOf_keep kc0 (belowN _ _)) hb1
  replace kg1 := boxOf_keep (boxOf_keep kg1 (belowN _ _)) hb1
  replace kc1 := boxOf_keep (boxOf_keep kc1 (belowN _ _)) hb1
  replace kg2 := boxOf_keep (boxOf_keep kg2 (belowN _ _)) hb1
  replace kv0 := boxOf_keep (boxOf_keep kv0 (belowN _ _)) hb1
  have kv1 := (box_newk hb1).1
  replace hs := Nat.lt_of_lt_of_le hs (show _ ≤ w5.heap.size by have := hb1.size; simp at this; omega)
  replace hB := below_next (hB.alloc hB.size _) (by have := hB.size; simp; omega) hb1
  clear hb1
  go_wp2_with fail
  rw [rounds_succ]
  go_wp2_with fail
  refine ((KD _).out _ kg1).mono ?_
  rintro e wr ⟨rfl, hb1⟩
  replace B3 := boxOf_keep B3 hb1
  replace hs := Nat.lt_of_lt_of_le hs (show _ ≤ wr.heap.size by have := hb1.size; (try simp at this); omega)
  replace hB := below_next hB (by have := hB.size; first | omega | (simp; done) | (simp; omega)) hb1
  clear hb1
  go_wp2
  (try rw [Exit.noGoto_ret])
  refine bodyPost_ret (v := .agg (tcs vv a).toArray) (results_box Try.results27 _ _ (w.heap.size + 1 + 1) _ _ rfl (by simp [go_sem, B3]) Try.underlying38 rfl (by kernel_rfl)) rfl ⟨rfl, ?_⟩
  repeat first | exact hB | refine below_sets _ (by omega) _ _ _ _ ?_ | refine Below.setCell ?_ (by first | omega | (simp; omega) | simp | (simp [size_sets]; omega)) _ | refine Below.alloc ?_ (by first | omega | (simp; omega) | simp | (simp [size_sets]; omega)) _ | exact Below.refl _ _
set_option maxRecDepth 100000 in
set_option maxHeartbeats 4000000 in
theorem goOn_23d (u : Tn) (a : TA) (o : TnOk u) (ht : 0 ≤ u.tt ∧ u.tt ≤ 15) (q : Int) (A : Option Addr) (n c : Nat) (hp : u.d.ph = 23) (w : World) : Calls Try.prog 27 #[.agg (tcs u a).toArray, .agg #[.int .i64 q, .bool false, .slice A n c]] w (TPost ({ u with d := { u.d with ph := 13 } } : Tn) a w) := by
  have B1 : boxOf (((w.alloc (.cells (tcs u a).toArray 38)).alloc (.cells #[.int .i64 q, .bool false, .slice A n c] 75)).alloc (.cells zT.toArray 38)) w.heap.size = some (tcs u a) := by simp [go_sem]
  have B2 : boxOf (((w.alloc (.cells (tcs u a).toArray 38)).alloc (.cells #[.int .i64 q, .bool false, .slice A n c] 75)).alloc (.cells zT.toArray 38)) (w.heap.size + 1) = some [.int .i64 q, .bool false, .slice A n c] := by simp [go_sem]
  have B3 : boxOf (((w.alloc (.cells (tcs u a).toArray 38)).alloc (.cells #[.int .i64 q, .bool false, .slice A n c] 75)).alloc (.cells zT.toArray 38)) (w.heap.size + 1 + 1) = some zT := by simp [go_sem]
  have hs : w.heap.size + 1 + 1 < (((w.alloc (.cells (tcs u a).toArray 38)).alloc (.cells #[.int .i64 q, .bool false, .slice A n c] 75)).alloc (.cells zT.toArray 38)).heap.size := by simp
  have hB : Below w.heap.size w (((w.alloc (.cells (tcs u a).toArray 38)).alloc (.cells #[.int .i64 q, .bool false, .slice A n c] 75)).alloc (.cells zT.toArray 38)) := ((belowN w _).alloc (by simp) _).alloc (by simp; omega) _
  have K_wasOpen : ∀ W, Hid (Calls Try.prog 78 #[.agg (tcs u a).toArray, .agg #[.int .i64 q, .bool false, .slice A n c]] W (BoolPost false W)) := fun W => hide (by have := wasOpen_any u a q false A n c W; exact this)
  obtain ⟨vv, hvv⟩ : ∃ x, (({ u with d := { u.d with ph := 13 } } : Tn) : Tn) = x := ⟨_, rfl⟩
  have KD : ∀ W, Hid (∀ g, boxOf W g = some [.int .i64 13] → Calls Try.prog 91 #[.agg (tcs u a).toArray, .agg #[.int .i64 q, .bool false, .slice A n c], .pointer (some ⟨g, 0, none⟩)] W (TPost vv a W)) := fun W => hide (fun g hg => hvv ▸ cto1_any u a q false A n c W 13 g hg)
  rw [hvv]
  clear hvv o ht
  go_enter Try.func27, Try.ntmps27
  go_wp2_with fail
  go_step3
  go_wp2_with fail
  go_step3
  go_wp2_with fail
  generalize (((w.alloc (.cells (tcs u a).toArray 38)).alloc (.cells #[.int .i64 q, .bool false, .slice A n c] 75)).alloc (.cells zT.toArray 38)) = wz at *
  refine (chances_23 _).mono ?_
  rintro e w1 ⟨gb, c0, g1, c1, g2, rfl, kgb, kc0, kg1, kc1, kg2, hb1⟩
  replace B1 := boxOf_keep B1 hb1
  replace B2 := boxOf_keep B2 hb1
  replace B3 := boxOf_keep B3 hb1
  replace hs := Nat.lt_of_lt_of_le hs hb1.size
  replace hB := below_next hB hB.size hb1
  clear hb1
  go_wp2_with fail
  refine wp_loop_rounds 3 ?_
  rw [rounds_succ]
  go_wp2_with fail
  refine wp_loop_rounds 4 ?_
  rw [rounds_succ]
  go_wp2_with fail
  refine (K_wasOpen _).out.mono ?_
  rintro e w2 ⟨rfl, hb1⟩
  replace B1 := boxOf_keep (boxOf_keep B1 (belowN _ _)) hb1
  replace B2 := boxOf_keep (boxOf_keep B2 (belowN _ _)) hb1
  replace B3 := boxOf_keep (boxOf_keep B3 (belowN _ _)) hb1
  replace kgb := boxOf_keep (boxOf_keep kgb (belowN _ _)) hb1
  replace kc0 := boxOf_keep (boxOf_keep kc0 (belowN _ _)) hb1
  replace kg1 := boxOf_keep (boxOf_keep kg1 (belowN _ _)) hb1
  replace kc1 := boxOf_keep (boxOf_keep kc1 (belowN _ _)) hb1
  replace kg2 := boxOf_keep (boxOf_keep kg2 (belowN _ _)) hb1
  have kv0 := (box_newk hb1).1
  replace hs := Nat.lt_of_lt_of_le hs (show _ ≤ w2.heap.size by have := hb1.size; simp at this; omega)
  replace hB := below_next (hB.alloc hB.size _) (by have := hB.size; simp; omega) hb1
  clear hb1
  go_wp2_with fail
  rw [rounds_succ]
  go_wp2_with fail
  refine wp_loop_rounds 2 ?_
  rw [rounds_succ]
  go_wp2_with fail
  refine (K_wasOpen _).out.mono ?_
  rintro e w3 ⟨rfl, hb1⟩
  replace B1 := boxOf_keep (boxOf_keep B1 (belowN _ _)) hb1
  replace B2 := boxOf_keep (boxOf_keep B2 (belowN _ _)) hb1
  replace B3 := boxOf_keep (boxOf_keep B3 (belowN _ _)) hb1
  replace kgb := boxOf_keep (boxOf_keep kgb (belowN _ _)) hb1
  replace kc0 := boxOf_keep (boxOf_keep kc0 (belowN _ _)) hb1
  replace kg1 := boxOf_keep (boxOf_keep kg1 (belowN _ _)) hb1
  replace kc1 := boxOf_keep (boxOf_keep kc1 (belowN _ _)) hb1
  replace kg2 := boxOf_keep (boxOf_keep kg2 (belowN _ _)) hb1
  replace kv0 := boxOf_keep (boxOf_keep kv0 (belowN _ _)) hb1
  have kv1 := (box_newk hb1).1
  replace hs := Nat.lt_of_lt_of_le hs (show _ ≤ w3.heap.size by have := hb1.size; simp at this; omega)
  replace hB := below_next (hB.alloc hB.size _) (by have := hB.size; simp; omega) hb1
  clear hb1
  go_wp2_with fail
  rw [rounds_succ]
  go_wp2_with fail
  refine wp_loop_rounds 1 ?_
  rw [rounds_succ]
  go_wp2_with fail
  refine ((KD _).out _ (boxOf_keep kg2 (belowN _ _))).mono ?_
  rintro e wr ⟨rfl, hb1⟩
  replace B3 := boxOf_keep (boxOf_keep B3 (belowN _ _)) hb1
  replace hs := Nat.lt_of_lt_of_le hs (show _ ≤ wr.heap.size by have := hb1.size; (try simp at this); omega)
  replace hB := below_next (hB.alloc hB.size _) (by have := hB.size; first | omega | (simp; done) | (simp; omega)) hb1
  clear hb1
  go_wp2
  (try rw [Exit.noGoto_ret])
  refine bodyPost_ret (v := .agg (tcs vv a).toArray) (results_box Try.results27 _ _ (w.heap.size + 1 + 1) _ _ rfl (by simp [go_sem, B3]) Try.underlying38 rfl (by kernel_rfl)) rfl ⟨rfl, ?_⟩
  repeat first | exact hB | refine below_sets _ (by omega) _ _ _ _ ?_ | refine Below.setCell ?_ (by first | omega | (simp; omega) | simp | (simp [size_sets]; omega)) _ | refine Below.alloc ?_ (by first | omega | (simp; omega) | simp | (simp [size_sets]; omega)) _ | exact Below.refl _ _
end Go.Proofs.Ytjghdbkkjhnpfaa
