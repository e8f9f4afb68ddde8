/- Layer 15: a thread takes what another one has. -/
import Derived.Test.YtjghdbkkjhnpfaaCoA
import Derived.Test.YtjghdbkkjhnpfaaCoB
import Derived.Test.YtjghdbkkjhnpfaaGaT
import Derived.Lib.QuietBelow
import Derived.Deep.QuietTactic
import Derived.BigQuiet
import Derived.Laws.EntriesVeiled
import Derived.Handy
namespace Go.Proofs.Ytjghdbkkjhnpfaa
open Go.RowKit Go.Sort
set_option linter.unusedVariables false
set_option linter.unusedSimpArgs false

attribute [local irreducible] tcs thc ccs zT
attribute [local go_sem ↓] alTn_is alRn_is
attribute [local go_sem] run_alTnf run_alTnt run_alRnf run_alRnt zT_length
attribute [local go_sem ↓] lbTn_is lbRn_is lbTh_is lbRh_is lbCf_is lbRc_is sbTn_is sbRn_is sbTh_is sbRh_is sbCf_is sbRc_is
attribute [local go_sem] run_lbTn run_lbRn run_lbTh run_lbRh run_lbCf run_lbRc run_sbTn run_sbRn run_sbTh run_sbRh run_sbCf run_sbRc
attribute [local go_sem 2000] boxOf_old'
attribute [local go_sem] boxOf_at' boxOf_free' boxOf_alloc objBox_cells objBox_cellsA boxOf_drew boxOf_setI boxOf_setsI size_sets tcs_length thc_length ccs_length tcs_one thc_one ccs_one sub_tn sub_th sub_cf sub_thAll sub_cfAll put_turn put_thread
attribute [local go_sem] tc0 tc1 tc2 tc3 tc4 tc5 tc6 tc7 tc8 tc9 tc10 tc11 tc12 tc13 tc14 tc15 tc16 tc17 tc18 tc19 tc20 tc21 tc22 tc23 tc24 tc25 tc26 tc27 tc28 tc29 tc30 tc31 tc32 tc33 tc34 tc35 tc36 hc0 hc1 hc2 hc3 hc4 hc5 hc6 hc7 hc8 hc9 hc10 hc11 hc12 hc13 hc14 hc15 hc16 kc0 kc1 kc2 kc3 kc4 kc5 kc6 kc7 kc8 kc9 kc10 kc11 tg0 tg1 tg2 tg3 tg4 tg5 tg6 tg7 tg8 tg9 tg10 tg11 tg12 tg13 tg14 tg15 tg16 tg17 tg18 tg19 tg20 tg21 tg22 tg23 tg24 tg25 tg26 tg27 tg28 tg29 tg30 tg31 tg32 tg33 tg34 tg35 tg36 hg0 hg1 hg2 hg3 hg4 hg5 hg6 hg7 hg8 hg9 hg10 hg11 hg12 hg13 hg14 hg15 hg16 kg0 kg1 kg2 kg3 kg4 kg5 kg6 kg7 kg8 kg9 kg10 kg11
attribute [local go_sem] ts12 ts13 ts14 ts16 ts17 ts18 ts19 ts20 ts21 ts22 ts23 ts24 ts25 ts26 ts27 ts28 ts29 ts30 ts31 ts32 ts33 ts34 ts35 ts36 ts15 hs0 hs1 hs2 hs3 hs7 hs8 hs9 hs10 hs11 hs12 hs13 hs14 hs15 hs16

set_option maxRecDepth 100000 in
set_option maxHeartbeats 4000000 in
theorem absorb_any (u : Tn) (a : TA) (o : TnOk u) (q : Int) (p : Bool) (b : List E3) (A : Option Addr) (c : Nat) (w : World) (h : TnAt w u a) (sb : Sees w w.heap.size 3 A b.length (ecells b)) (hl : b.length ≤ 20000) : Calls Try.prog 79 #[.agg (tcs u a).toArray, .agg #[.int .i64 q, .bool p, .slice A b.length c]] w (GPost (absV u b) u a w) := by
  have B1 : boxOf (((w.alloc (.cells (tcs u a).toArray 38)).alloc (.cells #[.int .i64 q, .bool p, .slice A b.length c] 75)).alloc (.cells zT.toArray 38)) w.heap.size = some (tcs u a) := by simp [go_sem]
  have B2 : boxOf (((w.alloc (.cells (tcs u a).toArray 38)).alloc (.cells #[.int .i64 q, .bool p, .slice A b.length c] 75)).alloc (.cells zT.toArray 38)) (w.heap.size + 1) = some [.int .i64 q, .bool p, .slice A b.length c] := by simp [go_sem]
  have B3 : boxOf (((w.alloc (.cells (tcs u a).toArray 38)).alloc (.cells #[.int .i64 q, .bool p, .slice A b.length c] 75)).alloc (.cells zT.toArray 38)) (w.heap.size + 1 + 1) = some zT := by simp [go_sem]
  have hs : w.heap.size + 1 + 1 < (((w.alloc (.cells (tcs u a).toArray 38)).alloc (.cells #[.int .i64 q, .bool p, .slice A b.length c] 75)).alloc (.cells zT.toArray 38)).heap.size := by simp
  have hB : Below w.heap.size w (((w.alloc (.cells (tcs u a).toArray 38)).alloc (.cells #[.int .i64 q, .bool p, .slice A b.length c] 75)).alloc (.cells zT.toArray 38)) := ((belowN w _).alloc (by simp) _).alloc (by simp; omega) _
  have h0 := h
  replace h := h.later hB
  replace sb := sb.later hB
  obtain ⟨T, hT⟩ : ∃ T, tkG u u.d.who b = T := ⟨_, rfl⟩
  have H : Hid (absV u b = ({ T with d := { T.d with ph := 25 } } : Tn)) := hide (by rw [absV, hT])
  have KT := fun W t s => hide (take_any u a u.d.who b A c (by have := o.k; omega) (by have := o.b; omega) hl W t s)
  go_enter Try.func79, Try.ntmps79
  go_wp2_with fail
  generalize (((w.alloc (.cells (tcs u a).toArray 38)).alloc (.cells #[.int .i64 q, .bool p, .slice A b.length c] 75)).alloc (.cells zT.toArray 38)) = wz at *
  refine (KT _ h.th sb).out.mono ?_
  rintro e w2 ht2
  obtain ⟨bb, rfl, T2, off, hb1⟩ := tk_gp h ht2
  rw [hT] at T2 off
  rw [hT]
  have O1 := off w.heap.size (by omega) (h0.off (Nat.le_refl _))
  have O3 := off (w.heap.size + 1 + 1) hs (h0.off (by omega))
  have off' : ∀ g, g < w.heap.size → Off g u a → Off g T bb := fun g hg f => off g (by omega) f
  replace B1 := boxOf_keep B1 hb1
  replace B2 := boxOf_keep B2 hb1
  replace B3 := boxOf_keep B3 hb1
  replace hs := Nat.lt_of_lt_of_le hs hb1.size
  replace hB := below_next hB hB.size hb1
  clear hb1
  have key : ∀ W', Below w.heap.size w W' → TnAt W' T bb → GPost ({ T with d := { T.d with ph := 25 } } : Tn) u a w (.returned (.agg (tcs ({ T with d := { T.d with ph := 25 } } : Tn) bb).toArray)) W' := fun W' hBf tn => ⟨bb, rfl, (show Lk T ({ T with d := { T.d with ph := 25 } } : Tn) from ⟨rfl, rfl, rfl, rfl, rfl, rfl, rfl⟩).at tn, fun g hg f => (show Lk T ({ T with d := { T.d with ph := 25 } } : Tn) from ⟨rfl, rfl, rfl, rfl, rfl, rfl, rfl⟩).off (off' g hg f), hBf⟩
  clear KT hT off ht2 h h0 off' sb hl
  go_wp2
  have ne2 : ¬ w.heap.size = w.heap.size + 1 + 1 := by omega
  refine bodyPost_ret (v := .agg (tcs ({ T with d := { T.d with ph := 25 } } : Tn) bb).toArray) (results_box Try.results79 _ _ (w.heap.size + 1 + 1) _ _ rfl (by simp [go_sem, B1, B3, ne2]) Try.underlying38 rfl (by kernel_rfl)) rfl ?_
  rw [H.out]
  refine key _ (by repeat first | exact hB | refine below_sets _ (by omega) _ _ _ _ ?_ | refine Below.setCell ?_ (by first | omega | (simp; omega) | simp | (simp [size_sets]; omega)) _ | refine Below.alloc ?_ (by first | omega | (simp; omega) | simp | (simp [size_sets]; omega)) _) ?_
  repeat first | exact T2 | refine TnAt.set1 ?_ (by first | exact O1 | exact O3) _ _ | refine TnAt.sets ?_ (by first | exact O1 | exact O3) _ _
set_option maxRecDepth 100000 in
set_option maxHeartbeats 4000000 in
theorem goOn_22 (u : Tn) (a : TA) (o : TnOk u) (q : Int) (p : Bool) (b : List E3) (A : Option Addr) (c : Nat) (hp : u.d.ph = 22) (w : World) (h : TnAt w u a) (sb : Sees w w.heap.size 3 A b.length (ecells b)) (hl : b.length ≤ 20000) : Calls Try.prog 27 #[.agg (tcs u a).toArray, .agg #[.int .i64 q, .bool p, .slice A b.length c]] w (GPost (absV u b) u a w) := by
  have B1 : boxOf (((w.alloc (.cells (tcs u a).toArray 38)).alloc (.cells #[.int .i64 q, .bool p, .slice A b.length c] 75)).alloc (.cells zT.toArray 38)) w.heap.size = some (tcs u a) := by simp [go_sem]
  have B2 : boxOf (((w.alloc (.cells (tcs u a).toArray 38)).alloc (.cells #[.int .i64 q, .bool p, .slice A b.length c] 75)).alloc (.cells zT.toArray 38)) (w.heap.size + 1) = some [.int .i64 q, .bool p, .slice A b.length c] := by simp [go_sem]
  have B3 : boxOf (((w.alloc (.cells (tcs u a).toArray 38)).alloc (.cells #[.int .i64 q, .bool p, .slice A b.length c] 75)).alloc (.cells zT.toArray 38)) (w.heap.size + 1 + 1) = some zT := by simp [go_sem]
  have hs : w.heap.size + 1 + 1 < (((w.alloc (.cells (tcs u a).toArray 38)).alloc (.cells #[.int .i64 q, .bool p, .slice A b.length c] 75)).alloc (.cells zT.toArray 38)).heap.size := by simp
  have hB : Below w.heap.size w (((w.alloc (.cells (tcs u a).toArray 38)).alloc (.cells #[.int .i64 q, .bool p, .slice A b.length c] 75)).alloc (.cells zT.toArray 38)) := ((belowN w _).alloc (by simp) _).alloc (by simp; omega) _
  have h0 := h
  replace h := h.later hB
  replace sb := sb.later hB
  have KD := fun W t s => hide (absorb_any u a o q p b A c W t s hl)
  obtain ⟨T, hT⟩ : ∃ T, absV u b = T := ⟨_, rfl⟩
  rw [hT]
  go_enter Try.func27, Try.ntmps27
  go_wp2_with fail
  go_step3
  go_wp2_with fail
  go_step3
  go_wp2_with fail
  generalize (((w.alloc (.cells (tcs u a).toArray 38)).alloc (.cells #[.int .i64 q, .bool p, .slice A b.length c] 75)).alloc (.cells zT.toArray 38)) = wz at *
  refine (chances_22 _).mono ?_
  rintro e w1 ⟨gb, rfl, kgb, hb1⟩
  replace sb := sb.later hb1
  replace B1 := boxOf_keep B1 hb1
  replace B2 := boxOf_keep B2 hb1
  replace B3 := boxOf_keep B3 hb1
  replace hs := Nat.lt_of_lt_of_le hs hb1.size
  replace hB := below_next hB hB.size hb1
  replace h := h.later hb1
  clear hb1
  go_wp2_with fail
  refine wp_loop_rounds 1 ?_
  rw [rounds_succ]
  go_wp2_with fail
  refine wp_loop_rounds 1 ?_
  rw [rounds_succ]
  go_wp2_with fail
  refine (KD _ (h.later (belowN _ _)) (sb.later (belowN _ _))).out.mono ?_
  rintro e wr ⟨bb, rfl, T2, off, hb1⟩
  rw [hT] at T2 off
  rw [hT]
  have O3 := off (w.heap.size + 1 + 1) (by simp; omega) (h0.off (by omega))
  have off' : ∀ g, g < w.heap.size → Off g u a → Off g T bb := fun g hg f => off g (by simp; omega) f
  replace B3 := boxOf_keep (boxOf_keep B3 (belowN _ _)) hb1
  replace hs := Nat.lt_of_lt_of_le hs (show _ ≤ wr.heap.size by have := hb1.size; (try simp at this); omega)
  replace hB := below_next (hB.alloc hB.size _) (by have := hB.size; first | omega | (simp; done) | (simp; omega)) hb1
  have key : ∀ W', Below w.heap.size w W' → TnAt W' T bb → GPost T u a w (.returned (.agg (tcs T bb).toArray)) W' := fun W' hBf tn => ⟨bb, rfl, tn, off', hBf⟩
  clear hb1 KD hT off h h0 off' sb hl B1 B2
  go_wp2
  (try rw [Exit.noGoto_ret])
  refine bodyPost_ret (v := .agg (tcs T bb).toArray) (results_box Try.results27 _ _ (w.heap.size + 1 + 1) _ _ rfl (by simp [go_sem, B3]) Try.underlying38 rfl (by kernel_rfl)) rfl (key _ ?_ ?_)
  · repeat first | exact hB | refine below_sets _ (by omega) _ _ _ _ ?_ | refine Below.setCell ?_ (by first | omega | (simp; omega) | simp | (simp [size_sets]; omega)) _ | refine Below.alloc ?_ (by first | omega | (simp; omega) | simp | (simp [size_sets]; omega)) _
  · repeat first | exact T2 | refine TnAt.set1 ?_ O3 _ _ | refine TnAt.sets ?_ O3 _ _
end Go.Proofs.Ytjghdbkkjhnpfaa
