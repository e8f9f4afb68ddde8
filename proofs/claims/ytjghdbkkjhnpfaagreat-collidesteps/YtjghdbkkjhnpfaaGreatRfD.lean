/- The document's step of whatever turn. -/
import Derived.Test.YtjghdbkkjhnpfaaGreatRfA
import Derived.Test.YtjghdbkkjhnpfaaGreatRfB
import Derived.Test.YtjghdbkkjhnpfaaGreatRqT
import Derived.Test.YtjghdbkkjhnpfaaGreatCoH
import Derived.Test.YtjghdbkkjhnpfaaGreatCoF
import Derived.Test.YtjghdbkkjhnpfaaGreatCoD
import Derived.Test.YtjghdbkkjhnpfaaGreatM2
import Derived.Test.YtjghdbkkjhnpfaaGreatM6
import Derived.Lib.QuietBelow
import Derived.Deep.QuietTactic
import Derived.BigQuiet
import Derived.Deep.RegionHeld3
import Derived.Deep.Cut
namespace Go.Proofs.YtjghdbkkjhnpfaaGreat
open Go.RowKit Go.Sort
set_option linter.unusedVariables false
set_option linter.unusedSimpArgs false

/-- The same lists, but the words: as many. -/
structure LkV (u v : Tn) : Prop where
  ws : v.ws.length = u.ws.length
  bx : v.bx = u.bx
  bl : v.d.bl = u.d.bl
  kl : v.d.kl = u.d.kl
  hl : v.d.hl = u.d.hl
  tl : v.tl = u.tl
  ll : v.ll = u.ll
theorem wt_gp {v u : Tn} {a : TA} {w w' : World} {e : Ending} (l : LkV u v) (h : TnAt w u a) (p : WtPost v a w e w') : GPost v u a w e w' := by
  obtain ⟨A, c, rfl, sA, hA, hb⟩ := p
  have h' := h.later hb
  exact ⟨_, rfl, ⟨h.m.words_at hb sA l.ws, h'.bx.trans l.bx.symm, ⟨by rw [l.bl]; exact h'.th.b, by rw [l.kl]; exact h'.th.k, by rw [l.hl]; exact h'.th.h⟩, by rw [l.tl]; exact h'.tp, by rw [l.ll]; exact h'.lg⟩, fun g hg f => ⟨fun hn p hp => by
      rcases hA with e | q
      · exact f.w (by rw [← l.ws]; exact hn) p (e ▸ hp)
      · have := q p hp; omega, f.x, f.e, by rw [l.bl]; exact f.b, by rw [l.kl]; exact f.k, by rw [l.hl]; exact f.h, by rw [l.tl]; exact f.t, by rw [l.ll]; exact f.l⟩, hb⟩
theorem lv_opn (u : Tn) : LkV u (opnC u) := by unfold opnC; split; exact ⟨stV_length _ _ _, rfl, rfl, rfl, rfl, rfl, rfl⟩; exact ⟨rfl, rfl, rfl, rfl, rfl, rfl, rfl⟩
theorem lv_reo (u : Tn) : LkV u (reoC u) := by unfold reoC; split; exact ⟨stV_length _ _ _, rfl, rfl, rfl, rfl, rfl, rfl⟩; exact ⟨rfl, rfl, rfl, rfl, rfl, rfl, rfl⟩
theorem lv_swp (u : Tn) : LkV u (swpC u) := by
  unfold swpC; split
  · split <;> exact ⟨stV_length _ _ _, rfl, rfl, rfl, rfl, rfl, rfl⟩
  · exact ⟨rfl, rfl, rfl, rfl, rfl, rfl, rfl⟩
theorem lv_cmp (u : Tn) (t so no : Int) : LkV u (cmpC u t so no) := by
  unfold cmpC; split
  · split <;> exact ⟨casV_length _ _ _ _, rfl, rfl, rfl, rfl, rfl, rfl⟩
  · exact ⟨rfl, rfl, rfl, rfl, rfl, rfl, rfl⟩
theorem lv_spi (u : Tn) : LkV u (spiC u) := by
  unfold spiC spoV
  repeat' split
  all_goals exact ⟨rfl, rfl, rfl, rfl, rfl, rfl, rfl⟩
attribute [local irreducible] tcs thc ccs zT
attribute [local go_sem ↓] alTn_is alRn_is
attribute [local go_sem] run_alTnf run_alTnt run_alRnf run_alRnt zT_length
attribute [local go_sem ↓] lbTn_is lbRn_is lbTh_is lbRh_is lbCf_is lbRc_is sbTn_is sbRn_is sbTh_is sbRh_is sbCf_is sbRc_is
attribute [local go_sem] run_lbTn run_lbRn run_lbTh run_lbRh run_lbCf run_lbRc run_sbTn run_sbRn run_sbTh run_sbRh run_sbCf run_sbRc
attribute [local go_sem 2000] boxOf_old'
attribute [local go_sem] boxOf_at' boxOf_free' boxOf_alloc objBox_cells objBox_cellsA boxOf_drew boxOf_setI boxOf_setsI size_sets tcs_length thc_length ccs_length tcs_one thc_one ccs_one sub_tn sub_th sub_cf sub_thAll sub_cfAll put_turn put_thread
attribute [local go_sem] tc0 tc1 tc2 tc3 tc4 tc5 tc6 tc7 tc8 tc9 tc10 tc11 tc12 tc13 tc14 tc15 tc16 tc17 tc18 tc19 tc20 tc21 tc22 tc23 tc24 tc25 tc26 tc27 tc28 tc29 tc30 tc31 tc32 tc33 tc34 tc35 tc36 hc0 hc1 hc2 hc3 hc4 hc5 hc6 hc7 hc8 hc9 hc10 hc11 hc12 hc13 hc14 hc15 hc16 kc0 kc1 kc2 kc3 kc4 kc5 kc6 kc7 kc8 kc9 kc10 kc11 tg0 tg1 tg2 tg3 tg4 tg5 tg6 tg7 tg8 tg9 tg10 tg11 tg12 tg13 tg14 tg15 tg16 tg17 tg18 tg19 tg20 tg21 tg22 tg23 tg24 tg25 tg26 tg27 tg28 tg29 tg30 tg31 tg32 tg33 tg34 tg35 tg36 hg0 hg1 hg2 hg3 hg4 hg5 hg6 hg7 hg8 hg9 hg10 hg11 hg12 hg13 hg14 hg15 hg16 kg0 kg1 kg2 kg3 kg4 kg5 kg6 kg7 kg8 kg9 kg10 kg11
attribute [local go_sem] ts12 ts13 ts14 ts16 ts17 ts18 ts19 ts20 ts21 ts22 ts23 ts24 ts25 ts26 ts27 ts28 ts29 ts30 ts31 ts32 ts33 ts34 ts35 ts36 ts15 hs0 hs1 hs2 hs3 hs7 hs8 hs9 hs10 hs11 hs12 hs13 hs14 hs15 hs16

attribute [local go_sem] ts15g
set_option maxRecDepth 100000 in
set_option maxHeartbeats 4000000 in
theorem rst_18 (u : Tn) (a : TA) (o : TnOk u) (ht : 0 ≤ u.tt ∧ u.tt ≤ 15) (hi : 0 ≤ u.d.it ∧ u.d.it ≤ 3) (hl : 1 ≤ u.d.ly ∧ u.d.ly ≤ 3) (hp : u.d.ph = 18) (w : World) (h : TnAt w u a) : Calls Tryz.prog 8 #[.agg (tcs u a).toArray] w (GsPost (opnC u) u true a w) := by
  have B1 : boxOf ((w.alloc (.cells (tcs u a).toArray 55)).alloc (.cells zT.toArray 55)) w.heap.size = some (tcs u a) := by simp [go_sem]
  have B2 : boxOf ((w.alloc (.cells (tcs u a).toArray 55)).alloc (.cells zT.toArray 55)) (w.heap.size + 1) = some zT := by simp [go_sem]
  have hs : w.heap.size + 1 < ((w.alloc (.cells (tcs u a).toArray 55)).alloc (.cells zT.toArray 55)).heap.size := by simp
  have hB : Below w.heap.size w ((w.alloc (.cells (tcs u a).toArray 55)).alloc (.cells zT.toArray 55)) := (belowN w _).alloc (by simp) _
  have h0 := h
  replace h := h.later hB
  go_enter Tryz.func8, Tryz.ntmps8
  go_wp2_with fail
  generalize ((w.alloc (.cells (tcs u a).toArray 55)).alloc (.cells zT.toArray 55)) = w1 at *
  have KG := hide (rstored_19 u a o ht hi hl w1 h)
  have hL := hide (lv_opn u)
  obtain ⟨v, hv⟩ : ∃ v, opnC u = v := ⟨_, rfl⟩
  rw [hv] at KG hL
  have HV := hide hv
  clear hv
  refine KG.out.mono ?_
  rintro e w2 ht2
  obtain ⟨b, rfl, T2, off, hb1⟩ := wt_gp hL.out h ht2
  have off' : ∀ g, g < w.heap.size → Off g u a → Off g v b := fun g hg f => off g (by omega) f
  have O2 := off (w.heap.size + 1) hs (h0.off (by omega))
  replace B1 := boxOf_keep B1 hb1
  replace B2 := boxOf_keep B2 hb1
  replace hs := Nat.lt_of_lt_of_le hs hb1.size
  replace hB := below_next hB hB.size hb1
  clear hb1
  have key : ∀ W', Below w.heap.size w W' → TnAt W' v b → GsPost v u true a w (.returned (.tuple #[.agg (tcs v b).toArray, .bool true])) W' := fun W' hb tn => ⟨b, rfl, tn, off', hb⟩
  clear KG off off' ht2 h h0
  go_wp2
  refine bodyPost_ret (v := .tuple #[.agg (tcs v b).toArray, .bool true]) (results_box2 Tryz.results8 _ _ (w.heap.size + 1) _ _ _ rfl rfl (by simp [go_sem, B1, B2]) Tryz.underlying55 rfl (by kernel_rfl)) rfl ?_
  rw [HV.out]
  exact key _ (by repeat first | exact hB | refine below_sets _ (by omega) _ _ _ _ ?_ | refine Below.setCell ?_ (by first | omega | (simp; omega) | simp) _ | refine Below.alloc ?_ (by first | omega | (simp; omega) | simp) _) (T2.sets O2 (tcs v b) 0)
set_option maxRecDepth 100000 in
set_option maxHeartbeats 4000000 in
theorem rst_24 (u : Tn) (a : TA) (o : TnOk u) (ht : 0 ≤ u.tt ∧ u.tt ≤ 15) (hi : 0 ≤ u.d.it ∧ u.d.it ≤ 3) (hl : 1 ≤ u.d.ly ∧ u.d.ly ≤ 3) (hp : u.d.ph = 24) (w : World) (h : TnAt w u a) : Calls Tryz.prog 8 #[.agg (tcs u a).toArray] w (GsPost (reoC u) u true a w) := by
  have B1 : boxOf ((w.alloc (.cells (tcs u a).toArray 55)).alloc (.cells zT.toArray 55)) w.heap.size = some (tcs u a) := by simp [go_sem]
  have B2 : boxOf ((w.alloc (.cells (tcs u a).toArray 55)).alloc (.cells zT.toArray 55)) (w.heap.size + 1) = some zT := by simp [go_sem]
  have hs : w.heap.size + 1 < ((w.alloc (.cells (tcs u a).toArray 55)).alloc (.cells zT.toArray 55)).heap.size := by simp
  have hB : Below w.heap.size w ((w.alloc (.cells (tcs u a).toArray 55)).alloc (.cells zT.toArray 55)) := (belowN w _).alloc (by simp) _
  have h0 := h
  replace h := h.later hB
  go_enter Tryz.func8, Tryz.ntmps8
  go_wp2_with fail
  generalize ((w.alloc (.cells (tcs u a).toArray 55)).alloc (.cells zT.toArray 55)) = w1 at *
  have KG := hide (rstored_23 u a o ht hi hl w1 h)
  have hL := hide (lv_reo u)
  obtain ⟨v, hv⟩ : ∃ v, reoC u = v := ⟨_, rfl⟩
  rw [hv] at KG hL
  have HV := hide hv
  clear hv
  refine KG.out.mono ?_
  rintro e w2 ht2
  obtain ⟨b, rfl, T2, off, hb1⟩ := wt_gp hL.out h ht2
  have off' : ∀ g, g < w.heap.size → Off g u a → Off g v b := fun g hg f => off g (by omega) f
  have O2 := off (w.heap.size + 1) hs (h0.off (by omega))
  replace B1 := boxOf_keep B1 hb1
  replace B2 := boxOf_keep B2 hb1
  replace hs := Nat.lt_of_lt_of_le hs hb1.size
  replace hB := below_next hB hB.size hb1
  clear hb1
  have key : ∀ W', Below w.heap.size w W' → TnAt W' v b → GsPost v u true a w (.returned (.tuple #[.agg (tcs v b).toArray, .bool true])) W' := fun W' hb tn => ⟨b, rfl, tn, off', hb⟩
  clear KG off off' ht2 h h0
  go_wp2
  refine bodyPost_ret (v := .tuple #[.agg (tcs v b).toArray, .bool true]) (results_box2 Tryz.results8 _ _ (w.heap.size + 1) _ _ _ rfl rfl (by simp [go_sem, B1, B2]) Tryz.underlying55 rfl (by kernel_rfl)) rfl ?_
  rw [HV.out]
  exact key _ (by repeat first | exact hB | refine below_sets _ (by omega) _ _ _ _ ?_ | refine Below.setCell ?_ (by first | omega | (simp; omega) | simp) _ | refine Below.alloc ?_ (by first | omega | (simp; omega) | simp) _) (T2.sets O2 (tcs v b) 0)
set_option maxRecDepth 100000 in
set_option maxHeartbeats 4000000 in
theorem rst_20 (u : Tn) (a : TA) (o : TnOk u) (ht : 0 ≤ u.tt ∧ u.tt ≤ 15) (hi : 0 ≤ u.d.it ∧ u.d.it ≤ 3) (hl : 1 ≤ u.d.ly ∧ u.d.ly ≤ 3) (hp : u.d.ph = 20) (w : World) (h : TnAt w u a) : Calls Tryz.prog 8 #[.agg (tcs u a).toArray] w (GsPost (cmpC u u.tt 21 13) u true a w) := by
  have B1 : boxOf ((w.alloc (.cells (tcs u a).toArray 55)).alloc (.cells zT.toArray 55)) w.heap.size = some (tcs u a) := by simp [go_sem]
  have B2 : boxOf ((w.alloc (.cells (tcs u a).toArray 55)).alloc (.cells zT.toArray 55)) (w.heap.size + 1) = some zT := by simp [go_sem]
  have hs : w.heap.size + 1 < ((w.alloc (.cells (tcs u a).toArray 55)).alloc (.cells zT.toArray 55)).heap.size := by simp
  have hB : Below w.heap.size w ((w.alloc (.cells (tcs u a).toArray 55)).alloc (.cells zT.toArray 55)) := (belowN w _).alloc (by simp) _
  have h0 := h
  replace h := h.later hB
  go_enter Tryz.func8, Tryz.ntmps8
  go_wp2_with fail
  generalize ((w.alloc (.cells (tcs u a).toArray 55)).alloc (.cells zT.toArray 55)) = w1 at *
  have KG := hide (rcompared_any u a o ht hi hl w1 h u.tt 21 13 o.tt)
  have hL := hide (lv_cmp u u.tt 21 13)
  obtain ⟨v, hv⟩ : ∃ v, cmpC u u.tt 21 13 = v := ⟨_, rfl⟩
  rw [hv] at KG hL
  have HV := hide hv
  clear hv
  refine KG.out.mono ?_
  rintro e w2 ht2
  obtain ⟨b, rfl, T2, off, hb1⟩ := wt_gp hL.out h ht2
  have off' : ∀ g, g < w.heap.size → Off g u a → Off g v b := fun g hg f => off g (by omega) f
  have O2 := off (w.heap.size + 1) hs (h0.off (by omega))
  replace B1 := boxOf_keep B1 hb1
  replace B2 := boxOf_keep B2 hb1
  replace hs := Nat.lt_of_lt_of_le hs hb1.size
  replace hB := below_next hB hB.size hb1
  clear hb1
  have key : ∀ W', Below w.heap.size w W' → TnAt W' v b → GsPost v u true a w (.returned (.tuple #[.agg (tcs v b).toArray, .bool true])) W' := fun W' hb tn => ⟨b, rfl, tn, off', hb⟩
  clear KG off off' ht2 h h0
  go_wp2
  refine bodyPost_ret (v := .tuple #[.agg (tcs v b).toArray, .bool true]) (results_box2 Tryz.results8 _ _ (w.heap.size + 1) _ _ _ rfl rfl (by simp [go_sem, B1, B2]) Tryz.underlying55 rfl (by kernel_rfl)) rfl ?_
  rw [HV.out]
  exact key _ (by repeat first | exact hB | refine below_sets _ (by omega) _ _ _ _ ?_ | refine Below.setCell ?_ (by first | omega | (simp; omega) | simp) _ | refine Below.alloc ?_ (by first | omega | (simp; omega) | simp) _) (T2.sets O2 (tcs v b) 0)
set_option maxRecDepth 100000 in
set_option maxHeartbeats 4000000 in
theorem rst_21 (u : Tn) (a : TA) (o : TnOk u) (ht : 0 ≤ u.tt ∧ u.tt ≤ 15) (hi : 0 ≤ u.d.it ∧ u.d.it ≤ 3) (hl : 1 ≤ u.d.ly ∧ u.d.ly ≤ 3) (hp : u.d.ph = 21) (w : World) (h : TnAt w u a) : Calls Tryz.prog 8 #[.agg (tcs u a).toArray] w (GsPost (cmpC u u.d.who 22 24) u true a w) := by
  have B1 : boxOf ((w.alloc (.cells (tcs u a).toArray 55)).alloc (.cells zT.toArray 55)) w.heap.size = some (tcs u a) := by simp [go_sem]
  have B2 : boxOf ((w.alloc (.cells (tcs u a).toArray 55)).alloc (.cells zT.toArray 55)) (w.heap.size + 1) = some zT := by simp [go_sem]
  have hs : w.heap.size + 1 < ((w.alloc (.cells (tcs u a).toArray 55)).alloc (.cells zT.toArray 55)).heap.size := by simp
  have hB : Below w.heap.size w ((w.alloc (.cells (tcs u a).toArray 55)).alloc (.cells zT.toArray 55)) := (belowN w _).alloc (by simp) _
  have h0 := h
  replace h := h.later hB
  go_enter Tryz.func8, Tryz.ntmps8
  go_wp2_with fail
  generalize ((w.alloc (.cells (tcs u a).toArray 55)).alloc (.cells zT.toArray 55)) = w1 at *
  have KG := hide (rcompared_any u a o ht hi hl w1 h u.d.who 22 24 o.iwho)
  have hL := hide (lv_cmp u u.d.who 22 24)
  obtain ⟨v, hv⟩ : ∃ v, cmpC u u.d.who 22 24 = v := ⟨_, rfl⟩
  rw [hv] at KG hL
  have HV := hide hv
  clear hv
  refine KG.out.mono ?_
  rintro e w2 ht2
  obtain ⟨b, rfl, T2, off, hb1⟩ := wt_gp hL.out h ht2
  have off' : ∀ g, g < w.heap.size → Off g u a → Off g v b := fun g hg f => off g (by omega) f
  have O2 := off (w.heap.size + 1) hs (h0.off (by omega))
  replace B1 := boxOf_keep B1 hb1
  replace B2 := boxOf_keep B2 hb1
  replace hs := Nat.lt_of_lt_of_le hs hb1.size
  replace hB := below_next hB hB.size hb1
  clear hb1
  have key : ∀ W', Below w.heap.size w W' → TnAt W' v b → GsPost v u true a w (.returned (.tuple #[.agg (tcs v b).toArray, .bool true])) W' := fun W' hb tn => ⟨b, rfl, tn, off', hb⟩
  clear KG off off' ht2 h h0
  go_wp2
  refine bodyPost_ret (v := .tuple #[.agg (tcs v b).toArray, .bool true]) (results_box2 Tryz.results8 _ _ (w.heap.size + 1) _ _ _ rfl rfl (by simp [go_sem, B1, B2]) Tryz.underlying55 rfl (by kernel_rfl)) rfl ?_
  rw [HV.out]
  exact key _ (by repeat first | exact hB | refine below_sets _ (by omega) _ _ _ _ ?_ | refine Below.setCell ?_ (by first | omega | (simp; omega) | simp) _ | refine Below.alloc ?_ (by first | omega | (simp; omega) | simp) _) (T2.sets O2 (tcs v b) 0)
set_option maxRecDepth 100000 in
set_option maxHeartbeats 4000000 in
theorem rst_23 (u : Tn) (a : TA) (o : TnOk u) (ht : 0 ≤ u.tt ∧ u.tt ≤ 15) (hi : 0 ≤ u.d.it ∧ u.d.it ≤ 3) (hl : 1 ≤ u.d.ly ∧ u.d.ly ≤ 3) (hp : u.d.ph = 23) (w : World) (h : TnAt w u a) : Calls Tryz.prog 8 #[.agg (tcs u a).toArray] w (GsPost (spiC u) u true a w) := by
  have B1 : boxOf ((w.alloc (.cells (tcs u a).toArray 55)).alloc (.cells zT.toArray 55)) w.heap.size = some (tcs u a) := by simp [go_sem]
  have B2 : boxOf ((w.alloc (.cells (tcs u a).toArray 55)).alloc (.cells zT.toArray 55)) (w.heap.size + 1) = some zT := by simp [go_sem]
  have hs : w.heap.size + 1 < ((w.alloc (.cells (tcs u a).toArray 55)).alloc (.cells zT.toArray 55)).heap.size := by simp
  have hB : Below w.heap.size w ((w.alloc (.cells (tcs u a).toArray 55)).alloc (.cells zT.toArray 55)) := (belowN w _).alloc (by simp) _
  have h0 := h
  replace h := h.later hB
  go_enter Tryz.func8, Tryz.ntmps8
  go_wp2_with fail
  generalize ((w.alloc (.cells (tcs u a).toArray 55)).alloc (.cells zT.toArray 55)) = w1 at *
  have KG := hide (rspin_any u a o ht hi hl w1 h)
  have hL := hide (lv_spi u)
  obtain ⟨v, hv⟩ : ∃ v, spiC u = v := ⟨_, rfl⟩
  rw [hv] at KG hL
  have HV := hide hv
  clear hv
  refine KG.out.mono ?_
  rintro e w2 ht2
  obtain ⟨b, rfl, T2, off, hb1⟩ := wt_gp hL.out h ht2
  have off' : ∀ g, g < w.heap.size → Off g u a → Off g v b := fun g hg f => off g (by omega) f
  have O2 := off (w.heap.size + 1) hs (h0.off (by omega))
  replace B1 := boxOf_keep B1 hb1
  replace B2 := boxOf_keep B2 hb1
  replace hs := Nat.lt_of_lt_of_le hs hb1.size
  replace hB := below_next hB hB.size hb1
  clear hb1
  have key : ∀ W', Below w.heap.size w W' → TnAt W' v b → GsPost v u true a w (.returned (.tuple #[.agg (tcs v b).toArray, .bool true])) W' := fun W' hb tn => ⟨b, rfl, tn, off', hb⟩
  clear KG off off' ht2 h h0
  go_wp2
  refine bodyPost_ret (v := .tuple #[.agg (tcs v b).toArray, .bool true]) (results_box2 Tryz.results8 _ _ (w.heap.size + 1) _ _ _ rfl rfl (by simp [go_sem, B1, B2]) Tryz.underlying55 rfl (by kernel_rfl)) rfl ?_
  rw [HV.out]
  exact key _ (by repeat first | exact hB | refine below_sets _ (by omega) _ _ _ _ ?_ | refine Below.setCell ?_ (by first | omega | (simp; omega) | simp) _ | refine Below.alloc ?_ (by first | omega | (simp; omega) | simp) _) (T2.sets O2 (tcs v b) 0)
set_option maxRecDepth 100000 in
set_option maxHeartbeats 4000000 in
theorem rst_n (u : Tn) (a : TA) (h17 : (u.d.ph == 17) = false) (h18 : (u.d.ph == 18) = false) (h19 : (u.d.ph == 19) = false) (h20 : (u.d.ph == 20) = false) (h21 : (u.d.ph == 21) = false) (h22 : (u.d.ph == 22) = false) (h23 : (u.d.ph == 23) = false) (h24 : (u.d.ph == 24) = false) (h26 : (u.d.ph == 26) = false) (w : World) (h : TnAt w u a) : Calls Tryz.prog 8 #[.agg (tcs u a).toArray] w (GsPost u u false a w) := by
  have B1 : boxOf ((w.alloc (.cells (tcs u a).toArray 55)).alloc (.cells zT.toArray 55)) w.heap.size = some (tcs u a) := by simp [go_sem]
  have B2 : boxOf ((w.alloc (.cells (tcs u a).toArray 55)).alloc (.cells zT.toArray 55)) (w.heap.size + 1) = some zT := by simp [go_sem]
  have hs : w.heap.size + 1 < ((w.alloc (.cells (tcs u a).toArray 55)).alloc (.cells zT.toArray 55)).heap.size := by simp
  have hB : Below w.heap.size w ((w.alloc (.cells (tcs u a).toArray 55)).alloc (.cells zT.toArray 55)) := (belowN w _).alloc (by simp) _
  have h0 := h
  replace h := h.later hB
  go_enter Tryz.func8, Tryz.ntmps8
  go_upto_region 1 with fail
  generalize ((w.alloc (.cells (tcs u a).toArray 55)).alloc (.cells zT.toArray 55)) = w1 at *
  have key : ∀ W', Below w.heap.size w W' → GsPost u u false a w (.returned (.tuple #[.agg (tcs u a).toArray, .bool false])) W' := fun W' hb => ⟨a, rfl, h0.later hb, fun _ _ f => f, hb⟩
  clear h h0
  go_wp2
  refine bodyPost_ret (v := .tuple #[.agg (tcs u a).toArray, .bool false]) (results_box2 Tryz.results8 _ _ (w.heap.size + 1) _ _ _ rfl rfl (by simp [go_sem, B1, B2]) Tryz.underlying55 rfl (by kernel_rfl)) rfl ?_
  exact key _ (by repeat first | exact hB | refine below_sets _ (by omega) _ _ _ _ ?_ | refine Below.setCell ?_ (by first | omega | (simp; omega) | simp) _ | refine Below.alloc ?_ (by first | omega | (simp; omega) | simp) _)
theorem tcs_bx18 (u : Tn) (nb : List (List E3)) (a : TA) : tcs ({ u with bx := nb, d := { u.d with ph := 18 } } : Tn) a = tcs ({ u with d := { u.d with ph := 18 } } : Tn) a := by with_unfolding_all rfl
set_option maxRecDepth 100000 in
set_option maxHeartbeats 4000000 in
theorem rst_17 (u : Tn) (a : TA) (o : TnOk u) (ht : 0 ≤ u.tt ∧ u.tt ≤ 15) (hi : 0 ≤ u.d.it ∧ u.d.it ≤ 3) (hl : 1 ≤ u.d.ly ∧ u.d.ly ≤ 3) (hp : u.d.ph = 17) (w : World) (h : TnAt w u a) : Calls Tryz.prog 8 #[.agg (tcs u a).toArray] w (GsPost (shwC u) u true a w) := by
  have B1 : boxOf ((w.alloc (.cells (tcs u a).toArray 55)).alloc (.cells zT.toArray 55)) w.heap.size = some (tcs u a) := by simp [go_sem]
  have B2 : boxOf ((w.alloc (.cells (tcs u a).toArray 55)).alloc (.cells zT.toArray 55)) (w.heap.size + 1) = some zT := by simp [go_sem]
  have hs : w.heap.size + 1 < ((w.alloc (.cells (tcs u a).toArray 55)).alloc (.cells zT.toArray 55)).heap.size := by simp
  have hB : Below w.heap.size w ((w.alloc (.cells (tcs u a).toArray 55)).alloc (.cells zT.toArray 55)) := (belowN w _).alloc (by simp) _
  have h0 := h
  replace h := h.later hB
  go_enter Tryz.func8, Tryz.ntmps8
  go_wp2_with fail
  generalize ((w.alloc (.cells (tcs u a).toArray 55)).alloc (.cells zT.toArray 55)) = w1 at *
  have KS := rput_any a.mA a.mB a.p.bA a.mc a.md a.p.bc u.ws a.bs u.d.bl u.tt w1 h.m (by have := o.b; omega) h.th.b
  obtain ⟨nb, hnb⟩ : ∃ l, ptV u.bx u.tt u.d.bl = l := ⟨_, rfl⟩
  obtain ⟨ev, hev⟩ : ∃ e, erV u.bx.length u.tt = e := ⟨_, rfl⟩
  rw [h.bx, show erV a.bs.length u.tt = ev by rw [← hev, ← h.bx]; simp [boxes], hnb] at KS
  have HC : (ev = 0 ∧ Hid (shwC u = ({ u with bx := nb, d := { u.d with ph := 18 } } : Tn))) ∨ (ev = 30 ∧ Hid (shwC u = u)) := by
    have he : ev = 0 ∨ ev = 30 := by rw [← hev]; unfold erV; split <;> simp
    rcases he with he | he
    · exact .inl ⟨he, hide (by rw [shwC, if_pos (by rw [hev]; exact he), hnb])⟩
    · exact .inr ⟨he, hide (by rw [shwC, if_neg (by rw [hev, he]; decide)])⟩
  clear hnb hev
  refine KS.mono ?_
  rintro e w2 ⟨B', d', bs', rfl, hbx, kx, hb1⟩
  have T := tn_bx h hb1 o.b hbx kx (d := d')
  have O : ∀ g, w.heap.size ≤ g → g < w.heap.size + 1 + 1 → Off g ({ u with bx := nb } : Tn) ({ a with mB := B', md := d', bs := bs' } : TA) := fun g h1 h2 => off_bx (h0.off h1) (by omega) kx
  have off : ∀ g, g < w.heap.size → Off g u a → Off g ({ u with bx := nb, d := { u.d with ph := 18 } } : Tn) ({ a with mB := B', md := d', bs := bs' } : TA) := fun g h1 f => (show Lk ({ u with bx := nb } : Tn) ({ u with bx := nb, d := { u.d with ph := 18 } } : Tn) from ⟨rfl, rfl, rfl, rfl, rfl, rfl, rfl⟩).off (off_bx f (by omega) kx)
  replace B1 := boxOf_keep B1 hb1
  replace B2 := boxOf_keep B2 hb1
  replace hs := Nat.lt_of_lt_of_le hs hb1.size
  replace hB := below_next hB hB.size hb1
  clear hb1
  clear KS kx hbx h
  rcases HC with ⟨rfl, H⟩ | ⟨rfl, H⟩
  · have key : ∀ W', Below w.heap.size w W' → TnAt W' ({ u with bx := nb } : Tn) ({ a with mB := B', md := d', bs := bs' } : TA) → GsPost ({ u with bx := nb, d := { u.d with ph := 18 } } : Tn) u true a w (.returned (.tuple #[.agg (tcs ({ u with d := { u.d with ph := 18 } } : Tn) ({ a with mB := B', md := d', bs := bs' } : TA)).toArray, .bool true])) W' := fun W' hb tn => ⟨({ a with mB := B', md := d', bs := bs' } : TA), by rw [tcs_bx18 u nb], (show Lk ({ u with bx := nb } : Tn) ({ u with bx := nb, d := { u.d with ph := 18 } } : Tn) from ⟨rfl, rfl, rfl, rfl, rfl, rfl, rfl⟩).at tn, off, hb⟩
    go_wp2
    refine bodyPost_ret (v := .tuple #[.agg (tcs ({ u with d := { u.d with ph := 18 } } : Tn) ({ a with mB := B', md := d', bs := bs' } : TA)).toArray, .bool true]) (results_box2 Tryz.results8 _ _ (w.heap.size + 1) _ _ _ rfl rfl (by simp [go_sem, B1, B2]) Tryz.underlying55 rfl (by kernel_rfl)) rfl ?_
    rw [H.out]
    refine key _ (by repeat first | exact hB | refine below_sets _ (by omega) _ _ _ _ ?_ | refine Below.setCell ?_ (by first | omega | (simp; omega) | simp) _ | refine Below.alloc ?_ (by first | omega | (simp; omega) | simp) _) ?_
    repeat first | exact T | refine TnAt.set1 ?_ (O _ (by omega) (by omega)) _ _ | refine TnAt.sets ?_ (O _ (by omega) (by omega)) _ _ | refine TnAt.later ?_ (belowN _ _)
  · have key : ∀ W', Below w.heap.size w W' → GsPost u u true a w (.returned (.tuple #[.agg (tcs u a).toArray, .bool true])) W' := fun W' hBf => ⟨a, rfl, h0.later hBf, fun g _ f => f, hBf⟩
    clear T O off
    go_wp2
    refine bodyPost_ret (v := .tuple #[.agg (tcs u a).toArray, .bool true]) (results_box2 Tryz.results8 _ _ (w.heap.size + 1) _ _ _ rfl rfl (by simp [go_sem, B1, B2]) Tryz.underlying55 rfl (by kernel_rfl)) rfl ?_
    rw [H.out]
    exact key _ (by repeat first | exact hB | refine below_sets _ (by omega) _ _ _ _ ?_ | refine Below.setCell ?_ (by first | omega | (simp; omega) | simp) _ | refine Below.alloc ?_ (by first | omega | (simp; omega) | simp) _)
set_option maxRecDepth 100000 in
set_option maxHeartbeats 4000000 in
theorem rst_22 (u : Tn) (a : TA) (o : TnOk u) (ht : 0 ≤ u.tt ∧ u.tt ≤ 15) (hi : 0 ≤ u.d.it ∧ u.d.it ≤ 3) (hl : 1 ≤ u.d.ly ∧ u.d.ly ≤ 3) (hp : u.d.ph = 22) (w : World) (h : TnAt w u a) : Calls Tryz.prog 8 #[.agg (tcs u a).toArray] w (GsPost (absC u) u true a w) := by
  have B1 : boxOf ((w.alloc (.cells (tcs u a).toArray 55)).alloc (.cells zT.toArray 55)) w.heap.size = some (tcs u a) := by simp [go_sem]
  have B2 : boxOf ((w.alloc (.cells (tcs u a).toArray 55)).alloc (.cells zT.toArray 55)) (w.heap.size + 1) = some zT := by simp [go_sem]
  have hs : w.heap.size + 1 < ((w.alloc (.cells (tcs u a).toArray 55)).alloc (.cells zT.toArray 55)).heap.size := by simp
  have hB : Below w.heap.size w ((w.alloc (.cells (tcs u a).toArray 55)).alloc (.cells zT.toArray 55)) := (belowN w _).alloc (by simp) _
  have h0 := h
  replace h := h.later hB
  go_enter Tryz.func8, Tryz.ntmps8
  go_wp2_with fail
  generalize ((w.alloc (.cells (tcs u a).toArray 55)).alloc (.cells zT.toArray 55)) = w1 at *
  have hsh := hide (bx_short h0 u.d.who)
  have Q0 := rbox_any a.mA a.mB a.mc a.md u.ws a.bs u.d.who w1 h.m
  obtain ⟨l, hl'⟩ : ∃ l, bxV u.bx u.d.who = l := ⟨_, rfl⟩
  obtain ⟨ev, hev⟩ : ∃ e, erV u.bx.length u.d.who = e := ⟨_, rfl⟩
  rw [h.bx, show erV a.bs.length u.d.who = ev by rw [← hev, ← h.bx]; simp [boxes], hl'] at Q0
  rw [hl'] at hsh
  obtain ⟨T, hT⟩ : ∃ T, tkG u u.d.who l = T := ⟨_, rfl⟩
  have HC : (ev = 0 ∧ Hid (absC u = ({ T with d := { T.d with ph := 25 } } : Tn))) ∨ (ev = 30 ∧ Hid (absC u = u)) := by
    have he : ev = 0 ∨ ev = 30 := by rw [← hev]; unfold erV; split <;> simp
    rcases he with he | he
    · exact .inl ⟨he, hide (by rw [absC, if_pos (by rw [hev]; exact he), hl', absV, hT])⟩
    · exact .inr ⟨he, hide (by rw [absC, if_neg (by rw [hev, he]; decide)])⟩
  clear hl' hev
  refine Q0.mono ?_
  rintro e w2 ⟨A, c, rfl, sl, hb1⟩
  replace B1 := boxOf_keep B1 hb1
  replace B2 := boxOf_keep B2 hb1
  replace hs := Nat.lt_of_lt_of_le hs hb1.size
  replace hB := below_next hB hB.size hb1
  clear hb1
  clear Q0 h
  rcases HC with ⟨rfl, H⟩ | ⟨rfl, H⟩
  case inr =>
    clear hsh sl hT
    have key : ∀ W', Below w.heap.size w W' → GsPost u u true a w (.returned (.tuple #[.agg (tcs u a).toArray, .bool true])) W' := fun W' hBf => ⟨a, rfl, h0.later hBf, fun g _ f => f, hBf⟩
    go_wp2
    refine bodyPost_ret (v := .tuple #[.agg (tcs u a).toArray, .bool true]) (results_box2 Tryz.results8 _ _ (w.heap.size + 1) _ _ _ rfl rfl (by simp [go_sem, B1, B2]) Tryz.underlying55 rfl (by kernel_rfl)) rfl ?_
    rw [H.out]
    exact key _ (by repeat first | exact hB | refine below_sets _ (by omega) _ _ _ _ ?_ | refine Below.setCell ?_ (by first | omega | (simp; omega) | simp) _ | refine Below.alloc ?_ (by first | omega | (simp; omega) | simp) _)
  have T0 := h0.later hB
  have KT := fun W t sb => hide (rtake_any u a u.d.who l A c (by have := o.k; omega) (by have := o.b; omega) hsh.out W t sb)
  go_wp2_with fail
  refine (KT _ T0.th sl).out.mono ?_
  rintro e w3 ht3
  obtain ⟨b, rfl, T2, off, hb1⟩ := tk_gp T0 ht3
  rw [hT] at T2 off
  rw [hT]
  have O1 := off w.heap.size (by omega) (h0.off (Nat.le_refl _))
  have O2 := off (w.heap.size + 1) hs (h0.off (by omega))
  have off' : ∀ g, g < w.heap.size → Off g u a → Off g T b := fun g hg f => off g (by omega) f
  replace B1 := boxOf_keep B1 hb1
  replace B2 := boxOf_keep B2 hb1
  replace hs := Nat.lt_of_lt_of_le hs hb1.size
  replace hB := below_next hB hB.size hb1
  clear hb1
  have key : ∀ W', Below w.heap.size w W' → TnAt W' T b → GsPost ({ T with d := { T.d with ph := 25 } } : Tn) u true a w (.returned (.tuple #[.agg (tcs ({ T with d := { T.d with ph := 25 } } : Tn) b).toArray, .bool true])) W' := fun W' hBf tn => ⟨b, rfl, (show Lk T ({ T with d := { T.d with ph := 25 } } : Tn) from ⟨rfl, rfl, rfl, rfl, rfl, rfl, rfl⟩).at tn, fun g hg f => (show Lk T ({ T with d := { T.d with ph := 25 } } : Tn) from ⟨rfl, rfl, rfl, rfl, rfl, rfl, rfl⟩).off (off' g hg f), hBf⟩
  clear KT hT off ht3 T0 off' sl hsh h0
  go_wp2
  refine bodyPost_ret (v := .tuple #[.agg (tcs ({ T with d := { T.d with ph := 25 } } : Tn) b).toArray, .bool true]) (results_box2 Tryz.results8 _ _ (w.heap.size + 1) _ _ _ rfl rfl (by simp [go_sem, B1, B2]) Tryz.underlying55 rfl (by kernel_rfl)) rfl ?_
  rw [H.out]
  exact key _ (by repeat first | exact hB | refine below_sets _ (by omega) _ _ _ _ ?_ | refine Below.setCell ?_ (by first | omega | (simp; omega) | simp) _ | refine Below.alloc ?_ (by first | omega | (simp; omega) | simp) _) (((T2.sets O1 _ _).set1 O1 _ _).sets O2 _ _)
end Go.Proofs.YtjghdbkkjhnpfaaGreat
