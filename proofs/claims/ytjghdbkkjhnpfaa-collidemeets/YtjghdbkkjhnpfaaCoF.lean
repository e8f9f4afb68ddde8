/- Layer 15: Step: a step, what it reads or writes, what happens behind it. -/
import Derived.Test.YtjghdbkkjhnpfaaCoD
import Derived.Test.YtjghdbkkjhnpfaaCoG
import Derived.Lib.QuietBelow
import Derived.Deep.QuietTactic
import Derived.BigQuiet
import Derived.Laws.EntriesVeiled
import Derived.Deep.RegionHeld3
import Derived.Deep.RegionWith
import Derived.Deep.Cut
namespace Go.Proofs.Ytjghdbkkjhnpfaa
open Go.RowKit Go.Sort
set_option linter.unusedVariables false
set_option linter.unusedSimpArgs false

/-- Behind a step: how the turn lies, and a bool. -/
def GsPost (v u : Tn) (q : Bool) (a : TA) (w : World) (e : Ending) (w' : World) : Prop := ∃ b, e = .returned (.tuple #[.agg (tcs v b).toArray, .bool q]) ∧ TnAt w' v b ∧ (∀ g, g < w.heap.size → Off g u a → Off g v b) ∧ Below w.heap.size w w'
theorem if_nil (t : TypeId) (x : Value) (w : World) : (binOp .eql 20 (.iface t x) .nilIface).run Try.prog w = .ok (.bool false) w := by kernel_rfl
theorem nilif_nil (w : World) : (binOp .eql 20 .nilIface .nilIface).run Try.prog w = .ok (.bool true) w := by kernel_rfl
/-- Behind what a thread read or wrote: its new variables. -/
structure CAt (w : World) (u : Tn) (a : TA) (v : Tn) (b : TA) (q : Int) (p : Bool) (l : List E3) (A : Option Addr) (c k1 k2 : Nat) (W : World) : Prop where
  b1 : boxOf W k1 = some (tcs v b)
  b2 : boxOf W k2 = some [.int .i64 q, .bool p, .slice A l.length c]
  u1 : boxOf W w.heap.size = some (tcs u a)
  u2 : boxOf W (w.heap.size + 1) = some zT
  tn : TnAt W v b
  sa : Sees W W.heap.size 3 A l.length (ecells l)
  off : ∀ g, g < w.heap.size + 1 + 1 → Off g u a → Off g v b
  lo : Below w.heap.size w W
theorem ca_fin {w : World} {u : Tn} {a : TA} {v : Tn} {b : TA} {q : Int} {p : Bool} {l : List E3} {A : Option Addr} {c k1 k2 : Nat} {W : World} {zs ys : List Value} (T : TnAt W v b) (sa : Sees W W.heap.size 3 A l.length (ecells l)) (o1 : Off k1 v b) (o2 : Off k2 v b) (f1 : 0 < l.length → ∀ p, A = some p → p.block ≠ k1) (f2 : 0 < l.length → ∀ p, A = some p → p.block ≠ k2)
    (b1 : boxOf W k1 = some zs) (h1 : zs.length = 37) (b2 : boxOf W k2 = some ys) (h2 : ys.length = 3) (u1 : boxOf W w.heap.size = some (tcs u a)) (u2 : boxOf W (w.heap.size + 1) = some zT) (e1 : w.heap.size + 1 < k1) (e2 : w.heap.size + 1 < k2) (e3 : k1 ≠ k2) (off : ∀ g, g < w.heap.size + 1 + 1 → Off g u a → Off g v b) (lo : Below w.heap.size w W) :
    CAt w u a v b q p l A c k1 k2 ((((W.setCells k1 0 (tcs v b)).setCell ⟨k2, 0, none⟩ (.int .i64 q)).setCell ⟨k2, 1, none⟩ (.bool p)).setCell ⟨k2, 2, none⟩ (.slice A l.length c)) := by
  have c1 := boxOf_whole W k1 (tcs v b) b1 (by rw [h1]; rfl)
  have c2 : boxOf (W.setCells k1 0 (tcs v b)) k2 = some ys := by rw [boxOf_sets_far _ _ e3]; exact b2
  refine ⟨?_, ?_, ?_, ?_, ?_, ?_, off, ?_⟩
  · rw [boxOf_far _ _ _ _ (Ne.symm e3), boxOf_far _ _ _ _ (Ne.symm e3), boxOf_far _ _ _ _ (Ne.symm e3)]; exact c1
  · match ys, h2 with
    | [x, y, z], _ => rw [boxOf_set _ _ _ _ (boxOf_set _ _ _ _ (boxOf_set _ _ _ _ c2))]; rfl
  · rw [boxOf_far _ _ _ _ (by show k2 ≠ _; omega), boxOf_far _ _ _ _ (by show k2 ≠ _; omega), boxOf_far _ _ _ _ (by show k2 ≠ _; omega), boxOf_sets_far _ _ (by omega)]; exact u1
  · rw [boxOf_far _ _ _ _ (by show k2 ≠ _; omega), boxOf_far _ _ _ _ (by show k2 ≠ _; omega), boxOf_far _ _ _ _ (by show k2 ≠ _; omega), boxOf_sets_far _ _ (by omega)]; exact u2
  · exact (((T.sets o1 _ _).set1 o2 _ _).set1 o2 _ _).set1 o2 _ _
  · exact (((sa.setsC _ f1 _ _).own1 _ _ _ f2).own1 _ _ _ f2).own1 _ _ _ f2
  · exact (((below_sets _ (by omega) _ _ _ _ lo).setCell (by show _ ≤ k2; omega) _).setCell (by show _ ≤ k2; omega) _).setCell (by show _ ≤ k2; omega) _
theorem box_new2 {W w' : World} {zs ys : Array Value} {t r : TypeId} (hb : Below ((W.alloc (.cells zs t)).alloc (.cells ys r)).heap.size ((W.alloc (.cells zs t)).alloc (.cells ys r)) w') : boxOf w' W.heap.size = some zs.toList ∧ boxOf w' (W.heap.size + 1) = some ys.toList ∧ W.heap.size + 1 < w'.heap.size := ⟨boxOf_keep (boxOf_keep (boxOf_newA _ _ _ _ rfl) (belowN _ _)) hb, boxOf_keep (boxOf_newA _ _ _ _ (by simp)) hb, by have := hb.size; simp at this; omega⟩
theorem box_new2d {W w' : World} {zs ys : Array Value} {t r : TypeId} (hb : Below ((W.alloc (.cells zs t)).alloc (.cells ys r)).drew.heap.size ((W.alloc (.cells zs t)).alloc (.cells ys r)).drew w') : boxOf w' W.heap.size = some zs.toList ∧ boxOf w' (W.heap.size + 1) = some ys.toList ∧ W.heap.size + 1 < w'.heap.size := ⟨boxOf_keep (w := ((W.alloc (.cells zs t)).alloc (.cells ys r)).drew) (by rw [boxOf_drew]; exact boxOf_keep (boxOf_newA W zs t _ rfl) (belowN _ _)) hb, boxOf_keep (w := ((W.alloc (.cells zs t)).alloc (.cells ys r)).drew) (by rw [boxOf_drew]; exact boxOf_newA _ _ _ _ (by simp)) hb, by have := hb.size; simp at this; omega⟩
attribute [local irreducible] tcs thc ccs zT
attribute [local go_sem ↓] alTn_is alRn_is
attribute [local go_sem] run_alTnf run_alTnt run_alRnf run_alRnt zT_length
attribute [local go_sem ↓] lbTn_is lbRn_is lbTh_is lbRh_is lbCf_is lbRc_is sbTn_is sbRn_is sbTh_is sbRh_is sbCf_is sbRc_is
attribute [local go_sem] run_lbTn run_lbRn run_lbTh run_lbRh run_lbCf run_lbRc run_sbTn run_sbRn run_sbTh run_sbRh run_sbCf run_sbRc
attribute [local go_sem 2000] boxOf_old'
attribute [local go_sem] boxOf_at' boxOf_free' boxOf_alloc objBox_cells objBox_cellsA boxOf_drew boxOf_setI boxOf_setsI size_sets tcs_length thc_length ccs_length tcs_one thc_one ccs_one sub_tn sub_th sub_cf sub_thAll sub_cfAll put_turn put_thread
attribute [local go_sem] tc0 tc1 tc2 tc3 tc4 tc5 tc6 tc7 tc8 tc9 tc10 tc11 tc12 tc13 tc14 tc15 tc16 tc17 tc18 tc19 tc20 tc21 tc22 tc23 tc24 tc25 tc26 tc27 tc28 tc29 tc30 tc31 tc32 tc33 tc34 tc35 tc36 hc0 hc1 hc2 hc3 hc4 hc5 hc6 hc7 hc8 hc9 hc10 hc11 hc12 hc13 hc14 hc15 hc16 kc0 kc1 kc2 kc3 kc4 kc5 kc6 kc7 kc8 kc9 kc10 kc11 tg0 tg1 tg2 tg3 tg4 tg5 tg6 tg7 tg8 tg9 tg10 tg11 tg12 tg13 tg14 tg15 tg16 tg17 tg18 tg19 tg20 tg21 tg22 tg23 tg24 tg25 tg26 tg27 tg28 tg29 tg30 tg31 tg32 tg33 tg34 tg35 tg36 hg0 hg1 hg2 hg3 hg4 hg5 hg6 hg7 hg8 hg9 hg10 hg11 hg12 hg13 hg14 hg15 hg16 kg0 kg1 kg2 kg3 kg4 kg5 kg6 kg7 kg8 kg9 kg10 kg11
attribute [local go_sem] ts12 ts13 ts14 ts16 ts17 ts18 ts19 ts20 ts21 ts22 ts23 ts24 ts25 ts26 ts27 ts28 ts29 ts30 ts31 ts32 ts33 ts34 ts35 ts36 ts15 hs0 hs1 hs2 hs3 hs7 hs8 hs9 hs10 hs11 hs12 hs13 hs14 hs15 hs16

attribute [local go_sem] if_nil nilif_nil
set_option maxRecDepth 100000 in
set_option maxHeartbeats 4000000 in
theorem step_gen (u : Tn) (a : TA) (v : Tn) (q : Int) (p : Bool) (l : List E3) (ev : Int) (z : Tn) (hev : ev = 0 ∨ ev = 30) (w : World) (h : TnAt w u a)
    (KS : ∀ W, TnAt W u a → Calls Try.prog 25 #[.agg (tcs u a).toArray] W (fun e w' => ∃ t x X, e = .returned (.iface t x) ∧ (∀ W', Below w'.heap.size w' W' → Calls Try.prog 26 #[.agg (tcs u a).toArray, .iface t x] W' (DoPost X v q p l ev u a W')) ∧ (∀ g, g < W.heap.size ∨ w'.heap.size ≤ g → X g) ∧ Below W.heap.size W w'))
    (KG : ev = 0 → ∀ W b A c, TnAt W v b → Sees W W.heap.size 3 A l.length (ecells l) → Calls Try.prog 27 #[.agg (tcs v b).toArray, .agg #[.int .i64 q, .bool p, .slice A l.length c]] W (GPost z v b W)) :
    Calls Try.prog 13 #[.agg (tcs u a).toArray] w (GsPost (if ev = 0 then z else u) u true a w) := by
  have KS' := fun W t => hide (KS W t)
  have KG' := hide KG
  obtain ⟨rv, hrv⟩ : ∃ x, (if ev = 0 then z else u) = x := ⟨_, rfl⟩
  rw [hrv]
  have HR := hide hrv
  clear KS KG hrv
  have B1 : boxOf ((w.alloc (.cells (tcs u a).toArray 38)).alloc (.cells zT.toArray 38)) w.heap.size = some (tcs u a) := by simp [go_sem]
  have B2 : boxOf ((w.alloc (.cells (tcs u a).toArray 38)).alloc (.cells zT.toArray 38)) (w.heap.size + 1) = some zT := by simp [go_sem]
  have hs : w.heap.size + 1 < ((w.alloc (.cells (tcs u a).toArray 38)).alloc (.cells zT.toArray 38)).heap.size := by simp
  have hB : Below w.heap.size w ((w.alloc (.cells (tcs u a).toArray 38)).alloc (.cells zT.toArray 38)) := (belowN w _).alloc (by simp) _
  have h0 := h
  replace h := h.later hB
  go_enter Try.func13, Try.ntmps13
  go_wp2_with fail
  generalize ((w.alloc (.cells (tcs u a).toArray 38)).alloc (.cells zT.toArray 38)) = wz at *
  refine (KS' _ h).out.mono ?_
  rintro e w1 ⟨t, x, X, rfl, KD, hX, hb1⟩
  have hX0 : ∀ g, g < w.heap.size + 1 + 1 → X g := fun g hg => hX g (.inl (by omega))
  have hX1 : ∀ g, w1.heap.size ≤ g → X g := fun g hg => hX g (.inr hg)
  have KD' := fun W hb => hide (KD W hb)
  replace B1 := boxOf_keep B1 hb1
  replace B2 := boxOf_keep B2 hb1
  replace hs := Nat.lt_of_lt_of_le hs hb1.size
  replace hB := below_next hB hB.size hb1
  replace h := h.later hb1
  clear hb1
  clear KS' KD hX
  go_wp2_with fail
  refine (KD' _ (Below.refl _ _)).out.mono ?_
  rintro e w2 ⟨b, A, c, rfl, T2, sA, off2, hb2⟩
  have off' : ∀ g, g < w.heap.size + 1 + 1 → Off g u a → Off g v b := fun g hg f => off2 g (by omega) f (hX0 g hg)
  replace B1 := boxOf_keep B1 hb2
  replace B2 := boxOf_keep B2 hb2
  replace hB := below_next hB hB.size hb2
  replace hs := Nat.lt_of_lt_of_le hs hb2.size
  clear KD' hX0 hX1 off2 hb2
  have hst : CAt w u a v b q p l A c w2.heap.size (w2.heap.size + 1) ((((((w2.alloc (.cells zT.toArray 38)).alloc (.cells #[.int .i64 0, .bool false, .slice none 0 0] 75)).setCells w2.heap.size 0 (tcs v b)).setCell ⟨w2.heap.size + 1, 0, none⟩ (.int .i64 q)).setCell ⟨w2.heap.size + 1, 1, none⟩ (.bool p)).setCell ⟨w2.heap.size + 1, 2, none⟩ (.slice A l.length c)) := by
    have hA : Below w2.heap.size w2 ((w2.alloc (.cells zT.toArray 38)).alloc (.cells #[.int .i64 0, .bool false, .slice none 0 0] 75)) := (belowN _ _).alloc (by simp) _
    exact ca_fin (T2.later hA) (sA.later hA) (T2.off (Nat.le_refl _)) (T2.off (Nat.le_succ _)) (sA.off (Nat.le_refl _)) (sA.off (Nat.le_succ _)) (boxOf_keep (boxOf_newA _ _ _ _ rfl) (belowN _ _)) (by simp [zT_length]) (boxOf_newA _ _ _ _ (by simp)) rfl (boxOf_keep B1 hA) (boxOf_keep B2 hA) hs (by omega) (by omega) off' (below_next hB hB.size hA)
  go_upto_region 5 with fail
  generalize ((((((w2.alloc (.cells zT.toArray 38)).alloc (.cells #[.int .i64 0, .bool false, .slice none 0 0] 75)).setCells w2.heap.size 0 (tcs v b)).setCell ⟨w2.heap.size + 1, 0, none⟩ (.int .i64 q)).setCell ⟨w2.heap.size + 1, 1, none⟩ (.bool p)).setCell ⟨w2.heap.size + 1, 2, none⟩ (.slice A l.length c)) = wc at *
  obtain ⟨k1, hk1⟩ : ∃ k, w2.heap.size = k := ⟨_, rfl⟩
  rw [hk1] at hst ⊢
  clear T2 sA B1 B2 hB off'
  obtain ⟨B1, B2, U1, U2, T2, sA, off, hB⟩ := hst
  have hs1 : w.heap.size + 1 < k1 := by omega
  have hl1 := boxOf_lt B2
  clear hk1 hs
  rcases hev with rfl | rfl
  case inr =>
    have e : u = rv := by rw [← HR.out]; rfl
    subst e
    have key : ∀ W', Below w.heap.size w W' → GsPost u u true a w (.returned (.tuple #[.agg (tcs u a).toArray, .bool true])) W' := fun W' hb => ⟨a, rfl, h0.later hb, fun _ _ f => f, hb⟩
    clear KG' HR T2 sA off h h0
    go_wp2
    refine bodyPost_ret (v := .tuple #[.agg (tcs u a).toArray, .bool true]) (results_box2 Try.results13 _ _ (w.heap.size + 1) _ _ _ rfl rfl (by simp [go_sem, U1, U2]) Try.underlying38 rfl (by kernel_rfl)) rfl ?_
    exact key _ (by repeat first | exact hB | refine below_sets _ (by omega) _ _ _ _ ?_ | refine Below.setCell ?_ (by first | omega | (simp; omega) | simp) _ | refine Below.alloc ?_ (by first | omega | (simp; omega) | simp) _)
  have e : z = rv := by rw [← HR.out]; rfl
  subst e
  have KZ := hide (KG'.out rfl wc b A c T2 sA)
  clear KG' HR
  go_wp2_with fail
  refine KZ.out.mono ?_
  rintro e w3 ⟨bz, rfl, T3, off3, hb3⟩
  have O2 := off3 (w.heap.size + 1) (boxOf_lt U2) (off _ (by omega) (h0.off (by omega)))
  have offz : ∀ g, g < w.heap.size → Off g u a → Off g z bz := fun g hg f => off3 g (by have := boxOf_lt U1; omega) (off g (by omega) f)
  replace U2 := boxOf_keep U2 hb3
  replace hB := below_next hB hB.size hb3
  have key : ∀ W', Below w.heap.size w W' → TnAt W' z bz → GsPost z u true a w (.returned (.tuple #[.agg (tcs z bz).toArray, .bool true])) W' := fun W' hb tn => ⟨bz, rfl, tn, offz, hb⟩
  clear KZ off off3 offz h h0 T2 sA B1 B2 U1 hb3
  go_wp2
  refine bodyPost_ret (v := .tuple #[.agg (tcs z bz).toArray, .bool true]) (results_box2 Try.results13 _ _ (w.heap.size + 1) _ _ _ rfl rfl (by simp [go_sem, U2]) Try.underlying38 rfl (by kernel_rfl)) rfl ?_
  exact key _ (by repeat first | exact hB | refine below_sets _ (by omega) _ _ _ _ ?_ | refine Below.setCell ?_ (by first | omega | (simp; omega) | simp) _ | refine Below.alloc ?_ (by first | omega | (simp; omega) | simp) _) (T3.sets O2 _ 0)
set_option maxRecDepth 100000 in
set_option maxHeartbeats 4000000 in
theorem step_none (u : Tn) (a : TA) (w : World) (h : TnAt w u a) (KS : ∀ W, Calls Try.prog 25 #[.agg (tcs u a).toArray] W (fun e w' => e = .returned .nilIface ∧ Below W.heap.size W w')) : Calls Try.prog 13 #[.agg (tcs u a).toArray] w (GsPost u u false a w) := by
  have KS' := fun W => hide (KS W)
  clear KS
  have B1 : boxOf ((w.alloc (.cells (tcs u a).toArray 38)).alloc (.cells zT.toArray 38)) w.heap.size = some (tcs u a) := by simp [go_sem]
  have B2 : boxOf ((w.alloc (.cells (tcs u a).toArray 38)).alloc (.cells zT.toArray 38)) (w.heap.size + 1) = some zT := by simp [go_sem]
  have hs : w.heap.size + 1 < ((w.alloc (.cells (tcs u a).toArray 38)).alloc (.cells zT.toArray 38)).heap.size := by simp
  have hB : Below w.heap.size w ((w.alloc (.cells (tcs u a).toArray 38)).alloc (.cells zT.toArray 38)) := (belowN w _).alloc (by simp) _
  have h0 := h
  replace h := h.later hB
  go_enter Try.func13, Try.ntmps13
  go_wp2_with fail
  generalize ((w.alloc (.cells (tcs u a).toArray 38)).alloc (.cells zT.toArray 38)) = wz at *
  refine (KS' _).out.mono ?_
  rintro e w1 ⟨rfl, hb1⟩
  replace B1 := boxOf_keep B1 hb1
  replace B2 := boxOf_keep B2 hb1
  replace hs := Nat.lt_of_lt_of_le hs hb1.size
  replace hB := below_next hB hB.size hb1
  clear hb1
  clear KS'
  have key : ∀ W', Below w.heap.size w W' → GsPost u u false a w (.returned (.tuple #[.agg (tcs u a).toArray, .bool false])) W' := fun W' hb => ⟨a, rfl, h0.later hb, fun _ _ f => f, hb⟩
  clear h
  go_wp2
  refine bodyPost_ret (v := .tuple #[.agg (tcs u a).toArray, .bool false]) (results_box2 Try.results13 _ _ (w.heap.size + 1) _ _ _ rfl rfl (by simp [go_sem, B1, B2]) Try.underlying38 rfl (by kernel_rfl)) rfl ?_
  exact key _ (by repeat first | exact hB | refine below_sets _ (by omega) _ _ _ _ ?_ | refine Below.setCell ?_ (by first | omega | (simp; omega) | simp) _ | refine Below.alloc ?_ (by first | omega | (simp; omega) | simp) _)
end Go.Proofs.Ytjghdbkkjhnpfaa
