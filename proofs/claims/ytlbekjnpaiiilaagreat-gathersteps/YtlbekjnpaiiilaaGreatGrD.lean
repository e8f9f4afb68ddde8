/- The document's Step: those that gather, free, publish; of whatever turn. -/
import Derived.Test.YtlbekjnpaiiilaaGreatGrC
import Derived.Test.YtlbekjnpaiiilaaGreatGrB
import Derived.Test.YtlbekjnpaiiilaaGreatGrT
import Derived.Test.YtlbekjnpaiiilaaGreatGrA
import Derived.Test.YtlbekjnpaiiilaaGreatGaF
import Derived.Test.YtlbekjnpaiiilaaGreatGaP
import Derived.Test.YtlbekjnpaiiilaaGreatGaO
import Derived.Test.YtlbekjnpaiiilaaGreatGaE
import Derived.Test.YtlbekjnpaiiilaaGreatGaR
import Derived.Test.YtlbekjnpaiiilaaGreatGaA
import Derived.Test.YtlbekjnpaiiilaaGreatM2
import Derived.Test.YtlbekjnpaiiilaaGreatM6
import Derived.Lib.QuietBelow
import Derived.Deep.QuietTactic
import Derived.BigQuiet
import Derived.Deep.RegionHeld3
import Derived.Deep.Cut
namespace Go.Proofs.YtlbekjnpaiiilaaGreat
open Go.RowKit Go.Sort
set_option linter.unusedVariables false
set_option linter.unusedSimpArgs false

attribute [local irreducible] tcs thc ccs zT
attribute [local go_sem ↓] alTn_is alRn_is
attribute [local go_sem] run_alTnf run_alTnt run_alRnf run_alRnt zT_length
attribute [local go_sem ↓] lbTn_is lbRn_is lbTh_is lbRh_is lbCf_is lbRc_is sbTn_is sbRn_is sbTh_is sbRh_is sbCf_is sbRc_is
attribute [local go_sem] run_lbTn run_lbRn run_lbTh run_lbRh run_lbCf run_lbRc run_sbTn run_sbRn run_sbTh run_sbRh run_sbCf run_sbRc
attribute [local go_sem 2000] boxOf_old'
attribute [local go_sem] boxOf_at' boxOf_free' boxOf_alloc objBox_cells objBox_cellsA boxOf_drew boxOf_setI boxOf_setsI size_sets tcs_length thc_length ccs_length tcs_one thc_one ccs_one sub_tn sub_th sub_cf sub_thAll sub_cfAll put_turn put_thread
attribute [local go_sem] tc0 tc1 tc2 tc3 tc4 tc5 tc6 tc7 tc8 tc9 tc10 tc11 tc12 tc13 tc14 tc15 tc16 tc17 tc18 tc19 tc20 tc21 tc22 tc23 tc24 tc25 tc26 tc27 tc28 tc29 tc30 tc31 tc32 tc33 tc34 tc35 tc36 hc0 hc1 hc2 hc3 hc4 hc5 hc6 hc7 hc8 hc9 hc10 hc11 hc12 hc13 hc14 hc15 hc16 kc0 kc1 kc2 kc3 kc4 kc5 kc6 kc7 kc8 kc9 kc10 kc11 tg0 tg1 tg2 tg3 tg4 tg5 tg6 tg7 tg8 tg9 tg10 tg11 tg12 tg13 tg14 tg15 tg16 tg17 tg18 tg19 tg20 tg21 tg22 tg23 tg24 tg25 tg26 tg27 tg28 tg29 tg30 tg31 tg32 tg33 tg34 tg35 tg36 hg0 hg1 hg2 hg3 hg4 hg5 hg6 hg7 hg8 hg9 hg10 hg11 hg12 hg13 hg14 hg15 hg16 kg0 kg1 kg2 kg3 kg4 kg5 kg6 kg7 kg8 kg9 kg10 kg11
attribute [local go_sem] ts12 ts13 ts14 ts16 ts17 ts18 ts19 ts20 ts21 ts22 ts23 ts24 ts25 ts26 ts27 ts28 ts29 ts30 ts31 ts32 ts33 ts34 ts35 ts36 ts15 hs0 hs1 hs2 hs3 hs7 hs8 hs9 hs10 hs11 hs12 hs13 hs14 hs15 hs16

attribute [local go_sem] ts15g
set_option maxRecDepth 100000 in
set_option maxHeartbeats 4000000 in
theorem rst_9 (u : Tn) (a : TA) (o : TnOk u) (ht : 0 ≤ u.tt ∧ u.tt ≤ 15) (hp : u.d.ph = 9) (w : World) (h : TnAt w u a) : Calls Tryz.prog 8 #[.agg (tcs u a).toArray] w (GsPost (colG u) u true a w) := by
  have B1 : boxOf ((w.alloc (.cells (tcs u a).toArray 55)).alloc (.cells zT.toArray 55)) w.heap.size = some (tcs u a) := by simp [go_sem]
  have B2 : boxOf ((w.alloc (.cells (tcs u a).toArray 55)).alloc (.cells zT.toArray 55)) (w.heap.size + 1) = some zT := by simp [go_sem]
  have hs : w.heap.size + 1 < ((w.alloc (.cells (tcs u a).toArray 55)).alloc (.cells zT.toArray 55)).heap.size := by simp
  have hB : Below w.heap.size w ((w.alloc (.cells (tcs u a).toArray 55)).alloc (.cells zT.toArray 55)) := (belowN w _).alloc (by simp) _
  have h0 := h
  replace h := h.later hB
  go_enter Tryz.func8, Tryz.ntmps8
  go_wp2_with fail
  generalize ((w.alloc (.cells (tcs u a).toArray 55)).alloc (.cells zT.toArray 55)) = wz at *
  refine (rheld_any u a o _ h).mono ?_
  rintro e w1 ⟨rfl, hb1⟩
  replace B1 := boxOf_keep B1 hb1
  replace B2 := boxOf_keep B2 hb1
  replace hs := Nat.lt_of_lt_of_le hs hb1.size
  replace hB := below_next hB hB.size hb1
  replace h := h.later hb1
  clear hb1
  have Q0 := fun W m => hide (rbox_any a.mA a.mB a.mc a.md u.ws a.bs u.d.who W m)
  have hsh := hide (bx_short h.m u.d.who)
  have he : erV a.bs.length u.d.who = 0 ∨ erV a.bs.length u.d.who = 30 := by unfold erV; split <;> simp
  have hlen : u.bx.length = a.bs.length := by rw [← h0.bx, boxes_length]
  rw [h0.bx] at hsh
  simp only [h0.bx] at Q0
  obtain ⟨l, hl⟩ : ∃ l, bxV u.bx u.d.who = l := ⟨_, rfl⟩
  simp only [hl] at Q0
  rw [hl] at hsh
  have HC : (erV a.bs.length u.d.who = 0 ∧ Hid (colG u = { tkG u u.d.who l with d := { (tkG u u.d.who l).d with ph := 10 } })) ∨ (erV a.bs.length u.d.who = 30 ∧ Hid (colG u = u)) := by
    rcases he with he | he
    · exact .inl ⟨he, hide (by rw [colG, hlen, if_pos he, hl])⟩
    · exact .inr ⟨he, hide (by rw [colG, hlen, if_neg (by rw [he]; decide)])⟩
  clear he hlen hl
  go_wp2_with fail
  refine (Q0 _ h.m).out.mono ?_
  rintro e w2 ⟨A, c, rfl, sl, hb1⟩
  replace B1 := boxOf_keep B1 hb1
  replace B2 := boxOf_keep B2 hb1
  replace hs := Nat.lt_of_lt_of_le hs hb1.size
  replace hB := below_next hB hB.size hb1
  clear hb1
  clear Q0 h
  rcases HC with ⟨he, H⟩ | ⟨he, H⟩
  case inr =>
    rw [he]
    clear he hsh sl
    have key : ∀ W', Below w.heap.size w W' → GsPost u u true a w (.returned (.tuple #[.agg (tcs u a).toArray, .bool true])) W' := fun W' hBf => ⟨a, rfl, h0.later hBf, fun g _ f => f, hBf⟩
    go_wp2
    refine bodyPost_ret (v := .tuple #[.agg (tcs u a).toArray, .bool true]) (results_box2 Tryz.results8 _ _ (w.heap.size + 1) _ _ _ rfl rfl (by simp [go_sem, B1, B2]) Tryz.underlying55 rfl (by kernel_rfl)) rfl ?_
    rw [H.out]
    exact key _ (by repeat first | exact hB | refine below_sets _ (by omega) _ _ _ _ ?_ | refine Below.setCell ?_ (by first | omega | (simp; omega) | simp) _ | refine Below.alloc ?_ (by first | omega | (simp; omega) | simp) _)
  rw [he]
  clear he
  have T0 := h0.later hB
  have KT := fun W t sb => hide (rtake_any u a u.d.who l A c (by have := o.k; omega) (by have := o.b; omega) hsh.out W t sb)
  go_wp2_with fail
  refine (KT _ T0.th sl).out.mono ?_
  rintro e w3 ht3
  obtain ⟨b, rfl, T2, off, hb1⟩ := tk_gp T0 ht3
  have O1 := off w.heap.size (by omega) (h0.off (Nat.le_refl _))
  have O2 := off (w.heap.size + 1) hs (h0.off (by omega))
  have off' : ∀ g, g < w.heap.size → Off g u a → Off g (tkG u u.d.who l) b := fun g hg f => off g (by omega) f
  replace B1 := boxOf_keep B1 hb1
  replace B2 := boxOf_keep B2 hb1
  replace hs := Nat.lt_of_lt_of_le hs hb1.size
  replace hB := below_next hB hB.size hb1
  clear hb1
  obtain ⟨T, hT⟩ : ∃ T, tkG u u.d.who l = T := ⟨_, rfl⟩
  rw [hT] at H T2 O1 O2 off' ⊢
  have key : ∀ W', Below w.heap.size w W' → TnAt W' T b → GsPost ({ T with d := { T.d with ph := 10 } } : Tn) u true a w (.returned (.tuple #[.agg (tcs ({ T with d := { T.d with ph := 10 } } : Tn) b).toArray, .bool true])) W' := fun W' hBf tn => ⟨b, rfl, (show Lk T ({ T with d := { T.d with ph := 10 } } : Tn) from ⟨rfl, rfl, rfl, rfl, rfl, rfl, rfl⟩).at tn, fun g hg f => (show Lk T ({ T with d := { T.d with ph := 10 } } : Tn) from ⟨rfl, rfl, rfl, rfl, rfl, rfl, rfl⟩).off (off' g hg f), hBf⟩
  clear KT hT off ht3 T0 off' sl hsh
  go_wp2
  refine bodyPost_ret (v := .tuple #[.agg (tcs ({ T with d := { T.d with ph := 10 } } : Tn) b).toArray, .bool true]) (results_box2 Tryz.results8 _ _ (w.heap.size + 1) _ _ _ rfl rfl (by simp [go_sem, B1, B2]) Tryz.underlying55 rfl (by kernel_rfl)) rfl ?_
  rw [H.out]
  exact key _ (by repeat first | exact hB | refine below_sets _ (by omega) _ _ _ _ ?_ | refine Below.setCell ?_ (by first | omega | (simp; omega) | simp) _ | refine Below.alloc ?_ (by first | omega | (simp; omega) | simp) _) (((T2.sets O1 _ _).set1 O1 _ _).sets O2 _ _)
set_option maxRecDepth 100000 in
set_option maxHeartbeats 4000000 in
theorem rst_10 (u : Tn) (a : TA) (o : TnOk u) (ht : 0 ≤ u.tt ∧ u.tt ≤ 15) (hp : u.d.ph = 10) (w : World) (h : TnAt w u a) : Calls Tryz.prog 8 #[.agg (tcs u a).toArray] w (WsPost (freG u) true a w) := by
  have B1 : boxOf ((w.alloc (.cells (tcs u a).toArray 55)).alloc (.cells zT.toArray 55)) w.heap.size = some (tcs u a) := by simp [go_sem]
  have B2 : boxOf ((w.alloc (.cells (tcs u a).toArray 55)).alloc (.cells zT.toArray 55)) (w.heap.size + 1) = some zT := by simp [go_sem]
  have hs : w.heap.size + 1 < ((w.alloc (.cells (tcs u a).toArray 55)).alloc (.cells zT.toArray 55)).heap.size := by simp
  have hB : Below w.heap.size w ((w.alloc (.cells (tcs u a).toArray 55)).alloc (.cells zT.toArray 55)) := (belowN w _).alloc (by simp) _
  have h0 := h
  replace h := h.later hB
  go_enter Tryz.func8, Tryz.ntmps8
  go_wp2_with fail
  generalize ((w.alloc (.cells (tcs u a).toArray 55)).alloc (.cells zT.toArray 55)) = wz at *
  refine (rheld_any u a o _ h).mono ?_
  rintro e w1 ⟨rfl, hb1⟩
  replace B1 := boxOf_keep B1 hb1
  replace B2 := boxOf_keep B2 hb1
  replace hs := Nat.lt_of_lt_of_le hs hb1.size
  replace hB := below_next hB hB.size hb1
  replace h := h.later hb1
  clear hb1
  obtain ⟨nw, hnw⟩ : ∃ x, stV u.ws (hdP u) 0 = x := ⟨_, rfl⟩
  obtain ⟨ev, hev⟩ : ∃ x, erV u.ws.length (hdP u) = x := ⟨_, rfl⟩
  have he : ev = 0 ∨ ev = 30 := by rw [← hev]; unfold erV; split <;> simp
  have HN : Hid (nw.length = u.ws.length) := hide (by rw [← hnw]; exact stV_length _ _ _)
  have HC : (ev = 0 ∧ Hid (freG u = nxG ({ u with ws := nw } : Tn))) ∨ (ev = 30 ∧ Hid (freG u = u)) := by
    rcases he with he | he
    · exact .inl ⟨he, hide (by rw [freG, if_pos (by rw [hev]; exact he), hnw])⟩
    · exact .inr ⟨he, hide (by rw [freG, if_neg (by rw [hev, he]; decide)])⟩
  have KS := fun W m => hide (rstore_any a.mA a.mB a.mc a.md u.ws a.bs (hdP u) 0 W m)
  rw [hnw, hev] at KS
  clear hnw hev he
  go_wp2_with fail
  refine (KS _ h.m).out.mono ?_
  rintro e w2 ⟨A, c, rfl, sA, hA, hb1⟩
  have hal := hide (h0.m.words.block_lt)
  have hoo : A = a.mA ∨ Fresh w A := hA.imp_right (fun f p hp => by have := f p hp; have := hB.size; omega)
  have fa : 0 < nw.length → ∀ p, A = some p → p.block ≠ w.heap.size ∧ p.block ≠ w.heap.size + 1 := fun hn p hp => by
    rcases hA with e | f
    · have := hal.out (by rw [← HN.out]; exact hn) p (e ▸ hp); omega
    · have := f p hp; omega
  replace B1 := boxOf_keep B1 hb1
  replace B2 := boxOf_keep B2 hb1
  replace hs := Nat.lt_of_lt_of_le hs hb1.size
  replace hB := below_next hB hB.size hb1
  clear hb1
  clear KS h hA
  rcases HC with ⟨rfl, H⟩ | ⟨rfl, H⟩
  · go_wp2_with fail
    have hBx : Below w.heap.size w (((w2.alloc (.cells #[.slice A nw.length c, .slice a.mB a.bs.length a.md] 46)).setCell ⟨w.heap.size, 14, none⟩ (.slice A nw.length c)).setCell ⟨w.heap.size, 15, none⟩ (.slice a.mB a.bs.length a.md)) := by repeat first | exact hB | refine below_sets _ (by omega) _ _ _ _ ?_ | refine Below.setCell ?_ (by first | omega | (simp; omega) | simp) _ | refine Below.alloc ?_ (by first | omega | (simp; omega) | simp) _
    have sX : Sees (((w2.alloc (.cells #[.slice A nw.length c, .slice a.mB a.bs.length a.md] 46)).setCell ⟨w.heap.size, 14, none⟩ (.slice A nw.length c)).setCell ⟨w.heap.size, 15, none⟩ (.slice a.mB a.bs.length a.md)) (((w2.alloc (.cells #[.slice A nw.length c, .slice a.mB a.bs.length a.md] 46)).setCell ⟨w.heap.size, 14, none⟩ (.slice A nw.length c)).setCell ⟨w.heap.size, 15, none⟩ (.slice a.mB a.bs.length a.md)).heap.size 1 A nw.length (nw.map (Value.int .i64)) := ((sA.later (belowN _ _)).own1 _ _ _ (fun hn p hp => (fa hn p hp).1)).own1 _ _ _ (fun hn p hp => (fa hn p hp).1)
    have B2x : boxOf (((w2.alloc (.cells #[.slice A nw.length c, .slice a.mB a.bs.length a.md] 46)).setCell ⟨w.heap.size, 14, none⟩ (.slice A nw.length c)).setCell ⟨w.heap.size, 15, none⟩ (.slice a.mB a.bs.length a.md)) (w.heap.size + 1) = some zT := by rw [boxOf_far _ _ _ _ (by simp), boxOf_far _ _ _ _ (by simp)]; exact boxOf_keep B2 (belowN _ _)
    have hsx : w.heap.size + 1 < (((w2.alloc (.cells #[.slice A nw.length c, .slice a.mB a.bs.length a.md] 46)).setCell ⟨w.heap.size, 14, none⟩ (.slice A nw.length c)).setCell ⟨w.heap.size, 15, none⟩ (.slice a.mB a.bs.length a.md)).heap.size := by simp; omega
    clear B1 B2 hB hs sA
    generalize (((w2.alloc (.cells #[.slice A nw.length c, .slice a.mB a.bs.length a.md] 46)).setCell ⟨w.heap.size, 14, none⟩ (.slice A nw.length c)).setCell ⟨w.heap.size, 15, none⟩ (.slice a.mB a.bs.length a.md)) = w5 at *
    refine (rnext_any ({ u with ws := nw } : Tn) ({ a with mA := A, mc := c } : TA) _).mono ?_
    rintro e w6 ⟨rfl, hb1⟩
    have B2 := boxOf_keep B2x hb1
    have hB := below_next hBx hBx.size hb1
    have hs := Nat.lt_of_lt_of_le hsx hb1.size
    replace sX := sX.later hb1
    have HW := hide ((nx_lk ({ u with ws := nw } : Tn)).ws)
    obtain ⟨v, hv⟩ : ∃ v, nxG ({ u with ws := nw } : Tn) = v := ⟨_, rfl⟩
    rw [hv] at H HW ⊢
    clear hv hb1 B2x hsx hBx
    have key : ∀ W', Below w.heap.size w W' → Sees W' W'.heap.size 1 A nw.length (nw.map (Value.int .i64)) → WsPost v true a w (.returned (.tuple #[.agg (tcs v ({ a with mA := A, mc := c } : TA)).toArray, .bool true])) W' := fun W' hb s => ⟨A, c, rfl, (by rw [HW.out]; exact s), hoo, hb⟩
    go_wp2
    refine bodyPost_ret (v := .tuple #[.agg (tcs v ({ a with mA := A, mc := c } : TA)).toArray, .bool true]) (results_box2 Tryz.results8 _ _ (w.heap.size + 1) _ _ _ rfl rfl (by simp [go_sem, B2]) Tryz.underlying55 rfl (by kernel_rfl)) rfl ?_
    rw [H.out]
    exact key _ (by repeat first | exact hB | refine below_sets _ (by omega) _ _ _ _ ?_ | refine Below.setCell ?_ (by first | omega | (simp; omega) | simp) _ | refine Below.alloc ?_ (by first | omega | (simp; omega) | simp) _) (sX.setsC _ (fun hn p hp => (fa hn p hp).2) _ _)
  · have key : ∀ W', Below w.heap.size w W' → WsPost u true a w (.returned (.tuple #[.agg (tcs u a).toArray, .bool true])) W' := fun W' hBf => ⟨a.mA, a.mc, rfl, h0.m.words.later hBf, .inl rfl, hBf⟩
    go_wp2
    refine bodyPost_ret (v := .tuple #[.agg (tcs u a).toArray, .bool true]) (results_box2 Tryz.results8 _ _ (w.heap.size + 1) _ _ _ rfl rfl (by simp [go_sem, B1, B2]) Tryz.underlying55 rfl (by kernel_rfl)) rfl ?_
    rw [H.out]
    exact key _ (by repeat first | exact hB | refine below_sets _ (by omega) _ _ _ _ ?_ | refine Below.setCell ?_ (by first | omega | (simp; omega) | simp) _ | refine Below.alloc ?_ (by first | omega | (simp; omega) | simp) _)
set_option maxRecDepth 100000 in
set_option maxHeartbeats 4000000 in
theorem rst_11 (u : Tn) (a : TA) (o : TnOk u) (ht : 0 ≤ u.tt ∧ u.tt ≤ 15) (hp : u.d.ph = 11) (w : World) (h : TnAt w u a) : Calls Tryz.prog 8 #[.agg (tcs u a).toArray] w (GsPost (pubG u) u true a w) := by
  have B1 : boxOf ((w.alloc (.cells (tcs u a).toArray 55)).alloc (.cells zT.toArray 55)) w.heap.size = some (tcs u a) := by simp [go_sem]
  have B2 : boxOf ((w.alloc (.cells (tcs u a).toArray 55)).alloc (.cells zT.toArray 55)) (w.heap.size + 1) = some zT := by simp [go_sem]
  have hs : w.heap.size + 1 < ((w.alloc (.cells (tcs u a).toArray 55)).alloc (.cells zT.toArray 55)).heap.size := by simp
  have hB : Below w.heap.size w ((w.alloc (.cells (tcs u a).toArray 55)).alloc (.cells zT.toArray 55)) := (belowN w _).alloc (by simp) _
  have h0 := h
  replace h := h.later hB
  go_enter Tryz.func8, Tryz.ntmps8
  go_wp2_with fail
  generalize ((w.alloc (.cells (tcs u a).toArray 55)).alloc (.cells zT.toArray 55)) = wz at *
  refine (rheld_any u a o _ h).mono ?_
  rintro e w1 ⟨rfl, hb1⟩
  replace B1 := boxOf_keep B1 hb1
  replace B2 := boxOf_keep B2 hb1
  replace hs := Nat.lt_of_lt_of_le hs hb1.size
  replace hB := below_next hB hB.size hb1
  replace h := h.later hb1
  clear hb1
  have hlen : u.bx.length = a.bs.length := by rw [← h0.bx, boxes_length]
  obtain ⟨nb, hnb⟩ : ∃ x, ptV u.bx u.tt u.d.bl = x := ⟨_, rfl⟩
  obtain ⟨ev, hev⟩ : ∃ x, erV a.bs.length u.tt = x := ⟨_, rfl⟩
  have he : ev = 0 ∨ ev = 30 := by rw [← hev]; unfold erV; split <;> simp
  have HC : (ev = 0 ∧ Hid (pubG u = ({ u with bx := nb, d := { u.d with ph := 12 } } : Tn))) ∨ (ev = 30 ∧ Hid (pubG u = u)) := by
    rcases he with he | he
    · exact .inl ⟨he, hide (by rw [pubG, hlen, if_pos (by rw [hev]; exact he), hnb])⟩
    · exact .inr ⟨he, hide (by rw [pubG, hlen, if_neg (by rw [hev, he]; decide)])⟩
  have hbl : u.d.bl.length ≤ 20000 := by have := o.b; omega
  have KS := fun W m b => hide (rput_any a.mA a.mB a.p.bA a.mc a.md a.p.bc u.ws a.bs u.d.bl u.tt W m hbl b)
  rw [h0.bx, hnb, hev] at KS
  clear hnb hev he hlen
  go_wp2_with fail
  refine (KS _ h.m h.th.b).out.mono ?_
  rintro e w2 ⟨B', d', bs', rfl, HX, hok, hb1⟩
  have hx := hide HX
  have m1 := hok.mem h.m hb1 hbl
  have f1 : ∀ g, w.heap.size ≤ g → 0 < u.ws.length → ∀ p, a.mA = some p → p.block ≠ g := fun g hg => h0.m.words.off hg
  have f2 : ∀ g, g < w1.heap.size → (0 < a.bs.length → ∀ p, a.mB = some p → p.block ≠ g) → (0 < bs'.length → ∀ p, B' = some p → p.block ≠ g) := fun g hg f hn p hp => by
    rcases hok.place with e | q
    · exact f (by rw [← hok.len]; exact hn) p (e ▸ hp)
    · have := q p hp; omega
  have f3 : ∀ g, g < w1.heap.size → (∀ q ∈ a.bs, 0 < q.l.length → ∀ p, q.A = some p → p.block ≠ g) → ∀ q ∈ bs', 0 < q.l.length → ∀ p, q.A = some p → p.block ≠ g := fun g hg f q hq hn p hp => by
    rcases hok.old q hq with e | ⟨e, _⟩
    · exact f q e hn p hp
    · have := e p hp; omega
  have e2 : ∀ g, w.heap.size ≤ g → 0 < a.bs.length → ∀ p, a.mB = some p → p.block ≠ g := fun g hg => h0.m.bxs.off hg
  have e3 : ∀ g, w.heap.size ≤ g → ∀ q ∈ a.bs, 0 < q.l.length → ∀ p, q.A = some p → p.block ≠ g := fun g hg q hq => (show Sees w w.heap.size 3 q.A q.l.length (ecells q.l) from h0.m.each q hq).off hg
  have hz := hide hs
  have hb0 := hide (fun g (hg : g < w.heap.size) => (show g < w1.heap.size by omega))
  replace B1 := boxOf_keep B1 hb1
  replace B2 := boxOf_keep B2 hb1
  replace hs := Nat.lt_of_lt_of_le hs hb1.size
  replace hB := below_next hB hB.size hb1
  clear hb1
  clear KS h hok HX
  rcases HC with ⟨rfl, H⟩ | ⟨rfl, H⟩
  · have key : ∀ W', Below w.heap.size w W' → MemOk W' a.mA u.ws B' bs' → GsPost ({ u with bx := nb, d := { u.d with ph := 12 } } : Tn) u true a w (.returned (.tuple #[.agg (tcs ({ u with d := { u.d with ph := 12 } } : Tn) ({ a with mB := B', md := d', bs := bs' } : TA)).toArray, .bool true])) W' := fun W' hb m => by
      have h' := h0.later hb
      exact ⟨({ a with mB := B', md := d', bs := bs' } : TA), by rw [tcs_bx u nb], ⟨m, hx.out, ⟨h'.th.b, h'.th.k, h'.th.h⟩, h'.tp, h'.lg⟩, fun g hg f => ⟨f.w, f2 g (hb0.out g hg) f.x, f3 g (hb0.out g hg) f.e, f.b, f.k, f.h, f.t, f.l⟩, hb⟩
    have mS : ∀ W g cs o, w.heap.size ≤ g → g ≤ w.heap.size + 1 → MemOk W a.mA u.ws B' bs' → MemOk (W.setCells g o cs) a.mA u.ws B' bs' := fun W g cs o g0 g1 m => m.sets (f1 g g0) (f2 g (by have := hz.out; omega) (e2 g g0)) (f3 g (by have := hz.out; omega) (e3 g g0)) cs o
    clear f1 f2 f3 e2 e3
    go_wp2
    refine bodyPost_ret (v := .tuple #[.agg (tcs ({ u with d := { u.d with ph := 12 } } : Tn) ({ a with mB := B', md := d', bs := bs' } : TA)).toArray, .bool true]) (results_box2 Tryz.results8 _ _ (w.heap.size + 1) _ _ _ rfl rfl (by simp [go_sem, B1, B2]) Tryz.underlying55 rfl (by kernel_rfl)) rfl ?_
    rw [H.out]
    exact key _ (by repeat first | exact hB | refine below_sets _ (by omega) _ _ _ _ ?_ | refine Below.setCell ?_ (by first | omega | (simp; omega) | simp) _ | refine Below.alloc ?_ (by first | omega | (simp; omega) | simp) _) (mS _ (w.heap.size + 1) _ _ (by omega) (by omega) (mS _ w.heap.size [_] 16 (Nat.le_refl _) (by omega) (mS _ w.heap.size [_] 15 (Nat.le_refl _) (by omega) (mS _ w.heap.size [_] 14 (Nat.le_refl _) (by omega) (m1.later (belowN _ _))))))
  · have key : ∀ W', Below w.heap.size w W' → GsPost u u true a w (.returned (.tuple #[.agg (tcs u a).toArray, .bool true])) W' := fun W' hBf => ⟨a, rfl, h0.later hBf, fun g _ f => f, hBf⟩
    clear f1 f2 f3 e2 e3 m1
    go_wp2
    refine bodyPost_ret (v := .tuple #[.agg (tcs u a).toArray, .bool true]) (results_box2 Tryz.results8 _ _ (w.heap.size + 1) _ _ _ rfl rfl (by simp [go_sem, B1, B2]) Tryz.underlying55 rfl (by kernel_rfl)) rfl ?_
    rw [H.out]
    exact key _ (by repeat first | exact hB | refine below_sets _ (by omega) _ _ _ _ ?_ | refine Below.setCell ?_ (by first | omega | (simp; omega) | simp) _ | refine Below.alloc ?_ (by first | omega | (simp; omega) | simp) _)
/-- The document's step of whatever turn. -/
theorem rstep_any (u : Tn) (a : TA) (o : TnOk u) (ht : 0 ≤ u.tt ∧ u.tt ≤ 15) (w : World) (h : TnAt w u a) : Calls Tryz.prog 8 #[.agg (tcs u a).toArray] w (GsPost (stepG u) u (isG u) a w) := by
  by_cases h7 : u.d.ph = 7
  · rw [show stepG u = lokG u by rw [stepG, if_pos h7], show isG u = true by simp [isG, h7]]; exact (rst_7 u a o ht h7 w h).mono fun _ _ p => gs_tb (lok_lk u) h p
  by_cases h8 : u.d.ph = 8
  · rw [show stepG u = relG u by rw [stepG, if_neg h7, if_pos h8], show isG u = true by simp [isG, h8]]; exact (rst_8 u a o ht h8 w h).mono fun _ _ p => gs_ws (rel_lk u) h p
  by_cases h9 : u.d.ph = 9
  · rw [show stepG u = colG u by rw [stepG, if_neg h7, if_neg h8, if_pos h9], show isG u = true by simp [isG, h9]]; exact rst_9 u a o ht h9 w h
  by_cases h10 : u.d.ph = 10
  · rw [show stepG u = freG u by rw [stepG, if_neg h7, if_neg h8, if_neg h9, if_pos h10], show isG u = true by simp [isG, h10]]; exact (rst_10 u a o ht h10 w h).mono fun _ _ p => gs_ws (fre_lk u) h p
  by_cases h11 : u.d.ph = 11
  · rw [show stepG u = pubG u by rw [stepG, if_neg h7, if_neg h8, if_neg h9, if_neg h10, if_pos h11], show isG u = true by simp [isG, h11]]; exact rst_11 u a o ht h11 w h
  by_cases h12 : u.d.ph = 12
  · rw [show stepG u = depG u by rw [stepG, if_neg h7, if_neg h8, if_neg h9, if_neg h10, if_neg h11, if_pos h12], show isG u = true by simp [isG, h12]]; exact (rst_12 u a o ht h12 w h).mono fun _ _ p => gs_ws (dep_lk u) h p
  have e : ∀ k : Int, u.d.ph ≠ k → (u.d.ph == k) = false := fun k hk => beq_eq_false_iff_ne.2 hk
  rw [show stepG u = u by rw [stepG, if_neg h7, if_neg h8, if_neg h9, if_neg h10, if_neg h11, if_neg h12], show isG u = false by simp [isG, h7, h8, h9, h10, h11, h12]]
  exact (rst_n u a o (e 7 h7) (e 8 h8) (e 9 h9) (e 10 h10) (e 11 h11) (e 12 h12) w h).mono fun _ _ p => gs_tb (Lk.refl u) h p
end Go.Proofs.YtlbekjnpaiiilaaGreat
