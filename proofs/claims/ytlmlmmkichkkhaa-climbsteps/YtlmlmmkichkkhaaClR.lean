/- The document's Down, and its Step: looks, and those that do nothing. -/
import Derived.Test.YtlmlmmkichkkhaaClE
import Derived.Test.YtlmlmmkichkkhaaM2
import Derived.Test.YtlmlmmkichkkhaaM6
import Derived.Lib.QuietBelow
import Derived.Deep.QuietTactic
import Derived.BigQuiet
import Derived.Deep.RegionHeld3
namespace Go.Proofs.Ytlmlmmkichkkhaa
open Go.RowKit Go.Sort
set_option linter.unusedVariables false
set_option linter.unusedSimpArgs false

attribute [local irreducible] tcs thc ccs zT
attribute [local go_sem ↓] alTn_is alRn_is
attribute [local go_sem] run_alTnf run_alTnt run_alRnf run_alRnt zT_length
attribute [local go_sem ↓] lbTn_is lbRn_is lbTh_is lbRh_is lbCf_is lbRc_is sbTn_is sbRn_is sbTh_is sbRh_is sbCf_is sbRc_is
attribute [local go_sem] run_lbTn run_lbRn run_lbTh run_lbRh run_lbCf run_lbRc run_sbTn run_sbRn run_sbTh run_sbRh run_sbCf run_sbRc
attribute [local go_sem 2000] boxOf_old'
attribute [local go_sem] boxOf_at' boxOf_free' boxOf_alloc objBox_cells objBox_cellsA boxOf_drew boxOf_setI boxOf_setsI size_sets tcs_length thc_length ccs_length tcs_one thc_one ccs_one sub_tn sub_th sub_cf sub_thAll sub_cfAll put_turn put_thread
attribute [local go_sem] tc0 tc1 tc2 tc3 tc4 tc5 tc6 tc7 tc8 tc9 tc10 tc11 tc12 tc13 tc14 tc15 tc16 tc17 tc18 tc19 tc20 tc21 tc22 tc23 tc24 tc25 tc26 tc27 tc28 tc29 tc30 tc31 tc32 tc33 tc34 tc35 tc36 hc0 hc1 hc2 hc3 hc4 hc5 hc6 hc7 hc8 hc9 hc10 hc11 hc12 hc13 hc14 hc15 hc16 kc0 kc1 kc2 kc3 kc4 kc5 kc6 kc7 kc8 kc9 kc10 kc11 tg0 tg1 tg2 tg3 tg4 tg5 tg6 tg7 tg8 tg9 tg10 tg11 tg12 tg13 tg14 tg15 tg16 tg17 tg18 tg19 tg20 tg21 tg22 tg23 tg24 tg25 tg26 tg27 tg28 tg29 tg30 tg31 tg32 tg33 tg34 tg35 tg36 hg0 hg1 hg2 hg3 hg4 hg5 hg6 hg7 hg8 hg9 hg10 hg11 hg12 hg13 hg14 hg15 hg16 kg0 kg1 kg2 kg3 kg4 kg5 kg6 kg7 kg8 kg9 kg10 kg11
attribute [local go_sem] ts12 ts13 ts14 ts16 ts17 ts18 ts19 ts20 ts21 ts22 ts23 ts24 ts25 ts26 ts27 ts28 ts29 ts30 ts31 ts32 ts33 ts34 ts35 ts36 ts15 hs0 hs1 hs2 hs3 hs7 hs8 hs9 hs10 hs11 hs12 hs13 hs14 hs15 hs16

set_option maxRecDepth 100000 in
set_option maxHeartbeats 4000000 in
theorem rdown_any (u : Tn) (a : TA) (w : World) : Calls Try.prog 17 #[.agg (tcs u a).toArray] w (TPost (downV u) a w) := by
  have B1 : boxOf ((w.alloc (.cells (tcs u a).toArray 55)).alloc (.cells zT.toArray 55)) w.heap.size = some (tcs u a) := by simp [go_sem]
  have B2 : boxOf ((w.alloc (.cells (tcs u a).toArray 55)).alloc (.cells zT.toArray 55)) (w.heap.size + 1) = some zT := by simp [go_sem]
  have hs : w.heap.size + 1 < ((w.alloc (.cells (tcs u a).toArray 55)).alloc (.cells zT.toArray 55)).heap.size := by simp
  have hB : Below w.heap.size w ((w.alloc (.cells (tcs u a).toArray 55)).alloc (.cells zT.toArray 55)) := (belowN w _).alloc (by simp) _
  have hc : ((0 ≤ u.d.pl ∧ u.d.pl < (u.d.hl.length : Int)) ∧ Hid (downV u = { u with d := { u.d with ph := 7 } })) ∨ (u.d.pl < 0 ∧ 0 < u.d.st ∧ Hid (downV u = { u with d := { u.d with ph := 11 } })) ∨ (u.d.pl < 0 ∧ ¬ 0 < u.d.st ∧ Hid (downV u = { u with d := { u.d with ph := 2 } })) ∨ ((0 ≤ u.d.pl ∧ (u.d.hl.length : Int) ≤ u.d.pl) ∧ 0 < u.d.st ∧ Hid (downV u = { u with d := { u.d with ph := 11 } })) ∨ ((0 ≤ u.d.pl ∧ (u.d.hl.length : Int) ≤ u.d.pl) ∧ ¬ 0 < u.d.st ∧ Hid (downV u = { u with d := { u.d with ph := 2 } })) := by
    by_cases h1 : 0 ≤ u.d.pl
    · by_cases h2 : u.d.pl < (u.d.hl.length : Int)
      · exact .inl ⟨⟨h1, h2⟩, hide (by rw [downV, if_pos ⟨h1, h2⟩])⟩
      · by_cases h3 : 0 < u.d.st
        · exact .inr (.inr (.inr (.inl ⟨⟨h1, by omega⟩, h3, hide (by rw [downV, if_neg (fun e => h2 e.2), if_pos h3])⟩)))
        · exact .inr (.inr (.inr (.inr ⟨⟨h1, by omega⟩, h3, hide (by rw [downV, if_neg (fun e => h2 e.2), if_neg h3])⟩)))
    · by_cases h3 : 0 < u.d.st
      · exact .inr (.inl ⟨by omega, h3, hide (by rw [downV, if_neg (fun e => h1 e.1), if_pos h3])⟩)
      · exact .inr (.inr (.inl ⟨by omega, h3, hide (by rw [downV, if_neg (fun e => h1 e.1), if_neg h3])⟩))
  go_enter Try.func17, Try.ntmps17
  rcases hc with ⟨⟨h1, h2⟩, H⟩ | ⟨h1, h3, H⟩ | ⟨h1, h3, H⟩ | ⟨⟨h1, h2⟩, h3, H⟩ | ⟨⟨h1, h2⟩, h3, H⟩
  · go_wp2
    refine bodyPost_ret (v := .agg (tcs ({ u with d := { u.d with ph := 7 } } : Tn) a).toArray) (results_box Try.results17 _ _ (w.heap.size + 1) _ _ rfl (by simp [go_sem, B1, B2]) Try.underlying55 rfl (by kernel_rfl)) rfl ⟨by rw [H.out], ?_⟩
    repeat first | exact hB | refine below_sets _ (by omega) _ _ _ _ ?_ | refine Below.setCell ?_ (by first | omega | (simp; omega) | simp) _ | refine Below.alloc ?_ (by first | omega | (simp; omega) | simp) _ | exact Below.refl _ _
  · go_wp2
    refine bodyPost_ret (v := .agg (tcs ({ u with d := { u.d with ph := 11 } } : Tn) a).toArray) (results_box Try.results17 _ _ (w.heap.size + 1) _ _ rfl (by simp [go_sem, B1, B2]) Try.underlying55 rfl (by kernel_rfl)) rfl ⟨by rw [H.out], ?_⟩
    repeat first | exact hB | refine below_sets _ (by omega) _ _ _ _ ?_ | refine Below.setCell ?_ (by first | omega | (simp; omega) | simp) _ | refine Below.alloc ?_ (by first | omega | (simp; omega) | simp) _ | exact Below.refl _ _
  · go_wp2
    refine bodyPost_ret (v := .agg (tcs ({ u with d := { u.d with ph := 2 } } : Tn) a).toArray) (results_box Try.results17 _ _ (w.heap.size + 1) _ _ rfl (by simp [go_sem, B1, B2]) Try.underlying55 rfl (by kernel_rfl)) rfl ⟨by rw [H.out], ?_⟩
    repeat first | exact hB | refine below_sets _ (by omega) _ _ _ _ ?_ | refine Below.setCell ?_ (by first | omega | (simp; omega) | simp) _ | refine Below.alloc ?_ (by first | omega | (simp; omega) | simp) _ | exact Below.refl _ _
  · go_wp2
    refine bodyPost_ret (v := .agg (tcs ({ u with d := { u.d with ph := 11 } } : Tn) a).toArray) (results_box Try.results17 _ _ (w.heap.size + 1) _ _ rfl (by simp [go_sem, B1, B2]) Try.underlying55 rfl (by kernel_rfl)) rfl ⟨by rw [H.out], ?_⟩
    repeat first | exact hB | refine below_sets _ (by omega) _ _ _ _ ?_ | refine Below.setCell ?_ (by first | omega | (simp; omega) | simp) _ | refine Below.alloc ?_ (by first | omega | (simp; omega) | simp) _ | exact Below.refl _ _
  · go_wp2
    refine bodyPost_ret (v := .agg (tcs ({ u with d := { u.d with ph := 2 } } : Tn) a).toArray) (results_box Try.results17 _ _ (w.heap.size + 1) _ _ rfl (by simp [go_sem, B1, B2]) Try.underlying55 rfl (by kernel_rfl)) rfl ⟨by rw [H.out], ?_⟩
    repeat first | exact hB | refine below_sets _ (by omega) _ _ _ _ ?_ | refine Below.setCell ?_ (by first | omega | (simp; omega) | simp) _ | refine Below.alloc ?_ (by first | omega | (simp; omega) | simp) _ | exact Below.refl _ _
set_option maxRecDepth 100000 in
set_option maxHeartbeats 4000000 in
theorem rover_any (u : Tn) (a : TA) (w : World) : Calls Try.prog 38 #[.agg (tcs u a).toArray] w (TPost (overV u) a w) := by
  have H : Hid (overV u = downV ({ u with d := { u.d with pl := 0 } } : Tn)) := hide rfl
  have B1 : boxOf ((w.alloc (.cells (tcs u a).toArray 55)).alloc (.cells zT.toArray 55)) w.heap.size = some (tcs u a) := by simp [go_sem]
  have B2 : boxOf ((w.alloc (.cells (tcs u a).toArray 55)).alloc (.cells zT.toArray 55)) (w.heap.size + 1) = some zT := by simp [go_sem]
  have hs : w.heap.size + 1 < ((w.alloc (.cells (tcs u a).toArray 55)).alloc (.cells zT.toArray 55)).heap.size := by simp
  have hB : Below w.heap.size w ((w.alloc (.cells (tcs u a).toArray 55)).alloc (.cells zT.toArray 55)) := (belowN w _).alloc (by simp) _
  go_enter Try.func38, Try.ntmps38
  go_wp2_with fail
  generalize ((w.alloc (.cells (tcs u a).toArray 55)).alloc (.cells zT.toArray 55)) = wz at *
  refine (rdown_any ({ u with d := { u.d with pl := 0 } } : Tn) a _).mono ?_
  rintro e w1 ⟨rfl, hb1⟩
  have B2n := boxOf_keep (g := w.heap.size + 1) (cs := zT) (by simp [go_sem, B1, B2]) hb1
  replace hB : Below w.heap.size w w1 := below_next (by repeat first | exact hB | refine below_sets _ (by omega) _ _ _ _ ?_ | refine Below.setCell ?_ (by first | omega | (simp; omega) | simp) _ | refine Below.alloc ?_ (by first | omega | (simp; omega) | simp) _ | exact Below.refl _ _) (by simp; omega) hb1
  rw [← H.out]
  obtain ⟨v, hv⟩ : ∃ v, overV u = v := ⟨_, rfl⟩
  rw [hv]
  replace H := hide hv
  clear hb1 B1 B2 hv
  go_wp2
  refine bodyPost_ret (v := .agg (tcs v a).toArray) (results_box Try.results38 _ _ (w.heap.size + 1) _ _ rfl (by simp [go_sem, B2n]) Try.underlying55 rfl (by kernel_rfl)) rfl ⟨by rw [H.out], ?_⟩
  repeat first | exact hB | refine below_sets _ (by omega) _ _ _ _ ?_ | refine Below.setCell ?_ (by first | omega | (simp; omega) | simp) _ | refine Below.alloc ?_ (by first | omega | (simp; omega) | simp) _
/-- A turn, as it lies, and a bool. -/
def TBPost (u : Tn) (b : Bool) (a : TA) (w : World) (e : Ending) (w' : World) : Prop := e = .returned (.tuple #[.agg (tcs u a).toArray, .bool b]) ∧ Below w.heap.size w w'
theorem rnode_u (u : Tn) (o : TnOk u) (w : World) : Calls Try.prog 24 #[.agg (ccs u.c).toArray, .int .i64 u.d.it, .int .i64 u.d.nd] w (IntPost (ndP u) w) := rnode_tn u.c o.c u.d.it (o.f.n _ (by simp [Dt.nums])) u.d.nd (o.f.n _ (by simp [Dt.nums])) w
set_option maxRecDepth 100000 in
set_option maxHeartbeats 4000000 in
theorem rstep_4 (u : Tn) (a : TA) (o : TnOk u) (w : World) (h : TnAt w u a) (p4 : (u.d.ph == 4) = true) : Calls Try.prog 13 #[.agg (tcs u a).toArray] w (TBPost (lookK u) true a w) := by
  have B1 : boxOf ((w.alloc (.cells (tcs u a).toArray 55)).alloc (.cells zT.toArray 55)) w.heap.size = some (tcs u a) := by simp [go_sem]
  have B2 : boxOf ((w.alloc (.cells (tcs u a).toArray 55)).alloc (.cells zT.toArray 55)) (w.heap.size + 1) = some zT := by simp [go_sem]
  have hs : w.heap.size + 1 < ((w.alloc (.cells (tcs u a).toArray 55)).alloc (.cells zT.toArray 55)).heap.size := by simp
  have hB : Below w.heap.size w ((w.alloc (.cells (tcs u a).toArray 55)).alloc (.cells zT.toArray 55)) := (belowN w _).alloc (by simp) _
  have h0 := h
  replace h := h.later hB
  go_enter Try.func13, Try.ntmps13
  go_wp2_with fail
  generalize ((w.alloc (.cells (tcs u a).toArray 55)).alloc (.cells zT.toArray 55)) = wz at *
  refine (rnode_u u o _).mono ?_
  rintro e w1 ⟨rfl, hb1⟩
  replace B1 := boxOf_keep B1 hb1
  replace B2 := boxOf_keep B2 hb1
  replace hs := Nat.lt_of_lt_of_le hs hb1.size
  replace hB := below_next hB hB.size hb1
  replace h := h.later hb1
  clear hb1
  have ilv := hide (ldV_i64 o.ws (ndP u))
  have KL := fun W m => hide (rload_any a.mA a.mB a.mc a.md u.ws a.bs (ndP u) W m)
  obtain ⟨lv, hlv⟩ : ∃ x, ldV u.ws (ndP u) = x := ⟨_, rfl⟩
  have he : erV u.ws.length (ndP u) = 0 ∨ erV u.ws.length (ndP u) = 30 := by unfold erV; split <;> simp
  rw [hlv] at KL ilv
  go_wp2_with fail
  refine (KL _ h.m).out.mono ?_
  rintro e w2 ⟨rfl, hb1⟩
  replace B1 := boxOf_keep B1 hb1
  replace B2 := boxOf_keep B2 hb1
  replace hs := Nat.lt_of_lt_of_le hs hb1.size
  replace hB := below_next hB hB.size hb1
  replace h := h.later hb1
  clear hb1
  clear KL
  rcases he with he | he
  case inr =>
    have H : Hid (lookK u = u) := hide (by rw [lookK, if_neg (by rw [he]; decide)])
    rw [he]
    clear he hlv
    go_wp2
    refine bodyPost_ret (v := .tuple #[.agg (tcs u a).toArray, .bool true]) (results_box2 Try.results13 _ _ (w.heap.size + 1) _ _ _ rfl rfl (by simp [go_sem, B1, B2]) Try.underlying55 rfl (by kernel_rfl)) rfl ⟨by rw [H.out], ?_⟩
    repeat first | exact hB | refine below_sets _ (by omega) _ _ _ _ ?_ | refine Below.setCell ?_ (by first | omega | (simp; omega) | simp) _ | refine Below.alloc ?_ (by first | omega | (simp; omega) | simp) _
  have KK := fun W => hide (rkind_any lv ilv.out W)
  obtain ⟨kv, hkv⟩ : ∃ x, kdV lv = x := ⟨_, rfl⟩
  rw [hkv] at KK
  have hc : (kv = 0 ∧ Hid (lookK u = ({ u with d := { u.d with ph := 5 } } : Tn))) ∨ (kv = 1 ∧ Hid (lookK u = ({ u with d := { u.d with ph := 6, x := lv } } : Tn))) ∨ ((kv == 0) = false ∧ (kv == 1) = false ∧ lateB u.d.un u.now = true ∧ Hid (lookK u = overV u)) ∨ ((kv == 0) = false ∧ (kv == 1) = false ∧ lateB u.d.un u.now = false ∧ Hid (lookK u = u)) := by
    by_cases h1 : kv = 0
    · exact .inl ⟨h1, hide (by rw [lookK, if_pos he, hlv, hkv, if_pos h1])⟩
    · by_cases h2 : kv = 1
      · exact .inr (.inl ⟨h2, hide (by rw [lookK, if_pos he, hlv, hkv, if_neg h1, if_pos h2])⟩)
      · rcases Bool.eq_false_or_eq_true (lateB u.d.un u.now) with h3 | h3
        · exact .inr (.inr (.inl ⟨by simpa using h1, by simpa using h2, h3, hide (by rw [lookK, if_pos he, hlv, hkv, if_neg h1, if_neg h2, if_pos h3])⟩))
        · exact .inr (.inr (.inr ⟨by simpa using h1, by simpa using h2, h3, hide (by rw [lookK, if_pos he, hlv, hkv, if_neg h1, if_neg h2, if_neg (by rw [h3]; decide)])⟩))
  rw [he]
  clear he hlv hkv
  rcases hc with ⟨h1, H⟩ | ⟨h1, H⟩ | ⟨h1, h2, h3, H⟩ | ⟨h1, h2, h3, H⟩
  · subst h1
    go_wp2_with fail
    refine (KK _).out.mono ?_
    rintro e wk ⟨rfl, rfl⟩
    go_wp2
    refine bodyPost_ret (v := .tuple #[.agg (tcs ({ u with d := { u.d with ph := 5 } } : Tn) a).toArray, .bool true]) (results_box2 Try.results13 _ _ (w.heap.size + 1) _ _ _ rfl rfl (by simp [go_sem, B1, B2]) Try.underlying55 rfl (by kernel_rfl)) rfl ⟨by rw [H.out], ?_⟩
    repeat first | exact hB | refine below_sets _ (by omega) _ _ _ _ ?_ | refine Below.setCell ?_ (by first | omega | (simp; omega) | simp) _ | refine Below.alloc ?_ (by first | omega | (simp; omega) | simp) _
  · subst h1
    go_wp2_with fail
    refine (KK _).out.mono ?_
    rintro e wk ⟨rfl, rfl⟩
    go_wp2_with fail
    refine (KK _).out.mono ?_
    rintro e wk ⟨rfl, rfl⟩
    go_wp2
    refine bodyPost_ret (v := .tuple #[.agg (tcs ({ u with d := { u.d with ph := 6, x := lv } } : Tn) a).toArray, .bool true]) (results_box2 Try.results13 _ _ (w.heap.size + 1) _ _ _ rfl rfl (by simp [go_sem, B1, B2]) Try.underlying55 rfl (by kernel_rfl)) rfl ⟨by rw [H.out], ?_⟩
    repeat first | exact hB | refine below_sets _ (by omega) _ _ _ _ ?_ | refine Below.setCell ?_ (by first | omega | (simp; omega) | simp) _ | refine Below.alloc ?_ (by first | omega | (simp; omega) | simp) _
  · go_wp2_with fail
    refine (KK _).out.mono ?_
    rintro e wk ⟨rfl, rfl⟩
    go_wp2_with fail
    refine (KK _).out.mono ?_
    rintro e wk ⟨rfl, rfl⟩
    go_wp2_with fail
    refine (rlate_tn u a _).mono ?_
    rintro e w3 ⟨rfl, hb2⟩
    rw [h3]
    replace B1 := boxOf_keep B1 hb2
    replace B2 := boxOf_keep B2 hb2
    replace hs := Nat.lt_of_lt_of_le hs hb2.size
    replace hB := below_next hB hB.size hb2
    clear hb2 KK
    obtain ⟨v, hv⟩ : ∃ v, overV u = v := ⟨_, rfl⟩
    have KE := fun W => hide (rover_any u a W)
    rw [hv] at KE H
    clear hv h3
    go_wp2_with fail
    refine (KE _).out.mono ?_
    rintro e w4 ⟨rfl, hb3⟩
    replace B1 := boxOf_keep B1 hb3
    replace B2 := boxOf_keep B2 hb3
    replace hs := Nat.lt_of_lt_of_le hs hb3.size
    replace hB := below_next hB hB.size hb3
    clear hb3 KE
    go_wp2
    refine bodyPost_ret (v := .tuple #[.agg (tcs v a).toArray, .bool true]) (results_box2 Try.results13 _ _ (w.heap.size + 1) _ _ _ rfl rfl (by simp [go_sem, B1, B2]) Try.underlying55 rfl (by kernel_rfl)) rfl ⟨by rw [H.out], ?_⟩
    repeat first | exact hB | refine below_sets _ (by omega) _ _ _ _ ?_ | refine Below.setCell ?_ (by first | omega | (simp; omega) | simp) _ | refine Below.alloc ?_ (by first | omega | (simp; omega) | simp) _
  · go_wp2_with fail
    refine (KK _).out.mono ?_
    rintro e wk ⟨rfl, rfl⟩
    go_wp2_with fail
    refine (KK _).out.mono ?_
    rintro e wk ⟨rfl, rfl⟩
    go_wp2_with fail
    refine (rlate_tn u a _).mono ?_
    rintro e w3 ⟨rfl, hb2⟩
    rw [h3]
    replace B1 := boxOf_keep B1 hb2
    replace B2 := boxOf_keep B2 hb2
    replace hs := Nat.lt_of_lt_of_le hs hb2.size
    replace hB := below_next hB hB.size hb2
    clear hb2 KK
    clear h3
    go_wp2
    refine bodyPost_ret (v := .tuple #[.agg (tcs u a).toArray, .bool true]) (results_box2 Try.results13 _ _ (w.heap.size + 1) _ _ _ rfl rfl (by simp [go_sem, B1, B2]) Try.underlying55 rfl (by kernel_rfl)) rfl ⟨by rw [H.out], ?_⟩
    repeat first | exact hB | refine below_sets _ (by omega) _ _ _ _ ?_ | refine Below.setCell ?_ (by first | omega | (simp; omega) | simp) _ | refine Below.alloc ?_ (by first | omega | (simp; omega) | simp) _
set_option maxRecDepth 100000 in
set_option maxHeartbeats 4000000 in
theorem rstep_n (u : Tn) (a : TA) (o : TnOk u) (w : World) (h : TnAt w u a) (p4 : (u.d.ph == 4) = false) (p5 : (u.d.ph == 5) = false) (p6 : (u.d.ph == 6) = false) : Calls Try.prog 13 #[.agg (tcs u a).toArray] w (TBPost u false a w) := by
  have B1 : boxOf ((w.alloc (.cells (tcs u a).toArray 55)).alloc (.cells zT.toArray 55)) w.heap.size = some (tcs u a) := by simp [go_sem]
  have B2 : boxOf ((w.alloc (.cells (tcs u a).toArray 55)).alloc (.cells zT.toArray 55)) (w.heap.size + 1) = some zT := by simp [go_sem]
  have hs : w.heap.size + 1 < ((w.alloc (.cells (tcs u a).toArray 55)).alloc (.cells zT.toArray 55)).heap.size := by simp
  have hB : Below w.heap.size w ((w.alloc (.cells (tcs u a).toArray 55)).alloc (.cells zT.toArray 55)) := (belowN w _).alloc (by simp) _
  have h0 := h
  replace h := h.later hB
  go_enter Try.func13, Try.ntmps13
  go_wp2_with fail
  generalize ((w.alloc (.cells (tcs u a).toArray 55)).alloc (.cells zT.toArray 55)) = wz at *
  refine (rnode_u u o _).mono ?_
  rintro e w1 ⟨rfl, hb1⟩
  replace B1 := boxOf_keep B1 hb1
  replace B2 := boxOf_keep B2 hb1
  replace hs := Nat.lt_of_lt_of_le hs hb1.size
  replace hB := below_next hB hB.size hb1
  replace h := h.later hb1
  clear hb1
  have key : ∀ W', Below w.heap.size w W' → TBPost u false a w (.returned (.tuple #[.agg (tcs u a).toArray, .bool false])) W' := fun W' hBf => ⟨rfl, hBf⟩
  go_wp2
  refine bodyPost_ret (v := .tuple #[.agg (tcs u a).toArray, .bool false]) (results_box2 Try.results13 _ _ (w.heap.size + 1) _ _ _ rfl rfl (by simp [go_sem, B1, B2]) Try.underlying55 rfl (by kernel_rfl)) rfl ?_
  exact key _ (by repeat first | exact hB | refine below_sets _ (by omega) _ _ _ _ ?_ | refine Below.setCell ?_ (by first | omega | (simp; omega) | simp) _ | refine Below.alloc ?_ (by first | omega | (simp; omega) | simp) _)
end Go.Proofs.Ytlmlmmkichkkhaa
