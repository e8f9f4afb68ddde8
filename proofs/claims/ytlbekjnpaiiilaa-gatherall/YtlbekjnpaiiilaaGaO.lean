/- The contract of collect. -/
import Derived.Test.YtlbekjnpaiiilaaGaT
import Derived.Test.YtlbekjnpaiiilaaGaA
import Derived.Test.YtlbekjnpaiiilaaM2
import Derived.Test.YtlbekjnpaiiilaaM6
import Derived.Lib.QuietBelow
import Derived.Deep.QuietTactic
import Derived.BigQuiet
import Derived.Deep.RegionHeld3
namespace Go.Proofs.Ytlbekjnpaiiilaa
open Go.RowKit Go.Sort
set_option linter.unusedVariables false
set_option linter.unusedSimpArgs false

theorem bx_short {w : World} {A B : Option Addr} {ws : List Int} {bs : List Bt} (m : MemOk w A ws B bs) (i : Int) : (bxV (boxes bs) i).length ≤ 20000 := by
  unfold bxV; split
  · cases he : (boxes bs)[i.toNat]? with
    | none => simp
    | some l =>
      have hl := List.mem_of_getElem? he
      obtain ⟨q, hq, rfl⟩ := List.mem_map.1 hl
      exact m.short q hq
  · simp
attribute [local irreducible] tcs thc ccs zT
attribute [local go_sem ↓] alTn_is alRn_is
attribute [local go_sem] run_alTnf run_alTnt run_alRnf run_alRnt zT_length
attribute [local go_sem ↓] lbTn_is lbRn_is lbTh_is lbRh_is lbCf_is lbRc_is sbTn_is sbRn_is sbTh_is sbRh_is sbCf_is sbRc_is
attribute [local go_sem] run_lbTn run_lbRn run_lbTh run_lbRh run_lbCf run_lbRc run_sbTn run_sbRn run_sbTh run_sbRh run_sbCf run_sbRc
attribute [local go_sem 2000] boxOf_old'
attribute [local go_sem] boxOf_at' boxOf_free' boxOf_alloc objBox_cells objBox_cellsA boxOf_drew boxOf_setI boxOf_setsI size_sets tcs_length thc_length ccs_length tcs_one thc_one ccs_one sub_tn sub_th sub_cf sub_thAll sub_cfAll put_turn put_thread
attribute [local go_sem] tc0 tc1 tc2 tc3 tc4 tc5 tc6 tc7 tc8 tc9 tc10 tc11 tc12 tc13 tc14 tc15 tc16 tc17 tc18 tc19 tc20 tc21 tc22 tc23 tc24 tc25 tc26 tc27 tc28 tc29 tc30 tc31 tc32 tc33 tc34 tc35 tc36 hc0 hc1 hc2 hc3 hc4 hc5 hc6 hc7 hc8 hc9 hc10 hc11 hc12 hc13 hc14 hc15 hc16 kc0 kc1 kc2 kc3 kc4 kc5 kc6 kc7 kc8 kc9 kc10 kc11 tg0 tg1 tg2 tg3 tg4 tg5 tg6 tg7 tg8 tg9 tg10 tg11 tg12 tg13 tg14 tg15 tg16 tg17 tg18 tg19 tg20 tg21 tg22 tg23 tg24 tg25 tg26 tg27 tg28 tg29 tg30 tg31 tg32 tg33 tg34 tg35 tg36 hg0 hg1 hg2 hg3 hg4 hg5 hg6 hg7 hg8 hg9 hg10 hg11 hg12 hg13 hg14 hg15 hg16 kg0 kg1 kg2 kg3 kg4 kg5 kg6 kg7 kg8 kg9 kg10 kg11
attribute [local go_sem] ts12 ts13 ts14 ts16 ts17 ts18 ts19 ts20 ts21 ts22 ts23 ts24 ts25 ts26 ts27 ts28 ts29 ts30 ts31 ts32 ts33 ts34 ts35 ts36 ts15 hs0 hs1 hs2 hs3 hs7 hs8 hs9 hs10 hs11 hs12 hs13 hs14 hs15 hs16

set_option maxRecDepth 100000 in
set_option maxHeartbeats 4000000 in
theorem collect_any (u : Tn) (a : TA) (o : TnOk u) (w : World) (h : TnAt w u a) : Calls Try.prog 41 #[.agg (tcs u a).toArray] w (GPost (colG u) u a w) := by
  have B1 : boxOf ((w.alloc (.cells (tcs u a).toArray 38)).alloc (.cells zT.toArray 38)) w.heap.size = some (tcs u a) := by simp [go_sem]
  have B2 : boxOf ((w.alloc (.cells (tcs u a).toArray 38)).alloc (.cells zT.toArray 38)) (w.heap.size + 1) = some zT := by simp [go_sem]
  have hs : w.heap.size + 1 < ((w.alloc (.cells (tcs u a).toArray 38)).alloc (.cells zT.toArray 38)).heap.size := by simp
  have hB : Below w.heap.size w ((w.alloc (.cells (tcs u a).toArray 38)).alloc (.cells zT.toArray 38)) := (belowN w _).alloc (by simp) _
  have h0 := h
  replace h := h.later hB
  go_enter Try.func41, Try.ntmps41
  go_wp2_with fail
  generalize ((w.alloc (.cells (tcs u a).toArray 38)).alloc (.cells zT.toArray 38)) = wz at *
  have Q0 := fun W m => hide (box_any a.mA a.mB a.mc a.md u.ws a.bs u.d.who W m)
  have hsh := hide (bx_short h.m u.d.who)
  have he : erV a.bs.length u.d.who = 0 ∨ erV a.bs.length u.d.who = 30 := by unfold erV; split <;> simp
  have hlen : u.bx.length = a.bs.length := by rw [← h.bx, boxes_length]
  rw [h0.bx] at hsh
  simp only [h0.bx] at Q0
  obtain ⟨l, hl⟩ : ∃ l, bxV u.bx u.d.who = l := ⟨_, rfl⟩
  simp only [hl] at Q0
  rw [hl] at hsh
  have HC : (erV a.bs.length u.d.who = 0 ∧ Hid (colG u = { tkG u u.d.who l with d := { (tkG u u.d.who l).d with ph := 10 } })) ∨ (erV a.bs.length u.d.who = 30 ∧ Hid (colG u = u)) := by
    rcases he with he | he
    · exact .inl ⟨he, hide (by rw [colG, hlen, if_pos he, hl])⟩
    · exact .inr ⟨he, hide (by rw [colG, hlen, if_neg (by rw [he]; decide)])⟩
  clear he hlen hl
  refine (Q0 _ h.m).out.mono ?_
  rintro e w1 ⟨A, c, rfl, sl, hb1⟩
  replace B1 := boxOf_keep B1 hb1
  replace B2 := boxOf_keep B2 hb1
  replace hs := Nat.lt_of_lt_of_le hs hb1.size
  replace hB := below_next hB hB.size hb1
  clear hb1
  clear Q0 h
  rcases HC with ⟨he, H⟩ | ⟨he, H⟩
  case inr =>
    rw [he]
    clear he hsh sl
    go_wp2
    refine bodyPost_ret (v := .agg (tcs u a).toArray) (results_box Try.results41 _ _ (w.heap.size + 1) _ _ rfl (by simp [go_sem, B1, B2]) Try.underlying38 rfl (by kernel_rfl)) rfl ?_
    rw [H.out]
    have hBf : Below w.heap.size w (w1.setCells (w.heap.size + 1) 0 (tcs u a)) := by repeat first | exact hB | refine below_sets _ (by omega) _ _ _ _ ?_ | refine Below.setCell ?_ (by first | omega | (simp; omega) | simp) _ | refine Below.alloc ?_ (by first | omega | (simp; omega) | simp) _
    exact ⟨a, rfl, h0.later hBf, fun g _ f => f, hBf⟩
  rw [he]
  clear he
  have T0 := h0.later hB
  have KT := fun W t sb => hide (take_any u a u.d.who l A c (by have := o.k; omega) (by have := o.b; omega) hsh.out W t sb)
  go_wp2_with fail
  refine (KT _ T0.th sl).out.mono ?_
  rintro e w2 ht
  obtain ⟨b, rfl, T2, off, hb1⟩ := tk_gp T0 ht
  have O1 := off w.heap.size (by omega) (h0.off (Nat.le_refl _))
  have O2 := off (w.heap.size + 1) hs (h0.off (by omega))
  have off' : ∀ g, g < w.heap.size → Off g u a → Off g (tkG u u.d.who l) b := fun g hg f => off g (by omega) f
  replace B1 := boxOf_keep B1 hb1
  replace B2 := boxOf_keep B2 hb1
  replace hs := Nat.lt_of_lt_of_le hs hb1.size
  replace hB := below_next hB hB.size hb1
  clear hb1
  obtain ⟨T, hT⟩ : ∃ T, tkG u u.d.who l = T := ⟨_, rfl⟩
  rw [hT] at H T2 O1 O2 off' ⊢
  have key : ∀ W', Below w.heap.size w W' → TnAt W' T b → GPost ({ T with d := { T.d with ph := 10 } } : Tn) u a w (.returned (.agg (tcs ({ T with d := { T.d with ph := 10 } } : Tn) b).toArray)) W' := fun W' hBf tn => ⟨b, rfl, (show Lk T ({ T with d := { T.d with ph := 10 } } : Tn) from ⟨rfl, rfl, rfl, rfl, rfl, rfl, rfl⟩).at tn, fun g hg f => (show Lk T ({ T with d := { T.d with ph := 10 } } : Tn) from ⟨rfl, rfl, rfl, rfl, rfl, rfl, rfl⟩).off (off' g hg f), hBf⟩
  clear KT hT off ht T0 off' sl hsh
  go_wp2
  refine bodyPost_ret (v := .agg (tcs ({ T with d := { T.d with ph := 10 } } : Tn) b).toArray) (results_box Try.results41 _ _ (w.heap.size + 1) _ _ rfl (by simp [go_sem, B1, B2]) Try.underlying38 rfl (by kernel_rfl)) rfl ?_
  rw [H.out]
  exact key _ (by repeat first | exact hB | refine below_sets _ (by omega) _ _ _ _ ?_ | refine Below.setCell ?_ (by first | omega | (simp; omega) | simp) _ | refine Below.alloc ?_ (by first | omega | (simp; omega) | simp) _) (((T2.sets O1 _ _).set1 O1 _ _).sets O2 _ _)
end Go.Proofs.Ytlbekjnpaiiilaa
