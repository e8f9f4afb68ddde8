/- The contract of the step of layer 12. -/
import Derived.Test.YtiacgbkaflcbeaaCmE
import Derived.Test.YtiacgbkaflcbeaaCmD
import Derived.Test.YtiacgbkaflcbeaaCmC
import Derived.Test.YtiacgbkaflcbeaaCmA
import Derived.Lib.QuietBelow
import Derived.Deep.QuietTactic
import Derived.BigQuiet
namespace Go.Proofs.Ytiacgbkaflcbeaa
open Go.RowKit Go.Sort
set_option linter.unusedVariables false
set_option linter.unusedSimpArgs false

attribute [local irreducible] tcs thc ccs zT
attribute [local go_sem ↓] alTn_is
attribute [local go_sem] run_alTnf run_alTnt zT_length
attribute [local go_sem ↓] lbTn_is lbTh_is lbCf_is lbRc_is sbTn_is sbTh_is sbCf_is sbRc_is
attribute [local go_sem] run_lbTn run_lbTh run_lbCf run_lbRc run_sbTn run_sbTh run_sbCf run_sbRc
attribute [local go_sem 2000] boxOf_old'
attribute [local go_sem] boxOf_at' boxOf_free' boxOf_alloc objBox_cells objBox_cellsA boxOf_drew boxOf_setI boxOf_setsI size_sets tcs_length thc_length ccs_length tcs_one thc_one ccs_one sub_tn sub_th sub_cf sub_thAll sub_cfAll put_turn put_thread
attribute [local go_sem] tc0 tc1 tc2 tc3 tc4 tc5 tc6 tc7 tc8 tc9 tc10 tc11 tc12 tc13 tc14 tc15 tc16 tc17 tc18 tc19 tc20 tc21 tc22 tc23 tc24 tc25 tc26 tc27 tc28 tc29 tc30 tc31 tc32 tc33 tc34 tc35 tc36 hc0 hc1 hc2 hc3 hc4 hc5 hc6 hc7 hc8 hc9 hc10 hc11 hc12 hc13 hc14 hc15 hc16 kc0 kc1 kc2 kc3 kc4 kc5 kc6 kc7 kc8 kc9 kc10 kc11 tg0 tg1 tg2 tg3 tg4 tg5 tg6 tg7 tg8 tg9 tg10 tg11 tg12 tg13 tg14 tg15 tg16 tg17 tg18 tg19 tg20 tg21 tg22 tg23 tg24 tg25 tg26 tg27 tg28 tg29 tg30 tg31 tg32 tg33 tg34 tg35 tg36 hg0 hg1 hg2 hg3 hg4 hg5 hg6 hg7 hg8 hg9 hg10 hg11 hg12 hg13 hg14 hg15 hg16 kg0 kg1 kg2 kg3 kg4 kg5 kg6 kg7 kg8 kg9 kg10 kg11
attribute [local go_sem] ts12 ts13 ts14 ts16 ts17 ts18 ts19 ts20 ts21 ts22 ts23 ts24 ts25 ts26 ts27 ts28 ts29 ts30 ts31 ts32 ts33 ts34 ts35 ts36 ts15 hs0 hs1 hs2 hs3 hs7 hs8 hs9 hs10 hs11 hs12 hs13 hs14 hs15 hs16

/-- Results out of a box beside a bool. -/
def stepC (u : Tn) : Tn := if u.d.ph = 2 ∨ u.d.ph = 25 then lookV u else if u.d.ph = 3 then swapV u else u
def isC (u : Tn) : Bool := u.d.ph == 2 || u.d.ph == 25 || u.d.ph == 3
def CSPost (u : Tn) (q : Bool) (n : Nat) (a : TA) (w : World) (e : Ending) (w' : World) : Prop := ∃ A c L k, e = .returned (.tuple #[.agg (tcs u { a with mA := A, mc := c, lA := L, lc := k }).toArray, .bool q]) ∧ Sees w' w'.heap.size 1 A u.ws.length (u.ws.map (Value.int .i64)) ∧ (A = a.mA ∨ Fresh w A) ∧ Sees w' w'.heap.size 6 L u.ll.length (mcells u.ll) ∧ ((L = a.lA ∧ u.ll.length = n) ∨ Fresh w L) ∧ Below w.heap.size w w'
theorem swap_len (u : Tn) : (swapV u).ws.length = u.ws.length := by
  unfold swapV; split
  · split
    · rw [com_ws, casV_length]
    · rfl
  · rfl
theorem look_ws (u : Tn) : (lookV u).ws = u.ws := by
  unfold lookV; split
  · split
    · rw [com_ws]
    · split
      · rw [onw_ws]
      · rfl
  · rfl
theorem look_len (u : Tn) : (lookV u).ws.length = u.ws.length := by rw [look_ws]
set_option maxRecDepth 100000 in
set_option maxHeartbeats 4000000 in
theorem cstep_any (u : Tn) (a : TA) (o : TnOk u) (w : World) (h : TnAt w u a) : Calls Try.prog 14 #[.agg (tcs u a).toArray] w (CSPost (stepC u) (isC u) u.ll.length a w) := by
  have B1 : boxOf ((w.alloc (.cells (tcs u a).toArray 38)).alloc (.cells zT.toArray 38)) w.heap.size = some (tcs u a) := by simp [go_sem]
  have B2 : boxOf ((w.alloc (.cells (tcs u a).toArray 38)).alloc (.cells zT.toArray 38)) (w.heap.size + 1) = some zT := by simp [go_sem]
  have hs : w.heap.size + 1 < ((w.alloc (.cells (tcs u a).toArray 38)).alloc (.cells zT.toArray 38)).heap.size := by simp
  have hB : Below w.heap.size w ((w.alloc (.cells (tcs u a).toArray 38)).alloc (.cells zT.toArray 38)) := (belowN w _).alloc (by simp) _
  have h0 := h
  replace h := h.later hB
  have hc : ((u.d.ph == 2) = true ∧ Hid (stepC u = lookV u ∧ isC u = true)) ∨ ((u.d.ph == 2) = false ∧ (u.d.ph == 25) = true ∧ Hid (stepC u = lookV u ∧ isC u = true)) ∨ ((u.d.ph == 2) = false ∧ (u.d.ph == 25) = false ∧ (u.d.ph == 3) = true ∧ Hid (stepC u = swapV u ∧ isC u = true)) ∨ ((u.d.ph == 2) = false ∧ (u.d.ph == 25) = false ∧ (u.d.ph == 3) = false ∧ Hid (stepC u = u ∧ isC u = false)) := by
    by_cases h1 : u.d.ph = 2
    · exact .inl ⟨by simpa using h1, hide ⟨by simp [stepC, h1], by simp [isC, h1]⟩⟩
    · by_cases h2 : u.d.ph = 25
      · exact .inr (.inl ⟨by simpa using h1, by simpa using h2, hide ⟨by simp [stepC, h2], by simp [isC, h2]⟩⟩)
      · by_cases h3 : u.d.ph = 3
        · exact .inr (.inr (.inl ⟨by simpa using h1, by simpa using h2, by simpa using h3, hide ⟨by simp [stepC, h3], by simp [isC, h3]⟩⟩))
        · exact .inr (.inr (.inr ⟨by simpa using h1, by simpa using h2, by simpa using h3, hide ⟨by simp [stepC, h1, h2, h3], by simp [isC, h1, h2, h3]⟩⟩))
  go_enter Try.func14, Try.ntmps14
  rcases hc with ⟨h1, H⟩ | ⟨h1, h2, H⟩ | ⟨h1, h2, h3, H⟩ | ⟨h1, h2, h3, H⟩
  · go_wp2_with fail
    generalize ((w.alloc (.cells (tcs u a).toArray 38)).alloc (.cells zT.toArray 38)) = wz at *
    refine (look_any u a o _ h).mono ?_
    rintro e w1 ⟨A, c, L, l, rfl, sA, hA, sL, hL, hb1⟩
    replace B2 := boxOf_keep B2 hb1
    have LEN := hide (look_len u)
    obtain ⟨v, hv⟩ : ∃ v, lookV u = v := ⟨_, rfl⟩
    rw [hv] at sA sL hL LEN H ⊢
    have fA : 0 < v.ws.length → ∀ p, A = some p → p.block ≠ w.heap.size + 1 := fun hn p hp => by
      rcases hA with e | f
      · have := h0.m.words.block_lt (by rw [LEN.out] at hn; exact hn) p (e ▸ hp); omega
      · have := f p hp; omega
    have fL : 0 < v.ll.length → ∀ p, L = some p → p.block ≠ w.heap.size + 1 := fun hn p hp => by
      rcases hL with e | f
      · have := h0.lg.block_lt (by omega) p (e.1 ▸ hp); omega
      · have := f p hp; omega
    have gA : A = a.mA ∨ Fresh w A := hA.imp_right (fun f p hp => Nat.le_trans hB.size (f p hp))
    have gL : (L = a.lA ∧ v.ll.length = u.ll.length) ∨ Fresh w L := hL.imp_right (fun f p hp => Nat.le_trans hB.size (f p hp))
    replace hB := below_next hB hB.size hb1
    replace hs := Nat.lt_of_lt_of_le hs hb1.size
    clear hb1 hv hA hL
    go_wp2
    have hBf : Below w.heap.size w (w1.setCells (w.heap.size + 1) 0 (tcs v ({ a with mA := A, mc := c, lA := L, lc := l }))) := by repeat first | exact hB | refine below_sets _ (by omega) _ _ _ _ ?_ | refine Below.setCell ?_ (by first | omega | (simp; omega) | simp) _ | refine Below.alloc ?_ (by first | omega | (simp; omega) | simp) _
    refine bodyPost_ret (v := .tuple #[.agg (tcs v ({ a with mA := A, mc := c, lA := L, lc := l })).toArray, .bool true]) (results_box2 Try.results14 _ _ (w.heap.size + 1) _ _ _ rfl rfl (by simp [go_sem, B2]) Try.underlying38 rfl (by kernel_rfl)) rfl (by rw [H.out.1, H.out.2]; exact ⟨A, c, L, l, rfl, sA.setsC _ fA _ _, gA, sL.setsC _ fL _ _, gL, hBf⟩)
  · go_wp2_with fail
    generalize ((w.alloc (.cells (tcs u a).toArray 38)).alloc (.cells zT.toArray 38)) = wz at *
    refine (look_any u a o _ h).mono ?_
    rintro e w1 ⟨A, c, L, l, rfl, sA, hA, sL, hL, hb1⟩
    replace B2 := boxOf_keep B2 hb1
    have LEN := hide (look_len u)
    obtain ⟨v, hv⟩ : ∃ v, lookV u = v := ⟨_, rfl⟩
    rw [hv] at sA sL hL LEN H ⊢
    have fA : 0 < v.ws.length → ∀ p, A = some p → p.block ≠ w.heap.size + 1 := fun hn p hp => by
      rcases hA with e | f
      · have := h0.m.words.block_lt (by rw [LEN.out] at hn; exact hn) p (e ▸ hp); omega
      · have := f p hp; omega
    have fL : 0 < v.ll.length → ∀ p, L = some p → p.block ≠ w.heap.size + 1 := fun hn p hp => by
      rcases hL with e | f
      · have := h0.lg.block_lt (by omega) p (e.1 ▸ hp); omega
      · have := f p hp; omega
    have gA : A = a.mA ∨ Fresh w A := hA.imp_right (fun f p hp => Nat.le_trans hB.size (f p hp))
    have gL : (L = a.lA ∧ v.ll.length = u.ll.length) ∨ Fresh w L := hL.imp_right (fun f p hp => Nat.le_trans hB.size (f p hp))
    replace hB := below_next hB hB.size hb1
    replace hs := Nat.lt_of_lt_of_le hs hb1.size
    clear hb1 hv hA hL
    go_wp2
    have hBf : Below w.heap.size w (w1.setCells (w.heap.size + 1) 0 (tcs v ({ a with mA := A, mc := c, lA := L, lc := l }))) := by repeat first | exact hB | refine below_sets _ (by omega) _ _ _ _ ?_ | refine Below.setCell ?_ (by first | omega | (simp; omega) | simp) _ | refine Below.alloc ?_ (by first | omega | (simp; omega) | simp) _
    refine bodyPost_ret (v := .tuple #[.agg (tcs v ({ a with mA := A, mc := c, lA := L, lc := l })).toArray, .bool true]) (results_box2 Try.results14 _ _ (w.heap.size + 1) _ _ _ rfl rfl (by simp [go_sem, B2]) Try.underlying38 rfl (by kernel_rfl)) rfl (by rw [H.out.1, H.out.2]; exact ⟨A, c, L, l, rfl, sA.setsC _ fA _ _, gA, sL.setsC _ fL _ _, gL, hBf⟩)
  · go_wp2_with fail
    generalize ((w.alloc (.cells (tcs u a).toArray 38)).alloc (.cells zT.toArray 38)) = wz at *
    refine (cswap_any u a o _ h).mono ?_
    rintro e w1 ⟨A, c, L, l, rfl, sA, hA, sL, hL, hb1⟩
    replace B2 := boxOf_keep B2 hb1
    have LEN := hide (swap_len u)
    obtain ⟨v, hv⟩ : ∃ v, swapV u = v := ⟨_, rfl⟩
    rw [hv] at sA sL hL LEN H ⊢
    have fA : 0 < v.ws.length → ∀ p, A = some p → p.block ≠ w.heap.size + 1 := fun hn p hp => by
      rcases hA with e | f
      · have := h0.m.words.block_lt (by rw [LEN.out] at hn; exact hn) p (e ▸ hp); omega
      · have := f p hp; omega
    have fL : 0 < v.ll.length → ∀ p, L = some p → p.block ≠ w.heap.size + 1 := fun hn p hp => by
      rcases hL with e | f
      · have := h0.lg.block_lt (by omega) p (e.1 ▸ hp); omega
      · have := f p hp; omega
    have gA : A = a.mA ∨ Fresh w A := hA.imp_right (fun f p hp => Nat.le_trans hB.size (f p hp))
    have gL : (L = a.lA ∧ v.ll.length = u.ll.length) ∨ Fresh w L := hL.imp_right (fun f p hp => Nat.le_trans hB.size (f p hp))
    replace hB := below_next hB hB.size hb1
    replace hs := Nat.lt_of_lt_of_le hs hb1.size
    clear hb1 hv hA hL
    go_wp2
    have hBf : Below w.heap.size w (w1.setCells (w.heap.size + 1) 0 (tcs v ({ a with mA := A, mc := c, lA := L, lc := l }))) := by repeat first | exact hB | refine below_sets _ (by omega) _ _ _ _ ?_ | refine Below.setCell ?_ (by first | omega | (simp; omega) | simp) _ | refine Below.alloc ?_ (by first | omega | (simp; omega) | simp) _
    refine bodyPost_ret (v := .tuple #[.agg (tcs v ({ a with mA := A, mc := c, lA := L, lc := l })).toArray, .bool true]) (results_box2 Try.results14 _ _ (w.heap.size + 1) _ _ _ rfl rfl (by simp [go_sem, B2]) Try.underlying38 rfl (by kernel_rfl)) rfl (by rw [H.out.1, H.out.2]; exact ⟨A, c, L, l, rfl, sA.setsC _ fA _ _, gA, sL.setsC _ fL _ _, gL, hBf⟩)
  · have key : ∀ W', Below w.heap.size w W' → CSPost u false u.ll.length a w (.returned (.tuple #[.agg (tcs u a).toArray, .bool false])) W' := fun W' hBf => ⟨a.mA, a.mc, a.lA, a.lc, rfl, h0.m.words.later hBf, .inl rfl, h0.lg.later hBf, .inl ⟨rfl, rfl⟩, hBf⟩
    go_wp2
    refine bodyPost_ret (v := .tuple #[.agg (tcs u a).toArray, .bool false]) (results_box2 Try.results14 _ _ (w.heap.size + 1) _ _ _ rfl rfl (by simp [go_sem, B2]) Try.underlying38 rfl (by kernel_rfl)) rfl ?_
    rw [H.out.1, H.out.2]
    exact key _ (by repeat first | exact hB | refine below_sets _ (by omega) _ _ _ _ ?_ | refine Below.setCell ?_ (by first | omega | (simp; omega) | simp) _ | refine Below.alloc ?_ (by first | omega | (simp; omega) | simp) _ | exact Below.refl _ _)
end Go.Proofs.Ytiacgbkaflcbeaa
