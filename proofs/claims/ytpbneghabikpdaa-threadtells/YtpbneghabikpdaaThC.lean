/- The contract of the document's Begin. -/
import Derived.Test.YtpbneghabikpdaaThB
import Derived.Deep.CutRange
namespace Go.Proofs.Ytpbneghabikpdaa
open Go.RowKit Go.Sort
set_option linter.unusedVariables false

attribute [local go_sem ↓] ldTh_is
attribute [local go_sem] run_ldTh
attribute [local go_sem ↓] ldRh_is
attribute [local go_sem] run_ldRh

attribute [local go_sem ↓] stTh_is
attribute [local go_sem] run_stTh run_stTh_there
attribute [local go_sem ↓] stRh_is
attribute [local go_sem] run_stRh run_stRh_there
attribute [local go_sem] one_int one_slice one_bool th_drew th_old th_new

/-- How things lie when 'out' is made: its block, its batch's. -/
def OutAt (w : World) (D wt t wd it tg v u : Int) (p : Value) (wc : World) : Prop :=
  ∃ k b, p = .pointer (some ⟨k, 0, none⟩) ∧ wc.rangeAt k 0 [.int .i64 1, .int .i64 it, .int .i64 tg, .int .i64 v, .slice (some ⟨b, 0, none⟩) 1 1, .slice none 0 0, .slice none 0 0, .int .i64 0, .int .i64 (leafV D t), .int .i64 0, .int .i64 0, .int .i64 0, .int .i64 wd, .int .i64 0, .int .i64 0, .int .i64 0, .int .i64 u] ∧ wc.there k 0 17 ∧ Sees wc wc.heap.size 3 (some ⟨b, 0, none⟩) 1 (ecells [(t, tg, v)]) ∧ w.heap.size + 1 + 1 + 1 < k ∧ w.heap.size + 1 + 1 + 1 < b ∧ b ≠ k ∧ (wc.cell? ⟨w.heap.size, 3, none⟩ = some (.int .i64 D) ∧ wc.cell? ⟨w.heap.size, 7, none⟩ = some (.int .i64 wt) ∧ wc.cell? ⟨w.heap.size + 1, 12, none⟩ = some (.int .i64 wd) ∧ wc.cell? ⟨w.heap.size + 1 + 1, 0, none⟩ = some (.int .i64 tg) ∧ wc.cell? ⟨w.heap.size + 1 + 1, 1, none⟩ = some (.int .i64 v) ∧ wc.there (w.heap.size + 1 + 1 + 1) 0 17 ∧ Below w.heap.size w wc ∧ w.heap.size + 1 + 1 + 1 < wc.heap.size)
theorem seesDr {w : World} {sz n : Nat} {A : Option Addr} {xs : List Value} (h : Sees w w.heap.size sz A n xs) : Sees w.drew w.drew.heap.size sz A n xs := h
theorem rangeSet16 {w : World} {k : Nat} {c0 c1 c2 c3 c4 c5 c6 c7 c8 c9 c10 c11 c12 c13 c14 c15 c16 x : Value} (h : w.rangeAt k 0 [c0, c1, c2, c3, c4, c5, c6, c7, c8, c9, c10, c11, c12, c13, c14, c15, c16]) : (w.setCell ⟨k, 16, none⟩ x).rangeAt k 0 [c0, c1, c2, c3, c4, c5, c6, c7, c8, c9, c10, c11, c12, c13, c14, c15, x] := by
  intro j u hu
  by_cases hj : j = 16
  · subst hj
    injection hu with hu
    subst hu
    rw [Nat.zero_add]
    exact World.cell?_setCell_same _ _ _ (rg h 16 rfl)
  · rw [World.cell?_setCell_other _ _ _ _ (by intro h1; rw [Addr.mk.injEq] at h1; omega)]
    refine h j u ?_
    have hj' : j < 17 := (List.getElem?_eq_some_iff.1 hu).1
    match j, hj' with
    | 0, _ => exact hu
    | 1, _ => exact hu
    | 2, _ => exact hu
    | 3, _ => exact hu
    | 4, _ => exact hu
    | 5, _ => exact hu
    | 6, _ => exact hu
    | 7, _ => exact hu
    | 8, _ => exact hu
    | 9, _ => exact hu
    | 10, _ => exact hu
    | 11, _ => exact hu
    | 12, _ => exact hu
    | 13, _ => exact hu
    | 14, _ => exact hu
    | 15, _ => exact hu
    | 16, _ => exact absurd rfl hj
    | j + 17, hj' => exact absurd hj' (by omega)
theorem seesE (w : World) (xs : List Value) (t : TypeId) (sz n : Nat) (h : xs.length = n * sz) {k : Nat} (hk : w.heap.size = k) : Sees (w.alloc (.cells xs.toArray t)) (w.alloc (.cells xs.toArray t)).heap.size sz (some ⟨k, 0, none⟩) n xs := hk ▸ sees_new w xs t sz n h
theorem keepSt2 {w W : World} {D wt wd tg v : Int} (h : W.cell? ⟨w.heap.size, 3, none⟩ = some (.int .i64 D) ∧ W.cell? ⟨w.heap.size, 7, none⟩ = some (.int .i64 wt) ∧ W.cell? ⟨w.heap.size + 1, 12, none⟩ = some (.int .i64 wd) ∧ W.cell? ⟨w.heap.size + 1 + 1, 0, none⟩ = some (.int .i64 tg) ∧ W.cell? ⟨w.heap.size + 1 + 1, 1, none⟩ = some (.int .i64 v) ∧ W.there (w.heap.size + 1 + 1 + 1) 0 17 ∧ Below w.heap.size w W ∧ w.heap.size + 1 + 1 + 1 < W.heap.size) {g : Nat} (cs : List Value) (hg : w.heap.size + 1 + 1 + 1 < g) : (W.setCells g 0 cs).cell? ⟨w.heap.size, 3, none⟩ = some (.int .i64 D) ∧ (W.setCells g 0 cs).cell? ⟨w.heap.size, 7, none⟩ = some (.int .i64 wt) ∧ (W.setCells g 0 cs).cell? ⟨w.heap.size + 1, 12, none⟩ = some (.int .i64 wd) ∧ (W.setCells g 0 cs).cell? ⟨w.heap.size + 1 + 1, 0, none⟩ = some (.int .i64 tg) ∧ (W.setCells g 0 cs).cell? ⟨w.heap.size + 1 + 1, 1, none⟩ = some (.int .i64 v) ∧ (W.setCells g 0 cs).there (w.heap.size + 1 + 1 + 1) 0 17 ∧ Below w.heap.size w (W.setCells g 0 cs) ∧ w.heap.size + 1 + 1 + 1 < (W.setCells g 0 cs).heap.size := by
  obtain ⟨h1, h2, h3, h4, h5, h6, h7, h8⟩ := h
  have f : ∀ (g' o : Nat) (u : Value), g' < w.heap.size + 1 + 1 + 1 → W.cell? ⟨g', o, none⟩ = some u → (W.setCells g 0 cs).cell? ⟨g', o, none⟩ = some u := fun g' o u hg' hu => by
    rw [World.cell?_setCells_out _ _ _ _ _ (fun hb _ => absurd hb (by show g' ≠ _; omega))]; exact hu
  exact ⟨f _ _ _ (by omega) h1, f _ _ _ (by omega) h2, f _ _ _ (by omega) h3, f _ _ _ (by omega) h4, f _ _ _ (by omega) h5, World.there_setCells h6 _ _ _, below_setCells' (by omega) _ _ _ h7, by rw [size_setCells]; exact h8⟩
theorem out_last {w X : World} {D wt t wd it tg v u : Int} {b : Nat} (h : X.cell? ⟨w.heap.size, 3, none⟩ = some (.int .i64 D) ∧ X.cell? ⟨w.heap.size, 7, none⟩ = some (.int .i64 wt) ∧ X.cell? ⟨w.heap.size + 1, 12, none⟩ = some (.int .i64 wd) ∧ X.cell? ⟨w.heap.size + 1 + 1, 0, none⟩ = some (.int .i64 tg) ∧ X.cell? ⟨w.heap.size + 1 + 1, 1, none⟩ = some (.int .i64 v) ∧ X.there (w.heap.size + 1 + 1 + 1) 0 17 ∧ Below w.heap.size w X ∧ w.heap.size + 1 + 1 + 1 < X.heap.size) (hs : Sees X X.heap.size 3 (some ⟨b, 0, none⟩) 1 (ecells [(t, tg, v)])) (hb : w.heap.size + 1 + 1 + 1 < b) (hb' : b < X.heap.size) :
    OutAt w D wt t wd it tg v u (.pointer (some ⟨X.heap.size, 0, none⟩)) (X.alloc (.cells #[.int .i64 1, .int .i64 it, .int .i64 tg, .int .i64 v, .slice (some ⟨b, 0, none⟩) 1 1, .slice none 0 0, .slice none 0 0, .int .i64 0, .int .i64 (leafV D t), .int .i64 0, .int .i64 0, .int .i64 0, .int .i64 wd, .int .i64 0, .int .i64 0, .int .i64 0, .int .i64 u] 41)) :=
  ⟨X.heap.size, b, rfl, range_new X _ _, there_alloc_new X #[.int .i64 1, .int .i64 it, .int .i64 tg, .int .i64 v, .slice (some ⟨b, 0, none⟩) 1 1, .slice none 0 0, .slice none 0 0, .int .i64 0, .int .i64 (leafV D t), .int .i64 0, .int .i64 0, .int .i64 0, .int .i64 wd, .int .i64 0, .int .i64 0, .int .i64 0, .int .i64 u] 41, hs.later (belowA _ _), h.2.2.2.2.2.2.2, hb, Nat.ne_of_lt hb', keepBg h (belowA _ _)⟩
theorem out_set {w X : World} {D wt t wd it tg v u : Int} {b k : Nat} (h : X.cell? ⟨w.heap.size, 3, none⟩ = some (.int .i64 D) ∧ X.cell? ⟨w.heap.size, 7, none⟩ = some (.int .i64 wt) ∧ X.cell? ⟨w.heap.size + 1, 12, none⟩ = some (.int .i64 wd) ∧ X.cell? ⟨w.heap.size + 1 + 1, 0, none⟩ = some (.int .i64 tg) ∧ X.cell? ⟨w.heap.size + 1 + 1, 1, none⟩ = some (.int .i64 v) ∧ X.there (w.heap.size + 1 + 1 + 1) 0 17 ∧ Below w.heap.size w X ∧ w.heap.size + 1 + 1 + 1 < X.heap.size) (ht : X.there k 0 17) (hs : Sees X X.heap.size 3 (some ⟨b, 0, none⟩) 1 (ecells [(t, tg, v)])) (hk : w.heap.size + 1 + 1 + 1 < k) (hb : w.heap.size + 1 + 1 + 1 < b) (hbk : b ≠ k) :
    OutAt w D wt t wd it tg v u (.pointer (some ⟨k, 0, none⟩)) (X.setCells k 0 [.int .i64 1, .int .i64 it, .int .i64 tg, .int .i64 v, .slice (some ⟨b, 0, none⟩) 1 1, .slice none 0 0, .slice none 0 0, .int .i64 0, .int .i64 (leafV D t), .int .i64 0, .int .i64 0, .int .i64 0, .int .i64 wd, .int .i64 0, .int .i64 0, .int .i64 0, .int .i64 u]) :=
  ⟨k, b, rfl, World.rangeAt_setCells_same X k 0 _ ht, World.there_setCells ht _ _ _, (by have := hs.setCells k 0 (fun p hp => by cases hp; exact hbk) [.int .i64 1, .int .i64 it, .int .i64 tg, .int .i64 v, .slice (some ⟨b, 0, none⟩) 1 1, .slice none 0 0, .slice none 0 0, .int .i64 0, .int .i64 (leafV D t), .int .i64 0, .int .i64 0, .int .i64 0, .int .i64 wd, .int .i64 0, .int .i64 0, .int .i64 0, .int .i64 u] 0; rwa [← size_setCells k [.int .i64 1, .int .i64 it, .int .i64 tg, .int .i64 v, .slice (some ⟨b, 0, none⟩) 1 1, .slice none 0 0, .slice none 0 0, .int .i64 0, .int .i64 (leafV D t), .int .i64 0, .int .i64 0, .int .i64 0, .int .i64 wd, .int .i64 0, .int .i64 0, .int .i64 0, .int .i64 u] 0 X] at this), hk, hb, hbk, keepSt2 h _ hk⟩

set_option maxRecDepth 100000 in
set_option maxHeartbeats 4000000 in
theorem rbegin_any (D wt t wd it tg v now : Int) (k0 k1 k2 k4 k5 k6 k8 k9 k10 k11 c0 c1 c2 c3 c4 c5 c6 c7 c8 c9 c10 c11 c13 c14 c15 c16 : Value) (hD : 0 ≤ D ∧ D ≤ 4) (h0 : 0 ≤ t) (ht : I64 t) (w : World) :
    Calls Try.prog 14 #[.agg #[k0, k1, k2, .int .i64 D, k4, k5, k6, .int .i64 wt, k8, k9, k10, k11], .int .i64 t, .agg #[c0, c1, c2, c3, c4, c5, c6, c7, c8, c9, c10, c11, .int .i64 wd, c13, c14, c15, c16], .int .i64 it, .agg #[.int .i64 tg, .int .i64 v], .int .i64 now] w (BegPost D wt t wd it tg v now w) := by
  have Z : ((((w.alloc (.cells #[k0, k1, k2, .int .i64 D, k4, k5, k6, .int .i64 wt, k8, k9, k10, k11] 33)).alloc (.cells #[c0, c1, c2, c3, c4, c5, c6, c7, c8, c9, c10, c11, .int .i64 wd, c13, c14, c15, c16] 41)).alloc (.cells #[.int .i64 tg, .int .i64 v] 37)).alloc (.cells #[.int .i64 0, .int .i64 0, .int .i64 0, .int .i64 0, .slice none 0 0, .slice none 0 0, .slice none 0 0, .int .i64 0, .int .i64 0, .int .i64 0, .int .i64 0, .int .i64 0, .int .i64 0, .int .i64 0, .int .i64 0, .int .i64 0, .int .i64 0] 41)).cell? ⟨w.heap.size, 3, none⟩ = some (.int .i64 D) ∧ ((((w.alloc (.cells #[k0, k1, k2, .int .i64 D, k4, k5, k6, .int .i64 wt, k8, k9, k10, k11] 33)).alloc (.cells #[c0, c1, c2, c3, c4, c5, c6, c7, c8, c9, c10, c11, .int .i64 wd, c13, c14, c15, c16] 41)).alloc (.cells #[.int .i64 tg, .int .i64 v] 37)).alloc (.cells #[.int .i64 0, .int .i64 0, .int .i64 0, .int .i64 0, .slice none 0 0, .slice none 0 0, .slice none 0 0, .int .i64 0, .int .i64 0, .int .i64 0, .int .i64 0, .int .i64 0, .int .i64 0, .int .i64 0, .int .i64 0, .int .i64 0, .int .i64 0] 41)).cell? ⟨w.heap.size, 7, none⟩ = some (.int .i64 wt) ∧ ((((w.alloc (.cells #[k0, k1, k2, .int .i64 D, k4, k5, k6, .int .i64 wt, k8, k9, k10, k11] 33)).alloc (.cells #[c0, c1, c2, c3, c4, c5, c6, c7, c8, c9, c10, c11, .int .i64 wd, c13, c14, c15, c16] 41)).alloc (.cells #[.int .i64 tg, .int .i64 v] 37)).alloc (.cells #[.int .i64 0, .int .i64 0, .int .i64 0, .int .i64 0, .slice none 0 0, .slice none 0 0, .slice none 0 0, .int .i64 0, .int .i64 0, .int .i64 0, .int .i64 0, .int .i64 0, .int .i64 0, .int .i64 0, .int .i64 0, .int .i64 0, .int .i64 0] 41)).cell? ⟨w.heap.size + 1, 12, none⟩ = some (.int .i64 wd) ∧ ((((w.alloc (.cells #[k0, k1, k2, .int .i64 D, k4, k5, k6, .int .i64 wt, k8, k9, k10, k11] 33)).alloc (.cells #[c0, c1, c2, c3, c4, c5, c6, c7, c8, c9, c10, c11, .int .i64 wd, c13, c14, c15, c16] 41)).alloc (.cells #[.int .i64 tg, .int .i64 v] 37)).alloc (.cells #[.int .i64 0, .int .i64 0, .int .i64 0, .int .i64 0, .slice none 0 0, .slice none 0 0, .slice none 0 0, .int .i64 0, .int .i64 0, .int .i64 0, .int .i64 0, .int .i64 0, .int .i64 0, .int .i64 0, .int .i64 0, .int .i64 0, .int .i64 0] 41)).cell? ⟨w.heap.size + 1 + 1, 0, none⟩ = some (.int .i64 tg) ∧ ((((w.alloc (.cells #[k0, k1, k2, .int .i64 D, k4, k5, k6, .int .i64 wt, k8, k9, k10, k11] 33)).alloc (.cells #[c0, c1, c2, c3, c4, c5, c6, c7, c8, c9, c10, c11, .int .i64 wd, c13, c14, c15, c16] 41)).alloc (.cells #[.int .i64 tg, .int .i64 v] 37)).alloc (.cells #[.int .i64 0, .int .i64 0, .int .i64 0, .int .i64 0, .slice none 0 0, .slice none 0 0, .slice none 0 0, .int .i64 0, .int .i64 0, .int .i64 0, .int .i64 0, .int .i64 0, .int .i64 0, .int .i64 0, .int .i64 0, .int .i64 0, .int .i64 0] 41)).cell? ⟨w.heap.size + 1 + 1, 1, none⟩ = some (.int .i64 v) ∧ ((((w.alloc (.cells #[k0, k1, k2, .int .i64 D, k4, k5, k6, .int .i64 wt, k8, k9, k10, k11] 33)).alloc (.cells #[c0, c1, c2, c3, c4, c5, c6, c7, c8, c9, c10, c11, .int .i64 wd, c13, c14, c15, c16] 41)).alloc (.cells #[.int .i64 tg, .int .i64 v] 37)).alloc (.cells #[.int .i64 0, .int .i64 0, .int .i64 0, .int .i64 0, .slice none 0 0, .slice none 0 0, .slice none 0 0, .int .i64 0, .int .i64 0, .int .i64 0, .int .i64 0, .int .i64 0, .int .i64 0, .int .i64 0, .int .i64 0, .int .i64 0, .int .i64 0] 41)).there (w.heap.size + 1 + 1 + 1) 0 17 ∧ Below w.heap.size w ((((w.alloc (.cells #[k0, k1, k2, .int .i64 D, k4, k5, k6, .int .i64 wt, k8, k9, k10, k11] 33)).alloc (.cells #[c0, c1, c2, c3, c4, c5, c6, c7, c8, c9, c10, c11, .int .i64 wd, c13, c14, c15, c16] 41)).alloc (.cells #[.int .i64 tg, .int .i64 v] 37)).alloc (.cells #[.int .i64 0, .int .i64 0, .int .i64 0, .int .i64 0, .slice none 0 0, .slice none 0 0, .slice none 0 0, .int .i64 0, .int .i64 0, .int .i64 0, .int .i64 0, .int .i64 0, .int .i64 0, .int .i64 0, .int .i64 0, .int .i64 0, .int .i64 0] 41)) ∧ w.heap.size + 1 + 1 + 1 < ((((w.alloc (.cells #[k0, k1, k2, .int .i64 D, k4, k5, k6, .int .i64 wt, k8, k9, k10, k11] 33)).alloc (.cells #[c0, c1, c2, c3, c4, c5, c6, c7, c8, c9, c10, c11, .int .i64 wd, c13, c14, c15, c16] 41)).alloc (.cells #[.int .i64 tg, .int .i64 v] 37)).alloc (.cells #[.int .i64 0, .int .i64 0, .int .i64 0, .int .i64 0, .slice none 0 0, .slice none 0 0, .slice none 0 0, .int .i64 0, .int .i64 0, .int .i64 0, .int .i64 0, .int .i64 0, .int .i64 0, .int .i64 0, .int .i64 0, .int .i64 0, .int .i64 0] 41)).heap.size :=
    ⟨by simp [go_sem], by simp [go_sem], by simp [go_sem], by simp [go_sem], by simp [go_sem], (by have := there_alloc_new (((w.alloc (.cells #[k0, k1, k2, .int .i64 D, k4, k5, k6, .int .i64 wt, k8, k9, k10, k11] 33)).alloc (.cells #[c0, c1, c2, c3, c4, c5, c6, c7, c8, c9, c10, c11, .int .i64 wd, c13, c14, c15, c16] 41)).alloc (.cells #[.int .i64 tg, .int .i64 v] 37)) #[.int .i64 0, .int .i64 0, .int .i64 0, .int .i64 0, .slice none 0 0, .slice none 0 0, .slice none 0 0, .int .i64 0, .int .i64 0, .int .i64 0, .int .i64 0, .int .i64 0, .int .i64 0, .int .i64 0, .int .i64 0, .int .i64 0, .int .i64 0] 41; simpa using this), (((((Below.refl _ w).alloc (Nat.le_refl _) _).alloc (by simp) _).alloc (by simp; omega) _).alloc (by simp; omega) _), by simp⟩
  have KL := hide (fun w => rleaf_any D t hD h0 ht w)
  clear hD h0 ht
  go_enter Try.func14, Try.ntmps14
  go_upto_region 1 with fail
  generalize ((((w.alloc (.cells #[k0, k1, k2, .int .i64 D, k4, k5, k6, .int .i64 wt, k8, k9, k10, k11] 33)).alloc (.cells #[c0, c1, c2, c3, c4, c5, c6, c7, c8, c9, c10, c11, .int .i64 wd, c13, c14, c15, c16] 41)).alloc (.cells #[.int .i64 tg, .int .i64 v] 37)).alloc (.cells #[.int .i64 0, .int .i64 0, .int .i64 0, .int .i64 0, .slice none 0 0, .slice none 0 0, .slice none 0 0, .int .i64 0, .int .i64 0, .int .i64 0, .int .i64 0, .int .i64 0, .int .i64 0, .int .i64 0, .int .i64 0, .int .i64 0, .int .i64 0] 41)) = wz at *
  replace Z := keepBg Z (belowD wz)
  have q0 : w.heap.size + 1 + 1 + 1 < wz.heap.size := Z.2.2.2.2.2.2.2
  have tBA : ((wz.alloc (.cells #[.int .i64 t, .int .i64 tg, .int .i64 v] 86)).alloc (.cells #[.int .i64 0, .int .i64 0, .int .i64 0, .int .i64 0, .slice none 0 0, .slice none 0 0, .slice none 0 0, .int .i64 0, .int .i64 0, .int .i64 0, .int .i64 0, .int .i64 0, .int .i64 0, .int .i64 0, .int .i64 0, .int .i64 0, .int .i64 0] 41)).drew.there (wz.heap.size + 1) 0 17 := th_drew _ _ _ (th_new _ _ _ _ _ (by simp) rfl)
  have tAB : ((wz.alloc (.cells #[.int .i64 0, .int .i64 0, .int .i64 0, .int .i64 0, .slice none 0 0, .slice none 0 0, .slice none 0 0, .int .i64 0, .int .i64 0, .int .i64 0, .int .i64 0, .int .i64 0, .int .i64 0, .int .i64 0, .int .i64 0, .int .i64 0, .int .i64 0] 41)).alloc (.cells #[.int .i64 t, .int .i64 tg, .int .i64 v] 86)).drew.there wz.heap.size 0 17 := th_drew _ _ _ (th_old _ _ _ _ (th_new _ _ _ _ _ rfl rfl))
  have tA : (wz.alloc (.cells #[.int .i64 0, .int .i64 0, .int .i64 0, .int .i64 0, .slice none 0 0, .slice none 0 0, .slice none 0 0, .int .i64 0, .int .i64 0, .int .i64 0, .int .i64 0, .int .i64 0, .int .i64 0, .int .i64 0, .int .i64 0, .int .i64 0, .int .i64 0] 41)).drew.there wz.heap.size 0 17 := th_drew _ _ _ (th_new _ _ _ _ _ rfl rfl)
  go_cut [13] from 14 (fun p wc => OutAt w D wt t wd it tg v 0 p wc)
  case first =>
    go_region_held3 (fun w' => w'.cell? ⟨w.heap.size, 3, none⟩ = some (.int .i64 D) ∧ w'.cell? ⟨w.heap.size, 7, none⟩ = some (.int .i64 wt) ∧ w'.cell? ⟨w.heap.size + 1, 12, none⟩ = some (.int .i64 wd) ∧ w'.cell? ⟨w.heap.size + 1 + 1, 0, none⟩ = some (.int .i64 tg) ∧ w'.cell? ⟨w.heap.size + 1 + 1, 1, none⟩ = some (.int .i64 v) ∧ w'.there (w.heap.size + 1 + 1 + 1) 0 17 ∧ Below w.heap.size w w' ∧ w.heap.size + 1 + 1 + 1 < w'.heap.size)
      (first | (with_reducible exact Z) | (with_reducible exact Z1) | (with_reducible exact keepSt2 (by assumption) _ (by omega)) | (with_reducible exact keepBg (by assumption) (belowA _ _)))
      (first
        | (go_at_call 29; refine (KL.out _).mono ?_; rintro x w1 ⟨rfl, hb1⟩; have q1 : wz.heap.size ≤ w1.heap.size := Nat.le_trans (by simp; (try omega)) hb1.size; have Z1 : w1.cell? ⟨w.heap.size, 3, none⟩ = some (.int .i64 D) ∧ w1.cell? ⟨w.heap.size, 7, none⟩ = some (.int .i64 wt) ∧ w1.cell? ⟨w.heap.size + 1, 12, none⟩ = some (.int .i64 wd) ∧ w1.cell? ⟨w.heap.size + 1 + 1, 0, none⟩ = some (.int .i64 tg) ∧ w1.cell? ⟨w.heap.size + 1 + 1, 1, none⟩ = some (.int .i64 v) ∧ w1.there (w.heap.size + 1 + 1 + 1) 0 17 ∧ Below w.heap.size w w1 ∧ w.heap.size + 1 + 1 + 1 < w1.heap.size := keepBg (by assumption) hb1; (first | (with_reducible have t1 := there_keep' tBA hb1) | (with_reducible have t1 := there_keep' tAB hb1) | (with_reducible have t1 := there_keep' tA hb1; have t5 := th_old w1 (.cells #[.int .i64 t, .int .i64 tg, .int .i64 v] 86) _ _ t1) | skip); have t4 : ((w1.alloc (.cells #[.int .i64 0, .int .i64 0, .int .i64 0, .int .i64 0, .slice none 0 0, .slice none 0 0, .slice none 0 0, .int .i64 0, .int .i64 0, .int .i64 0, .int .i64 0, .int .i64 0, .int .i64 0, .int .i64 0, .int .i64 0, .int .i64 0, .int .i64 0] 41)).alloc (.cells #[.int .i64 t, .int .i64 tg, .int .i64 v] 86)).there w1.heap.size 0 17 := th_old _ _ _ _ (th_new _ _ _ _ _ rfl rfl)))
    all_goals go_wp2_with fail
    all_goals go_meet
    · have q2 : wz.heap.size + 1 ≤ w1.heap.size := (by have := hb1.size; simpa using this)
      exact out_set (keepBg Z1 (belowA _ _)) (th_new _ _ _ _ _ rfl rfl) (((seesD wz [.int .i64 t, .int .i64 tg, .int .i64 v] 86 3 1 rfl).later hb1).later (belowA _ _)) (by omega) (by omega) (by omega)
    · exact out_set Z1 t1 (Sees.later (w := ((wz.alloc (.cells #[.int .i64 t, .int .i64 tg, .int .i64 v] 86)).alloc (.cells #[.int .i64 0, .int .i64 0, .int .i64 0, .int .i64 0, .slice none 0 0, .slice none 0 0, .slice none 0 0, .int .i64 0, .int .i64 0, .int .i64 0, .int .i64 0, .int .i64 0, .int .i64 0, .int .i64 0, .int .i64 0, .int .i64 0, .int .i64 0] 41)).drew) (seesDr ((sees_new wz [.int .i64 t, .int .i64 tg, .int .i64 v] 86 3 1 rfl).later (belowA (wz.alloc (.cells #[.int .i64 t, .int .i64 tg, .int .i64 v] 86)) (.cells #[.int .i64 0, .int .i64 0, .int .i64 0, .int .i64 0, .slice none 0 0, .slice none 0 0, .slice none 0 0, .int .i64 0, .int .i64 0, .int .i64 0, .int .i64 0, .int .i64 0, .int .i64 0, .int .i64 0, .int .i64 0, .int .i64 0, .int .i64 0] 41)))) hb1) (by omega) (by omega) (by omega)
    · exact out_set (keepBg (keepBg Z1 (belowA _ _)) (belowA _ _)) (th_new _ _ _ _ _ (by simp) rfl) ((sees_new w1 [.int .i64 t, .int .i64 tg, .int .i64 v] 86 3 1 rfl).later (belowA _ _)) (by omega) (by omega) (by omega)
    · exact out_set (keepBg (keepBg Z1 (belowA _ _)) (belowA _ _)) (th_old _ _ _ _ (th_new _ _ _ _ _ rfl rfl)) (seesE (w1.alloc (.cells #[.int .i64 0, .int .i64 0, .int .i64 0, .int .i64 0, .slice none 0 0, .slice none 0 0, .slice none 0 0, .int .i64 0, .int .i64 0, .int .i64 0, .int .i64 0, .int .i64 0, .int .i64 0, .int .i64 0, .int .i64 0, .int .i64 0, .int .i64 0] 41)) [.int .i64 t, .int .i64 tg, .int .i64 v] 86 3 1 rfl (by simp)) (by omega) (by omega) (by omega)
    · exact out_set Z1 t1 (Sees.later (w := ((wz.alloc (.cells #[.int .i64 0, .int .i64 0, .int .i64 0, .int .i64 0, .slice none 0 0, .slice none 0 0, .slice none 0 0, .int .i64 0, .int .i64 0, .int .i64 0, .int .i64 0, .int .i64 0, .int .i64 0, .int .i64 0, .int .i64 0, .int .i64 0, .int .i64 0] 41)).alloc (.cells #[.int .i64 t, .int .i64 tg, .int .i64 v] 86)).drew) (seesDr <| seesE (wz.alloc (.cells #[.int .i64 0, .int .i64 0, .int .i64 0, .int .i64 0, .slice none 0 0, .slice none 0 0, .slice none 0 0, .int .i64 0, .int .i64 0, .int .i64 0, .int .i64 0, .int .i64 0, .int .i64 0, .int .i64 0, .int .i64 0, .int .i64 0, .int .i64 0] 41)) [.int .i64 t, .int .i64 tg, .int .i64 v] 86 3 1 rfl (by simp)) hb1) (by omega) (by omega) (by omega)
    · have q2 : wz.heap.size + 1 ≤ w1.heap.size := (by have := hb1.size; simpa using this)
      exact out_set (keepBg Z1 (belowA _ _)) (th_old _ _ _ _ t1) (sees_new w1 [.int .i64 t, .int .i64 tg, .int .i64 v] 86 3 1 rfl) (by omega) (by omega) (by omega)
  case rest =>
    obtain ⟨k, b, rfl, R, T, hs, hk, hb, hbk, ZC⟩ := hcut
    have ZH := hide ZC
    obtain ⟨_, z7, _, _, _, zt, zB, z8⟩ := ZC
    by_cases h : 0 < wt
    · have HU : Hid (untilV now wt = wrap64 (now + wt)) := hide (by unfold untilV; rw [if_neg (by omega)])
      have f16 : wc.frozen? ⟨k, 16, none⟩ = false := (by have := (T 16 (by omega)).2; rwa [Nat.zero_add] at this)
      have R' : (wc.setCell ⟨k, 16, none⟩ (.int .i64 (untilV now wt))).rangeAt k 0 [.int .i64 1, .int .i64 it, .int .i64 tg, .int .i64 v, .slice (some ⟨b, 0, none⟩) 1 1, .slice none 0 0, .slice none 0 0, .int .i64 0, .int .i64 (leafV D t), .int .i64 0, .int .i64 0, .int .i64 0, .int .i64 wd, .int .i64 0, .int .i64 0, .int .i64 0, .int .i64 (untilV now wt)] := rangeSet16 R
      have zt' : (wc.setCell ⟨k, 16, none⟩ (.int .i64 (untilV now wt))).there (w.heap.size + 1 + 1 + 1) 0 17 := World.there_setCells zt k 16 [.int .i64 (untilV now wt)]
      have hB' : Below w.heap.size w (wc.setCell ⟨k, 16, none⟩ (.int .i64 (untilV now wt))) := zB.setCell (by show _ ≤ k; omega) _
      have hs' : Sees (wc.setCell ⟨k, 16, none⟩ (.int .i64 (untilV now wt))) (wc.setCell ⟨k, 16, none⟩ (.int .i64 (untilV now wt))).heap.size 3 (some ⟨b, 0, none⟩) 1 (ecells [(t, tg, v)]) := (by have := hs.far k 16 (.int .i64 (untilV now wt)) (fun p hp => by cases hp; exact hbk); simpa using this)
      obtain ⟨r1, r2, r3, r4⟩ := beg_fin [.int .i64 1, .int .i64 it, .int .i64 tg, .int .i64 v, .slice (some ⟨b, 0, none⟩) 1 1, .slice none 0 0, .slice none 0 0, .int .i64 0, .int .i64 (leafV D t), .int .i64 0, .int .i64 0, .int .i64 0, .int .i64 wd, .int .i64 0, .int .i64 0, .int .i64 0, .int .i64 (untilV now wt)] rfl (by omega) (by omega) (by omega) hB' zt' hs'
      have q16 := rg R 16 rfl
      rw [HU.out] at R' zt' r1 r2 r4
      obtain ⟨s0, s1, s2, s3, s4, s5, s6, s7, s8, s9, s10, s11, s12, s13, s14, s15, s16⟩ := box17 R'
      clear R R' T hs hs' hB' zB ZH KL Z tBA tAB tA
      go_wp2
      refine bodyPost_ret (v := .agg #[.int .i64 1, .int .i64 it, .int .i64 tg, .int .i64 v, .slice (some ⟨b, 0, none⟩) 1 1, .slice none 0 0, .slice none 0 0, .int .i64 0, .int .i64 (leafV D t), .int .i64 0, .int .i64 0, .int .i64 0, .int .i64 wd, .int .i64 0, .int .i64 0, .int .i64 0, .int .i64 (untilV now wt)]) (by rw [HU.out]; exact results_at Try.results14 _ _ (w.heap.size + 1 + 1 + 1) _ _ rfl r1 Try.underlying41 rfl (by kernel_rfl)) rfl ⟨_, rfl, r2, r3, r4⟩
    · have HU : Hid (untilV now wt = 0) := hide (by unfold untilV; rw [if_pos (by omega)])
      obtain ⟨r1, r2, r3, r4⟩ := beg_fin [.int .i64 1, .int .i64 it, .int .i64 tg, .int .i64 v, .slice (some ⟨b, 0, none⟩) 1 1, .slice none 0 0, .slice none 0 0, .int .i64 0, .int .i64 (leafV D t), .int .i64 0, .int .i64 0, .int .i64 0, .int .i64 wd, .int .i64 0, .int .i64 0, .int .i64 0, .int .i64 0] rfl (by omega) (by omega) (by omega) zB zt hs
      obtain ⟨s0, s1, s2, s3, s4, s5, s6, s7, s8, s9, s10, s11, s12, s13, s14, s15, s16⟩ := box17 R
      clear R T hs zB ZH KL Z tBA tAB tA
      go_wp2
      refine bodyPost_ret (v := .agg #[.int .i64 1, .int .i64 it, .int .i64 tg, .int .i64 v, .slice (some ⟨b, 0, none⟩) 1 1, .slice none 0 0, .slice none 0 0, .int .i64 0, .int .i64 (leafV D t), .int .i64 0, .int .i64 0, .int .i64 0, .int .i64 wd, .int .i64 0, .int .i64 0, .int .i64 0, .int .i64 (untilV now wt)]) (by rw [HU.out]; exact results_at Try.results14 _ _ (w.heap.size + 1 + 1 + 1) _ _ rfl r1 Try.underlying41 rfl (by kernel_rfl)) rfl ⟨_, rfl, r2, r3, r4⟩

end Go.Proofs.Ytpbneghabikpdaa
