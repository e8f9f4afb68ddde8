/- Contracts of Begin, of the program and of the document. -/
import Derived.Test.YtpbneghabikpdaaThN
import Derived.Deep.RegionHeld3
import Derived.Lib.QuietBelow
import Derived.Deep.QuietTactic
import Derived.BigQuiet
namespace Go.Proofs.Ytpbneghabikpdaa
open Go.RowKit Go.Sort
set_option linter.unusedVariables false

attribute [local go_sem ↓] ldTh_is
attribute [local go_sem] run_ldTh
attribute [local go_sem ↓] ldRh_is
attribute [local go_sem] run_ldRh

attribute [local go_sem ↓] stTh_is
attribute [local go_sem] run_stTh run_stTh_there
attribute [local go_sem ↓] stRh_is
attribute [local go_sem] run_stRh run_stRh_there
attribute [local go_sem] one_int one_slice one_bool

/-- A thread that begins: its batch is one entry, in a new row. -/
def BegPost (D wt t wd it tg v now : Int) (w : World) (e : Ending) (w' : World) : Prop :=
  ∃ A, e = .returned (.agg #[.int .i64 1, .int .i64 it, .int .i64 tg, .int .i64 v, .slice A 1 1, .slice none 0 0, .slice none 0 0, .int .i64 0, .int .i64 (leafV D t), .int .i64 0, .int .i64 0, .int .i64 0, .int .i64 wd, .int .i64 0, .int .i64 0, .int .i64 0, .int .i64 (untilV now wt)]) ∧ Sees w' w'.heap.size 3 A 1 (ecells [(t, tg, v)]) ∧ Fresh w A ∧ Below w.heap.size w w'
theorem Sees.setCells {w : World} {sz n : Nat} {A : Option Addr} {xs : List Value} (h : Sees w w.heap.size sz A n xs) (g o : Nat) (hA : ∀ p, A = some p → p.block ≠ g) : ∀ (cs : List Value) (o : Nat), Sees (w.setCells g o cs) w.heap.size sz A n xs := fun cs o =>
  ⟨h.1, fun hn => by
    obtain ⟨b, off, e, hb, hc⟩ := h.2 hn
    refine ⟨b, off, e, hb, fun j u hu => ?_⟩
    rw [World.cell?_setCells_out g cs o w ⟨b, off + j, none⟩ (fun hb' _ => absurd hb' (hA ⟨b, off, none⟩ e))]
    exact hc j u hu⟩
theorem size_setCells (g : Nat) : ∀ (cs : List Value) (o : Nat) (w : World), (w.setCells g o cs).heap.size = w.heap.size
  | [], _, _ => rfl
  | v :: r, o, w => by rw [World.setCells, size_setCells g r]; simp
theorem below_setCells' {B : Nat} {a : World} {g : Nat} (hg : B ≤ g) : ∀ (cs : List Value) (o : Nat) (w : World), Below B a w → Below B a (w.setCells g o cs)
  | [], _, _, h => h
  | v :: r, o, w, h => by rw [World.setCells]; exact below_setCells' hg r _ _ (h.setCell hg v)
theorem beg_fin {w W : World} {g b n : Nat} {xs : List Value} (cs : List Value) (hn : cs.length = n) (hg : w.heap.size ≤ g) (hgb : b ≠ g) (hw : w.heap.size ≤ b) (hB : Below w.heap.size w W) (ht : W.there g 0 n) (hs : Sees W W.heap.size 3 (some ⟨b, 0, none⟩) 1 xs) :
    (W.setCells g 0 cs).rangeAt g 0 cs ∧ Sees (W.setCells g 0 cs) (W.setCells g 0 cs).heap.size 3 (some ⟨b, 0, none⟩) 1 xs ∧ Fresh w (some ⟨b, 0, none⟩) ∧ Below w.heap.size w (W.setCells g 0 cs) := by
  subst hn
  refine ⟨World.rangeAt_setCells_same W g 0 cs ht, ?_, fun p hp => by cases hp; exact hw, below_setCells' hg cs 0 W hB⟩
  have := hs.setCells g 0 (fun p hp => by cases hp; exact hgb) cs 0
  rwa [← size_setCells g cs 0 W] at this

theorem keepBg {w W W' : World} {D wt wd tg v : Int} (h : W.cell? ⟨w.heap.size, 3, none⟩ = some (.int .i64 D) ∧ W.cell? ⟨w.heap.size, 7, none⟩ = some (.int .i64 wt) ∧ W.cell? ⟨w.heap.size + 1, 12, none⟩ = some (.int .i64 wd) ∧ W.cell? ⟨w.heap.size + 1 + 1, 0, none⟩ = some (.int .i64 tg) ∧ W.cell? ⟨w.heap.size + 1 + 1, 1, none⟩ = some (.int .i64 v) ∧ W.there (w.heap.size + 1 + 1 + 1) 0 17 ∧ Below w.heap.size w W ∧ w.heap.size + 1 + 1 + 1 < W.heap.size) (hb : Below W.heap.size W W') : W'.cell? ⟨w.heap.size, 3, none⟩ = some (.int .i64 D) ∧ W'.cell? ⟨w.heap.size, 7, none⟩ = some (.int .i64 wt) ∧ W'.cell? ⟨w.heap.size + 1, 12, none⟩ = some (.int .i64 wd) ∧ W'.cell? ⟨w.heap.size + 1 + 1, 0, none⟩ = some (.int .i64 tg) ∧ W'.cell? ⟨w.heap.size + 1 + 1, 1, none⟩ = some (.int .i64 v) ∧ W'.there (w.heap.size + 1 + 1 + 1) 0 17 ∧ Below w.heap.size w W' ∧ w.heap.size + 1 + 1 + 1 < W'.heap.size := by
  obtain ⟨h1, h2, h3, h4, h5, h6, h7, h8⟩ := h
  exact ⟨cell_keep h1 hb, cell_keep h2 hb, cell_keep h3 hb, cell_keep h4 hb, cell_keep h5 hb, there_keep' h6 hb, below_next h7 h7.size hb, Nat.lt_of_lt_of_le h8 hb.size⟩
theorem keepSt {w W : World} {D wt wd tg v : Int} (h : W.cell? ⟨w.heap.size, 3, none⟩ = some (.int .i64 D) ∧ W.cell? ⟨w.heap.size, 7, none⟩ = some (.int .i64 wt) ∧ W.cell? ⟨w.heap.size + 1, 12, none⟩ = some (.int .i64 wd) ∧ W.cell? ⟨w.heap.size + 1 + 1, 0, none⟩ = some (.int .i64 tg) ∧ W.cell? ⟨w.heap.size + 1 + 1, 1, none⟩ = some (.int .i64 v) ∧ W.there (w.heap.size + 1 + 1 + 1) 0 17 ∧ Below w.heap.size w W ∧ w.heap.size + 1 + 1 + 1 < W.heap.size) (cs : List Value) : (W.setCells (w.heap.size + 1 + 1 + 1) 0 cs).cell? ⟨w.heap.size, 3, none⟩ = some (.int .i64 D) ∧ (W.setCells (w.heap.size + 1 + 1 + 1) 0 cs).cell? ⟨w.heap.size, 7, none⟩ = some (.int .i64 wt) ∧ (W.setCells (w.heap.size + 1 + 1 + 1) 0 cs).cell? ⟨w.heap.size + 1, 12, none⟩ = some (.int .i64 wd) ∧ (W.setCells (w.heap.size + 1 + 1 + 1) 0 cs).cell? ⟨w.heap.size + 1 + 1, 0, none⟩ = some (.int .i64 tg) ∧ (W.setCells (w.heap.size + 1 + 1 + 1) 0 cs).cell? ⟨w.heap.size + 1 + 1, 1, none⟩ = some (.int .i64 v) ∧ (W.setCells (w.heap.size + 1 + 1 + 1) 0 cs).there (w.heap.size + 1 + 1 + 1) 0 17 ∧ Below w.heap.size w (W.setCells (w.heap.size + 1 + 1 + 1) 0 cs) ∧ w.heap.size + 1 + 1 + 1 < (W.setCells (w.heap.size + 1 + 1 + 1) 0 cs).heap.size := by
  obtain ⟨h1, h2, h3, h4, h5, h6, h7, h8⟩ := h
  have f : ∀ (g o : Nat) (u : Value), g < w.heap.size + 1 + 1 + 1 → W.cell? ⟨g, o, none⟩ = some u → (W.setCells (w.heap.size + 1 + 1 + 1) 0 cs).cell? ⟨g, o, none⟩ = some u := fun g o u hg hu => by
    rw [World.cell?_setCells_out _ _ _ _ _ (fun hb _ => absurd hb (by show g ≠ _; omega))]; exact hu
  exact ⟨f _ _ _ (by omega) h1, f _ _ _ (by omega) h2, f _ _ _ (by omega) h3, f _ _ _ (by omega) h4, f _ _ _ (by omega) h5, World.there_setCells h6 _ _ _, below_setCells' (by omega) _ _ _ h7, by rw [size_setCells]; exact h8⟩
theorem belowA (W : World) (o : Obj) : Below W.heap.size W (W.alloc o) := (Below.refl _ _).alloc (Nat.le_refl _) _
theorem belowAD (W : World) (o : Obj) : Below W.drew.heap.size W.drew (W.alloc o).drew := ((Below.refl _ W.drew).alloc (Nat.le_refl _) o)
theorem seesD (w : World) (xs : List Value) (t : TypeId) (sz n : Nat) (h : xs.length = n * sz) : Sees (w.alloc (.cells xs.toArray t)).drew (w.alloc (.cells xs.toArray t)).drew.heap.size sz (some ⟨w.heap.size, 0, none⟩) n xs := sees_new w xs t sz n h
theorem belowD (W : World) : Below W.heap.size W W.drew := (Below.refl _ _).drew
set_option maxRecDepth 100000 in
set_option maxHeartbeats 4000000 in
theorem begin_any (D wt t wd it tg v now : Int) (k0 k1 k2 k4 k5 k6 k8 k9 k10 k11 c0 c1 c2 c3 c4 c5 c6 c7 c8 c9 c10 c11 c13 c14 c15 c16 : Value) (hD : 0 ≤ D ∧ D ≤ 4) (h0 : 0 ≤ t) (ht : I64 t) (w : World) :
    Calls Try.prog 11 #[.agg #[k0, k1, k2, .int .i64 D, k4, k5, k6, .int .i64 wt, k8, k9, k10, k11], .int .i64 t, .agg #[c0, c1, c2, c3, c4, c5, c6, c7, c8, c9, c10, c11, .int .i64 wd, c13, c14, c15, c16], .int .i64 it, .agg #[.int .i64 tg, .int .i64 v], .int .i64 now] w (BegPost D wt t wd it tg v now w) := by
  have Z : ((((w.alloc (.cells #[k0, k1, k2, .int .i64 D, k4, k5, k6, .int .i64 wt, k8, k9, k10, k11] 23)).alloc (.cells #[c0, c1, c2, c3, c4, c5, c6, c7, c8, c9, c10, c11, .int .i64 wd, c13, c14, c15, c16] 30)).alloc (.cells #[.int .i64 tg, .int .i64 v] 25)).alloc (.cells #[.int .i64 0, .int .i64 0, .int .i64 0, .int .i64 0, .slice none 0 0, .slice none 0 0, .slice none 0 0, .int .i64 0, .int .i64 0, .int .i64 0, .int .i64 0, .int .i64 0, .int .i64 0, .int .i64 0, .int .i64 0, .int .i64 0, .int .i64 0] 30)).cell? ⟨w.heap.size, 3, none⟩ = some (.int .i64 D) ∧ ((((w.alloc (.cells #[k0, k1, k2, .int .i64 D, k4, k5, k6, .int .i64 wt, k8, k9, k10, k11] 23)).alloc (.cells #[c0, c1, c2, c3, c4, c5, c6, c7, c8, c9, c10, c11, .int .i64 wd, c13, c14, c15, c16] 30)).alloc (.cells #[.int .i64 tg, .int .i64 v] 25)).alloc (.cells #[.int .i64 0, .int .i64 0, .int .i64 0, .int .i64 0, .slice none 0 0, .slice none 0 0, .slice none 0 0, .int .i64 0, .int .i64 0, .int .i64 0, .int .i64 0, .int .i64 0, .int .i64 0, .int .i64 0, .int .i64 0, .int .i64 0, .int .i64 0] 30)).cell? ⟨w.heap.size, 7, none⟩ = some (.int .i64 wt) ∧ ((((w.alloc (.cells #[k0, k1, k2, .int .i64 D, k4, k5, k6, .int .i64 wt, k8, k9, k10, k11] 23)).alloc (.cells #[c0, c1, c2, c3, c4, c5, c6, c7, c8, c9, c10, c11, .int .i64 wd, c13, c14, c15, c16] 30)).alloc (.cells #[.int .i64 tg, .int .i64 v] 25)).alloc (.cells #[.int .i64 0, .int .i64 0, .int .i64 0, .int .i64 0, .slice none 0 0, .slice none 0 0, .slice none 0 0, .int .i64 0, .int .i64 0, .int .i64 0, .int .i64 0, .int .i64 0, .int .i64 0, .int .i64 0, .int .i64 0, .int .i64 0, .int .i64 0] 30)).cell? ⟨w.heap.size + 1, 12, none⟩ = some (.int .i64 wd) ∧ ((((w.alloc (.cells #[k0, k1, k2, .int .i64 D, k4, k5, k6, .int .i64 wt, k8, k9, k10, k11] 23)).alloc (.cells #[c0, c1, c2, c3, c4, c5, c6, c7, c8, c9, c10, c11, .int .i64 wd, c13, c14, c15, c16] 30)).alloc (.cells #[.int .i64 tg, .int .i64 v] 25)).alloc (.cells #[.int .i64 0, .int .i64 0, .int .i64 0, .int .i64 0, .slice none 0 0, .slice none 0 0, .slice none 0 0, .int .i64 0, .int .i64 0, .int .i64 0, .int .i64 0, .int .i64 0, .int .i64 0, .int .i64 0, .int .i64 0, .int .i64 0, .int .i64 0] 30)).cell? ⟨w.heap.size + 1 + 1, 0, none⟩ = some (.int .i64 tg) ∧ ((((w.alloc (.cells #[k0, k1, k2, .int .i64 D, k4, k5, k6, .int .i64 wt, k8, k9, k10, k11] 23)).alloc (.cells #[c0, c1, c2, c3, c4, c5, c6, c7, c8, c9, c10, c11, .int .i64 wd, c13, c14, c15, c16] 30)).alloc (.cells #[.int .i64 tg, .int .i64 v] 25)).alloc (.cells #[.int .i64 0, .int .i64 0, .int .i64 0, .int .i64 0, .slice none 0 0, .slice none 0 0, .slice none 0 0, .int .i64 0, .int .i64 0, .int .i64 0, .int .i64 0, .int .i64 0, .int .i64 0, .int .i64 0, .int .i64 0, .int .i64 0, .int .i64 0] 30)).cell? ⟨w.heap.size + 1 + 1, 1, none⟩ = some (.int .i64 v) ∧ ((((w.alloc (.cells #[k0, k1, k2, .int .i64 D, k4, k5, k6, .int .i64 wt, k8, k9, k10, k11] 23)).alloc (.cells #[c0, c1, c2, c3, c4, c5, c6, c7, c8, c9, c10, c11, .int .i64 wd, c13, c14, c15, c16] 30)).alloc (.cells #[.int .i64 tg, .int .i64 v] 25)).alloc (.cells #[.int .i64 0, .int .i64 0, .int .i64 0, .int .i64 0, .slice none 0 0, .slice none 0 0, .slice none 0 0, .int .i64 0, .int .i64 0, .int .i64 0, .int .i64 0, .int .i64 0, .int .i64 0, .int .i64 0, .int .i64 0, .int .i64 0, .int .i64 0] 30)).there (w.heap.size + 1 + 1 + 1) 0 17 ∧ Below w.heap.size w ((((w.alloc (.cells #[k0, k1, k2, .int .i64 D, k4, k5, k6, .int .i64 wt, k8, k9, k10, k11] 23)).alloc (.cells #[c0, c1, c2, c3, c4, c5, c6, c7, c8, c9, c10, c11, .int .i64 wd, c13, c14, c15, c16] 30)).alloc (.cells #[.int .i64 tg, .int .i64 v] 25)).alloc (.cells #[.int .i64 0, .int .i64 0, .int .i64 0, .int .i64 0, .slice none 0 0, .slice none 0 0, .slice none 0 0, .int .i64 0, .int .i64 0, .int .i64 0, .int .i64 0, .int .i64 0, .int .i64 0, .int .i64 0, .int .i64 0, .int .i64 0, .int .i64 0] 30)) ∧ w.heap.size + 1 + 1 + 1 < ((((w.alloc (.cells #[k0, k1, k2, .int .i64 D, k4, k5, k6, .int .i64 wt, k8, k9, k10, k11] 23)).alloc (.cells #[c0, c1, c2, c3, c4, c5, c6, c7, c8, c9, c10, c11, .int .i64 wd, c13, c14, c15, c16] 30)).alloc (.cells #[.int .i64 tg, .int .i64 v] 25)).alloc (.cells #[.int .i64 0, .int .i64 0, .int .i64 0, .int .i64 0, .slice none 0 0, .slice none 0 0, .slice none 0 0, .int .i64 0, .int .i64 0, .int .i64 0, .int .i64 0, .int .i64 0, .int .i64 0, .int .i64 0, .int .i64 0, .int .i64 0, .int .i64 0] 30)).heap.size :=
    ⟨by simp [go_sem], by simp [go_sem], by simp [go_sem], by simp [go_sem], by simp [go_sem], (by have := there_alloc_new (((w.alloc (.cells #[k0, k1, k2, .int .i64 D, k4, k5, k6, .int .i64 wt, k8, k9, k10, k11] 23)).alloc (.cells #[c0, c1, c2, c3, c4, c5, c6, c7, c8, c9, c10, c11, .int .i64 wd, c13, c14, c15, c16] 30)).alloc (.cells #[.int .i64 tg, .int .i64 v] 25)) #[.int .i64 0, .int .i64 0, .int .i64 0, .int .i64 0, .slice none 0 0, .slice none 0 0, .slice none 0 0, .int .i64 0, .int .i64 0, .int .i64 0, .int .i64 0, .int .i64 0, .int .i64 0, .int .i64 0, .int .i64 0, .int .i64 0, .int .i64 0] 30; simpa using this), (((((Below.refl _ w).alloc (Nat.le_refl _) _).alloc (by simp) _).alloc (by simp; omega) _).alloc (by simp; omega) _), by simp⟩
  have KL := hide (fun w => leaf_any D t hD h0 ht w)
  have KU := hide (until_any now wt)
  clear hD h0 ht
  go_enter Try.func11, Try.ntmps11
  go_wp2_with fail
  generalize ((((w.alloc (.cells #[k0, k1, k2, .int .i64 D, k4, k5, k6, .int .i64 wt, k8, k9, k10, k11] 23)).alloc (.cells #[c0, c1, c2, c3, c4, c5, c6, c7, c8, c9, c10, c11, .int .i64 wd, c13, c14, c15, c16] 30)).alloc (.cells #[.int .i64 tg, .int .i64 v] 25)).alloc (.cells #[.int .i64 0, .int .i64 0, .int .i64 0, .int .i64 0, .slice none 0 0, .slice none 0 0, .slice none 0 0, .int .i64 0, .int .i64 0, .int .i64 0, .int .i64 0, .int .i64 0, .int .i64 0, .int .i64 0, .int .i64 0, .int .i64 0, .int .i64 0] 30)) = wz at *
  replace Z := keepBg Z (belowD wz)
  go_region_held3 (fun w' => w'.cell? ⟨w.heap.size, 3, none⟩ = some (.int .i64 D) ∧ w'.cell? ⟨w.heap.size, 7, none⟩ = some (.int .i64 wt) ∧ w'.cell? ⟨w.heap.size + 1, 12, none⟩ = some (.int .i64 wd) ∧ w'.cell? ⟨w.heap.size + 1 + 1, 0, none⟩ = some (.int .i64 tg) ∧ w'.cell? ⟨w.heap.size + 1 + 1, 1, none⟩ = some (.int .i64 v) ∧ w'.there (w.heap.size + 1 + 1 + 1) 0 17 ∧ Below w.heap.size w w' ∧ w.heap.size + 1 + 1 + 1 < w'.heap.size)
    (first | (with_reducible exact Z) | (with_reducible exact keepSt (by assumption) _) | (with_reducible exact keepBg (by assumption) hb2) | (with_reducible exact keepBg (by assumption) hb1) | (with_reducible exact keepBg (by assumption) (belowA _ _)))
    (first
      | (go_at_call 24; refine (KL.out _).mono ?_; rintro x w1 ⟨rfl, hb1⟩)
      | (go_at_call 25; refine (KU.out _).mono ?_; rintro x w2 ⟨rfl, hb2⟩))
  · have ZW := keepBg (keepBg (keepBg Z (belowAD wz _)) hb1) hb2
    have hs := ((seesD wz [.int .i64 t, .int .i64 tg, .int .i64 v] 77 3 1 rfl).later hb1).later hb2
    have q1 : wz.heap.size ≤ w1.heap.size := Nat.le_trans (by simp) hb1.size
    have q0 : w.heap.size + 1 + 1 + 1 < wz.heap.size := Z.2.2.2.2.2.2.2
    obtain ⟨_, _, _, _, _, zt, zB, _⟩ := ZW
    obtain ⟨r1, r2, r3, r4⟩ := beg_fin [.int .i64 1, .int .i64 it, .int .i64 tg, .int .i64 v, .slice (some ⟨wz.heap.size, 0, none⟩) 1 1, .slice none 0 0, .slice none 0 0, .int .i64 0, .int .i64 (leafV D t), .int .i64 0, .int .i64 0, .int .i64 0, .int .i64 wd, .int .i64 0, .int .i64 0, .int .i64 0, .int .i64 (untilV now wt)] rfl (by omega) (by omega) (by omega) zB zt hs
    clear hs zt zB Z KL KU hb1 hb2
    go_wp2
    refine bodyPost_ret (v := .agg #[.int .i64 1, .int .i64 it, .int .i64 tg, .int .i64 v, .slice (some ⟨wz.heap.size, 0, none⟩) 1 1, .slice none 0 0, .slice none 0 0, .int .i64 0, .int .i64 (leafV D t), .int .i64 0, .int .i64 0, .int .i64 0, .int .i64 wd, .int .i64 0, .int .i64 0, .int .i64 0, .int .i64 (untilV now wt)]) (results_at Try.results11 _ _ (w.heap.size + 1 + 1 + 1) [.int .i64 1, .int .i64 it, .int .i64 tg, .int .i64 v, .slice (some ⟨wz.heap.size, 0, none⟩) 1 1, .slice none 0 0, .slice none 0 0, .int .i64 0, .int .i64 (leafV D t), .int .i64 0, .int .i64 0, .int .i64 0, .int .i64 wd, .int .i64 0, .int .i64 0, .int .i64 0, .int .i64 (untilV now wt)] _ rfl r1 Try.underlying30 rfl (by kernel_rfl)) rfl ⟨_, rfl, r2, r3, r4⟩
  · have ZW := keepBg (keepBg (keepBg Z hb1) (belowA _ _)) hb2
    have hs := (sees_new w1 [.int .i64 t, .int .i64 tg, .int .i64 v] 77 3 1 rfl).later hb2
    have q1 : wz.heap.size ≤ w1.heap.size := hb1.size
    have q0 : w.heap.size + 1 + 1 + 1 < wz.heap.size := Z.2.2.2.2.2.2.2
    obtain ⟨_, _, _, _, _, zt, zB, _⟩ := ZW
    obtain ⟨r1, r2, r3, r4⟩ := beg_fin [.int .i64 1, .int .i64 it, .int .i64 tg, .int .i64 v, .slice (some ⟨w1.heap.size, 0, none⟩) 1 1, .slice none 0 0, .slice none 0 0, .int .i64 0, .int .i64 (leafV D t), .int .i64 0, .int .i64 0, .int .i64 0, .int .i64 wd, .int .i64 0, .int .i64 0, .int .i64 0, .int .i64 (untilV now wt)] rfl (by omega) (by omega) (by omega) zB zt hs
    clear hs zt zB Z KL KU hb1 hb2
    go_wp2
    refine bodyPost_ret (v := .agg #[.int .i64 1, .int .i64 it, .int .i64 tg, .int .i64 v, .slice (some ⟨w1.heap.size, 0, none⟩) 1 1, .slice none 0 0, .slice none 0 0, .int .i64 0, .int .i64 (leafV D t), .int .i64 0, .int .i64 0, .int .i64 0, .int .i64 wd, .int .i64 0, .int .i64 0, .int .i64 0, .int .i64 (untilV now wt)]) (results_at Try.results11 _ _ (w.heap.size + 1 + 1 + 1) [.int .i64 1, .int .i64 it, .int .i64 tg, .int .i64 v, .slice (some ⟨w1.heap.size, 0, none⟩) 1 1, .slice none 0 0, .slice none 0 0, .int .i64 0, .int .i64 (leafV D t), .int .i64 0, .int .i64 0, .int .i64 0, .int .i64 wd, .int .i64 0, .int .i64 0, .int .i64 0, .int .i64 (untilV now wt)] _ rfl r1 Try.underlying30 rfl (by kernel_rfl)) rfl ⟨_, rfl, r2, r3, r4⟩
  · have ZW := keepBg (keepBg (keepBg Z hb1) hb2) (belowA _ (.cells ([.int .i64 t, .int .i64 tg, .int .i64 v] : List Value).toArray 77))
    have hs := sees_new w2 [.int .i64 t, .int .i64 tg, .int .i64 v] 77 3 1 rfl
    have q1 : wz.heap.size ≤ w2.heap.size := Nat.le_trans hb1.size hb2.size
    have q0 : w.heap.size + 1 + 1 + 1 < wz.heap.size := Z.2.2.2.2.2.2.2
    obtain ⟨_, _, _, _, _, zt, zB, _⟩ := ZW
    obtain ⟨r1, r2, r3, r4⟩ := beg_fin [.int .i64 1, .int .i64 it, .int .i64 tg, .int .i64 v, .slice (some ⟨w2.heap.size, 0, none⟩) 1 1, .slice none 0 0, .slice none 0 0, .int .i64 0, .int .i64 (leafV D t), .int .i64 0, .int .i64 0, .int .i64 0, .int .i64 wd, .int .i64 0, .int .i64 0, .int .i64 0, .int .i64 (untilV now wt)] rfl (by omega) (by omega) (by omega) zB zt hs
    clear hs zt zB Z KL KU hb1 hb2
    go_wp2
    refine bodyPost_ret (v := .agg #[.int .i64 1, .int .i64 it, .int .i64 tg, .int .i64 v, .slice (some ⟨w2.heap.size, 0, none⟩) 1 1, .slice none 0 0, .slice none 0 0, .int .i64 0, .int .i64 (leafV D t), .int .i64 0, .int .i64 0, .int .i64 0, .int .i64 wd, .int .i64 0, .int .i64 0, .int .i64 0, .int .i64 (untilV now wt)]) (results_at Try.results11 _ _ (w.heap.size + 1 + 1 + 1) [.int .i64 1, .int .i64 it, .int .i64 tg, .int .i64 v, .slice (some ⟨w2.heap.size, 0, none⟩) 1 1, .slice none 0 0, .slice none 0 0, .int .i64 0, .int .i64 (leafV D t), .int .i64 0, .int .i64 0, .int .i64 0, .int .i64 wd, .int .i64 0, .int .i64 0, .int .i64 0, .int .i64 (untilV now wt)] _ rfl r1 Try.underlying30 rfl (by kernel_rfl)) rfl ⟨_, rfl, r2, r3, r4⟩

end Go.Proofs.Ytpbneghabikpdaa
