/- Texts of the elder layers in one file. -/
import Derived.Test.YtjghdbkkjhnpfaaM3
import Derived.Test.YtjghdbkkjhnpfaaM2
import Derived.Deep.RegionWith
/- Places of words, as plain numbers. Nothing of the program. -/
namespace Go.Proofs.Ytjghdbkkjhnpfaa
open Go.RowKit

/-- How many nodes a tree has. -/
def ndV (d : Int) : Int := 2 ^ d.toNat - 1
/-- How many words an item has. -/
def bkV (d l k : Int) : Int := 1 + ndV d + l * k
/-- The place of the n-th thing of a row. -/
def rowV (s f m k n : Int) : Int := if n < f ∨ m ≤ n - f then -1 else s + (n - f) * k
def cellV (it bk i : Int) : Int := if 0 ≤ i ∧ i < it then i * bk else -1
def nodeV (it bk nd i n : Int) : Int := if (0 ≤ i ∧ i < it) ∧ 1 ≤ n ∧ n ≤ nd then i * bk + n else -1
def slotV (it bk nd ly wd i l s : Int) : Int := if (0 ≤ i ∧ i < it) ∧ (1 ≤ l ∧ l ≤ ly) ∧ 0 ≤ s ∧ s < wd then i * bk + 1 + nd + (l - 1) * wd + s else -1
def lineV (it bk th t : Int) : Int := if 0 ≤ t ∧ t < th then it * bk + 2 * t else -1
def resV (it bk th t : Int) : Int := if 0 ≤ t ∧ t < th then it * bk + 2 * t + 1 else -1
def sizeV (it bk th : Int) : Int := it * bk + 2 * th

theorem nd_cases {d : Int} (h : 0 ≤ d ∧ d ≤ 4) : (d = 0 ∧ ndV d = 0) ∨ (d = 1 ∧ ndV d = 1) ∨ (d = 2 ∧ ndV d = 3) ∨ (d = 3 ∧ ndV d = 7) ∨ (d = 4 ∧ ndV d = 15) := by
  have h' : d = 0 ∨ d = 1 ∨ d = 2 ∨ d = 3 ∨ d = 4 := by omega
  rcases h' with rfl | rfl | rfl | rfl | rfl <;> decide
theorem nd_le {d : Int} (h : 0 ≤ d ∧ d ≤ 4) : 0 ≤ ndV d ∧ ndV d ≤ 15 := by have := nd_cases h; omega
theorem mul_le {a b p q : Int} (ha : 0 ≤ a ∧ a ≤ p) (hb : 0 ≤ b ∧ b ≤ q) : 0 ≤ a * b ∧ a * b ≤ p * q :=
  ⟨Int.mul_nonneg ha.1 hb.1, Int.mul_le_mul ha.2 hb.2 hb.1 (by omega)⟩
theorem bk_le {d l k : Int} (h : 0 ≤ d ∧ d ≤ 4) (hl : 0 ≤ l ∧ l ≤ 3) (hk : 1 ≤ k ∧ k ≤ 8) : 1 ≤ bkV d l k ∧ bkV d l k ≤ 40 := by
  have h1 := nd_le h
  have h2 := mul_le (b := k) hl ⟨by omega, hk.2⟩
  unfold bkV; omega
theorem w64 {x : Int} (h : -1000000 ≤ x ∧ x ≤ 1000000) : IntKind.i64.wrap x = x := by rw [IntKind.wrap_i64]; omega

end Go.Proofs.Ytjghdbkkjhnpfaa
/- Contracts of the program's sizes: Nodes, perItem, ofItems, Size. -/
namespace Go.Proofs.Ytjghdbkkjhnpfaa
open Go.RowKit

set_option maxRecDepth 100000 in
set_option maxHeartbeats 4000000 in
theorem nodes_any (x0 x1 x2 x3 x4 x5 x6 x7 : Int) (b : Bool) (x9 x10 x11 : Int) (h3 : 0 ≤ x3 ∧ x3 ≤ 4) (w : World) : Calls Try.prog 89 #[.agg #[.int .i64 x0, .int .i64 x1, .int .i64 x2, .int .i64 x3, .int .i64 x4, .int .i64 x5, .int .i64 x6, .int .i64 x7, .bool b, .int .i64 x9, .int .i64 x10, .int .i64 x11]] w (IntPost (ndV x3) w) := by
  have h : x3 = 0 ∨ x3 = 1 ∨ x3 = 2 ∨ x3 = 3 ∨ x3 = 4 := by omega
  rcases h with rfl | rfl | rfl | rfl | rfl
  all_goals
    go_enter Try.func89, Try.ntmps89
    go_wp2
    go_ret
    exact ⟨ret_i (by decide), (Below.refl _ _).alloc (Nat.le_refl _) _⟩

set_option maxRecDepth 100000 in
set_option maxHeartbeats 4000000 in
theorem perItem_any (x0 x1 x2 x3 x4 x5 x6 x7 : Int) (b : Bool) (x9 x10 x11 : Int) (ok : CfOk x0 x1 x2 x3 x4 x5 x6 x7 b x9 x10 x11) (w : World) : Calls Try.prog 84 #[.agg #[.int .i64 x0, .int .i64 x1, .int .i64 x2, .int .i64 x3, .int .i64 x4, .int .i64 x5, .int .i64 x6, .int .i64 x7, .bool b, .int .i64 x9, .int .i64 x10, .int .i64 x11]] w (IntPost (bkV x3 x4 x5) w) := by
  have K := hide (nodes_any x0 x1 x2 x3 x4 x5 x6 x7 b x9 x10 x11 ok.h3)
  have hB : Below w.heap.size w (w.alloc (.cells #[.int .i64 x0, .int .i64 x1, .int .i64 x2, .int .i64 x3, .int .i64 x4, .int .i64 x5, .int .i64 x6, .int .i64 x7, .bool b, .int .i64 x9, .int .i64 x10, .int .i64 x11] 23)) := (Below.refl _ _).alloc (Nat.le_refl _) _
  have H0 : (w.alloc (.cells #[.int .i64 x0, .int .i64 x1, .int .i64 x2, .int .i64 x3, .int .i64 x4, .int .i64 x5, .int .i64 x6, .int .i64 x7, .bool b, .int .i64 x9, .int .i64 x10, .int .i64 x11] 23)).cell? ⟨w.heap.size, 0, none⟩ = some (.int .i64 x0) ∧ (w.alloc (.cells #[.int .i64 x0, .int .i64 x1, .int .i64 x2, .int .i64 x3, .int .i64 x4, .int .i64 x5, .int .i64 x6, .int .i64 x7, .bool b, .int .i64 x9, .int .i64 x10, .int .i64 x11] 23)).cell? ⟨w.heap.size, 1, none⟩ = some (.int .i64 x1) ∧ (w.alloc (.cells #[.int .i64 x0, .int .i64 x1, .int .i64 x2, .int .i64 x3, .int .i64 x4, .int .i64 x5, .int .i64 x6, .int .i64 x7, .bool b, .int .i64 x9, .int .i64 x10, .int .i64 x11] 23)).cell? ⟨w.heap.size, 2, none⟩ = some (.int .i64 x2) ∧ (w.alloc (.cells #[.int .i64 x0, .int .i64 x1, .int .i64 x2, .int .i64 x3, .int .i64 x4, .int .i64 x5, .int .i64 x6, .int .i64 x7, .bool b, .int .i64 x9, .int .i64 x10, .int .i64 x11] 23)).cell? ⟨w.heap.size, 3, none⟩ = some (.int .i64 x3) ∧ (w.alloc (.cells #[.int .i64 x0, .int .i64 x1, .int .i64 x2, .int .i64 x3, .int .i64 x4, .int .i64 x5, .int .i64 x6, .int .i64 x7, .bool b, .int .i64 x9, .int .i64 x10, .int .i64 x11] 23)).cell? ⟨w.heap.size, 4, none⟩ = some (.int .i64 x4) ∧ (w.alloc (.cells #[.int .i64 x0, .int .i64 x1, .int .i64 x2, .int .i64 x3, .int .i64 x4, .int .i64 x5, .int .i64 x6, .int .i64 x7, .bool b, .int .i64 x9, .int .i64 x10, .int .i64 x11] 23)).cell? ⟨w.heap.size, 5, none⟩ = some (.int .i64 x5) ∧ (w.alloc (.cells #[.int .i64 x0, .int .i64 x1, .int .i64 x2, .int .i64 x3, .int .i64 x4, .int .i64 x5, .int .i64 x6, .int .i64 x7, .bool b, .int .i64 x9, .int .i64 x10, .int .i64 x11] 23)).cell? ⟨w.heap.size, 6, none⟩ = some (.int .i64 x6) ∧ (w.alloc (.cells #[.int .i64 x0, .int .i64 x1, .int .i64 x2, .int .i64 x3, .int .i64 x4, .int .i64 x5, .int .i64 x6, .int .i64 x7, .bool b, .int .i64 x9, .int .i64 x10, .int .i64 x11] 23)).cell? ⟨w.heap.size, 7, none⟩ = some (.int .i64 x7) ∧ (w.alloc (.cells #[.int .i64 x0, .int .i64 x1, .int .i64 x2, .int .i64 x3, .int .i64 x4, .int .i64 x5, .int .i64 x6, .int .i64 x7, .bool b, .int .i64 x9, .int .i64 x10, .int .i64 x11] 23)).cell? ⟨w.heap.size, 8, none⟩ = some (.bool b) ∧ (w.alloc (.cells #[.int .i64 x0, .int .i64 x1, .int .i64 x2, .int .i64 x3, .int .i64 x4, .int .i64 x5, .int .i64 x6, .int .i64 x7, .bool b, .int .i64 x9, .int .i64 x10, .int .i64 x11] 23)).cell? ⟨w.heap.size, 9, none⟩ = some (.int .i64 x9) ∧ (w.alloc (.cells #[.int .i64 x0, .int .i64 x1, .int .i64 x2, .int .i64 x3, .int .i64 x4, .int .i64 x5, .int .i64 x6, .int .i64 x7, .bool b, .int .i64 x9, .int .i64 x10, .int .i64 x11] 23)).cell? ⟨w.heap.size, 10, none⟩ = some (.int .i64 x10) ∧ (w.alloc (.cells #[.int .i64 x0, .int .i64 x1, .int .i64 x2, .int .i64 x3, .int .i64 x4, .int .i64 x5, .int .i64 x6, .int .i64 x7, .bool b, .int .i64 x9, .int .i64 x10, .int .i64 x11] 23)).cell? ⟨w.heap.size, 11, none⟩ = some (.int .i64 x11) := by simp [go_sem]
  have h1 := nd_le ok.h3
  have h2 := mul_le (b := x5) ok.h4 ⟨by have := ok.h5; omega, ok.h5.2⟩
  have HV : Hid (bkV x3 x4 x5 = 1 + ndV x3 + x4 * x5) := hide rfl
  obtain ⟨nd, hnd⟩ : ∃ n, ndV x3 = n := ⟨_, rfl⟩
  rw [hnd] at K h1 HV
  have e1 := w64 (x := 1 + nd) (by omega)
  have e2 := w64 (x := x4 * x5) (by omega)
  have e3 := w64 (x := 1 + nd + x4 * x5) (by omega)
  clear hnd h1 h2 ok
  go_enter Try.func84, Try.ntmps84
  go_upto_region 1 with fail
  generalize (w.alloc (.cells #[.int .i64 x0, .int .i64 x1, .int .i64 x2, .int .i64 x3, .int .i64 x4, .int .i64 x5, .int .i64 x6, .int .i64 x7, .bool b, .int .i64 x9, .int .i64 x10, .int .i64 x11] 23)) = wz at *
  replace H0 := keep12 H0 ((Below.refl _ wz).drew)
  replace hB := hB.drew
  go_region_held3 (fun w' => w'.cell? ⟨w.heap.size, 0, none⟩ = some (.int .i64 x0) ∧ w'.cell? ⟨w.heap.size, 1, none⟩ = some (.int .i64 x1) ∧ w'.cell? ⟨w.heap.size, 2, none⟩ = some (.int .i64 x2) ∧ w'.cell? ⟨w.heap.size, 3, none⟩ = some (.int .i64 x3) ∧ w'.cell? ⟨w.heap.size, 4, none⟩ = some (.int .i64 x4) ∧ w'.cell? ⟨w.heap.size, 5, none⟩ = some (.int .i64 x5) ∧ w'.cell? ⟨w.heap.size, 6, none⟩ = some (.int .i64 x6) ∧ w'.cell? ⟨w.heap.size, 7, none⟩ = some (.int .i64 x7) ∧ w'.cell? ⟨w.heap.size, 8, none⟩ = some (.bool b) ∧ w'.cell? ⟨w.heap.size, 9, none⟩ = some (.int .i64 x9) ∧ w'.cell? ⟨w.heap.size, 10, none⟩ = some (.int .i64 x10) ∧ w'.cell? ⟨w.heap.size, 11, none⟩ = some (.int .i64 x11))
    (exact H0)
    (first | (go_at_call 89; refine (K.out _).mono ?_; rintro x v ⟨rfl, hv⟩; replace H0 := keep12 H0 hv; replace hB := below_next hB hB.size hv))
  go_wp2
  go_ret
  exact ⟨ret_i HV.out, hB⟩

end Go.Proofs.Ytjghdbkkjhnpfaa
/- Contracts of the program's sizes: ofItems, Size; of row and what it makes. -/
namespace Go.Proofs.Ytjghdbkkjhnpfaa
open Go.RowKit

set_option maxRecDepth 100000 in
set_option maxHeartbeats 4000000 in
theorem ofItems_any (x0 x1 x2 x3 x4 x5 x6 x7 : Int) (b : Bool) (x9 x10 x11 : Int) (ok : CfOk x0 x1 x2 x3 x4 x5 x6 x7 b x9 x10 x11) (w : World) : Calls Try.prog 56 #[.agg #[.int .i64 x0, .int .i64 x1, .int .i64 x2, .int .i64 x3, .int .i64 x4, .int .i64 x5, .int .i64 x6, .int .i64 x7, .bool b, .int .i64 x9, .int .i64 x10, .int .i64 x11]] w (IntPost (x1 * bkV x3 x4 x5) w) := by
  have hB : Below w.heap.size w (w.alloc (.cells #[.int .i64 x0, .int .i64 x1, .int .i64 x2, .int .i64 x3, .int .i64 x4, .int .i64 x5, .int .i64 x6, .int .i64 x7, .bool b, .int .i64 x9, .int .i64 x10, .int .i64 x11] 23)) := (Below.refl _ _).alloc (Nat.le_refl _) _
  have H0 : (w.alloc (.cells #[.int .i64 x0, .int .i64 x1, .int .i64 x2, .int .i64 x3, .int .i64 x4, .int .i64 x5, .int .i64 x6, .int .i64 x7, .bool b, .int .i64 x9, .int .i64 x10, .int .i64 x11] 23)).cell? ⟨w.heap.size, 0, none⟩ = some (.int .i64 x0) ∧ (w.alloc (.cells #[.int .i64 x0, .int .i64 x1, .int .i64 x2, .int .i64 x3, .int .i64 x4, .int .i64 x5, .int .i64 x6, .int .i64 x7, .bool b, .int .i64 x9, .int .i64 x10, .int .i64 x11] 23)).cell? ⟨w.heap.size, 1, none⟩ = some (.int .i64 x1) ∧ (w.alloc (.cells #[.int .i64 x0, .int .i64 x1, .int .i64 x2, .int .i64 x3, .int .i64 x4, .int .i64 x5, .int .i64 x6, .int .i64 x7, .bool b, .int .i64 x9, .int .i64 x10, .int .i64 x11] 23)).cell? ⟨w.heap.size, 2, none⟩ = some (.int .i64 x2) ∧ (w.alloc (.cells #[.int .i64 x0, .int .i64 x1, .int .i64 x2, .int .i64 x3, .int .i64 x4, .int .i64 x5, .int .i64 x6, .int .i64 x7, .bool b, .int .i64 x9, .int .i64 x10, .int .i64 x11] 23)).cell? ⟨w.heap.size, 3, none⟩ = some (.int .i64 x3) ∧ (w.alloc (.cells #[.int .i64 x0, .int .i64 x1, .int .i64 x2, .int .i64 x3, .int .i64 x4, .int .i64 x5, .int .i64 x6, .int .i64 x7, .bool b, .int .i64 x9, .int .i64 x10, .int .i64 x11] 23)).cell? ⟨w.heap.size, 4, none⟩ = some (.int .i64 x4) ∧ (w.alloc (.cells #[.int .i64 x0, .int .i64 x1, .int .i64 x2, .int .i64 x3, .int .i64 x4, .int .i64 x5, .int .i64 x6, .int .i64 x7, .bool b, .int .i64 x9, .int .i64 x10, .int .i64 x11] 23)).cell? ⟨w.heap.size, 5, none⟩ = some (.int .i64 x5) ∧ (w.alloc (.cells #[.int .i64 x0, .int .i64 x1, .int .i64 x2, .int .i64 x3, .int .i64 x4, .int .i64 x5, .int .i64 x6, .int .i64 x7, .bool b, .int .i64 x9, .int .i64 x10, .int .i64 x11] 23)).cell? ⟨w.heap.size, 6, none⟩ = some (.int .i64 x6) ∧ (w.alloc (.cells #[.int .i64 x0, .int .i64 x1, .int .i64 x2, .int .i64 x3, .int .i64 x4, .int .i64 x5, .int .i64 x6, .int .i64 x7, .bool b, .int .i64 x9, .int .i64 x10, .int .i64 x11] 23)).cell? ⟨w.heap.size, 7, none⟩ = some (.int .i64 x7) ∧ (w.alloc (.cells #[.int .i64 x0, .int .i64 x1, .int .i64 x2, .int .i64 x3, .int .i64 x4, .int .i64 x5, .int .i64 x6, .int .i64 x7, .bool b, .int .i64 x9, .int .i64 x10, .int .i64 x11] 23)).cell? ⟨w.heap.size, 8, none⟩ = some (.bool b) ∧ (w.alloc (.cells #[.int .i64 x0, .int .i64 x1, .int .i64 x2, .int .i64 x3, .int .i64 x4, .int .i64 x5, .int .i64 x6, .int .i64 x7, .bool b, .int .i64 x9, .int .i64 x10, .int .i64 x11] 23)).cell? ⟨w.heap.size, 9, none⟩ = some (.int .i64 x9) ∧ (w.alloc (.cells #[.int .i64 x0, .int .i64 x1, .int .i64 x2, .int .i64 x3, .int .i64 x4, .int .i64 x5, .int .i64 x6, .int .i64 x7, .bool b, .int .i64 x9, .int .i64 x10, .int .i64 x11] 23)).cell? ⟨w.heap.size, 10, none⟩ = some (.int .i64 x10) ∧ (w.alloc (.cells #[.int .i64 x0, .int .i64 x1, .int .i64 x2, .int .i64 x3, .int .i64 x4, .int .i64 x5, .int .i64 x6, .int .i64 x7, .bool b, .int .i64 x9, .int .i64 x10, .int .i64 x11] 23)).cell? ⟨w.heap.size, 11, none⟩ = some (.int .i64 x11) := by simp [go_sem]
  have K := hide (perItem_any x0 x1 x2 x3 x4 x5 x6 x7 b x9 x10 x11 ok)
  have h1 := bk_le ok.h3 ok.h4 ok.h5
  obtain ⟨bk, hbk⟩ : ∃ n, bkV x3 x4 x5 = n := ⟨_, rfl⟩
  rw [hbk] at K h1 ⊢
  have h2 := mul_le (a := x1) (b := bk) ⟨by have := ok.h1; omega, ok.h1.2⟩ ⟨by omega, h1.2⟩
  have e2 := w64 (x := x1 * bk) (by omega)
  clear hbk h1 h2 ok
  go_enter Try.func56, Try.ntmps56
  go_upto_region 1 with fail
  generalize (w.alloc (.cells #[.int .i64 x0, .int .i64 x1, .int .i64 x2, .int .i64 x3, .int .i64 x4, .int .i64 x5, .int .i64 x6, .int .i64 x7, .bool b, .int .i64 x9, .int .i64 x10, .int .i64 x11] 23)) = wz at *
  replace H0 := keep12 H0 ((Below.refl _ wz).drew)
  replace hB := hB.drew
  go_region_held3 (fun w' => w'.cell? ⟨w.heap.size, 0, none⟩ = some (.int .i64 x0) ∧ w'.cell? ⟨w.heap.size, 1, none⟩ = some (.int .i64 x1) ∧ w'.cell? ⟨w.heap.size, 2, none⟩ = some (.int .i64 x2) ∧ w'.cell? ⟨w.heap.size, 3, none⟩ = some (.int .i64 x3) ∧ w'.cell? ⟨w.heap.size, 4, none⟩ = some (.int .i64 x4) ∧ w'.cell? ⟨w.heap.size, 5, none⟩ = some (.int .i64 x5) ∧ w'.cell? ⟨w.heap.size, 6, none⟩ = some (.int .i64 x6) ∧ w'.cell? ⟨w.heap.size, 7, none⟩ = some (.int .i64 x7) ∧ w'.cell? ⟨w.heap.size, 8, none⟩ = some (.bool b) ∧ w'.cell? ⟨w.heap.size, 9, none⟩ = some (.int .i64 x9) ∧ w'.cell? ⟨w.heap.size, 10, none⟩ = some (.int .i64 x10) ∧ w'.cell? ⟨w.heap.size, 11, none⟩ = some (.int .i64 x11))
    (exact H0)
    (first
      | (go_at_call 84; refine (K.out _).mono ?_; rintro x v ⟨rfl, hv⟩; replace H0 := keep12 H0 hv; replace hB := below_next hB hB.size hv))
  go_wp2
  go_ret
  exact ⟨rfl, hB⟩

set_option maxRecDepth 100000 in
set_option maxHeartbeats 4000000 in
theorem size_any (x0 x1 x2 x3 x4 x5 x6 x7 : Int) (b : Bool) (x9 x10 x11 : Int) (ok : CfOk x0 x1 x2 x3 x4 x5 x6 x7 b x9 x10 x11) (w : World) : Calls Try.prog 40 #[.agg #[.int .i64 x0, .int .i64 x1, .int .i64 x2, .int .i64 x3, .int .i64 x4, .int .i64 x5, .int .i64 x6, .int .i64 x7, .bool b, .int .i64 x9, .int .i64 x10, .int .i64 x11]] w (IntPost (sizeV x1 (bkV x3 x4 x5) x0) w) := by
  have hB : Below w.heap.size w (w.alloc (.cells #[.int .i64 x0, .int .i64 x1, .int .i64 x2, .int .i64 x3, .int .i64 x4, .int .i64 x5, .int .i64 x6, .int .i64 x7, .bool b, .int .i64 x9, .int .i64 x10, .int .i64 x11] 23)) := (Below.refl _ _).alloc (Nat.le_refl _) _
  have H0 : (w.alloc (.cells #[.int .i64 x0, .int .i64 x1, .int .i64 x2, .int .i64 x3, .int .i64 x4, .int .i64 x5, .int .i64 x6, .int .i64 x7, .bool b, .int .i64 x9, .int .i64 x10, .int .i64 x11] 23)).cell? ⟨w.heap.size, 0, none⟩ = some (.int .i64 x0) ∧ (w.alloc (.cells #[.int .i64 x0, .int .i64 x1, .int .i64 x2, .int .i64 x3, .int .i64 x4, .int .i64 x5, .int .i64 x6, .int .i64 x7, .bool b, .int .i64 x9, .int .i64 x10, .int .i64 x11] 23)).cell? ⟨w.heap.size, 1, none⟩ = some (.int .i64 x1) ∧ (w.alloc (.cells #[.int .i64 x0, .int .i64 x1, .int .i64 x2, .int .i64 x3, .int .i64 x4, .int .i64 x5, .int .i64 x6, .int .i64 x7, .bool b, .int .i64 x9, .int .i64 x10, .int .i64 x11] 23)).cell? ⟨w.heap.size, 2, none⟩ = some (.int .i64 x2) ∧ (w.alloc (.cells #[.int .i64 x0, .int .i64 x1, .int .i64 x2, .int .i64 x3, .int .i64 x4, .int .i64 x5, .int .i64 x6, .int .i64 x7, .bool b, .int .i64 x9, .int .i64 x10, .int .i64 x11] 23)).cell? ⟨w.heap.size, 3, none⟩ = some (.int .i64 x3) ∧ (w.alloc (.cells #[.int .i64 x0, .int .i64 x1, .int .i64 x2, .int .i64 x3, .int .i64 x4, .int .i64 x5, .int .i64 x6, .int .i64 x7, .bool b, .int .i64 x9, .int .i64 x10, .int .i64 x11] 23)).cell? ⟨w.heap.size, 4, none⟩ = some (.int .i64 x4) ∧ (w.alloc (.cells #[.int .i64 x0, .int .i64 x1, .int .i64 x2, .int .i64 x3, .int .i64 x4, .int .i64 x5, .int .i64 x6, .int .i64 x7, .bool b, .int .i64 x9, .int .i64 x10, .int .i64 x11] 23)).cell? ⟨w.heap.size, 5, none⟩ = some (.int .i64 x5) ∧ (w.alloc (.cells #[.int .i64 x0, .int .i64 x1, .int .i64 x2, .int .i64 x3, .int .i64 x4, .int .i64 x5, .int .i64 x6, .int .i64 x7, .bool b, .int .i64 x9, .int .i64 x10, .int .i64 x11] 23)).cell? ⟨w.heap.size, 6, none⟩ = some (.int .i64 x6) ∧ (w.alloc (.cells #[.int .i64 x0, .int .i64 x1, .int .i64 x2, .int .i64 x3, .int .i64 x4, .int .i64 x5, .int .i64 x6, .int .i64 x7, .bool b, .int .i64 x9, .int .i64 x10, .int .i64 x11] 23)).cell? ⟨w.heap.size, 7, none⟩ = some (.int .i64 x7) ∧ (w.alloc (.cells #[.int .i64 x0, .int .i64 x1, .int .i64 x2, .int .i64 x3, .int .i64 x4, .int .i64 x5, .int .i64 x6, .int .i64 x7, .bool b, .int .i64 x9, .int .i64 x10, .int .i64 x11] 23)).cell? ⟨w.heap.size, 8, none⟩ = some (.bool b) ∧ (w.alloc (.cells #[.int .i64 x0, .int .i64 x1, .int .i64 x2, .int .i64 x3, .int .i64 x4, .int .i64 x5, .int .i64 x6, .int .i64 x7, .bool b, .int .i64 x9, .int .i64 x10, .int .i64 x11] 23)).cell? ⟨w.heap.size, 9, none⟩ = some (.int .i64 x9) ∧ (w.alloc (.cells #[.int .i64 x0, .int .i64 x1, .int .i64 x2, .int .i64 x3, .int .i64 x4, .int .i64 x5, .int .i64 x6, .int .i64 x7, .bool b, .int .i64 x9, .int .i64 x10, .int .i64 x11] 23)).cell? ⟨w.heap.size, 10, none⟩ = some (.int .i64 x10) ∧ (w.alloc (.cells #[.int .i64 x0, .int .i64 x1, .int .i64 x2, .int .i64 x3, .int .i64 x4, .int .i64 x5, .int .i64 x6, .int .i64 x7, .bool b, .int .i64 x9, .int .i64 x10, .int .i64 x11] 23)).cell? ⟨w.heap.size, 11, none⟩ = some (.int .i64 x11) := by simp [go_sem]
  have K := hide (ofItems_any x0 x1 x2 x3 x4 x5 x6 x7 b x9 x10 x11 ok)
  have h1 := bk_le ok.h3 ok.h4 ok.h5
  obtain ⟨bk, hbk⟩ : ∃ n, bkV x3 x4 x5 = n := ⟨_, rfl⟩
  rw [hbk] at K h1 ⊢
  have h2 := mul_le (a := x1) (b := bk) ⟨by have := ok.h1; omega, ok.h1.2⟩ ⟨by omega, h1.2⟩
  have h0 := ok.h0
  unfold sizeV
  obtain ⟨m, hm⟩ : ∃ m, x1 * bk = m := ⟨_, rfl⟩
  rw [hm] at K h2 ⊢
  have e1 := w64 (x := 2 * x0) (by omega)
  have e2 := w64 (x := m + 2 * x0) (by omega)
  clear hbk h1 h2 ok h0 hm
  go_enter Try.func40, Try.ntmps40
  go_upto_region 1 with fail
  generalize (w.alloc (.cells #[.int .i64 x0, .int .i64 x1, .int .i64 x2, .int .i64 x3, .int .i64 x4, .int .i64 x5, .int .i64 x6, .int .i64 x7, .bool b, .int .i64 x9, .int .i64 x10, .int .i64 x11] 23)) = wz at *
  replace H0 := keep12 H0 ((Below.refl _ wz).drew)
  replace hB := hB.drew
  go_region_held3 (fun w' => w'.cell? ⟨w.heap.size, 0, none⟩ = some (.int .i64 x0) ∧ w'.cell? ⟨w.heap.size, 1, none⟩ = some (.int .i64 x1) ∧ w'.cell? ⟨w.heap.size, 2, none⟩ = some (.int .i64 x2) ∧ w'.cell? ⟨w.heap.size, 3, none⟩ = some (.int .i64 x3) ∧ w'.cell? ⟨w.heap.size, 4, none⟩ = some (.int .i64 x4) ∧ w'.cell? ⟨w.heap.size, 5, none⟩ = some (.int .i64 x5) ∧ w'.cell? ⟨w.heap.size, 6, none⟩ = some (.int .i64 x6) ∧ w'.cell? ⟨w.heap.size, 7, none⟩ = some (.int .i64 x7) ∧ w'.cell? ⟨w.heap.size, 8, none⟩ = some (.bool b) ∧ w'.cell? ⟨w.heap.size, 9, none⟩ = some (.int .i64 x9) ∧ w'.cell? ⟨w.heap.size, 10, none⟩ = some (.int .i64 x10) ∧ w'.cell? ⟨w.heap.size, 11, none⟩ = some (.int .i64 x11))
    (exact H0)
    (first
      | (go_at_call 56; refine (K.out _).mono ?_; rintro x v ⟨rfl, hv⟩; replace H0 := keep12 H0 hv; replace hB := below_next hB hB.size hv))
  go_wp2
  go_ret
  exact ⟨rfl, hB⟩

/-- A function that tells places: its captured variables. -/
def PlAt (w : World) (a b c d : Nat) (s f m k : Int) : Prop :=
  w.cell? ⟨a, 0, none⟩ = some (.int .i64 f) ∧ w.cell? ⟨b, 0, none⟩ = some (.int .i64 m) ∧ w.cell? ⟨c, 0, none⟩ = some (.int .i64 s) ∧ w.cell? ⟨d, 0, none⟩ = some (.int .i64 k)
def PlPost (s f m k : Int) (w : World) (x : Ending) (w' : World) : Prop :=
  ∃ a b c d, x = .returned (.func (.func 94) #[] #[.pointer (some ⟨a, 0, none⟩), .pointer (some ⟨b, 0, none⟩), .pointer (some ⟨c, 0, none⟩), .pointer (some ⟨d, 0, none⟩)]) ∧ PlAt w' a b c d s f m k ∧ Below w.heap.size w w'
theorem PlAt.later {w w' : World} {a b c d : Nat} {s f m k : Int} (h : PlAt w a b c d s f m k) (hb : Below w.heap.size w w') : PlAt w' a b c d s f m k :=
  ⟨cell_keep h.1 hb, cell_keep h.2.1 hb, cell_keep h.2.2.1 hb, cell_keep h.2.2.2 hb⟩

set_option maxRecDepth 100000 in
set_option maxHeartbeats 4000000 in
theorem row_any (s f m k : Int) (w : World) : Calls Try.prog 85 #[.int .i64 s, .int .i64 f, .int .i64 m, .int .i64 k] w (PlPost s f m k w) := by
  go_enter Try.func85, Try.ntmps85
  go_wp2
  go_ret
  refine ⟨_, _, _, _, rfl, ⟨by simp [go_sem], by simp [go_sem], by simp [go_sem], by simp [go_sem]⟩, ?_⟩
  exact ((((Below.refl _ w).alloc (Nat.le_refl _) _).alloc (by simp) _).alloc (by simp; omega) _).alloc (by simp; omega) _

theorem row_no1 {s f m k n : Int} (h : n < f) : rowV s f m k n = -1 := by rw [rowV, if_pos (.inl h)]
theorem row_no2 {s f m k n : Int} (h : m ≤ n - f) : rowV s f m k n = -1 := by rw [rowV, if_pos (.inr h)]
theorem row_in {s f m k n : Int} (h : ¬ n < f) (h' : ¬ m ≤ n - f) : rowV s f m k n = s + (n - f) * k := by rw [rowV, if_neg (by omega)]

set_option maxRecDepth 100000 in
set_option maxHeartbeats 4000000 in
theorem row1_any (a b c d : Nat) (s f m k n : Int) (hf : 0 ≤ f ∧ f ≤ 1) (hm : 0 ≤ m ∧ m ≤ 1000) (hk : 0 ≤ k ∧ k ≤ 100) (hs : 0 ≤ s ∧ s ≤ 1000) (hn : I64 n) (w : World) (h : PlAt w a b c d s f m k) :
    Calls Try.prog 94 #[.int .i64 n, .pointer (some ⟨a, 0, none⟩), .pointer (some ⟨b, 0, none⟩), .pointer (some ⟨c, 0, none⟩), .pointer (some ⟨d, 0, none⟩)] w (fun x w' => x = .returned (.int .i64 (rowV s f m k n)) ∧ w' = w) := by
  obtain ⟨ha, hb, hc, hd⟩ := h
  unfold I64 at hn
  by_cases h1 : n < f
  · rw [row_no1 h1]
    clear hf hm hk hs hn
    go_enter Try.func94, Try.ntmps94
    go_wp2
    go_ret
    exact ⟨rfl, rfl⟩
  · have h2 : decide (n < f) = false := decide_eq_false h1
    by_cases h3 : m ≤ n - f
    · rw [row_no2 h3]
      clear hk hs
      go_enter Try.func94, Try.ntmps94
      go_wp2
      go_ret
      exact ⟨rfl, rfl⟩
    · rw [row_in h1 h3]
      have h4 := mul_le (a := n - f) (b := k) (p := 1000) (q := 100) (by omega) hk
      go_enter Try.func94, Try.ntmps94
      go_wp2
      go_ret
      exact ⟨rfl, rfl⟩

end Go.Proofs.Ytjghdbkkjhnpfaa
/- Contracts of the functions that tell places: items, nodes, layers, slots, lines, results; of within. -/
namespace Go.Proofs.Ytjghdbkkjhnpfaa
open Go.RowKit

set_option linter.unusedVariables false
set_option maxRecDepth 100000 in
set_option maxHeartbeats 4000000 in
theorem items_any (x0 x1 x2 x3 x4 x5 x6 x7 : Int) (b : Bool) (x9 x10 x11 : Int) (ok : CfOk x0 x1 x2 x3 x4 x5 x6 x7 b x9 x10 x11) (w : World) : Calls Try.prog 57 #[.agg #[.int .i64 x0, .int .i64 x1, .int .i64 x2, .int .i64 x3, .int .i64 x4, .int .i64 x5, .int .i64 x6, .int .i64 x7, .bool b, .int .i64 x9, .int .i64 x10, .int .i64 x11]] w (PlPost 0 0 x1 (bkV x3 x4 x5) w) := by
  have hB : Below w.heap.size w (w.alloc (.cells #[.int .i64 x0, .int .i64 x1, .int .i64 x2, .int .i64 x3, .int .i64 x4, .int .i64 x5, .int .i64 x6, .int .i64 x7, .bool b, .int .i64 x9, .int .i64 x10, .int .i64 x11] 23)) := (Below.refl _ _).alloc (Nat.le_refl _) _
  have H0 : (w.alloc (.cells #[.int .i64 x0, .int .i64 x1, .int .i64 x2, .int .i64 x3, .int .i64 x4, .int .i64 x5, .int .i64 x6, .int .i64 x7, .bool b, .int .i64 x9, .int .i64 x10, .int .i64 x11] 23)).cell? ⟨w.heap.size, 0, none⟩ = some (.int .i64 x0) ∧ (w.alloc (.cells #[.int .i64 x0, .int .i64 x1, .int .i64 x2, .int .i64 x3, .int .i64 x4, .int .i64 x5, .int .i64 x6, .int .i64 x7, .bool b, .int .i64 x9, .int .i64 x10, .int .i64 x11] 23)).cell? ⟨w.heap.size, 1, none⟩ = some (.int .i64 x1) ∧ (w.alloc (.cells #[.int .i64 x0, .int .i64 x1, .int .i64 x2, .int .i64 x3, .int .i64 x4, .int .i64 x5, .int .i64 x6, .int .i64 x7, .bool b, .int .i64 x9, .int .i64 x10, .int .i64 x11] 23)).cell? ⟨w.heap.size, 2, none⟩ = some (.int .i64 x2) ∧ (w.alloc (.cells #[.int .i64 x0, .int .i64 x1, .int .i64 x2, .int .i64 x3, .int .i64 x4, .int .i64 x5, .int .i64 x6, .int .i64 x7, .bool b, .int .i64 x9, .int .i64 x10, .int .i64 x11] 23)).cell? ⟨w.heap.size, 3, none⟩ = some (.int .i64 x3) ∧ (w.alloc (.cells #[.int .i64 x0, .int .i64 x1, .int .i64 x2, .int .i64 x3, .int .i64 x4, .int .i64 x5, .int .i64 x6, .int .i64 x7, .bool b, .int .i64 x9, .int .i64 x10, .int .i64 x11] 23)).cell? ⟨w.heap.size, 4, none⟩ = some (.int .i64 x4) ∧ (w.alloc (.cells #[.int .i64 x0, .int .i64 x1, .int .i64 x2, .int .i64 x3, .int .i64 x4, .int .i64 x5, .int .i64 x6, .int .i64 x7, .bool b, .int .i64 x9, .int .i64 x10, .int .i64 x11] 23)).cell? ⟨w.heap.size, 5, none⟩ = some (.int .i64 x5) ∧ (w.alloc (.cells #[.int .i64 x0, .int .i64 x1, .int .i64 x2, .int .i64 x3, .int .i64 x4, .int .i64 x5, .int .i64 x6, .int .i64 x7, .bool b, .int .i64 x9, .int .i64 x10, .int .i64 x11] 23)).cell? ⟨w.heap.size, 6, none⟩ = some (.int .i64 x6) ∧ (w.alloc (.cells #[.int .i64 x0, .int .i64 x1, .int .i64 x2, .int .i64 x3, .int .i64 x4, .int .i64 x5, .int .i64 x6, .int .i64 x7, .bool b, .int .i64 x9, .int .i64 x10, .int .i64 x11] 23)).cell? ⟨w.heap.size, 7, none⟩ = some (.int .i64 x7) ∧ (w.alloc (.cells #[.int .i64 x0, .int .i64 x1, .int .i64 x2, .int .i64 x3, .int .i64 x4, .int .i64 x5, .int .i64 x6, .int .i64 x7, .bool b, .int .i64 x9, .int .i64 x10, .int .i64 x11] 23)).cell? ⟨w.heap.size, 8, none⟩ = some (.bool b) ∧ (w.alloc (.cells #[.int .i64 x0, .int .i64 x1, .int .i64 x2, .int .i64 x3, .int .i64 x4, .int .i64 x5, .int .i64 x6, .int .i64 x7, .bool b, .int .i64 x9, .int .i64 x10, .int .i64 x11] 23)).cell? ⟨w.heap.size, 9, none⟩ = some (.int .i64 x9) ∧ (w.alloc (.cells #[.int .i64 x0, .int .i64 x1, .int .i64 x2, .int .i64 x3, .int .i64 x4, .int .i64 x5, .int .i64 x6, .int .i64 x7, .bool b, .int .i64 x9, .int .i64 x10, .int .i64 x11] 23)).cell? ⟨w.heap.size, 10, none⟩ = some (.int .i64 x10) ∧ (w.alloc (.cells #[.int .i64 x0, .int .i64 x1, .int .i64 x2, .int .i64 x3, .int .i64 x4, .int .i64 x5, .int .i64 x6, .int .i64 x7, .bool b, .int .i64 x9, .int .i64 x10, .int .i64 x11] 23)).cell? ⟨w.heap.size, 11, none⟩ = some (.int .i64 x11) := by simp [go_sem]
  have K := hide (perItem_any x0 x1 x2 x3 x4 x5 x6 x7 b x9 x10 x11 ok)
  obtain ⟨bk, hbk⟩ : ∃ n, bkV x3 x4 x5 = n := ⟨_, rfl⟩
  rw [hbk] at K ⊢
  clear hbk ok
  go_enter Try.func57, Try.ntmps57
  go_upto_region 1 with fail
  generalize (w.alloc (.cells #[.int .i64 x0, .int .i64 x1, .int .i64 x2, .int .i64 x3, .int .i64 x4, .int .i64 x5, .int .i64 x6, .int .i64 x7, .bool b, .int .i64 x9, .int .i64 x10, .int .i64 x11] 23)) = wz at *
  replace H0 := keep12 H0 ((Below.refl _ wz).drew)
  replace hB := hB.drew
  go_region_held3 (fun w' => w'.cell? ⟨w.heap.size, 0, none⟩ = some (.int .i64 x0) ∧ w'.cell? ⟨w.heap.size, 1, none⟩ = some (.int .i64 x1) ∧ w'.cell? ⟨w.heap.size, 2, none⟩ = some (.int .i64 x2) ∧ w'.cell? ⟨w.heap.size, 3, none⟩ = some (.int .i64 x3) ∧ w'.cell? ⟨w.heap.size, 4, none⟩ = some (.int .i64 x4) ∧ w'.cell? ⟨w.heap.size, 5, none⟩ = some (.int .i64 x5) ∧ w'.cell? ⟨w.heap.size, 6, none⟩ = some (.int .i64 x6) ∧ w'.cell? ⟨w.heap.size, 7, none⟩ = some (.int .i64 x7) ∧ w'.cell? ⟨w.heap.size, 8, none⟩ = some (.bool b) ∧ w'.cell? ⟨w.heap.size, 9, none⟩ = some (.int .i64 x9) ∧ w'.cell? ⟨w.heap.size, 10, none⟩ = some (.int .i64 x10) ∧ w'.cell? ⟨w.heap.size, 11, none⟩ = some (.int .i64 x11))
    (exact H0)
    (first
      | (go_at_call 84; refine (K.out _).mono ?_; rintro x v ⟨rfl, hv⟩; replace H0 := keep12 H0 hv; replace hB := below_next hB hB.size hv)
      | (go_at_call 85; refine (row_any 0 0 x1 bk _).mono ?_; rintro x v ⟨a, b, c, d, rfl, hp, hv⟩; replace H0 := keep12 H0 hv; replace hB := below_next hB hB.size hv))
  go_wp2
  go_ret
  exact ⟨a, b, c, d, rfl, hp, hB⟩

set_option maxRecDepth 100000 in
set_option maxHeartbeats 4000000 in
theorem layers_any (x0 x1 x2 x3 x4 x5 x6 x7 : Int) (b : Bool) (x9 x10 x11 : Int) (ok : CfOk x0 x1 x2 x3 x4 x5 x6 x7 b x9 x10 x11) (w : World) : Calls Try.prog 62 #[.agg #[.int .i64 x0, .int .i64 x1, .int .i64 x2, .int .i64 x3, .int .i64 x4, .int .i64 x5, .int .i64 x6, .int .i64 x7, .bool b, .int .i64 x9, .int .i64 x10, .int .i64 x11]] w (PlPost (1 + ndV x3) 1 x4 x5 w) := by
  have hB : Below w.heap.size w (w.alloc (.cells #[.int .i64 x0, .int .i64 x1, .int .i64 x2, .int .i64 x3, .int .i64 x4, .int .i64 x5, .int .i64 x6, .int .i64 x7, .bool b, .int .i64 x9, .int .i64 x10, .int .i64 x11] 23)) := (Below.refl _ _).alloc (Nat.le_refl _) _
  have H0 : (w.alloc (.cells #[.int .i64 x0, .int .i64 x1, .int .i64 x2, .int .i64 x3, .int .i64 x4, .int .i64 x5, .int .i64 x6, .int .i64 x7, .bool b, .int .i64 x9, .int .i64 x10, .int .i64 x11] 23)).cell? ⟨w.heap.size, 0, none⟩ = some (.int .i64 x0) ∧ (w.alloc (.cells #[.int .i64 x0, .int .i64 x1, .int .i64 x2, .int .i64 x3, .int .i64 x4, .int .i64 x5, .int .i64 x6, .int .i64 x7, .bool b, .int .i64 x9, .int .i64 x10, .int .i64 x11] 23)).cell? ⟨w.heap.size, 1, none⟩ = some (.int .i64 x1) ∧ (w.alloc (.cells #[.int .i64 x0, .int .i64 x1, .int .i64 x2, .int .i64 x3, .int .i64 x4, .int .i64 x5, .int .i64 x6, .int .i64 x7, .bool b, .int .i64 x9, .int .i64 x10, .int .i64 x11] 23)).cell? ⟨w.heap.size, 2, none⟩ = some (.int .i64 x2) ∧ (w.alloc (.cells #[.int .i64 x0, .int .i64 x1, .int .i64 x2, .int .i64 x3, .int .i64 x4, .int .i64 x5, .int .i64 x6, .int .i64 x7, .bool b, .int .i64 x9, .int .i64 x10, .int .i64 x11] 23)).cell? ⟨w.heap.size, 3, none⟩ = some (.int .i64 x3) ∧ (w.alloc (.cells #[.int .i64 x0, .int .i64 x1, .int .i64 x2, .int .i64 x3, .int .i64 x4, .int .i64 x5, .int .i64 x6, .int .i64 x7, .bool b, .int .i64 x9, .int .i64 x10, .int .i64 x11] 23)).cell? ⟨w.heap.size, 4, none⟩ = some (.int .i64 x4) ∧ (w.alloc (.cells #[.int .i64 x0, .int .i64 x1, .int .i64 x2, .int .i64 x3, .int .i64 x4, .int .i64 x5, .int .i64 x6, .int .i64 x7, .bool b, .int .i64 x9, .int .i64 x10, .int .i64 x11] 23)).cell? ⟨w.heap.size, 5, none⟩ = some (.int .i64 x5) ∧ (w.alloc (.cells #[.int .i64 x0, .int .i64 x1, .int .i64 x2, .int .i64 x3, .int .i64 x4, .int .i64 x5, .int .i64 x6, .int .i64 x7, .bool b, .int .i64 x9, .int .i64 x10, .int .i64 x11] 23)).cell? ⟨w.heap.size, 6, none⟩ = some (.int .i64 x6) ∧ (w.alloc (.cells #[.int .i64 x0, .int .i64 x1, .int .i64 x2, .int .i64 x3, .int .i64 x4, .int .i64 x5, .int .i64 x6, .int .i64 x7, .bool b, .int .i64 x9, .int .i64 x10, .int .i64 x11] 23)).cell? ⟨w.heap.size, 7, none⟩ = some (.int .i64 x7) ∧ (w.alloc (.cells #[.int .i64 x0, .int .i64 x1, .int .i64 x2, .int .i64 x3, .int .i64 x4, .int .i64 x5, .int .i64 x6, .int .i64 x7, .bool b, .int .i64 x9, .int .i64 x10, .int .i64 x11] 23)).cell? ⟨w.heap.size, 8, none⟩ = some (.bool b) ∧ (w.alloc (.cells #[.int .i64 x0, .int .i64 x1, .int .i64 x2, .int .i64 x3, .int .i64 x4, .int .i64 x5, .int .i64 x6, .int .i64 x7, .bool b, .int .i64 x9, .int .i64 x10, .int .i64 x11] 23)).cell? ⟨w.heap.size, 9, none⟩ = some (.int .i64 x9) ∧ (w.alloc (.cells #[.int .i64 x0, .int .i64 x1, .int .i64 x2, .int .i64 x3, .int .i64 x4, .int .i64 x5, .int .i64 x6, .int .i64 x7, .bool b, .int .i64 x9, .int .i64 x10, .int .i64 x11] 23)).cell? ⟨w.heap.size, 10, none⟩ = some (.int .i64 x10) ∧ (w.alloc (.cells #[.int .i64 x0, .int .i64 x1, .int .i64 x2, .int .i64 x3, .int .i64 x4, .int .i64 x5, .int .i64 x6, .int .i64 x7, .bool b, .int .i64 x9, .int .i64 x10, .int .i64 x11] 23)).cell? ⟨w.heap.size, 11, none⟩ = some (.int .i64 x11) := by simp [go_sem]
  have K := hide (nodes_any x0 x1 x2 x3 x4 x5 x6 x7 b x9 x10 x11 ok.h3)
  have h1 := nd_le ok.h3
  obtain ⟨nd, hnd⟩ : ∃ n, ndV x3 = n := ⟨_, rfl⟩
  rw [hnd] at K h1 ⊢
  have e1 := w64 (x := 1 + nd) (by omega)
  clear hnd h1 ok
  go_enter Try.func62, Try.ntmps62
  go_upto_region 1 with fail
  generalize (w.alloc (.cells #[.int .i64 x0, .int .i64 x1, .int .i64 x2, .int .i64 x3, .int .i64 x4, .int .i64 x5, .int .i64 x6, .int .i64 x7, .bool b, .int .i64 x9, .int .i64 x10, .int .i64 x11] 23)) = wz at *
  replace H0 := keep12 H0 ((Below.refl _ wz).drew)
  replace hB := hB.drew
  go_region_held3 (fun w' => w'.cell? ⟨w.heap.size, 0, none⟩ = some (.int .i64 x0) ∧ w'.cell? ⟨w.heap.size, 1, none⟩ = some (.int .i64 x1) ∧ w'.cell? ⟨w.heap.size, 2, none⟩ = some (.int .i64 x2) ∧ w'.cell? ⟨w.heap.size, 3, none⟩ = some (.int .i64 x3) ∧ w'.cell? ⟨w.heap.size, 4, none⟩ = some (.int .i64 x4) ∧ w'.cell? ⟨w.heap.size, 5, none⟩ = some (.int .i64 x5) ∧ w'.cell? ⟨w.heap.size, 6, none⟩ = some (.int .i64 x6) ∧ w'.cell? ⟨w.heap.size, 7, none⟩ = some (.int .i64 x7) ∧ w'.cell? ⟨w.heap.size, 8, none⟩ = some (.bool b) ∧ w'.cell? ⟨w.heap.size, 9, none⟩ = some (.int .i64 x9) ∧ w'.cell? ⟨w.heap.size, 10, none⟩ = some (.int .i64 x10) ∧ w'.cell? ⟨w.heap.size, 11, none⟩ = some (.int .i64 x11))
    (exact H0)
    (first
      | (go_at_call 89; refine (K.out _).mono ?_; rintro x v ⟨rfl, hv⟩; replace H0 := keep12 H0 hv; replace hB := below_next hB hB.size hv)
      | (go_at_call 85; refine (row_any (1 + nd) 1 x4 x5 _).mono ?_; rintro x v ⟨a, b, c, d, rfl, hp, hv⟩; replace H0 := keep12 H0 hv; replace hB := below_next hB hB.size hv))
  go_wp2
  go_ret
  exact ⟨a, b, c, d, rfl, hp, hB⟩

set_option maxRecDepth 100000 in
set_option maxHeartbeats 4000000 in
theorem slots_any (x0 x1 x2 x3 x4 x5 x6 x7 : Int) (b : Bool) (x9 x10 x11 : Int) (w : World) : Calls Try.prog 63 #[.agg #[.int .i64 x0, .int .i64 x1, .int .i64 x2, .int .i64 x3, .int .i64 x4, .int .i64 x5, .int .i64 x6, .int .i64 x7, .bool b, .int .i64 x9, .int .i64 x10, .int .i64 x11]] w (PlPost 0 0 x5 1 w) := by
  have hB : Below w.heap.size w (w.alloc (.cells #[.int .i64 x0, .int .i64 x1, .int .i64 x2, .int .i64 x3, .int .i64 x4, .int .i64 x5, .int .i64 x6, .int .i64 x7, .bool b, .int .i64 x9, .int .i64 x10, .int .i64 x11] 23)) := (Below.refl _ _).alloc (Nat.le_refl _) _
  go_enter Try.func63, Try.ntmps63
  go_wp2_with fail
  refine (row_any 0 0 x5 1 _).mono ?_
  rintro x v ⟨a, b, c, d, rfl, hp, hv⟩
  replace hB := below_next hB hB.size hv
  go_wp2
  go_ret
  exact ⟨a, b, c, d, rfl, hp, hB⟩

set_option maxRecDepth 100000 in
set_option maxHeartbeats 4000000 in
theorem lines_any (x0 x1 x2 x3 x4 x5 x6 x7 : Int) (b : Bool) (x9 x10 x11 : Int) (ok : CfOk x0 x1 x2 x3 x4 x5 x6 x7 b x9 x10 x11) (w : World) : Calls Try.prog 58 #[.agg #[.int .i64 x0, .int .i64 x1, .int .i64 x2, .int .i64 x3, .int .i64 x4, .int .i64 x5, .int .i64 x6, .int .i64 x7, .bool b, .int .i64 x9, .int .i64 x10, .int .i64 x11]] w (PlPost (x1 * bkV x3 x4 x5) 0 x0 2 w) := by
  have hB : Below w.heap.size w (w.alloc (.cells #[.int .i64 x0, .int .i64 x1, .int .i64 x2, .int .i64 x3, .int .i64 x4, .int .i64 x5, .int .i64 x6, .int .i64 x7, .bool b, .int .i64 x9, .int .i64 x10, .int .i64 x11] 23)) := (Below.refl _ _).alloc (Nat.le_refl _) _
  have H0 : (w.alloc (.cells #[.int .i64 x0, .int .i64 x1, .int .i64 x2, .int .i64 x3, .int .i64 x4, .int .i64 x5, .int .i64 x6, .int .i64 x7, .bool b, .int .i64 x9, .int .i64 x10, .int .i64 x11] 23)).cell? ⟨w.heap.size, 0, none⟩ = some (.int .i64 x0) ∧ (w.alloc (.cells #[.int .i64 x0, .int .i64 x1, .int .i64 x2, .int .i64 x3, .int .i64 x4, .int .i64 x5, .int .i64 x6, .int .i64 x7, .bool b, .int .i64 x9, .int .i64 x10, .int .i64 x11] 23)).cell? ⟨w.heap.size, 1, none⟩ = some (.int .i64 x1) ∧ (w.alloc (.cells #[.int .i64 x0, .int .i64 x1, .int .i64 x2, .int .i64 x3, .int .i64 x4, .int .i64 x5, .int .i64 x6, .int .i64 x7, .bool b, .int .i64 x9, .int .i64 x10, .int .i64 x11] 23)).cell? ⟨w.heap.size, 2, none⟩ = some (.int .i64 x2) ∧ (w.alloc (.cells #[.int .i64 x0, .int .i64 x1, .int .i64 x2, .int .i64 x3, .int .i64 x4, .int .i64 x5, .int .i64 x6, .int .i64 x7, .bool b, .int .i64 x9, .int .i64 x10, .int .i64 x11] 23)).cell? ⟨w.heap.size, 3, none⟩ = some (.int .i64 x3) ∧ (w.alloc (.cells #[.int .i64 x0, .int .i64 x1, .int .i64 x2, .int .i64 x3, .int .i64 x4, .int .i64 x5, .int .i64 x6, .int .i64 x7, .bool b, .int .i64 x9, .int .i64 x10, .int .i64 x11] 23)).cell? ⟨w.heap.size, 4, none⟩ = some (.int .i64 x4) ∧ (w.alloc (.cells #[.int .i64 x0, .int .i64 x1, .int .i64 x2, .int .i64 x3, .int .i64 x4, .int .i64 x5, .int .i64 x6, .int .i64 x7, .bool b, .int .i64 x9, .int .i64 x10, .int .i64 x11] 23)).cell? ⟨w.heap.size, 5, none⟩ = some (.int .i64 x5) ∧ (w.alloc (.cells #[.int .i64 x0, .int .i64 x1, .int .i64 x2, .int .i64 x3, .int .i64 x4, .int .i64 x5, .int .i64 x6, .int .i64 x7, .bool b, .int .i64 x9, .int .i64 x10, .int .i64 x11] 23)).cell? ⟨w.heap.size, 6, none⟩ = some (.int .i64 x6) ∧ (w.alloc (.cells #[.int .i64 x0, .int .i64 x1, .int .i64 x2, .int .i64 x3, .int .i64 x4, .int .i64 x5, .int .i64 x6, .int .i64 x7, .bool b, .int .i64 x9, .int .i64 x10, .int .i64 x11] 23)).cell? ⟨w.heap.size, 7, none⟩ = some (.int .i64 x7) ∧ (w.alloc (.cells #[.int .i64 x0, .int .i64 x1, .int .i64 x2, .int .i64 x3, .int .i64 x4, .int .i64 x5, .int .i64 x6, .int .i64 x7, .bool b, .int .i64 x9, .int .i64 x10, .int .i64 x11] 23)).cell? ⟨w.heap.size, 8, none⟩ = some (.bool b) ∧ (w.alloc (.cells #[.int .i64 x0, .int .i64 x1, .int .i64 x2, .int .i64 x3, .int .i64 x4, .int .i64 x5, .int .i64 x6, .int .i64 x7, .bool b, .int .i64 x9, .int .i64 x10, .int .i64 x11] 23)).cell? ⟨w.heap.size, 9, none⟩ = some (.int .i64 x9) ∧ (w.alloc (.cells #[.int .i64 x0, .int .i64 x1, .int .i64 x2, .int .i64 x3, .int .i64 x4, .int .i64 x5, .int .i64 x6, .int .i64 x7, .bool b, .int .i64 x9, .int .i64 x10, .int .i64 x11] 23)).cell? ⟨w.heap.size, 10, none⟩ = some (.int .i64 x10) ∧ (w.alloc (.cells #[.int .i64 x0, .int .i64 x1, .int .i64 x2, .int .i64 x3, .int .i64 x4, .int .i64 x5, .int .i64 x6, .int .i64 x7, .bool b, .int .i64 x9, .int .i64 x10, .int .i64 x11] 23)).cell? ⟨w.heap.size, 11, none⟩ = some (.int .i64 x11) := by simp [go_sem]
  have K := hide (ofItems_any x0 x1 x2 x3 x4 x5 x6 x7 b x9 x10 x11 ok)
  obtain ⟨m, hm⟩ : ∃ n, x1 * bkV x3 x4 x5 = n := ⟨_, rfl⟩
  rw [hm] at K ⊢
  clear hm ok
  go_enter Try.func58, Try.ntmps58
  go_upto_region 1 with fail
  generalize (w.alloc (.cells #[.int .i64 x0, .int .i64 x1, .int .i64 x2, .int .i64 x3, .int .i64 x4, .int .i64 x5, .int .i64 x6, .int .i64 x7, .bool b, .int .i64 x9, .int .i64 x10, .int .i64 x11] 23)) = wz at *
  replace H0 := keep12 H0 ((Below.refl _ wz).drew)
  replace hB := hB.drew
  go_region_held3 (fun w' => w'.cell? ⟨w.heap.size, 0, none⟩ = some (.int .i64 x0) ∧ w'.cell? ⟨w.heap.size, 1, none⟩ = some (.int .i64 x1) ∧ w'.cell? ⟨w.heap.size, 2, none⟩ = some (.int .i64 x2) ∧ w'.cell? ⟨w.heap.size, 3, none⟩ = some (.int .i64 x3) ∧ w'.cell? ⟨w.heap.size, 4, none⟩ = some (.int .i64 x4) ∧ w'.cell? ⟨w.heap.size, 5, none⟩ = some (.int .i64 x5) ∧ w'.cell? ⟨w.heap.size, 6, none⟩ = some (.int .i64 x6) ∧ w'.cell? ⟨w.heap.size, 7, none⟩ = some (.int .i64 x7) ∧ w'.cell? ⟨w.heap.size, 8, none⟩ = some (.bool b) ∧ w'.cell? ⟨w.heap.size, 9, none⟩ = some (.int .i64 x9) ∧ w'.cell? ⟨w.heap.size, 10, none⟩ = some (.int .i64 x10) ∧ w'.cell? ⟨w.heap.size, 11, none⟩ = some (.int .i64 x11))
    (exact H0)
    (first
      | (go_at_call 56; refine (K.out _).mono ?_; rintro x v ⟨rfl, hv⟩; replace H0 := keep12 H0 hv; replace hB := below_next hB hB.size hv)
      | (go_at_call 85; refine (row_any m 0 x0 2 _).mono ?_; rintro x v ⟨a, b, c, d, rfl, hp, hv⟩; replace H0 := keep12 H0 hv; replace hB := below_next hB hB.size hv))
  go_wp2
  go_ret
  exact ⟨a, b, c, d, rfl, hp, hB⟩

/-- What within answers. -/
def wiV (acc : Int) : List Int → Int
  | [] => acc
  | x :: t => if x = -1 then -1 else wiV (acc + x) t
theorem wi_none {acc : Int} {l : List Int} {j : Nat} (h : l[j]? = some (-1)) : wiV acc (l.drop j) = -1 := by
  rw [List.getElem?_eq_some_iff] at h
  obtain ⟨hk, e⟩ := h
  rw [List.drop_eq_getElem_cons hk, e]; rfl
theorem wi_next {acc x : Int} {l : List Int} {j : Nat} (h : l[j]? = some x) (hx : ¬ x = -1) : wiV acc (l.drop j) = wiV (acc + x) (l.drop (j + 1)) := by
  rw [List.getElem?_eq_some_iff] at h
  obtain ⟨hk, e⟩ := h
  rw [List.drop_eq_getElem_cons hk, e, wiV, if_neg hx]

set_option maxRecDepth 100000 in
set_option maxHeartbeats 4000000 in
theorem within_any (A : Option Addr) (c : Nat) (xs : List Int) (hl : xs.length ≤ 100) (hx : ∀ x ∈ xs, -1 ≤ x ∧ x ≤ 1000) (w : World) (hs : Sees w w.heap.size 1 A xs.length (xs.map (Value.int .i64))) :
    Calls Try.prog 61 #[.slice A xs.length c] w (IntPost (wiV 0 xs) w) := by
  have HX := hide hx
  have HS := hide hs
  clear hx hs
  go_enter Try.func61, Try.ntmps61
  go_wp2
  go_loopw [3, 8] (fun p i wr => ∃ (j : Nat) (q : Int), j ≤ xs.length ∧ i = .int .i64 j ∧ p = .int .i64 q ∧ (0 ≤ q ∧ q ≤ 1000 * (j : Int)) ∧ Hid (wiV 0 xs = wiV q (xs.drop j)) ∧ wr = w) (fun _ i _ => xs.length - (intOf i).toNat)
  case atStart => exact ⟨0, 0, Nat.zero_le _, rfl, rfl, by omega, hide rfl, rfl⟩
  case round =>
    obtain ⟨j, q, hj, rfl, rfl, hq, HV, rfl⟩ := hrel
    by_cases hlt : j < xs.length
    · obtain ⟨b, off, x, rfl, hb, hxj, hcx⟩ := HS.out.num hlt
      have hxb := HX.out x (List.mem_of_getElem? hxj)
      have HXJ := hide hxj
      have hj0 : (0 : Int) ≤ (j : Int) := Int.natCast_nonneg _
      have hj1 : (j : Int) < (xs.length : Int) := by omega
      clear hxj HX HS
      by_cases h1 : x = -1
      · subst h1
        have HF := hide (HV.out.trans (wi_none HXJ.out))
        go_wp2
        go_ret
        exact ⟨ret_i HF.out, Below.refl _ _⟩
      · have HF := hide (HV.out.trans (wi_next HXJ.out h1))
        go_wp2
        go_roundw
        case rel => exact ⟨j + 1, q + x, by omega, by go_num, by go_num, by omega, HF, trivial⟩
        case measure => simp [intOf]; omega
    · obtain rfl : j = xs.length := by omega
      have HF : Hid (wiV 0 xs = q) := hide (HV.out.trans (by rw [List.drop_of_length_le (Nat.le_refl _)]; rfl))
      clear HV HX HS
      go_wp2
      go_ret
      exact ⟨ret_i HF.out, Below.refl _ _⟩

end Go.Proofs.Ytjghdbkkjhnpfaa
/- Contracts of the program's places: Cell, Line, Result, Node, Slot. -/
namespace Go.Proofs.Ytjghdbkkjhnpfaa
open Go.RowKit

set_option linter.unusedVariables false
theorem cell_eq (it bk i : Int) : rowV 0 0 it bk i = cellV it bk i := by
  unfold rowV cellV
  by_cases h : 0 ≤ i ∧ i < it
  · rw [if_pos h, if_neg (by omega)]; simp
  · rw [if_neg h, if_pos (by omega)]
theorem line_eq (it bk th t : Int) : rowV (it * bk) 0 th 2 t = lineV it bk th t := by
  unfold rowV lineV
  by_cases h : 0 ≤ t ∧ t < th
  · rw [if_pos h, if_neg (by omega)]; omega
  · rw [if_neg h, if_pos (by omega)]
theorem res_eq (it bk th t : Int) : rowV (it * bk + 1) 0 th 2 t = resV it bk th t := by
  unfold rowV resV
  by_cases h : 0 ≤ t ∧ t < th
  · rw [if_pos h, if_neg (by omega)]; omega
  · rw [if_neg h, if_pos (by omega)]
theorem cell_le {it bk i : Int} (h : 1 ≤ it ∧ it ≤ 4) (hb : 1 ≤ bk ∧ bk ≤ 40) : -1 ≤ cellV it bk i ∧ cellV it bk i ≤ 160 ∧ (cellV it bk i = -1 ↔ ¬(0 ≤ i ∧ i < it)) := by
  unfold cellV
  by_cases hi : 0 ≤ i ∧ i < it
  · have := mul_le (a := i) (b := bk) (p := 4) (q := 40) (by omega) (by omega)
    rw [if_pos hi]; omega
  · rw [if_neg hi]; omega
theorem node_eq {it bk nd i n : Int} (h : 1 ≤ it ∧ it ≤ 4) (hb : 1 ≤ bk ∧ bk ≤ 40) : wiV 0 [cellV it bk i, rowV 1 1 nd 1 n] = nodeV it bk nd i n := by
  have h1 := cell_le (i := i) h hb
  by_cases hi : 0 ≤ i ∧ i < it
  · have h2 : ¬ cellV it bk i = -1 := by omega
    rw [wiV, if_neg h2]
    by_cases hn : 1 ≤ n ∧ n ≤ nd
    · have e : rowV 1 1 nd 1 n = n := by rw [rowV, if_neg (by omega)]; omega
      rw [e, wiV, if_neg (by omega), nodeV, if_pos ⟨hi, hn⟩, wiV, cellV, if_pos hi]; omega
    · have e : rowV 1 1 nd 1 n = -1 := by rw [rowV, if_pos (by omega)]
      rw [e, wiV, if_pos rfl, nodeV, if_neg (fun h => hn h.2)]
  · have h2 : cellV it bk i = -1 := by omega
    rw [h2, wiV, if_pos rfl, nodeV, if_neg (fun h => hi h.1)]
theorem slot_eq {it bk nd ly wd i l s : Int} (h : 1 ≤ it ∧ it ≤ 4) (hb : 1 ≤ bk ∧ bk ≤ 40) (hnd : 0 ≤ nd) (hwd : 0 ≤ wd) : wiV 0 [cellV it bk i, rowV (1 + nd) 1 ly wd l, rowV 0 0 wd 1 s] = slotV it bk nd ly wd i l s := by
  have h1 := cell_le (i := i) h hb
  by_cases hi : 0 ≤ i ∧ i < it
  · have h2 : ¬ cellV it bk i = -1 := by omega
    rw [wiV, if_neg h2]
    by_cases hl : 1 ≤ l ∧ l ≤ ly
    · have e : rowV (1 + nd) 1 ly wd l = 1 + nd + (l - 1) * wd := by rw [rowV, if_neg (by omega)]
      have hm : 0 ≤ (l - 1) * wd := Int.mul_nonneg (by omega) hwd
      rw [e, wiV, if_neg (by omega)]
      by_cases hs : 0 ≤ s ∧ s < wd
      · have e : rowV 0 0 wd 1 s = s := by rw [rowV, if_neg (by omega)]; omega
        rw [e, wiV, if_neg (by omega), slotV, if_pos ⟨hi, hl, hs⟩, wiV, cellV, if_pos hi]; omega
      · have e : rowV 0 0 wd 1 s = -1 := by rw [rowV, if_pos (by omega)]
        rw [e, wiV, if_pos rfl, slotV, if_neg (fun h => hs h.2.2)]
    · have e : rowV (1 + nd) 1 ly wd l = -1 := by rw [rowV, if_pos (by omega)]
      rw [e, wiV, if_pos rfl, slotV, if_neg (fun h => hl h.2.1)]
  · have h2 : cellV it bk i = -1 := by omega
    rw [h2, wiV, if_pos rfl, slotV, if_neg (fun h => hi h.1)]
theorem row_le {s f m k n : Int} (hs : 0 ≤ s ∧ s ≤ 100) (hm : m ≤ 20) (hk : 0 ≤ k ∧ k ≤ 40) : -1 ≤ rowV s f m k n ∧ rowV s f m k n ≤ 1000 := by
  unfold rowV
  by_cases h : n < f ∨ m ≤ n - f
  · rw [if_pos h]; omega
  · have := mul_le (a := n - f) (b := k) (p := 20) (q := 40) (by omega) hk
    rw [if_neg h]; omega

set_option maxRecDepth 100000 in
set_option maxHeartbeats 4000000 in
theorem cell_any (x0 x1 x2 x3 x4 x5 x6 x7 : Int) (b : Bool) (x9 x10 x11 : Int) (ok : CfOk x0 x1 x2 x3 x4 x5 x6 x7 b x9 x10 x11) (n : Int) (hn : I64 n) (w : World) : Calls Try.prog 42 #[.agg #[.int .i64 x0, .int .i64 x1, .int .i64 x2, .int .i64 x3, .int .i64 x4, .int .i64 x5, .int .i64 x6, .int .i64 x7, .bool b, .int .i64 x9, .int .i64 x10, .int .i64 x11], .int .i64 n] w (IntPost (cellV x1 (bkV x3 x4 x5) n) w) := by
  have hB : Below w.heap.size w (w.alloc (.cells #[.int .i64 x0, .int .i64 x1, .int .i64 x2, .int .i64 x3, .int .i64 x4, .int .i64 x5, .int .i64 x6, .int .i64 x7, .bool b, .int .i64 x9, .int .i64 x10, .int .i64 x11] 23)) := (Below.refl _ _).alloc (Nat.le_refl _) _
  have h1 := bk_le ok.h3 ok.h4 ok.h5
  have h2 := mul_le (a := x1) (b := bkV x3 x4 x5) ⟨by have := ok.h1; omega, ok.h1.2⟩ ⟨by omega, h1.2⟩
  have K1 := hide (items_any x0 x1 x2 x3 x4 x5 x6 x7 b x9 x10 x11 ok)
  have K2 := hide (fun a b c d (v : World) => row1_any a b c d (0) 0 (x1) (bkV x3 x4 x5) n (by omega) (by have := ok.h0; have := ok.h1; omega) (by omega) (by omega) hn v)
  rw [cell_eq] at K2
  obtain ⟨r, hr⟩ : ∃ r, cellV x1 (bkV x3 x4 x5) n = r := ⟨_, rfl⟩
  rw [hr] at K2 ⊢
  clear hr h1 h2 ok hn
  go_enter Try.func42, Try.ntmps42
  go_wp2_with fail
  refine (K1.out _).mono ?_
  rintro x v ⟨a, b, c, d, rfl, hp, hv⟩
  replace hB := below_next hB hB.size hv
  clear hv
  go_wp2_with fail
  refine (K2.out a b c d v hp).mono ?_
  rintro x v' ⟨rfl, rfl⟩
  go_wp2
  go_ret
  exact ⟨rfl, hB⟩

set_option maxRecDepth 100000 in
set_option maxHeartbeats 4000000 in
theorem line_any (x0 x1 x2 x3 x4 x5 x6 x7 : Int) (b : Bool) (x9 x10 x11 : Int) (ok : CfOk x0 x1 x2 x3 x4 x5 x6 x7 b x9 x10 x11) (n : Int) (hn : I64 n) (w : World) : Calls Try.prog 43 #[.agg #[.int .i64 x0, .int .i64 x1, .int .i64 x2, .int .i64 x3, .int .i64 x4, .int .i64 x5, .int .i64 x6, .int .i64 x7, .bool b, .int .i64 x9, .int .i64 x10, .int .i64 x11], .int .i64 n] w (IntPost (lineV x1 (bkV x3 x4 x5) x0 n) w) := by
  have hB : Below w.heap.size w (w.alloc (.cells #[.int .i64 x0, .int .i64 x1, .int .i64 x2, .int .i64 x3, .int .i64 x4, .int .i64 x5, .int .i64 x6, .int .i64 x7, .bool b, .int .i64 x9, .int .i64 x10, .int .i64 x11] 23)) := (Below.refl _ _).alloc (Nat.le_refl _) _
  have h1 := bk_le ok.h3 ok.h4 ok.h5
  have h2 := mul_le (a := x1) (b := bkV x3 x4 x5) ⟨by have := ok.h1; omega, ok.h1.2⟩ ⟨by omega, h1.2⟩
  have K1 := hide (lines_any x0 x1 x2 x3 x4 x5 x6 x7 b x9 x10 x11 ok)
  have K2 := hide (fun a b c d (v : World) => row1_any a b c d (x1 * bkV x3 x4 x5) 0 (x0) (2) n (by omega) (by have := ok.h0; have := ok.h1; omega) (by omega) (by omega) hn v)
  rw [line_eq] at K2
  obtain ⟨r, hr⟩ : ∃ r, lineV x1 (bkV x3 x4 x5) x0 n = r := ⟨_, rfl⟩
  rw [hr] at K2 ⊢
  clear hr h1 h2 ok hn
  go_enter Try.func43, Try.ntmps43
  go_wp2_with fail
  refine (K1.out _).mono ?_
  rintro x v ⟨a, b, c, d, rfl, hp, hv⟩
  replace hB := below_next hB hB.size hv
  clear hv
  go_wp2_with fail
  refine (K2.out a b c d v hp).mono ?_
  rintro x v' ⟨rfl, rfl⟩
  go_wp2
  go_ret
  exact ⟨rfl, hB⟩

end Go.Proofs.Ytjghdbkkjhnpfaa
/- Contracts of the program's Node and Slot. -/
namespace Go.Proofs.Ytjghdbkkjhnpfaa
open Go.RowKit

set_option linter.unusedVariables false
theorem sees_lit (w : World) (xs : List Int) : Sees (w.alloc (.cells (xs.map (Value.int .i64)).toArray 3)) (w.alloc (.cells (xs.map (Value.int .i64)).toArray 3)).heap.size 1 (some ⟨w.heap.size, 0, none⟩) xs.length (xs.map (Value.int .i64)) := by
  refine ⟨by simp, fun _ => ⟨w.heap.size, 0, rfl, by simp, fun j u hu => ?_⟩⟩
  rw [Nat.zero_add]
  have hj : j < xs.length := by have := (List.getElem?_eq_some_iff.1 hu).1; simpa using this
  simp [go_sem]
  simpa using hu

set_option maxRecDepth 100000 in
set_option maxHeartbeats 4000000 in
theorem slot_any (x0 x1 x2 x3 x4 x5 x6 x7 : Int) (b : Bool) (x9 x10 x11 : Int) (ok : CfOk x0 x1 x2 x3 x4 x5 x6 x7 b x9 x10 x11) (i : Int) (hi : I64 i) (l : Int) (hl : I64 l) (s : Int) (hs : I64 s) (w : World) : Calls Try.prog 45 #[.agg #[.int .i64 x0, .int .i64 x1, .int .i64 x2, .int .i64 x3, .int .i64 x4, .int .i64 x5, .int .i64 x6, .int .i64 x7, .bool b, .int .i64 x9, .int .i64 x10, .int .i64 x11], .int .i64 i, .int .i64 l, .int .i64 s] w (IntPost (slotV x1 (bkV x3 x4 x5) (ndV x3) x4 x5 i l s) w) := by
  have hB : Below w.heap.size w (w.alloc (.cells #[.int .i64 x0, .int .i64 x1, .int .i64 x2, .int .i64 x3, .int .i64 x4, .int .i64 x5, .int .i64 x6, .int .i64 x7, .bool b, .int .i64 x9, .int .i64 x10, .int .i64 x11] 23)) := (Below.refl _ _).alloc (Nat.le_refl _) _
  have H0 : (w.alloc (.cells #[.int .i64 x0, .int .i64 x1, .int .i64 x2, .int .i64 x3, .int .i64 x4, .int .i64 x5, .int .i64 x6, .int .i64 x7, .bool b, .int .i64 x9, .int .i64 x10, .int .i64 x11] 23)).cell? ⟨w.heap.size, 0, none⟩ = some (.int .i64 x0) ∧ (w.alloc (.cells #[.int .i64 x0, .int .i64 x1, .int .i64 x2, .int .i64 x3, .int .i64 x4, .int .i64 x5, .int .i64 x6, .int .i64 x7, .bool b, .int .i64 x9, .int .i64 x10, .int .i64 x11] 23)).cell? ⟨w.heap.size, 1, none⟩ = some (.int .i64 x1) ∧ (w.alloc (.cells #[.int .i64 x0, .int .i64 x1, .int .i64 x2, .int .i64 x3, .int .i64 x4, .int .i64 x5, .int .i64 x6, .int .i64 x7, .bool b, .int .i64 x9, .int .i64 x10, .int .i64 x11] 23)).cell? ⟨w.heap.size, 2, none⟩ = some (.int .i64 x2) ∧ (w.alloc (.cells #[.int .i64 x0, .int .i64 x1, .int .i64 x2, .int .i64 x3, .int .i64 x4, .int .i64 x5, .int .i64 x6, .int .i64 x7, .bool b, .int .i64 x9, .int .i64 x10, .int .i64 x11] 23)).cell? ⟨w.heap.size, 3, none⟩ = some (.int .i64 x3) ∧ (w.alloc (.cells #[.int .i64 x0, .int .i64 x1, .int .i64 x2, .int .i64 x3, .int .i64 x4, .int .i64 x5, .int .i64 x6, .int .i64 x7, .bool b, .int .i64 x9, .int .i64 x10, .int .i64 x11] 23)).cell? ⟨w.heap.size, 4, none⟩ = some (.int .i64 x4) ∧ (w.alloc (.cells #[.int .i64 x0, .int .i64 x1, .int .i64 x2, .int .i64 x3, .int .i64 x4, .int .i64 x5, .int .i64 x6, .int .i64 x7, .bool b, .int .i64 x9, .int .i64 x10, .int .i64 x11] 23)).cell? ⟨w.heap.size, 5, none⟩ = some (.int .i64 x5) ∧ (w.alloc (.cells #[.int .i64 x0, .int .i64 x1, .int .i64 x2, .int .i64 x3, .int .i64 x4, .int .i64 x5, .int .i64 x6, .int .i64 x7, .bool b, .int .i64 x9, .int .i64 x10, .int .i64 x11] 23)).cell? ⟨w.heap.size, 6, none⟩ = some (.int .i64 x6) ∧ (w.alloc (.cells #[.int .i64 x0, .int .i64 x1, .int .i64 x2, .int .i64 x3, .int .i64 x4, .int .i64 x5, .int .i64 x6, .int .i64 x7, .bool b, .int .i64 x9, .int .i64 x10, .int .i64 x11] 23)).cell? ⟨w.heap.size, 7, none⟩ = some (.int .i64 x7) ∧ (w.alloc (.cells #[.int .i64 x0, .int .i64 x1, .int .i64 x2, .int .i64 x3, .int .i64 x4, .int .i64 x5, .int .i64 x6, .int .i64 x7, .bool b, .int .i64 x9, .int .i64 x10, .int .i64 x11] 23)).cell? ⟨w.heap.size, 8, none⟩ = some (.bool b) ∧ (w.alloc (.cells #[.int .i64 x0, .int .i64 x1, .int .i64 x2, .int .i64 x3, .int .i64 x4, .int .i64 x5, .int .i64 x6, .int .i64 x7, .bool b, .int .i64 x9, .int .i64 x10, .int .i64 x11] 23)).cell? ⟨w.heap.size, 9, none⟩ = some (.int .i64 x9) ∧ (w.alloc (.cells #[.int .i64 x0, .int .i64 x1, .int .i64 x2, .int .i64 x3, .int .i64 x4, .int .i64 x5, .int .i64 x6, .int .i64 x7, .bool b, .int .i64 x9, .int .i64 x10, .int .i64 x11] 23)).cell? ⟨w.heap.size, 10, none⟩ = some (.int .i64 x10) ∧ (w.alloc (.cells #[.int .i64 x0, .int .i64 x1, .int .i64 x2, .int .i64 x3, .int .i64 x4, .int .i64 x5, .int .i64 x6, .int .i64 x7, .bool b, .int .i64 x9, .int .i64 x10, .int .i64 x11] 23)).cell? ⟨w.heap.size, 11, none⟩ = some (.int .i64 x11) := by simp [go_sem]
  have h1 := bk_le ok.h3 ok.h4 ok.h5
  have h2 := nd_le ok.h3
  have I1 := hide (items_any x0 x1 x2 x3 x4 x5 x6 x7 b x9 x10 x11 ok)
  have R1 := hide (fun a b c d (v : World) => row1_any a b c d (0) 0 (x1) (bkV x3 x4 x5) i (by omega) (by have := ok.h1; have := ok.h4; have := ok.h5; omega) (by have := ok.h5; omega) (by omega) hi v)
  have B1 := row_le (s := 0) (f := 0) (m := x1) (k := bkV x3 x4 x5) (n := i) (by omega) (by have := ok.h1; have := ok.h4; have := ok.h5; omega) (by have := ok.h5; omega)
  have I2 := hide (layers_any x0 x1 x2 x3 x4 x5 x6 x7 b x9 x10 x11 ok)
  have R2 := hide (fun a b c d (v : World) => row1_any a b c d (1 + ndV x3) 1 (x4) (x5) l (by omega) (by have := ok.h1; have := ok.h4; have := ok.h5; omega) (by have := ok.h5; omega) (by omega) hl v)
  have B2 := row_le (s := 1 + ndV x3) (f := 1) (m := x4) (k := x5) (n := l) (by omega) (by have := ok.h1; have := ok.h4; have := ok.h5; omega) (by have := ok.h5; omega)
  have I3 := hide (slots_any x0 x1 x2 x3 x4 x5 x6 x7 b x9 x10 x11)
  have R3 := hide (fun a b c d (v : World) => row1_any a b c d (0) 0 (x5) (1) s (by omega) (by have := ok.h1; have := ok.h4; have := ok.h5; omega) (by have := ok.h5; omega) (by omega) hs v)
  have B3 := row_le (s := 0) (f := 0) (m := x5) (k := 1) (n := s) (by omega) (by have := ok.h1; have := ok.h4; have := ok.h5; omega) (by have := ok.h5; omega)
  have HV := hide (slot_eq (ly := x4) (i := i) (l := l) (s := s) ok.h1 h1 h2.1 (show 0 ≤ x5 by have := ok.h5; omega))
  rw [← cell_eq] at HV
  obtain ⟨p1, hp1⟩ : ∃ p, rowV (0) 0 (x1) (bkV x3 x4 x5) i = p := ⟨_, rfl⟩
  rw [hp1] at R1 B1 HV
  clear hp1
  obtain ⟨p2, hp2⟩ : ∃ p, rowV (1 + ndV x3) 1 (x4) (x5) l = p := ⟨_, rfl⟩
  rw [hp2] at R2 B2 HV
  clear hp2
  obtain ⟨p3, hp3⟩ : ∃ p, rowV (0) 0 (x5) (1) s = p := ⟨_, rfl⟩
  rw [hp3] at R3 B3 HV
  clear hp3
  have KW := hide (fun A c (v : World) hs => within_any A c [p1, p2, p3] (by simp) (by intro x hx; simp only [List.mem_cons, List.not_mem_nil, or_false] at hx; rcases hx with rfl | rfl | rfl <;> assumption) v hs)
  clear ok h1 h2 B1 B2 B3 hi hl hs
  go_enter Try.func45, Try.ntmps45
  go_upto_region 1 with fail
  generalize (w.alloc (.cells #[.int .i64 x0, .int .i64 x1, .int .i64 x2, .int .i64 x3, .int .i64 x4, .int .i64 x5, .int .i64 x6, .int .i64 x7, .bool b, .int .i64 x9, .int .i64 x10, .int .i64 x11] 23)) = wz at *
  replace H0 := keep12 H0 ((Below.refl _ wz).drew)
  replace hB := hB.drew
  go_region_held3 (fun w' => w'.cell? ⟨w.heap.size, 0, none⟩ = some (.int .i64 x0) ∧ w'.cell? ⟨w.heap.size, 1, none⟩ = some (.int .i64 x1) ∧ w'.cell? ⟨w.heap.size, 2, none⟩ = some (.int .i64 x2) ∧ w'.cell? ⟨w.heap.size, 3, none⟩ = some (.int .i64 x3) ∧ w'.cell? ⟨w.heap.size, 4, none⟩ = some (.int .i64 x4) ∧ w'.cell? ⟨w.heap.size, 5, none⟩ = some (.int .i64 x5) ∧ w'.cell? ⟨w.heap.size, 6, none⟩ = some (.int .i64 x6) ∧ w'.cell? ⟨w.heap.size, 7, none⟩ = some (.int .i64 x7) ∧ w'.cell? ⟨w.heap.size, 8, none⟩ = some (.bool b) ∧ w'.cell? ⟨w.heap.size, 9, none⟩ = some (.int .i64 x9) ∧ w'.cell? ⟨w.heap.size, 10, none⟩ = some (.int .i64 x10) ∧ w'.cell? ⟨w.heap.size, 11, none⟩ = some (.int .i64 x11))
    (first | (with_reducible exact H0) | (exact keep12 H0 ((Below.refl _ _).alloc (Nat.le_refl _) _)))
    (first
      | (go_at_call 57; refine (I1.out _).mono ?_; rintro x v1 ⟨a1, b1, c1, d1, rfl, hp1, hv⟩; replace H0 := keep12 H0 hv; replace hB := below_next hB hB.size hv; clear hv)
      | (go_at_call_of 94 a1; refine (R1.out a1 b1 c1 d1 _ hp1).mono ?_; rintro x vv ⟨rfl, rfl⟩)
      | (go_at_call 62; refine (I2.out _).mono ?_; rintro x v2 ⟨a2, b2, c2, d2, rfl, hp2, hv⟩; replace H0 := keep12 H0 hv; replace hB := below_next hB hB.size hv; clear hv)
      | (go_at_call_of 94 a2; refine (R2.out a2 b2 c2 d2 _ hp2).mono ?_; rintro x vv ⟨rfl, rfl⟩)
      | (go_at_call 63; refine (I3.out _).mono ?_; rintro x v3 ⟨a3, b3, c3, d3, rfl, hp3, hv⟩; replace H0 := keep12 H0 hv; replace hB := below_next hB hB.size hv; clear hv)
      | (go_at_call_of 94 a3; refine (R3.out a3 b3 c3 d3 _ hp3).mono ?_; rintro x vv ⟨rfl, rfl⟩)
      | (go_at_call 61; refine (KW.out _ _ _ (sees_lit _ [p1, p2, p3])).mono ?_; rintro x vz ⟨rfl, hv⟩; replace H0 := keep12 (keep12 H0 ((Below.refl _ _).alloc (Nat.le_refl _) (.cells #[.int .i64 p1, .int .i64 p2, .int .i64 p3] 3))) hv; replace hB := below_next (hB.alloc hB.size (.cells #[.int .i64 p1, .int .i64 p2, .int .i64 p3] 3)) (by simpa using Nat.le_succ_of_le hB.size) hv))
  go_wp2
  go_ret
  exact ⟨ret_i HV.out.symm, hB⟩

end Go.Proofs.Ytjghdbkkjhnpfaa
/- Contracts of the document's sizes: Nodes, block, Size. -/
namespace Go.Proofs.Ytjghdbkkjhnpfaa
open Go.RowKit

set_option linter.unusedVariables false
theorem pow_le4 (j : Nat) (h : j ≤ 4) : 1 ≤ (2 : Int) ^ j ∧ (2 : Int) ^ j ≤ 16 := by
  have h' : j = 0 ∨ j = 1 ∨ j = 2 ∨ j = 3 ∨ j = 4 := by omega
  rcases h' with rfl | rfl | rfl | rfl | rfl <;> decide
set_option maxRecDepth 100000 in
set_option maxHeartbeats 4000000 in
theorem rnodes_any (x0 x1 x2 x3 x4 x5 x6 x7 : Int) (b : Bool) (x9 x10 x11 : Int) (h3 : 0 ≤ x3 ∧ x3 ≤ 4) (w : World) : Calls Try.prog 24 #[.agg #[.int .i64 x0, .int .i64 x1, .int .i64 x2, .int .i64 x3, .int .i64 x4, .int .i64 x5, .int .i64 x6, .int .i64 x7, .bool b, .int .i64 x9, .int .i64 x10, .int .i64 x11]] w (IntPost (ndV x3) w) := by
  obtain ⟨n, rfl⟩ : ∃ n : Nat, x3 = (n : Int) := ⟨x3.toNat, by omega⟩
  have hB : Below w.heap.size w (w.alloc (.cells #[.int .i64 x0, .int .i64 x1, .int .i64 x2, .int .i64 (n : Int), .int .i64 x4, .int .i64 x5, .int .i64 x6, .int .i64 x7, .bool b, .int .i64 x9, .int .i64 x10, .int .i64 x11] 39)) := (Below.refl _ _).alloc (Nat.le_refl _) _
  have hn : n ≤ 4 := by omega
  go_enter Try.func24, Try.ntmps24
  go_wp2
  go_loopw [3, 4] (fun p i wr => ∃ j : Nat, j ≤ n ∧ i = .int .i64 j ∧ p = .int .i64 (2 ^ j) ∧ wr = (w.alloc (.cells #[.int .i64 x0, .int .i64 x1, .int .i64 x2, .int .i64 (n : Int), .int .i64 x4, .int .i64 x5, .int .i64 x6, .int .i64 x7, .bool b, .int .i64 x9, .int .i64 x10, .int .i64 x11] 39))) (fun _ i _ => n - (intOf i).toNat)
  case atStart => exact ⟨0, Nat.zero_le _, rfl, rfl, rfl⟩
  case round =>
    obtain ⟨j, hj, rfl, rfl, rfl⟩ := hrel
    have hp := pow_le4 j (by omega)
    have HP : Hid ((2 : Int) ^ (j + 1) = 2 * 2 ^ j) := hide (by rw [Int.pow_succ]; omega)
    have HN : Hid (ndV (n : Int) = 2 ^ n - 1) := hide (by simp [ndV])
    obtain ⟨p, hpe⟩ : ∃ p : Int, 2 ^ j = p := ⟨_, rfl⟩
    rw [hpe] at hp HP
    have HE := hide hpe
    simp only [hpe]
    clear hpe
    by_cases hlt : j < n
    · go_wp2
      go_roundw
      case rel => exact ⟨j + 1, by omega, by go_num, by rw [HP.out], trivial⟩
      case measure => simp [intOf]; omega
    · obtain rfl : j = n := by omega
      go_wp2
      go_ret
      exact ⟨ret_i (by rw [HN.out, HE.out]), hB⟩

set_option maxRecDepth 100000 in
set_option maxHeartbeats 4000000 in
theorem rblock_any (x0 x1 x2 x3 x4 x5 x6 x7 : Int) (b : Bool) (x9 x10 x11 : Int) (ok : CfOk x0 x1 x2 x3 x4 x5 x6 x7 b x9 x10 x11) (w : World) : Calls Try.prog 23 #[.agg #[.int .i64 x0, .int .i64 x1, .int .i64 x2, .int .i64 x3, .int .i64 x4, .int .i64 x5, .int .i64 x6, .int .i64 x7, .bool b, .int .i64 x9, .int .i64 x10, .int .i64 x11]] w (IntPost (bkV x3 x4 x5) w) := by
  have hB : Below w.heap.size w (w.alloc (.cells #[.int .i64 x0, .int .i64 x1, .int .i64 x2, .int .i64 x3, .int .i64 x4, .int .i64 x5, .int .i64 x6, .int .i64 x7, .bool b, .int .i64 x9, .int .i64 x10, .int .i64 x11] 39)) := (Below.refl _ _).alloc (Nat.le_refl _) _
  have H0 : (w.alloc (.cells #[.int .i64 x0, .int .i64 x1, .int .i64 x2, .int .i64 x3, .int .i64 x4, .int .i64 x5, .int .i64 x6, .int .i64 x7, .bool b, .int .i64 x9, .int .i64 x10, .int .i64 x11] 39)).cell? ⟨w.heap.size, 0, none⟩ = some (.int .i64 x0) ∧ (w.alloc (.cells #[.int .i64 x0, .int .i64 x1, .int .i64 x2, .int .i64 x3, .int .i64 x4, .int .i64 x5, .int .i64 x6, .int .i64 x7, .bool b, .int .i64 x9, .int .i64 x10, .int .i64 x11] 39)).cell? ⟨w.heap.size, 1, none⟩ = some (.int .i64 x1) ∧ (w.alloc (.cells #[.int .i64 x0, .int .i64 x1, .int .i64 x2, .int .i64 x3, .int .i64 x4, .int .i64 x5, .int .i64 x6, .int .i64 x7, .bool b, .int .i64 x9, .int .i64 x10, .int .i64 x11] 39)).cell? ⟨w.heap.size, 2, none⟩ = some (.int .i64 x2) ∧ (w.alloc (.cells #[.int .i64 x0, .int .i64 x1, .int .i64 x2, .int .i64 x3, .int .i64 x4, .int .i64 x5, .int .i64 x6, .int .i64 x7, .bool b, .int .i64 x9, .int .i64 x10, .int .i64 x11] 39)).cell? ⟨w.heap.size, 3, none⟩ = some (.int .i64 x3) ∧ (w.alloc (.cells #[.int .i64 x0, .int .i64 x1, .int .i64 x2, .int .i64 x3, .int .i64 x4, .int .i64 x5, .int .i64 x6, .int .i64 x7, .bool b, .int .i64 x9, .int .i64 x10, .int .i64 x11] 39)).cell? ⟨w.heap.size, 4, none⟩ = some (.int .i64 x4) ∧ (w.alloc (.cells #[.int .i64 x0, .int .i64 x1, .int .i64 x2, .int .i64 x3, .int .i64 x4, .int .i64 x5, .int .i64 x6, .int .i64 x7, .bool b, .int .i64 x9, .int .i64 x10, .int .i64 x11] 39)).cell? ⟨w.heap.size, 5, none⟩ = some (.int .i64 x5) ∧ (w.alloc (.cells #[.int .i64 x0, .int .i64 x1, .int .i64 x2, .int .i64 x3, .int .i64 x4, .int .i64 x5, .int .i64 x6, .int .i64 x7, .bool b, .int .i64 x9, .int .i64 x10, .int .i64 x11] 39)).cell? ⟨w.heap.size, 6, none⟩ = some (.int .i64 x6) ∧ (w.alloc (.cells #[.int .i64 x0, .int .i64 x1, .int .i64 x2, .int .i64 x3, .int .i64 x4, .int .i64 x5, .int .i64 x6, .int .i64 x7, .bool b, .int .i64 x9, .int .i64 x10, .int .i64 x11] 39)).cell? ⟨w.heap.size, 7, none⟩ = some (.int .i64 x7) ∧ (w.alloc (.cells #[.int .i64 x0, .int .i64 x1, .int .i64 x2, .int .i64 x3, .int .i64 x4, .int .i64 x5, .int .i64 x6, .int .i64 x7, .bool b, .int .i64 x9, .int .i64 x10, .int .i64 x11] 39)).cell? ⟨w.heap.size, 8, none⟩ = some (.bool b) ∧ (w.alloc (.cells #[.int .i64 x0, .int .i64 x1, .int .i64 x2, .int .i64 x3, .int .i64 x4, .int .i64 x5, .int .i64 x6, .int .i64 x7, .bool b, .int .i64 x9, .int .i64 x10, .int .i64 x11] 39)).cell? ⟨w.heap.size, 9, none⟩ = some (.int .i64 x9) ∧ (w.alloc (.cells #[.int .i64 x0, .int .i64 x1, .int .i64 x2, .int .i64 x3, .int .i64 x4, .int .i64 x5, .int .i64 x6, .int .i64 x7, .bool b, .int .i64 x9, .int .i64 x10, .int .i64 x11] 39)).cell? ⟨w.heap.size, 10, none⟩ = some (.int .i64 x10) ∧ (w.alloc (.cells #[.int .i64 x0, .int .i64 x1, .int .i64 x2, .int .i64 x3, .int .i64 x4, .int .i64 x5, .int .i64 x6, .int .i64 x7, .bool b, .int .i64 x9, .int .i64 x10, .int .i64 x11] 39)).cell? ⟨w.heap.size, 11, none⟩ = some (.int .i64 x11) := by simp [go_sem]
  have K := hide (rnodes_any x0 x1 x2 x3 x4 x5 x6 x7 b x9 x10 x11 ok.h3)
  have h1 := nd_le ok.h3
  have h2 := mul_le (b := x5) ok.h4 ⟨by have := ok.h5; omega, ok.h5.2⟩
  have HV : Hid (bkV x3 x4 x5 = 1 + ndV x3 + x4 * x5) := hide rfl
  obtain ⟨nd, hnd⟩ : ∃ n, ndV x3 = n := ⟨_, rfl⟩
  rw [hnd] at K h1 HV
  have e1 := w64 (x := 1 + nd) (by omega)
  have e2 := w64 (x := x4 * x5) (by omega)
  have e3 := w64 (x := 1 + nd + x4 * x5) (by omega)
  clear hnd h1 h2 ok
  go_enter Try.func23, Try.ntmps23
  go_upto_region 1 with fail
  generalize (w.alloc (.cells #[.int .i64 x0, .int .i64 x1, .int .i64 x2, .int .i64 x3, .int .i64 x4, .int .i64 x5, .int .i64 x6, .int .i64 x7, .bool b, .int .i64 x9, .int .i64 x10, .int .i64 x11] 39)) = wz at *
  replace H0 := keep12 H0 ((Below.refl _ wz).drew)
  replace hB := hB.drew
  go_region_held3 (fun w' => w'.cell? ⟨w.heap.size, 0, none⟩ = some (.int .i64 x0) ∧ w'.cell? ⟨w.heap.size, 1, none⟩ = some (.int .i64 x1) ∧ w'.cell? ⟨w.heap.size, 2, none⟩ = some (.int .i64 x2) ∧ w'.cell? ⟨w.heap.size, 3, none⟩ = some (.int .i64 x3) ∧ w'.cell? ⟨w.heap.size, 4, none⟩ = some (.int .i64 x4) ∧ w'.cell? ⟨w.heap.size, 5, none⟩ = some (.int .i64 x5) ∧ w'.cell? ⟨w.heap.size, 6, none⟩ = some (.int .i64 x6) ∧ w'.cell? ⟨w.heap.size, 7, none⟩ = some (.int .i64 x7) ∧ w'.cell? ⟨w.heap.size, 8, none⟩ = some (.bool b) ∧ w'.cell? ⟨w.heap.size, 9, none⟩ = some (.int .i64 x9) ∧ w'.cell? ⟨w.heap.size, 10, none⟩ = some (.int .i64 x10) ∧ w'.cell? ⟨w.heap.size, 11, none⟩ = some (.int .i64 x11))
    (exact H0)
    (first
      | (go_at_call 24; refine (K.out _).mono ?_; rintro x v ⟨rfl, hv⟩; replace H0 := keep12 H0 hv; replace hB := below_next hB hB.size hv))
  go_wp2
  go_ret
  exact ⟨ret_i HV.out, hB⟩

set_option maxRecDepth 100000 in
set_option maxHeartbeats 4000000 in
theorem rsize_any (x0 x1 x2 x3 x4 x5 x6 x7 : Int) (b : Bool) (x9 x10 x11 : Int) (ok : CfOk x0 x1 x2 x3 x4 x5 x6 x7 b x9 x10 x11) (w : World) : Calls Try.prog 37 #[.agg #[.int .i64 x0, .int .i64 x1, .int .i64 x2, .int .i64 x3, .int .i64 x4, .int .i64 x5, .int .i64 x6, .int .i64 x7, .bool b, .int .i64 x9, .int .i64 x10, .int .i64 x11]] w (IntPost (sizeV x1 (bkV x3 x4 x5) x0) w) := by
  have hB : Below w.heap.size w (w.alloc (.cells #[.int .i64 x0, .int .i64 x1, .int .i64 x2, .int .i64 x3, .int .i64 x4, .int .i64 x5, .int .i64 x6, .int .i64 x7, .bool b, .int .i64 x9, .int .i64 x10, .int .i64 x11] 39)) := (Below.refl _ _).alloc (Nat.le_refl _) _
  have H0 : (w.alloc (.cells #[.int .i64 x0, .int .i64 x1, .int .i64 x2, .int .i64 x3, .int .i64 x4, .int .i64 x5, .int .i64 x6, .int .i64 x7, .bool b, .int .i64 x9, .int .i64 x10, .int .i64 x11] 39)).cell? ⟨w.heap.size, 0, none⟩ = some (.int .i64 x0) ∧ (w.alloc (.cells #[.int .i64 x0, .int .i64 x1, .int .i64 x2, .int .i64 x3, .int .i64 x4, .int .i64 x5, .int .i64 x6, .int .i64 x7, .bool b, .int .i64 x9, .int .i64 x10, .int .i64 x11] 39)).cell? ⟨w.heap.size, 1, none⟩ = some (.int .i64 x1) ∧ (w.alloc (.cells #[.int .i64 x0, .int .i64 x1, .int .i64 x2, .int .i64 x3, .int .i64 x4, .int .i64 x5, .int .i64 x6, .int .i64 x7, .bool b, .int .i64 x9, .int .i64 x10, .int .i64 x11] 39)).cell? ⟨w.heap.size, 2, none⟩ = some (.int .i64 x2) ∧ (w.alloc (.cells #[.int .i64 x0, .int .i64 x1, .int .i64 x2, .int .i64 x3, .int .i64 x4, .int .i64 x5, .int .i64 x6, .int .i64 x7, .bool b, .int .i64 x9, .int .i64 x10, .int .i64 x11] 39)).cell? ⟨w.heap.size, 3, none⟩ = some (.int .i64 x3) ∧ (w.alloc (.cells #[.int .i64 x0, .int .i64 x1, .int .i64 x2, .int .i64 x3, .int .i64 x4, .int .i64 x5, .int .i64 x6, .int .i64 x7, .bool b, .int .i64 x9, .int .i64 x10, .int .i64 x11] 39)).cell? ⟨w.heap.size, 4, none⟩ = some (.int .i64 x4) ∧ (w.alloc (.cells #[.int .i64 x0, .int .i64 x1, .int .i64 x2, .int .i64 x3, .int .i64 x4, .int .i64 x5, .int .i64 x6, .int .i64 x7, .bool b, .int .i64 x9, .int .i64 x10, .int .i64 x11] 39)).cell? ⟨w.heap.size, 5, none⟩ = some (.int .i64 x5) ∧ (w.alloc (.cells #[.int .i64 x0, .int .i64 x1, .int .i64 x2, .int .i64 x3, .int .i64 x4, .int .i64 x5, .int .i64 x6, .int .i64 x7, .bool b, .int .i64 x9, .int .i64 x10, .int .i64 x11] 39)).cell? ⟨w.heap.size, 6, none⟩ = some (.int .i64 x6) ∧ (w.alloc (.cells #[.int .i64 x0, .int .i64 x1, .int .i64 x2, .int .i64 x3, .int .i64 x4, .int .i64 x5, .int .i64 x6, .int .i64 x7, .bool b, .int .i64 x9, .int .i64 x10, .int .i64 x11] 39)).cell? ⟨w.heap.size, 7, none⟩ = some (.int .i64 x7) ∧ (w.alloc (.cells #[.int .i64 x0, .int .i64 x1, .int .i64 x2, .int .i64 x3, .int .i64 x4, .int .i64 x5, .int .i64 x6, .int .i64 x7, .bool b, .int .i64 x9, .int .i64 x10, .int .i64 x11] 39)).cell? ⟨w.heap.size, 8, none⟩ = some (.bool b) ∧ (w.alloc (.cells #[.int .i64 x0, .int .i64 x1, .int .i64 x2, .int .i64 x3, .int .i64 x4, .int .i64 x5, .int .i64 x6, .int .i64 x7, .bool b, .int .i64 x9, .int .i64 x10, .int .i64 x11] 39)).cell? ⟨w.heap.size, 9, none⟩ = some (.int .i64 x9) ∧ (w.alloc (.cells #[.int .i64 x0, .int .i64 x1, .int .i64 x2, .int .i64 x3, .int .i64 x4, .int .i64 x5, .int .i64 x6, .int .i64 x7, .bool b, .int .i64 x9, .int .i64 x10, .int .i64 x11] 39)).cell? ⟨w.heap.size, 10, none⟩ = some (.int .i64 x10) ∧ (w.alloc (.cells #[.int .i64 x0, .int .i64 x1, .int .i64 x2, .int .i64 x3, .int .i64 x4, .int .i64 x5, .int .i64 x6, .int .i64 x7, .bool b, .int .i64 x9, .int .i64 x10, .int .i64 x11] 39)).cell? ⟨w.heap.size, 11, none⟩ = some (.int .i64 x11) := by simp [go_sem]
  have K := hide (rblock_any x0 x1 x2 x3 x4 x5 x6 x7 b x9 x10 x11 ok)
  have h1 := bk_le ok.h3 ok.h4 ok.h5
  obtain ⟨bk, hbk⟩ : ∃ n, bkV x3 x4 x5 = n := ⟨_, rfl⟩
  rw [hbk] at K h1 ⊢
  have h2 := mul_le (a := x1) (b := bk) ⟨by have := ok.h1; omega, ok.h1.2⟩ ⟨by omega, h1.2⟩
  have h0 := ok.h0
  unfold sizeV
  have e0 := w64 (x := x1 * bk) (by omega)
  have e1 := w64 (x := 2 * x0) (by omega)
  have e2 := w64 (x := x1 * bk + 2 * x0) (by omega)
  clear hbk h1 h2 ok h0
  go_enter Try.func37, Try.ntmps37
  go_upto_region 1 with fail
  generalize (w.alloc (.cells #[.int .i64 x0, .int .i64 x1, .int .i64 x2, .int .i64 x3, .int .i64 x4, .int .i64 x5, .int .i64 x6, .int .i64 x7, .bool b, .int .i64 x9, .int .i64 x10, .int .i64 x11] 39)) = wz at *
  replace H0 := keep12 H0 ((Below.refl _ wz).drew)
  replace hB := hB.drew
  go_region_held3 (fun w' => w'.cell? ⟨w.heap.size, 0, none⟩ = some (.int .i64 x0) ∧ w'.cell? ⟨w.heap.size, 1, none⟩ = some (.int .i64 x1) ∧ w'.cell? ⟨w.heap.size, 2, none⟩ = some (.int .i64 x2) ∧ w'.cell? ⟨w.heap.size, 3, none⟩ = some (.int .i64 x3) ∧ w'.cell? ⟨w.heap.size, 4, none⟩ = some (.int .i64 x4) ∧ w'.cell? ⟨w.heap.size, 5, none⟩ = some (.int .i64 x5) ∧ w'.cell? ⟨w.heap.size, 6, none⟩ = some (.int .i64 x6) ∧ w'.cell? ⟨w.heap.size, 7, none⟩ = some (.int .i64 x7) ∧ w'.cell? ⟨w.heap.size, 8, none⟩ = some (.bool b) ∧ w'.cell? ⟨w.heap.size, 9, none⟩ = some (.int .i64 x9) ∧ w'.cell? ⟨w.heap.size, 10, none⟩ = some (.int .i64 x10) ∧ w'.cell? ⟨w.heap.size, 11, none⟩ = some (.int .i64 x11))
    (exact H0)
    (first
      | (go_at_call 23; refine (K.out _).mono ?_; rintro x v ⟨rfl, hv⟩; replace H0 := keep12 H0 hv; replace hB := below_next hB hB.size hv))
  go_wp2
  go_ret
  exact ⟨rfl, hB⟩

end Go.Proofs.Ytjghdbkkjhnpfaa
/- Contracts of the document's places: Cell, Node, Slot, Line, Result. -/
namespace Go.Proofs.Ytjghdbkkjhnpfaa
open Go.RowKit

set_option linter.unusedVariables false

set_option maxRecDepth 100000 in
set_option maxHeartbeats 4000000 in
theorem rslot_any (x0 x1 x2 x3 x4 x5 x6 x7 : Int) (b : Bool) (x9 x10 x11 : Int) (ok : CfOk x0 x1 x2 x3 x4 x5 x6 x7 b x9 x10 x11) (i : Int) (hi : I64 i) (l : Int) (hl : I64 l) (s : Int) (hs : I64 s) (w : World) : Calls Try.prog 12 #[.agg #[.int .i64 x0, .int .i64 x1, .int .i64 x2, .int .i64 x3, .int .i64 x4, .int .i64 x5, .int .i64 x6, .int .i64 x7, .bool b, .int .i64 x9, .int .i64 x10, .int .i64 x11], .int .i64 i, .int .i64 l, .int .i64 s] w (IntPost (slotV x1 (bkV x3 x4 x5) (ndV x3) x4 x5 i l s) w) := by
  have hB : Below w.heap.size w (w.alloc (.cells #[.int .i64 x0, .int .i64 x1, .int .i64 x2, .int .i64 x3, .int .i64 x4, .int .i64 x5, .int .i64 x6, .int .i64 x7, .bool b, .int .i64 x9, .int .i64 x10, .int .i64 x11] 39)) := (Below.refl _ _).alloc (Nat.le_refl _) _
  have H0 : (w.alloc (.cells #[.int .i64 x0, .int .i64 x1, .int .i64 x2, .int .i64 x3, .int .i64 x4, .int .i64 x5, .int .i64 x6, .int .i64 x7, .bool b, .int .i64 x9, .int .i64 x10, .int .i64 x11] 39)).cell? ⟨w.heap.size, 0, none⟩ = some (.int .i64 x0) ∧ (w.alloc (.cells #[.int .i64 x0, .int .i64 x1, .int .i64 x2, .int .i64 x3, .int .i64 x4, .int .i64 x5, .int .i64 x6, .int .i64 x7, .bool b, .int .i64 x9, .int .i64 x10, .int .i64 x11] 39)).cell? ⟨w.heap.size, 1, none⟩ = some (.int .i64 x1) ∧ (w.alloc (.cells #[.int .i64 x0, .int .i64 x1, .int .i64 x2, .int .i64 x3, .int .i64 x4, .int .i64 x5, .int .i64 x6, .int .i64 x7, .bool b, .int .i64 x9, .int .i64 x10, .int .i64 x11] 39)).cell? ⟨w.heap.size, 2, none⟩ = some (.int .i64 x2) ∧ (w.alloc (.cells #[.int .i64 x0, .int .i64 x1, .int .i64 x2, .int .i64 x3, .int .i64 x4, .int .i64 x5, .int .i64 x6, .int .i64 x7, .bool b, .int .i64 x9, .int .i64 x10, .int .i64 x11] 39)).cell? ⟨w.heap.size, 3, none⟩ = some (.int .i64 x3) ∧ (w.alloc (.cells #[.int .i64 x0, .int .i64 x1, .int .i64 x2, .int .i64 x3, .int .i64 x4, .int .i64 x5, .int .i64 x6, .int .i64 x7, .bool b, .int .i64 x9, .int .i64 x10, .int .i64 x11] 39)).cell? ⟨w.heap.size, 4, none⟩ = some (.int .i64 x4) ∧ (w.alloc (.cells #[.int .i64 x0, .int .i64 x1, .int .i64 x2, .int .i64 x3, .int .i64 x4, .int .i64 x5, .int .i64 x6, .int .i64 x7, .bool b, .int .i64 x9, .int .i64 x10, .int .i64 x11] 39)).cell? ⟨w.heap.size, 5, none⟩ = some (.int .i64 x5) ∧ (w.alloc (.cells #[.int .i64 x0, .int .i64 x1, .int .i64 x2, .int .i64 x3, .int .i64 x4, .int .i64 x5, .int .i64 x6, .int .i64 x7, .bool b, .int .i64 x9, .int .i64 x10, .int .i64 x11] 39)).cell? ⟨w.heap.size, 6, none⟩ = some (.int .i64 x6) ∧ (w.alloc (.cells #[.int .i64 x0, .int .i64 x1, .int .i64 x2, .int .i64 x3, .int .i64 x4, .int .i64 x5, .int .i64 x6, .int .i64 x7, .bool b, .int .i64 x9, .int .i64 x10, .int .i64 x11] 39)).cell? ⟨w.heap.size, 7, none⟩ = some (.int .i64 x7) ∧ (w.alloc (.cells #[.int .i64 x0, .int .i64 x1, .int .i64 x2, .int .i64 x3, .int .i64 x4, .int .i64 x5, .int .i64 x6, .int .i64 x7, .bool b, .int .i64 x9, .int .i64 x10, .int .i64 x11] 39)).cell? ⟨w.heap.size, 8, none⟩ = some (.bool b) ∧ (w.alloc (.cells #[.int .i64 x0, .int .i64 x1, .int .i64 x2, .int .i64 x3, .int .i64 x4, .int .i64 x5, .int .i64 x6, .int .i64 x7, .bool b, .int .i64 x9, .int .i64 x10, .int .i64 x11] 39)).cell? ⟨w.heap.size, 9, none⟩ = some (.int .i64 x9) ∧ (w.alloc (.cells #[.int .i64 x0, .int .i64 x1, .int .i64 x2, .int .i64 x3, .int .i64 x4, .int .i64 x5, .int .i64 x6, .int .i64 x7, .bool b, .int .i64 x9, .int .i64 x10, .int .i64 x11] 39)).cell? ⟨w.heap.size, 10, none⟩ = some (.int .i64 x10) ∧ (w.alloc (.cells #[.int .i64 x0, .int .i64 x1, .int .i64 x2, .int .i64 x3, .int .i64 x4, .int .i64 x5, .int .i64 x6, .int .i64 x7, .bool b, .int .i64 x9, .int .i64 x10, .int .i64 x11] 39)).cell? ⟨w.heap.size, 11, none⟩ = some (.int .i64 x11) := by simp [go_sem]
  have KN := hide (rnodes_any x0 x1 x2 x3 x4 x5 x6 x7 b x9 x10 x11 ok.h3)
  have KB := hide (rblock_any x0 x1 x2 x3 x4 x5 x6 x7 b x9 x10 x11 ok)
  have b1 := bk_le ok.h3 ok.h4 ok.h5
  have b2 := nd_le ok.h3
  have o0 := ok.h0
  have o1 := ok.h1
  have o4 := ok.h4
  have o5 := ok.h5
  obtain ⟨bk, hbk⟩ : ∃ n, bkV x3 x4 x5 = n := ⟨_, rfl⟩
  rw [hbk] at KB b1 ⊢
  obtain ⟨nd, hnd⟩ : ∃ n, ndV x3 = n := ⟨_, rfl⟩
  rw [hnd] at KN b2 ⊢
  clear hbk hnd ok hi hl hs
  by_cases t0 : i < 0
  · have HV : Hid (slotV x1 bk nd x4 x5 i l s = -1) := hide (by rw [slotV, if_neg (by omega)])
    rw [HV.out]
    clear HV KB b1
    clear KN
    go_enter Try.func12, Try.ntmps12
    go_wp2
    go_ret
    exact ⟨rfl, hB⟩
  by_cases t1 : x1 ≤ i
  · have HV : Hid (slotV x1 bk nd x4 x5 i l s = -1) := hide (by rw [slotV, if_neg (by omega)])
    rw [HV.out]
    clear HV KB b1
    clear KN
    go_enter Try.func12, Try.ntmps12
    go_wp2
    go_ret
    exact ⟨rfl, hB⟩
  by_cases t2 : l < 1
  · have HV : Hid (slotV x1 bk nd x4 x5 i l s = -1) := hide (by rw [slotV, if_neg (by omega)])
    rw [HV.out]
    clear HV KB b1
    clear KN
    go_enter Try.func12, Try.ntmps12
    go_wp2
    go_ret
    exact ⟨rfl, hB⟩
  by_cases t3 : x4 < l
  · have HV : Hid (slotV x1 bk nd x4 x5 i l s = -1) := hide (by rw [slotV, if_neg (by omega)])
    rw [HV.out]
    clear HV KB b1
    clear KN
    go_enter Try.func12, Try.ntmps12
    go_wp2
    go_ret
    exact ⟨rfl, hB⟩
  by_cases t4 : s < 0
  · have HV : Hid (slotV x1 bk nd x4 x5 i l s = -1) := hide (by rw [slotV, if_neg (by omega)])
    rw [HV.out]
    clear HV KB b1
    clear KN
    go_enter Try.func12, Try.ntmps12
    go_wp2
    go_ret
    exact ⟨rfl, hB⟩
  by_cases t5 : x5 ≤ s
  · have HV : Hid (slotV x1 bk nd x4 x5 i l s = -1) := hide (by rw [slotV, if_neg (by omega)])
    rw [HV.out]
    clear HV KB b1
    clear KN
    go_enter Try.func12, Try.ntmps12
    go_wp2
    go_ret
    exact ⟨rfl, hB⟩
  have m1 := mul_le (a := i) (b := bk) (p := 4) (q := 40) (by omega) (by omega)
  have m2 := mul_le (a := l - 1) (b := x5) (p := 4) (q := 8) (by omega) (by omega)
  have HV : Hid (slotV x1 bk nd x4 x5 i l s = i * bk + 1 + nd + (l - 1) * x5 + s) := hide (by rw [slotV, if_pos (by omega)])
  rw [HV.out]
  clear HV
  have e1 := w64 (x := i * bk) (by omega)
  have e2 := w64 (x := i * bk + 1) (by omega)
  have e3 := w64 (x := i * bk + 1 + nd) (by omega)
  have e4 := w64 (x := l - 1) (by omega)
  have e5 := w64 (x := (l - 1) * x5) (by omega)
  have e6 := w64 (x := i * bk + 1 + nd + (l - 1) * x5) (by omega)
  have e7 := w64 (x := i * bk + 1 + nd + (l - 1) * x5 + s) (by omega)
  clear m1 m2 b1 b2 o0 o1 o4 o5
  go_enter Try.func12, Try.ntmps12
  go_upto_region 3 with fail
  generalize (w.alloc (.cells #[.int .i64 x0, .int .i64 x1, .int .i64 x2, .int .i64 x3, .int .i64 x4, .int .i64 x5, .int .i64 x6, .int .i64 x7, .bool b, .int .i64 x9, .int .i64 x10, .int .i64 x11] 39)) = wz at *
  replace H0 := keep12 H0 ((Below.refl _ wz).drew)
  replace hB := hB.drew
  go_region_held3 (fun w' => w'.cell? ⟨w.heap.size, 0, none⟩ = some (.int .i64 x0) ∧ w'.cell? ⟨w.heap.size, 1, none⟩ = some (.int .i64 x1) ∧ w'.cell? ⟨w.heap.size, 2, none⟩ = some (.int .i64 x2) ∧ w'.cell? ⟨w.heap.size, 3, none⟩ = some (.int .i64 x3) ∧ w'.cell? ⟨w.heap.size, 4, none⟩ = some (.int .i64 x4) ∧ w'.cell? ⟨w.heap.size, 5, none⟩ = some (.int .i64 x5) ∧ w'.cell? ⟨w.heap.size, 6, none⟩ = some (.int .i64 x6) ∧ w'.cell? ⟨w.heap.size, 7, none⟩ = some (.int .i64 x7) ∧ w'.cell? ⟨w.heap.size, 8, none⟩ = some (.bool b) ∧ w'.cell? ⟨w.heap.size, 9, none⟩ = some (.int .i64 x9) ∧ w'.cell? ⟨w.heap.size, 10, none⟩ = some (.int .i64 x10) ∧ w'.cell? ⟨w.heap.size, 11, none⟩ = some (.int .i64 x11))
    (exact H0)
    (first
      | (go_at_call 23; refine (KB.out _).mono ?_; rintro x v ⟨rfl, hv⟩; replace H0 := keep12 H0 hv; replace hB := below_next hB hB.size hv)
      | (go_at_call 24; refine (KN.out _).mono ?_; rintro x v ⟨rfl, hv⟩; replace H0 := keep12 H0 hv; replace hB := below_next hB hB.size hv))
  go_wp2
  go_ret
  exact ⟨rfl, hB⟩

set_option maxRecDepth 100000 in
set_option maxHeartbeats 4000000 in
theorem rline_any (x0 x1 x2 x3 x4 x5 x6 x7 : Int) (b : Bool) (x9 x10 x11 : Int) (ok : CfOk x0 x1 x2 x3 x4 x5 x6 x7 b x9 x10 x11) (t : Int) (ht : I64 t) (w : World) : Calls Try.prog 14 #[.agg #[.int .i64 x0, .int .i64 x1, .int .i64 x2, .int .i64 x3, .int .i64 x4, .int .i64 x5, .int .i64 x6, .int .i64 x7, .bool b, .int .i64 x9, .int .i64 x10, .int .i64 x11], .int .i64 t] w (IntPost (lineV x1 (bkV x3 x4 x5) x0 t) w) := by
  have hB : Below w.heap.size w (w.alloc (.cells #[.int .i64 x0, .int .i64 x1, .int .i64 x2, .int .i64 x3, .int .i64 x4, .int .i64 x5, .int .i64 x6, .int .i64 x7, .bool b, .int .i64 x9, .int .i64 x10, .int .i64 x11] 39)) := (Below.refl _ _).alloc (Nat.le_refl _) _
  have H0 : (w.alloc (.cells #[.int .i64 x0, .int .i64 x1, .int .i64 x2, .int .i64 x3, .int .i64 x4, .int .i64 x5, .int .i64 x6, .int .i64 x7, .bool b, .int .i64 x9, .int .i64 x10, .int .i64 x11] 39)).cell? ⟨w.heap.size, 0, none⟩ = some (.int .i64 x0) ∧ (w.alloc (.cells #[.int .i64 x0, .int .i64 x1, .int .i64 x2, .int .i64 x3, .int .i64 x4, .int .i64 x5, .int .i64 x6, .int .i64 x7, .bool b, .int .i64 x9, .int .i64 x10, .int .i64 x11] 39)).cell? ⟨w.heap.size, 1, none⟩ = some (.int .i64 x1) ∧ (w.alloc (.cells #[.int .i64 x0, .int .i64 x1, .int .i64 x2, .int .i64 x3, .int .i64 x4, .int .i64 x5, .int .i64 x6, .int .i64 x7, .bool b, .int .i64 x9, .int .i64 x10, .int .i64 x11] 39)).cell? ⟨w.heap.size, 2, none⟩ = some (.int .i64 x2) ∧ (w.alloc (.cells #[.int .i64 x0, .int .i64 x1, .int .i64 x2, .int .i64 x3, .int .i64 x4, .int .i64 x5, .int .i64 x6, .int .i64 x7, .bool b, .int .i64 x9, .int .i64 x10, .int .i64 x11] 39)).cell? ⟨w.heap.size, 3, none⟩ = some (.int .i64 x3) ∧ (w.alloc (.cells #[.int .i64 x0, .int .i64 x1, .int .i64 x2, .int .i64 x3, .int .i64 x4, .int .i64 x5, .int .i64 x6, .int .i64 x7, .bool b, .int .i64 x9, .int .i64 x10, .int .i64 x11] 39)).cell? ⟨w.heap.size, 4, none⟩ = some (.int .i64 x4) ∧ (w.alloc (.cells #[.int .i64 x0, .int .i64 x1, .int .i64 x2, .int .i64 x3, .int .i64 x4, .int .i64 x5, .int .i64 x6, .int .i64 x7, .bool b, .int .i64 x9, .int .i64 x10, .int .i64 x11] 39)).cell? ⟨w.heap.size, 5, none⟩ = some (.int .i64 x5) ∧ (w.alloc (.cells #[.int .i64 x0, .int .i64 x1, .int .i64 x2, .int .i64 x3, .int .i64 x4, .int .i64 x5, .int .i64 x6, .int .i64 x7, .bool b, .int .i64 x9, .int .i64 x10, .int .i64 x11] 39)).cell? ⟨w.heap.size, 6, none⟩ = some (.int .i64 x6) ∧ (w.alloc (.cells #[.int .i64 x0, .int .i64 x1, .int .i64 x2, .int .i64 x3, .int .i64 x4, .int .i64 x5, .int .i64 x6, .int .i64 x7, .bool b, .int .i64 x9, .int .i64 x10, .int .i64 x11] 39)).cell? ⟨w.heap.size, 7, none⟩ = some (.int .i64 x7) ∧ (w.alloc (.cells #[.int .i64 x0, .int .i64 x1, .int .i64 x2, .int .i64 x3, .int .i64 x4, .int .i64 x5, .int .i64 x6, .int .i64 x7, .bool b, .int .i64 x9, .int .i64 x10, .int .i64 x11] 39)).cell? ⟨w.heap.size, 8, none⟩ = some (.bool b) ∧ (w.alloc (.cells #[.int .i64 x0, .int .i64 x1, .int .i64 x2, .int .i64 x3, .int .i64 x4, .int .i64 x5, .int .i64 x6, .int .i64 x7, .bool b, .int .i64 x9, .int .i64 x10, .int .i64 x11] 39)).cell? ⟨w.heap.size, 9, none⟩ = some (.int .i64 x9) ∧ (w.alloc (.cells #[.int .i64 x0, .int .i64 x1, .int .i64 x2, .int .i64 x3, .int .i64 x4, .int .i64 x5, .int .i64 x6, .int .i64 x7, .bool b, .int .i64 x9, .int .i64 x10, .int .i64 x11] 39)).cell? ⟨w.heap.size, 10, none⟩ = some (.int .i64 x10) ∧ (w.alloc (.cells #[.int .i64 x0, .int .i64 x1, .int .i64 x2, .int .i64 x3, .int .i64 x4, .int .i64 x5, .int .i64 x6, .int .i64 x7, .bool b, .int .i64 x9, .int .i64 x10, .int .i64 x11] 39)).cell? ⟨w.heap.size, 11, none⟩ = some (.int .i64 x11) := by simp [go_sem]
  have KN := hide (rnodes_any x0 x1 x2 x3 x4 x5 x6 x7 b x9 x10 x11 ok.h3)
  have KB := hide (rblock_any x0 x1 x2 x3 x4 x5 x6 x7 b x9 x10 x11 ok)
  have b1 := bk_le ok.h3 ok.h4 ok.h5
  have b2 := nd_le ok.h3
  have o0 := ok.h0
  have o1 := ok.h1
  have o4 := ok.h4
  have o5 := ok.h5
  obtain ⟨bk, hbk⟩ : ∃ n, bkV x3 x4 x5 = n := ⟨_, rfl⟩
  rw [hbk] at KB b1 ⊢
  obtain ⟨nd, hnd⟩ : ∃ n, ndV x3 = n := ⟨_, rfl⟩
  rw [hnd] at KN b2
  clear hbk hnd ok ht
  by_cases t0 : t < 0
  · have HV : Hid (lineV x1 bk x0 t = -1) := hide (by rw [lineV, if_neg (by omega)])
    rw [HV.out]
    clear HV KB b1
    clear KN
    go_enter Try.func14, Try.ntmps14
    go_wp2
    go_ret
    exact ⟨rfl, hB⟩
  by_cases t1 : x0 ≤ t
  · have HV : Hid (lineV x1 bk x0 t = -1) := hide (by rw [lineV, if_neg (by omega)])
    rw [HV.out]
    clear HV KB b1
    clear KN
    go_enter Try.func14, Try.ntmps14
    go_wp2
    go_ret
    exact ⟨rfl, hB⟩
  have m1 := mul_le (a := x1) (b := bk) (p := 4) (q := 40) (by omega) (by omega)
  have HV : Hid (lineV x1 bk x0 t = x1 * bk + 2 * t) := hide (by rw [lineV, if_pos (by omega)])
  rw [HV.out]
  clear HV
  have e1 := w64 (x := x1 * bk) (by omega)
  have e2 := w64 (x := 2 * t) (by omega)
  have e3 := w64 (x := x1 * bk + 2 * t) (by omega)
  clear m1 b1 b2 o0 o1 o4 o5
  go_enter Try.func14, Try.ntmps14
  go_upto_region 3 with fail
  generalize (w.alloc (.cells #[.int .i64 x0, .int .i64 x1, .int .i64 x2, .int .i64 x3, .int .i64 x4, .int .i64 x5, .int .i64 x6, .int .i64 x7, .bool b, .int .i64 x9, .int .i64 x10, .int .i64 x11] 39)) = wz at *
  replace H0 := keep12 H0 ((Below.refl _ wz).drew)
  replace hB := hB.drew
  go_region_held3 (fun w' => w'.cell? ⟨w.heap.size, 0, none⟩ = some (.int .i64 x0) ∧ w'.cell? ⟨w.heap.size, 1, none⟩ = some (.int .i64 x1) ∧ w'.cell? ⟨w.heap.size, 2, none⟩ = some (.int .i64 x2) ∧ w'.cell? ⟨w.heap.size, 3, none⟩ = some (.int .i64 x3) ∧ w'.cell? ⟨w.heap.size, 4, none⟩ = some (.int .i64 x4) ∧ w'.cell? ⟨w.heap.size, 5, none⟩ = some (.int .i64 x5) ∧ w'.cell? ⟨w.heap.size, 6, none⟩ = some (.int .i64 x6) ∧ w'.cell? ⟨w.heap.size, 7, none⟩ = some (.int .i64 x7) ∧ w'.cell? ⟨w.heap.size, 8, none⟩ = some (.bool b) ∧ w'.cell? ⟨w.heap.size, 9, none⟩ = some (.int .i64 x9) ∧ w'.cell? ⟨w.heap.size, 10, none⟩ = some (.int .i64 x10) ∧ w'.cell? ⟨w.heap.size, 11, none⟩ = some (.int .i64 x11))
    (exact H0)
    (first
      | (go_at_call 23; refine (KB.out _).mono ?_; rintro x v ⟨rfl, hv⟩; replace H0 := keep12 H0 hv; replace hB := below_next hB hB.size hv))
  go_wp2
  go_ret
  exact ⟨rfl, hB⟩

end Go.Proofs.Ytjghdbkkjhnpfaa
/- A memory that is filled cell by cell: how it lies. -/
namespace Go.Proofs.Ytjghdbkkjhnpfaa
open Go.RowKit

set_option linter.unusedVariables false
/-- The words when the first cells have their beginning. -/
def bdW (ws : List Int) (it bk v : Int) : Nat → List Int
  | 0 => ws
  | j + 1 => stV (bdW ws it bk v j) (cellV it bk (j : Int)) v
theorem bdW_length (ws : List Int) (it bk v : Int) (j : Nat) : (bdW ws it bk v j).length = ws.length := by
  induction j with
  | zero => rfl
  | succ j ih => rw [bdW, stV_length, ih]

theorem far2 {w : World} {g k : Nat} {ua ub : Value} {x0 x1 x2 x3 x4 x5 x6 x7 : Int} {b : Bool} {x9 x10 x11 : Int} (h : w.cell? ⟨g, 0, none⟩ = some (.int .i64 x0) ∧ w.cell? ⟨g, 1, none⟩ = some (.int .i64 x1) ∧ w.cell? ⟨g, 2, none⟩ = some (.int .i64 x2) ∧ w.cell? ⟨g, 3, none⟩ = some (.int .i64 x3) ∧ w.cell? ⟨g, 4, none⟩ = some (.int .i64 x4) ∧ w.cell? ⟨g, 5, none⟩ = some (.int .i64 x5) ∧ w.cell? ⟨g, 6, none⟩ = some (.int .i64 x6) ∧ w.cell? ⟨g, 7, none⟩ = some (.int .i64 x7) ∧ w.cell? ⟨g, 8, none⟩ = some (.bool b) ∧ w.cell? ⟨g, 9, none⟩ = some (.int .i64 x9) ∧ w.cell? ⟨g, 10, none⟩ = some (.int .i64 x10) ∧ w.cell? ⟨g, 11, none⟩ = some (.int .i64 x11)) (hk : g ≠ k) : ((w.setCell ⟨k, 0, none⟩ ua).setCell ⟨k, 1, none⟩ ub).cell? ⟨g, 0, none⟩ = some (.int .i64 x0) ∧ ((w.setCell ⟨k, 0, none⟩ ua).setCell ⟨k, 1, none⟩ ub).cell? ⟨g, 1, none⟩ = some (.int .i64 x1) ∧ ((w.setCell ⟨k, 0, none⟩ ua).setCell ⟨k, 1, none⟩ ub).cell? ⟨g, 2, none⟩ = some (.int .i64 x2) ∧ ((w.setCell ⟨k, 0, none⟩ ua).setCell ⟨k, 1, none⟩ ub).cell? ⟨g, 3, none⟩ = some (.int .i64 x3) ∧ ((w.setCell ⟨k, 0, none⟩ ua).setCell ⟨k, 1, none⟩ ub).cell? ⟨g, 4, none⟩ = some (.int .i64 x4) ∧ ((w.setCell ⟨k, 0, none⟩ ua).setCell ⟨k, 1, none⟩ ub).cell? ⟨g, 5, none⟩ = some (.int .i64 x5) ∧ ((w.setCell ⟨k, 0, none⟩ ua).setCell ⟨k, 1, none⟩ ub).cell? ⟨g, 6, none⟩ = some (.int .i64 x6) ∧ ((w.setCell ⟨k, 0, none⟩ ua).setCell ⟨k, 1, none⟩ ub).cell? ⟨g, 7, none⟩ = some (.int .i64 x7) ∧ ((w.setCell ⟨k, 0, none⟩ ua).setCell ⟨k, 1, none⟩ ub).cell? ⟨g, 8, none⟩ = some (.bool b) ∧ ((w.setCell ⟨k, 0, none⟩ ua).setCell ⟨k, 1, none⟩ ub).cell? ⟨g, 9, none⟩ = some (.int .i64 x9) ∧ ((w.setCell ⟨k, 0, none⟩ ua).setCell ⟨k, 1, none⟩ ub).cell? ⟨g, 10, none⟩ = some (.int .i64 x10) ∧ ((w.setCell ⟨k, 0, none⟩ ua).setCell ⟨k, 1, none⟩ ub).cell? ⟨g, 11, none⟩ = some (.int .i64 x11) := by
  have key : ∀ (i : Nat) (v : Value), w.cell? ⟨g, i, none⟩ = some v → ((w.setCell ⟨k, 0, none⟩ ua).setCell ⟨k, 1, none⟩ ub).cell? ⟨g, i, none⟩ = some v := fun i v hv => by
    rw [World.cell?_setCell_other _ _ _ _ (by intro h3; rw [Addr.mk.injEq] at h3; omega), World.cell?_setCell_other _ _ _ _ (by intro h3; rw [Addr.mk.injEq] at h3; omega)]; exact hv
  obtain ⟨h0, h1, h2, h3, h4, h5, h6, h7, h8, h9, h10, h11⟩ := h
  exact ⟨key _ _ h0, key _ _ h1, key _ _ h2, key _ _ h3, key _ _ h4, key _ _ h5, key _ _ h6, key _ _ h7, key _ _ h8, key _ _ h9, key _ _ h10, key _ _ h11⟩

/-- H the box of the config, H + 1 that of the answer, k that of the memory. -/
structure BdAt (H k : Nat) (w wr : World) (A B : Option Addr) (ws : List Int) (bs : List Bt) (c d : Nat) : Prop where
  m0 : wr.cell? ⟨k, 0, none⟩ = some (.slice A ws.length c)
  m1 : wr.cell? ⟨k, 1, none⟩ = some (.slice B bs.length d)
  g0 : wr.frozen? ⟨k, 0, none⟩ = false
  g1 : wr.frozen? ⟨k, 1, none⟩ = false
  r0 : wr.cell? ⟨H + 1, 0, none⟩ = some (.slice none 0 0)
  r1 : wr.cell? ⟨H + 1, 1, none⟩ = some (.slice none 0 0)
  f0 : wr.frozen? ⟨H + 1, 0, none⟩ = false
  f1 : wr.frozen? ⟨H + 1, 1, none⟩ = false
  mem : MemOk wr A ws B bs
  emp : ∀ q ∈ bs, q.l = []
  aA : ∀ p, A = some p → H + 1 + 1 ≤ p.block ∧ p.block ≠ k
  aB : ∀ p, B = some p → H + 1 + 1 ≤ p.block ∧ p.block ≠ k
  bel : Below H w wr
  hk : H + 1 + 1 ≤ k
  kz : k < wr.heap.size

theorem mem_far {w : World} {A B : Option Addr} {ws : List Int} {bs : List Bt} {k : Nat} (h : MemOk w A ws B bs) (emp : ∀ q ∈ bs, q.l = []) (hA : ∀ p, A = some p → p.block ≠ k) (hB : ∀ p, B = some p → p.block ≠ k) (a b : Value) : MemOk ((w.setCell ⟨k, 0, none⟩ a).setCell ⟨k, 1, none⟩ b) A ws B bs :=
  ⟨⟨((h.words.far k 0 a hA).far k 1 b hA).up (by simp), ((h.bxs.far k 0 a hB).far k 1 b hB).up (by simp), fun q hq => by
    show Sees _ _ 3 q.A q.l.length (ecells q.l)
    rw [emp q hq]
    exact Sees.empty⟩, h.few, h.fewb, h.short⟩

/-- What is asked of the boxes' cells ahead of it. -/
structure BdPre (H k : Nat) (w wr : World) : Prop where
  m0 : ∃ u, wr.cell? ⟨k, 0, none⟩ = some u
  m1 : ∃ u, wr.cell? ⟨k, 1, none⟩ = some u
  g0 : wr.frozen? ⟨k, 0, none⟩ = false
  g1 : wr.frozen? ⟨k, 1, none⟩ = false
  r0 : wr.cell? ⟨H + 1, 0, none⟩ = some (.slice none 0 0)
  r1 : wr.cell? ⟨H + 1, 1, none⟩ = some (.slice none 0 0)
  f0 : wr.frozen? ⟨H + 1, 0, none⟩ = false
  f1 : wr.frozen? ⟨H + 1, 1, none⟩ = false
  bel : Below H w wr
  hk : H + 1 + 1 ≤ k
  kz : k < wr.heap.size
theorem BdPre.later {H k : Nat} {w wr w' : World} (h : BdPre H k w wr) (hb : Below wr.heap.size wr w') : BdPre H k w w' := by
  obtain ⟨⟨u, m0⟩, ⟨v, m1⟩, g0, g1, r0, r1, f0, f1, bel, hk, kz⟩ := h
  have := hb.size
  exact ⟨⟨u, cell_keep m0 hb⟩, ⟨v, cell_keep m1 hb⟩, frozen_keep hb kz g0, frozen_keep hb kz g1, cell_keep r0 hb, cell_keep r1 hb, frozen_keep hb (by omega) f0, frozen_keep hb (by omega) f1, below_next bel (by omega) hb, hk, by omega⟩
theorem BdPre.set {H k : Nat} {w wr : World} {A B : Option Addr} {ws : List Int} {bs : List Bt} {c d : Nat} (h : BdPre H k w wr) (mem : MemOk wr A ws B bs) (emp : ∀ q ∈ bs, q.l = [])
    (aA : ∀ p, A = some p → H + 1 + 1 ≤ p.block ∧ p.block ≠ k) (aB : ∀ p, B = some p → H + 1 + 1 ≤ p.block ∧ p.block ≠ k) :
    BdAt H k w ((wr.setCell ⟨k, 0, none⟩ (.slice A ws.length c)).setCell ⟨k, 1, none⟩ (.slice B bs.length d)) A B ws bs c d := by
  obtain ⟨⟨u, m0⟩, ⟨v, m1⟩, g0, g1, r0, r1, f0, f1, bel, hk, kz⟩ := h
  have m1' : (wr.setCell ⟨k, 0, none⟩ (.slice A ws.length c)).cell? ⟨k, 1, none⟩ = some v := by
    rw [World.cell?_setCell_other _ _ _ _ (by intro h3; rw [Addr.mk.injEq] at h3; omega)]; exact m1
  have far : ∀ (i : Nat) (x : Value), wr.cell? ⟨H + 1, i, none⟩ = some x → ((wr.setCell ⟨k, 0, none⟩ (.slice A ws.length c)).setCell ⟨k, 1, none⟩ (.slice B bs.length d)).cell? ⟨H + 1, i, none⟩ = some x := fun i x e => by
    rw [World.cell?_setCell_other _ _ _ _ (by intro h3; rw [Addr.mk.injEq] at h3; omega), World.cell?_setCell_other _ _ _ _ (by intro h3; rw [Addr.mk.injEq] at h3; omega)]; exact e
  refine ⟨?_, World.cell?_setCell_same _ _ _ m1', by rw [World.frozen?_setCell, World.frozen?_setCell]; exact g0, by rw [World.frozen?_setCell, World.frozen?_setCell]; exact g1, far _ _ r0, far _ _ r1,
    by rw [World.frozen?_setCell, World.frozen?_setCell]; exact f0, by rw [World.frozen?_setCell, World.frozen?_setCell]; exact f1, mem_far mem emp (fun p hp => (aA p hp).2) (fun p hp => (aB p hp).2) _ _, emp, aA, aB,
    (bel.setCell (by show H ≤ k; omega) _).setCell (by show H ≤ k; omega) _, hk, by simpa using kz⟩
  rw [World.cell?_setCell_other _ _ _ _ (by intro h3; rw [Addr.mk.injEq] at h3; omega)]
  exact World.cell?_setCell_same _ _ _ m0
theorem BdAt.pre {H k : Nat} {w wr : World} {A B : Option Addr} {ws : List Int} {bs : List Bt} {c d : Nat} (h : BdAt H k w wr A B ws bs c d) : BdPre H k w wr :=
  ⟨⟨_, h.m0⟩, ⟨_, h.m1⟩, h.g0, h.g1, h.r0, h.r1, h.f0, h.f1, h.bel, h.hk, h.kz⟩

/-- A word is stored. -/
theorem BdAt.step {H k : Nat} {w wr w1 w2 : World} {A B A' : Option Addr} {ws ws' : List Int} {bs : List Bt} {c d c' : Nat} (h : BdAt H k w wr A B ws bs c d) (hb1 : Below wr.heap.size wr w1) (hb2 : Below w1.heap.size w1 w2)
    (hs : Sees w2 w2.heap.size 1 A' ws'.length (ws'.map (Value.int .i64))) (hor : A' = A ∨ Fresh w1 A') (hl : ws'.length = ws.length) :
    BdAt H k w ((w2.setCell ⟨k, 0, none⟩ (.slice A' ws'.length c')).setCell ⟨k, 1, none⟩ (.slice B bs.length d)) A' B ws' bs c' d := by
  have z1 := hb1.size
  have z2 := h.kz
  have z3 := h.hk
  refine ((h.pre.later hb1).later hb2).set ((h.mem.later hb1).words_at hb2 hs hl) h.emp (fun p hp => ?_) h.aB
  rcases hor with rfl | hf
  · exact h.aA p hp
  · have := hf p hp; omega
/-- It is handed back. -/
theorem BdAt.fin {k : Nat} {w wr : World} {A B : Option Addr} {ws : List Int} {bs : List Bt} {c d : Nat} {bx : List (List E3)} (h : BdAt w.heap.size k w wr A B ws bs c d) (hbx : boxes bs = bx) :
    MFPost ws bx w (.returned (.agg #[.slice A ws.length c, .slice B bs.length d])) ((wr.setCell ⟨w.heap.size + 1, 0, none⟩ (.slice A ws.length c)).setCell ⟨w.heap.size + 1, 1, none⟩ (.slice B bs.length d)) :=
  ⟨A, c, B, d, bs, rfl, hbx, mem_far h.mem h.emp (fun p hp => by have := (h.aA p hp).1; omega) (fun p hp => by have := (h.aB p hp).1; omega) _ _, fun p hp => by have := (h.aA p hp).1; omega, fun p hp => by have := (h.aB p hp).1; omega,
    (h.bel.setCell (by show w.heap.size ≤ w.heap.size + 1; omega) _).setCell (by show w.heap.size ≤ w.heap.size + 1; omega) _⟩
theorem emp_of {bs : List Bt} {n : Nat} (h : boxes bs = List.replicate n []) : ∀ q ∈ bs, q.l = [] := fun q hq => by
  have : q.l ∈ boxes bs := List.mem_map.2 ⟨q, hq, rfl⟩
  rw [h] at this
  exact List.eq_of_mem_replicate this
theorem below_lt {H k : Nat} {w : World} {A : Option Addr} (h : Fresh w A) (hH : H + 1 + 1 ≤ w.heap.size) (hk : k < w.heap.size) : ∀ p, A = some p → H + 1 + 1 ≤ p.block ∧ p.block ≠ k := fun p hp => by
  have := h p hp; omega
theorem bd_late {H : Nat} {v1 v2 : World} {A : Option Addr} (h : Fresh v1 A) (hH : H + 1 + 1 ≤ v1.heap.size) (hlt : ∀ p, A = some p → p.block < v2.heap.size) : ∀ p, A = some p → H + 1 + 1 ≤ p.block ∧ p.block ≠ v2.heap.size := fun p hp => by
  have := h p hp; have := hlt p hp; omega
theorem cnt_pos {x : Int} (h : 1 ≤ x ∧ x ≤ 10000) : 0 < cntV x := by unfold cntV; rw [if_pos h]; omega
theorem MemOk.lt_words {w : World} {A B : Option Addr} {ws : List Int} {bs : List Bt} (h : MemOk w A ws B bs) (hn : 0 < ws.length) : ∀ p, A = some p → p.block < w.heap.size := h.words.block_lt hn

end Go.Proofs.Ytjghdbkkjhnpfaa
/- The contract of the program's Build. -/
namespace Go.Proofs.Ytjghdbkkjhnpfaa
open Go.RowKit

set_option linter.unusedVariables false

set_option maxRecDepth 100000 in
set_option maxHeartbeats 4000000 in
theorem build_any (x0 x1 x2 x3 x4 x5 x6 x7 : Int) (b : Bool) (x9 x10 x11 : Int) (ok : CfOk x0 x1 x2 x3 x4 x5 x6 x7 b x9 x10 x11) (w : World) : Calls Try.prog 22 #[.agg #[.int .i64 x0, .int .i64 x1, .int .i64 x2, .int .i64 x3, .int .i64 x4, .int .i64 x5, .int .i64 x6, .int .i64 x7, .bool b, .int .i64 x9, .int .i64 x10, .int .i64 x11]] w (MFPost (bdW (List.replicate (cntV (sizeV x1 (bkV x3 x4 x5) x0)) 0) x1 (bkV x3 x4 x5) x11 x1.toNat) (List.replicate (cntV x0) []) w) := by
  have hB : Below w.heap.size w ((w.alloc (.cells #[.int .i64 x0, .int .i64 x1, .int .i64 x2, .int .i64 x3, .int .i64 x4, .int .i64 x5, .int .i64 x6, .int .i64 x7, .bool b, .int .i64 x9, .int .i64 x10, .int .i64 x11] 23)).alloc (.cells #[.slice none 0 0, .slice none 0 0] 27)) := ((Below.refl _ _).alloc (Nat.le_refl _) _).alloc (by simp) _
  have H0 : ((w.alloc (.cells #[.int .i64 x0, .int .i64 x1, .int .i64 x2, .int .i64 x3, .int .i64 x4, .int .i64 x5, .int .i64 x6, .int .i64 x7, .bool b, .int .i64 x9, .int .i64 x10, .int .i64 x11] 23)).alloc (.cells #[.slice none 0 0, .slice none 0 0] 27)).cell? ⟨w.heap.size, 0, none⟩ = some (.int .i64 x0) ∧ ((w.alloc (.cells #[.int .i64 x0, .int .i64 x1, .int .i64 x2, .int .i64 x3, .int .i64 x4, .int .i64 x5, .int .i64 x6, .int .i64 x7, .bool b, .int .i64 x9, .int .i64 x10, .int .i64 x11] 23)).alloc (.cells #[.slice none 0 0, .slice none 0 0] 27)).cell? ⟨w.heap.size, 1, none⟩ = some (.int .i64 x1) ∧ ((w.alloc (.cells #[.int .i64 x0, .int .i64 x1, .int .i64 x2, .int .i64 x3, .int .i64 x4, .int .i64 x5, .int .i64 x6, .int .i64 x7, .bool b, .int .i64 x9, .int .i64 x10, .int .i64 x11] 23)).alloc (.cells #[.slice none 0 0, .slice none 0 0] 27)).cell? ⟨w.heap.size, 2, none⟩ = some (.int .i64 x2) ∧ ((w.alloc (.cells #[.int .i64 x0, .int .i64 x1, .int .i64 x2, .int .i64 x3, .int .i64 x4, .int .i64 x5, .int .i64 x6, .int .i64 x7, .bool b, .int .i64 x9, .int .i64 x10, .int .i64 x11] 23)).alloc (.cells #[.slice none 0 0, .slice none 0 0] 27)).cell? ⟨w.heap.size, 3, none⟩ = some (.int .i64 x3) ∧ ((w.alloc (.cells #[.int .i64 x0, .int .i64 x1, .int .i64 x2, .int .i64 x3, .int .i64 x4, .int .i64 x5, .int .i64 x6, .int .i64 x7, .bool b, .int .i64 x9, .int .i64 x10, .int .i64 x11] 23)).alloc (.cells #[.slice none 0 0, .slice none 0 0] 27)).cell? ⟨w.heap.size, 4, none⟩ = some (.int .i64 x4) ∧ ((w.alloc (.cells #[.int .i64 x0, .int .i64 x1, .int .i64 x2, .int .i64 x3, .int .i64 x4, .int .i64 x5, .int .i64 x6, .int .i64 x7, .bool b, .int .i64 x9, .int .i64 x10, .int .i64 x11] 23)).alloc (.cells #[.slice none 0 0, .slice none 0 0] 27)).cell? ⟨w.heap.size, 5, none⟩ = some (.int .i64 x5) ∧ ((w.alloc (.cells #[.int .i64 x0, .int .i64 x1, .int .i64 x2, .int .i64 x3, .int .i64 x4, .int .i64 x5, .int .i64 x6, .int .i64 x7, .bool b, .int .i64 x9, .int .i64 x10, .int .i64 x11] 23)).alloc (.cells #[.slice none 0 0, .slice none 0 0] 27)).cell? ⟨w.heap.size, 6, none⟩ = some (.int .i64 x6) ∧ ((w.alloc (.cells #[.int .i64 x0, .int .i64 x1, .int .i64 x2, .int .i64 x3, .int .i64 x4, .int .i64 x5, .int .i64 x6, .int .i64 x7, .bool b, .int .i64 x9, .int .i64 x10, .int .i64 x11] 23)).alloc (.cells #[.slice none 0 0, .slice none 0 0] 27)).cell? ⟨w.heap.size, 7, none⟩ = some (.int .i64 x7) ∧ ((w.alloc (.cells #[.int .i64 x0, .int .i64 x1, .int .i64 x2, .int .i64 x3, .int .i64 x4, .int .i64 x5, .int .i64 x6, .int .i64 x7, .bool b, .int .i64 x9, .int .i64 x10, .int .i64 x11] 23)).alloc (.cells #[.slice none 0 0, .slice none 0 0] 27)).cell? ⟨w.heap.size, 8, none⟩ = some (.bool b) ∧ ((w.alloc (.cells #[.int .i64 x0, .int .i64 x1, .int .i64 x2, .int .i64 x3, .int .i64 x4, .int .i64 x5, .int .i64 x6, .int .i64 x7, .bool b, .int .i64 x9, .int .i64 x10, .int .i64 x11] 23)).alloc (.cells #[.slice none 0 0, .slice none 0 0] 27)).cell? ⟨w.heap.size, 9, none⟩ = some (.int .i64 x9) ∧ ((w.alloc (.cells #[.int .i64 x0, .int .i64 x1, .int .i64 x2, .int .i64 x3, .int .i64 x4, .int .i64 x5, .int .i64 x6, .int .i64 x7, .bool b, .int .i64 x9, .int .i64 x10, .int .i64 x11] 23)).alloc (.cells #[.slice none 0 0, .slice none 0 0] 27)).cell? ⟨w.heap.size, 10, none⟩ = some (.int .i64 x10) ∧ ((w.alloc (.cells #[.int .i64 x0, .int .i64 x1, .int .i64 x2, .int .i64 x3, .int .i64 x4, .int .i64 x5, .int .i64 x6, .int .i64 x7, .bool b, .int .i64 x9, .int .i64 x10, .int .i64 x11] 23)).alloc (.cells #[.slice none 0 0, .slice none 0 0] 27)).cell? ⟨w.heap.size, 11, none⟩ = some (.int .i64 x11) := by simp [go_sem]
  have R0 : ((w.alloc (.cells #[.int .i64 x0, .int .i64 x1, .int .i64 x2, .int .i64 x3, .int .i64 x4, .int .i64 x5, .int .i64 x6, .int .i64 x7, .bool b, .int .i64 x9, .int .i64 x10, .int .i64 x11] 23)).alloc (.cells #[.slice none 0 0, .slice none 0 0] 27)).cell? ⟨w.heap.size + 1, 0, none⟩ = some (.slice none 0 0) := by simp [go_sem]
  have R1 : ((w.alloc (.cells #[.int .i64 x0, .int .i64 x1, .int .i64 x2, .int .i64 x3, .int .i64 x4, .int .i64 x5, .int .i64 x6, .int .i64 x7, .bool b, .int .i64 x9, .int .i64 x10, .int .i64 x11] 23)).alloc (.cells #[.slice none 0 0, .slice none 0 0] 27)).cell? ⟨w.heap.size + 1, 1, none⟩ = some (.slice none 0 0) := by simp [go_sem]
  have F0 : ((w.alloc (.cells #[.int .i64 x0, .int .i64 x1, .int .i64 x2, .int .i64 x3, .int .i64 x4, .int .i64 x5, .int .i64 x6, .int .i64 x7, .bool b, .int .i64 x9, .int .i64 x10, .int .i64 x11] 23)).alloc (.cells #[.slice none 0 0, .slice none 0 0] 27)).frozen? ⟨w.heap.size + 1, 0, none⟩ = false := by simp [go_sem]
  have F1 : ((w.alloc (.cells #[.int .i64 x0, .int .i64 x1, .int .i64 x2, .int .i64 x3, .int .i64 x4, .int .i64 x5, .int .i64 x6, .int .i64 x7, .bool b, .int .i64 x9, .int .i64 x10, .int .i64 x11] 23)).alloc (.cells #[.slice none 0 0, .slice none 0 0] 27)).frozen? ⟨w.heap.size + 1, 1, none⟩ = false := by simp [go_sem]
  have KS := hide (size_any x0 x1 x2 x3 x4 x5 x6 x7 b x9 x10 x11 ok)
  have KL := hide (cell_any x0 x1 x2 x3 x4 x5 x6 x7 b x9 x10 x11 ok)
  have KC := hide (check_any x0 x1 x2 x3 x4 x5 x6 x7 b x9 x10 x11)
  rw [(ck_ok x0 x1 x2 x3 x4 x5 x6 x7 b x9 x10 x11).2 ok] at KC
  have ho := ok.h1
  obtain ⟨it, rfl⟩ : ∃ n : Nat, x1 = (n : Int) := ⟨x1.toNat, by omega⟩
  simp only [Int.toNat_natCast]
  obtain ⟨bk, hbk⟩ : ∃ n, bkV x3 x4 x5 = n := ⟨_, rfl⟩
  rw [hbk] at KS KL ⊢
  obtain ⟨sz, hsz⟩ : ∃ n, sizeV (it : Int) bk x0 = n := ⟨_, rfl⟩
  rw [hsz] at KS ⊢
  have KN := hide (newF_any sz x0)
  have HN1 : Hid (0 < cntV sz) := hide (cnt_pos (by have := bk_le ok.h3 ok.h4 ok.h5; have := mul_le (a := (it : Int)) (b := bk) (p := 4) (q := 40) (by omega) (by omega); have := ok.h0; unfold sizeV at hsz; omega))
  have HN2 : Hid (∀ bs : List Bt, boxes bs = List.replicate (cntV x0) [] → 0 < bs.length) := hide (fun bs hb => by rw [← boxes_length, hb, List.length_replicate]; exact cnt_pos (by have := ok.h0; omega))
  clear hbk hsz ok
  go_enter Try.func22, Try.ntmps22
  go_wp2_with fail
  refine (KC.out _).mono ?_
  rintro x w0 ⟨rfl, hv⟩
  replace H0 := keep12 H0 hv
  replace R0 := cell_keep R0 hv
  replace R1 := cell_keep R1 hv
  replace F0 := frozen_keep hv (by simp) F0
  replace F1 := frozen_keep hv (by simp) F1
  have hz : w.heap.size + 1 + 1 ≤ w0.heap.size := by simpa using hv.size
  replace hB := below_next hB (by simp; omega) hv
  clear hv KC
  go_upto_region 3 with fail
  have b0 : Below w0.heap.size w0 w0.drew := (Below.refl _ _).drew
  have b0a : Below w0.heap.size w0 (w0.alloc (.cells #[.slice none 0 0, .slice none 0 0] 27)).drew := ((Below.refl _ _).alloc (Nat.le_refl _) _).drew
  have P0 : BdPre w.heap.size w0.heap.size w (w0.alloc (.cells #[.slice none 0 0, .slice none 0 0] 27)).drew := ⟨⟨_, by simp [go_sem]; rfl⟩, ⟨_, by simp [go_sem]; rfl⟩, by simp [go_sem], by simp [go_sem], cell_keep R0 b0a, cell_keep R1 b0a, frozen_keep b0a (by omega) F0, frozen_keep b0a (by omega) F1, below_next hB (by omega) b0a, hz, by simp⟩
  have PA : ∀ v1 : World, Below w0.heap.size w0 v1 → BdPre w.heap.size v1.heap.size w (v1.alloc (.cells #[.slice none 0 0, .slice none 0 0] 27)) := fun v1 hv => by
    have hz1 := hv.size
    have ba : Below w0.heap.size w0 (v1.alloc (.cells #[.slice none 0 0, .slice none 0 0] 27)) := hv.alloc hv.size _
    exact ⟨⟨_, by simp [go_sem]; rfl⟩, ⟨_, by simp [go_sem]; rfl⟩, by simp [go_sem], by simp [go_sem], cell_keep R0 ba, cell_keep R1 ba, frozen_keep ba (by omega) F0, frozen_keep ba (by omega) F1, below_next hB (by omega) ba, by omega, by simp⟩
  have PN : ∀ (v2 : World) (A B : Option Addr) (c d : Nat) (ws : List Int) (bs : List Bt), Below w0.heap.size w0 v2 → MemOk v2 A ws B bs → (∀ q ∈ bs, q.l = []) → (∀ p, A = some p → w.heap.size + 1 + 1 ≤ p.block ∧ p.block ≠ v2.heap.size) → (∀ p, B = some p → w.heap.size + 1 + 1 ≤ p.block ∧ p.block ≠ v2.heap.size) →
      BdAt w.heap.size v2.heap.size w (v2.alloc (.cells #[.slice A ws.length c, .slice B bs.length d] 27)) A B ws bs c d := fun v2 A B c d ws bs hv mem emp aA aB => by
    have hz1 := hv.size
    have ba : Below w0.heap.size w0 (v2.alloc (.cells #[.slice A ws.length c, .slice B bs.length d] 27)) := hv.alloc hv.size _
    exact ⟨by simp [go_sem], by simp [go_sem], by simp [go_sem], by simp [go_sem], cell_keep R0 ba, cell_keep R1 ba, frozen_keep ba (by omega) F0, frozen_keep ba (by omega) F1, mem.later ((Below.refl _ _).alloc (Nat.le_refl _) _), emp, aA, aB, below_next hB (by omega) ba, by omega, by simp⟩
  have HP0 := hide P0
  have HPA := hide PA
  have HPN := hide PN
  have H0d := keep12 H0 b0
  have H0a := keep12 H0 b0a
  clear P0 PA PN R0 R1 F0 F1
  go_cut [3] from 5 (fun p wc => ∃ k A c B d bs, p = .pointer (some ⟨k, 0, none⟩) ∧ BdAt w.heap.size k w wc A B (List.replicate (cntV sz) 0) bs c d ∧ boxes bs = List.replicate (cntV x0) [] ∧ wc.cell? ⟨w.heap.size, 0, none⟩ = some (.int .i64 x0) ∧ wc.cell? ⟨w.heap.size, 1, none⟩ = some (.int .i64 (it : Int)) ∧ wc.cell? ⟨w.heap.size, 2, none⟩ = some (.int .i64 x2) ∧ wc.cell? ⟨w.heap.size, 3, none⟩ = some (.int .i64 x3) ∧ wc.cell? ⟨w.heap.size, 4, none⟩ = some (.int .i64 x4) ∧ wc.cell? ⟨w.heap.size, 5, none⟩ = some (.int .i64 x5) ∧ wc.cell? ⟨w.heap.size, 6, none⟩ = some (.int .i64 x6) ∧ wc.cell? ⟨w.heap.size, 7, none⟩ = some (.int .i64 x7) ∧ wc.cell? ⟨w.heap.size, 8, none⟩ = some (.bool b) ∧ wc.cell? ⟨w.heap.size, 9, none⟩ = some (.int .i64 x9) ∧ wc.cell? ⟨w.heap.size, 10, none⟩ = some (.int .i64 x10) ∧ wc.cell? ⟨w.heap.size, 11, none⟩ = some (.int .i64 x11))
  case first =>
    go_region_held3 (fun w' => w'.cell? ⟨w.heap.size, 0, none⟩ = some (.int .i64 x0) ∧ w'.cell? ⟨w.heap.size, 1, none⟩ = some (.int .i64 (it : Int)) ∧ w'.cell? ⟨w.heap.size, 2, none⟩ = some (.int .i64 x2) ∧ w'.cell? ⟨w.heap.size, 3, none⟩ = some (.int .i64 x3) ∧ w'.cell? ⟨w.heap.size, 4, none⟩ = some (.int .i64 x4) ∧ w'.cell? ⟨w.heap.size, 5, none⟩ = some (.int .i64 x5) ∧ w'.cell? ⟨w.heap.size, 6, none⟩ = some (.int .i64 x6) ∧ w'.cell? ⟨w.heap.size, 7, none⟩ = some (.int .i64 x7) ∧ w'.cell? ⟨w.heap.size, 8, none⟩ = some (.bool b) ∧ w'.cell? ⟨w.heap.size, 9, none⟩ = some (.int .i64 x9) ∧ w'.cell? ⟨w.heap.size, 10, none⟩ = some (.int .i64 x10) ∧ w'.cell? ⟨w.heap.size, 11, none⟩ = some (.int .i64 x11))
      (first | (with_reducible exact H0d) | (with_reducible exact H0a) | (with_reducible exact H1) | (with_reducible exact H1a) | (with_reducible exact H2) | (with_reducible exact H2a) | (with_reducible exact far2 H2 hnk) | (exact keep12 H2 ((Below.refl _ v2).alloc (Nat.le_refl _) _)))
      (first
        | (go_at_call 40; (with_reducible refine (KS.out w0.drew).mono ?_); rintro x v1 ⟨rfl, hv⟩; have H1 := keep12 H0d hv; have hv1 := b0.trans hv; have H1a := keep12 H1 ((Below.refl _ v1).alloc (Nat.le_refl _) (.cells #[.slice none 0 0, .slice none 0 0] 27)); have HPL := hide (HPA.out v1 hv1))
        | (go_at_call 40; (with_reducible refine (KS.out (w0.alloc (.cells #[.slice none 0 0, .slice none 0 0] 27)).drew).mono ?_); rintro x v1 ⟨rfl, hv⟩; have H1 := keep12 H0a hv; have HPE := hide (HP0.out.later hv))
        | (go_at_call 39; (with_reducible refine (KN.out (v1.alloc (.cells #[.slice none 0 0, .slice none 0 0] 27))).mono ?_); rintro x v2 ⟨A, c, B, d, bs, rfl, hbx, mem, fA, fB, hv2⟩; have H2 := keep12 H1a hv2; have hnk : w.heap.size ≠ v1.heap.size := (by have := HPL.out.hk; omega); obtain ⟨u0, m0⟩ := (HPL.out.later hv2).m0; obtain ⟨u1, m1⟩ := (HPL.out.later hv2).m1; have g0 := (HPL.out.later hv2).g0; have g1 := (HPL.out.later hv2).g1; have kz := (HPL.out.later hv2).kz; have HF := hide ((HPL.out.later hv2).set (c := c) (d := d) mem (emp_of hbx) (below_lt fA (Nat.le_of_lt (Nat.lt_of_le_of_lt HPL.out.hk HPL.out.kz)) HPL.out.kz) (below_lt fB (Nat.le_of_lt (Nat.lt_of_le_of_lt HPL.out.hk HPL.out.kz)) HPL.out.kz)))
        | (go_at_call 39; (with_reducible refine (KN.out v1).mono ?_); rintro x v2 ⟨A, c, B, d, bs, rfl, hbx, mem, fA, fB, hv2⟩; have H2 := keep12 H1 hv2; obtain ⟨u0, m0⟩ := (HPE.out.later hv2).m0; obtain ⟨u1, m1⟩ := (HPE.out.later hv2).m1; have g0 := (HPE.out.later hv2).g0; have g1 := (HPE.out.later hv2).g1; have kz := (HPE.out.later hv2).kz; have HF := hide ((HPE.out.later hv2).set (c := c) (d := d) mem (emp_of hbx) (below_lt fA (Nat.le_of_lt (Nat.lt_of_le_of_lt HPE.out.hk HPE.out.kz)) HPE.out.kz) (below_lt fB (Nat.le_of_lt (Nat.lt_of_le_of_lt HPE.out.hk HPE.out.kz)) HPE.out.kz)); have hnk : w.heap.size ≠ w0.heap.size := (by omega))
        | (go_at_call 39; (with_reducible refine (KN.out v1).mono ?_); rintro x v2 ⟨A, c, B, d, bs, rfl, hbx, mem, fA, fB, hv2⟩; have H2 := keep12 H1 hv2; have H2a := keep12 H2 ((Below.refl _ v2).alloc (Nat.le_refl _) (.cells #[.slice none 0 0, .slice none 0 0] 27)); have hz1 := HPL.out.hk; have hz2 := hv2.size; have hnk : w.heap.size ≠ v2.heap.size := (by omega); have HL := hide (HPN.out v2 A B c d _ bs (hv1.trans (hv2.mono hv1.size)) mem (emp_of hbx) (bd_late fA HPL.out.hk (mem.words.block_lt (Nat.lt_of_lt_of_eq HN1.out List.length_replicate.symm))) (bd_late fB HPL.out.hk (mem.bxs.block_lt (HN2.out bs hbx))))))
    all_goals go_wp2_with fail
    all_goals go_meet
    all_goals first
      | exact ⟨_, A, c, B, d, bs, rfl, by simpa using HL.out, hbx, keep12 H2 ((Below.refl _ v2).alloc (Nat.le_refl _) _)⟩
      | exact ⟨_, A, c, B, d, bs, rfl, by simpa using HF.out, hbx, far2 H2 hnk⟩
  case rest =>
    obtain ⟨k, A, c, B, d, bs, rfl, hat, hbx, hq⟩ := hcut
    have HAT := hide hat
    have HBX := hide hbx
    have HQ := hide hq
    have hq1 := hq.2.1
    clear hat hbx hq HP0 HPA HPN H0d H0a H0 hB b0 b0a KS KN HN1 HN2 hz
    go_wp2
    go_loopw [16] (fun i wr => ∃ (j : Nat) (ws : List Int) (A : Option Addr) (c : Nat), j ≤ it ∧ i = .int .i64 j ∧ Hid (ws = bdW (List.replicate (cntV sz) 0) it bk x11 j) ∧ BdAt w.heap.size k w wr A B ws bs c d ∧ wr.cell? ⟨w.heap.size, 0, none⟩ = some (.int .i64 x0) ∧ wr.cell? ⟨w.heap.size, 1, none⟩ = some (.int .i64 (it : Int)) ∧ wr.cell? ⟨w.heap.size, 2, none⟩ = some (.int .i64 x2) ∧ wr.cell? ⟨w.heap.size, 3, none⟩ = some (.int .i64 x3) ∧ wr.cell? ⟨w.heap.size, 4, none⟩ = some (.int .i64 x4) ∧ wr.cell? ⟨w.heap.size, 5, none⟩ = some (.int .i64 x5) ∧ wr.cell? ⟨w.heap.size, 6, none⟩ = some (.int .i64 x6) ∧ wr.cell? ⟨w.heap.size, 7, none⟩ = some (.int .i64 x7) ∧ wr.cell? ⟨w.heap.size, 8, none⟩ = some (.bool b) ∧ wr.cell? ⟨w.heap.size, 9, none⟩ = some (.int .i64 x9) ∧ wr.cell? ⟨w.heap.size, 10, none⟩ = some (.int .i64 x10) ∧ wr.cell? ⟨w.heap.size, 11, none⟩ = some (.int .i64 x11)) (fun i _ => it - (intOf i).toNat)
    case atStart => exact ⟨0, _, A, c, Nat.zero_le _, rfl, hide rfl, HAT.out, HQ.out⟩
    case round =>
      clear HAT HQ hq1
      obtain ⟨j, ws, A, c, hj, rfl, HW, hat, hq⟩ := hrel
      have HAT := hide hat
      have HQ := hide hq
      have m0 := hat.m0
      have m1 := hat.m1
      have hq1 := hq.2.1
      by_cases hlt : j < it
      · obtain ⟨q0, q1, q2, q3, q4, q5, q6, q7, q8, q9, q10, q11⟩ := hq
        have KJ := hide (KL.out (j : Int) (by unfold I64; omega))
        obtain ⟨cv, hcv⟩ : ∃ x, cellV (it : Int) bk (j : Int) = x := ⟨_, rfl⟩
        rw [hcv] at KJ
        have HC := hide hcv
        have hlen : (stV ws cv x11).length = ws.length := stV_length _ _ _
        have HLEN := hide hlen
        have HST : Hid (stV ws cv x11 = bdW (List.replicate (cntV sz) 0) it bk x11 (j + 1)) := hide (by rw [bdW, ← HW.out, hcv])
        have HSTO := hide (fun (v : World) (m : MemOk v A ws B bs) => store_any A B c d ws bs cv x11 v m)
        obtain ⟨ns, hns⟩ : ∃ x, stV ws cv x11 = x := ⟨_, rfl⟩
        rw [hns] at HLEN HST HSTO
        obtain ⟨ev, hev⟩ : ∃ x, erV ws.length cv = x := ⟨_, rfl⟩
        rw [hev] at HSTO
        have hkz := hat.kz
        have g0 := hat.g0
        have g1 := hat.g1
        clear hat hcv hlen hns hev KL HW
        go_upto_region 7 with fail
        go_region_with
          (first
            | (go_at_call 42; refine (KJ.out _).mono ?_; rintro x v1 ⟨rfl, hv⟩; have hb1 : Below wr.heap.size wr v1 := ((Below.refl _ wr).drew).trans hv; clear hv; have q11' := cell_keep q11 hb1; have m0' := cell_keep m0 hb1; have m1' := cell_keep m1 hb1)
            | (go_at_call 41; refine (HSTO.out _ (HAT.out.mem.later hb1)).mono ?_; rintro x v2 ⟨A', c', rfl, hs', hor, hb2⟩; have m0'' := cell_keep m0' hb2; have m1'' := cell_keep m1' hb2; have g0'' := frozen_keep hb2 (Nat.lt_of_lt_of_le hkz hb1.size) (frozen_keep hb1 hkz g0); have g1'' := frozen_keep hb2 (Nat.lt_of_lt_of_le hkz hb1.size) (frozen_keep hb1 hkz g1)))
        all_goals
          have HN := hide (HAT.out.step (c' := c') hb1 hb2 hs' hor HLEN.out)
          have HQ' := hide (far2 (ua := .slice A' ns.length c') (ub := .slice B bs.length d) (keep12 (keep12 HQ.out hb1) hb2) (show w.heap.size ≠ k by have := HAT.out.hk; omega))
          clear hs' hor hb2 hb1 m0 m1 m0' m1' q11' KJ HSTO g0 g1 q0 q1 q2 q3 q4 q5 q6 q7 q8 q9 q10 q11 HAT HQ
          go_wp2
          go_roundw
          case rel => exact ⟨j + 1, ns, A', c', by omega, by go_num, HST, HN.out, HQ'.out⟩
          case measure => simp [intOf]; omega
      · obtain rfl : j = it := by omega
        have r0 := hat.r0
        have r1 := hat.r1
        have f0 := hat.f0
        have f1 := hat.f1
        have hk := hat.hk
        have hkz := hat.kz
        clear hat hq KL HQ
        go_wp2
        (try simp only [Exit.inBlock, Exit.then])
        refine bodyPost_ret (v := .agg #[.slice A ws.length c, .slice B bs.length d]) (by simp [results, Try.results22, go_sem, r0, r1]) rfl ?_
        have := HAT.out.fin HBX.out
        rw [HW.out] at this
        simpa only [HW.out] using this

end Go.Proofs.Ytjghdbkkjhnpfaa
