/- Places of words, as plain numbers. Nothing of the program. -/
import Derived.Test.YtlmnanlclialhaaCfgC
import Derived.Test.YtlmnanlclialhaaNewR
namespace Go.Proofs.Ytlmnanlclialhaa
open Go.RowKit

/-- How many nodes a tree has. -/
def ndV (d : Int) : Int := 2 ^ d.toNat - 1
/-- How many words an item has. -/
def bkV (d l k : Int) : Int := 1 + ndV d + l * k
/-- The place of the n-th thing of a row. -/
def rowV (s f m k n : Int) : Int := if n < f ∨ m ≤ n - f then -1 else s + (n - f) * k
def cellV (it bk i : Int) : Int := if 0 ≤ i ∧ i < it then i * bk else -1
def nodeV (it bk nd i n : Int) : Int := if (0 ≤ i ∧ i < it) ∧ 1 ≤ n ∧ n ≤ nd then i * bk + n else -1
def slotV (it bk nd ly wd i l s : Int) : Int := if (0 ≤ i ∧ i < it) ∧ (1 ≤ l ∧ l ≤ ly) ∧ 0 ≤ s ∧ s < wd then i * bk + 1 + nd + (l - 1) * wd + s else -1
def lineV (it bk th t : Int) : Int := if 0 ≤ t ∧ t < th then it * bk + 2 * t else -1
def resV (it bk th t : Int) : Int := if 0 ≤ t ∧ t < th then it * bk + 2 * t + 1 else -1
def sizeV (it bk th : Int) : Int := it * bk + 2 * th

theorem nd_cases {d : Int} (h : 0 ≤ d ∧ d ≤ 4) : (d = 0 ∧ ndV d = 0) ∨ (d = 1 ∧ ndV d = 1) ∨ (d = 2 ∧ ndV d = 3) ∨ (d = 3 ∧ ndV d = 7) ∨ (d = 4 ∧ ndV d = 15) := by
  have h' : d = 0 ∨ d = 1 ∨ d = 2 ∨ d = 3 ∨ d = 4 := by omega
  rcases h' with rfl | rfl | rfl | rfl | rfl <;> decide
theorem nd_le {d : Int} (h : 0 ≤ d ∧ d ≤ 4) : 0 ≤ ndV d ∧ ndV d ≤ 15 := by have := nd_cases h; omega
theorem mul_le {a b p q : Int} (ha : 0 ≤ a ∧ a ≤ p) (hb : 0 ≤ b ∧ b ≤ q) : 0 ≤ a * b ∧ a * b ≤ p * q :=
  ⟨Int.mul_nonneg ha.1 hb.1, Int.mul_le_mul ha.2 hb.2 hb.1 (by omega)⟩
theorem bk_le {d l k : Int} (h : 0 ≤ d ∧ d ≤ 4) (hl : 0 ≤ l ∧ l ≤ 3) (hk : 1 ≤ k ∧ k ≤ 8) : 1 ≤ bkV d l k ∧ bkV d l k ≤ 40 := by
  have h1 := nd_le h
  have h2 := mul_le (b := k) hl ⟨by omega, hk.2⟩
  unfold bkV; omega
theorem w64 {x : Int} (h : -1000000 ≤ x ∧ x ≤ 1000000) : IntKind.i64.wrap x = x := by rw [IntKind.wrap_i64]; omega

end Go.Proofs.Ytlmnanlclialhaa
