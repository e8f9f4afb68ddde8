/- Ranges: behind a store into one of their cells, and into another block. -/
import Derived.Test.YtpbneghabikpdaaThX
namespace Go.Proofs.Ytpbneghabikpdaa
open Go.RowKit
set_option linter.unusedVariables false

theorem rangeE (w : World) (cs : List Value) (t : TypeId) {k : Nat} (hk : w.heap.size = k) : (w.alloc (.cells cs.toArray t)).rangeAt k 0 cs := hk ▸ range_new w cs t
theorem rangeSet {w : World} {k i : Nat} {cs : List Value} {x : Value} (h : w.rangeAt k 0 cs) (hi : i < cs.length) : (w.setCell ⟨k, i, none⟩ x).rangeAt k 0 (cs.set i x) := by
  intro j u hu
  rw [List.getElem?_set] at hu
  by_cases hj : i = j
  · subst hj
    rw [if_pos rfl, if_pos hi] at hu
    injection hu with hu
    subst hu
    rw [Nat.zero_add]
    exact World.cell?_setCell_same _ _ _ (rg h i (List.getElem?_eq_getElem hi))
  · rw [if_neg hj] at hu
    rw [World.cell?_setCell_other _ _ _ _ (by intro h1; rw [Addr.mk.injEq] at h1; omega)]
    exact h j u hu
theorem rangeSet12 {w : World} {k : Nat} {c0 c1 c2 c3 c4 c5 c6 c7 c8 c9 c10 c11 c12 c13 c14 c15 c16 x : Value} (h : w.rangeAt k 0 [c0, c1, c2, c3, c4, c5, c6, c7, c8, c9, c10, c11, c12, c13, c14, c15, c16]) : (w.setCell ⟨k, 12, none⟩ x).rangeAt k 0 [c0, c1, c2, c3, c4, c5, c6, c7, c8, c9, c10, c11, x, c13, c14, c15, c16] := rangeSet (i := 12) h (by simp)
theorem rangeFar {w : World} {k b o : Nat} {cs : List Value} {x : Value} (h : w.rangeAt k 0 cs) (hk : k ≠ b) : (w.setCell ⟨b, o, none⟩ x).rangeAt k 0 cs := by
  intro j u hu
  rw [World.cell?_setCell_other _ _ _ _ (by intro h1; rw [Addr.mk.injEq] at h1; exact hk h1.1.symm)]
  exact h j u hu
end Go.Proofs.Ytpbneghabikpdaa
