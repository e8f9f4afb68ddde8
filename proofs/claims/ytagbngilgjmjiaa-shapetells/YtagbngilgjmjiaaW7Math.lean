/- Plain facts behind layer 7's statements, over depths as they come. Nothing of the program. -/
import Derived.Test.YtagbngilgjmjiaaShF
namespace Go.Proofs.Ytagbngilgjmjiaa
open Go.RowKit

/-- A way of a depth of 1 to 4 is that of a leaf. -/
theorem path_leaf (D t : Int) (hD : 1 ≤ D ∧ D ≤ 4) : ∃ (d a : Nat), D = (d : Int) ∧ d < 5 ∧ 1 ≤ d ∧ a < 16 ∧ isL d a = true ∧ leafV D t = (a : Int) ∧ pathV D t = ups a := by
  obtain ⟨d, rfl⟩ : ∃ d : Nat, D = (d : Int) := ⟨D.toNat, by omega⟩
  have hd : 1 ≤ d ∧ d ≤ 4 := by omega
  obtain ⟨a, ha, h1, h2⟩ := leaf_nat d hd t
  refine ⟨d, a, rfl, by omega, hd.1, ?_, by simp [isL, h1, h2], ha, path_nat ha⟩
  have : (2 : Nat) ^ d ≤ 2 ^ 4 := Nat.pow_le_pow_right (by decide) hd.2
  omega
theorem path_zero (t : Int) : pathV 0 t = [] := by
  unfold pathV leafV
  simp [upV_none]
theorem path_len (D t : Int) (hD : 0 ≤ D ∧ D ≤ 4) : ((pathV D t).length : Int) = D := by
  by_cases h : D = 0
  · subst h; rw [path_zero]; rfl
  · obtain ⟨d, a, rfl, hd, _, ha, hl, _, hp⟩ := path_leaf D t (by omega)
    rw [hp, ups_len d hd a ha hl]
theorem meet_two (D t u : Int) (hD : 1 ≤ D ∧ D ≤ 4) : ∃ (d a b : Nat), D = (d : Int) ∧ d < 5 ∧ 1 ≤ d ∧ a < 16 ∧ b < 16 ∧ isL d a = true ∧ isL d b = true ∧ leafV D t = (a : Int) ∧ leafV D u = (b : Int) ∧ pathV D t = ups a ∧ pathV D u = ups b := by
  obtain ⟨d, a, rfl, hd, h1, ha, hl, hx, hp⟩ := path_leaf D t hD
  obtain ⟨d', b, e, _, _, hb, hl', hx', hp'⟩ := path_leaf d u hD
  obtain rfl : d = d' := by omega
  exact ⟨d, a, b, rfl, hd, h1, ha, hb, hl, hl', hx, hx', hp, hp'⟩
theorem meet_is_ref (D t u : Int) (hD : 0 ≤ D ∧ D ≤ 4) : meetV D t u = rmeetL (pathV D t) (pathV D u) := by
  by_cases h : D = 0
  · subst h; unfold meetV; rw [path_zero, path_zero]; rfl
  · obtain ⟨d, a, b, rfl, hd, _, ha, hb, hl, hl', _, _, hp, hp'⟩ := meet_two D t u (by omega)
    unfold meetV
    rw [hp, hp']
    exact meet_ref d hd a ha b hb (by simp [hl, hl'])
theorem meet_turn (D t u : Int) (hD : 1 ≤ D ∧ D ≤ 4) : meetV D t u = meetV D u t := by
  obtain ⟨d, a, b, rfl, hd, _, ha, hb, hl, hl', _, _, hp, hp'⟩ := meet_two D t u hD
  unfold meetV
  rw [hp, hp']
  exact meet_comm d hd a ha b hb (by simp [hl, hl'])
theorem meet_low (D t u : Int) (hD : 1 ≤ D ∧ D ≤ 4) : 1 ≤ meetV D t u ∧ meetV D t u < 16 := by
  obtain ⟨d, a, b, rfl, hd, _, ha, hb, hl, hl', _, _, hp, hp'⟩ := meet_two D t u hD
  unfold meetV
  rw [hp, hp']
  exact meet_lo d hd a ha b hb (by simp [hl, hl'])
theorem meet_leaf (D t u : Int) (hD : 1 ≤ D ∧ D ≤ 4) (h : leafV D t = leafV D u) : meetV D t u = leafV D t := by
  obtain ⟨d, a, b, rfl, hd, _, ha, hb, hl, hl', hx, hx', hp, hp'⟩ := meet_two D t u hD
  unfold meetV
  rw [hp, hp', hx]
  obtain rfl : a = b := by omega
  exact meet_self d hd a ha hl
theorem at2_of {l : List Int} {i : Nat} {v : Int} (h : l[i]? = some v) : at2 l i = v := by unfold at2; rw [h]; rfl
end Go.Proofs.Ytagbngilgjmjiaa
