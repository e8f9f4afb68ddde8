/- Plain facts about ways up in trees of depth 1 to 4, behind the statements of layer 7. Nothing of the program. -/
import Derived.Test.YtagbngilgjmjiaaSh
namespace Go.Proofs.Ytagbngilgjmjiaa
open Go.RowKit

/-- How a leaf of a depth lies: a natural number with as many digits. -/
theorem leaf_nat (d : Nat) (hd : 1 ≤ d ∧ d ≤ 4) (t : Int) : ∃ a : Nat, leafV d t = (a : Int) ∧ a < 2 ^ d ∧ 2 ^ d ≤ 2 * a := by
  have h : d = 1 ∨ d = 2 ∨ d = 3 ∨ d = 4 := by omega
  rcases h with rfl | rfl | rfl | rfl
  · exact ⟨1, by simp [leafV, kV], by omega, by omega⟩
  · exact ⟨(2 + t / 2 % 2).toNat, by simp [leafV, kV]; omega, by omega, by omega⟩
  · exact ⟨(4 + t / 2 % 4).toNat, by simp [leafV, kV]; omega, by omega, by omega⟩
  · exact ⟨(8 + t / 2 % 8).toNat, by simp [leafV, kV]; omega, by omega, by omega⟩
theorem path_nat {d : Nat} {t : Int} {a : Nat} (h : leafV d t = (a : Int)) : pathV d t = ups a := by
  unfold pathV upV
  rw [h]
  rfl

/-- That a number is a leaf of that depth. -/
def isL (d a : Nat) : Bool := decide (a < 2 ^ d) && decide (2 ^ d ≤ 2 * a)
def at2 (l : List Int) (i : Nat) : Int := l[i]?.getD 0
set_option maxRecDepth 100000 in
theorem ups_len : ∀ d : Nat, d < 5 → ∀ a : Nat, a < 16 → isL d a = true → (ups a).length = d := by decide +kernel
set_option maxRecDepth 100000 in
theorem ups_lev : ∀ d : Nat, d < 5 → ∀ a : Nat, a < 16 → ∀ i : Nat, i < 4 → (isL d a && decide (i < d)) = true → levV (at2 (ups a) i) = (d : Int) - 1 - (i : Int) := by decide +kernel
set_option maxRecDepth 100000 in
theorem ups_first : ∀ d : Nat, d < 5 → ∀ a : Nat, a < 16 → isL d a = true → at2 (ups a) 0 = (a : Int) := by decide +kernel
set_option maxRecDepth 100000 in
theorem ups_next : ∀ d : Nat, d < 5 → ∀ a : Nat, a < 16 → ∀ i : Nat, i < 4 → (isL d a && decide (i < d)) = true → 0 < i → parV (at2 (ups a) (i - 1)) = at2 (ups a) i := by decide +kernel
set_option maxRecDepth 100000 in
theorem ups_last : ∀ d : Nat, d < 5 → ∀ a : Nat, a < 16 → isL d a = true → at2 (ups a) (d - 1) = 1 := by decide +kernel
set_option maxRecDepth 100000 in
theorem ups_lo : ∀ d : Nat, d < 5 → ∀ a : Nat, a < 16 → ∀ i : Nat, i < 4 → (isL d a && decide (i < d)) = true → 1 ≤ at2 (ups a) i ∧ at2 (ups a) i < 16 := by decide +kernel
set_option maxRecDepth 100000 in
theorem meet_ref : ∀ d : Nat, d < 5 → ∀ a : Nat, a < 16 → ∀ b : Nat, b < 16 → (isL d a && isL d b) = true → meetL (ups a) (ups b) = rmeetL (ups a) (ups b) := by decide +kernel
set_option maxRecDepth 100000 in
theorem meet_comm : ∀ d : Nat, d < 5 → ∀ a : Nat, a < 16 → ∀ b : Nat, b < 16 → (isL d a && isL d b) = true → meetL (ups a) (ups b) = meetL (ups b) (ups a) := by decide +kernel
set_option maxRecDepth 100000 in
theorem meet_lo : ∀ d : Nat, d < 5 → ∀ a : Nat, a < 16 → ∀ b : Nat, b < 16 → (isL d a && isL d b) = true → 1 ≤ meetL (ups a) (ups b) ∧ meetL (ups a) (ups b) < 16 := by decide +kernel
set_option maxRecDepth 100000 in
theorem meet_self : ∀ d : Nat, d < 5 → ∀ a : Nat, a < 16 → isL d a = true → meetL (ups a) (ups a) = a := by decide +kernel
set_option maxRecDepth 100000 in
theorem meet_up : ∀ d : Nat, d < 5 → ∀ a : Nat, a < 16 → ∀ b : Nat, b < 16 → ∀ i : Nat, i < 4 → (isL d a && isL d b && decide (i < d)) = true → decide (at2 (ups a) i = at2 (ups b) i) = decide (levV (at2 (ups a) i) ≤ levV (meetL (ups a) (ups b))) := by decide +kernel
end Go.Proofs.Ytagbngilgjmjiaa
