/- What a word says, as plain numbers. Nothing of the program. -/
import Derived.Test.YtcbjkpblailfpaaSh
import Derived.Test.YtcbjkpblailfpaaRefs
namespace Go.Proofs.Ytcbjkpblailfpaa
open Go.RowKit

/-- The lowest bits are the rest, of numbers below 0 too. -/
theorem bits_any (x : Int) (k : Nat) (hk : k ≤ 8) : bits .and .i64 x (((2 ^ k - 1 : Nat) : Int)) = x % ((2 ^ k : Nat) : Int) := by
  rw [bits_and_def]
  have h2 : (2 : Nat) ^ k ≤ 2 ^ 8 := Nat.pow_le_pow_right (by decide) hk
  have h3 : 0 < (2 : Nat) ^ k := Nat.pow_pos (by decide)
  rw [BitVec.toNat_and, BitVec.ofInt_natCast, BitVec.toNat_ofNat, Nat.mod_eq_of_lt (a := 2 ^ k - 1) (by omega), Nat.and_two_pow_sub_one_eq_mod, BitVec.toNat_ofInt]
  have hd : ((2 ^ k : Nat) : Int) ∣ ((2 ^ 64 : Nat) : Int) := Int.natCast_dvd_natCast.2 (Nat.pow_dvd_pow 2 (by omega))
  have h0 : 0 ≤ x % ((2 ^ 64 : Nat) : Int) := Int.emod_nonneg _ (by decide)
  have h5 : (((x % ((2 ^ 64 : Nat) : Int)).toNat % 2 ^ k : Nat) : Int) = x % ((2 ^ k : Nat) : Int) := by
    rw [Int.natCast_emod, Int.toNat_of_nonneg h0, Int.emod_emod_of_dvd _ hd]
  have h4 := Int.emod_lt_of_pos x (b := ((2 ^ k : Nat) : Int)) (by omega)
  have h6 := Int.emod_nonneg x (b := ((2 ^ k : Nat) : Int)) (by omega)
  rw [h5, IntKind.wrap_i64]
  omega

/-- Kind, thread, item and layer of a word. -/
def kdV (w : Int) : Int :=
  if w = 0 then 0 else if w = 5 then 5
  else if 1 ≤ w % 8 ∧ w % 8 ≤ 3 ∧ 0 ≤ w / 8 - 1 ∧ w / 8 - 1 ≤ 15 then w % 8
  else if w % 8 = 4 ∧ 0 ≤ (w / 8 - 1) / 16 ∧ (w / 8 - 1) / 16 ≤ 3 ∧ 1 ≤ (w / 8 - 1) % 16 ∧ (w / 8 - 1) % 16 ≤ 3 then 4 else -1
def whV (w : Int) : Int := if 1 ≤ kdV w ∧ kdV w ≤ 3 then w / 8 - 1 else -1
def itV (w : Int) : Int := if kdV w = 4 then (w / 8 - 1) / 16 else -1
def lyV (w : Int) : Int := if kdV w = 4 then (w / 8 - 1) % 16 else 0

/-- What is taken apart, and the nearest that may be. -/
def clV (n a b : Int) : Int := if n < a then a else if b < n then b else n

/-- The words. -/
def opV (i l : Int) : Int := 8 * (16 * i + l + 1) + 4
def frV (k t : Int) : Int := 8 * (t + 1) + k

theorem kd_fr {k t : Int} (hk : 1 ≤ k ∧ k ≤ 3) (ht : 0 ≤ t ∧ t ≤ 15) : kdV (frV k t) = k ∧ whV (frV k t) = t := by
  have h : kdV (frV k t) = k := by
    unfold kdV frV
    rw [if_neg (by omega), if_neg (by omega), if_pos (by omega)]; omega
  refine ⟨h, ?_⟩
  unfold whV
  rw [h, if_pos (by omega)]
  unfold frV
  omega
theorem kd_op {i l : Int} (hi : 0 ≤ i ∧ i ≤ 3) (hl : 1 ≤ l ∧ l ≤ 3) : kdV (opV i l) = 4 ∧ whV (opV i l) = -1 ∧ itV (opV i l) = i ∧ lyV (opV i l) = l := by
  have h : kdV (opV i l) = 4 := by
    unfold kdV opV
    rw [if_neg (by omega), if_neg (by omega), if_neg (by omega), if_pos (by omega)]
  unfold whV itV lyV
  rw [h]
  refine ⟨rfl, rfl, ?_, ?_⟩
  · rw [if_pos rfl]; unfold opV; omega
  · rw [if_pos rfl]; unfold opV; omega
theorem kd_le (w : Int) : -1 ≤ kdV w ∧ kdV w ≤ 5 := by
  unfold kdV
  repeat' split
  all_goals omega
theorem i64_little {x : Int} (h1 : -1000000000 ≤ x) (h2 : x ≤ 1000000000) : I64 x := by unfold I64; omega
end Go.Proofs.Ytcbjkpblailfpaa
