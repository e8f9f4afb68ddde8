/- Plain mathematics of layer 7: parents, leaves, ways up, and where two of them meet. Nothing of the program. -/
import Derived.Test.YtpbneghabikpdaaFacts
namespace Go.Proofs.Ytpbneghabikpdaa
open Go.RowKit

def parV (n : Int) : Int := if n ≤ 1 then 0 else n / 2
def kV (D : Int) : Int := if D = 1 then 1 else if D = 2 then 2 else if D = 3 then 4 else 8
def leafV (D t : Int) : Int := if D = 0 then 0 else kV D + t / 2 % kV D

def upsF : Nat → Nat → List Int
  | 0, _ => []
  | f + 1, n => if n = 0 then [] else (n : Int) :: upsF f (n / 2)
/-- n, its parent, and so on, up to 1. -/
def ups (n : Nat) : List Int := upsF n n
def upV (x : Int) : List Int := ups x.toNat
def levV (n : Int) : Int := (upV (parV n)).length
def pathV (D t : Int) : List Int := upV (leafV D t)
def meetL (a b : List Int) : Int := (a.find? (fun n => decide (n ∈ b))).getD 0
def meetV (D t u : Int) : Int := meetL (pathV D t) (pathV D u)
/-- The first place at which two rows are the same. -/
def rmeetL : List Int → List Int → Int
  | a :: l, b :: m => if a = b then a else rmeetL l m
  | _, _ => 0

theorem upsF_fuel : ∀ (f g n : Nat), n ≤ f → n ≤ g → upsF f n = upsF g n
  | 0, 0, _, _, _ => rfl
  | 0, g + 1, n, h, _ => by obtain rfl : n = 0 := by omega
                            simp [upsF]
  | f + 1, 0, n, _, h => by obtain rfl : n = 0 := by omega
                            simp [upsF]
  | f + 1, g + 1, n, h, h' => by
    by_cases hn : n = 0
    · simp [upsF, hn]
    · simp only [upsF, hn, if_false]
      rw [upsF_fuel f g (n / 2) (by omega) (by omega)]
theorem ups_zero : ups 0 = [] := rfl
theorem ups_pos {n : Nat} (h : 0 < n) : ups n = (n : Int) :: ups (n / 2) := by
  obtain ⟨m, rfl⟩ : ∃ m, n = m + 1 := ⟨n - 1, by omega⟩
  show upsF (m + 1) (m + 1) = _
  simp only [upsF, Nat.add_one_ne_zero, if_false]
  rw [upsF_fuel m ((m + 1) / 2) ((m + 1) / 2) (by omega) (by omega)]
  rfl
theorem ups_length_le : ∀ (k n : Nat), n < 2 ^ k → (ups n).length ≤ k
  | 0, n, h => by obtain rfl : n = 0 := by simpa using h
                  simp [ups_zero]
  | k + 1, n, h => by
    rcases Nat.eq_zero_or_pos n with rfl | hp
    · simp [ups_zero]
    · rw [ups_pos hp, List.length_cons]
      have := ups_length_le k (n / 2) (by rw [Nat.pow_succ] at h; omega)
      omega
theorem upV_none {x : Int} (h : x ≤ 0) : upV x = [] := by
  unfold upV; rw [show x.toNat = 0 by omega, ups_zero]
theorem par_nat {x : Int} (h : 0 ≤ x) : (parV x).toNat = x.toNat / 2 := by
  unfold parV; split <;> omega
theorem upV_some {x : Int} (h : 0 < x) : upV x = x :: upV (parV x) := by
  unfold upV
  rw [ups_pos (by omega), par_nat (by omega)]
  rw [show ((x.toNat : Nat) : Int) = x by omega]
theorem par_lo (x : Int) : 0 ≤ parV x := by unfold parV; split <;> omega
theorem par_lt {x : Int} (h : 0 < x) : parV x < x := by unfold parV; split <;> omega
theorem par_i64 {x : Int} (h : I64 x) : I64 (parV x) := by unfold I64 at *; unfold parV; split <;> omega
theorem upV_length {x : Int} (h : I64 x) : (upV x).length ≤ 63 := by
  refine ups_length_le 63 _ ?_
  unfold I64 at h
  have : (2 : Nat) ^ 63 = 9223372036854775808 := by decide
  omega
theorem lev_low {n : Int} (h : n ≤ 1) : levV n = 0 := by
  unfold levV parV
  simp [h, upV_none]
theorem lev_step {n : Int} (h : 1 < n) : levV n = levV (parV n) + 1 := by
  unfold levV
  have : 0 < parV n := by unfold parV; split <;> omega
  rw [upV_some this, List.length_cons]
  omega
theorem lev_lo (n : Int) : 0 ≤ levV n := by unfold levV; omega
theorem lev_hi {n : Int} (h : I64 n) : levV n ≤ 63 := by
  unfold levV
  have := upV_length (par_i64 h)
  omega
theorem lev_i64 {n : Int} (h : I64 n) : I64 (levV n) := by
  have := lev_lo n
  have := lev_hi h
  unfold I64; omega

/-- The lowest bits are the rest. -/
theorem bits_low (x : Int) (k : Nat) (hk : k ≤ 8) (hx : I64 x) (h0 : 0 ≤ x) : bits .and .i64 x (((2 ^ k - 1 : Nat) : Int)) = x % ((2 ^ k : Nat) : Int) := by
  rw [bits_and_def]
  obtain ⟨n, rfl⟩ : ∃ n : Nat, x = (n : Int) := ⟨x.toNat, by omega⟩
  have hn : n < 9223372036854775808 := by unfold I64 at hx; omega
  have h2 : (2 : Nat) ^ k ≤ 2 ^ 8 := Nat.pow_le_pow_right (by decide) hk
  have h3 : 0 < (2 : Nat) ^ k := Nat.pow_pos (by decide)
  rw [BitVec.toNat_and, BitVec.ofInt_natCast, BitVec.ofInt_natCast, BitVec.toNat_ofNat, BitVec.toNat_ofNat, Nat.mod_eq_of_lt (a := n) (by omega), Nat.mod_eq_of_lt (a := 2 ^ k - 1) (by omega), Nat.and_two_pow_sub_one_eq_mod]
  have h4 := Nat.mod_lt n h3
  obtain ⟨r, hr⟩ : ∃ r, n % 2 ^ k = r := ⟨_, rfl⟩
  rw [← Int.natCast_emod, hr]
  rw [hr] at h4
  rw [IntKind.wrap_i64]
  omega

theorem leaf_lo (D t : Int) (_ : 0 ≤ D ∧ D ≤ 4) (_ : 0 ≤ t) : 0 ≤ leafV D t ∧ leafV D t < 16 := by
  unfold leafV kV
  repeat' split
  all_goals omega
theorem leaf_i64 (D t : Int) (hD : 0 ≤ D ∧ D ≤ 4) (ht : 0 ≤ t) : I64 (leafV D t) := by
  have := leaf_lo D t hD ht
  unfold I64; omega
end Go.Proofs.Ytpbneghabikpdaa
