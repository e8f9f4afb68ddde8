/- Plain facts about one op, behind the statements of layer 1: order, twice, back, bounds, wider. Nothing of the program. -/
import Derived.Test.YtpbneghabikpdaaPlain
namespace Go.Proofs.Ytpbneghabikpdaa
open Go.RowKit

theorem ofInt_wrap (n : Int) : BitVec.ofInt 64 (IntKind.i64.wrap n) = BitVec.ofInt 64 n := by
  apply BitVec.eq_of_toInt_eq
  rw [IntKind.wrap_i64, BitVec.toInt_ofInt, BitVec.toInt_ofInt]
  simp only [Int.bmod_def]
  omega
theorem ofInt_nat (a : BitVec 64) : BitVec.ofInt 64 (a.toNat : Int) = a := by
  rw [BitVec.ofInt_natCast, BitVec.ofNat_toNat, BitVec.setWidth_eq]
theorem bits_or_def (x y : Int) : bits .or .i64 x y = IntKind.i64.wrap (((BitVec.ofInt 64 x) ||| (BitVec.ofInt 64 y)).toNat : Int) := rfl
theorem bits_and_def (x y : Int) : bits .and .i64 x y = IntKind.i64.wrap (((BitVec.ofInt 64 x) &&& (BitVec.ofInt 64 y)).toNat : Int) := rfl
theorem bv_or (x y : Int) : BitVec.ofInt 64 (bits .or .i64 x y) = BitVec.ofInt 64 x ||| BitVec.ofInt 64 y := by rw [bits_or_def, ofInt_wrap, ofInt_nat]
theorem bv_and (x y : Int) : BitVec.ofInt 64 (bits .and .i64 x y) = BitVec.ofInt 64 x &&& BitVec.ofInt 64 y := by rw [bits_and_def, ofInt_wrap, ofInt_nat]

theorem or_order (x v w : Int) : bits .or .i64 (bits .or .i64 x v) w = bits .or .i64 (bits .or .i64 x w) v := by
  rw [bits_or_def (bits .or .i64 x v), bits_or_def (bits .or .i64 x w), bv_or, bv_or, BitVec.or_assoc, BitVec.or_assoc, BitVec.or_comm (BitVec.ofInt 64 v)]
theorem and_order (x v w : Int) : bits .and .i64 (bits .and .i64 x v) w = bits .and .i64 (bits .and .i64 x w) v := by
  rw [bits_and_def (bits .and .i64 x v), bits_and_def (bits .and .i64 x w), bv_and, bv_and, BitVec.and_assoc, BitVec.and_assoc, BitVec.and_comm (BitVec.ofInt 64 v)]
theorem or_twice (x v : Int) : bits .or .i64 (bits .or .i64 x v) v = bits .or .i64 x v := by
  rw [bits_or_def (bits .or .i64 x v), bv_or, BitVec.or_assoc, BitVec.or_self, ← bits_or_def]
theorem and_twice (x v : Int) : bits .and .i64 (bits .and .i64 x v) v = bits .and .i64 x v := by
  rw [bits_and_def (bits .and .i64 x v), bv_and, BitVec.and_assoc, BitVec.and_self, ← bits_and_def]

theorem ap_order (t v w x : Int) (h : 1 ≤ t ∧ t ≤ 6) : apV t v (apV t w x 0 0) 0 0 = apV t w (apV t v x 0 0) 0 0 := by
  have h : t = 1 ∨ t = 2 ∨ t = 3 ∨ t = 4 ∨ t = 5 ∨ t = 6 := by omega
  rcases h with rfl | rfl | rfl | rfl | rfl | rfl
  · simp only [apV, if_true]; unfold wrap64; omega
  · simp only [apV, if_true]; unfold wrap64; simp; omega
  · simp [apV, or_order x v w]
  · simp [apV, and_order x v w]
  · simp only [apV]; simp; repeat' split
    all_goals omega
  · simp only [apV]; simp; repeat' split
    all_goals omega
theorem ap_twice (t v x : Int) (h : 3 ≤ t ∧ t ≤ 7) : apV t v (apV t v x 0 0) 0 0 = apV t v x 0 0 := by
  have h : t = 3 ∨ t = 4 ∨ t = 5 ∨ t = 6 ∨ t = 7 := by omega
  rcases h with rfl | rfl | rfl | rfl | rfl
  · simp [apV, or_twice]
  · simp [apV, and_twice]
  · simp only [apV]; simp; repeat' split
    all_goals omega
  · simp only [apV]; simp; repeat' split
    all_goals omega
  · simp [apV]
theorem ap_adds (v w x : Int) : apV 1 w (apV 1 v x 0 0) 0 0 = apV 1 (wrap64 (v + w)) x 0 0 := by
  simp only [apV, if_true]; unfold wrap64; omega
theorem ap_true (t v x lo hi : Int) (h : 1 ≤ t ∧ t ≤ 7) : apB t v x lo hi = true := by simp [apB, h]
theorem ap_back (v x lo hi lo' hi' : Int) (hx : I64 x) : apV 2 v (apV 1 v x lo hi) lo' hi' = x := by
  simp only [apV, if_true]; unfold I64 at hx; unfold wrap64; simp; omega
theorem put_back (v x lo hi : Int) (h1 : lo ≤ x) (h2 : x ≤ hi) (h : putB x v lo hi = true) :
    putB (putV x v lo hi) (-v) lo hi = true ∧ putV (putV x v lo hi) (-v) lo hi = x := by
  have e : putV x v lo hi = x + v := by simp [putV, h]
  have hb : putB (x + v) (-v) lo hi = true := by simp [putB]; omega
  rw [e]
  exact ⟨hb, by simp [putV, hb]; omega⟩
end Go.Proofs.Ytpbneghabikpdaa
