/- The walk of ShapeLeaves. -/
import Derived.Test.YtagbngilgjmjiaaW7Turns
namespace Go.Proofs.Ytagbngilgjmjiaa
open Go.RowKit

theorem leaf_each (d : Nat) (hd : d ≤ 3) (i : Int) (h0 : 0 ≤ i) (h : i < p2 d) :
    leafV ((d : Int) + 1) (2 * i) = p2 d + i ∧ leafV ((d : Int) + 1) (2 * i + 1) = p2 d + i ∧ leafV ((d : Int) + 1) (2 * i + 2 * p2 d) = p2 d + i := by
  have hc : d = 0 ∨ d = 1 ∨ d = 2 ∨ d = 3 := by omega
  rcases hc with rfl | rfl | rfl | rfl <;> simp [leafV, kV, p2] at h ⊢ <;> omega
theorem lev_each (d : Nat) (hd : d ≤ 3) (i : Int) (h0 : 0 ≤ i) (h : i < p2 d) : levV (p2 d + i) = (d : Int) := by
  obtain ⟨n, rfl⟩ : ∃ n : Nat, i = (n : Int) := ⟨i.toNat, by omega⟩
  have hp := p2_le (j := d) (by omega)
  have hn : n < 2 ^ d := by unfold p2 at h; omega
  have ha : 2 ^ d + n < 16 := by
    have : (2 : Nat) ^ d ≤ 2 ^ 3 := Nat.pow_le_pow_right (by decide) hd
    omega
  have hl : isL (d + 1) (2 ^ d + n) = true := by
    unfold isL
    rw [Nat.pow_succ]
    simp
    omega
  have h1 := ups_first (d + 1) (by omega) _ ha hl
  have h2 := ups_lev (d + 1) (by omega) _ ha 0 (by omega) (by simp [hl])
  rw [h1] at h2
  rw [show p2 d + (n : Int) = ((2 ^ d + n : Nat) : Int) by unfold p2; omega, h2]
  omega

set_option maxRecDepth 100000 in
set_option maxHeartbeats 2000000 in
theorem walkLeaves (dp : Int) (hdp : 0 ≤ dp ∧ dp ≤ 255) (w : World) :
    Calls Try.prog 8 #[.int .u8 dp] w (BoolPost true w) := by
  obtain ⟨d, hd, hdl⟩ : ∃ d : Nat, dp.tmod 4 = (d : Int) ∧ d ≤ 3 := ⟨(dp % 4).toNat, by rw [Int.tmod_eq_emod_of_nonneg hdp.1]; omega, by omega⟩
  have hd1 : (1 : Int) + (d : Int) = (d : Int) + 1 := by omega
  have hD : 0 ≤ (d : Int) + 1 ∧ (d : Int) + 1 ≤ 4 := by omega
  have hp := p2_le (j := d) (by omega)
  go_enter Try.func8, Try.ntmps8
  go_wp2
  go_loopw [4, 5] (fun k i wr => ∃ j : Nat, j ≤ d ∧ i = .int .i64 ((j : Int) + 1) ∧ k = .int .i64 (p2 j) ∧ wr = w) (fun _ i _ => d + 1 - (intOf i).toNat)
  case atStart => exact ⟨0, Nat.zero_le _, rfl, by simp [p2], rfl⟩
  case round =>
    obtain ⟨j, hj, rfl, rfl, rfl⟩ := hrel
    by_cases hlt : j < d
    · have hw : Hid (wrap64 (2 * p2 j) = p2 (j + 1)) := hide (by
        have := p2_le (j := j + 1) (by omega)
        rw [p2_twice]; exact wrap64_id (i64_small (by omega) (by omega)))
      have hw' := p2_twice j
      have hb := p2_le (j := j + 1) (by omega)
      go_wp2
      go_roundw
      case rel => exact ⟨j + 1, by omega, by go_num, by first | rw [hw.out] | rfl | rw [hw'], trivial⟩
      case measure => simp [intOf]; omega
    · obtain rfl : j = d := by omega
      go_wp2
      go_loopw [6] (fun i wz => ∃ x : Int, 0 ≤ x ∧ x ≤ p2 j ∧ i = .int .i64 x ∧ Below wr.heap.size wr wz) (fun i _ => (p2 j - intOf i).toNat)
      case atStart => exact ⟨0, by omega, by omega, rfl, Below.refl _ _⟩
      case round =>
        obtain ⟨x, h0, hx, rfl, hB⟩ := hrel
        by_cases hxl : x < p2 j
        · obtain ⟨e1, e2, e3⟩ := leaf_each j hdl x h0 hxl
          have E1 := hide e1
          have E2 := hide e2
          have E3 := hide e3
          have E4 := hide (lev_each j hdl x h0 hxl)
          clear e1 e2 e3
          obtain ⟨q, hq⟩ : ∃ q, p2 j = q := ⟨_, rfl⟩
          have c1 := fun w => hide (leaf_any ((j : Int) + 1) (2 * x) hD (by omega) (i64_small (by omega) (by omega)) w)
          have c2 := fun w => hide (leaf_any ((j : Int) + 1) (2 * x + 1) hD (by omega) (i64_small (by omega) (by omega)) w)
          have c3 := fun w => hide (leaf_any ((j : Int) + 1) (2 * x + 2 * p2 j) hD (by omega) (i64_small (by omega) (by omega)) w)
          have c4 := fun w => hide (level_any (p2 j + x) (i64_small (by omega) (by omega)) w)
          clear hq
          go_wp2_with (first
            | (go_at_call 9; refine ((c1 _).out).mono ?_; clear c1; rw [E1.out]; rintro e w1 ⟨rfl, hb1⟩)
            | (go_at_call 9; refine ((c2 _).out).mono ?_; clear c2; rw [E2.out]; rintro e w2 ⟨rfl, hb2⟩)
            | (go_at_call 13; refine ((c4 _).out).mono ?_; clear c4; rw [E4.out]; rintro e w3 ⟨rfl, hb3⟩)
            | (go_at_call 9; refine ((c3 _).out).mono ?_; clear c3; rw [E3.out]; rintro e w4 ⟨rfl, hb4⟩))
          have k1 := below_next hB hB.size hb1
          have k2 := below_next k1 k1.size hb2
          have k3 := below_next k2 k2.size hb3
          have k4 := below_next k3 k3.size hb4
          go_roundw
          case rel => exact ⟨x + 1, by omega, by omega, by go_num, k4⟩
          case measure => simp [intOf]; omega
        · obtain rfl : x = p2 j := by omega
          go_wp2_with (go_at_call 20; refine (shown7_any _).mono ?_; rintro e w8 ⟨rfl, hb8⟩)
          go_ret
          exact ⟨rfl, below_next hB hB.size hb8⟩
end Go.Proofs.Ytagbngilgjmjiaa
