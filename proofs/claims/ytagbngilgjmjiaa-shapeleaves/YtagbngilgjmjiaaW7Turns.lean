/- The walk of ShapeTurns. -/
import Derived.Test.YtagbngilgjmjiaaW7Base
import Derived.Test.YtagbngilgjmjiaaW7Math
namespace Go.Proofs.Ytagbngilgjmjiaa
open Go.RowKit

theorem leaf_turn (d : Nat) (hd : d ≤ 3) (t m : Int) : leafV ((d : Int) + 1) (t + p2 (d + 1) * m) = leafV ((d : Int) + 1) t := by
  have h : d = 0 ∨ d = 1 ∨ d = 2 ∨ d = 3 := by omega
  rcases h with rfl | rfl | rfl | rfl <;> simp [leafV, kV, p2] <;> omega
theorem p2_le {j : Nat} (h : j ≤ 4) : 1 ≤ p2 j ∧ p2 j ≤ 16 := by
  have hj : j = 0 ∨ j = 1 ∨ j = 2 ∨ j = 3 ∨ j = 4 := by omega
  rcases hj with rfl | rfl | rfl | rfl | rfl <;> simp [p2]
theorem p2_twice (j : Nat) : 2 * p2 j = p2 (j + 1) := by unfold p2; rw [Nat.pow_succ]; omega

set_option maxRecDepth 100000 in
set_option maxHeartbeats 2000000 in
theorem walkTurns (dp t m : Int) (hdp : 0 ≤ dp ∧ dp ≤ 255) (ht : 0 ≤ t ∧ t ≤ 65535) (hm : 0 ≤ m ∧ m ≤ 255) (w : World) :
    Calls Try.prog 7 #[.int .u8 dp, .int .u16 t, .int .u8 m] w (BoolPost true w) := by
  obtain ⟨d, hd, hdl⟩ : ∃ d : Nat, dp.tmod 4 = (d : Int) ∧ d ≤ 3 := ⟨(dp % 4).toNat, by rw [Int.tmod_eq_emod_of_nonneg hdp.1]; omega, by omega⟩
  have hd1 : (1 : Int) + (d : Int) = (d : Int) + 1 := by omega
  have hD : 0 ≤ (d : Int) + 1 ∧ (d : Int) + 1 ≤ 4 := by omega
  have hp := p2_le (j := d + 1) (by omega)
  have hmul : 0 ≤ p2 (d + 1) * m ∧ p2 (d + 1) * m ≤ 16 * 255 := ⟨Int.mul_nonneg (by omega) hm.1, Int.mul_le_mul hp.2 hm.2 hm.1 (by omega)⟩
  obtain ⟨pm, hpm⟩ : ∃ pm, p2 (d + 1) * m = pm := ⟨_, rfl⟩
  have HLT := hide (leaf_turn d hdl t m)
  rw [hpm] at hmul HLT
  obtain ⟨u, hu⟩ : ∃ u, t + pm = u := ⟨_, rfl⟩
  rw [hu] at HLT
  have hub : 0 ≤ u ∧ u ≤ 100000 := by omega
  have t64 : I64 t := i64_small (by omega) (by omega)
  have u64 : I64 u := i64_small (by omega) (by omega)
  have HP : Hid (pathV ((d : Int) + 1) u = pathV ((d : Int) + 1) t) := hide (by unfold pathV; rw [HLT.out])
  have HM1 : Hid (meetV ((d : Int) + 1) t u = leafV ((d : Int) + 1) u) := hide (by rw [meet_leaf _ t u (by omega) HLT.out.symm, HLT.out])
  have HM2 : Hid (meetV ((d : Int) + 1) u u = leafV ((d : Int) + 1) t) := hide (by rw [meet_leaf _ u u (by omega) rfl, HLT.out])
  have hlen : (pathV ((d : Int) + 1) t).length ≤ 63 := upV_length (leaf_i64 _ t hD ht.1)
  have c1 := fun w => hide (path_any ((d : Int) + 1) t hD ht.1 t64 w)
  have c2 := fun w => hide (path_any ((d : Int) + 1) u hD hub.1 u64 w)
  have c3 := fun w => hide (meet_any ((d : Int) + 1) t u hD ht.1 t64 hub.1 u64 w)
  have c4 := fun w => hide (leaf_any ((d : Int) + 1) u hD hub.1 u64 w)
  have c5 := fun w => hide (meet_any ((d : Int) + 1) u u hD hub.1 u64 hub.1 u64 w)
  have c6 := fun w => hide (leaf_any ((d : Int) + 1) t hD ht.1 t64 w)
  have HPM := hide hpm
  have HU := hide hu
  clear hpm hu
  go_enter Try.func7, Try.ntmps7
  go_wp2
  go_loopw [8, 9] (fun k i wr => ∃ j : Nat, j ≤ d ∧ i = .int .i64 ((j : Int) + 1) ∧ k = .int .i64 (p2 (j + 1)) ∧ wr = w) (fun _ i _ => d + 1 - (intOf i).toNat)
  case atStart => exact ⟨0, Nat.zero_le _, rfl, by simp [p2], rfl⟩
  case round =>
    obtain ⟨j, hj, rfl, rfl, rfl⟩ := hrel
    by_cases hlt : j < d
    · have hw : Hid (wrap64 (2 * p2 (j + 1)) = p2 (j + 1 + 1)) := hide (by
        have := p2_le (j := j + 1 + 1) (by omega)
        rw [p2_twice]; exact wrap64_id (i64_small (by omega) (by omega)))
      have hw' := p2_twice (j + 1)
      have hb := p2_le (j := j + 1 + 1) (by omega)
      clear c1 c2 c3 c4 c5 c6
      go_wp2
      go_roundw
      case rel => exact ⟨j + 1, by omega, by go_num, by first | rw [hw.out] | rfl | rw [hw'], trivial⟩
      case measure => simp [intOf]; omega
    · obtain rfl : j = d := by omega
      have hpm := HPM.out
      have hu := HU.out
      go_wp2_with (first
        | (go_at_call 16; refine ((c1 _).out).mono ?_; clear c1; rintro e w1 ⟨A, c, rfl, hcc, hs1, hb1⟩)
        | (go_at_call 16; refine ((c2 _).out).mono ?_; clear c2; rw [HP.out]; rintro e w2 ⟨B, c', rfl, hcc', hs2, hb2⟩)
        | (go_at_call 15; refine (ints_any A B c c' _ _ _ _ (by omega) _ (hs1.later hb2) hs2).mono ?_; rw [decide_eq_true rfl]; rintro e w3 ⟨rfl, hb3⟩)
        | (go_at_call 18; refine ((c3 _).out).mono ?_; clear c3; rw [HM1.out]; rintro e w4 ⟨rfl, hb4⟩)
        | (go_at_call 9; refine ((c4 _).out).mono ?_; clear c4; rintro e w5 ⟨rfl, hb5⟩)
        | (go_at_call 18; refine ((c5 _).out).mono ?_; clear c5; rw [HM2.out]; rintro e w6 ⟨rfl, hb6⟩)
        | (go_at_call 9; refine ((c6 _).out).mono ?_; clear c6; rintro e w7 ⟨rfl, hb7⟩)
        | (go_at_call 20; refine (shown7_any _).mono ?_; rintro e w8 ⟨rfl, hb8⟩))
      go_ret
      have k2 := below_next hb1 hb1.size hb2
      have k3 := below_next k2 k2.size hb3
      have k4 := below_next k3 k3.size hb4
      have k5 := below_next k4 k4.size hb5
      have k6 := below_next k5 k5.size hb6
      have k7 := below_next k6 k6.size hb7
      exact ⟨rfl, below_next k7 k7.size hb8⟩
end Go.Proofs.Ytagbngilgjmjiaa
