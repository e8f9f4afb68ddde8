/- Contracts of shape.Leaf and shape.Parent, and of the document's. -/
import Derived.Test.YtpbneghabikpdaaSh
import Derived.Test.YtpbneghabikpdaaRefs
namespace Go.Proofs.Ytpbneghabikpdaa
open Go.RowKit

theorem ret_n {a b : Int} (h : b = a) : Ending.returned (.int .i64 a) = .returned (.int .i64 b) := by rw [h]
theorem half_wrap {n : Int} (hn : I64 n) (h : 0 ≤ n) : wrap64 (n.tdiv 2) = n / 2 := by
  rw [Int.tdiv_eq_ediv_of_nonneg h]
  unfold I64 at hn
  exact wrap64_id (by unfold I64; omega)
theorem leaf_wrap (k : Nat) (hk : k ≤ 3) (c m t : Int) (hc : c = ((2 ^ k : Nat) : Int)) (hm : m = ((2 ^ k - 1 : Nat) : Int)) (ht : I64 t) (h0 : 0 ≤ t) : wrap64 (c + bits .and .i64 (t / 2) m) = c + t / 2 % c := by
  subst hm
  unfold I64 at ht
  rw [bits_low _ k (by omega) (by unfold I64; omega) (by omega), ← hc]
  have hk' : k = 0 ∨ k = 1 ∨ k = 2 ∨ k = 3 := by omega
  rcases hk' with rfl | rfl | rfl | rfl <;> simp at hc <;> subst hc <;> exact wrap64_id (by unfold I64; omega)

theorem leaf_any (D t : Int) (hD : 0 ≤ D ∧ D ≤ 4) (h0 : 0 ≤ t) (ht : I64 t) (w : World) : Calls Try.prog 24 #[.int .i64 D, .int .i64 t] w (IntPost (leafV D t) w) := by
  have hc : D = 0 ∨ D = 1 ∨ D = 2 ∨ D = 3 ∨ D = 4 := by omega
  rcases hc with rfl | rfl | rfl | rfl | rfl
  · have HP : Hid (leafV 0 t = 0) := rfl
    go_enter Try.func24, Try.ntmps24
    go_wp2
    go_ret
    exact ⟨ret_n HP.out, Below.refl _ _⟩
  · have HP : Hid (leafV 1 t = wrap64 (1 + bits .and .i64 (t / 2) 0)) := hide (leaf_wrap 0 (by decide) 1 0 t rfl rfl ht h0).symm
    go_enter Try.func24, Try.ntmps24
    go_wp2
    go_ret
    exact ⟨ret_n HP.out, Below.refl _ _⟩
  · have HP : Hid (leafV 2 t = wrap64 (2 + bits .and .i64 (t / 2) 1)) := hide (leaf_wrap 1 (by decide) 2 1 t rfl rfl ht h0).symm
    go_enter Try.func24, Try.ntmps24
    go_wp2
    go_ret
    exact ⟨ret_n HP.out, Below.refl _ _⟩
  · have HP : Hid (leafV 3 t = wrap64 (4 + bits .and .i64 (t / 2) 3)) := hide (leaf_wrap 2 (by decide) 4 3 t rfl rfl ht h0).symm
    go_enter Try.func24, Try.ntmps24
    go_wp2
    go_ret
    exact ⟨ret_n HP.out, Below.refl _ _⟩
  · have HP : Hid (leafV 4 t = wrap64 (8 + bits .and .i64 (t / 2) 7)) := hide (leaf_wrap 3 (by decide) 8 7 t rfl rfl ht h0).symm
    go_enter Try.func24, Try.ntmps24
    go_wp2
    go_ret
    exact ⟨ret_n HP.out, Below.refl _ _⟩

/-- 2 to the j. -/
def p2 (j : Nat) : Int := ((2 ^ j : Nat) : Int)

theorem rleaf_any (D t : Int) (hD : 0 ≤ D ∧ D ≤ 4) (h0 : 0 ≤ t) (ht : I64 t) (w : World) : Calls Try.prog 29 #[.int .i64 D, .int .i64 t] w (IntPost (leafV D t) w) := by
  by_cases hz : D = 0
  · subst hz
    have HP : Hid (leafV 0 t = 0) := rfl
    go_enter Try.func29, Try.ntmps29
    go_wp2
    go_ret
    exact ⟨ret_n HP.out, Below.refl _ _⟩
  · obtain ⟨d, rfl, hd⟩ : ∃ d : Nat, D = (d : Int) + 1 ∧ d ≤ 3 := ⟨(D - 1).toNat, by omega, by omega⟩
    have HP : Hid (wrap64 (p2 d + (wrap64 (t.tdiv 2)).tmod (p2 d)) = leafV ((d : Int) + 1) t) := hide (by
      rw [half_wrap ht h0]
      unfold I64 at ht
      have hd' : d = 0 ∨ d = 1 ∨ d = 2 ∨ d = 3 := by omega
      rcases hd' with rfl | rfl | rfl | rfl
      all_goals simp [p2, leafV, kV]
      · unfold wrap64; omega
      all_goals
        rw [Int.tmod_eq_emod_of_nonneg (by omega)]
        unfold wrap64
        omega)
    have hne : p2 d ≠ 0 := by unfold p2; have : 0 < 2 ^ d := Nat.pow_pos (by decide); omega
    go_enter Try.func29, Try.ntmps29
    go_wp2
    go_loopw [5, 6] (fun k i wr => ∃ j : Nat, j ≤ d ∧ i = .int .i64 ((j : Int) + 1) ∧ k = .int .i64 (p2 j) ∧ wr = w) (fun _ i _ => d + 1 - (intOf i).toNat)
    case atStart => exact ⟨0, Nat.zero_le _, rfl, rfl, rfl⟩
    case round =>
      obtain ⟨j, hj, rfl, rfl, rfl⟩ := hrel
      by_cases hlt : j < d
      · have hw : Hid (wrap64 (2 * p2 j) = p2 (j + 1)) := hide (by
          have hj' : j = 0 ∨ j = 1 ∨ j = 2 := by omega
          rcases hj' with rfl | rfl | rfl <;> simp [p2] <;> (unfold wrap64; omega))
        go_wp2
        go_roundw
        case rel => exact ⟨j + 1, by omega, by go_num, by rw [hw.out], trivial⟩
        case measure => simp [intOf]; omega
      · obtain rfl : j = d := by omega
        go_wp2
        go_ret
        exact ⟨ret_n HP.out.symm, Below.refl _ _⟩
end Go.Proofs.Ytpbneghabikpdaa
