/- The walk of CodeNothing. -/
import Derived.Test.YtcbjkpblailfpaaW8Base
namespace Go.Proofs.Ytcbjkpblailfpaa
open Go.RowKit Go.Sort

/-- What the four numbers of a word are, one beside the other. -/
theorem four (x : Int) : (kdV x = -1 ∧ x ≠ 0 ∧ whV x = -1 ∧ itV x = -1 ∧ lyV x = 0) ∨ (kdV x = 0 ∧ x = 0 ∧ whV x = -1 ∧ itV x = -1 ∧ lyV x = 0) ∨ (kdV x = 5 ∧ x ≠ 0 ∧ whV x = -1 ∧ itV x = -1 ∧ lyV x = 0)
    ∨ ((kdV x = 1 ∨ kdV x = 2 ∨ kdV x = 3) ∧ x ≠ 0 ∧ (0 ≤ whV x ∧ whV x ≤ 15) ∧ itV x = -1 ∧ lyV x = 0)
    ∨ (kdV x = 4 ∧ x ≠ 0 ∧ whV x = -1 ∧ (0 ≤ itV x ∧ itV x ≤ 3) ∧ (1 ≤ lyV x ∧ lyV x ≤ 3)) := by
  by_cases h0 : x = 0
  · subst h0
    exact .inr (.inl ⟨rfl, rfl, rfl, rfl, rfl⟩)
  by_cases h5 : x = 5
  · subst h5
    exact .inr (.inr (.inl ⟨rfl, h0, rfl, rfl, rfl⟩))
  by_cases h3 : 1 ≤ x % 8 ∧ x % 8 ≤ 3 ∧ 0 ≤ x / 8 - 1 ∧ x / 8 - 1 ≤ 15
  · have hk : kdV x = x % 8 := by unfold kdV; rw [if_neg h0, if_neg h5, if_pos h3]
    obtain ⟨a, b, c⟩ := say_thread (x := x) (by rw [hk]; omega)
    exact .inr (.inr (.inr (.inl ⟨by omega, h0, by omega, b, c⟩)))
  by_cases h4 : x % 8 = 4 ∧ 0 ≤ (x / 8 - 1) / 16 ∧ (x / 8 - 1) / 16 ≤ 3 ∧ 1 ≤ (x / 8 - 1) % 16 ∧ (x / 8 - 1) % 16 ≤ 3
  · have hk : kdV x = 4 := by unfold kdV; rw [if_neg h0, if_neg h5, if_neg h3, if_pos h4]
    obtain ⟨a, b, c⟩ := say_open (x := x) hk
    exact .inr (.inr (.inr (.inr ⟨hk, h0, a, by rw [b]; omega, by rw [c]; omega⟩)))
  · have hk : kdV x = -1 := by unfold kdV; rw [if_neg h0, if_neg h5, if_neg h3, if_neg h4]
    obtain ⟨a, b, c⟩ := say_nothing (x := x) hk
    exact .inl ⟨hk, h0, a, b, c⟩

set_option maxRecDepth 100000 in
set_option maxHeartbeats 2000000 in
theorem walkNothing (x : Int) (hx : I64 x) (w : World) : Calls Try.prog 4 #[.int .i64 x] w (BoolPost true w) := by
  have c1 := fun w => hide (where_any x hx w)
  have c3 := fun w => hide (kind_any x hx w)
  have c5 := fun w => hide (who_any x hx w)
  have hf := four x
  generalize kdV x = k at *
  generalize whV x = t at *
  generalize itV x = i at *
  generalize lyV x = l at *
  rcases hf with ⟨rfl, h0, rfl, rfl, rfl⟩ | ⟨rfl, h0, rfl, rfl, rfl⟩ | ⟨rfl, h0, rfl, rfl, rfl⟩ | ⟨rfl | rfl | rfl, h0, ht, rfl, rfl⟩ | ⟨rfl, h0, rfl, hi, hl⟩
  all_goals
    try have z0 : (x == 0) = false := beq_eq_false_iff_ne.2 h0
    try (subst h0)
    go_enter Try.func4, Try.ntmps4
    go_wp2_with (first
      | (go_at_call 8; refine ((c1 _).out).mono ?_; clear c1; rintro e w1 ⟨rfl, hb1⟩)
      | (go_at_call 10; refine ((c3 _).out).mono ?_; clear c3; rintro e w3 ⟨rfl, hb3⟩)
      | (go_at_call 12; refine ((c5 _).out).mono ?_; clear c5; rintro e w5 ⟨rfl, hb5⟩)
      | (go_at_call 14; refine (shown8_any _).mono ?_; rintro e w7 ⟨rfl, hb7⟩))
    have k5 := below_next hb3 hb3.size hb5
    have k1 := below_next k5 k5.size hb1
    have k7 := below_next k1 k1.size hb7
    go_ret
    first | exact ⟨rfl, k7⟩ | exact ⟨ret_b (decide_eq_true (by omega)).symm, k7⟩
end Go.Proofs.Ytcbjkpblailfpaa
