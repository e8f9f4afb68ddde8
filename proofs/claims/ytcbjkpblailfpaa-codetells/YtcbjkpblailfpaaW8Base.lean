/- The anchor of layer 8's statements. -/
import Derived.Test.YtcbjkpblailfpaaCdR
namespace Go.Proofs.Ytcbjkpblailfpaa
open Go.RowKit Go.Sort

theorem mod16 {t : Int} (h : 0 ≤ t ∧ t ≤ 255) : ∃ k : Int, t.tmod 16 = k ∧ 0 ≤ k ∧ k ≤ 15 := ⟨_, rfl, by rw [Int.tmod_eq_emod_of_nonneg h.1]; omega, by rw [Int.tmod_eq_emod_of_nonneg h.1]; omega⟩
theorem mod4 {t : Int} (h : 0 ≤ t ∧ t ≤ 255) : ∃ k : Int, t.tmod 4 = k ∧ 0 ≤ k ∧ k ≤ 3 := ⟨_, rfl, by rw [Int.tmod_eq_emod_of_nonneg h.1]; omega, by rw [Int.tmod_eq_emod_of_nonneg h.1]; omega⟩
theorem mod3 {t : Int} (h : 0 ≤ t ∧ t ≤ 255) : ∃ d l : Int, t.tmod 3 = d ∧ 1 + d = l ∧ 0 ≤ d ∧ d ≤ 2 ∧ 1 ≤ l ∧ l ≤ 3 := ⟨t.tmod 3, 1 + t.tmod 3, rfl, rfl, by rw [Int.tmod_eq_emod_of_nonneg h.1]; omega, by rw [Int.tmod_eq_emod_of_nonneg h.1]; omega, by rw [Int.tmod_eq_emod_of_nonneg h.1]; omega, by rw [Int.tmod_eq_emod_of_nonneg h.1]; omega⟩

theorem op12 : opV 1 2 = 156 := by decide +kernel
theorem it156 : itV 156 = 1 := by decide +kernel
theorem ly156 : lyV 156 = 2 := by decide +kernel
theorem fr12 : frV 1 2 = 25 := by decide +kernel
theorem kd26 : kdV 26 = 2 := by decide +kernel
theorem wh27 : whV 27 = 2 := by decide +kernel
theorem kd5 : kdV 5 = 5 := by decide +kernel
theorem kd0 : kdV 0 = 0 := by decide +kernel
theorem kd9 : kdV 9 = 1 := by decide +kernel
theorem kd1 : kdV 1 = -1 := by decide +kernel

set_option maxRecDepth 100000 in
set_option maxHeartbeats 1000000 in
theorem shown8_any (w : World) : Calls Try.prog 14 #[] w (BoolPost true w) := by
  have c1 := fun w => hide (open_any 1 2 (by omega) (by omega) w)
  rw [op12] at c1
  have c2 := fun w => hide (where_any 156 (i64_little (by omega) (by omega)) w)
  rw [it156, ly156] at c2
  have c3 := fun w => hide (first_any 2 (by omega) w)
  rw [fr12] at c3
  have c4 := fun w => hide (kind_any 26 (i64_little (by omega) (by omega)) w)
  rw [kd26] at c4
  have c5 := fun w => hide (who_any 27 (i64_little (by omega) (by omega)) w)
  rw [wh27] at c5
  have c6 := fun w => hide (kind_any 5 (i64_little (by omega) (by omega)) w)
  rw [kd5] at c6
  have c7 := fun w => hide (kind_any 0 (i64_little (by omega) (by omega)) w)
  rw [kd0] at c7
  have c8 := fun w => hide (kind_any 9 (i64_little (by omega) (by omega)) w)
  rw [kd9] at c8
  have c9 := fun w => hide (kind_any 1 (i64_little (by omega) (by omega)) w)
  rw [kd1] at c9
  go_enter Try.func14, Try.ntmps14
  go_wp2_with (first
    | (go_at_call 21; refine ((c1 _).out).mono ?_; clear c1; rintro e w1 ⟨rfl, hb1⟩)
    | (go_at_call 8; refine ((c2 _).out).mono ?_; clear c2; rintro e w2 ⟨rfl, hb2⟩)
    | (go_at_call 15; refine ((c3 _).out).mono ?_; clear c3; rintro e w3 ⟨rfl, hb3⟩)
    | (go_at_call 10; refine ((c4 _).out).mono ?_; clear c4; rintro e w4 ⟨rfl, hb4⟩)
    | (go_at_call 12; refine ((c5 _).out).mono ?_; clear c5; rintro e w5 ⟨rfl, hb5⟩)
    | (go_at_call 10; refine ((c6 _).out).mono ?_; clear c6; rintro e w6 ⟨rfl, hb6⟩)
    | (go_at_call 10; refine ((c7 _).out).mono ?_; clear c7; rintro e w7 ⟨rfl, hb7⟩)
    | (go_at_call 10; refine ((c8 _).out).mono ?_; clear c8; rintro e w8 ⟨rfl, hb8⟩)
    | (go_at_call 10; refine ((c9 _).out).mono ?_; clear c9; rintro e w9 ⟨rfl, hb9⟩))
  have k2 := below_next hb1 hb1.size hb2
  have k3 := below_next k2 k2.size hb3
  have k4 := below_next k3 k3.size hb4
  have k5 := below_next k4 k4.size hb5
  have k6 := below_next k5 k5.size hb6
  have k7 := below_next k6 k6.size hb7
  have k8 := below_next k7 k7.size hb8
  have k9 := below_next k8 k8.size hb9
  go_ret
  exact ⟨rfl, k9⟩
end Go.Proofs.Ytcbjkpblailfpaa
