/- The walk of ShapeKids. -/
import Derived.Test.YtagbngilgjmjiaaW7Base
namespace Go.Proofs.Ytagbngilgjmjiaa
open Go.RowKit

theorem par_even {k : Int} (h : 1 ≤ k) : parV (2 * k) = k := by unfold parV; rw [if_neg (by omega)]; omega
theorem par_odd {k : Int} (h : 1 ≤ k) : parV (2 * k + 1) = k := by unfold parV; rw [if_neg (by omega)]; omega
theorem par_low {k : Int} (h : k ≤ 1) : parV k = 0 := by unfold parV; rw [if_pos h]

set_option maxRecDepth 100000 in
set_option maxHeartbeats 2000000 in
theorem walkKids (n : Int) (hn : 0 ≤ n ∧ n ≤ 65535) (w : World) :
    Calls Try.prog 6 #[.int .u16 n] w (BoolPost true w) := by
  obtain ⟨k, hk⟩ : ∃ k, 1 + n = k := ⟨_, rfl⟩
  have hk1 : 1 ≤ k := by omega
  have hk2 : k ≤ 65536 := by omega
  have a1 : I64 (2 * k) := i64_small (by omega) (by omega)
  have a2 : I64 (2 * k + 1) := i64_small (by omega) (by omega)
  have a3 : I64 k := i64_small (by omega) (by omega)
  have a4 : I64 (-k) := i64_small (by omega) (by omega)
  have a5 : I64 1 := i64_small (by omega) (by omega)
  have E1 := hide (par_even hk1)
  have E2 := hide (par_odd hk1)
  have E3 : Hid (levV (2 * k) = levV k + 1) := hide (by rw [lev_step (by omega), par_even hk1])
  have E4 : Hid (levV (2 * k + 1) = levV k + 1) := hide (by rw [lev_step (by omega), par_odd hk1])
  have E5 : Hid (parV 1 = 0) := hide (par_low (by omega))
  have E6 : Hid (parV (-k) = 0) := hide (par_low (by omega))
  have E7 : Hid (levV (-k) = 0) := hide (lev_low (by omega))
  have l1 := lev_lo k
  have l2 := lev_hi a3
  have c1 := fun w => hide (parent_any (2 * k) a1 w)
  have c2 := fun w => hide (parent_any (2 * k + 1) a2 w)
  have c3 := fun w => hide (level_any (2 * k) a1 w)
  have c4 := fun w => hide (level_any (2 * k + 1) a2 w)
  have c5 := fun w => hide (level_any k a3 w)
  have c9 := fun w => hide (level_any k a3 w)
  have c6 := fun w => hide (parent_any 1 a5 w)
  have c7 := fun w => hide (parent_any (-k) a4 w)
  have c8 := fun w => hide (level_any (-k) a4 w)
  clear a1 a2 a3 a4 a5
  go_enter Try.func6, Try.ntmps6
  go_wp2_with (first
    | (go_at_call 11; refine ((c1 _).out).mono ?_; clear c1; rw [E1.out]; rintro e w1 ⟨rfl, hb1⟩)
    | (go_at_call 11; refine ((c2 _).out).mono ?_; clear c2; rw [E2.out]; rintro e w2 ⟨rfl, hb2⟩)
    | (go_at_call 13; refine ((c3 _).out).mono ?_; clear c3; rw [E3.out]; rintro e w3 ⟨rfl, hb3⟩)
    | (go_at_call 13; refine ((c5 _).out).mono ?_; clear c5; rintro e w4 ⟨rfl, hb4⟩)
    | (go_at_call 13; refine ((c4 _).out).mono ?_; clear c4; rw [E4.out]; rintro e w5 ⟨rfl, hb5⟩)
    | (go_at_call 13; refine ((c9 _).out).mono ?_; clear c9; rintro e w6 ⟨rfl, hb6⟩)
    | (go_at_call 11; refine ((c6 _).out).mono ?_; clear c6; rw [E5.out]; rintro e w7 ⟨rfl, hb7⟩)
    | (go_at_call 11; refine ((c7 _).out).mono ?_; clear c7; rw [E6.out]; rintro e w8 ⟨rfl, hb8⟩)
    | (go_at_call 13; refine ((c8 _).out).mono ?_; clear c8; rw [E7.out]; rintro e w9 ⟨rfl, hb9⟩)
    | (go_at_call 20; refine (shown7_any _).mono ?_; rintro e w10 ⟨rfl, hb10⟩))
  go_ret
  have k2 := below_next hb1 hb1.size hb2
  have k3 := below_next k2 k2.size hb3
  have k4 := below_next k3 k3.size hb4
  have k5 := below_next k4 k4.size hb5
  have k6 := below_next k5 k5.size hb6
  have k7 := below_next k6 k6.size hb7
  have k8 := below_next k7 k7.size hb8
  have k9 := below_next k8 k8.size hb9
  exact ⟨rfl, below_next k9 k9.size hb10⟩
end Go.Proofs.Ytagbngilgjmjiaa
