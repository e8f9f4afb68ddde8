/- The walk of CodeMakes. -/
import Derived.Test.YtcbjkpblailfpaaW8Base
namespace Go.Proofs.Ytcbjkpblailfpaa
open Go.RowKit Go.Sort

set_option maxRecDepth 100000 in
set_option maxHeartbeats 1000000 in
theorem walkMakes (t it ly : Int) (ht : 0 ≤ t ∧ t ≤ 255) (hi : 0 ≤ it ∧ it ≤ 255) (hl : 0 ≤ ly ∧ ly ≤ 255) (w : World) :
    Calls Try.prog 5 #[.int .u8 t, .int .u8 it, .int .u8 ly] w (BoolPost true w) := by
  obtain ⟨k, hk, hk0, hk1⟩ := mod16 ht
  obtain ⟨i, hi', hi0, hi1⟩ := mod4 hi
  obtain ⟨d, l, hd, hdl, hd0, hd1, hl0, hl1⟩ := mod3 hl
  have c1 := fun w => hide (first_any k ⟨hk0, hk1⟩ w)
  have c2 := fun w => hide (rfirst_any k ⟨hk0, hk1⟩ w)
  have c3 := fun w => hide (joined_any k ⟨hk0, hk1⟩ w)
  have c4 := fun w => hide (rjoined_any k ⟨hk0, hk1⟩ w)
  have c5 := fun w => hide (deposited_any k ⟨hk0, hk1⟩ w)
  have c6 := fun w => hide (rdeposited_any k ⟨hk0, hk1⟩ w)
  have c7 := fun w => hide (open_any i l ⟨hi0, hi1⟩ ⟨hl0, hl1⟩ w)
  have c8 := fun w => hide (ropen_any i l ⟨hi0, hi1⟩ ⟨hl0, hl1⟩ w)
  generalize frV 1 k = y1 at *
  generalize frV 2 k = y2 at *
  generalize frV 3 k = y3 at *
  generalize opV i l = y4 at *
  go_enter Try.func5, Try.ntmps5
  go_wp2_with (first
    | (go_at_call 15; refine ((c1 _).out).mono ?_; clear c1; rintro e w1 ⟨rfl, hb1⟩)
    | (go_at_call 16; refine ((c2 _).out).mono ?_; clear c2; rintro e w2 ⟨rfl, rfl⟩)
    | (go_at_call 17; refine ((c3 _).out).mono ?_; clear c3; rintro e w3 ⟨rfl, hb3⟩)
    | (go_at_call 18; refine ((c4 _).out).mono ?_; clear c4; rintro e w4 ⟨rfl, rfl⟩)
    | (go_at_call 19; refine ((c5 _).out).mono ?_; clear c5; rintro e w5 ⟨rfl, hb5⟩)
    | (go_at_call 20; refine ((c6 _).out).mono ?_; clear c6; rintro e w6 ⟨rfl, rfl⟩)
    | (go_at_call 21; refine ((c7 _).out).mono ?_; clear c7; rintro e w7 ⟨rfl, hb7⟩)
    | (go_at_call 22; refine ((c8 _).out).mono ?_; clear c8; rintro e w8 ⟨rfl, rfl⟩)
    | (go_at_call 23; refine (told_any _).mono ?_; rintro e w9 ⟨rfl, hb9⟩)
    | (go_at_call 24; refine (rtold_any _).mono ?_; rintro e w10 ⟨rfl, rfl⟩)
    | (go_at_call 14; refine (shown8_any _).mono ?_; rintro e w11 ⟨rfl, hb11⟩))
  have k3 := below_next hb1 hb1.size hb3
  have k5 := below_next k3 k3.size hb5
  have k7 := below_next k5 k5.size hb7
  have k9 := below_next k7 k7.size hb9
  have k11 := below_next k9 k9.size hb11
  go_ret
  exact ⟨rfl, k11⟩
end Go.Proofs.Ytcbjkpblailfpaa
