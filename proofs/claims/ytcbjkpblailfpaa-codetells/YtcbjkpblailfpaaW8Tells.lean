/- The walk of CodeTells. -/
import Derived.Test.YtcbjkpblailfpaaW8Base
namespace Go.Proofs.Ytcbjkpblailfpaa
open Go.RowKit Go.Sort

set_option maxRecDepth 100000 in
set_option maxHeartbeats 1000000 in
theorem walkTells (x : Int) (hx : I64 x) (w : World) : Calls Try.prog 3 #[.int .i64 x] w (BoolPost true w) := by
  have c1 := fun w => hide (where_any x hx w)
  have c2 := fun w => hide (rwhere_any x hx w)
  have c3 := fun w => hide (kind_any x hx w)
  have c4 := fun w => hide (rkind_any x hx w)
  have c5 := fun w => hide (who_any x hx w)
  have c6 := fun w => hide (rwho_any x hx w)
  generalize kdV x = k at *
  generalize whV x = t at *
  generalize itV x = i at *
  generalize lyV x = l at *
  go_enter Try.func3, Try.ntmps3
  go_wp2_with (first
    | (go_at_call 8; refine ((c1 _).out).mono ?_; clear c1; rintro e w1 ⟨rfl, hb1⟩)
    | (go_at_call 9; refine ((c2 _).out).mono ?_; clear c2; rintro e w2 ⟨rfl, rfl⟩)
    | (go_at_call 10; refine ((c3 _).out).mono ?_; clear c3; rintro e w3 ⟨rfl, hb3⟩)
    | (go_at_call 11; refine ((c4 _).out).mono ?_; clear c4; rintro e w4 ⟨rfl, rfl⟩)
    | (go_at_call 12; refine ((c5 _).out).mono ?_; clear c5; rintro e w5 ⟨rfl, hb5⟩)
    | (go_at_call 13; refine ((c6 _).out).mono ?_; clear c6; rintro e w6 ⟨rfl, rfl⟩)
    | (go_at_call 14; refine (shown8_any _).mono ?_; rintro e w7 ⟨rfl, hb7⟩))
  have k3 := below_next hb1 hb1.size hb3
  have k5 := below_next k3 k3.size hb5
  have k7 := below_next k5 k5.size hb7
  go_ret
  exact ⟨rfl, k7⟩
end Go.Proofs.Ytcbjkpblailfpaa
