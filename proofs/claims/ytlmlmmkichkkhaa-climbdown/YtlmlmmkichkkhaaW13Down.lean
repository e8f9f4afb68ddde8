/- The walk of ClimbDown. -/
import Derived.Test.YtlmlmmkichkkhaaW13DownA
import Derived.Test.YtlmlmmkichkkhaaW13DownN
namespace Go.Proofs.Ytlmlmmkichkkhaa
open Go.RowKit Go.Sort
set_option linter.unusedVariables false
set_option linter.unusedSimpArgs false

theorem down_walk (u : Tn) (a : TA) (w : World) (hi : TnIn w u a) : Calls Try.prog 7 #[.agg (tcs u a).toArray] w (BoolPost true w) := by
  by_cases hA : 0 ≤ u.d.pl ∧ u.d.pl < (u.d.hl.length : Int)
  · exact down_walkA u a w hi hA
  · exact down_walkN u a w hi hA
end Go.Proofs.Ytlmlmmkichkkhaa
