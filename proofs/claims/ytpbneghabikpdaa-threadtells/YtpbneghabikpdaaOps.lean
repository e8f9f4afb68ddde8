/- Contracts of the functions of package oper: each returns what the plain mathematics says; nothing that was there has turned. -/
import Derived.Test.YtpbneghabikpdaaRows
import Derived.Test.YtpbneghabikpdaaPlain
import Derived.WalkKit
import Derived.ProofKit
import Derived.OpenShut
namespace Go.Proofs.Ytpbneghabikpdaa
open Go.RowKit

def ApPost (t v x lo hi : Int) (w : World) (e : Ending) (w' : World) : Prop :=
  e = .returned (.tuple #[.int .i64 (apV t v x lo hi), .bool (apB t v x lo hi)]) ∧ Below w.heap.size w w'


theorem apV1 (v x lo hi : Int) : apV 1 v x lo hi = wrap64 (x + v) ∧ apB 1 v x lo hi = true := by simp [apV, apB]
theorem apV2 (v x lo hi : Int) : apV 2 v x lo hi = wrap64 (x - v) ∧ apB 2 v x lo hi = true := by simp [apV, apB]
theorem apV3 (v x lo hi : Int) : apV 3 v x lo hi = bits .or .i64 x v ∧ apB 3 v x lo hi = true := by simp [apV, apB]
theorem apV4 (v x lo hi : Int) : apV 4 v x lo hi = bits .and .i64 x v ∧ apB 4 v x lo hi = true := by simp [apV, apB]
theorem apV5 (v x lo hi : Int) : apV 5 v x lo hi = (if x ≤ v then v else x) ∧ apB 5 v x lo hi = true := by simp [apV, apB]
theorem apV6 (v x lo hi : Int) : apV 6 v x lo hi = (if x ≤ v then x else v) ∧ apB 6 v x lo hi = true := by simp [apV, apB]
theorem apV7 (v x lo hi : Int) : apV 7 v x lo hi = v ∧ apB 7 v x lo hi = true := by simp [apV, apB]
theorem apV8 (v x lo hi : Int) : apV 8 v x lo hi = putV x v lo hi ∧ apB 8 v x lo hi = putB x v lo hi := by simp [apV, apB]
theorem apV9 (v x lo hi : Int) : apV 9 v x lo hi = takeV x v lo ∧ apB 9 v x lo hi = takeB x v lo := by simp [apV, apB]
theorem apV_else (t v x lo hi : Int) (h : t < 1 ∨ 9 < t) : apV t v x lo hi = x ∧ apB t v x lo hi = false := by
  simp only [apV, apB]
  repeat (first | rw [if_neg (by omega)] | rw [if_neg (by omega)])
  simp

theorem wrap_sub (x v : Int) : wrap64 (x - v) = wrap64 (x + wrap64 (-v)) := by unfold wrap64; omega

end Go.Proofs.Ytpbneghabikpdaa
