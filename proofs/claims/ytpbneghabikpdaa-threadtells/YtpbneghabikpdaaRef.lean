/- Contracts of the document's own answers for layer 1: the same plain mathematics. -/
import Derived.Test.YtpbneghabikpdaaOps
namespace Go.Proofs.Ytpbneghabikpdaa
open Go.RowKit

theorem rput_no {x v lo hi : Int} (hx : I64 x) (hv : I64 v) (hl : I64 lo) (hh : I64 hi) (h : ¬(0 ≤ v ↔ x ≤ wrap64 (x + v)) ∨ wrap64 (x + v) < lo ∨ hi < wrap64 (x + v)) :
    apV 8 v x lo hi = x ∧ apB 8 v x lo hi = false := by
  have hb : putB x v lo hi = false := put_no hx hv hl hh (by omega)
  rw [(apV8 v x lo hi).1, (apV8 v x lo hi).2]
  exact ⟨by simp [putV, hb], hb⟩
theorem rput_yes {x v lo hi : Int} (hx : I64 x) (hv : I64 v) (h : 0 ≤ v ↔ x ≤ wrap64 (x + v)) (h1 : lo ≤ wrap64 (x + v)) (h2 : wrap64 (x + v) ≤ hi) :
    apV 8 v x lo hi = wrap64 (x + v) ∧ apB 8 v x lo hi = true := by
  obtain ⟨hb, e⟩ := put_yes hx hv (by omega) h1 h2
  rw [(apV8 v x lo hi).1, (apV8 v x lo hi).2]
  exact ⟨by simp [putV, hb, e], hb⟩

def mayB (t v : Int) (b : Bool) : Bool := if b = true then decide (t = 8) || (decide (t = 9) && decide (0 ≤ v)) else decide (1 ≤ t) && decide (t ≤ 7)
def MayPost (t v : Int) (b : Bool) (w : World) (e : Ending) (w' : World) : Prop := e = .returned (.bool (mayB t v b)) ∧ Below w.heap.size w w'

end Go.Proofs.Ytpbneghabikpdaa
