/- Contracts of batch.All, batch.Priors and batch.Still. -/
import Derived.Test.YtpbneghabikpdaaIter
namespace Go.Proofs.Ytpbneghabikpdaa
open Go.RowKit Go.Shelf

attribute [local go_sem] Oper.semAt_some

def IntPost (a : Int) (w : World) (e : Ending) (w' : World) : Prop := e = .returned (.int .i64 a) ∧ Below w.heap.size w w'
def BoolPost (p : Bool) (w : World) (e : Ending) (w' : World) : Prop := e = .returned (.bool p) ∧ Below w.heap.size w w'

def RowPost (sz n : Nat) (xs : List Value) (w : World) (e : Ending) (w' : World) : Prop := ∃ A c, e = .returned (.slice A n c) ∧ n ≤ c ∧ Sees w' w'.heap.size sz A n xs ∧ Below w.heap.size w w'

theorem info3 : (Try.prog.info? 3).map (fun i => (i.zero, i.size, i.bytes)) = some (some (.int .i64 0), 1, 8) := by kernel_rfl

end Go.Proofs.Ytpbneghabikpdaa
