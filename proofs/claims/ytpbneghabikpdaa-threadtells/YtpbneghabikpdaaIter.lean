/- batch's iterator: what it tells, entry by entry. -/
import Derived.Test.YtpbneghabikpdaaOps
import Derived.Test.YtpbneghabikpdaaRead
import Derived.RangeFuncBox
import Derived.RangeFuncNested
import Derived.RangeFuncLeaves
import Derived.RangeFuncBound
import Derived.RangeFuncCalls
import Derived.Shelf.Abstract
import Derived.OwnWalkIn
import Derived.TacticsInMore
import Derived.LoopNIn
import Derived.LoopIn
namespace Go.Proofs.Ytpbneghabikpdaa
open Go.RowKit Go.Shelf

attribute [local go_sem] Oper.semAt_some

abbrev encP (p : Int × Int) : Array Value := #[.int .i64 p.1, .int .i64 p.2]

/-- What a round keeps: what lay below n₀, and the boxes m .. k - 1. -/
structure Keep (n₀ m k : Nat) (W W' : World) : Prop where
  size : W.heap.size ≤ W'.heap.size
  block : ∀ b, (b < n₀ ∨ (m ≤ b ∧ b < k)) → W'.heap[b]? = W.heap[b]?
theorem Keep.refl (n₀ m k : Nat) (W : World) : Keep n₀ m k W W := ⟨Nat.le_refl _, fun _ _ => rfl⟩
theorem Keep.trans {n₀ m k : Nat} {A B C : World} (h : Keep n₀ m k A B) (h' : Keep n₀ m k B C) : Keep n₀ m k A C :=
  ⟨Nat.le_trans h.size h'.size, fun b hb => (h'.block b hb).trans (h.block b hb)⟩
theorem Keep.cell {n₀ m k : Nat} {A B : World} (h : Keep n₀ m k A B) {p : Addr} (hp : p.block < n₀ ∨ (m ≤ p.block ∧ p.block < k)) : B.cell? p = A.cell? p := World.cell?_of_block (h.block _ hp)
theorem Keep.of_below {n₀ m k : Nat} {A B : World} (h : Below A.heap.size A B) (hn : n₀ ≤ A.heap.size) (hk : k ≤ A.heap.size) : Keep n₀ m k A B :=
  ⟨h.size, fun b hb => h.block b (by omega)⟩
theorem Keep.put {n₀ m k : Nat} {w : World} (hn : n₀ ≤ w.heap.size) (hk : k ≤ w.heap.size) (W : World) (l : Nat) (o o' : Obj) (hl : w.heap.size ≤ l) (_ : W.heap[l]? = some o) (_ : o.isCells = false) (_ : o.isWalk = false) : Keep n₀ m k W (W.putObj l o') :=
  ⟨(grownBy_putObj' W l o').size, fun b hb => (World.putObj_heap_other (by omega))⟩

end Go.Proofs.Ytpbneghabikpdaa
