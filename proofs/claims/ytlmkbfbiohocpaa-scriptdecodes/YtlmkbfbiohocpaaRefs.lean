/- Contracts of the document's own answers for layer 2, and of the turning of entries. -/
import Derived.Test.YtlmkbfbiohocpaaJoin
namespace Go.Proofs.Ytlmkbfbiohocpaa
open Go.RowKit

/-- An empty row that the call makes. -/
theorem own_empty (w : World) (B : Nat) (e : TypeId) (sz : Nat) (hB : B ≤ w.heap.size) : (w.alloc (.cells #[] e)).ownsRow B e sz (.slice (some ⟨w.heap.size, 0, none⟩) 0 0) 0 [] :=
  World.ownsRow_made w #[] 0 hB (by unfold maxLen; omega) (by simp)

theorem prs_take_snoc (l : List E3) (k : Nat) (e : E3) (h : l[k]? = some e) (x lo hi : Int) : prs (l.take (k + 1)) x lo hi = prs (l.take k) x lo hi ++ [allV (l.take k) x lo hi] := by
  rw [take_snoc l k e h, prs_snoc]

theorem take_eq_step {α : Type} [DecidableEq α] {xs ys : List α} {j : Nat} {a b : α} (h : xs.take j = ys.take j) (ha : xs[j]? = some a) (hb : ys[j]? = some b) (he : a = b) : xs.take (j + 1) = ys.take (j + 1) := by
  rw [take_snoc xs j a ha, take_snoc ys j b hb, h, he]
theorem ne_at {α : Type} {xs ys : List α} {j : Nat} {a b : α} (ha : xs[j]? = some a) (hb : ys[j]? = some b) (he : a ≠ b) : xs ≠ ys := by
  rintro rfl
  rw [ha] at hb
  exact he (by injection hb)

end Go.Proofs.Ytlmkbfbiohocpaa
