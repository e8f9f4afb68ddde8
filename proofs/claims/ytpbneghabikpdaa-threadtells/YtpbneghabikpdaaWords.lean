/- Contracts of wmem's steps on words, and of the document's own. -/
import Derived.Test.YtpbneghabikpdaaMem
namespace Go.Proofs.Ytpbneghabikpdaa
open Go.RowKit

/-- The place k of an own row: written, and what it is then. -/
theorem own_set {w w' : World} {A : Option Addr} {c n k : Nat} {e : TypeId} {xs : List Value} (v : Value) (h : w'.ownsRow w.heap.size e 1 (.slice A n c) n xs) (hk : k < n) :
    ∃ g u, A = some ⟨g, 0, none⟩ ∧ w.heap.size ≤ g ∧ w'.cell? ⟨g, k, none⟩ = some u ∧ w'.frozen? ⟨g, k, none⟩ = false ∧
      Sees (w'.setCell ⟨g, k, none⟩ v) w'.heap.size 1 A n (xs.set k v) := by
  have hs := Sees.of_own h
  have hf := fresh_own h
  rcases h.2 with ⟨hv, h0⟩ | ⟨g, cap, cur, hv, hb, hg, h1, h2, h3, h4⟩
  · omega
  · have hA : A = some ⟨g, 0, none⟩ := by injection hv
    subst hA
    have hl := h.1
    refine ⟨g, xs[k]'(by omega), rfl, hb, ?_, h.frozenAt k, ?_⟩
    · rw [h.cellAt k (by omega)]; exact List.getElem?_eq_getElem _
    · have := hs.set v hk
      rwa [Nat.zero_add] at this

end Go.Proofs.Ytpbneghabikpdaa
