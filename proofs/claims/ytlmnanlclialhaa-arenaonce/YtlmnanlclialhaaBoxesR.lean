/- Contracts of the document's own answers on boxes, and of the turning of entries. -/
import Derived.Test.YtlmnanlclialhaaBoxes
namespace Go.Proofs.Ytlmnanlclialhaa
open Go.RowKit

/-- One box of a new row of boxes is written. -/
theorem bx_set {W w3 : World} {A A3 B : Option Addr} {ws : List Int} {bs : List Bt} {lb : List E3} {g k c : Nat} (m : MemAt W A ws B bs) (hB : Below W.heap.size W w3) (hg : W.heap.size ≤ g)
    (hset : Sees (w3.setCell ⟨g, k, none⟩ (.slice A3 lb.length c)) w3.heap.size 1 (some ⟨g, 0, none⟩) bs.length ((bs.map Bt.val).set k (.slice A3 lb.length c)))
    (hs3 : Sees w3 w3.heap.size 3 A3 lb.length (ecells lb)) (hf : Fresh W A3) (hne : ∀ p, A3 = some p → p.block ≠ g) :
    BxOk W (w3.setCell ⟨g, k, none⟩ (.slice A3 lb.length c)) B bs lb (some ⟨g, 0, none⟩) (bs.set k ⟨A3, c, lb⟩) := by
  have hlen : (bs.set k ⟨A3, c, lb⟩).length = bs.length := by simp
  have hfar : ∀ q, q ∈ bs → q.Ok (w3.setCell ⟨g, k, none⟩ (.slice A3 lb.length c)) := by
    intro q hq
    have h1 : Sees W W.heap.size 3 q.A q.l.length (ecells q.l) := m.each q hq
    exact ((h1.below hB).lt g k _ hg).up (by have := hB.size; simp; omega)
  have hnew : Bt.Ok (w3.setCell ⟨g, k, none⟩ (.slice A3 lb.length c)) ⟨A3, c, lb⟩ := by
    have : Sees (w3.setCell ⟨g, k, none⟩ (.slice A3 lb.length c)) w3.heap.size 3 A3 lb.length (ecells lb) := hs3.far g k _ hne
    exact this.up (by simp)
  refine ⟨?_, ?_, .inr (fun q hq => by cases hq; exact hg), ?_, hlen⟩
  · rw [hlen, List.map_set]
    exact hset.up (by simp)
  · intro q hq
    rcases List.mem_or_eq_of_mem_set hq with h | rfl
    · exact hfar q h
    · exact hnew
  · intro q hq
    rcases List.mem_or_eq_of_mem_set hq with h | rfl
    · exact .inl h
    · exact .inr ⟨hf, rfl⟩

theorem infoRowR : (Try.prog.info? 60).map (fun i => (i.zero, i.size, i.bytes)) = some (some (.slice none 0 0), 1, 24) := by kernel_rfl

end Go.Proofs.Ytlmnanlclialhaa
