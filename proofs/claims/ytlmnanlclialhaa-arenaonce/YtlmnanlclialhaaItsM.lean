/- The contract of the law's 'its' on memories. -/
import Derived.Test.YtlmnanlclialhaaSameM
import Derived.OneCell
import Derived.Deep.RegionLaw
namespace Go.Proofs.Ytlmnanlclialhaa
open Go.RowKit

/-- A memory alone. -/
def MPost (ws : List Int) (bx : List (List E3)) (w : World) (x : Ending) (w' : World) : Prop :=
  ∃ A c B d bs, x = .returned (.agg #[.slice A ws.length c, .slice B (List.length bs) d]) ∧ boxes bs = bx ∧ MemOk w' A ws B bs ∧ Below w.heap.size w w'

/-- How things lie while the boxes are turned one by one: H and what is behind it are the call's own. -/
structure ItsAt (H : Nat) (w : World) (a b : Value) (wr : World) (rv : Value) (qs : List Bt) : Prop where
  mb : wr.cell? ⟨H, 1, none⟩ = some b
  o0 : wr.cell? ⟨H + 1 + 1, 0, none⟩ = some a
  o1 : wr.cell? ⟨H + 1 + 1, 1, none⟩ = some rv
  r0 : wr.cell? ⟨H + 1, 0, none⟩ = some (.slice none 0 0)
  r1 : wr.cell? ⟨H + 1, 1, none⟩ = some (.slice none 0 0)
  fo : wr.frozen? ⟨H + 1 + 1, 1, none⟩ = false
  f0 : wr.frozen? ⟨H + 1, 0, none⟩ = false
  f1 : wr.frozen? ⟨H + 1, 1, none⟩ = false
  own : wr.ownsRow (H + 1 + 1 + 1) 60 1 rv qs.length (qs.map Bt.val)
  each : ∀ q ∈ qs, q.Ok wr ∧ (0 < q.l.length → ∀ p, q.A = some p → H + 1 + 1 + 1 ≤ p.block ∧ rv.ownBlock ≠ some p.block)
  bel : Below H w wr
  big : H + 1 + 1 + 1 ≤ wr.heap.size

theorem fresh_own' {w' : World} {base : Nat} {e : TypeId} {sz n m c : Nat} {A : Option Addr} {xs : List Value} (h : w'.ownsRow base e sz (.slice A m c) n xs) : ∀ p, A = some p → base ≤ p.block := by
  rintro ⟨b, o, s⟩ rfl
  rcases h.2 with ⟨hv, _⟩ | ⟨g, cap, cur, hv, hb, _⟩
  · cases hv
  · injection hv with h1; injection h1 with h2; injection h2 with h3; rw [h3]; exact hb
theorem ItsAt.step {H : Nat} {w wr w1 w3 : World} {a b rv : Value} {qs : List Bt} {A1 : Option Addr} {c1 g cap : Nat} {l : List E3} {tmp : Obj} (h : ItsAt H w a b wr rv qs) (hb1 : Below wr.heap.size wr w1)
    (hs : Sees w1 w1.heap.size 3 A1 l.length (ecells l)) (hf : Fresh wr A1)
    (hown : w3.ownsRow (H + 1 + 1 + 1) 60 1 (.slice (some ⟨g, 0, none⟩) (qs.length + 1) cap) (qs.length + 1) (qs.map Bt.val ++ [.slice A1 l.length c1]))
    (hg : (w1.alloc tmp).grownBy w3 rv.ownBlock) (hat : rv.ownBlock = some g ∨ g = w1.heap.size + 1) :
    ItsAt H w a b (w3.setCell ⟨H + 1 + 1, 1, none⟩ (.slice (some ⟨g, 0, none⟩) (qs.length + 1) cap)) (.slice (some ⟨g, 0, none⟩) (qs.length + 1) cap) (qs ++ [⟨A1, c1, l⟩]) := by
  have z1 := hb1.size
  have z0 := h.big
  have hrow : ∀ k, k < H + 1 + 1 + 1 → some k ≠ rv.ownBlock := fun k hk e => by have := (h.own.lt k e.symm).1; omega
  have hgl : H + 1 + 1 + 1 ≤ g := by
    rcases hat with e | e
    · exact (h.own.lt g e).1
    · omega
  have hc : ∀ k o v, k < H + 1 + 1 + 1 → wr.cell? ⟨k, o, none⟩ = some v → w3.cell? ⟨k, o, none⟩ = some v := fun k o v hk e => by
    have e1 := cell_keep e hb1
    rw [hg.cell_far ⟨k, o, none⟩ (by simp; omega) (hrow k hk)]
    exact cell_keep e1 ((Below.refl _ _).alloc (Nat.le_refl _) _)
  have hz : ∀ k o, k < H + 1 + 1 + 1 → wr.frozen? ⟨k, o, none⟩ = false → w3.frozen? ⟨k, o, none⟩ = false := fun k o hk e => by
    have e1 := frozen_keep hb1 (by omega) e
    rw [hg.frozen_far ⟨k, o, none⟩ (by simp; omega) (hrow k hk)]
    exact frozen_keep ((Below.refl _ _).alloc (Nat.le_refl _) _) (by omega) e1
  have hseen : ∀ (q : Bt), Sees w1 w1.heap.size 3 q.A q.l.length (ecells q.l) → (0 < q.l.length → ∀ p, q.A = some p → H + 1 + 1 + 1 ≤ p.block ∧ rv.ownBlock ≠ some p.block) →
      q.Ok (w3.setCell ⟨H + 1 + 1, 1, none⟩ (.slice (some ⟨g, 0, none⟩) (qs.length + 1) cap)) ∧ (0 < q.l.length → ∀ p, q.A = some p → H + 1 + 1 + 1 ≤ p.block ∧ (Value.slice (some ⟨g, 0, none⟩) (qs.length + 1) cap).ownBlock ≠ some p.block) := by
    intro q hq hne
    refine ⟨⟨hq.1, fun hn => ?_⟩, fun hn p hp => ?_⟩
    · obtain ⟨b', off, e, hb', hcc⟩ := hq.2 hn
      obtain ⟨h1, h2⟩ := hne hn _ e
      have h1' : H + 1 + 1 + 1 ≤ b' := h1
      refine ⟨b', off, e, by have := hg.size; simp at this ⊢; omega, fun j u hu => ?_⟩
      rw [World.cell?_setCell_other _ _ _ _ (by intro h3; rw [Addr.mk.injEq] at h3; omega), hg.cell_far ⟨b', off + j, none⟩ (by simp; omega) (Ne.symm h2)]
      exact cell_keep (hcc j u hu) ((Below.refl _ _).alloc (Nat.le_refl _) _)
    · obtain ⟨h1, h2⟩ := hne hn p hp
      refine ⟨h1, fun e => ?_⟩
      obtain ⟨b', off, e', hb', _⟩ := hq.2 hn
      rw [e'] at hp
      cases hp
      have eg : g = b' := by simpa [Value.ownBlock] using e
      subst eg
      rcases hat with e2 | e2
      · exact h2 e2
      · omega
  refine ⟨?_, ?_, ?_, ?_, ?_, ?_, ?_, ?_, ?_, ?_, ?_, ?_⟩
  · rw [World.cell?_setCell_other _ _ _ _ (by intro h3; rw [Addr.mk.injEq] at h3; omega)]; exact hc _ _ _ (by omega) h.mb
  · rw [World.cell?_setCell_other _ _ _ _ (by intro h3; rw [Addr.mk.injEq] at h3; omega)]; exact hc _ _ _ (by omega) h.o0
  · exact World.cell?_setCell_same _ _ _ (hc _ _ _ (by omega) h.o1)
  · rw [World.cell?_setCell_other _ _ _ _ (by intro h3; rw [Addr.mk.injEq] at h3; omega)]; exact hc _ _ _ (by omega) h.r0
  · rw [World.cell?_setCell_other _ _ _ _ (by intro h3; rw [Addr.mk.injEq] at h3; omega)]; exact hc _ _ _ (by omega) h.r1
  · rw [World.frozen?_setCell]; exact hz _ _ (by omega) h.fo
  · rw [World.frozen?_setCell]; exact hz _ _ (by omega) h.f0
  · rw [World.frozen?_setCell]; exact hz _ _ (by omega) h.f1
  · have := ownsRow_setCell_below hown (a := ⟨H + 1 + 1, 1, none⟩) (by show H + 1 + 1 < H + 1 + 1 + 1; omega) (.slice (some ⟨g, 0, none⟩) (qs.length + 1) cap)
    simpa [Bt.val] using this
  · intro q hq
    rcases List.mem_append.1 hq with hq | hq
    · obtain ⟨q1, q2⟩ := h.each q hq
      have q1' : Sees wr wr.heap.size 3 q.A q.l.length (ecells q.l) := q1
      exact hseen q (q1'.later hb1) q2
    · rw [List.mem_singleton] at hq
      subst hq
      exact hseen ⟨A1, c1, l⟩ hs (fun hn p hp => ⟨by have := hf p hp; omega, fun e => by have := (h.own.lt _ e).2; have := hf p hp; omega⟩)
  · exact (((h.bel.trans (hb1.mono (by omega))).alloc (by omega) _).grown hg (by simp; omega) (fun k hk => by have := (h.own.lt k hk).1; omega)).setCell (by show H ≤ H + 1 + 1; omega) _
  · have := hg.size; simp at this ⊢; omega

end Go.Proofs.Ytlmnanlclialhaa
