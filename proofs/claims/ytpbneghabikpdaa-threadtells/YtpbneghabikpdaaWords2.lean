/- Contracts of wmem's Swap, Store and Cas, and of the document's own. -/
import Derived.Test.YtpbneghabikpdaaWords
import Derived.Handy
import Derived.Deep.RegionHeld3
namespace Go.Proofs.Ytpbneghabikpdaa
open Go.RowKit

theorem casV_at {ws : List Int} {k : Nat} {x : Int} (old v : Int) (h : ws[k]? = some x) : casV ws (k : Int) old v = ws.set k (if x = old then v else x) := by
  have hk : k < ws.length := (List.getElem?_eq_some_iff.1 h).1
  unfold casV casB
  rw [inR_at hk, ldV_at h, stV_at v hk]
  by_cases hx : x = old
  · simp [hx]
  · rw [if_neg hx]
    have : ws.set k x = ws := by
      apply List.ext_getElem?
      intro j
      rw [List.getElem?_set]
      split
      · rename_i hj; subst hj; rw [h]
      · rfl
    simp [hx, this]
theorem casB_at {ws : List Int} {k : Nat} {x : Int} (old : Int) (h : ws[k]? = some x) : casB ws (k : Int) old = (x == old) := by
  have hk : k < ws.length := (List.getElem?_eq_some_iff.1 h).1
  simp [casB, inR_at hk, ldV_at h]
theorem casV_no {ws : List Int} {i : Int} (old v : Int) (h : i < 0 ∨ (ws.length : Int) ≤ i) : casV ws i old v = ws := by simp [casV, casB, inR_no h]
theorem casB_no {ws : List Int} {i : Int} (old : Int) (h : i < 0 ∨ (ws.length : Int) ≤ i) : casB ws i old = false := by simp [casB, inR_no h]

/-- A row that was there, or lies behind: no block in between is its. -/
theorem off_of {w w1 : World} {A A' : Option Addr} {g : Nat} (hA : ∀ p, A = some p → p.block < w.heap.size) (h : A' = A ∨ Fresh w1 A') (h1 : w.heap.size ≤ g) (h2 : g < w1.heap.size) : ∀ p, A' = some p → p.block ≠ g := by
  intro p hp
  rcases h with rfl | h
  · have := hA p hp; omega
  · have := h p hp; omega
theorem Sees.block_lt {w : World} {B sz n : Nat} {A : Option Addr} {xs : List Value} (h : Sees w B sz A n xs) (hn : 0 < n) : ∀ p, A = some p → p.block < B := by
  intro p hp
  obtain ⟨b, off, e, hb, _⟩ := h.2 hn
  rw [e] at hp
  cases hp
  exact hb
/-- The same, for a row that may hold nothing. -/
theorem Sees.far' {w w0 w1 : World} {B sz n : Nat} {A A' : Option Addr} {xs : List Value} (h : Sees w B sz A' n xs) (g o : Nat) (v : Value) (hA : 0 < n → ∀ p, A = some p → p.block < w0.heap.size) (hor : A' = A ∨ Fresh w1 A') (h1 : w0.heap.size ≤ g) (h2 : g < w1.heap.size) :
    Sees (w.setCell ⟨g, o, none⟩ v) B sz A' n xs := by
  rcases Nat.eq_zero_or_pos n with h0 | h0
  · exact ⟨h.1, fun hn => absurd hn (by omega)⟩
  · exact h.far g o v (off_of (hA h0) hor h1 h2)

theorem frozen_keep {w w' : World} {b off : Nat} (hb : Below w.heap.size w w') (hl : b < w.heap.size) (h : w.frozen? ⟨b, off, none⟩ = false) : w'.frozen? ⟨b, off, none⟩ = false :=
  (hb.frozen (p := ⟨b, off, none⟩) hl).trans h

theorem two_far {w : World} {g : Nat} {a b : Value} {p : Addr} (h : p.block ≠ g) : (((w.setCell ⟨g, 0, none⟩ a).setCell ⟨g, 1, none⟩ b).drew).cell? p = w.cell? p := by
  rw [World.cell?_drew, World.cell?_setCell_other _ _ _ _ (fun e => h (by rw [← e])), World.cell?_setCell_other _ _ _ _ (fun e => h (by rw [← e]))]

end Go.Proofs.Ytpbneghabikpdaa
