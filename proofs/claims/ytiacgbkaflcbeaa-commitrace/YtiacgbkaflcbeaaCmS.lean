/- Stores into a memory that a new variable keeps (as in ShX). -/
import Derived.Test.YtiacgbkaflcbeaaCmA
namespace Go.Proofs.Ytiacgbkaflcbeaa
open Go.RowKit Go.Sort
set_option linter.unusedVariables false
set_option linter.unusedSimpArgs false

/-- Behind a store into a memory that a new variable keeps. -/
structure StAt (w : World) (g1 g2 : Nat) (cs1 cs2 : List Value) (A : Option Addr) (ws : List Int) (c : Nat) (sB : Value) (k : Nat) (A0 : Option Addr) (W : World) : Prop where
  bk : boxOf W k = some [.slice A ws.length c, sB]
  s : Sees W W.heap.size 1 A ws.length (ws.map (Value.int .i64))
  fa : 0 < ws.length → ∀ p, A = some p → p.block ≠ g1 ∧ p.block ≠ g2
  b1 : boxOf W g1 = some cs1
  b2 : boxOf W g2 = some cs2
  lo : Below w.heap.size w W
  orr : A = A0 ∨ Fresh w A
theorem st_new {w X : World} {g1 g2 : Nat} {cs1 cs2 : List Value} {A : Option Addr} {ws : List Int} {c : Nat} {sB : Value} (t : TypeId) (hs : Sees X X.heap.size 1 A ws.length (ws.map (Value.int .i64))) (hf : 0 < ws.length → ∀ p, A = some p → p.block ≠ g1 ∧ p.block ≠ g2)
    (b1 : boxOf X g1 = some cs1) (b2 : boxOf X g2 = some cs2) (hB : Below w.heap.size w X) {A0 : Option Addr} (ho : A = A0 ∨ Fresh w A) : StAt w g1 g2 cs1 cs2 A ws c sB X.heap.size A0 (X.alloc (.cells #[.slice A ws.length c, sB] t)) :=
  ⟨boxOf_newA _ _ _ _ rfl, hs.later (belowN X _), hf, boxOf_keep b1 (belowN X _), boxOf_keep b2 (belowN X _), hB.alloc hB.size _, ho⟩
theorem Sees.own1 {w : World} {sz n : Nat} {A : Option Addr} {xs : List Value} (h : Sees w w.heap.size sz A n xs) (g o : Nat) (v : Value) (hA : 0 < n → ∀ p, A = some p → p.block ≠ g) : Sees (w.setCell ⟨g, o, none⟩ v) (w.setCell ⟨g, o, none⟩ v).heap.size sz A n xs := h.setsC g hA [v] o
theorem st_set {w X : World} {g1 g2 k : Nat} {cs1 cs2 zs : List Value} {A : Option Addr} {ws : List Int} {c : Nat} {sB : Value} (hs : Sees X X.heap.size 1 A ws.length (ws.map (Value.int .i64))) (hf : 0 < ws.length → ∀ p, A = some p → p.block ≠ g1 ∧ p.block ≠ g2)
    (b1 : boxOf X g1 = some cs1) (b2 : boxOf X g2 = some cs2) (hB : Below w.heap.size w X) (bk : boxOf X k = some zs) (hz : zs.length = 2) (k1 : k ≠ g1) (k2 : k ≠ g2) (k0 : w.heap.size ≤ k) (hk : 0 < ws.length → ∀ p, A = some p → p.block ≠ k) {A0 : Option Addr} (ho : A = A0 ∨ Fresh w A) :
    StAt w g1 g2 cs1 cs2 A ws c sB k A0 ((X.setCell ⟨k, 0, none⟩ (.slice A ws.length c)).setCell ⟨k, 1, none⟩ sB) := by
  refine ⟨?_, (hs.own1 k 0 _ hk).own1 k 1 _ hk, hf, ?_, ?_, (hB.setCell k0 _).setCell k0 _, ho⟩
  · match zs, hz with
    | [x, y], _ => rw [boxOf_set _ _ _ _ (boxOf_set _ _ _ _ bk)]; rfl
  · rw [boxOf_far _ _ _ _ k1, boxOf_far _ _ _ _ k1]; exact b1
  · rw [boxOf_far _ _ _ _ k2, boxOf_far _ _ _ _ k2]; exact b2
theorem box_newk {W w' : World} {zs : Array Value} {t : TypeId} (hb : Below (W.alloc (.cells zs t)).heap.size (W.alloc (.cells zs t)) w') : boxOf w' W.heap.size = some zs.toList ∧ W.heap.size < w'.heap.size := ⟨boxOf_keep (boxOf_newA _ _ _ _ rfl) hb, by have := hb.size; simp at this; omega⟩
theorem box_newd {W w' : World} {zs : Array Value} {t : TypeId} (hb : Below (W.alloc (.cells zs t)).drew.heap.size (W.alloc (.cells zs t)).drew w') : boxOf w' W.heap.size = some zs.toList ∧ W.heap.size < w'.heap.size := ⟨boxOf_keep (w := (W.alloc (.cells zs t)).drew) (boxOf_newA _ _ _ _ rfl) hb, by have := hb.size; simp at this; omega⟩
theorem box_keep2 {W w' : World} {g : Nat} {cs : List Value} (h : boxOf W g = some cs ∧ g < W.heap.size) (hb : Below W.heap.size W w') : boxOf w' g = some cs ∧ g < w'.heap.size := ⟨boxOf_keep h.1 hb, Nat.lt_of_lt_of_le h.2 hb.size⟩
theorem box_keep2n {W w' : World} {g : Nat} {cs : List Value} {o : Obj} (h : boxOf W g = some cs ∧ g < W.heap.size) (hb : Below (W.alloc o).heap.size (W.alloc o) w') : boxOf w' g = some cs ∧ g < w'.heap.size := box_keep2 (W := W.alloc o) ⟨boxOf_keep h.1 (belowN W o), by simp; omega⟩ hb
theorem keepT4 {w W W' : World} {g gk gz : Nat} {cs ds es : List Value} (h : boxOf W g = some cs ∧ boxOf W gk = some ds ∧ boxOf W gz = some es ∧ Below w.heap.size w W) (hb : Below W.heap.size W W') : boxOf W' g = some cs ∧ boxOf W' gk = some ds ∧ boxOf W' gz = some es ∧ Below w.heap.size w W' := ⟨boxOf_keep h.1 hb, boxOf_keep h.2.1 hb, boxOf_keep h.2.2.1 hb, below_next h.2.2.2 h.2.2.2.size hb⟩
theorem keepT4s {w W : World} {g gk gz : Nat} {cs ds es : List Value} (h : boxOf W g = some cs ∧ boxOf W gk = some ds ∧ boxOf W gz = some es ∧ Below w.heap.size w W) (k i : Nat) (v : Value) (h1 : k ≠ g) (h2 : k ≠ gk) (h3 : k ≠ gz) (h0 : w.heap.size ≤ k) : boxOf (W.setCell ⟨k, i, none⟩ v) g = some cs ∧ boxOf (W.setCell ⟨k, i, none⟩ v) gk = some ds ∧ boxOf (W.setCell ⟨k, i, none⟩ v) gz = some es ∧ Below w.heap.size w (W.setCell ⟨k, i, none⟩ v) :=
  ⟨by rw [boxOf_far _ _ _ _ h1]; exact h.1, by rw [boxOf_far _ _ _ _ h2]; exact h.2.1, by rw [boxOf_far _ _ _ _ h3]; exact h.2.2.1, h.2.2.2.setCell h0 _⟩
end Go.Proofs.Ytiacgbkaflcbeaa
