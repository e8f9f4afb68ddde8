/- A memory that is filled cell by cell: how it lies. -/
import Derived.Test.YtlmnanlclialhaaArS
namespace Go.Proofs.Ytlmnanlclialhaa
open Go.RowKit

set_option linter.unusedVariables false
/-- The words when the first cells have their beginning. -/
def bdW (ws : List Int) (it bk v : Int) : Nat → List Int
  | 0 => ws
  | j + 1 => stV (bdW ws it bk v j) (cellV it bk (j : Int)) v
theorem bdW_length (ws : List Int) (it bk v : Int) (j : Nat) : (bdW ws it bk v j).length = ws.length := by
  induction j with
  | zero => rfl
  | succ j ih => rw [bdW, stV_length, ih]

theorem far2 {w : World} {g k : Nat} {ua ub : Value} {x0 x1 x2 x3 x4 x5 x6 x7 : Int} {b : Bool} {x9 x10 x11 : Int} (h : w.cell? ⟨g, 0, none⟩ = some (.int .i64 x0) ∧ w.cell? ⟨g, 1, none⟩ = some (.int .i64 x1) ∧ w.cell? ⟨g, 2, none⟩ = some (.int .i64 x2) ∧ w.cell? ⟨g, 3, none⟩ = some (.int .i64 x3) ∧ w.cell? ⟨g, 4, none⟩ = some (.int .i64 x4) ∧ w.cell? ⟨g, 5, none⟩ = some (.int .i64 x5) ∧ w.cell? ⟨g, 6, none⟩ = some (.int .i64 x6) ∧ w.cell? ⟨g, 7, none⟩ = some (.int .i64 x7) ∧ w.cell? ⟨g, 8, none⟩ = some (.bool b) ∧ w.cell? ⟨g, 9, none⟩ = some (.int .i64 x9) ∧ w.cell? ⟨g, 10, none⟩ = some (.int .i64 x10) ∧ w.cell? ⟨g, 11, none⟩ = some (.int .i64 x11)) (hk : g ≠ k) : ((w.setCell ⟨k, 0, none⟩ ua).setCell ⟨k, 1, none⟩ ub).cell? ⟨g, 0, none⟩ = some (.int .i64 x0) ∧ ((w.setCell ⟨k, 0, none⟩ ua).setCell ⟨k, 1, none⟩ ub).cell? ⟨g, 1, none⟩ = some (.int .i64 x1) ∧ ((w.setCell ⟨k, 0, none⟩ ua).setCell ⟨k, 1, none⟩ ub).cell? ⟨g, 2, none⟩ = some (.int .i64 x2) ∧ ((w.setCell ⟨k, 0, none⟩ ua).setCell ⟨k, 1, none⟩ ub).cell? ⟨g, 3, none⟩ = some (.int .i64 x3) ∧ ((w.setCell ⟨k, 0, none⟩ ua).setCell ⟨k, 1, none⟩ ub).cell? ⟨g, 4, none⟩ = some (.int .i64 x4) ∧ ((w.setCell ⟨k, 0, none⟩ ua).setCell ⟨k, 1, none⟩ ub).cell? ⟨g, 5, none⟩ = some (.int .i64 x5) ∧ ((w.setCell ⟨k, 0, none⟩ ua).setCell ⟨k, 1, none⟩ ub).cell? ⟨g, 6, none⟩ = some (.int .i64 x6) ∧ ((w.setCell ⟨k, 0, none⟩ ua).setCell ⟨k, 1, none⟩ ub).cell? ⟨g, 7, none⟩ = some (.int .i64 x7) ∧ ((w.setCell ⟨k, 0, none⟩ ua).setCell ⟨k, 1, none⟩ ub).cell? ⟨g, 8, none⟩ = some (.bool b) ∧ ((w.setCell ⟨k, 0, none⟩ ua).setCell ⟨k, 1, none⟩ ub).cell? ⟨g, 9, none⟩ = some (.int .i64 x9) ∧ ((w.setCell ⟨k, 0, none⟩ ua).setCell ⟨k, 1, none⟩ ub).cell? ⟨g, 10, none⟩ = some (.int .i64 x10) ∧ ((w.setCell ⟨k, 0, none⟩ ua).setCell ⟨k, 1, none⟩ ub).cell? ⟨g, 11, none⟩ = some (.int .i64 x11) := by
  have key : ∀ (i : Nat) (v : Value), w.cell? ⟨g, i, none⟩ = some v → ((w.setCell ⟨k, 0, none⟩ ua).setCell ⟨k, 1, none⟩ ub).cell? ⟨g, i, none⟩ = some v := fun i v hv => by
    rw [World.cell?_setCell_other _ _ _ _ (by intro h3; rw [Addr.mk.injEq] at h3; omega), World.cell?_setCell_other _ _ _ _ (by intro h3; rw [Addr.mk.injEq] at h3; omega)]; exact hv
  obtain ⟨h0, h1, h2, h3, h4, h5, h6, h7, h8, h9, h10, h11⟩ := h
  exact ⟨key _ _ h0, key _ _ h1, key _ _ h2, key _ _ h3, key _ _ h4, key _ _ h5, key _ _ h6, key _ _ h7, key _ _ h8, key _ _ h9, key _ _ h10, key _ _ h11⟩

/-- H the box of the config, H + 1 that of the answer, k that of the memory. -/
structure BdAt (H k : Nat) (w wr : World) (A B : Option Addr) (ws : List Int) (bs : List Bt) (c d : Nat) : Prop where
  m0 : wr.cell? ⟨k, 0, none⟩ = some (.slice A ws.length c)
  m1 : wr.cell? ⟨k, 1, none⟩ = some (.slice B bs.length d)
  g0 : wr.frozen? ⟨k, 0, none⟩ = false
  g1 : wr.frozen? ⟨k, 1, none⟩ = false
  r0 : wr.cell? ⟨H + 1, 0, none⟩ = some (.slice none 0 0)
  r1 : wr.cell? ⟨H + 1, 1, none⟩ = some (.slice none 0 0)
  f0 : wr.frozen? ⟨H + 1, 0, none⟩ = false
  f1 : wr.frozen? ⟨H + 1, 1, none⟩ = false
  mem : MemOk wr A ws B bs
  emp : ∀ q ∈ bs, q.l = []
  aA : ∀ p, A = some p → H + 1 + 1 ≤ p.block ∧ p.block ≠ k
  aB : ∀ p, B = some p → H + 1 + 1 ≤ p.block ∧ p.block ≠ k
  bel : Below H w wr
  hk : H + 1 + 1 ≤ k
  kz : k < wr.heap.size

theorem mem_far {w : World} {A B : Option Addr} {ws : List Int} {bs : List Bt} {k : Nat} (h : MemOk w A ws B bs) (emp : ∀ q ∈ bs, q.l = []) (hA : ∀ p, A = some p → p.block ≠ k) (hB : ∀ p, B = some p → p.block ≠ k) (a b : Value) : MemOk ((w.setCell ⟨k, 0, none⟩ a).setCell ⟨k, 1, none⟩ b) A ws B bs :=
  ⟨⟨((h.words.far k 0 a hA).far k 1 b hA).up (by simp), ((h.bxs.far k 0 a hB).far k 1 b hB).up (by simp), fun q hq => by
    show Sees _ _ 3 q.A q.l.length (ecells q.l)
    rw [emp q hq]
    exact Sees.empty⟩, h.few, h.fewb, h.short⟩

/-- What is asked of the boxes' cells ahead of it. -/
structure BdPre (H k : Nat) (w wr : World) : Prop where
  m0 : ∃ u, wr.cell? ⟨k, 0, none⟩ = some u
  m1 : ∃ u, wr.cell? ⟨k, 1, none⟩ = some u
  g0 : wr.frozen? ⟨k, 0, none⟩ = false
  g1 : wr.frozen? ⟨k, 1, none⟩ = false
  r0 : wr.cell? ⟨H + 1, 0, none⟩ = some (.slice none 0 0)
  r1 : wr.cell? ⟨H + 1, 1, none⟩ = some (.slice none 0 0)
  f0 : wr.frozen? ⟨H + 1, 0, none⟩ = false
  f1 : wr.frozen? ⟨H + 1, 1, none⟩ = false
  bel : Below H w wr
  hk : H + 1 + 1 ≤ k
  kz : k < wr.heap.size
theorem BdPre.later {H k : Nat} {w wr w' : World} (h : BdPre H k w wr) (hb : Below wr.heap.size wr w') : BdPre H k w w' := by
  obtain ⟨⟨u, m0⟩, ⟨v, m1⟩, g0, g1, r0, r1, f0, f1, bel, hk, kz⟩ := h
  have := hb.size
  exact ⟨⟨u, cell_keep m0 hb⟩, ⟨v, cell_keep m1 hb⟩, frozen_keep hb kz g0, frozen_keep hb kz g1, cell_keep r0 hb, cell_keep r1 hb, frozen_keep hb (by omega) f0, frozen_keep hb (by omega) f1, below_next bel (by omega) hb, hk, by omega⟩
theorem BdPre.set {H k : Nat} {w wr : World} {A B : Option Addr} {ws : List Int} {bs : List Bt} {c d : Nat} (h : BdPre H k w wr) (mem : MemOk wr A ws B bs) (emp : ∀ q ∈ bs, q.l = [])
    (aA : ∀ p, A = some p → H + 1 + 1 ≤ p.block ∧ p.block ≠ k) (aB : ∀ p, B = some p → H + 1 + 1 ≤ p.block ∧ p.block ≠ k) :
    BdAt H k w ((wr.setCell ⟨k, 0, none⟩ (.slice A ws.length c)).setCell ⟨k, 1, none⟩ (.slice B bs.length d)) A B ws bs c d := by
  obtain ⟨⟨u, m0⟩, ⟨v, m1⟩, g0, g1, r0, r1, f0, f1, bel, hk, kz⟩ := h
  have m1' : (wr.setCell ⟨k, 0, none⟩ (.slice A ws.length c)).cell? ⟨k, 1, none⟩ = some v := by
    rw [World.cell?_setCell_other _ _ _ _ (by intro h3; rw [Addr.mk.injEq] at h3; omega)]; exact m1
  have far : ∀ (i : Nat) (x : Value), wr.cell? ⟨H + 1, i, none⟩ = some x → ((wr.setCell ⟨k, 0, none⟩ (.slice A ws.length c)).setCell ⟨k, 1, none⟩ (.slice B bs.length d)).cell? ⟨H + 1, i, none⟩ = some x := fun i x e => by
    rw [World.cell?_setCell_other _ _ _ _ (by intro h3; rw [Addr.mk.injEq] at h3; omega), World.cell?_setCell_other _ _ _ _ (by intro h3; rw [Addr.mk.injEq] at h3; omega)]; exact e
  refine ⟨?_, World.cell?_setCell_same _ _ _ m1', by rw [World.frozen?_setCell, World.frozen?_setCell]; exact g0, by rw [World.frozen?_setCell, World.frozen?_setCell]; exact g1, far _ _ r0, far _ _ r1,
    by rw [World.frozen?_setCell, World.frozen?_setCell]; exact f0, by rw [World.frozen?_setCell, World.frozen?_setCell]; exact f1, mem_far mem emp (fun p hp => (aA p hp).2) (fun p hp => (aB p hp).2) _ _, emp, aA, aB,
    (bel.setCell (by show H ≤ k; omega) _).setCell (by show H ≤ k; omega) _, hk, by simpa using kz⟩
  rw [World.cell?_setCell_other _ _ _ _ (by intro h3; rw [Addr.mk.injEq] at h3; omega)]
  exact World.cell?_setCell_same _ _ _ m0
theorem BdAt.pre {H k : Nat} {w wr : World} {A B : Option Addr} {ws : List Int} {bs : List Bt} {c d : Nat} (h : BdAt H k w wr A B ws bs c d) : BdPre H k w wr :=
  ⟨⟨_, h.m0⟩, ⟨_, h.m1⟩, h.g0, h.g1, h.r0, h.r1, h.f0, h.f1, h.bel, h.hk, h.kz⟩

/-- A word is stored. -/
theorem BdAt.step {H k : Nat} {w wr w1 w2 : World} {A B A' : Option Addr} {ws ws' : List Int} {bs : List Bt} {c d c' : Nat} (h : BdAt H k w wr A B ws bs c d) (hb1 : Below wr.heap.size wr w1) (hb2 : Below w1.heap.size w1 w2)
    (hs : Sees w2 w2.heap.size 1 A' ws'.length (ws'.map (Value.int .i64))) (hor : A' = A ∨ Fresh w1 A') (hl : ws'.length = ws.length) :
    BdAt H k w ((w2.setCell ⟨k, 0, none⟩ (.slice A' ws'.length c')).setCell ⟨k, 1, none⟩ (.slice B bs.length d)) A' B ws' bs c' d := by
  have z1 := hb1.size
  have z2 := h.kz
  have z3 := h.hk
  refine ((h.pre.later hb1).later hb2).set ((h.mem.later hb1).words_at hb2 hs hl) h.emp (fun p hp => ?_) h.aB
  rcases hor with rfl | hf
  · exact h.aA p hp
  · have := hf p hp; omega
/-- It is handed back. -/
theorem BdAt.fin {k : Nat} {w wr : World} {A B : Option Addr} {ws : List Int} {bs : List Bt} {c d : Nat} {bx : List (List E3)} (h : BdAt w.heap.size k w wr A B ws bs c d) (hbx : boxes bs = bx) :
    MFPost ws bx w (.returned (.agg #[.slice A ws.length c, .slice B bs.length d])) ((wr.setCell ⟨w.heap.size + 1, 0, none⟩ (.slice A ws.length c)).setCell ⟨w.heap.size + 1, 1, none⟩ (.slice B bs.length d)) :=
  ⟨A, c, B, d, bs, rfl, hbx, mem_far h.mem h.emp (fun p hp => by have := (h.aA p hp).1; omega) (fun p hp => by have := (h.aB p hp).1; omega) _ _, fun p hp => by have := (h.aA p hp).1; omega, fun p hp => by have := (h.aB p hp).1; omega,
    (h.bel.setCell (by show w.heap.size ≤ w.heap.size + 1; omega) _).setCell (by show w.heap.size ≤ w.heap.size + 1; omega) _⟩
theorem emp_of {bs : List Bt} {n : Nat} (h : boxes bs = List.replicate n []) : ∀ q ∈ bs, q.l = [] := fun q hq => by
  have : q.l ∈ boxes bs := List.mem_map.2 ⟨q, hq, rfl⟩
  rw [h] at this
  exact List.eq_of_mem_replicate this
theorem below_lt {H k : Nat} {w : World} {A : Option Addr} (h : Fresh w A) (hH : H + 1 + 1 ≤ w.heap.size) (hk : k < w.heap.size) : ∀ p, A = some p → H + 1 + 1 ≤ p.block ∧ p.block ≠ k := fun p hp => by
  have := h p hp; omega
theorem bd_late {H : Nat} {v1 v2 : World} {A : Option Addr} (h : Fresh v1 A) (hH : H + 1 + 1 ≤ v1.heap.size) (hlt : ∀ p, A = some p → p.block < v2.heap.size) : ∀ p, A = some p → H + 1 + 1 ≤ p.block ∧ p.block ≠ v2.heap.size := fun p hp => by
  have := h p hp; have := hlt p hp; omega
theorem cnt_pos {x : Int} (h : 1 ≤ x ∧ x ≤ 10000) : 0 < cntV x := by unfold cntV; rw [if_pos h]; omega
theorem MemOk.lt_words {w : World} {A B : Option Addr} {ws : List Int} {bs : List Bt} (h : MemOk w A ws B bs) (hn : 0 < ws.length) : ∀ p, A = some p → p.block < w.heap.size := h.words.block_lt hn

end Go.Proofs.Ytlmnanlclialhaa
