/- What the laws of layer 3 share. -/
import Derived.Test.YtkiagdlcbfdgnaaShownM
namespace Go.Proofs.Ytkiagdlcbfdgnaa
open Go.RowKit

theorem mem_small {w : World} {A B : Option Addr} {ws : List Int} {bs : List Bt} (m : MemAt w A ws B bs) (h : longB ws bs = false) : MemOk w A ws B bs := by
  obtain ⟨h1, h2, h3⟩ := longB_no h
  exact ⟨m, by omega, by omega, fun q hq => by have := h3 q hq; omega⟩
theorem sameM_true (A B A2 B2 : Option Addr) (c d c2 d2 : Nat) (ws ws2 : List Int) (bs bs2 : List Bt) (w : World) (m : MemOk w A ws B bs) (m2 : MemOk w A2 ws2 B2 bs2) (hw : ws = ws2) (hb : boxes bs = boxes bs2) :
    Calls Try.prog 20 #[.agg #[.slice A ws.length c, .slice B bs.length d], .agg #[.slice A2 ws2.length c2, .slice B2 bs2.length d2]] w (BoolPost true w) := by
  have := sameM_any A B A2 B2 c d c2 d2 ws ws2 bs bs2 w m m2
  rwa [decide_eq_true hw, decide_eq_true hb] at this
/-- The place of a number among so many. -/
theorem two_far' {w : World} {g : Nat} {a b : Value} {p : Addr} (h : p.block ≠ g) : ((w.setCell ⟨g, 0, none⟩ a).setCell ⟨g, 1, none⟩ b).cell? p = w.cell? p := by
  rw [World.cell?_setCell_other _ _ _ _ (fun e => h (by rw [← e])), World.cell?_setCell_other _ _ _ _ (fun e => h (by rw [← e]))]
theorem two_at {w : World} {g : Nat} {a b x y : Value} (h0 : w.cell? ⟨g, 0, none⟩ = some x) (h1 : w.cell? ⟨g, 1, none⟩ = some y) :
    ((w.setCell ⟨g, 0, none⟩ a).setCell ⟨g, 1, none⟩ b).cell? ⟨g, 0, none⟩ = some a ∧ ((w.setCell ⟨g, 0, none⟩ a).setCell ⟨g, 1, none⟩ b).cell? ⟨g, 1, none⟩ = some b := by
  constructor
  · rw [World.cell?_setCell_other _ _ _ _ (by intro e; rw [Addr.mk.injEq] at e; omega)]
    exact World.cell?_setCell_same _ _ _ h0
  · refine World.cell?_setCell_same _ _ _ (u := y) ?_
    rw [World.cell?_setCell_other _ _ _ _ (by intro e; rw [Addr.mk.injEq] at e; omega)]
    exact h1
theorem sameE_true (A B : Option Addr) (c c' : Nat) (l : List E3) (hl : l.length ≤ 20000) (w : World) (h : Sees w w.heap.size 3 A l.length (ecells l)) (h' : Sees w w.heap.size 3 B l.length (ecells l)) :
    Calls Try.prog 26 #[.slice A l.length c, .slice B l.length c'] w (BoolPost true w) := by
  have := same_any A B c c' l.length l.length l l rfl rfl (by omega) w h h'
  rwa [decide_eq_true rfl] at this
theorem put_box {w0 u v : World} {A B B' : Option Addr} {ws : List Int} {bs bs' : List Bt} {lb : List E3} {g : Nat} (a b : Value) (h : BxOk u v B bs lb B' bs') (m : MemOk w0 A ws B bs) (hb : Below w0.heap.size w0 v) (h1 : w0.heap.size ≤ g) (h2 : g < u.heap.size) (hl : lb.length ≤ 20000) :
    MemOk ((v.setCell ⟨g, 0, none⟩ a).setCell ⟨g, 1, none⟩ b) A ws B' bs' :=
  ((h.far m.toMemAt g 0 a h1 h2).far m.toMemAt g 1 b h1 h2).mem m ((hb.setCell h1 _).setCell h1 _) hl
theorem mod_at (a n : Nat) (hn : 0 < n) : ∃ k : Nat, (a : Int) % (n : Int) = (k : Int) ∧ k < n := ⟨a % n, by simp, Nat.mod_lt _ hn⟩
theorem mod_at' (a n : Nat) (hn : 0 < n) : ∃ k : Nat, (a : Int) % (n : Int) = (k : Int) ∧ k < n ∧ a % n = k := ⟨a % n, by simp, Nat.mod_lt _ hn, rfl⟩
theorem at_some {α : Type} {l : List α} {k : Nat} (h : k < l.length) : ∃ x, l[k]? = some x := ⟨l[k], List.getElem?_eq_getElem h⟩
theorem set_at {l : List Int} {k : Nat} {v : Int} (h : k < l.length) : (l.set k v)[k]? = some v := by simp [h]
end Go.Proofs.Ytkiagdlcbfdgnaa
