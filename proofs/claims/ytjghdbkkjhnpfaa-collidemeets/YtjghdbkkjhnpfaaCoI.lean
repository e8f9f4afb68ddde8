/- Layer 15: a turn whose steps are stored back into its own variable. -/
import Derived.Test.YtjghdbkkjhnpfaaCoH
import Derived.Lib.QuietBelow
import Derived.Deep.QuietTactic
import Derived.BigQuiet
namespace Go.Proofs.Ytjghdbkkjhnpfaa
open Go.RowKit Go.Sort
set_option linter.unusedVariables false
set_option linter.unusedSimpArgs false

theorem boxOf_grown {w w' : World} {row : Option Nat} {g : Nat} {cs : List Value} (hg : w.grownBy w' row) (h : boxOf w g = some cs) (hr : some g ≠ row) : boxOf w' g = some cs := by
  have hl := boxOf_lt h
  obtain ⟨t, h⟩ := boxOf_iff.1 h
  exact boxOf_iff.2 ⟨t, (hg.block g hl hr).trans h⟩
theorem Sees.grownR {W W' : World} {sz n : Nat} {A : Option Addr} {xs : List Value} {k : Option Nat} (h : Sees W W.heap.size sz A n xs) (g : W.grownBy W' k) (hA : 0 < n → ∀ p, A = some p → some p.block ≠ k) : Sees W' W'.heap.size sz A n xs :=
  ⟨h.1, fun hn => by obtain ⟨b, off, e, hb, hc⟩ := h.2 hn; exact ⟨b, off, e, Nat.lt_of_lt_of_le hb g.size, fun j v hv => g.cell (a := ⟨b, _, none⟩) (hc j v hv) (hA hn ⟨b, off, none⟩ e)⟩⟩
theorem TnAt.grownR {W W' : World} {u : Tn} {a : TA} {k : Option Nat} (h : TnAt W u a) (g : W.grownBy W' k) (f : ∀ n, k = some n → Off n u a) : TnAt W' u a :=
  ⟨⟨⟨h.m.words.grownR g (fun hn p hp e => (f _ e.symm).w hn p hp rfl), h.m.bxs.grownR g (fun hn p hp e => (f _ e.symm).x hn p hp rfl), fun q hq => (show Sees W W.heap.size 3 q.A q.l.length (ecells q.l) from h.m.each q hq).grownR g (fun hn p hp e => (f _ e.symm).e q hq hn p hp rfl)⟩, h.m.few, h.m.fewb, h.m.short⟩, h.bx, ⟨h.th.b.grownR g (fun hn p hp e => (f _ e.symm).b hn p hp rfl), h.th.k.grownR g (fun hn p hp e => (f _ e.symm).k hn p hp rfl), h.th.h.grownR g (fun hn p hp e => (f _ e.symm).h hn p hp rfl)⟩, h.tp.grownR g (fun hn p hp e => (f _ e.symm).t hn p hp rfl), h.lg.grownR g (fun hn p hp e => (f _ e.symm).l hn p hp rfl)⟩
/-- How a turn lies that is stored back into the variable g, behind some steps since world w0. -/
structure LpC (g : Nat) (u : Tn) (a : TA) (w0 W : World) : Prop where
  b : boxOf W g = some (tcs u a)
  t : TnAt W u a
  o : Off g u a
  lo : Below w0.heap.size w0 W
  k : w0.heap.size ≤ g
theorem LpC.next {g : Nat} {u v : Tn} {a b : TA} {w0 W W1 : World} (h : LpC g u a w0 W) (t1 : TnAt W1 v b) (off : ∀ k, k < W.heap.size → Off k u a → Off k v b) (hb : Below W.heap.size W W1) (ty : TypeId) : LpC g v b w0 (((W1.alloc (.cells zT.toArray ty)).setCells W1.heap.size 0 (tcs v b)).setCells g 0 (tcs v b)) := by
  have nb := belowY W1 v b ty
  have lk := boxOf_lt h.b
  have B0 := boxOf_keep (boxOf_keep h.b hb) nb
  have og := off g lk h.o
  have h1 := below_next h.lo h.lo.size hb
  exact ⟨boxOf_whole _ _ _ B0 ((tcs_length _ _).trans (tcs_length _ _).symm), (t1.later nb).sets og _ _, og, below_sets _ h.k _ _ _ _ (below_next h1 h1.size nb), h.k⟩
/-- .. whatever lies elsewhere is as it was. -/
theorem LpC.box {g : Nat} {u : Tn} {a : TA} {w0 W : World} (h : LpC g u a w0 W) {k : Nat} {cs : List Value} (hk : boxOf w0 k = some cs) : boxOf W k = some cs := boxOf_keep hk h.lo
theorem LpC.later {g : Nat} {u : Tn} {a : TA} {w0 W W' : World} (h : LpC g u a w0 W) (hb : Below W.heap.size W W') : LpC g u a w0 W' := ⟨boxOf_keep h.b hb, h.t.later hb, h.o, below_next h.lo h.lo.size hb, h.k⟩
theorem own_sets {base : Nat} {e : TypeId} {sz n : Nat} {v : Value} {xs : List Value} (g : Nat) (hg : v.ownBlock ≠ some g) : ∀ (vs : List Value) (o : Nat) (W : World), W.ownsRow base e sz v n xs → (W.setCells g o vs).ownsRow base e sz v n xs
  | [], o, W, h => h
  | x :: r, o, W, h => by rw [World.setCells]; exact own_sets g hg r (o + 1) _ (ownsRow_setCell_other h (a := ⟨g, o, none⟩) hg x)
/-- .. beside a row of the call's own. -/
structure RwC (g : Nat) (u : Tn) (a : TA) (base : Nat) (lv : Value) (n : Nat) (xs : List Value) (w0 W : World) : Prop where
  l : LpC g u a w0 W
  own : W.ownsRow base 3 1 lv n xs
  f : ∀ k, lv.ownBlock = some k → Off k u a
  g : g < base
  sz : base ≤ W.heap.size
theorem RwC.next {g : Nat} {u v : Tn} {a b : TA} {base : Nat} {lv : Value} {n : Nat} {xs : List Value} {w0 W W1 : World} (h : RwC g u a base lv n xs w0 W) (t1 : TnAt W1 v b) (off : ∀ k, k < W.heap.size → Off k u a → Off k v b) (hb : Below W.heap.size W W1) (ty : TypeId) : RwC g v b base lv n xs w0 (((W1.alloc (.cells zT.toArray ty)).setCells W1.heap.size 0 (tcs v b)).setCells g 0 (tcs v b)) := by
  have nb := belowY W1 v b ty
  have o1 := own_below h.own hb
  have hk : ∀ k, lv.ownBlock = some k → base ≤ k ∧ k < W.heap.size := fun k e => ⟨own_at h.own k e, (h.own.lt k e).2⟩
  have hz := hb.size
  refine ⟨h.l.next t1 off hb ty, own_sets _ (fun e => by have := (hk _ e).1; have := h.g; omega) _ _ _ (own_sets _ (fun e => by have := (hk _ e).2; omega) _ _ _ (o1.alloc _)), fun k e => off k (hk k e).2 (h.f k e), h.g, ?_⟩
  have := h.sz; have := nb.size
  rw [size_sets]; omega
theorem RwC.app {g : Nat} {u : Tn} {a : TA} {base : Nat} {lv lv' : Value} {n m : Nat} {xs ys : List Value} {w0 W W' : World} {ob : Obj} (h : RwC g u a base lv n xs w0 W) (ho : W'.ownsRow base 3 1 lv' m ys) (hg : (W.alloc ob).grownBy W' lv.ownBlock) (hw : lv'.ownBlock = lv.ownBlock ∨ lv'.ownBlock = some (W.alloc ob).heap.size) : RwC g u a base lv' m ys w0 W' := by
  have l1 := h.l.later (belowN W ob)
  have hb : base ≤ (W.alloc ob).heap.size := by have := h.sz; simp; omega
  refine ⟨⟨boxOf_grown hg l1.b (Ne.symm (own_ne h.own h.g)), l1.t.grownR hg h.f, l1.o, l1.lo.grown hg l1.lo.size (fun k e => by have := own_at h.own k e; have := h.g; have := l1.k; omega), l1.k⟩, ho, fun k e => ?_, h.g, Nat.le_trans hb hg.size⟩
  rcases hw with e' | e'
  · exact h.f k (e' ▸ e)
  · rw [e] at e'; injection e' with e'; exact l1.t.off (by omega)
end Go.Proofs.Ytjghdbkkjhnpfaa
