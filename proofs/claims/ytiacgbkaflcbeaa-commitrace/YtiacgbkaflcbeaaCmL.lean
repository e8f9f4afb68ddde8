/- Turns behind a step of layer 12: what stays. -/
import Derived.Test.YtiacgbkaflcbeaaCmF
import Derived.Test.YtiacgbkaflcbeaaCmE
import Derived.Test.YtiacgbkaflcbeaaCmD
import Derived.Test.YtiacgbkaflcbeaaCmC
import Derived.Test.YtiacgbkaflcbeaaCmA
namespace Go.Proofs.Ytiacgbkaflcbeaa
open Go.RowKit Go.Sort
set_option linter.unusedVariables false
set_option linter.unusedSimpArgs false

/-- The same lists, but the words and the log. -/
structure LikeC (u v : Tn) : Prop where
  ws : v.ws.length = u.ws.length
  bx : v.bx = u.bx
  bl : v.d.bl = u.d.bl
  kl : v.d.kl = u.d.kl
  hl : v.d.hl = u.d.hl
  tl : v.tl = u.tl
  c : v.c = u.c
  tt : v.tt = u.tt
  it : v.d.it = u.d.it
theorem LikeC.refl (u : Tn) : LikeC u u := ⟨rfl, rfl, rfl, rfl, rfl, rfl, rfl, rfl, rfl⟩
theorem LikeC.trans {u v w : Tn} (h : LikeC u v) (k : LikeC v w) : LikeC u w := ⟨k.ws.trans h.ws, k.bx.trans h.bx, k.bl.trans h.bl, k.kl.trans h.kl, k.hl.trans h.hl, k.tl.trans h.tl, k.c.trans h.c, k.tt.trans h.tt, k.it.trans h.it⟩
theorem setl_likeC (u : Tn) : LikeC u (setlV u) := by unfold setlV; split <;> exact ⟨rfl, rfl, rfl, rfl, rfl, rfl, rfl, rfl, rfl⟩
theorem com_likeC (u : Tn) (x : Int) : LikeC u (comV u x) := LikeC.trans (v := { u with ll := u.ll ++ mkL u.d.bl u.d.it x u.c.x9 u.c.x10, d := { u.d with x := x, pl := 0 } }) ⟨rfl, rfl, rfl, rfl, rfl, rfl, rfl, rfl, rfl⟩ (setl_likeC _)
theorem onw_likeC (u : Tn) : LikeC u (onwV u) := by unfold onwV; split <;> exact ⟨rfl, rfl, rfl, rfl, rfl, rfl, rfl, rfl, rfl⟩
theorem look_likeC (u : Tn) : LikeC u (lookV u) := by
  unfold lookV; split
  · split
    · exact com_likeC u _
    · split
      · exact onw_likeC u
      · exact ⟨rfl, rfl, rfl, rfl, rfl, rfl, rfl, rfl, rfl⟩
  · exact LikeC.refl u
theorem swap_likeC (u : Tn) : LikeC u (swapV u) := by
  unfold swapV; split
  · split
    · exact LikeC.trans (v := { u with ws := casV u.ws (clV u.c u.d.it) u.d.x u.d.y }) ⟨casV_length _ _ _ _, rfl, rfl, rfl, rfl, rfl, rfl, rfl, rfl⟩ (com_likeC _ _)
    · exact ⟨rfl, rfl, rfl, rfl, rfl, rfl, rfl, rfl, rfl⟩
  · exact LikeC.refl u
theorem step_likeC (u : Tn) : LikeC u (stepC u) := by
  unfold stepC; split
  · exact look_likeC u
  · split
    · exact swap_likeC u
    · exact LikeC.refl u
/-- How the lists of a turn moved: the words and the log alone. -/
structure Mvd (w : World) (a b : TA) (n m : Nat) : Prop where
  mA : b.mA = a.mA ∨ Fresh w b.mA
  lA : (b.lA = a.lA ∧ m = n) ∨ Fresh w b.lA
  mB : b.mB = a.mB
  md : b.md = a.md
  bs : b.bs = a.bs
  p : b.p = a.p
  tA : b.tA = a.tA
  tc : b.tc = a.tc
def CsPost (v : Tn) (q : Bool) (n : Nat) (a : TA) (w : World) (e : Ending) (w' : World) : Prop := ∃ b, e = .returned (.tuple #[.agg (tcs v b).toArray, .bool q]) ∧ TnAt w' v b ∧ Mvd w a b n v.ll.length ∧ Below w.heap.size w w'
theorem cstep_at (u : Tn) (a : TA) (o : TnOk u) (w : World) (h : TnAt w u a) : Calls Try.prog 14 #[.agg (tcs u a).toArray] w (CsPost (stepC u) (isC u) u.ll.length a w) := by
  refine (cstep_any u a o w h).mono ?_
  rintro e w' ⟨A, c, L, k, rfl, sA, hA, sL, hL, hb⟩
  have l := step_likeC u
  have h' := h.later hb
  refine ⟨_, rfl, ⟨h.m.words_at hb sA l.ws, h.bx.trans l.bx.symm, ⟨?_, ?_, ?_⟩, ?_, sL⟩, ⟨hA, hL, rfl, rfl, rfl, rfl, rfl, rfl⟩, hb⟩
  · rw [l.bl]; exact h'.th.b
  · rw [l.kl]; exact h'.th.k
  · rw [l.hl]; exact h'.th.h
  · rw [l.tl]; exact h'.tp
theorem DtWf.phxy {d : Dt} (f : DtWf d) {x y z : Int} (hx : I64 x) (hy : I64 y) (hz : I64 z) : DtWf { d with ph := x, x := y, y := z } := by
  refine ⟨fun e he => ?_, f.t, f.v, f.b, f.h, f.k⟩
  simp only [Dt.nums, List.mem_cons, List.not_mem_nil, or_false] at he
  rcases he with rfl | rfl | rfl | rfl | rfl | rfl | rfl | rfl | rfl | rfl | rfl | rfl <;> first | assumption | exact f.n _ (by simp [Dt.nums])
theorem TnOk.seen {u : Tn} (o : TnOk u) {x y z : Int} (hx : I64 x) (hy : I64 y) (hz : I64 z) : TnOk { u with d := { u.d with ph := x, x := y, y := z } } := ⟨o.b, o.k, o.h, o.l, o.t, o.f.phxy hx hy hz, o.lo, o.hi, o.tt, o.ws, o.c⟩
end Go.Proofs.Ytiacgbkaflcbeaa
