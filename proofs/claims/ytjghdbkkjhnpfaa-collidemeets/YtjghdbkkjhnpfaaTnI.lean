/- What the laws over turns begin with. -/
import Derived.Test.YtjghdbkkjhnpfaaMayT
import Derived.Test.YtjghdbkkjhnpfaaShK
namespace Go.Proofs.Ytjghdbkkjhnpfaa
open Go.RowKit Go.Sort
set_option linter.unusedVariables false
set_option linter.unusedSimpArgs false

/-- A turn that came in. -/
structure TnIn (w : World) (u : Tn) (a : TA) : Prop where
  m : MemAt w a.mA u.ws a.mB a.bs
  bx : boxes a.bs = u.bx
  th : ThAt w u.d a.p
  tp : Sees w w.heap.size 1 a.tA u.tl.length (u.tl.map (Value.int .i64))
  lg : Sees w w.heap.size 6 a.lA u.ll.length (mcells u.ll)
  f : DtWf u.d
  cap : u.d.bl.length ≤ a.p.bc
  lo : I64 u.c.x9
  hi : I64 u.c.x10
  tt : I64 u.tt
  ws : ∀ x ∈ u.ws, I64 x
theorem TnIn.at {w : World} {u : Tn} {a : TA} (h : TnIn w u a) (s : SmallT u.ws a.bs u.d u.tl u.ll) : TnAt w u a := ⟨⟨h.m, by have := s.1; omega, by have := s.2.1; omega, fun q hq => by have := s.2.2.1 q hq; omega⟩, h.bx, h.th, h.tp, h.lg⟩
theorem TnIn.ok {w : World} {u : Tn} {a : TA} (h : TnIn w u a) (s : SmallT u.ws a.bs u.d u.tl u.ll) (m : MayOk u a.bs.length) : TnOk u := ⟨by have := s.2.2.2.1; omega, by have := s.2.2.2.2.1; omega, by have := s.2.2.2.2.2.1; omega, by have := s.2.2.2.2.2.2.2; omega, by have := s.2.2.2.2.2.2.1; omega, h.f, h.lo, h.hi, h.tt, h.ws, (ck_ok _ _ _ _ _ _ _ _ _ _ _ _).1 m.c⟩
theorem DtWf.ph {d : Dt} (f : DtWf d) {x y z : Int} (hx : I64 x) (hy : I64 y) (hz : I64 z) : DtWf { d with ph := x, pl := y, x := z } := by
  refine ⟨fun e he => ?_, f.t, f.v, f.b, f.h, f.k⟩
  simp only [Dt.nums, List.mem_cons, List.not_mem_nil, or_false] at he
  rcases he with rfl | rfl | rfl | rfl | rfl | rfl | rfl | rfl | rfl | rfl | rfl | rfl <;> first | assumption | exact f.n _ (by simp [Dt.nums])
theorem TnOk.num {u : Tn} (o : TnOk u) {x y z : Int} (b : Bool) (hx : I64 x) (hy : I64 y) (hz : I64 z) {ws : List Int} (hw : ∀ x ∈ ws, I64 x) : TnOk { u with ws := ws, d := { u.d with ph := x, pl := y, x := z }, dn := b } := ⟨o.b, o.k, o.h, o.l, o.t, o.f.ph hx hy hz, o.lo, o.hi, o.tt, hw, o.c⟩
theorem i64_k (x : Int) (h : -100 ≤ x ∧ x ≤ 100) : I64 x := by unfold I64; omega
theorem TnOk.iph {u : Tn} (o : TnOk u) : I64 u.d.ph := o.f.n _ (by simp [Dt.nums])
theorem TnOk.ipl {u : Tn} (o : TnOk u) : I64 u.d.pl := o.f.n _ (by simp [Dt.nums])
theorem TnOk.ix {u : Tn} (o : TnOk u) : I64 u.d.x := o.f.n _ (by simp [Dt.nums])
theorem TnOk.setl {u : Tn} (o : TnOk u) : TnOk (setlV u) := by
  unfold setlV; split
  · exact o.num u.dn (i64_k 15 (by decide)) o.ipl o.ix o.ws
  · exact o.num true (i64_k 0 (by decide)) o.ipl o.ix o.ws
theorem ldV_i64 {ws : List Int} (h : ∀ x ∈ ws, I64 x) (i : Int) : I64 (ldV ws i) := by
  unfold ldV; split
  · cases he : ws[i.toNat]? with
    | none => exact i64_k 0 (by decide)
    | some x => exact h x (List.mem_of_getElem? he)
  · exact i64_k 0 (by decide)
theorem stV_i64 {ws : List Int} (h : ∀ x ∈ ws, I64 x) (i v : Int) (hv : I64 v) : ∀ x ∈ stV ws i v, I64 x := by
  unfold stV; split
  · intro x hx
    rcases List.mem_or_eq_of_mem_set hx with hx | rfl
    · exact h x hx
    · exact hv
  · exact h
theorem i64_0 : I64 0 := by unfold I64; omega
theorem TnOk.iy {u : Tn} (o : TnOk u) : I64 u.d.y := o.f.n _ (by simp [Dt.nums])
theorem casV_i64 {ws : List Int} (h : ∀ x ∈ ws, I64 x) (i old v : Int) (hv : I64 v) : ∀ x ∈ casV ws i old v, I64 x := by
  unfold casV; split
  · exact stV_i64 h i v hv
  · exact h
/-- The same boxes. -/
def bsIs (x a : TA) : Prop := x.bs = a.bs ∧ x.mB = a.mB ∧ x.md = a.md
theorem belowY (y : World) (u : Tn) (a : TA) (t : TypeId) : Below y.heap.size y ((y.alloc (.cells zT.toArray t)).setCells y.heap.size 0 (tcs u a)) := below_sets _ (by omega) _ _ _ _ (belowN _ _)
theorem boxY (y : World) (u : Tn) (a : TA) (t : TypeId) : boxOf ((y.alloc (.cells zT.toArray t)).setCells y.heap.size 0 (tcs u a)) y.heap.size = some (tcs u a) := boxOf_whole _ _ _ (boxOf_new _ _ _ _ rfl) ((tcs_length _ _).trans zT_length.symm)
end Go.Proofs.Ytjghdbkkjhnpfaa
