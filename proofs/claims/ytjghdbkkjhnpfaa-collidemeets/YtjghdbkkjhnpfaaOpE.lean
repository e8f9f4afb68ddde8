/- A turn that came in: its boxes too hold numbers of 64 bits, and so does its tape. -/
import Derived.Test.YtjghdbkkjhnpfaaOpenT
namespace Go.Proofs.Ytjghdbkkjhnpfaa
open Go.RowKit Go.ChangeShapes Go.WideShapes Go.Deep Go.Joins
set_option linter.unusedVariables false

section
variable {H : Type} {enc : TypeId × Value → H} {w : World} {base : Nat} {spare : Nat → Bool} {held : Bool} {n : Nat} {cs : List Value} {y : DataW H × List MemPlace}
set_option maxRecDepth 20000 in
theorem op_turnE (h : DataW.trod enc Try.prog w base spare held n 38 cs = some y) : ∃ (c : Cf) (tt now : Int) (mA : Option Addr) (mc : Nat) (ws : List Int) (mB : Option Addr) (md : Nat) (bs : List Bt) (d : Dt) (p : Ad) (tA : Option Addr) (tc : Nat) (tl : List Int) (ta : Int) (lA : Option Addr) (lc : Nat) (ll : List M6) (dn : Bool), cs = (.int .i64 c.x0 :: .int .i64 c.x1 :: .int .i64 c.x2 :: .int .i64 c.x3 :: .int .i64 c.x4 :: .int .i64 c.x5 :: .int .i64 c.x6 :: .int .i64 c.x7 :: .bool c.b :: .int .i64 c.x9 :: .int .i64 c.x10 :: .int .i64 c.x11 :: .int .i64 tt :: .int .i64 now :: .slice mA ws.length mc :: .slice mB bs.length md :: .int .i64 d.ph :: .int .i64 d.it :: .int .i64 d.tg :: .int .i64 d.v :: .slice p.bA d.bl.length p.bc :: .slice p.kA d.kl.length p.kc :: .slice p.hA d.hl.length p.hc :: .int .i64 d.st :: .int .i64 d.nd :: .int .i64 d.pl :: .int .i64 d.ly :: .int .i64 d.lf :: .int .i64 d.wd :: .int .i64 d.who :: .int .i64 d.x :: .int .i64 d.y :: .int .i64 d.un :: .slice tA tl.length tc :: .int .i64 ta :: .slice lA ll.length lc :: .bool dn :: []) ∧ MemAt w mA ws mB bs ∧ ThAt w d p ∧ DtWf d ∧ Sees w w.heap.size 1 tA tl.length (tl.map (Value.int .i64)) ∧ Sees w w.heap.size 6 lA ll.length (mcells ll) ∧ I64 now ∧ d.bl.length ≤ p.bc ∧ (I64 c.x9 ∧ I64 c.x10 ∧ I64 c.x11) ∧ I64 tt ∧ I64 ta ∧ (∀ x ∈ ws, I64 x) ∧ ∀ q ∈ bs, Good q.l := by
  obtain ⟨hl, n1, hf⟩ := fieldOf Try.underlying38 h
  rw [co_turn] at hl
  obtain ⟨c0, c1, c2, c3, c4, c5, c6, c7, c8, c9, c10, c11, c12, c13, c14, c15, c16, c17, c18, c19, c20, c21, c22, c23, c24, c25, c26, c27, c28, c29, c30, c31, c32, c33, c34, c35, c36, rfl⟩ := list37 hl
  obtain ⟨y0, g0⟩ : ∃ y, DataW.trod enc Try.prog w base spare held n1 23 (c0 :: c1 :: c2 :: c3 :: c4 :: c5 :: c6 :: c7 :: c8 :: c9 :: c10 :: c11 :: []) = some y := (by have e : ∃ y, DataW.trod enc Try.prog w base spare held n1 23 (((c0 :: c1 :: c2 :: c3 :: c4 :: c5 :: c6 :: c7 :: c8 :: c9 :: c10 :: c11 :: c12 :: c13 :: c14 :: c15 :: c16 :: c17 :: c18 :: c19 :: c20 :: c21 :: c22 :: c23 :: c24 :: c25 :: c26 :: c27 :: c28 :: c29 :: c30 :: c31 :: c32 :: c33 :: c34 :: c35 :: c36 :: []).drop 0).take (Try.prog.cellsOf 23)) = some y := hf 0 _ rfl; rw [co_cfg] at e; exact e)
  obtain ⟨y1, g1⟩ : ∃ y, DataW.trod enc Try.prog w base spare held n1 3 (c12 :: []) = some y := (by have e : ∃ y, DataW.trod enc Try.prog w base spare held n1 3 (((c0 :: c1 :: c2 :: c3 :: c4 :: c5 :: c6 :: c7 :: c8 :: c9 :: c10 :: c11 :: c12 :: c13 :: c14 :: c15 :: c16 :: c17 :: c18 :: c19 :: c20 :: c21 :: c22 :: c23 :: c24 :: c25 :: c26 :: c27 :: c28 :: c29 :: c30 :: c31 :: c32 :: c33 :: c34 :: c35 :: c36 :: []).drop 12).take (Try.prog.cellsOf 3)) = some y := hf 1 _ rfl; rw [co_int] at e; exact e)
  obtain ⟨y2, g2⟩ : ∃ y, DataW.trod enc Try.prog w base spare held n1 3 (c13 :: []) = some y := (by have e : ∃ y, DataW.trod enc Try.prog w base spare held n1 3 (((c0 :: c1 :: c2 :: c3 :: c4 :: c5 :: c6 :: c7 :: c8 :: c9 :: c10 :: c11 :: c12 :: c13 :: c14 :: c15 :: c16 :: c17 :: c18 :: c19 :: c20 :: c21 :: c22 :: c23 :: c24 :: c25 :: c26 :: c27 :: c28 :: c29 :: c30 :: c31 :: c32 :: c33 :: c34 :: c35 :: c36 :: []).drop 13).take (Try.prog.cellsOf 3)) = some y := hf 2 _ rfl; rw [co_int] at e; exact e)
  obtain ⟨y3, g3⟩ : ∃ y, DataW.trod enc Try.prog w base spare held n1 27 (c14 :: c15 :: []) = some y := (by have e : ∃ y, DataW.trod enc Try.prog w base spare held n1 27 (((c0 :: c1 :: c2 :: c3 :: c4 :: c5 :: c6 :: c7 :: c8 :: c9 :: c10 :: c11 :: c12 :: c13 :: c14 :: c15 :: c16 :: c17 :: c18 :: c19 :: c20 :: c21 :: c22 :: c23 :: c24 :: c25 :: c26 :: c27 :: c28 :: c29 :: c30 :: c31 :: c32 :: c33 :: c34 :: c35 :: c36 :: []).drop 14).take (Try.prog.cellsOf 27)) = some y := hf 3 _ rfl; rw [co_mem] at e; exact e)
  obtain ⟨y4, g4⟩ : ∃ y, DataW.trod enc Try.prog w base spare held n1 33 (c16 :: c17 :: c18 :: c19 :: c20 :: c21 :: c22 :: c23 :: c24 :: c25 :: c26 :: c27 :: c28 :: c29 :: c30 :: c31 :: c32 :: []) = some y := (by have e : ∃ y, DataW.trod enc Try.prog w base spare held n1 33 (((c0 :: c1 :: c2 :: c3 :: c4 :: c5 :: c6 :: c7 :: c8 :: c9 :: c10 :: c11 :: c12 :: c13 :: c14 :: c15 :: c16 :: c17 :: c18 :: c19 :: c20 :: c21 :: c22 :: c23 :: c24 :: c25 :: c26 :: c27 :: c28 :: c29 :: c30 :: c31 :: c32 :: c33 :: c34 :: c35 :: c36 :: []).drop 16).take (Try.prog.cellsOf 33)) = some y := hf 4 _ rfl; rw [co_th] at e; exact e)
  obtain ⟨y5, g5⟩ : ∃ y, DataW.trod enc Try.prog w base spare held n1 35 (c33 :: c34 :: []) = some y := (by have e : ∃ y, DataW.trod enc Try.prog w base spare held n1 35 (((c0 :: c1 :: c2 :: c3 :: c4 :: c5 :: c6 :: c7 :: c8 :: c9 :: c10 :: c11 :: c12 :: c13 :: c14 :: c15 :: c16 :: c17 :: c18 :: c19 :: c20 :: c21 :: c22 :: c23 :: c24 :: c25 :: c26 :: c27 :: c28 :: c29 :: c30 :: c31 :: c32 :: c33 :: c34 :: c35 :: c36 :: []).drop 33).take (Try.prog.cellsOf 35)) = some y := hf 5 _ rfl; rw [co_tape] at e; exact e)
  obtain ⟨y6, g6⟩ : ∃ y, DataW.trod enc Try.prog w base spare held n1 36 (c35 :: []) = some y := (by have e : ∃ y, DataW.trod enc Try.prog w base spare held n1 36 (((c0 :: c1 :: c2 :: c3 :: c4 :: c5 :: c6 :: c7 :: c8 :: c9 :: c10 :: c11 :: c12 :: c13 :: c14 :: c15 :: c16 :: c17 :: c18 :: c19 :: c20 :: c21 :: c22 :: c23 :: c24 :: c25 :: c26 :: c27 :: c28 :: c29 :: c30 :: c31 :: c32 :: c33 :: c34 :: c35 :: c36 :: []).drop 35).take (Try.prog.cellsOf 36)) = some y := hf 6 _ rfl; rw [co_log] at e; exact e)
  obtain ⟨y7, g7⟩ : ∃ y, DataW.trod enc Try.prog w base spare held n1 4 (c36 :: []) = some y := (by have e : ∃ y, DataW.trod enc Try.prog w base spare held n1 4 (((c0 :: c1 :: c2 :: c3 :: c4 :: c5 :: c6 :: c7 :: c8 :: c9 :: c10 :: c11 :: c12 :: c13 :: c14 :: c15 :: c16 :: c17 :: c18 :: c19 :: c20 :: c21 :: c22 :: c23 :: c24 :: c25 :: c26 :: c27 :: c28 :: c29 :: c30 :: c31 :: c32 :: c33 :: c34 :: c35 :: c36 :: []).drop 36).take (Try.prog.cellsOf 4)) = some y := hf 7 _ rfl; rw [co_bool] at e; exact e)
  obtain ⟨c, u0, hcf⟩ := op_cfg g0
  simp only [List.cons.injEq, and_true] at u0
  obtain ⟨rfl, rfl, rfl, rfl, rfl, rfl, rfl, rfl, rfl, rfl, rfl, rfl⟩ := u0
  obtain ⟨tt, u1, htt⟩ := op_int g1
  injection u1 with u1
  subst u1
  obtain ⟨now, u2, hnow⟩ := op_int g2
  injection u2 with u2
  subst u2
  obtain ⟨mA, mc, ws, mB, md, bs, u3, hm, hmw, hmb⟩ := op_mem g3
  simp only [List.cons.injEq, and_true] at u3
  obtain ⟨rfl, rfl⟩ := u3
  obtain ⟨d, p, u4, hth, hwf, hcap⟩ := op_th g4
  simp only [List.cons.injEq, and_true] at u4
  obtain ⟨rfl, rfl, rfl, rfl, rfl, rfl, rfl, rfl, rfl, rfl, rfl, rfl, rfl, rfl, rfl, rfl, rfl⟩ := u4
  obtain ⟨tA, tc, tl, ta, u5, htp, htl, hta⟩ := op_tape g5
  simp only [List.cons.injEq, and_true] at u5
  obtain ⟨rfl, rfl⟩ := u5
  obtain ⟨lA, lc, ll, u6, hlog⟩ := op_log g6
  injection u6 with u6
  subst u6
  obtain ⟨dn, u7⟩ := op_bool g7
  injection u7 with u7
  subst u7
  exact ⟨c, tt, now, mA, mc, ws, mB, md, bs, d, p, tA, tc, tl, ta, lA, lc, ll, dn, rfl, hm, hth, hwf, htp, hlog, hnow, hcap, hcf, htt, hta, hmw, hmb⟩
set_option maxRecDepth 20000 in
theorem open_tnE {r : Reach} {b0 : Nat} {v : Value} {D : DataW H} {pl : List MemPlace} (hv : Value.okWide Try.prog w r b0 38 v) (h : DataW.Trod enc Try.prog w base spare held 38 v D pl) :
    ∃ (c : Cf) (tt now : Int) (mA : Option Addr) (mc : Nat) (ws : List Int) (mB : Option Addr) (md : Nat) (bs : List Bt) (d : Dt) (p : Ad) (tA : Option Addr) (tc : Nat) (tl : List Int) (ta : Int) (lA : Option Addr) (lc : Nat) (ll : List M6) (dn : Bool), v = .agg (List.toArray (.int .i64 c.x0 :: .int .i64 c.x1 :: .int .i64 c.x2 :: .int .i64 c.x3 :: .int .i64 c.x4 :: .int .i64 c.x5 :: .int .i64 c.x6 :: .int .i64 c.x7 :: .bool c.b :: .int .i64 c.x9 :: .int .i64 c.x10 :: .int .i64 c.x11 :: .int .i64 tt :: .int .i64 now :: .slice mA ws.length mc :: .slice mB bs.length md :: .int .i64 d.ph :: .int .i64 d.it :: .int .i64 d.tg :: .int .i64 d.v :: .slice p.bA d.bl.length p.bc :: .slice p.kA d.kl.length p.kc :: .slice p.hA d.hl.length p.hc :: .int .i64 d.st :: .int .i64 d.nd :: .int .i64 d.pl :: .int .i64 d.ly :: .int .i64 d.lf :: .int .i64 d.wd :: .int .i64 d.who :: .int .i64 d.x :: .int .i64 d.y :: .int .i64 d.un :: .slice tA tl.length tc :: .int .i64 ta :: .slice lA ll.length lc :: .bool dn :: [])) ∧ MemAt w mA ws mB bs ∧ ThAt w d p ∧ DtWf d ∧ Sees w w.heap.size 1 tA tl.length (tl.map (Value.int .i64)) ∧ Sees w w.heap.size 6 lA ll.length (mcells ll) ∧ I64 now ∧ d.bl.length ≤ p.bc ∧ (I64 c.x9 ∧ I64 c.x10 ∧ I64 c.x11) ∧ I64 tt ∧ I64 ta ∧ (∀ x ∈ ws, I64 x) ∧ ∀ q ∈ bs, Good q.l := by
  obtain ⟨cs, rfl, _⟩ := okWide_struct Try.underlying38 hv
  obtain ⟨fuel, hf⟩ := h
  obtain ⟨c, tt, now, mA, mc, ws, mB, md, bs, d, p, tA, tc, tl, ta, lA, lc, ll, dn, e, h1⟩ := op_turnE hf
  obtain ⟨l⟩ := cs
  exact ⟨c, tt, now, mA, mc, ws, mB, md, bs, d, p, tA, tc, tl, ta, lA, lc, ll, dn, by rw [show l = _ from e], h1⟩
end
end Go.Proofs.Ytjghdbkkjhnpfaa
