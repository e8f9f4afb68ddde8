/- Arguments opened: configs, a struct of twelve cells by value. Nothing of the program but its types. -/
import Derived.Test.YtpbneghabikpdaaPlain
import Derived.Lib.SmallJoins
namespace Go.Proofs.Ytpbneghabikpdaa
open Go.RowKit Go.ChangeShapes Go.WideShapes Go.Deep Go.Joins

section
variable {H : Type} {enc : TypeId × Value → H} {P : Program} {w : World} {base : Nat} {spare : Nat → Bool} {held : Bool}

theorem array12 {α : Type} {cs : Array α} (h : cs.size = 12) : ∃ c0 c1 c2 c3 c4 c5 c6 c7 c8 c9 c10 c11, cs = #[c0, c1, c2, c3, c4, c5, c6, c7, c8, c9, c10, c11] := by
  obtain ⟨l⟩ := cs
  match l, h with
  | [c0, c1, c2, c3, c4, c5, c6, c7, c8, c9, c10, c11], _ => exact ⟨c0, c1, c2, c3, c4, c5, c6, c7, c8, c9, c10, c11, rfl⟩

theorem open_cfg {r : Reach} {b0 : Nat} {t i k : TypeId} {f0 f1 f2 f3 f4 f5 f6 f7 f8 f9 f10 f11 : Field} {v : Value} {d : DataW H} {p : List MemPlace}
    (hs : P.underlying t = some (.struct #[f0, f1, f2, f3, f4, f5, f6, f7, f8, f9, f10, f11])) (hone : oneCellFields P #[f0, f1, f2, f3, f4, f5, f6, f7, f8, f9, f10, f11] = true) (hC : P.cellsOf t = 12)
    (hi : P.underlying i = some (.int .i64)) (hk : P.underlying k = some .bool) (ht : (f0.type = i ∧ f1.type = i ∧ f2.type = i ∧ f3.type = i ∧ f4.type = i ∧ f5.type = i ∧ f6.type = i ∧ f7.type = i ∧ f8.type = k ∧ f9.type = i ∧ f10.type = i ∧ f11.type = i))
    (hv : Value.okWide P w r b0 t v) (h : DataW.Trod enc P w base spare held t v d p) :
    ∃ (x0 x1 x2 x3 x4 x5 x6 x7 : Int) (b : Bool) (x9 x10 x11 : Int), v = .agg #[.int .i64 x0, .int .i64 x1, .int .i64 x2, .int .i64 x3, .int .i64 x4, .int .i64 x5, .int .i64 x6, .int .i64 x7, .bool b, .int .i64 x9, .int .i64 x10, .int .i64 x11] ∧ I64 x0 ∧ I64 x1 ∧ I64 x2 ∧ I64 x3 ∧ I64 x4 ∧ I64 x5 ∧ I64 x6 ∧ I64 x7 ∧ I64 x9 ∧ I64 x10 ∧ I64 x11 := by
  obtain ⟨cs, rfl, hsz⟩ := okWide_struct hs hv
  obtain ⟨c0, c1, c2, c3, c4, c5, c6, c7, c8, c9, c10, c11, rfl⟩ := array12 (hsz.trans hC)
  obtain ⟨fuel, hf⟩ := h
  obtain ⟨ys, n, _, _, _, hyl, hfl⟩ := DataW.trod_struct hs hf
  obtain ⟨t0, t1, t2, t3, t4, t5, t6, t7, t8, t9, t10, t11⟩ := ht
  obtain ⟨o0, k0⟩ := hone_of hone 0 f0 rfl
  have g0 := hfl 0 f0 rfl
  obtain ⟨y0, e0⟩ : ∃ y, ys[0]? = some y := ⟨ys[0]'(by rw [hyl]; simp), List.getElem?_eq_getElem _⟩
  rw [o0, k0, t0, e0] at g0
  obtain ⟨x0, u0, _, w0⟩ := DataW.trod_int hi g0
  simp [Value.cells] at u0
  subst u0
  obtain ⟨o1, k1⟩ := hone_of hone 1 f1 rfl
  have g1 := hfl 1 f1 rfl
  obtain ⟨y1, e1⟩ : ∃ y, ys[1]? = some y := ⟨ys[1]'(by rw [hyl]; simp), List.getElem?_eq_getElem _⟩
  rw [o1, k1, t1, e1] at g1
  obtain ⟨x1, u1, _, w1⟩ := DataW.trod_int hi g1
  simp [Value.cells] at u1
  subst u1
  obtain ⟨o2, k2⟩ := hone_of hone 2 f2 rfl
  have g2 := hfl 2 f2 rfl
  obtain ⟨y2, e2⟩ : ∃ y, ys[2]? = some y := ⟨ys[2]'(by rw [hyl]; simp), List.getElem?_eq_getElem _⟩
  rw [o2, k2, t2, e2] at g2
  obtain ⟨x2, u2, _, w2⟩ := DataW.trod_int hi g2
  simp [Value.cells] at u2
  subst u2
  obtain ⟨o3, k3⟩ := hone_of hone 3 f3 rfl
  have g3 := hfl 3 f3 rfl
  obtain ⟨y3, e3⟩ : ∃ y, ys[3]? = some y := ⟨ys[3]'(by rw [hyl]; simp), List.getElem?_eq_getElem _⟩
  rw [o3, k3, t3, e3] at g3
  obtain ⟨x3, u3, _, w3⟩ := DataW.trod_int hi g3
  simp [Value.cells] at u3
  subst u3
  obtain ⟨o4, k4⟩ := hone_of hone 4 f4 rfl
  have g4 := hfl 4 f4 rfl
  obtain ⟨y4, e4⟩ : ∃ y, ys[4]? = some y := ⟨ys[4]'(by rw [hyl]; simp), List.getElem?_eq_getElem _⟩
  rw [o4, k4, t4, e4] at g4
  obtain ⟨x4, u4, _, w4⟩ := DataW.trod_int hi g4
  simp [Value.cells] at u4
  subst u4
  obtain ⟨o5, k5⟩ := hone_of hone 5 f5 rfl
  have g5 := hfl 5 f5 rfl
  obtain ⟨y5, e5⟩ : ∃ y, ys[5]? = some y := ⟨ys[5]'(by rw [hyl]; simp), List.getElem?_eq_getElem _⟩
  rw [o5, k5, t5, e5] at g5
  obtain ⟨x5, u5, _, w5⟩ := DataW.trod_int hi g5
  simp [Value.cells] at u5
  subst u5
  obtain ⟨o6, k6⟩ := hone_of hone 6 f6 rfl
  have g6 := hfl 6 f6 rfl
  obtain ⟨y6, e6⟩ : ∃ y, ys[6]? = some y := ⟨ys[6]'(by rw [hyl]; simp), List.getElem?_eq_getElem _⟩
  rw [o6, k6, t6, e6] at g6
  obtain ⟨x6, u6, _, w6⟩ := DataW.trod_int hi g6
  simp [Value.cells] at u6
  subst u6
  obtain ⟨o7, k7⟩ := hone_of hone 7 f7 rfl
  have g7 := hfl 7 f7 rfl
  obtain ⟨y7, e7⟩ : ∃ y, ys[7]? = some y := ⟨ys[7]'(by rw [hyl]; simp), List.getElem?_eq_getElem _⟩
  rw [o7, k7, t7, e7] at g7
  obtain ⟨x7, u7, _, w7⟩ := DataW.trod_int hi g7
  simp [Value.cells] at u7
  subst u7
  obtain ⟨o8, k8⟩ := hone_of hone 8 f8 rfl
  have g8 := hfl 8 f8 rfl
  obtain ⟨y8, e8⟩ : ∃ y, ys[8]? = some y := ⟨ys[8]'(by rw [hyl]; simp), List.getElem?_eq_getElem _⟩
  rw [o8, k8, t8, e8] at g8
  obtain ⟨x8, u8, _⟩ := DataW.trod_bool hk g8
  simp [Value.cells] at u8
  subst u8
  obtain ⟨o9, k9⟩ := hone_of hone 9 f9 rfl
  have g9 := hfl 9 f9 rfl
  obtain ⟨y9, e9⟩ : ∃ y, ys[9]? = some y := ⟨ys[9]'(by rw [hyl]; simp), List.getElem?_eq_getElem _⟩
  rw [o9, k9, t9, e9] at g9
  obtain ⟨x9, u9, _, w9⟩ := DataW.trod_int hi g9
  simp [Value.cells] at u9
  subst u9
  obtain ⟨o10, k10⟩ := hone_of hone 10 f10 rfl
  have g10 := hfl 10 f10 rfl
  obtain ⟨y10, e10⟩ : ∃ y, ys[10]? = some y := ⟨ys[10]'(by rw [hyl]; simp), List.getElem?_eq_getElem _⟩
  rw [o10, k10, t10, e10] at g10
  obtain ⟨x10, u10, _, w10⟩ := DataW.trod_int hi g10
  simp [Value.cells] at u10
  subst u10
  obtain ⟨o11, k11⟩ := hone_of hone 11 f11 rfl
  have g11 := hfl 11 f11 rfl
  obtain ⟨y11, e11⟩ : ∃ y, ys[11]? = some y := ⟨ys[11]'(by rw [hyl]; simp), List.getElem?_eq_getElem _⟩
  rw [o11, k11, t11, e11] at g11
  obtain ⟨x11, u11, _, w11⟩ := DataW.trod_int hi g11
  simp [Value.cells] at u11
  subst u11
  exact ⟨x0, x1, x2, x3, x4, x5, x6, x7, x8, x9, x10, x11, rfl, i64_of_wf w0, i64_of_wf w1, i64_of_wf w2, i64_of_wf w3, i64_of_wf w4, i64_of_wf w5, i64_of_wf w6, i64_of_wf w7, i64_of_wf w9, i64_of_wf w10, i64_of_wf w11⟩
end
end Go.Proofs.Ytpbneghabikpdaa
