/- Arguments opened: slices of entries of five numbers. Nothing of the program but its types. -/
import Derived.Test.YtlmkbfbiohocpaaSc
import Derived.Test.YtlmkbfbiohocpaaOpen
namespace Go.Proofs.Ytlmkbfbiohocpaa
open Go.RowKit Go.ChangeShapes Go.WideShapes Go.Deep

section
variable {H : Type} {enc : TypeId × Value → H} {P : Program} {w : World} {base : Nat} {spare : Nat → Bool} {held : Bool}

/-- A struct of three numbers and of a struct of two numbers, laid out in five cells. -/
theorem open_ent5 {r : Reach} {b0 : Nat} {t e s i : TypeId} {f0 f1 f2 f3 g0 g1 : Field} {v : Value} {d : DataW H} {p : List MemPlace} (ht : P.underlying t = some (.slice e)) (he : P.underlying e = some (.struct #[f0, f1, f2, f3])) (hs : P.underlying s = some (.struct #[g0, g1]))
    (hce : P.cellsOf e = 5) (hcs : P.cellsOf s = 2) (hi : P.underlying i = some (.int .i64)) (hci : P.cellsOf i = 1)
    (t0 : f0.type = i ∧ f1.type = i ∧ f2.type = i ∧ f3.type = s ∧ g0.type = i ∧ g1.type = i) (o0 : f0.offset = 0 ∧ f1.offset = 1 ∧ f2.offset = 2 ∧ f3.offset = 3 ∧ g0.offset = 0 ∧ g1.offset = 1)
    (hv : Value.okWide P w r b0 t v) (h : DataW.Trod enc P w base spare held t v d p) :
    ∃ (A : Option Addr) (n cap : Nat) (l : List E5), v = .slice A n cap ∧ n = l.length ∧ n ≤ cap ∧ Sees w w.heap.size 5 A n (ec5 l) ∧ Good5 l := by
  obtain ⟨tf0, tf1, tf2, tf3, tg0, tg1⟩ := t0
  obtain ⟨of0, of1, of2, of3, og0, og1⟩ := o0
  obtain ⟨a0, len, cap, rfl⟩ := okWide_slice ht hv
  obtain ⟨fuel, hf⟩ := h
  rcases open_slice ht hf with ⟨hcs', hx⟩ | ⟨a, len', cap', m, n, D, Pl, hcs', _, hl, hm, hmm, hx, hi'⟩
  · simp [Value.cells] at hcs'
    obtain ⟨rfl, rfl, rfl⟩ := hcs'
    exact ⟨none, 0, 0, [], rfl, rfl, Nat.le_refl _, Sees.empty, fun e he => by cases he⟩
  · simp [Value.cells] at hcs'
    obtain ⟨rfl, rfl, rfl⟩ := hcs'
    have hlm : len ≤ m := by rw [hmm]; split <;> omega
    have key : ∀ j, j < len → ∃ q : E5, (w.cell? (a.add (j * 5)) = some (.int .i64 q.1) ∧ w.cell? ((a.add (j * 5)).add 1) = some (.int .i64 q.2.1) ∧ w.cell? ((a.add (j * 5)).add 2) = some (.int .i64 q.2.2.1) ∧ w.cell? ((a.add (j * 5)).add 3) = some (.int .i64 q.2.2.2.1) ∧ w.cell? ((a.add (j * 5)).add 4) = some (.int .i64 q.2.2.2.2)) ∧ Ok5 q := by
      intro j hil
      obtain ⟨cs, hc, htr⟩ := hi' j (by omega)
      rw [hce] at hc
      obtain ⟨_, hcl, hat⟩ := World.cells?_some hc
      obtain ⟨ys, n1, _, _, _, hyl, hfl⟩ := DataW.trod_struct he htr
      match cs, hcl with
      | [u0, u1, u2, u3, u4], _ =>
        match ys, hyl with
        | [y0, y1, y2, y3], _ =>
          have e0 := hfl 0 f0 rfl
          have e1 := hfl 1 f1 rfl
          have e2 := hfl 2 f2 rfl
          have e3 := hfl 3 f3 rfl
          rw [of0, tf0, hci] at e0
          rw [of1, tf1, hci] at e1
          rw [of2, tf2, hci] at e2
          rw [of3, tf3, hcs] at e3
          obtain ⟨x0, q0, _, w0⟩ := DataW.trod_int hi (by simpa using e0)
          obtain ⟨x1, q1, _, w1⟩ := DataW.trod_int hi (by simpa using e1)
          obtain ⟨x2, q2, _, w2⟩ := DataW.trod_int hi (by simpa using e2)
          obtain ⟨zs, n2, _, _, _, hzl, hgl⟩ := DataW.trod_struct hs (show DataW.trod enc P w base spare held n1 s [u3, u4] = some y3 by simpa using e3)
          match zs, hzl with
          | [z0, z1], _ =>
            have e4 := hgl 0 g0 rfl
            have e5 := hgl 1 g1 rfl
            rw [og0, tg0, hci] at e4
            rw [og1, tg1, hci] at e5
            obtain ⟨x3, q3, _, w3⟩ := DataW.trod_int hi (by simpa using e4)
            obtain ⟨x4, q4, _, w4⟩ := DataW.trod_int hi (by simpa using e5)
            simp at q0 q1 q2 q3 q4
            subst q0 q1 q2 q3 q4
            refine ⟨(x0, x1, x2, x3, x4), ⟨?_, ?_, ?_, ?_, ?_⟩, i64_of_wf w0, i64_of_wf w1, i64_of_wf w2, i64_of_wf w3, i64_of_wf w4⟩
            · have := hat 0 (by omega)
              rw [show (a.add (j * 5)).add 0 = a.add (j * 5) from by simp [Addr.add]] at this
              simpa using this
            · simpa using hat 1 (by omega)
            · simpa using hat 2 (by omega)
            · simpa using hat 3 (by omega)
            · simpa using hat 4 (by omega)
    obtain ⟨l, hll, hlp⟩ := choose_list len key
    refine ⟨some a, len, cap, l, rfl, hll.symm, hl, ⟨by rw [ec5_length, hll], fun hn => ?_⟩, fun q hq => ?_⟩
    · obtain ⟨q, hq⟩ : ∃ q, l[0]? = some q := ⟨l[0]'(by omega), List.getElem?_eq_getElem _⟩
      have h00 := (hlp 0 q hq).1.1
      rw [Nat.zero_mul, show a.add 0 = a from by simp [Addr.add]] at h00
      obtain ⟨b, off, rfl⟩ := plain_addr h00
      refine ⟨b, off, rfl, World.block_lt_of_cell? w _ h00, fun j u hu => ?_⟩
      have hj : j < l.length * 5 := by
        rcases Nat.lt_or_ge j (l.length * 5) with h | h
        · exact h
        · rw [List.getElem?_eq_none (by rw [ec5_length]; omega)] at hu; cases hu
      obtain ⟨q, hq⟩ : ∃ q, l[j / 5]? = some q := ⟨l[j / 5]'(by omega), List.getElem?_eq_getElem _⟩
      obtain ⟨a0, a1, a2, a3, a4⟩ := ec5_at hq
      obtain ⟨⟨b0, b1, b2, b3, b4⟩, _⟩ := hlp (j / 5) q hq
      rw [addr_add] at b0 b1 b2 b3 b4
      rw [addr_add] at b1 b2 b3 b4
      have hr : j = j / 5 * 5 ∨ j = j / 5 * 5 + 1 ∨ j = j / 5 * 5 + 2 ∨ j = j / 5 * 5 + 3 ∨ j = j / 5 * 5 + 4 := by omega
      rcases hr with hr | hr | hr | hr | hr
      · rw [hr] at hu ⊢; rw [a0] at hu; rw [b0]; exact hu
      · rw [hr] at hu ⊢; rw [a1] at hu; rw [← Nat.add_assoc, b1]; exact hu
      · rw [hr] at hu ⊢; rw [a2] at hu; rw [← Nat.add_assoc, b2]; exact hu
      · rw [hr] at hu ⊢; rw [a3] at hu; rw [← Nat.add_assoc, b3]; exact hu
      · rw [hr] at hu ⊢; rw [a4] at hu; rw [← Nat.add_assoc, b4]; exact hu
    · obtain ⟨i, hi⟩ := List.getElem?_of_mem hq
      exact (hlp i q hi).2
end
end Go.Proofs.Ytlmkbfbiohocpaa
