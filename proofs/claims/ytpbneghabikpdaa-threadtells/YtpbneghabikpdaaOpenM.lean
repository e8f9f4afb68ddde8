/- Arguments opened: memories, a struct of a slice of numbers and of a slice of batches. Nothing of the program but its types. -/
import Derived.Test.YtpbneghabikpdaaOpen
import Derived.Test.YtpbneghabikpdaaMem
import Derived.Lib.SmallJoins
namespace Go.Proofs.Ytpbneghabikpdaa
open Go.RowKit Go.ChangeShapes Go.WideShapes Go.Deep Go.Joins

section
variable {H : Type} {enc : TypeId × Value → H} {P : Program} {w : World} {base : Nat} {spare : Nat → Bool} {held : Bool}

theorem open_nums' {t e : TypeId} {fuel : Nat} {v : Value} {x : DataW H × List MemPlace} (ht : P.underlying t = some (.slice e)) (he : P.underlying e = some (.int .i64)) (hc : P.cellsOf e = 1)
    (hf : DataW.trod enc P w base spare held fuel t [v] = some x) :
    ∃ (A : Option Addr) (cap : Nat) (l : List Int), v = .slice A l.length cap ∧ Sees w w.heap.size 1 A l.length (l.map (Value.int .i64)) ∧ ∀ x ∈ l, I64 x := by
  rcases open_ints ht he hc hf with ⟨hcs, hx⟩ | ⟨a, len, cap, zs, hcs, _, hl, hm, hz, hx, hcell, hwz⟩
  · simp at hcs
    subst hcs
    exact ⟨none, 0, [], rfl, Sees.empty, by simp⟩
  · simp at hcs
    subst hcs
    have hzl : len ≤ zs.length := by rw [hz]; split <;> omega
    have hlt : (zs.take len).length = len := by rw [List.length_take]; omega
    refine ⟨some a, cap, zs.take len, by rw [hlt], ⟨by simp, fun hn => ?_⟩, fun x hx => i64_of_wf (hwz x (List.mem_of_mem_take hx))⟩
    obtain ⟨b, off, rfl, hc⟩ := ints_at hcell (by omega)
    refine ⟨b, off, rfl, World.block_lt_of_cell? w _ (hc 0 (by omega)), fun j u hu => ?_⟩
    rw [List.getElem?_map, List.getElem?_take] at hu
    split at hu
    · rename_i hj
      rw [hc j (by omega)]
      have hjz : j < zs.length := by omega
      simp [List.getElem?_eq_getElem hjz] at hu
      subst hu
      simp [List.getD, List.getElem?_eq_getElem hjz]
    · cases hu

theorem open_ents' {t e s : TypeId} {f0 f1 g0 g1 : Field} {fuel : Nat} {v : Value} {x : DataW H × List MemPlace} (ht : P.underlying t = some (.slice e)) (he : P.underlying e = some (.struct #[f0, f1])) (hs : P.underlying s = some (.struct #[g0, g1]))
    (hce : P.cellsOf e = 3) (hcs : P.cellsOf s = 2) (h0 : P.underlying f0.type = some (.int .i64)) (o0 : f0.offset = 0) (c0 : P.cellsOf f0.type = 1) (t1 : f1.type = s) (o1 : f1.offset = 1)
    (k0 : P.underlying g0.type = some (.int .i64)) (p0 : g0.offset = 0) (d0 : P.cellsOf g0.type = 1) (k1 : P.underlying g1.type = some (.int .i64)) (p1 : g1.offset = 1) (d1 : P.cellsOf g1.type = 1)
    (hf : DataW.trod enc P w base spare held fuel t [v] = some x) :
    ∃ (A : Option Addr) (cap : Nat) (l : List E3), v = .slice A l.length cap ∧ Sees w w.heap.size 3 A l.length (ecells l) ∧ Good l := by
  rcases open_slice ht hf with ⟨hcs', hx⟩ | ⟨a, len, cap, m, n, D, Pl, hcs', _, hl, hm, hmm, hx, hi⟩
  · simp at hcs'
    subst hcs'
    exact ⟨none, 0, [], rfl, Sees.empty, fun e he => by cases he⟩
  · simp at hcs'
    subst hcs'
    have hlm : len ≤ m := by rw [hmm]; split <;> omega
    have key : ∀ i, i < len → ∃ q : E3, (w.cell? (a.add (i * 3)) = some (.int .i64 q.1) ∧ w.cell? ((a.add (i * 3)).add 1) = some (.int .i64 q.2.1) ∧ w.cell? ((a.add (i * 3)).add 2) = some (.int .i64 q.2.2)) ∧ I64 q.2.2 := by
      intro i hil
      obtain ⟨cs, hc, htr⟩ := hi i (by omega)
      rw [hce] at hc
      obtain ⟨_, hcl, hat⟩ := World.cells?_some hc
      obtain ⟨ys, n1, _, _, _, hyl, hfl⟩ := DataW.trod_struct he htr
      match cs, hcl with
      | [u0, u1, u2], _ =>
        match ys, hyl with
        | [y0, y1], _ =>
          have e0 := hfl 0 f0 rfl
          have e1 := hfl 1 f1 rfl
          rw [o0, c0] at e0
          rw [o1, t1, hcs] at e1
          obtain ⟨x0, q0, _, _⟩ := DataW.trod_int h0 (by simpa using e0)
          obtain ⟨zs, n2, _, _, _, hzl, hgl⟩ := DataW.trod_struct hs (show DataW.trod enc P w base spare held n1 s [u1, u2] = some y1 by simpa using e1)
          match zs, hzl with
          | [z0, z1], _ =>
            have e2 := hgl 0 g0 rfl
            have e3 := hgl 1 g1 rfl
            rw [p0, d0] at e2
            rw [p1, d1] at e3
            obtain ⟨x1, q1, _, _⟩ := DataW.trod_int k0 (by simpa using e2)
            obtain ⟨x2, q2, _, wf2⟩ := DataW.trod_int k1 (by simpa using e3)
            simp at q0 q1 q2
            subst q0 q1 q2
            refine ⟨(x0, x1, x2), ⟨?_, ?_, ?_⟩, i64_of_wf wf2⟩
            · have := hat 0 (by omega)
              rw [show (a.add (i * 3)).add 0 = a.add (i * 3) from by simp [Addr.add]] at this
              simpa using this
            · simpa using hat 1 (by omega)
            · simpa using hat 2 (by omega)
    obtain ⟨l, hll, hlp⟩ := choose_list len key
    refine ⟨some a, cap, l, by rw [hll], ⟨by rw [ecells_length], fun hn => ?_⟩, fun q hq => ?_⟩
    · obtain ⟨q, hq⟩ : ∃ q, l[0]? = some q := ⟨l[0]'(by omega), List.getElem?_eq_getElem _⟩
      have h00 := (hlp 0 q hq).1.1
      rw [Nat.zero_mul, show a.add 0 = a from by simp [Addr.add]] at h00
      obtain ⟨b, off, rfl⟩ := plain_addr h00
      refine ⟨b, off, rfl, World.block_lt_of_cell? w _ h00, fun j u hu => ?_⟩
      have hj : j < l.length * 3 := by
        rcases Nat.lt_or_ge j (l.length * 3) with h | h
        · exact h
        · rw [List.getElem?_eq_none (by rw [ecells_length]; omega)] at hu; cases hu
      obtain ⟨q, hq⟩ : ∃ q, l[j / 3]? = some q := ⟨l[j / 3]'(by omega), List.getElem?_eq_getElem _⟩
      obtain ⟨a0, a1, a2⟩ := ecells_at hq
      obtain ⟨⟨b0, b1, b2⟩, _⟩ := hlp (j / 3) q hq
      rw [addr_add] at b0 b1 b2
      rw [addr_add] at b1 b2
      have hr : j = j / 3 * 3 ∨ j = j / 3 * 3 + 1 ∨ j = j / 3 * 3 + 2 := by omega
      rcases hr with hr | hr | hr
      · rw [hr] at hu ⊢; rw [a0] at hu; rw [b0]; exact hu
      · rw [hr] at hu ⊢; rw [a1] at hu; rw [← Nat.add_assoc, b1]; exact hu
      · rw [hr] at hu ⊢; rw [a2] at hu; rw [← Nat.add_assoc, b2]; exact hu
    · obtain ⟨i, hi⟩ := List.getElem?_of_mem hq
      exact (hlp i q hi).2

/-- A slice of batches: what opens one element opens all. -/
theorem open_bxs {t e : TypeId} {fuel : Nat} {v : Value} {x : DataW H × List MemPlace} (ht : P.underlying t = some (.slice e)) (hce : P.cellsOf e = 1)
    (hel : ∀ {fuel : Nat} {v : Value} {x : DataW H × List MemPlace}, DataW.trod enc P w base spare held fuel e [v] = some x → ∃ (A : Option Addr) (cap : Nat) (l : List E3), v = .slice A l.length cap ∧ Sees w w.heap.size 3 A l.length (ecells l) ∧ Good l)
    (hf : DataW.trod enc P w base spare held fuel t [v] = some x) :
    ∃ (B : Option Addr) (cap : Nat) (bs : List Bt), v = .slice B bs.length cap ∧ Sees w w.heap.size 1 B bs.length (bs.map Bt.val) ∧ ∀ q ∈ bs, q.Ok w ∧ Good q.l := by
  rcases open_slice ht hf with ⟨hcs', hx⟩ | ⟨a, len, cap, m, n, D, Pl, hcs', _, hl, hm, hmm, hx, hi⟩
  · simp at hcs'
    subst hcs'
    exact ⟨none, 0, [], rfl, Sees.empty, fun e he => by cases he⟩
  · simp at hcs'
    subst hcs'
    have hlm : len ≤ m := by rw [hmm]; split <;> omega
    have key : ∀ i, i < len → ∃ q : Bt, w.cell? (a.add i) = some q.val ∧ q.Ok w ∧ Good q.l := by
      intro i hil
      obtain ⟨cs, hc, htr⟩ := hi i (by omega)
      rw [hce, Nat.mul_one] at hc
      obtain ⟨_, hcl, hat⟩ := World.cells?_some hc
      match cs, hcl with
      | [u], _ =>
        obtain ⟨A, c, l, rfl, h1, h2⟩ := hel htr
        refine ⟨⟨A, c, l⟩, ?_, h1, h2⟩
        have := hat 0 (by omega)
        rw [show (a.add i).add 0 = a.add i from by simp [Addr.add]] at this
        simpa [Bt.val] using this
    obtain ⟨bs, hll, hlp⟩ := choose_list len key
    refine ⟨some a, cap, bs, by rw [hll], ⟨by simp, fun hn => ?_⟩, fun q hq => ?_⟩
    · obtain ⟨q, hq⟩ : ∃ q, bs[0]? = some q := ⟨bs[0]'(by omega), List.getElem?_eq_getElem _⟩
      have h00 := (hlp 0 q hq).1
      rw [show a.add 0 = a from by simp [Addr.add]] at h00
      obtain ⟨b, off, rfl⟩ := plain_addr h00
      refine ⟨b, off, rfl, World.block_lt_of_cell? w _ h00, fun j u hu => ?_⟩
      rw [List.getElem?_map] at hu
      cases hj : bs[j]? with
      | none => rw [hj] at hu; cases hu
      | some q' =>
        rw [hj] at hu
        injection hu with hu
        subst hu
        have := (hlp j q' hj).1
        rwa [addr_add] at this
    · obtain ⟨i, hi⟩ := List.getElem?_of_mem hq
      exact ⟨(hlp i q hi).2.1, (hlp i q hi).2.2⟩
end
end Go.Proofs.Ytpbneghabikpdaa
