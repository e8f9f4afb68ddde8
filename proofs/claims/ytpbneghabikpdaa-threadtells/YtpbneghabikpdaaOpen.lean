/- Arguments opened: slices of numbers, slices of entries. Nothing of the program but its types. -/
import Derived.Test.YtpbneghabikpdaaRead
import Derived.Test.YtpbneghabikpdaaRows
import Derived.Deep.Slices
import Derived.ProofKit
import Derived.OpenShut
namespace Go.Proofs.Ytpbneghabikpdaa
open Go.RowKit Go.ChangeShapes Go.WideShapes Go.Deep

theorem choose_list {α : Type} {p : Nat → α → Prop} : ∀ (n : Nat), (∀ i, i < n → ∃ a, p i a) → ∃ l : List α, l.length = n ∧ ∀ i a, l[i]? = some a → p i a
  | 0, _ => ⟨[], rfl, fun i a h => by simp at h⟩
  | n + 1, h => by
    obtain ⟨l, hl, hp⟩ := choose_list n fun i hi => h i (by omega)
    obtain ⟨a, ha⟩ := h n (by omega)
    refine ⟨l ++ [a], by simp [hl], fun i b hb => ?_⟩
    rcases Nat.lt_or_ge i n with hi | hi
    · rw [List.getElem?_append_left (by omega)] at hb
      exact hp i b hb
    · rw [List.getElem?_append_right (by omega), hl] at hb
      have : i - n = 0 := by
        rcases Nat.eq_zero_or_pos (i - n) with h0 | h0
        · exact h0
        · rw [List.getElem?_eq_none (by simp; omega)] at hb; cases hb
      rw [this] at hb
      simp at hb
      subst hb
      rwa [show i = n by omega]

theorem plain_addr {w : World} {a : Addr} {v : Value} (h : w.cell? a = some v) : ∃ b off, a = ⟨b, off, none⟩ := by
  obtain ⟨b, off, spot⟩ := a
  have := World.cell?_spot h
  simp at this
  subst this
  exact ⟨b, off, rfl⟩

section
variable {H : Type} {enc : TypeId × Value → H} {P : Program} {w : World} {base : Nat} {spare : Nat → Bool} {held : Bool}

theorem open_nums {r : Reach} {b0 : Nat} {t e : TypeId} {v : Value} {d : DataW H} {p : List MemPlace} (ht : P.underlying t = some (.slice e)) (he : P.underlying e = some (.int .i64)) (hc : P.cellsOf e = 1)
    (hv : Value.okWide P w r b0 t v) (h : DataW.Trod enc P w base spare held t v d p) :
    ∃ (A : Option Addr) (n cap : Nat) (l : List Int), v = .slice A n cap ∧ n = l.length ∧ n ≤ cap ∧ Sees w w.heap.size 1 A n (l.map (Value.int .i64)) ∧ ∀ x ∈ l, I64 x := by
  obtain ⟨a0, len, cap, rfl⟩ := okWide_slice ht hv
  obtain ⟨fuel, hf⟩ := h
  rcases open_ints ht he hc hf with ⟨hcs, hx⟩ | ⟨a, len', cap', zs, hcs, _, hl, hm, hz, hx, hcell, hwz⟩
  · simp [Value.cells] at hcs
    obtain ⟨rfl, rfl, rfl⟩ := hcs
    exact ⟨none, 0, 0, [], rfl, rfl, Nat.le_refl _, Sees.empty, by simp⟩
  · simp [Value.cells] at hcs
    obtain ⟨rfl, rfl, rfl⟩ := hcs
    have hzl : len ≤ zs.length := by rw [hz]; split <;> omega
    refine ⟨some a, len, cap, zs.take len, rfl, by rw [List.length_take]; omega, hl, ⟨by simp; omega, fun hn => ?_⟩, fun x hx => i64_of_wf (hwz x (List.mem_of_mem_take hx))⟩
    obtain ⟨b, off, rfl, hc⟩ := ints_at hcell (by omega)
    refine ⟨b, off, rfl, World.block_lt_of_cell? w _ (hc 0 (by omega)), fun j u hu => ?_⟩
    rw [List.getElem?_map, List.getElem?_take] at hu
    split at hu
    · rename_i hj
      rw [hc j (by omega)]
      have hjz : j < zs.length := by omega
      simp [List.getElem?_eq_getElem hjz] at hu
      subst hu
      simp [List.getD, List.getElem?_eq_getElem hjz]
    · cases hu

/-- A struct of a number and of a struct of two numbers, laid out in three cells. -/
theorem open_ents {r : Reach} {b0 : Nat} {t e s : TypeId} {f0 f1 g0 g1 : Field} {v : Value} {d : DataW H} {p : List MemPlace} (ht : P.underlying t = some (.slice e)) (he : P.underlying e = some (.struct #[f0, f1])) (hs : P.underlying s = some (.struct #[g0, g1]))
    (hce : P.cellsOf e = 3) (hcs : P.cellsOf s = 2) (h0 : P.underlying f0.type = some (.int .i64)) (o0 : f0.offset = 0) (c0 : P.cellsOf f0.type = 1) (t1 : f1.type = s) (o1 : f1.offset = 1)
    (k0 : P.underlying g0.type = some (.int .i64)) (p0 : g0.offset = 0) (d0 : P.cellsOf g0.type = 1) (k1 : P.underlying g1.type = some (.int .i64)) (p1 : g1.offset = 1) (d1 : P.cellsOf g1.type = 1)
    (hv : Value.okWide P w r b0 t v) (h : DataW.Trod enc P w base spare held t v d p) :
    ∃ (A : Option Addr) (n cap : Nat) (l : List E3), v = .slice A n cap ∧ n = l.length ∧ n ≤ cap ∧ Sees w w.heap.size 3 A n (ecells l) ∧ Good l := by
  obtain ⟨a0, len, cap, rfl⟩ := okWide_slice ht hv
  obtain ⟨fuel, hf⟩ := h
  rcases open_slice ht hf with ⟨hcs', hx⟩ | ⟨a, len', cap', m, n, D, Pl, hcs', _, hl, hm, hmm, hx, hi⟩
  · simp [Value.cells] at hcs'
    obtain ⟨rfl, rfl, rfl⟩ := hcs'
    exact ⟨none, 0, 0, [], rfl, rfl, Nat.le_refl _, Sees.empty, fun e he => by cases he⟩
  · simp [Value.cells] at hcs'
    obtain ⟨rfl, rfl, rfl⟩ := hcs'
    have hlm : len ≤ m := by rw [hmm]; split <;> omega
    have key : ∀ i, i < len → ∃ q : E3, (w.cell? (a.add (i * 3)) = some (.int .i64 q.1) ∧ w.cell? ((a.add (i * 3)).add 1) = some (.int .i64 q.2.1) ∧ w.cell? ((a.add (i * 3)).add 2) = some (.int .i64 q.2.2)) ∧ I64 q.2.2 := by
      intro i hil
      obtain ⟨cs, hc, htr⟩ := hi i (by omega)
      rw [hce] at hc
      obtain ⟨_, hcl, hat⟩ := World.cells?_some hc
      obtain ⟨ys, n1, _, _, _, hyl, hfl⟩ := DataW.trod_struct he htr
      match cs, hcl with
      | [u0, u1, u2], _ =>
        match ys, hyl with
        | [y0, y1], _ =>
          have e0 := hfl 0 f0 rfl
          have e1 := hfl 1 f1 rfl
          rw [o0, c0] at e0
          rw [o1, t1, hcs] at e1
          obtain ⟨x0, q0, _, _⟩ := DataW.trod_int h0 (by simpa using e0)
          obtain ⟨zs, n2, _, _, _, hzl, hgl⟩ := DataW.trod_struct hs (show DataW.trod enc P w base spare held n1 s [u1, u2] = some y1 by simpa using e1)
          match zs, hzl with
          | [z0, z1], _ =>
            have e2 := hgl 0 g0 rfl
            have e3 := hgl 1 g1 rfl
            rw [p0, d0] at e2
            rw [p1, d1] at e3
            obtain ⟨x1, q1, _, _⟩ := DataW.trod_int k0 (by simpa using e2)
            obtain ⟨x2, q2, _, wf2⟩ := DataW.trod_int k1 (by simpa using e3)
            simp at q0 q1 q2
            subst q0 q1 q2
            refine ⟨(x0, x1, x2), ⟨?_, ?_, ?_⟩, i64_of_wf wf2⟩
            · have := hat 0 (by omega)
              rw [show (a.add (i * 3)).add 0 = a.add (i * 3) from by simp [Addr.add]] at this
              simpa using this
            · simpa using hat 1 (by omega)
            · simpa using hat 2 (by omega)
    obtain ⟨l, hll, hlp⟩ := choose_list len key
    refine ⟨some a, len, cap, l, rfl, hll.symm, hl, ⟨by rw [ecells_length, hll], fun hn => ?_⟩, fun q hq => ?_⟩
    · obtain ⟨q, hq⟩ : ∃ q, l[0]? = some q := ⟨l[0]'(by omega), List.getElem?_eq_getElem _⟩
      have h00 := (hlp 0 q hq).1.1
      rw [Nat.zero_mul, show a.add 0 = a from by simp [Addr.add]] at h00
      obtain ⟨b, off, rfl⟩ := plain_addr h00
      refine ⟨b, off, rfl, World.block_lt_of_cell? w _ h00, fun j u hu => ?_⟩
      have hj : j < l.length * 3 := by
        rcases Nat.lt_or_ge j (l.length * 3) with h | h
        · exact h
        · rw [List.getElem?_eq_none (by rw [ecells_length]; omega)] at hu; cases hu
      obtain ⟨q, hq⟩ : ∃ q, l[j / 3]? = some q := ⟨l[j / 3]'(by omega), List.getElem?_eq_getElem _⟩
      obtain ⟨a0, a1, a2⟩ := ecells_at hq
      obtain ⟨⟨b0, b1, b2⟩, _⟩ := hlp (j / 3) q hq
      rw [addr_add] at b0 b1 b2
      rw [addr_add] at b1 b2
      have hr : j = j / 3 * 3 ∨ j = j / 3 * 3 + 1 ∨ j = j / 3 * 3 + 2 := by omega
      rcases hr with hr | hr | hr
      · rw [hr] at hu ⊢; rw [a0] at hu; rw [b0]; exact hu
      · rw [hr] at hu ⊢; rw [a1] at hu; rw [← Nat.add_assoc, b1]; exact hu
      · rw [hr] at hu ⊢; rw [a2] at hu; rw [← Nat.add_assoc, b2]; exact hu
    · obtain ⟨i, hi⟩ := List.getElem?_of_mem hq
      exact (hlp i q hi).2
end
end Go.Proofs.Ytpbneghabikpdaa
