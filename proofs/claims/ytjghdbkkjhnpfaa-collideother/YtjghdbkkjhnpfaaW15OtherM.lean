/- What a step changes. -/
import Derived.Test.YtjghdbkkjhnpfaaW15Slots
import Derived.Lib.QuietBelow
import Derived.Deep.QuietTactic
import Derived.BigQuiet
namespace Go.Proofs.Ytjghdbkkjhnpfaa
open Go.RowKit Go.Sort
set_option linter.unusedVariables false
set_option linter.unusedSimpArgs false

theorem stV_or {ws : List Int} {i v : Int} {j : Nat} {x y : Int} (hx : ws[j]? = some x) (hy : (stV ws i v)[j]? = some y) : y = x ∨ ((j : Int) = i ∧ y = v) := by
  unfold stV at hy
  split at hy
  · rename_i hr
    by_cases he : i.toNat = j
    · have : (j : Int) = i := by simp [inR] at hr; omega
      rw [he, List.getElem?_set_self (List.getElem?_eq_some_iff.1 hx).1] at hy
      exact .inr ⟨this, (Option.some.inj hy).symm⟩
    · rw [List.getElem?_set_ne he, hx] at hy; exact .inl (Option.some.inj hy).symm
  · rw [hx] at hy; exact .inl (Option.some.inj hy).symm
theorem casV_or {ws : List Int} {i old v : Int} {j : Nat} {x y : Int} (hx : ws[j]? = some x) (hy : (casV ws i old v)[j]? = some y) : y = x ∨ ((j : Int) = i ∧ x = old ∧ y = v) := by
  unfold casV at hy
  split at hy
  · rename_i hb
    rcases stV_or hx hy with e | ⟨e, f⟩
    · exact .inl e
    · rw [← e, casB_at _ hx] at hb
      exact .inr ⟨e, by simpa using hb, f⟩
  · rw [hx] at hy; exact .inl (Option.some.inj hy).symm
/-- At most one word is another one: the thread's line, a line that was open and is shut, a slot that bears its number. -/
def OtP (u : Tn) (W : List Int) : Prop := ∃ ax : Int, ∀ (j : Nat) (x y : Int), u.ws[j]? = some x → W[j]? = some y → y = x ∨ ((j : Int) = ax ∧ ((j : Int) = lnV u.c u.tt ∨ (y = 0 ∧ x = opW u) ∨ ∃ s : Nat, (s : Int) < u.c.x5 ∧ (j : Int) = slV u.c u.d.it u.d.ly (s : Int) ∧ y = u.tt + 1))
theorem ot_same (u : Tn) : OtP u u.ws := ⟨0, fun j x y hx hy => .inl (by rw [hx] at hy; exact (Option.some.inj hy).symm)⟩
theorem ot_line (u : Tn) (v : Int) : OtP u (stV u.ws (lnV u.c u.tt) v) := ⟨_, fun j x y hx hy => by
  rcases stV_or hx hy with e | ⟨e, _⟩
  · exact .inl e
  · exact .inr ⟨e, .inl e⟩⟩
theorem ot_cas (u : Tn) (t : Int) : OtP u (casV u.ws (lnV u.c t) (opW u) 0) := ⟨_, fun j x y hx hy => by
  rcases casV_or hx hy with e | ⟨e, f, g⟩
  · exact .inl e
  · exact .inr ⟨e, .inr (.inl ⟨g, f⟩)⟩⟩
theorem ot_slot (u : Tn) : OtP u (stV u.ws (swP u) (u.tt + 1)) := ⟨_, fun j x y hx hy => by
  rcases stV_or hx hy with e | ⟨e, f⟩
  · exact .inl e
  · refine .inr ⟨e, .inr (.inr ?_)⟩
    by_cases hd : 0 ≤ drV u ∧ drV u < u.c.x5
    · exact ⟨(drV u).toNat, by omega, by rw [Int.toNat_of_nonneg hd.1]; exact e, f⟩
    · exfalso
      unfold swP slV slotV at e
      rw [if_neg (fun h => hd h.2.2)] at e
      omega⟩
theorem ite_P {P : Tn → Prop} {c : Prop} [Decidable c] {a b : Tn} (ha : P a) (hb : P b) : P (if c then a else b) := by split <;> assumption
theorem step_wsX (u : Tn) : OtP u (stepC u).ws := by
  repeat' refine ite_P (P := fun v => OtP u v.ws) ?_ ?_
  all_goals first | exact ot_same u | exact ot_line u _ | exact ot_cas u _ | exact ot_slot u
theorem step_bxX (u : Tn) : (stepC u).bx = u.bx ∨ (stepC u).bx = ptV u.bx u.tt u.d.bl := by
  repeat' refine ite_P (P := fun v => v.bx = u.bx ∨ v.bx = ptV u.bx u.tt u.d.bl) ?_ ?_
  all_goals first | exact .inl rfl | exact .inr rfl
theorem step_wlX (u : Tn) : (stepC u).ws.length = u.ws.length := by
  repeat' refine ite_P (P := fun v => v.ws.length = u.ws.length) ?_ ?_
  all_goals first | rfl | exact stV_length _ _ _ | exact casV_length _ _ _ _
theorem step_blX (u : Tn) : (stepC u).bx.length = u.bx.length := by
  rcases step_bxX u with e | e
  · rw [e]
  · rw [e, ptV_length]
theorem step_bxj {u : Tn} {j : Nat} (hj : (j : Int) ≠ u.tt) : (stepC u).bx[j]? = u.bx[j]? := by
  rcases step_bxX u with e | e
  · rw [e]
  · rw [e]
    unfold ptV
    split
    · rename_i hr
      rw [List.getElem?_set_ne (by simp [inR] at hr; omega)]
    · rfl
end Go.Proofs.Ytjghdbkkjhnpfaa
