/- The contract of the law's marks. -/
import Derived.Test.YtiacgbkaflcbeaaM4
import Derived.Test.YtiacgbkaflcbeaaOpenT
import Derived.Deep.RegionHeld3
import Derived.Deep.AppendLies
namespace Go.Proofs.Ytiacgbkaflcbeaa
open Go.RowKit
set_option linter.unusedVariables false

theorem mcells_length (l : List M6) : (mcells l).length = l.length * 6 := by
  induction l with
  | nil => rfl
  | cons e l ih => simp only [mcells, List.flatMap_cons, List.length_append] at ih ⊢; rw [ih]; simp; omega
theorem mcells_append (a b : List M6) : mcells (a ++ b) = mcells a ++ mcells b := List.flatMap_append
theorem mcells_at {l : List M6} {k : Nat} {e : M6} (h : l[k]? = some e) (j : Nat) (u : Value) (hu : ([.int .i64 e.1, .int .i64 e.2.1, .int .i64 e.2.2.1, .int .i64 e.2.2.2.1, .int .i64 e.2.2.2.2.1, .int .i64 e.2.2.2.2.2] : List Value)[j]? = some u) : (mcells l)[k * 6 + j]? = some u := by
  have hj : j < 6 := (List.getElem?_eq_some_iff.1 hu).1
  induction l generalizing k with
  | nil => simp at h
  | cons d l ih =>
    cases k with
    | zero =>
      simp at h
      subst h
      rw [show mcells (d :: l) = [.int .i64 d.1, .int .i64 d.2.1, .int .i64 d.2.2.1, .int .i64 d.2.2.2.1, .int .i64 d.2.2.2.2.1, .int .i64 d.2.2.2.2.2] ++ mcells l from rfl, List.getElem?_append_left (by simp; omega)]
      simpa using hu
    | succ k =>
      have ih := ih (k := k) (by simpa using h)
      rw [show mcells (d :: l) = [.int .i64 d.1, .int .i64 d.2.1, .int .i64 d.2.2.1, .int .i64 d.2.2.2.1, .int .i64 d.2.2.2.2.1, .int .i64 d.2.2.2.2.2] ++ mcells l from rfl, List.getElem?_append_right (by simp; omega)]
      simp only [List.length_cons, List.length_nil]
      rw [show (k + 1) * 6 + j - (0 + 1 + 1 + 1 + 1 + 1 + 1) = k * 6 + j by omega]
      exact ih
theorem mcells_one (l : List M6) : ∀ u ∈ mcells l, u.oneCell' = true := by
  intro u hu
  simp only [mcells, List.mem_flatMap] at hu
  obtain ⟨e, _, h⟩ := hu
  simp at h
  rcases h with rfl | rfl | rfl | rfl | rfl | rfl <;> rfl
theorem Sees.mark {w : World} {B : Nat} {A : Option Addr} {l : List M6} (h : Sees w B 6 A l.length (mcells l)) {k : Nat} (hk : k < l.length) :
    ∃ (b off : Nat) (a0 a1 a2 a3 a4 a5 : Int), A = some ⟨b, off, none⟩ ∧ b < B ∧ l[k]? = some (a0, a1, a2, a3, a4, a5) ∧ w.cell? ⟨b, off + k * 6, none⟩ = some (.int .i64 a0) ∧ w.cell? ⟨b, off + k * 6 + 1, none⟩ = some (.int .i64 a1) ∧ w.cell? ⟨b, off + k * 6 + 2, none⟩ = some (.int .i64 a2) ∧ w.cell? ⟨b, off + k * 6 + 3, none⟩ = some (.int .i64 a3) ∧ w.cell? ⟨b, off + k * 6 + 4, none⟩ = some (.int .i64 a4) ∧ w.cell? ⟨b, off + k * 6 + 5, none⟩ = some (.int .i64 a5) := by
  obtain ⟨b, off, e, hb, hc⟩ := h.2 (by omega)
  obtain ⟨⟨a0, a1, a2, a3, a4, a5⟩, he⟩ : ∃ e, l[k]? = some e := ⟨l[k], List.getElem?_eq_getElem hk⟩
  have f := mcells_at he
  exact ⟨b, off, a0, a1, a2, a3, a4, a5, e, hb, he, hc _ _ (f 0 _ rfl), (by have := hc _ _ (f 1 _ rfl); rwa [← Nat.add_assoc] at this), (by have := hc _ _ (f 2 _ rfl); rwa [← Nat.add_assoc] at this), (by have := hc _ _ (f 3 _ rfl); rwa [← Nat.add_assoc] at this), (by have := hc _ _ (f 4 _ rfl); rwa [← Nat.add_assoc] at this), (by have := hc _ _ (f 5 _ rfl); rwa [← Nat.add_assoc] at this)⟩

end Go.Proofs.Ytiacgbkaflcbeaa
