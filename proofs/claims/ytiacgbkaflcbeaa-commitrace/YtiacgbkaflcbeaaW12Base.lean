/- What the laws of layer 12 begin with. -/
import Derived.Test.YtiacgbkaflcbeaaCmL
import Derived.Test.YtiacgbkaflcbeaaSh12
import Derived.Test.YtiacgbkaflcbeaaMayT
import Derived.Test.YtiacgbkaflcbeaaCmB
namespace Go.Proofs.Ytiacgbkaflcbeaa
open Go.RowKit Go.Sort
set_option linter.unusedVariables false
set_option linter.unusedSimpArgs false

theorem cell_in {u : Tn} {n : Nat} (my : MayOk u n) (o : TnOk u) : ∃ k : Nat, clV u.c u.d.it = (k : Int) ∧ k < u.ws.length := by
  have hb := bk_le o.c.h3 o.c.h4 o.c.h5
  have h0 := my.i0
  have h1 := my.i1
  have ht := o.c.h0
  have e : clV u.c u.d.it = u.d.it * bkV u.c.x3 u.c.x4 u.c.x5 := by unfold clV cellV; rw [if_pos ⟨h0, h1⟩]
  have hw := my.w
  unfold szV sizeV at hw
  generalize bkV u.c.x3 u.c.x4 u.c.x5 = bk at *
  have a1 : 0 ≤ u.d.it * bk := Int.mul_nonneg h0 (by omega)
  have a2 : (u.d.it + 1) * bk ≤ u.c.x1 * bk := Int.mul_le_mul_of_nonneg_right (by omega) (by omega)
  have a3 : (u.d.it + 1) * bk = u.d.it * bk + bk := by rw [Int.add_mul, Int.one_mul]
  exact ⟨(clV u.c u.d.it).toNat, by omega, by omega⟩
theorem er_in {ws : List Int} {i : Int} {k : Nat} (hk : i = (k : Int)) (hl : k < ws.length) : erV ws.length i = 0 := by rw [hk, erV_at hl]
theorem ld_in {ws : List Int} {i : Int} {k : Nat} {x : Int} (hk : i = (k : Int)) (hx : ws[k]? = some x) : ldV ws i = x := by rw [hk, ldV_at hx]
/-- What a look makes of it, where the cell is there. -/
theorem look_at {u : Tn} {k : Nat} {x : Int} (hk : clV u.c u.d.it = (k : Int)) (hx : u.ws[k]? = some x) : lookV u = if allV u.d.bl x u.c.x9 u.c.x10 = x then comV u x else if u.d.ph = 25 then onwV u else { u with d := { u.d with ph := 3, x := x, y := allV u.d.bl x u.c.x9 u.c.x10 } } := by
  have hl := (List.getElem?_eq_some_iff.1 hx).1
  rw [lookV, if_pos (er_in hk hl), ld_in hk hx]
theorem swap_at {u : Tn} {k : Nat} {x : Int} (hk : clV u.c u.d.it = (k : Int)) (hx : u.ws[k]? = some x) : swapV u = if x = u.d.x then comV { u with ws := u.ws.set k u.d.y } u.d.x else { u with d := { u.d with wd := widV u.d.wd u.c.x5, ph := 2 } } := by
  have hl := (List.getElem?_eq_some_iff.1 hx).1
  rw [swapV, if_pos (er_in hk hl), hk, casB_at _ hx, casV_at _ _ hx]
  by_cases h : x = u.d.x
  · rw [if_pos (by simpa using h), if_pos h, if_pos h]
  · rw [if_neg (by simpa using h), if_neg h]
theorem com_x (u : Tn) (x : Int) : (comV u x).d.x = x := by unfold comV setlV; split <;> rfl
theorem com_dn (u : Tn) (x : Int) (hd : u.dn = false) : (comV u x).dn = ((u.d.kl.length : Int) == 0) := by
  unfold comV setlV
  by_cases h : u.d.kl.length = 0
  · rw [if_neg (by simp [kidB, inR, h])]; simp [h]
  · rw [if_pos (by simp [kidB, inR]; omega)]; simp [h, hd]
theorem com_ph (u : Tn) (x : Int) : (comV u x).d.ph = 15 ∨ (comV u x).d.ph = 0 := by unfold comV setlV; split <;> simp
/-- What is logged by a turn that had logged nothing. -/
theorem step_ll {u : Tn} {k : Nat} {x : Int} (hk : clV u.c u.d.it = (k : Int)) (hx : u.ws[k]? = some x) (hn : u.ll = []) : (stepC u).ll = [] ∨ (stepC u).ll = mkL u.d.bl u.d.it x u.c.x9 u.c.x10 := by
  unfold stepC; split
  · rw [look_at hk hx]; split
    · exact .inr (by rw [com_ll, hn]; rfl)
    · split
      · exact .inl (by rw [onw_ll, hn])
      · exact .inl hn
  · split
    · rw [swap_at hk hx]; split
      · rename_i e
        exact .inr (by rw [com_ll, ← e]; show u.ll ++ _ = _; rw [hn]; rfl)
      · exact .inl hn
    · exact .inl hn
theorem tsNil (u : Tn) (a : TA) : (tcs u a).set 35 (.slice none 0 0) = tcs { u with ll := [] } { a with lA := none, lc := 0 } := id rfl
theorem Sees.mark_of {w : World} {B b off n k : Nat} {l : List M6} {e : M6} (h : Sees w B 6 (some ⟨b, off, none⟩) n (mcells l)) (he : l[k]? = some e) : w.cell? ⟨b, off + k * 6, none⟩ = some (.int .i64 e.1) ∧ w.cell? ⟨b, off + k * 6 + 1, none⟩ = some (.int .i64 e.2.1) ∧ w.cell? ⟨b, off + k * 6 + 2, none⟩ = some (.int .i64 e.2.2.1) ∧ w.cell? ⟨b, off + k * 6 + 3, none⟩ = some (.int .i64 e.2.2.2.1) ∧ w.cell? ⟨b, off + k * 6 + 4, none⟩ = some (.int .i64 e.2.2.2.2.1) ∧ w.cell? ⟨b, off + k * 6 + 5, none⟩ = some (.int .i64 e.2.2.2.2.2) := by
  have hk := (List.getElem?_eq_some_iff.1 he).1
  have hn : 0 < n := by have := h.1; rw [mcells_length] at this; omega
  obtain ⟨b', off', e', hb, hc⟩ := h.2 hn
  cases e'
  have f := mcells_at he
  exact ⟨hc _ _ (f 0 _ rfl), (by have := hc _ _ (f 1 _ rfl); rwa [← Nat.add_assoc] at this), (by have := hc _ _ (f 2 _ rfl); rwa [← Nat.add_assoc] at this), (by have := hc _ _ (f 3 _ rfl); rwa [← Nat.add_assoc] at this), (by have := hc _ _ (f 4 _ rfl); rwa [← Nat.add_assoc] at this), (by have := hc _ _ (f 5 _ rfl); rwa [← Nat.add_assoc] at this)⟩
theorem Sees.entry_of {w : World} {B b off n k : Nat} {l : List E3} {e : E3} (h : Sees w B 3 (some ⟨b, off, none⟩) n (ecells l)) (he : l[k]? = some e) : w.cell? ⟨b, off + k * 3, none⟩ = some (.int .i64 e.1) ∧ w.cell? ⟨b, off + k * 3 + 1, none⟩ = some (.int .i64 e.2.1) ∧ w.cell? ⟨b, off + k * 3 + 2, none⟩ = some (.int .i64 e.2.2) := by
  have hk := (List.getElem?_eq_some_iff.1 he).1
  have hn : 0 < n := by have := h.1; rw [ecells_length] at this; omega
  obtain ⟨b', off', e', hb, hc⟩ := h.2 hn
  cases e'
  obtain ⟨h1, h2, h3⟩ := ecells_at he
  exact ⟨hc _ _ h1, by have := hc _ _ h2; rwa [← Nat.add_assoc] at this, by have := hc _ _ h3; rwa [← Nat.add_assoc] at this⟩
theorem word_cell {w : World} {B b off n k : Nat} {l : List Int} {x : Int} (h : Sees w B 1 (some ⟨b, off, none⟩) n (l.map (Value.int .i64))) (he : l[k]? = some x) : w.cell? ⟨b, off + k, none⟩ = some (.int .i64 x) := by
  have hk := (List.getElem?_eq_some_iff.1 he).1
  have hn : 0 < n := by have := h.1; simp at this; omega
  obtain ⟨b', off', e', hb, hc⟩ := h.2 hn
  cases e'
  exact hc k _ (by simp [he])
theorem Sees.some_of {w : World} {B sz n : Nat} {A : Option Addr} {xs : List Value} (h : Sees w B sz A n xs) (hn : 0 < n) : ∃ b off, A = some ⟨b, off, none⟩ ∧ b < B := by
  obtain ⟨b, off, e, hb, _⟩ := h.2 hn; exact ⟨b, off, e, hb⟩
theorem belowY' (y : World) (u : Tn) (a : TA) (t : TypeId) : Below y.heap.size y ((y.alloc (.cells zT.toArray t)).setCells y.heap.size 0 (tcs u a)) := below_sets _ (by omega) _ _ _ _ (belowN _ _)
end Go.Proofs.Ytiacgbkaflcbeaa
