/- The turns of a thread that climbs alone: plain data. Nothing of the program. -/
import Derived.Test.YtlmlmmkichkkhaaW13Base
import Derived.Test.YtlmlmmkichkkhaaM5
namespace Go.Proofs.Ytlmlmmkichkkhaa
open Go.RowKit Go.Sort
set_option linter.unusedVariables false
set_option linter.unusedSimpArgs false

/-- What a way up says. -/
def wayB (D : Nat) (P : List Int) : Bool := P.length == D && (List.range D).all (fun m => decide (1 ≤ P[m]?.getD 0) && decide (P[m]?.getD 0 ≤ ndV D) && (parV (P[m]?.getD 0) == P[m + 1]?.getD 0)) && decide P.Nodup
theorem way_of {D t : Int} (hD : 1 ≤ D ∧ D ≤ 4) (h0 : 0 ≤ t) : wayB D.toNat (pathV D t) = true := by
  unfold pathV
  obtain rfl | rfl | rfl | rfl : D = 1 ∨ D = 2 ∨ D = 3 ∨ D = 4 := by omega
  · have : leafV 1 t = 1 := by simp [leafV, kV]
    rw [this]; decide
  · have : leafV 2 t = 2 ∨ leafV 2 t = 3 := by simp [leafV, kV]; omega
    rcases this with h | h <;> rw [h] <;> decide
  · have : leafV 3 t = 4 ∨ leafV 3 t = 5 ∨ leafV 3 t = 6 ∨ leafV 3 t = 7 := by simp [leafV, kV]; omega
    rcases this with h | h | h | h <;> rw [h] <;> decide
  · have : leafV 4 t = 8 ∨ leafV 4 t = 9 ∨ leafV 4 t = 10 ∨ leafV 4 t = 11 ∨ leafV 4 t = 12 ∨ leafV 4 t = 13 ∨ leafV 4 t = 14 ∨ leafV 4 t = 15 := by simp [leafV, kV]; omega
    rcases this with h | h | h | h | h | h | h | h <;> rw [h] <;> decide
theorem way_len {n : Nat} {P : List Int} (h : wayB n P = true) : P.length = n := by
  simp only [wayB, Bool.and_eq_true, beq_iff_eq] at h; exact h.1.1
theorem way_nodup {n : Nat} {P : List Int} (h : wayB n P = true) : P.Nodup := by
  simp only [wayB, Bool.and_eq_true, decide_eq_true_eq] at h; exact h.2
theorem way_at {n m : Nat} {P : List Int} (h : wayB n P = true) (hm : m < n) : ∃ x, P[m]? = some x ∧ 1 ≤ x ∧ x ≤ ndV n ∧ parV x = P[m + 1]?.getD 0 := by
  have hl := way_len h
  simp only [wayB, Bool.and_eq_true, List.all_eq_true, List.mem_range, decide_eq_true_eq, beq_iff_eq] at h
  have q := h.1.2 m hm
  have e : P[m]? = some P[m] := List.getElem?_eq_getElem (by omega)
  rw [e] at q
  exact ⟨P[m], e, q.1.1, q.1.2, q.2⟩
theorem way_apart {n i j : Nat} {P : List Int} {x y : Int} (h : wayB n P = true) (hi : P[i]? = some x) (hj : P[j]? = some y) (hn : i ≠ j) : x ≠ y := by
  intro e; subst e
  have hd := List.pairwise_iff_getElem.1 (way_nodup h)
  obtain ⟨li, ei⟩ := List.getElem?_eq_some_iff.1 hi
  obtain ⟨lj, ej⟩ := List.getElem?_eq_some_iff.1 hj
  rcases Nat.lt_or_gt_of_ne hn with q | q
  · exact hd i j li lj q (ei.trans ej.symm)
  · exact hd j i lj li q (ej.trans ei.symm)
/-- The words when m nodes of the way are held. -/
def onW (c : Cf) (it f : Int) (P W0 : List Int) : Nat → List Int
  | 0 => W0
  | m + 1 => (onW c it f P W0 m).set (npV c it (P[m]?.getD 0)).toNat f
theorem onW_length (c : Cf) (it f : Int) (P W0 : List Int) (m : Nat) : (onW c it f P W0 m).length = W0.length := by
  induction m with
  | zero => rfl
  | succ m ih => rw [onW, List.length_set, ih]
theorem onW_far (c : Cf) (it f : Int) (P W0 : List Int) (m k : Nat) (h : ∀ j, j < m → (npV c it (P[j]?.getD 0)).toNat ≠ k) : (onW c it f P W0 m)[k]? = W0[k]? := by
  induction m with
  | zero => rfl
  | succ m ih => rw [onW, List.getElem?_set_ne (h m (by omega)), ih (fun j hj => h j (by omega))]
theorem onW_i64 {c : Cf} {it f : Int} {P W0 : List Int} (hf : I64 f) (h : ∀ x ∈ W0, I64 x) (m : Nat) : ∀ x ∈ onW c it f P W0 m, I64 x := by
  induction m with
  | zero => exact h
  | succ m ih =>
    intro x hx
    rcases List.mem_or_eq_of_mem_set hx with q | rfl
    · exact ih x q
    · exact hf
/-- A node's place, as it is reckoned. -/
theorem np_is {c : Cf} {it x : Int} (hi : 0 ≤ it ∧ it < c.x1) (hx : 1 ≤ x ∧ x ≤ ndV c.x3) : npV c it x = it * bkV c.x3 c.x4 c.x5 + x := by
  unfold npV nodeV; rw [if_pos ⟨hi, hx⟩]
theorem np_lt {c : Cf} (ok : CfK c) {it x : Int} (hi : 0 ≤ it ∧ it < c.x1) (hx : 1 ≤ x ∧ x ≤ ndV c.x3) : 0 ≤ npV c it x ∧ npV c it x < szV c := by
  rw [np_is hi hx]
  have hb := bk_le ok.h3 ok.h4 ok.h5
  have ht := ok.h0
  have hl4 := ok.h4
  have hl5 := ok.h5
  have hm := mul_le (a := c.x4) (b := c.x5) (p := 3) (q := 8) ⟨hl4.1, hl4.2⟩ ⟨by omega, hl5.2⟩
  have eb : bkV c.x3 c.x4 c.x5 = 1 + ndV c.x3 + c.x4 * c.x5 := rfl
  unfold szV sizeV
  generalize bkV c.x3 c.x4 c.x5 = bk at *
  have a1 : 0 ≤ it * bk := Int.mul_nonneg hi.1 (by omega)
  have a2 : (it + 1) * bk ≤ c.x1 * bk := Int.mul_le_mul_of_nonneg_right (by omega) (by omega)
  have a3 : (it + 1) * bk = it * bk + bk := by rw [Int.add_mul, Int.one_mul]
  omega
/-- No cell stands where a node stands. -/
theorem np_cell {c : Cf} (ok : CfK c) {it x i : Int} (hi : 0 ≤ it ∧ it < c.x1) (hx : 1 ≤ x ∧ x ≤ ndV c.x3) (j : Int) : cellV c.x1 (bkV c.x3 c.x4 c.x5) j ≠ npV c it x := by
  rw [np_is hi hx]
  have hl4 := ok.h4
  have hl5 := ok.h5
  have hm := mul_le (a := c.x4) (b := c.x5) (p := 3) (q := 8) ⟨hl4.1, hl4.2⟩ ⟨by omega, hl5.2⟩
  have eb : bkV c.x3 c.x4 c.x5 = 1 + ndV c.x3 + c.x4 * c.x5 := rfl
  unfold cellV
  split
  · generalize bkV c.x3 c.x4 c.x5 = bk at *
    intro e
    rcases Int.lt_trichotomy j it with q | q | q
    · have a2 : (j + 1) * bk ≤ it * bk := Int.mul_le_mul_of_nonneg_right (by omega) (by omega)
      have a3 : (j + 1) * bk = j * bk + bk := by rw [Int.add_mul, Int.one_mul]
      omega
    · subst q; omega
    · have a2 : (it + 1) * bk ≤ j * bk := Int.mul_le_mul_of_nonneg_right (by omega) (by omega)
      have a3 : (it + 1) * bk = it * bk + bk := by rw [Int.add_mul, Int.one_mul]
      omega
  · have hb := bk_le ok.h3 ok.h4 ok.h5
    have := Int.mul_nonneg hi.1 (show 0 ≤ bkV c.x3 c.x4 c.x5 by omega)
    omega
theorem bdW_far (ws : List Int) (it bk v : Int) (k : Nat) (h : ∀ i : Int, cellV it bk i ≠ (k : Int)) (j : Nat) : (bdW ws it bk v j)[k]? = ws[k]? := by
  induction j with
  | zero => rfl
  | succ j ih =>
    rw [bdW]
    unfold stV
    split
    · rename_i hr
      have := h (j : Int)
      rw [List.getElem?_set_ne (fun e => by simp [inR] at hr; omega), ih]
    · exact ih
theorem bdW_i64 {ws : List Int} {it bk v : Int} (hv : I64 v) (h : ∀ x ∈ ws, I64 x) (j : Nat) : ∀ x ∈ bdW ws it bk v j, I64 x := by
  induction j with
  | zero => exact h
  | succ j ih => rw [bdW]; exact stV_i64 ih _ _ hv
/-- The words of a memory that was just built. -/
def newW (c : Cf) : List Int := bdW (List.replicate (cntV (szV c)) 0) c.x1 (bkV c.x3 c.x4 c.x5) c.x11 c.x1.toNat
theorem sz_pos {c : Cf} (ok : CfK c) : 1 ≤ szV c ∧ szV c ≤ 10000 := by
  have hb := bk_le ok.h3 ok.h4 ok.h5
  have h0 := ok.h0
  have h1 := ok.h1
  have hm := mul_le (a := c.x1) (b := bkV c.x3 c.x4 c.x5) (p := 4) (q := 40) ⟨by omega, h1.2⟩ ⟨by omega, hb.2⟩
  unfold szV sizeV
  omega
theorem newW_length {c : Cf} (ok : CfK c) : ((newW c).length : Int) = szV c := by
  have h := sz_pos ok
  unfold newW
  rw [bdW_length, List.length_replicate, cntV, if_pos h]
  omega
theorem newW_node {c : Cf} (ok : CfK c) {it x : Int} (hi : 0 ≤ it ∧ it < c.x1) (hx : 1 ≤ x ∧ x ≤ ndV c.x3) : (newW c)[(npV c it x).toNat]? = some 0 := by
  have hl := np_lt ok hi hx
  have hn := newW_length ok
  unfold newW at *
  rw [bdW_far _ _ _ _ _ (fun i => by have := np_cell ok (i := i) hi hx i; omega)]
  rw [bdW_length] at hn
  rw [List.getElem?_eq_getElem (by omega), List.getElem_replicate]
/-- The turn when m nodes of the way are held. -/
def tnA (c : Cf) (t it : Int) (B0 : List (List E3)) (m : Nat) (ph : Int) : Tn :=
  ⟨c, t, 0, onW c it (frV 1 t) (pathV c.x3 t) (newW c) m, B0, ⟨ph, it, 0, 0, [], [], (pathV c.x3 t).take m, 0, (pathV c.x3 t)[m]?.getD 0, 0, 0, 0, 0, 0, 0, 0, 0⟩, [], 0, [], false⟩
theorem onW_next {c : Cf} (ok : CfK c) {t it : Int} (hD : 1 ≤ c.x3) (h0 : 0 ≤ t) (hi : 0 ≤ it ∧ it < c.x1) {m : Nat} {x : Int} (hm : (pathV c.x3 t)[m]? = some x) : (onW c it (frV 1 t) (pathV c.x3 t) (newW c) m)[(npV c it x).toNat]? = some 0 := by
  have w := way_of (D := c.x3) (t := t) ⟨hD, ok.h3.2⟩ h0
  have hml := (List.getElem?_eq_some_iff.1 hm).1
  rw [way_len w] at hml
  obtain ⟨x', e', hx1, hx2, _⟩ := way_at w hml
  obtain rfl : x' = x := Option.some.inj (e'.symm.trans hm)
  rw [show ((c.x3.toNat : Nat) : Int) = c.x3 by omega] at hx2
  rw [onW_far, newW_node ok hi ⟨hx1, hx2⟩]
  intro j hj
  obtain ⟨y, ey, hy1, hy2, _⟩ := way_at w (show j < c.x3.toNat by omega)
  rw [show ((c.x3.toNat : Nat) : Int) = c.x3 by omega] at hy2
  rw [ey]
  have hne := way_apart w ey hm (by omega)
  have a := np_is hi ⟨hy1, hy2⟩
  have b := np_is hi ⟨hx1, hx2⟩
  have la := np_lt ok hi ⟨hy1, hy2⟩
  have lb := np_lt ok hi ⟨hx1, hx2⟩
  show (npV c it y).toNat ≠ _
  omega
theorem tnA_even {c : Cf} (ok : CfK c) {t it : Int} (B0 : List (List E3)) (hD : 1 ≤ c.x3) (h0 : 0 ≤ t) (hi : 0 ≤ it ∧ it < c.x1) {m : Nat} (hm : m < c.x3.toNat) : stepK (tnA c t it B0 m 4) = tnA c t it B0 m 5 := by
  have w := way_of (D := c.x3) (t := t) ⟨hD, ok.h3.2⟩ h0
  obtain ⟨x, ex, hx1, hx2, _⟩ := way_at w hm
  rw [show ((c.x3.toNat : Nat) : Int) = c.x3 by omega] at hx2
  have hk : ndP (tnA c t it B0 m 4) = ((npV c it x).toNat : Int) := by
    have := (np_lt ok hi ⟨hx1, hx2⟩).1
    show npV c it ((pathV c.x3 t)[m]?.getD 0) = _
    rw [ex]
    show npV c it x = _
    omega
  have e : stepK (tnA c t it B0 m 4) = lookK (tnA c t it B0 m 4) := by simp [stepK, tnA]
  rw [e, lookk_at hk (onW_next ok hD h0 hi ex), if_pos (show kdV 0 = 0 by decide)]
  rfl
theorem tnA_odd {c : Cf} (ok : CfK c) {t it : Int} (B0 : List (List E3)) (hD : 1 ≤ c.x3) (h0 : 0 ≤ t) (hi : 0 ≤ it ∧ it < c.x1) {m : Nat} (hm : m < c.x3.toNat) : stepK (tnA c t it B0 m 5) = tnA c t it B0 (m + 1) (if m + 1 < c.x3.toNat then 4 else 7) := by
  have w := way_of (D := c.x3) (t := t) ⟨hD, ok.h3.2⟩ h0
  obtain ⟨x, ex, hx1, hx2, hp⟩ := way_at w hm
  rw [show ((c.x3.toNat : Nat) : Int) = c.x3 by omega] at hx2
  have hk : ndP (tnA c t it B0 m 5) = ((npV c it x).toNat : Int) := by
    have := (np_lt ok hi ⟨hx1, hx2⟩).1
    show npV c it ((pathV c.x3 t)[m]?.getD 0) = _
    rw [ex]
    show npV c it x = _
    omega
  have e : stepK (tnA c t it B0 m 5) = clmV holdV (tnA c t it B0 m 5) 0 (frV 1 t) := by simp [stepK, tnA]
  have ht : (pathV c.x3 t).take m ++ [x] = (pathV c.x3 t).take (m + 1) := (take_snoc _ _ _ ex).symm
  have hw : (onW c it (frV 1 t) (pathV c.x3 t) (newW c) m).set (npV c it x).toNat (frV 1 t) = onW c it (frV 1 t) (pathV c.x3 t) (newW c) (m + 1) := by rw [onW, ex]; rfl
  rw [e, clm_at holdV 0 (frV 1 t) hk (onW_next ok hD h0 hi ex), if_pos rfl]
  have hd : (tnA c t it B0 m 5).d.nd = x := by show (pathV c.x3 t)[m]?.getD 0 = x; rw [ex]; rfl
  unfold holdV
  simp only [hd, hp]
  by_cases hl : m + 1 < c.x3.toNat
  · obtain ⟨y, ey, hy1, _, _⟩ := way_at w hl
    rw [if_neg (by rw [ey]; show y ≠ 0; omega), if_pos hl]
    show (⟨_, _, _, _, _, ⟨_, _, _, _, _, _, _ ++ [x], _, _, _, _, _, _, _, _, _, _⟩, _, _, _, _⟩ : Tn) = _
    simp only [tnA, ht, hw]
  · have hn : (pathV c.x3 t)[m + 1]? = none := List.getElem?_eq_none (by rw [way_len w]; omega)
    rw [if_pos (by rw [hn]; rfl), if_neg hl]
    have hlen : ((pathV c.x3 t).take (m + 1)).length = m + 1 := by rw [List.length_take, way_len w]; omega
    unfold overV downV
    simp only [tnA, ht, hw]
    rw [if_pos ⟨Int.le_refl 0, by rw [hlen]; omega⟩]
theorem tnA_ok {c : Cf} (ok : CfK c) (hlo : I64 c.x9) (hhi : I64 c.x10) (hin : I64 c.x11) {t it : Int} (B0 : List (List E3)) (hD : 1 ≤ c.x3) (h0 : 0 ≤ t ∧ t ≤ 15) (hi : 0 ≤ it ∧ it < c.x1) (m : Nat) (ph : Int) (hph : I64 ph) : TnOk (tnA c t it B0 m ph) := by
  have w := way_of (D := c.x3) (t := t) ⟨hD, ok.h3.2⟩ h0.1
  have hx1 := ok.h1
  have hnd := nd_le ok.h3
  have hz : I64 0 := i64_0
  have hP : ∀ x ∈ pathV c.x3 t, 1 ≤ x ∧ x ≤ ndV c.x3 := fun x hx => by
    obtain ⟨j, hj⟩ := List.getElem?_of_mem hx
    have hjl := (List.getElem?_eq_some_iff.1 hj).1
    rw [way_len w] at hjl
    obtain ⟨y, ey, h1, h2, _⟩ := way_at w hjl
    obtain rfl : y = x := Option.some.inj (ey.symm.trans hj)
    rw [show ((c.x3.toNat : Nat) : Int) = c.x3 by omega] at h2
    exact ⟨h1, h2⟩
  have hn : I64 ((pathV c.x3 t)[m]?.getD 0) := by
    cases e : (pathV c.x3 t)[m]? with
    | none => exact hz
    | some x => have := hP x (List.mem_of_getElem? e); show I64 x; unfold I64; omega
  have hlen : ((pathV c.x3 t).take m).length ≤ 200 := by rw [List.length_take, way_len w]; have := ok.h3; omega
  refine ⟨Nat.zero_le _, Nat.zero_le _, hlen, Nat.zero_le _, Nat.zero_le _, ⟨?_, hz, hz, fun e he => (by cases he), fun x hx => (by have := hP x (List.mem_of_mem_take hx); unfold I64; omega), fun e he => (by cases he)⟩, hlo, hhi, (by show I64 t; unfold I64; omega), onW_i64 (fr_i64 (by decide) h0) (bdW_i64 hin (fun x hx => by rw [List.eq_of_mem_replicate hx]; exact hz) _) m, ok⟩
  intro x hx
  simp only [tnA, Dt.nums, List.mem_cons, List.not_mem_nil, or_false] at hx
  have hit : I64 it := by unfold I64; omega
  rcases hx with rfl | rfl | rfl | rfl | rfl | rfl | rfl | rfl | rfl | rfl | rfl | rfl <;> assumption
end Go.Proofs.Ytlmlmmkichkkhaa
