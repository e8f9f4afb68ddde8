/- A great region that draws its order: that its operations may be walked in the order of the text, asked piece by piece. Nothing of the program. -/
import Derived.Lib.QuietBelow
namespace Go.Proofs.Ytlmnanlclialhaa
open Go.RowKit

/-- The first k of n are listed. -/
def uptoB (n k : Nat) : Array Bool := (List.replicate k true ++ List.replicate (n - k) false).toArray
theorem uptoB_next {n k : Nat} (h : k < n) : (uptoB n k).setIfInBounds k true = uptoB n (k + 1) := by
  unfold uptoB
  rw [List.setIfInBounds_toArray]
  congr 1
  apply List.ext_getElem?
  intro j
  rw [List.getElem?_set]
  simp only [List.length_append, List.length_replicate]
  by_cases hj : k = j
  · subst hj
    rw [if_pos rfl, if_pos (by omega), List.getElem?_append_left (by simp), List.getElem?_replicate, if_pos (by omega)]
  · rw [if_neg hj]
    by_cases h1 : j < k
    · rw [List.getElem?_append_left (by simp; omega), List.getElem?_append_left (by simp; omega), List.getElem?_replicate, List.getElem?_replicate, if_pos h1, if_pos (by omega)]
    · rw [List.getElem?_append_right (by simp; omega), List.getElem?_append_right (by simp; omega), List.getElem?_replicate, List.getElem?_replicate]
      simp only [List.length_replicate]
      by_cases h2 : j < n
      · rw [if_pos (by omega), if_pos (by omega)]
      · rw [if_neg (by omega), if_neg (by omega)]
def lexAt (l : List Oper) (n k : Nat) : Bool := (Region.ready .any l.toArray (uptoB n k)).contains k && Region.free .any l.toArray (uptoB n k) k
def lexSeg (l : List Oper) (n lo len : Nat) : Bool := (List.range' lo len).all (lexAt l n)
theorem lexFrom_parts {l : List Oper} {n : Nat} (h : ∀ k, k < n → lexAt l n k = true) (he : (Region.ready .any l.toArray (uptoB n n)).isEmpty = true) :
    ∀ fuel k, k + fuel = n → Region.lexFrom .any l.toArray fuel k (uptoB n k) = true
  | 0, k, hk => by
    obtain rfl : k = n := by omega
    exact he
  | fuel + 1, k, hk => by
    have h1 := h k (by omega)
    rw [lexAt, Bool.and_eq_true] at h1
    rw [Region.lexFrom, h1.1, h1.2, uptoB_next (by omega), lexFrom_parts h he fuel (k + 1) (by omega)]
    rfl
theorem lexB_parts {l : List Oper} (n : Nat) (hn : l.length = n) (h0 : Region.noSelect l.toArray = true) (h : ∀ k, k < n → lexAt l n k = true) (he : (Region.ready .any l.toArray (uptoB n n)).isEmpty = true) : Region.lexB .any l.toArray = true := by
  have := lexFrom_parts h he n 0 (by omega)
  rw [Region.lexB, h0, Bool.true_and]
  have e : uptoB n 0 = Array.replicate l.toArray.size false := by
    rw [uptoB, List.size_toArray, hn]
    simp
  rw [← e, List.size_toArray, hn]
  exact this
theorem seg_at {l : List Oper} {n lo len k : Nat} (h : lexSeg l n lo len = true) (h1 : lo ≤ k) (h2 : k < lo + len) : lexAt l n k = true := by
  rw [lexSeg, List.all_eq_true] at h
  exact h k (List.mem_range'_1.2 ⟨h1, h2⟩)
/-- In eight pieces. -/
theorem seg_eight {l : List Oper} {n m : Nat} (h0 : lexSeg l n 0 m = true) (h1 : lexSeg l n m m = true) (h2 : lexSeg l n (2 * m) m = true) (h3 : lexSeg l n (3 * m) m = true) (h4 : lexSeg l n (4 * m) m = true) (h5 : lexSeg l n (5 * m) m = true) (h6 : lexSeg l n (6 * m) m = true) (h7 : lexSeg l n (7 * m) (n - 7 * m) = true) : ∀ k, k < n → lexAt l n k = true := by
  intro k hk
  by_cases a0 : k < m
  · exact seg_at h0 (by omega) (by omega)
  by_cases a1 : k < 2 * m
  · exact seg_at h1 (by omega) (by omega)
  by_cases a2 : k < 3 * m
  · exact seg_at h2 (by omega) (by omega)
  by_cases a3 : k < 4 * m
  · exact seg_at h3 (by omega) (by omega)
  by_cases a4 : k < 5 * m
  · exact seg_at h4 (by omega) (by omega)
  by_cases a5 : k < 6 * m
  · exact seg_at h5 (by omega) (by omega)
  by_cases a6 : k < 7 * m
  · exact seg_at h6 (by omega) (by omega)
  · exact seg_at h7 (by omega) (by omega)
end Go.Proofs.Ytlmnanlclialhaa
