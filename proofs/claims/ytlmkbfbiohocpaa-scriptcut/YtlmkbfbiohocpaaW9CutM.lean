/- Mathematics of ScriptCut: where entries end, where the cut is, what is decoded of cut bytes. -/
import Derived.Test.YtlmkbfbiohocpaaW9Base
namespace Go.Proofs.Ytlmkbfbiohocpaa
open Go.RowKit

/-- Where the first q entries end. -/
def enE (l : List E5) (q : Nat) : Nat := (encL (l.take q)).length
def enL (l : List E5) (j : Nat) : List Int := (List.range (j + 1)).map fun q => (enE l q : Int)
theorem enL_length (l : List E5) (j : Nat) : (enL l j).length = j + 1 := by simp [enL]
theorem enL_zero (l : List E5) : enL l 0 = [0] := by simp [enL, enE, encL]
theorem enL_succ (l : List E5) (j : Nat) : enL l (j + 1) = enL l j ++ [(enE l (j + 1) : Int)] := by simp [enL, List.range_succ]
theorem enL_at (l : List E5) (j q : Nat) (h : q < j + 1) : (enL l j)[q]? = some (enE l q : Int) := by
  unfold enL
  rw [List.getElem?_map, List.getElem?_range h]
  rfl
theorem enE_le (l : List E5) (q : Nat) : enE l q ≤ 12 * l.length := by
  unfold enE
  have h1 := encL_length_le (l.take q)
  have h2 : (l.take q).length ≤ l.length := by rw [List.length_take]; exact Nat.min_le_right _ _
  omega
theorem enE_all (l : List E5) : enE l l.length = (encL l).length := by unfold enE; rw [List.take_length]
theorem enE_next {l : List E5} {q : Nat} {e : E5} (h : l[q]? = some e) : enE l (q + 1) = enE l q + szV e.1 := by
  unfold enE
  rw [encL_take_snoc h, List.length_append, encE_length]
/-- The last end that is not behind n. -/
def bgV (l : List E5) (n : Nat) : Nat → Nat
  | 0 => 0
  | j + 1 => if enE l j ≤ n then enE l j else bgV l n j
theorem bg_spec (l : List E5) (n j : Nat) : ∃ q, q ≤ j ∧ bgV l n (j + 1) = enE l q ∧ enE l q ≤ n ∧ (q = j ∨ n < enE l (q + 1)) := by
  induction j with
  | zero => exact ⟨0, Nat.le_refl _, by rw [bgV, if_pos (by show (encL (l.take 0)).length ≤ n; simp [encL])], by show (encL (l.take 0)).length ≤ n; simp [encL], .inl rfl⟩
  | succ j ih =>
    by_cases h : enE l (j + 1) ≤ n
    · exact ⟨j + 1, Nat.le_refl _, by rw [bgV, if_pos h], h, .inl rfl⟩
    · obtain ⟨q, h1, h2, h3, h4⟩ := ih
      refine ⟨q, by omega, by rw [bgV, if_neg h, h2], h3, .inr ?_⟩
      rcases h4 with rfl | h4
      · omega
      · exact h4
theorem bg_le (l : List E5) (n j : Nat) : bgV l n j ≤ n := by
  induction j with
  | zero => exact Nat.zero_le _
  | succ j ih =>
    rw [bgV]
    split
    · assumption
    · exact ih
/-- What is decoded of the first n bytes. -/
theorem cut_spec {l : List E5} (hk : ∀ e ∈ l, Kind9 e) (hg : Good5 l) {n : Nat} (hn : n ≤ (encL l).length) :
    (bgV l n (l.length + 1) = n → (decG ((encL l).take n) 0 []).2 = (0, 0)) ∧ (bgV l n (l.length + 1) < n → decG ((encL l).take n) 0 [] = ([], bgV l n (l.length + 1), 94)) := by
  obtain ⟨q, h1, h2, h3, h4⟩ := bg_spec l n l.length
  rw [h2]
  have hkq : ∀ e ∈ l.take q, Kind9 e := fun e he => hk e (List.mem_of_mem_take he)
  have hgq : Good5 (l.take q) := fun e he => hg e (List.mem_of_mem_take he)
  have hsplit : encL l = encL (l.take q) ++ encL (l.drop q) := by rw [← encL_append, List.take_append_drop]
  have hlen : (encL (l.take q)).length = enE l q := rfl
  constructor
  · intro e
    have ht : (encL l).take n = encL (l.take q) := by rw [hsplit, ← e, ← hlen, List.take_left']; rfl
    rw [ht, dec_enc hkq hgq]
  · intro hlt
    have hq : q < l.length := by
      rcases Nat.lt_or_ge q l.length with h | h
      · exact h
      · have : q = l.length := by omega
        subst this
        rw [enE_all] at hlt
        omega
    obtain ⟨e, he⟩ : ∃ e, l[q]? = some e := ⟨l[q], List.getElem?_eq_getElem hq⟩
    have hnx := enE_next he
    have hd : l.drop q = e :: l.drop (q + 1) := by rw [List.drop_eq_getElem_cons hq, (List.getElem?_eq_some_iff.1 he).2]
    have h5 : n < enE l q + szV e.1 := by
      rcases h4 with h | h
      · omega
      · omega
    have ht : (encL l).take n = encL (l.take q) ++ (encE e).take (n - enE l q) := by
      rw [hsplit, hd, encL_cons, List.take_append, List.take_of_length_le (by rw [hlen]; omega), hlen, List.take_append, encE_length, show n - enE l q - szV e.1 = 0 by omega, List.take_zero, List.append_nil]
    rw [ht, dec_cut hkq hgq (hk e (List.mem_of_getElem? he)) (r := n - enE l q) (by omega) (by omega)]
    rfl
theorem str_take (s : ByteArray) (n : Nat) : nums (s.extract 0 n) = (nums s).take n := by
  unfold nums
  rw [← List.map_take]
  congr 1
  simp [ByteArray.data_extract]
end Go.Proofs.Ytlmkbfbiohocpaa
