/- Plain mathematics of layer 9: entries out of bytes, cut bytes, bytes back and forth; strings as lists of numbers. Nothing of the program. -/
import Derived.Test.YtlmkbfbiohocpaaSc
namespace Go.Proofs.Ytlmkbfbiohocpaa
open Go.RowKit

/-- The entry that bytes begin with. -/
def rdE (bs : List Int) : E5 :=
  (nth bs 0, if nth bs 0 = 3 then 0 else nth bs 1, if nth bs 0 = 1 then nth bs 2 else 0, if nth bs 0 = 1 then nth bs 3 else 0, if nth bs 0 = 1 then numV ((bs.drop 4).take 8) else 0)
/-- The entries of bytes from p on, behind those that there are. -/
def decG (bs : List Int) (p : Nat) (acc : List E5) : List E5 × Nat × Int :=
  if p < bs.length then
    if nth bs p < 1 ∨ 3 < nth bs p then ([], p, 90)
    else if bs.length < p + szV (nth bs p) then ([], p, 94)
    else decG bs (p + szV (nth bs p)) (acc ++ [rdE (bs.drop p)])
  else (acc, 0, 0)
termination_by bs.length - p
decreasing_by have := (sz_pos (nth bs p)).1; omega

section
variable {bs : List Int} {p : Nat} {acc : List E5}
theorem dec_end (h : bs.length ≤ p) : decG bs p acc = (acc, 0, 0) := by rw [decG, if_neg (by omega)]
theorem dec_kind (h : p < bs.length) (hk : nth bs p < 1 ∨ 3 < nth bs p) : decG bs p acc = ([], p, 90) := by rw [decG, if_pos h, if_pos hk]
theorem dec_short (h : p < bs.length) (hk : ¬(nth bs p < 1 ∨ 3 < nth bs p)) (hs : bs.length < p + szV (nth bs p)) : decG bs p acc = ([], p, 94) := by rw [decG, if_pos h, if_neg hk, if_pos hs]
theorem dec_next (h : p < bs.length) (hk : ¬(nth bs p < 1 ∨ 3 < nth bs p)) (hs : p + szV (nth bs p) ≤ bs.length) : decG bs p acc = decG bs (p + szV (nth bs p)) (acc ++ [rdE (bs.drop p)]) := by
  rw [decG, if_pos h, if_neg hk, if_neg (by omega)]
end

theorem nth_drop (bs : List Int) (p k : Nat) : nth (bs.drop p) k = nth bs (p + k) := by unfold nth; rw [List.getElem?_drop]
theorem nth_append_right (a b : List Int) (k : Nat) : nth (a ++ b) (a.length + k) = nth b k := by unfold nth; rw [List.getElem?_append_right (by omega)]; congr 2; omega
theorem nth_append_left (a b : List Int) {k : Nat} (h : k < a.length) : nth (a ++ b) k = nth a k := by unfold nth; rw [List.getElem?_append_left h]
theorem nth_take (a : List Int) {k j : Nat} (h : k < j) : nth (a.take j) k = nth a k := by unfold nth; rw [List.getElem?_take, if_pos h]

/-- What is left of an entry: fields without bytes are 0, others a byte. -/
def nrm (e : E5) : E5 := (e.1, if e.1 = 3 then 0 else e.2.1 % 256, if e.1 = 1 then e.2.2.1 % 256 else 0, if e.1 = 1 then e.2.2.2.1 % 256 else 0, if e.1 = 1 then e.2.2.2.2 else 0)
def Kind9 (e : E5) : Prop := 1 ≤ e.1 ∧ e.1 ≤ 3
theorem kind_cases {e : E5} (h : Kind9 e) : e.1 = 1 ∨ e.1 = 2 ∨ e.1 = 3 := by unfold Kind9 at h; omega

theorem enc1 {e : E5} (h : e.1 = 1) : encE e = [1, e.2.1 % 256, e.2.2.1 % 256, e.2.2.2.1 % 256] ++ putL e.2.2.2.2 8 := by
  unfold encE
  rw [if_pos h]
  simp only [putL_one, h]
  rfl
theorem enc2 {e : E5} (h : e.1 = 2) : encE e = [2, e.2.1 % 256] := by
  unfold encE
  rw [if_neg (by omega), if_pos h]
  simp only [putL_one, h]
  rfl
theorem enc3 {e : E5} (h : e.1 = 3) : encE e = [3] := by
  unfold encE
  rw [if_neg (by omega), if_neg (by omega)]
  simp only [putL_one, h]
  rfl
theorem rd_enc {e : E5} (hk : Kind9 e) (hv : I64 e.2.2.2.2) (post : List Int) : rdE (encE e ++ post) = nrm e := by
  rcases kind_cases hk with h | h | h
  · rw [enc1 h]
    have e8 : ((([1, e.2.1 % 256, e.2.2.1 % 256, e.2.2.2.1 % 256] ++ putL e.2.2.2.2 8) ++ post).drop 4).take 8 = putL e.2.2.2.2 8 := by
      show (putL e.2.2.2.2 8 ++ post).take 8 = _
      rw [List.take_append_of_le_length (by rw [putL_length]; exact Nat.le_refl _), List.take_of_length_le (by rw [putL_length]; exact Nat.le_refl _)]
    unfold rdE nrm
    rw [e8, num_put hv, h]
    rfl
  · rw [enc2 h]
    unfold rdE nrm
    rw [h]
    rfl
  · rw [enc3 h]
    unfold rdE nrm
    rw [h]
    rfl
theorem enc_head {e : E5} (hk : Kind9 e) (post : List Int) : nth (encE e ++ post) 0 = e.1 := by
  rcases kind_cases hk with h | h | h
  · rw [enc1 h, h]; rfl
  · rw [enc2 h, h]; rfl
  · rw [enc3 h, h]; rfl

/-- Over whole entries. -/
theorem dec_over (l : List E5) (hk : ∀ e ∈ l, Kind9 e) (hg : Good5 l) : ∀ (bs pre post : List Int) (acc : List E5), bs = pre ++ encL l ++ post → decG bs pre.length acc = decG bs (pre.length + (encL l).length) (acc ++ l.map nrm) := by
  induction l with
  | nil => intro bs pre post acc _; simp [encL_nil]
  | cons e l ih =>
    intro bs pre post acc hb
    have he := hk e List.mem_cons_self
    have hv := (hg e List.mem_cons_self).2.2.2.2
    rw [encL_cons] at hb ⊢
    have hb1 : bs = pre ++ (encE e ++ (encL l ++ post)) := by rw [hb]; simp only [List.append_assoc]
    have hn : nth bs pre.length = e.1 := by
      have := nth_append_right pre (encE e ++ (encL l ++ post)) 0
      rw [hb1]
      rw [Nat.add_zero] at this
      rw [this, enc_head he]
    have hd : bs.drop pre.length = encE e ++ (encL l ++ post) := by rw [hb1, List.drop_left']; rfl
    have hlen : bs.length = pre.length + (szV e.1 + ((encL l).length + post.length)) := by rw [hb1]; simp only [List.length_append, encE_length]
    have hs := (sz_pos e.1).1
    unfold Kind9 at he
    rw [dec_next (by omega) (by rw [hn]; omega) (by rw [hn]; omega), hn, hd, rd_enc he hv]
    have := ih (fun x hx => hk x (List.mem_cons_of_mem _ hx)) (fun x hx => hg x (List.mem_cons_of_mem _ hx)) bs (pre ++ encE e) post (acc ++ [nrm e]) (by rw [hb]; simp only [List.append_assoc])
    rw [List.length_append, encE_length] at this
    rw [this, List.length_append, encE_length, List.map_cons, List.append_assoc, Nat.add_assoc]
    rfl
theorem dec_over0 (l : List E5) (hk : ∀ e ∈ l, Kind9 e) (hg : Good5 l) (post : List Int) : decG (encL l ++ post) 0 [] = decG (encL l ++ post) (encL l).length (l.map nrm) := by
  have := dec_over l hk hg (encL l ++ post) [] post [] rfl
  simpa using this
theorem dec_enc {l : List E5} (hk : ∀ e ∈ l, Kind9 e) (hg : Good5 l) : decG (encL l) 0 [] = (l.map nrm, 0, 0) := by
  have := dec_over0 l hk hg []
  rw [List.append_nil] at this
  rw [this, dec_end (Nat.le_refl _)]
/-- Bytes that are cut off within an entry. -/
theorem dec_cut {l : List E5} {e : E5} (hk : ∀ e ∈ l, Kind9 e) (hg : Good5 l) (he : Kind9 e) {r : Nat} (h0 : 0 < r) (h1 : r < szV e.1) : decG (encL l ++ (encE e).take r) 0 [] = ([], (encL l).length, 94) := by
  rw [dec_over0 l hk hg]
  have hl : ((encE e).take r).length = r := by rw [List.length_take, encE_length]; omega
  have hn : nth (encL l ++ (encE e).take r) (encL l).length = e.1 := by
    have := nth_append_right (encL l) ((encE e).take r) 0
    rw [Nat.add_zero] at this
    rw [this, nth_take _ h0]
    have := enc_head he []
    rwa [List.append_nil] at this
  unfold Kind9 at he
  exact dec_short (by rw [List.length_append, hl]; omega) (by rw [hn]; omega) (by rw [hn, List.length_append, hl]; omega)
theorem dec_more {l : List E5} (hk : ∀ e ∈ l, Kind9 e) (hg : Good5 l) (m : Int) :
    decG (encL l ++ [m]) 0 [] = if m < 1 ∨ 3 < m then ([], (encL l).length, 90) else if m = 3 then (l.map nrm ++ [(3, 0, 0, 0, 0)], 0, 0) else ([], (encL l).length, 94) := by
  rw [dec_over0 l hk hg]
  have hn : nth (encL l ++ [m]) (encL l).length = m := by
    have := nth_append_right (encL l) [m] 0
    rw [Nat.add_zero] at this
    rw [this]; rfl
  have hlen : (encL l ++ [m]).length = (encL l).length + 1 := by simp
  by_cases h : m < 1 ∨ 3 < m
  · rw [if_pos h]
    exact dec_kind (by omega) (by rw [hn]; exact h)
  · rw [if_neg h]
    by_cases h3 : m = 3
    · subst h3
      rw [if_pos rfl, dec_next (by omega) (by rw [hn]; omega) (by rw [hn, hlen]; exact Nat.le_refl _), hn, dec_end (by rw [hlen]; exact Nat.le_refl _), List.drop_left']
      · rfl
      · rfl
    · rw [if_neg h3]
      refine dec_short (by omega) (by rw [hn]; exact h) ?_
      rw [hn, hlen]
      unfold szV
      repeat' split
      all_goals omega

/-- Bytes that are an entry are its bytes. -/
theorem enc_rd {bs : List Int} (hb : Bytes9 bs) (hk : ¬(nth bs 0 < 1 ∨ 3 < nth bs 0)) (hs : szV (nth bs 0) ≤ bs.length) : encE (rdE bs) = bs.take (szV (nth bs 0)) := by
  obtain h | h | h : nth bs 0 = 1 ∨ nth bs 0 = 2 ∨ nth bs 0 = 3 := by omega
  · rw [h] at hs ⊢
    have hs' : 12 ≤ bs.length := hs
    have h1 := hb.at 1
    have h2 := hb.at 2
    have h3 := hb.at 3
    have h8 : Bytes9 ((bs.drop 4).take 8) := (hb.drop 4).take 8
    have hl8 : ((bs.drop 4).take 8).length = 8 := by simp; omega
    have e1 : (rdE bs).1 = 1 := h
    rw [enc1 e1]
    have hr : rdE bs = (1, nth bs 1, nth bs 2, nth bs 3, numV ((bs.drop 4).take 8)) := by
      unfold rdE; rw [h]; rfl
    rw [hr]
    show [1, nth bs 1 % 256, nth bs 2 % 256, nth bs 3 % 256] ++ putL (numV ((bs.drop 4).take 8)) 8 = bs.take 12
    rw [put_num h8 hl8]
    unfold Byte at h1 h2 h3
    rw [show nth bs 1 % 256 = nth bs 1 by omega, show nth bs 2 % 256 = nth bs 2 by omega, show nth bs 3 % 256 = nth bs 3 by omega]
    match bs, hs', h with
    | a :: b :: c :: d :: r, _, h =>
      have : a = 1 := h
      subst this
      rfl
  · rw [h] at hs ⊢
    have hs' : 2 ≤ bs.length := hs
    have h1 := hb.at 1
    have e1 : (rdE bs).1 = 2 := h
    rw [enc2 e1]
    have hr : rdE bs = (2, nth bs 1, 0, 0, 0) := by unfold rdE; rw [h]; rfl
    rw [hr]
    show [2, nth bs 1 % 256] = bs.take 2
    unfold Byte at h1
    rw [show nth bs 1 % 256 = nth bs 1 by omega]
    match bs, hs', h with
    | a :: b :: r, _, h =>
      have : a = 2 := h
      subst this
      rfl
  · rw [h] at hs ⊢
    have hs' : 1 ≤ bs.length := hs
    have e1 : (rdE bs).1 = 3 := h
    rw [enc3 e1]
    show [3] = bs.take 1
    match bs, hs', h with
    | a :: r, _, h =>
      have : a = 3 := h
      subst this
      rfl
theorem dec_back {bs : List Int} (hb : Bytes9 bs) : ∀ (n p : Nat) (acc : List E5), bs.length - p = n → p ≤ bs.length → encL acc = bs.take p → (decG bs p acc).2.2 = 0 → encL (decG bs p acc).1 = bs := by
  intro n
  induction n using Nat.strongRecOn with
  | _ n ih =>
    intro p acc hn hp ha h0
    by_cases h : p < bs.length
    · by_cases hk : nth bs p < 1 ∨ 3 < nth bs p
      · rw [dec_kind h hk] at h0; cases h0
      · by_cases hs : bs.length < p + szV (nth bs p)
        · rw [dec_short h hk hs] at h0; cases h0
        · have hz := (sz_pos (nth bs p)).1
          have h00 : nth (bs.drop p) 0 = nth bs p := by rw [nth_drop, Nat.add_zero]
          have hr := enc_rd (hb.drop p) (by rw [h00]; exact hk) (by rw [h00, List.length_drop]; omega)
          rw [h00] at hr
          rw [dec_next h hk (by omega)] at h0 ⊢
          refine ih (bs.length - (p + szV (nth bs p))) (by omega) _ _ rfl (by omega) ?_ h0
          rw [encL_append, ha]
          show _ ++ (encE (rdE (bs.drop p)) ++ []) = _
          rw [List.append_nil, hr, List.take_add]
    · rw [dec_end (by omega)]
      show encL acc = bs
      rw [ha, List.take_of_length_le (by omega)]
theorem dec_back0 {bs : List Int} (hb : Bytes9 bs) (h : (decG bs 0 []).2.2 = 0) : encL (decG bs 0 []).1 = bs := dec_back hb _ 0 [] rfl (Nat.zero_le _) (by simp [encL_nil]) h
/-- An error tells no entries, and a place of the text. -/
theorem dec_place (bs : List Int) : ∀ (n p : Nat) (acc : List E5), bs.length - p = n → ((decG bs p acc).2.2 = 0 ∧ (decG bs p acc).2.1 = 0 ∨ (decG bs p acc).1 = [] ∧ (decG bs p acc).2.1 < bs.length ∧ ((decG bs p acc).2.2 = 90 ∨ (decG bs p acc).2.2 = 94)) ∧ (decG bs p acc).1.length ≤ acc.length + (bs.length - p) := by
  intro n
  induction n using Nat.strongRecOn with
  | _ n ih =>
    intro p acc hn
    by_cases h : p < bs.length
    · by_cases hk : nth bs p < 1 ∨ 3 < nth bs p
      · rw [dec_kind h hk]; exact ⟨.inr ⟨rfl, h, .inl rfl⟩, Nat.zero_le _⟩
      · by_cases hs : bs.length < p + szV (nth bs p)
        · rw [dec_short h hk hs]; exact ⟨.inr ⟨rfl, h, .inr rfl⟩, Nat.zero_le _⟩
        · have hz := (sz_pos (nth bs p)).1
          rw [dec_next h hk (by omega)]
          obtain ⟨h1, h2⟩ := ih (bs.length - (p + szV (nth bs p))) (by omega) (p + szV (nth bs p)) (acc ++ [rdE (bs.drop p)]) rfl
          refine ⟨h1, ?_⟩
          rw [List.length_append] at h2
          simp at h2
          omega
    · rw [dec_end (by omega)]; exact ⟨.inl ⟨rfl, rfl⟩, by show acc.length ≤ _; omega⟩
theorem dec_place0 (bs : List Int) : ((decG bs 0 []).2.2 = 0 ∧ (decG bs 0 []).2.1 = 0 ∨ (decG bs 0 []).1 = [] ∧ (decG bs 0 []).2.1 < bs.length ∧ ((decG bs 0 []).2.2 = 90 ∨ (decG bs 0 []).2.2 = 94)) ∧ (decG bs 0 []).1.length ≤ bs.length := by
  have := dec_place bs _ 0 [] rfl
  simpa using this

/-! Strings. -/
/-- The bytes of a string, as numbers. -/
def nums (s : ByteArray) : List Int := s.data.toList.map fun b => (b.toNat : Int)
theorem nums_length (s : ByteArray) : (nums s).length = s.size := by unfold nums; rw [List.length_map]; rfl
theorem nums_bytes (s : ByteArray) : Bytes9 (nums s) := by
  intro b hb
  obtain ⟨x, _, rfl⟩ := List.mem_map.1 hb
  have := x.toNat_lt
  exact ⟨by omega, by omega⟩
theorem nums_at (s : ByteArray) (k : Nat) (h : k < s.size) : (nums s)[k]? = some (s[k].toNat : Int) := by
  unfold nums
  have h' : k < s.data.toList.length := h
  rw [List.getElem?_map, List.getElem?_eq_getElem h']
  rfl
theorem nums_nth (s : ByteArray) (k : Nat) (h : k < s.size) : (s[k].toNat : Int) = nth (nums s) k := by unfold nth; rw [nums_at s k h]; rfl
theorem nums_str {xs : List Int} (h : Bytes9 xs) : nums (strOfNums xs) = xs := by
  unfold nums
  rw [strOfNums_data, List.map_map]
  conv => rhs; rw [← List.map_id xs]
  refine List.map_congr_left fun b hb => ?_
  have := h b hb
  unfold Byte at this
  simp
  omega
theorem str_nums (s : ByteArray) : strOfNums (nums s) = s := by
  apply ByteArray.ext
  apply Array.toList_inj.1
  rw [strOfNums_data]
  unfold nums
  rw [List.map_map]
  conv => rhs; rw [← List.map_id s.data.toList]
  refine List.map_congr_left fun b _ => ?_
  simp
theorem str_inj {xs ys : List Int} (hx : Bytes9 xs) (hy : Bytes9 ys) (h : strOfNums xs = strOfNums ys) : xs = ys := by rw [← nums_str hx, ← nums_str hy, h]
theorem str_append (xs ys : List Int) : strOfNums xs ++ strOfNums ys = strOfNums (xs ++ ys) := by
  apply ByteArray.ext
  simp [strOfNums, ByteArray.data_append]
end Go.Proofs.Ytlmkbfbiohocpaa
