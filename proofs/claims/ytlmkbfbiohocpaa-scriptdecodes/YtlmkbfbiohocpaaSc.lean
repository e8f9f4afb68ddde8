/- Plain mathematics of layer 9: entries as five numbers; what Check and All tell of them; their bytes, and the way back. Nothing of the program. -/
import Derived.Test.YtlmkbfbiohocpaaRows2
import Derived.Test.YtlmkbfbiohocpaaRef
import Derived.Laws.BytesArg
namespace Go.Proofs.Ytlmkbfbiohocpaa
open Go.RowKit

/-- An entry: kind, thread, item, tag, number. -/
abbrev E5 := Int × Int × Int × Int × Int

def ec5 (l : List E5) : List Value := l.flatMap fun e => [.int .i64 e.1, .int .i64 e.2.1, .int .i64 e.2.2.1, .int .i64 e.2.2.2.1, .int .i64 e.2.2.2.2]
theorem ec5_length (l : List E5) : (ec5 l).length = l.length * 5 := by
  induction l with
  | nil => rfl
  | cons e l ih => show (ec5 l).length + 5 = _; rw [ih, List.length_cons]; omega
theorem ec5_append (a b : List E5) : ec5 (a ++ b) = ec5 a ++ ec5 b := List.flatMap_append
theorem ec5_at {l : List E5} {k : Nat} {e : E5} (h : l[k]? = some e) :
    (ec5 l)[k * 5]? = some (.int .i64 e.1) ∧ (ec5 l)[k * 5 + 1]? = some (.int .i64 e.2.1) ∧ (ec5 l)[k * 5 + 2]? = some (.int .i64 e.2.2.1) ∧ (ec5 l)[k * 5 + 3]? = some (.int .i64 e.2.2.2.1) ∧ (ec5 l)[k * 5 + 4]? = some (.int .i64 e.2.2.2.2) := by
  induction l generalizing k with
  | nil => simp at h
  | cons a l ih =>
    cases k with
    | zero =>
      have : a = e := by simpa using h
      subst this
      simp [ec5]
    | succ k =>
      have := ih (k := k) (by simpa using h)
      have hs : ∀ j, (ec5 (a :: l))[(k + 1) * 5 + j]? = (ec5 l)[k * 5 + j]? := fun j => by
        show (_ :: _ :: _ :: _ :: _ :: ec5 l)[(k + 1) * 5 + j]? = _
        rw [show (k + 1) * 5 + j = (k * 5 + j) + 1 + 1 + 1 + 1 + 1 by omega]
        simp
      have h0 := hs 0
      rw [Nat.add_zero, Nat.add_zero] at h0
      rw [h0, hs 1, hs 2, hs 3, hs 4]
      exact this
theorem ec5_one (l : List E5) : ∀ u ∈ ec5 l, u.oneCell' = true := by
  intro u hu
  simp only [ec5, List.mem_flatMap] at hu
  obtain ⟨e, _, he⟩ := hu
  simp at he
  rcases he with rfl | rfl | rfl | rfl | rfl <;> rfl
theorem ec5_take (l : List E5) (k : Nat) : (ec5 l).take (k * 5) = ec5 (l.take k) := by
  induction l generalizing k with
  | nil => simp [ec5]
  | cons e l ih =>
    cases k with
    | zero => simp [ec5]
    | succ k =>
      show (_ :: _ :: _ :: _ :: _ :: ec5 l).take ((k + 1) * 5) = _ :: _ :: _ :: _ :: _ :: ec5 (l.take k)
      rw [show (k + 1) * 5 = k * 5 + 1 + 1 + 1 + 1 + 1 by omega]
      simp [ih k]

/-- The k-th entry's cells. -/
theorem Sees.ent5 {w : World} {B : Nat} {A : Option Addr} {l : List E5} (h : Sees w B 5 A l.length (ec5 l)) {k : Nat} (hk : k < l.length) :
    ∃ (b off : Nat) (x t i g v : Int), A = some ⟨b, off, none⟩ ∧ b < B ∧ l[k]? = some (x, t, i, g, v) ∧ w.cell? ⟨b, off + k * 5, none⟩ = some (.int .i64 x) ∧
      w.cell? ⟨b, off + k * 5 + 1, none⟩ = some (.int .i64 t) ∧ w.cell? ⟨b, off + k * 5 + 2, none⟩ = some (.int .i64 i) ∧ w.cell? ⟨b, off + k * 5 + 3, none⟩ = some (.int .i64 g) ∧ w.cell? ⟨b, off + k * 5 + 4, none⟩ = some (.int .i64 v) := by
  obtain ⟨b, off, e, hb, hc⟩ := h.2 (by omega)
  obtain ⟨⟨x, t, i, g, v⟩, he⟩ : ∃ e, l[k]? = some e := ⟨l[k], List.getElem?_eq_getElem hk⟩
  obtain ⟨h1, h2, h3, h4, h5⟩ := ec5_at he
  exact ⟨b, off, x, t, i, g, v, e, hb, he, hc _ _ h1, by have := hc _ _ h2; rwa [← Nat.add_assoc] at this, by have := hc _ _ h3; rwa [← Nat.add_assoc] at this,
    by have := hc _ _ h4; rwa [← Nat.add_assoc] at this, by have := hc _ _ h5; rwa [← Nat.add_assoc] at this⟩

/-- All numbers are of 64 bits. -/
def Ok5 (e : E5) : Prop := I64 e.1 ∧ I64 e.2.1 ∧ I64 e.2.2.1 ∧ I64 e.2.2.2.1 ∧ I64 e.2.2.2.2
def Good5 (l : List E5) : Prop := ∀ e ∈ l, Ok5 e
theorem Good5.at {l : List E5} (h : Good5 l) {k : Nat} {e : E5} (he : l[k]? = some e) : Ok5 e := h e (List.mem_of_getElem? he)

/-! What Check and All tell. -/
def chV (n m : Int) (b : Bool) (e : E5) : Int :=
  if e.1 < 1 ∨ 3 < e.1 then 90 else if e.1 = 3 then 0 else if e.2.1 < 0 ∨ n ≤ e.2.1 then 91 else if e.1 = 2 then 0 else if e.2.2.1 < 0 ∨ m ≤ e.2.2.1 then 92
  else if mayB e.2.2.2.1 e.2.2.2.2 b = true then 0 else 93
def fsV (n m : Int) (b : Bool) : List E5 → Nat → Int × Int
  | [], _ => (0, 0)
  | e :: l, k => if chV n m b e = 0 then fsV n m b l (k + 1) else ((k : Int), chV n m b e)
def alV (ck n m : Int) (b : Bool) (l : List E5) : Int × Int := if ck ≠ 0 then (0, ck) else if 65536 < l.length then (0, 2) else fsV n m b l 0

theorem ch_range (n m : Int) (b : Bool) (e : E5) : 0 ≤ chV n m b e ∧ chV n m b e ≤ 93 := by
  unfold chV
  repeat' split
  all_goals omega
theorem fs_good {n m : Int} {b : Bool} {l : List E5} {k : Nat} {e : E5} (h : l[k]? = some e) (h0 : chV n m b e = 0) : fsV n m b (l.drop k) k = fsV n m b (l.drop (k + 1)) (k + 1) := by
  rw [List.drop_eq_getElem_cons (List.getElem?_eq_some_iff.1 h).1, (List.getElem?_eq_some_iff.1 h).2, fsV, if_pos h0]
theorem fs_bad {n m : Int} {b : Bool} {l : List E5} {k : Nat} {e : E5} (h : l[k]? = some e) (h0 : chV n m b e ≠ 0) : fsV n m b (l.drop k) k = ((k : Int), chV n m b e) := by
  rw [List.drop_eq_getElem_cons (List.getElem?_eq_some_iff.1 h).1, (List.getElem?_eq_some_iff.1 h).2, fsV, if_neg h0]
theorem fs_end {n m : Int} {b : Bool} {l : List E5} : fsV n m b (l.drop l.length) l.length = (0, 0) := by rw [List.drop_length]; rfl
/-- Entries behind others. -/
theorem fs_append (n m : Int) (b : Bool) (l r : List E5) (k : Nat) : fsV n m b (l ++ r) k = if (fsV n m b l k).2 = 0 then fsV n m b r (k + l.length) else fsV n m b l k := by
  induction l generalizing k with
  | nil => simp [fsV]
  | cons e l ih =>
    by_cases h : chV n m b e = 0
    · rw [List.cons_append, fsV, if_pos h, ih, fsV, if_pos h, List.length_cons, show k + 1 + l.length = k + (l.length + 1) by omega]
    · rw [List.cons_append, fsV, if_neg h, fsV, if_neg h, if_neg h]
theorem fs_shift (n m : Int) (b : Bool) (l : List E5) (k j : Nat) : fsV n m b l (k + j) = if (fsV n m b l k).2 = 0 then (0, 0) else ((fsV n m b l k).1 + j, (fsV n m b l k).2) := by
  induction l generalizing k with
  | nil => simp [fsV]
  | cons e l ih =>
    by_cases h : chV n m b e = 0
    · rw [fsV, if_pos h, fsV, if_pos h, show k + j + 1 = k + 1 + j by omega, ih]
    · rw [fsV, if_neg h, fsV, if_neg h, if_neg h]
      simp
theorem fs_zero {n m : Int} {b : Bool} {l : List E5} {k : Nat} (h : (fsV n m b l k).2 = 0) : fsV n m b l k = (0, 0) := by
  have := fs_shift n m b l k 0
  rwa [if_pos h] at this
/-- All of them may be. -/
theorem fs_all {n m : Int} {b : Bool} {l : List E5} {k : Nat} (h : (fsV n m b l k).2 = 0) : ∀ e ∈ l, chV n m b e = 0 := by
  induction l generalizing k with
  | nil => intro e he; cases he
  | cons a l ih =>
    by_cases ha : chV n m b a = 0
    · rw [fsV, if_pos ha] at h
      intro e he
      rcases List.mem_cons.1 he with rfl | he
      · exact ha
      · exact ih h e he
    · rw [fsV, if_neg ha] at h
      exact absurd h ha
theorem fs_i64 {n m : Int} {b : Bool} {l : List E5} {k : Nat} (hk : k + l.length ≤ 1000000) : 0 ≤ (fsV n m b l k).1 ∧ (fsV n m b l k).1 ≤ 1000000 ∧ 0 ≤ (fsV n m b l k).2 ∧ (fsV n m b l k).2 ≤ 93 := by
  induction l generalizing k with
  | nil => simp [fsV]
  | cons e l ih =>
    rw [List.length_cons] at hk
    by_cases h : chV n m b e = 0
    · rw [fsV, if_pos h]; exact ih (by omega)
    · rw [fsV, if_neg h]
      have := ch_range n m b e
      exact ⟨by omega, by omega, this.1, this.2⟩
theorem al_ok {n m ck : Int} {b : Bool} {l : List E5} (hc : ck = 0) (hl : l.length ≤ 65536) : alV ck n m b l = fsV n m b l 0 := by
  unfold alV
  rw [if_neg (by omega), if_neg (by omega)]
theorem al_no {n m ck : Int} {b : Bool} {l : List E5} (hc : ck ≠ 0) : alV ck n m b l = (0, ck) := by
  unfold alV
  rw [if_pos hc]
theorem al_join {n m : Int} {b : Bool} {ck : Int} {l r : List E5} (hl : l.length ≤ 100) (hr : r.length ≤ 100) :
    alV ck n m b (l ++ r) = if (alV ck n m b l).2 ≠ 0 then alV ck n m b l else if (alV ck n m b r).2 ≠ 0 then ((l.length : Int) + (alV ck n m b r).1, (alV ck n m b r).2) else (0, 0) := by
  by_cases hc : ck = 0
  · rw [al_ok hc (l := l ++ r) (by rw [List.length_append]; omega), al_ok hc (l := l) (by omega), al_ok hc (l := r) (by omega), fs_append]
    have hs := fs_shift n m b r 0 l.length
    by_cases h : (fsV n m b l 0).2 = 0
    · rw [if_pos h, if_neg (fun h' => h' h), hs]
      by_cases h2 : (fsV n m b r 0).2 = 0
      · rw [if_pos h2, if_neg (fun h' => h' h2)]
      · rw [if_neg h2, if_pos h2, Int.add_comm]
    · rw [if_neg h, if_pos h]
  · rw [al_no hc, al_no hc, if_pos hc]

/-! Bytes. -/
def byV (n : Int) (k : Nat) : Int := n / 2 ^ (8 * k) % 256
/-- The lowest bytes of a number, the highest one of them first. -/
def putL (n : Int) : Nat → List Int
  | 0 => []
  | k + 1 => byV n k :: putL n k
theorem putL_length (n : Int) (k : Nat) : (putL n k).length = k := by
  induction k with
  | zero => rfl
  | succ k ih => rw [putL, List.length_cons, ih]
theorem putL_one (n : Int) : putL n 1 = [n % 256] := by simp [putL, byV]
def Byte (b : Int) : Prop := 0 ≤ b ∧ b < 256
def Bytes9 (bs : List Int) : Prop := ∀ b ∈ bs, Byte b
theorem byV_byte (n : Int) (k : Nat) : Byte (byV n k) := by unfold byV Byte; omega
theorem putL_bytes (n : Int) (k : Nat) : Bytes9 (putL n k) := by
  induction k with
  | zero => intro b hb; cases hb
  | succ k ih =>
    intro b hb
    rcases List.mem_cons.1 hb with rfl | hb
    · exact byV_byte n k
    · exact ih b hb
theorem Bytes9.append {a b : List Int} (h : Bytes9 a) (k : Bytes9 b) : Bytes9 (a ++ b) := fun x hx => (List.mem_append.1 hx).elim (h x) (k x)
theorem Bytes9.left {a b : List Int} (h : Bytes9 (a ++ b)) : Bytes9 a := fun x hx => h x (List.mem_append.2 (.inl hx))
theorem Bytes9.right {a b : List Int} (h : Bytes9 (a ++ b)) : Bytes9 b := fun x hx => h x (List.mem_append.2 (.inr hx))
theorem Bytes9.take {a : List Int} (h : Bytes9 a) (k : Nat) : Bytes9 (a.take k) := fun x hx => h x (List.mem_of_mem_take hx)
theorem Bytes9.drop {a : List Int} (h : Bytes9 a) (k : Nat) : Bytes9 (a.drop k) := fun x hx => h x (List.mem_of_mem_drop hx)
theorem Bytes9.at {a : List Int} (h : Bytes9 a) (k : Nat) : Byte (nth a k) := by
  unfold nth
  cases e : a[k]? with
  | none => exact ⟨Int.le_refl _, by show (0 : Int) < 256; omega⟩
  | some v => exact h v (List.mem_of_getElem? e)

def encE (e : E5) : List Int :=
  if e.1 = 1 then putL e.1 1 ++ putL e.2.1 1 ++ putL e.2.2.1 1 ++ putL e.2.2.2.1 1 ++ putL e.2.2.2.2 8 else if e.1 = 2 then putL e.1 1 ++ putL e.2.1 1 else putL e.1 1
def encL (l : List E5) : List Int := l.flatMap encE
theorem encL_append (a b : List E5) : encL (a ++ b) = encL a ++ encL b := List.flatMap_append
theorem encL_nil : encL [] = [] := rfl
theorem encL_cons (e : E5) (l : List E5) : encL (e :: l) = encE e ++ encL l := rfl
theorem encE_bytes (e : E5) : Bytes9 (encE e) := by
  unfold encE
  repeat' split
  · exact ((((putL_bytes _ _).append (putL_bytes _ _)).append (putL_bytes _ _)).append (putL_bytes _ _)).append (putL_bytes _ _)
  · exact (putL_bytes _ _).append (putL_bytes _ _)
  · exact putL_bytes _ _
theorem encL_bytes (l : List E5) : Bytes9 (encL l) := by
  intro b hb
  obtain ⟨e, _, he⟩ := List.mem_flatMap.1 hb
  exact encE_bytes e b he

/-- How many bytes an entry of that kind has. -/
def szV (k : Int) : Nat := if k = 1 then 12 else if k = 2 then 2 else 1
theorem sz_pos (k : Int) : 1 ≤ szV k ∧ szV k ≤ 12 := by
  unfold szV
  repeat' split
  all_goals exact ⟨by decide, by decide⟩
theorem encE_length (e : E5) : (encE e).length = szV e.1 := by
  unfold encE szV
  repeat' split
  all_goals simp [putL_length]
theorem encL_length_le (l : List E5) : (encL l).length ≤ 12 * l.length := by
  induction l with
  | nil => simp [encL]
  | cons e l ih =>
    rw [encL_cons, List.length_append, encE_length, List.length_cons]
    have := (sz_pos e.1).2
    omega

/-- A number out of its bytes. -/
def sumL (bs : List Int) : Int := bs.foldl (fun a b => 256 * a + b) 0
def numV (bs : List Int) : Int := bs.foldl (fun a b => wrap64 (256 * a + b)) 0
theorem wrap_fold (a b : Int) : wrap64 (256 * wrap64 a + b) = wrap64 (256 * a + b) := by unfold wrap64; omega
theorem numV_fold (bs : List Int) (a : Int) : bs.foldl (fun a b => wrap64 (256 * a + b)) (wrap64 a) = wrap64 (bs.foldl (fun a b => 256 * a + b) a) := by
  induction bs generalizing a with
  | nil => rfl
  | cons b bs ih => rw [List.foldl_cons, List.foldl_cons, wrap_fold, ih]
theorem numV_eq (bs : List Int) : numV bs = wrap64 (sumL bs) := by
  have := numV_fold bs 0
  rwa [show wrap64 0 = 0 by unfold wrap64; omega] at this
theorem numV_snoc (bs : List Int) (b : Int) : numV (bs ++ [b]) = wrap64 (256 * numV bs + b) := by unfold numV; rw [List.foldl_append]; rfl
theorem numV_one {b : Int} (h : Byte b) : numV [b] = b := by
  rw [numV_eq]; show wrap64 (256 * 0 + b) = b
  unfold Byte at h; unfold wrap64; omega
theorem numV_nil : numV [] = 0 := rfl
theorem numV_i64 (bs : List Int) : I64 (numV bs) := by rw [numV_eq]; exact i64_wrap _
/-- The same by numbers below 2^64. -/
def numU (bs : List Int) : Int := bs.foldl (fun a b => (256 * a + b) % 18446744073709551616) 0
theorem numU_snoc (bs : List Int) (b : Int) : numU (bs ++ [b]) = (256 * numU bs + b) % 18446744073709551616 := by unfold numU; rw [List.foldl_append]; rfl
theorem numU_fold (bs : List Int) (a : Int) : wrap64 (bs.foldl (fun a b => (256 * a + b) % 18446744073709551616) (a % 18446744073709551616)) = wrap64 (bs.foldl (fun a b => 256 * a + b) a) := by
  induction bs generalizing a with
  | nil => show wrap64 (a % _) = wrap64 a; unfold wrap64; omega
  | cons b bs ih =>
    rw [List.foldl_cons, List.foldl_cons, ← ih (256 * a + b)]
    congr 2
    omega
theorem numU_eq (bs : List Int) : wrap64 (numU bs) = numV bs := by rw [numV_eq]; exact numU_fold bs 0
theorem numU_range (bs : List Int) : 0 ≤ numU bs ∧ numU bs < 18446744073709551616 := by
  rcases List.eq_nil_or_concat bs with rfl | ⟨l, b, rfl⟩
  · exact ⟨by decide, by decide⟩
  · rw [List.concat_eq_append, numU_snoc]; omega

theorem byV_wrap (x : Int) (k : Nat) (hk : k < 8) : byV (wrap64 x) k = byV x k := by
  unfold byV wrap64
  obtain rfl | rfl | rfl | rfl | rfl | rfl | rfl | rfl : k = 0 ∨ k = 1 ∨ k = 2 ∨ k = 3 ∨ k = 4 ∨ k = 5 ∨ k = 6 ∨ k = 7 := by omega
  all_goals simp only [Nat.reduceMul, Int.reducePow]
  all_goals omega
theorem putL_wrap (x : Int) (k : Nat) (hk : k ≤ 8) : putL (wrap64 x) k = putL x k := by
  induction k with
  | zero => rfl
  | succ k ih => rw [putL, putL, byV_wrap x k (by omega), ih (by omega)]
theorem pow8_succ (k : Nat) : (2 : Int) ^ (8 * (k + 1)) = 256 * 2 ^ (8 * k) := by
  rw [show 8 * (k + 1) = 8 * k + 8 by omega, Int.pow_add, Int.mul_comm]; rfl
theorem sumL_fold (bs : List Int) (a : Int) : bs.foldl (fun a b => 256 * a + b) a = a * 2 ^ (8 * bs.length) + sumL bs := by
  induction bs generalizing a with
  | nil => simp [sumL]
  | cons b bs ih =>
    rw [List.foldl_cons, ih, show sumL (b :: bs) = bs.foldl (fun a b => 256 * a + b) (256 * 0 + b) from rfl, ih (256 * 0 + b), List.length_cons, pow8_succ]
    rw [Int.add_mul, Int.add_mul, Int.mul_zero, Int.zero_mul, Int.zero_add, Int.mul_comm 256 a, Int.mul_assoc, Int.add_assoc]
theorem sumL_cons (b : Int) (bs : List Int) : sumL (b :: bs) = b * 2 ^ (8 * bs.length) + sumL bs := by
  have := sumL_fold bs (256 * 0 + b)
  rw [show (256 * 0 + b) * 2 ^ (8 * bs.length) = b * 2 ^ (8 * bs.length) by rw [Int.mul_zero, Int.zero_add]] at this
  exact this
theorem mod_split (n : Int) (p : Int) (hp : 0 < p) : n % (256 * p) = (n / p % 256) * p + n % p := by
  have h1 := Int.emod_add_mul_ediv n p
  have h2 := Int.emod_add_mul_ediv (n / p) 256
  have h3 : 0 ≤ n % p := Int.emod_nonneg _ (by omega)
  have h4 : n % p < p := Int.emod_lt_of_pos _ hp
  have h5 : 0 ≤ n / p % 256 := by omega
  have h6 : n / p % 256 < 256 := by omega
  have e : n = (n / p % 256) * p + n % p + 256 * p * (n / p / 256) := by
    have : p * (n / p) = p * (n / p % 256) + 256 * p * (n / p / 256) := by
      conv => lhs; rw [← h2]
      rw [Int.mul_add, ← Int.mul_assoc, Int.mul_comm p 256]
    rw [Int.mul_comm (n / p % 256) p]
    omega
  have hlt : (n / p % 256) * p + n % p < 256 * p := by
    have : (n / p % 256) * p ≤ 255 * p := Int.mul_le_mul_of_nonneg_right (by omega) (by omega)
    have : (255 : Int) * p + p = 256 * p := by omega
    omega
  have hge : 0 ≤ (n / p % 256) * p + n % p := by
    have : 0 ≤ (n / p % 256) * p := Int.mul_nonneg h5 (by omega)
    omega
  conv => lhs; rw [e]
  rw [Int.add_mul_emod_self_left, Int.emod_eq_of_lt hge hlt]
theorem sum_put (n : Int) (k : Nat) : sumL (putL n k) = n % 2 ^ (8 * k) := by
  induction k with
  | zero => simp [putL, sumL]
  | succ k ih => rw [putL, sumL_cons, putL_length, ih, pow8_succ, mod_split _ _ (Int.pow_pos (by decide))]; rfl
theorem num_put {v : Int} (hv : I64 v) : numV (putL v 8) = v := by
  rw [numV_eq, sum_put]
  unfold I64 at hv
  simp only [Nat.reduceMul, Int.reducePow]
  unfold wrap64; omega
theorem sum_range {bs : List Int} (h : Bytes9 bs) : 0 ≤ sumL bs ∧ sumL bs < 2 ^ (8 * bs.length) := by
  induction bs with
  | nil => simp [sumL]
  | cons b bs ih =>
    obtain ⟨h1, h2⟩ := ih fun x hx => h x (List.mem_cons_of_mem _ hx)
    obtain ⟨h3, h4⟩ := h b List.mem_cons_self
    rw [sumL_cons, List.length_cons, pow8_succ]
    have hp : (0 : Int) < 2 ^ (8 * bs.length) := Int.pow_pos (by decide)
    have : b * 2 ^ (8 * bs.length) ≤ 255 * 2 ^ (8 * bs.length) := Int.mul_le_mul_of_nonneg_right (by omega) (by omega)
    have : 0 ≤ b * 2 ^ (8 * bs.length) := Int.mul_nonneg h3 (by omega)
    generalize (2 : Int) ^ (8 * bs.length) = p at *
    omega
theorem byV_add (a n : Int) (k j : Nat) (hk : k < j) : byV (a * 2 ^ (8 * j) + n) k = byV n k := by
  unfold byV
  obtain ⟨d, rfl⟩ : ∃ d, j = k + 1 + d := ⟨j - k - 1, by omega⟩
  have hp : (2 : Int) ^ (8 * k) ≠ 0 := by have : (0 : Int) < 2 ^ (8 * k) := Int.pow_pos (by decide); omega
  have e : a * 2 ^ (8 * (k + 1 + d)) = (a * 2 ^ (8 * d) * 256) * 2 ^ (8 * k) := by
    rw [show 8 * (k + 1 + d) = 8 * d + 8 + 8 * k by omega, Int.pow_add, Int.pow_add, ← Int.mul_assoc, ← Int.mul_assoc]; rfl
  rw [e, Int.add_comm, Int.add_mul_ediv_right _ _ hp]
  omega
theorem putL_add (a n : Int) (k j : Nat) (hk : k ≤ j) : putL (a * 2 ^ (8 * j) + n) k = putL n k := by
  induction k with
  | zero => rfl
  | succ k ih => rw [putL, putL, byV_add a n k j (by omega), ih (by omega)]
theorem put_sum {bs : List Int} (h : Bytes9 bs) : putL (sumL bs) bs.length = bs := by
  induction bs with
  | nil => rfl
  | cons b bs ih =>
    have hb := h b List.mem_cons_self
    have ht : Bytes9 bs := fun x hx => h x (List.mem_cons_of_mem _ hx)
    have hr := sum_range ht
    rw [List.length_cons, putL, sumL_cons, putL_add _ _ _ _ (Nat.le_refl _), ih ht]
    congr 1
    unfold byV
    have hp : (0 : Int) < 2 ^ (8 * bs.length) := Int.pow_pos (by decide)
    rw [Int.add_comm, Int.add_mul_ediv_right _ _ (by omega), Int.ediv_eq_zero_of_lt hr.1 hr.2]
    unfold Byte at hb
    omega
theorem put_num {bs : List Int} (h : Bytes9 bs) (hl : bs.length = 8) : putL (numV bs) 8 = bs := by
  rw [numV_eq, putL_wrap _ _ (Nat.le_refl _)]
  have := put_sum h
  rwa [hl] at this
end Go.Proofs.Ytlmkbfbiohocpaa
