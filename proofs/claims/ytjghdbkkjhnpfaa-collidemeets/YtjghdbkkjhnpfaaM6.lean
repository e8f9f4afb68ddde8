/- Texts of the elder layers in one file. -/
import Derived.Test.YtjghdbkkjhnpfaaM3
import Derived.Test.YtjghdbkkjhnpfaaM1
import Derived.Lib.QuietBelow
import Derived.Deep.QuietTactic
import Derived.Deep.RegionWith
import Derived.BigQuiet
/- What a word says, as plain numbers. Nothing of the program. -/
namespace Go.Proofs.Ytjghdbkkjhnpfaa
open Go.RowKit

/-- The lowest bits are the rest, of numbers below 0 too. -/
theorem bits_any (x : Int) (k : Nat) (hk : k ≤ 8) : bits .and .i64 x (((2 ^ k - 1 : Nat) : Int)) = x % ((2 ^ k : Nat) : Int) := by
  rw [bits_and_def]
  have h2 : (2 : Nat) ^ k ≤ 2 ^ 8 := Nat.pow_le_pow_right (by decide) hk
  have h3 : 0 < (2 : Nat) ^ k := Nat.pow_pos (by decide)
  rw [BitVec.toNat_and, BitVec.ofInt_natCast, BitVec.toNat_ofNat, Nat.mod_eq_of_lt (a := 2 ^ k - 1) (by omega), Nat.and_two_pow_sub_one_eq_mod, BitVec.toNat_ofInt]
  have hd : ((2 ^ k : Nat) : Int) ∣ ((2 ^ 64 : Nat) : Int) := Int.natCast_dvd_natCast.2 (Nat.pow_dvd_pow 2 (by omega))
  have h0 : 0 ≤ x % ((2 ^ 64 : Nat) : Int) := Int.emod_nonneg _ (by decide)
  have h5 : (((x % ((2 ^ 64 : Nat) : Int)).toNat % 2 ^ k : Nat) : Int) = x % ((2 ^ k : Nat) : Int) := by
    rw [Int.natCast_emod, Int.toNat_of_nonneg h0, Int.emod_emod_of_dvd _ hd]
  have h4 := Int.emod_lt_of_pos x (b := ((2 ^ k : Nat) : Int)) (by omega)
  have h6 := Int.emod_nonneg x (b := ((2 ^ k : Nat) : Int)) (by omega)
  rw [h5, IntKind.wrap_i64]
  omega

/-- Kind, thread, item and layer of a word. -/
def kdV (w : Int) : Int :=
  if w = 0 then 0 else if w = 5 then 5
  else if 1 ≤ w % 8 ∧ w % 8 ≤ 3 ∧ 0 ≤ w / 8 - 1 ∧ w / 8 - 1 ≤ 15 then w % 8
  else if w % 8 = 4 ∧ 0 ≤ (w / 8 - 1) / 16 ∧ (w / 8 - 1) / 16 ≤ 3 ∧ 1 ≤ (w / 8 - 1) % 16 ∧ (w / 8 - 1) % 16 ≤ 3 then 4 else -1
def whV (w : Int) : Int := if 1 ≤ kdV w ∧ kdV w ≤ 3 then w / 8 - 1 else -1
def itV (w : Int) : Int := if kdV w = 4 then (w / 8 - 1) / 16 else -1
def lyV (w : Int) : Int := if kdV w = 4 then (w / 8 - 1) % 16 else 0

/-- What is taken apart, and the nearest that may be. -/
def clV (n a b : Int) : Int := if n < a then a else if b < n then b else n

/-- The words. -/
def opV (i l : Int) : Int := 8 * (16 * i + l + 1) + 4
def frV (k t : Int) : Int := 8 * (t + 1) + k

theorem kd_fr {k t : Int} (hk : 1 ≤ k ∧ k ≤ 3) (ht : 0 ≤ t ∧ t ≤ 15) : kdV (frV k t) = k ∧ whV (frV k t) = t := by
  have h : kdV (frV k t) = k := by
    unfold kdV frV
    rw [if_neg (by omega), if_neg (by omega), if_pos (by omega)]; omega
  refine ⟨h, ?_⟩
  unfold whV
  rw [h, if_pos (by omega)]
  unfold frV
  omega
theorem kd_op {i l : Int} (hi : 0 ≤ i ∧ i ≤ 3) (hl : 1 ≤ l ∧ l ≤ 3) : kdV (opV i l) = 4 ∧ whV (opV i l) = -1 ∧ itV (opV i l) = i ∧ lyV (opV i l) = l := by
  have h : kdV (opV i l) = 4 := by
    unfold kdV opV
    rw [if_neg (by omega), if_neg (by omega), if_neg (by omega), if_pos (by omega)]
  unfold whV itV lyV
  rw [h]
  refine ⟨rfl, rfl, ?_, ?_⟩
  · rw [if_pos rfl]; unfold opV; omega
  · rw [if_pos rfl]; unfold opV; omega
theorem kd_le (w : Int) : -1 ≤ kdV w ∧ kdV w ≤ 5 := by
  unfold kdV
  repeat' split
  all_goals omega
theorem i64_little {x : Int} (h1 : -1000000000 ≤ x) (h2 : x ≤ 1000000000) : I64 x := by unfold I64; omega
end Go.Proofs.Ytjghdbkkjhnpfaa
/- Contracts of the program's small calls of layer 8: within, ofThread, nothing, word, split. -/
namespace Go.Proofs.Ytjghdbkkjhnpfaa
open Go.RowKit

theorem ret_nC {a b : Int} (h : b = a) : Ending.returned (.int .i64 a) = .returned (.int .i64 b) := by rw [h]
/-- What a word says, as a value. -/
def sayV (k t i l : Int) : Value := .agg #[.int .i64 k, .int .i64 t, .int .i64 i, .int .i64 l]
def SayPost (k t i l : Int) (w : World) (e : Ending) (w' : World) : Prop := e = .returned (.agg #[.int .i64 k, .int .i64 t, .int .i64 i, .int .i64 l]) ∧ Below w.heap.size w w'
theorem ret_say {a b c d a' b' c' d' : Int} (h1 : a' = a) (h2 : b' = b) (h3 : c' = c) (h4 : d' = d) : Ending.returned (.agg #[.int .i64 a, .int .i64 b, .int .i64 c, .int .i64 d]) = .returned (.agg #[.int .i64 a', .int .i64 b', .int .i64 c', .int .i64 d']) := by rw [h1, h2, h3, h4]

/-- A box that holds what a word says. -/
structure Say (w : World) (g : Nat) (a b c d : Int) : Prop where
  lt : g < w.heap.size
  c0 : w.cell? ⟨g, 0, none⟩ = some (.int .i64 a)
  c1 : w.cell? ⟨g, 1, none⟩ = some (.int .i64 b)
  c2 : w.cell? ⟨g, 2, none⟩ = some (.int .i64 c)
  c3 : w.cell? ⟨g, 3, none⟩ = some (.int .i64 d)
  f0 : w.frozen? ⟨g, 0, none⟩ = false
  f1 : w.frozen? ⟨g, 1, none⟩ = false
  f2 : w.frozen? ⟨g, 2, none⟩ = false
  f3 : w.frozen? ⟨g, 3, none⟩ = false
theorem Say.keep {w w' : World} {g : Nat} {a b c d : Int} (h : Say w g a b c d) (hb : Below w.heap.size w w') : Say w' g a b c d :=
  ⟨Nat.lt_of_lt_of_le h.lt hb.size, by rw [hb.cell h.lt]; exact h.c0, by rw [hb.cell h.lt]; exact h.c1, by rw [hb.cell h.lt]; exact h.c2, by rw [hb.cell h.lt]; exact h.c3,
   by rw [hb.frozen h.lt]; exact h.f0, by rw [hb.frozen h.lt]; exact h.f1, by rw [hb.frozen h.lt]; exact h.f2, by rw [hb.frozen h.lt]; exact h.f3⟩
theorem Say.new (w : World) (a b c d : Int) (t : TypeId) : Say (w.alloc (.cells #[.int .i64 a, .int .i64 b, .int .i64 c, .int .i64 d] t)) w.heap.size a b c d := by
  constructor <;> simp [go_sem]
theorem below_box (w : World) (a b c d : Int) (t : TypeId) : Below w.heap.size w (w.alloc (.cells #[.int .i64 a, .int .i64 b, .int .i64 c, .int .i64 d] t)) := (Below.refl _ w).alloc (Nat.le_refl _) _

theorem below_set4 {B : Nat} {w w' : World} {g : Nat} (hg : B ≤ g) (h : Below B w w') (a b c d : Value) : Below B w ((((w'.setCell ⟨g, 0, none⟩ a).setCell ⟨g, 1, none⟩ b).setCell ⟨g, 2, none⟩ c).setCell ⟨g, 3, none⟩ d) :=
  (((h.setCell hg _).setCell hg _).setCell hg _).setCell hg _

theorem word_thread (k t i l : Int) (hk : 0 ≤ k ∧ k ≤ 5) (h4 : k ≠ 4) (ht : -1 ≤ t ∧ t ≤ 15) (w : World) : Calls Try.prog 28 #[.agg #[.int .i64 k, .int .i64 t, .int .i64 i, .int .i64 l]] w (IntPost (frV k t) w) := by
  have h4' : (k == 4) = false := beq_eq_false_iff_ne.2 h4
  go_enter Try.func28, Try.ntmps28
  go_wp2
  go_ret
  exact ⟨ret_nC (by unfold frV; omega), below_box _ _ _ _ _ _⟩

theorem word_open (t i l : Int) (hi : 0 ≤ i ∧ i ≤ 3) (hl : 1 ≤ l ∧ l ≤ 3) (w : World) : Calls Try.prog 28 #[.agg #[.int .i64 4, .int .i64 t, .int .i64 i, .int .i64 l]] w (IntPost (opV i l) w) := by
  go_enter Try.func28, Try.ntmps28
  go_wp2
  go_ret
  exact ⟨ret_nC (by unfold opV; omega), below_box _ _ _ _ _ _⟩

end Go.Proofs.Ytjghdbkkjhnpfaa
/- Contracts of nearest and read. -/
namespace Go.Proofs.Ytjghdbkkjhnpfaa
open Go.RowKit

theorem below_box2 (w : World) (a b c d a' b' c' d' : Int) (t t' : TypeId) : Below w.heap.size w ((w.alloc (.cells #[.int .i64 a, .int .i64 b, .int .i64 c, .int .i64 d] t)).alloc (.cells #[.int .i64 a', .int .i64 b', .int .i64 c', .int .i64 d'] t')) := (below_box w a b c d t).alloc (by simp) _

end Go.Proofs.Ytjghdbkkjhnpfaa
/- The contract of read. -/
namespace Go.Proofs.Ytjghdbkkjhnpfaa
open Go.RowKit Go.Sort

theorem neq_say (k t i l k' t' i' l' : Int) (hne : ¬(k = k' ∧ t = t' ∧ i = i' ∧ l = l')) (u : World) : (binOp .neq 82 (.agg #[.int .i64 k, .int .i64 t, .int .i64 i, .int .i64 l]) (.agg #[.int .i64 k', .int .i64 t', .int .i64 i', .int .i64 l'])).run Try.prog u = .ok (.bool true) u := by
  by_cases h1 : k = k'
  · by_cases h2 : t = t'
    · by_cases h3 : i = i'
      · by_cases h4 : l = l'
        · exact absurd ⟨h1, h2, h3, h4⟩ hne
        · simp [go_sem, h1, h2, h3, h4]
      · simp [go_sem, h1, h2, h3]
    · simp [go_sem, h1, h2]
  · simp [go_sem, h1]
end Go.Proofs.Ytjghdbkkjhnpfaa
/- Contracts of the program's calls of layer 8. -/
namespace Go.Proofs.Ytjghdbkkjhnpfaa
open Go.RowKit Go.Sort

theorem cl_id {n a b : Int} (h1 : a ≤ n) (h2 : n ≤ b) : clV n a b = n := by unfold clV; rw [if_neg (by omega), if_neg (by omega)]
theorem cl_ne {n a b : Int} (_ : a ≤ b) (h : n < a ∨ b < n) : n ≠ clV n a b := by
  unfold clV
  repeat' split
  all_goals omega
theorem say_nothing {x : Int} (h : kdV x = -1) : whV x = -1 ∧ itV x = -1 ∧ lyV x = 0 := by
  unfold whV itV lyV
  rw [h]
  exact ⟨rfl, rfl, rfl⟩
theorem say_end {x : Int} (h : kdV x = 0 ∨ kdV x = 5) : whV x = -1 ∧ itV x = -1 ∧ lyV x = 0 := by
  unfold whV itV lyV
  rcases h with h | h <;> rw [h] <;> exact ⟨rfl, rfl, rfl⟩
theorem say_thread {x : Int} (h : 1 ≤ kdV x ∧ kdV x ≤ 3) : whV x = x / 8 - 1 ∧ itV x = -1 ∧ lyV x = 0 := by
  unfold whV itV lyV
  rw [if_pos h, if_neg (by omega), if_neg (by omega)]
  exact ⟨rfl, rfl, rfl⟩
theorem say_open {x : Int} (h : kdV x = 4) : whV x = -1 ∧ itV x = (x / 8 - 1) / 16 ∧ lyV x = (x / 8 - 1) % 16 := by
  unfold whV itV lyV
  rw [h]
  exact ⟨rfl, rfl, rfl⟩

def PairPost (a b : Int) (w : World) (e : Ending) (w' : World) : Prop := e = .returned (.tuple #[.int .i64 a, .int .i64 b]) ∧ Below w.heap.size w w'
theorem open_any (i l : Int) (hi : 0 ≤ i ∧ i ≤ 3) (hl : 1 ≤ l ∧ l ≤ 3) (w : World) : Calls Try.prog 15 #[.int .i64 i, .int .i64 l] w (IntPost (opV i l) w) := by
  have c := fun w => hide (word_open (-1) i l hi hl w)
  go_enter Try.func15, Try.ntmps15
  go_wp2_with (first | (go_at_call 28; refine ((c _).out).mono ?_; rintro e w2 ⟨rfl, hb2⟩))
  go_ret
  exact ⟨rfl, hb2⟩
end Go.Proofs.Ytjghdbkkjhnpfaa
/- Contracts of the document's own calls of layer 8. -/
namespace Go.Proofs.Ytjghdbkkjhnpfaa
open Go.RowKit Go.Sort

theorem kd_first {x t k : Int} (hk : 1 ≤ k ∧ k ≤ 3) (ht : 0 ≤ t ∧ t ≤ 15) (h : x = frV k t) : kdV x = k := by rw [h]; exact (kd_fr hk ht).1

theorem kd_none {x : Int} (h0 : x ≠ 0) (h5 : x ≠ 5) (h1 : ∀ t : Int, 0 ≤ t → t ≤ 15 → x ≠ frV 1 t ∧ x ≠ frV 2 t ∧ x ≠ frV 3 t) (h2 : ∀ i l : Int, 0 ≤ i → i < 4 → 1 ≤ l → l ≤ 3 → x ≠ opV i l) : kdV x = -1 := by
  unfold kdV
  rw [if_neg h0, if_neg h5, if_neg, if_neg]
  · rintro ⟨ha, hb, hc, hd, he⟩
    refine h2 ((x / 8 - 1) / 16) ((x / 8 - 1) % 16) hb (by omega) hd he ?_
    unfold opV
    omega
  · rintro ⟨ha, hb, hc, hd⟩
    have h := h1 (x / 8 - 1) hc hd
    unfold frV at h
    omega

theorem quo8 {x : Int} (h : 0 ≤ x) : x.tdiv 8 = x / 8 := Int.tdiv_eq_ediv_of_nonneg h
end Go.Proofs.Ytjghdbkkjhnpfaa
