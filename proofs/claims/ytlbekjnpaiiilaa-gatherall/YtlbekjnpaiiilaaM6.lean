/- Texts of the elder layers in one file. -/
import Derived.Test.YtlbekjnpaiiilaaM3
import Derived.Test.YtlbekjnpaiiilaaM1
import Derived.Lib.QuietBelow
import Derived.Deep.QuietTactic
import Derived.Deep.RegionWith
import Derived.BigQuiet
/- What a word says, as plain numbers. Nothing of the program. -/
namespace Go.Proofs.Ytlbekjnpaiiilaa
open Go.RowKit

/-- The lowest bits are the rest, of numbers below 0 too. -/
theorem bits_any (x : Int) (k : Nat) (hk : k ≤ 8) : bits .and .i64 x (((2 ^ k - 1 : Nat) : Int)) = x % ((2 ^ k : Nat) : Int) := by
  rw [bits_and_def]
  have h2 : (2 : Nat) ^ k ≤ 2 ^ 8 := Nat.pow_le_pow_right (by decide) hk
  have h3 : 0 < (2 : Nat) ^ k := Nat.pow_pos (by decide)
  rw [BitVec.toNat_and, BitVec.ofInt_natCast, BitVec.toNat_ofNat, Nat.mod_eq_of_lt (a := 2 ^ k - 1) (by omega), Nat.and_two_pow_sub_one_eq_mod, BitVec.toNat_ofInt]
  have hd : ((2 ^ k : Nat) : Int) ∣ ((2 ^ 64 : Nat) : Int) := Int.natCast_dvd_natCast.2 (Nat.pow_dvd_pow 2 (by omega))
  have h0 : 0 ≤ x % ((2 ^ 64 : Nat) : Int) := Int.emod_nonneg _ (by decide)
  have h5 : (((x % ((2 ^ 64 : Nat) : Int)).toNat % 2 ^ k : Nat) : Int) = x % ((2 ^ k : Nat) : Int) := by
    rw [Int.natCast_emod, Int.toNat_of_nonneg h0, Int.emod_emod_of_dvd _ hd]
  have h4 := Int.emod_lt_of_pos x (b := ((2 ^ k : Nat) : Int)) (by omega)
  have h6 := Int.emod_nonneg x (b := ((2 ^ k : Nat) : Int)) (by omega)
  rw [h5, IntKind.wrap_i64]
  omega

/-- Kind, thread, item and layer of a word. -/
def kdV (w : Int) : Int :=
  if w = 0 then 0 else if w = 5 then 5
  else if 1 ≤ w % 8 ∧ w % 8 ≤ 3 ∧ 0 ≤ w / 8 - 1 ∧ w / 8 - 1 ≤ 15 then w % 8
  else if w % 8 = 4 ∧ 0 ≤ (w / 8 - 1) / 16 ∧ (w / 8 - 1) / 16 ≤ 3 ∧ 1 ≤ (w / 8 - 1) % 16 ∧ (w / 8 - 1) % 16 ≤ 3 then 4 else -1
def whV (w : Int) : Int := if 1 ≤ kdV w ∧ kdV w ≤ 3 then w / 8 - 1 else -1
def itV (w : Int) : Int := if kdV w = 4 then (w / 8 - 1) / 16 else -1
def lyV (w : Int) : Int := if kdV w = 4 then (w / 8 - 1) % 16 else 0

/-- What is taken apart, and the nearest that may be. -/
def clV (n a b : Int) : Int := if n < a then a else if b < n then b else n

/-- The words. -/
def opV (i l : Int) : Int := 8 * (16 * i + l + 1) + 4
def frV (k t : Int) : Int := 8 * (t + 1) + k

theorem kd_fr {k t : Int} (hk : 1 ≤ k ∧ k ≤ 3) (ht : 0 ≤ t ∧ t ≤ 15) : kdV (frV k t) = k ∧ whV (frV k t) = t := by
  have h : kdV (frV k t) = k := by
    unfold kdV frV
    rw [if_neg (by omega), if_neg (by omega), if_pos (by omega)]; omega
  refine ⟨h, ?_⟩
  unfold whV
  rw [h, if_pos (by omega)]
  unfold frV
  omega
theorem kd_op {i l : Int} (hi : 0 ≤ i ∧ i ≤ 3) (hl : 1 ≤ l ∧ l ≤ 3) : kdV (opV i l) = 4 ∧ whV (opV i l) = -1 ∧ itV (opV i l) = i ∧ lyV (opV i l) = l := by
  have h : kdV (opV i l) = 4 := by
    unfold kdV opV
    rw [if_neg (by omega), if_neg (by omega), if_neg (by omega), if_pos (by omega)]
  unfold whV itV lyV
  rw [h]
  refine ⟨rfl, rfl, ?_, ?_⟩
  · rw [if_pos rfl]; unfold opV; omega
  · rw [if_pos rfl]; unfold opV; omega
theorem kd_le (w : Int) : -1 ≤ kdV w ∧ kdV w ≤ 5 := by
  unfold kdV
  repeat' split
  all_goals omega
theorem i64_little {x : Int} (h1 : -1000000000 ≤ x) (h2 : x ≤ 1000000000) : I64 x := by unfold I64; omega
end Go.Proofs.Ytlbekjnpaiiilaa
/- Contracts of the program's small calls of layer 8: within, ofThread, nothing, word, split. -/
namespace Go.Proofs.Ytlbekjnpaiiilaa
open Go.RowKit

theorem ret_nC {a b : Int} (h : b = a) : Ending.returned (.int .i64 a) = .returned (.int .i64 b) := by rw [h]
/-- What a word says, as a value. -/
def sayV (k t i l : Int) : Value := .agg #[.int .i64 k, .int .i64 t, .int .i64 i, .int .i64 l]
def SayPost (k t i l : Int) (w : World) (e : Ending) (w' : World) : Prop := e = .returned (.agg #[.int .i64 k, .int .i64 t, .int .i64 i, .int .i64 l]) ∧ Below w.heap.size w w'
theorem ret_say {a b c d a' b' c' d' : Int} (h1 : a' = a) (h2 : b' = b) (h3 : c' = c) (h4 : d' = d) : Ending.returned (.agg #[.int .i64 a, .int .i64 b, .int .i64 c, .int .i64 d]) = .returned (.agg #[.int .i64 a', .int .i64 b', .int .i64 c', .int .i64 d']) := by rw [h1, h2, h3, h4]

theorem withinC_any (n a b : Int) (hab : a ≤ b) (w : World) : Calls Try.prog 90 #[.int .i64 n, .int .i64 a, .int .i64 b] w (fun e w' => e = .returned (.int .i64 (clV n a b)) ∧ w' = w) := by
  by_cases h1 : n < a
  · have HP : Hid (clV n a b = a) := hide (by unfold clV; rw [if_pos h1])
    by_cases h2 : b < a
    · exact absurd hab (by omega)
    · go_enter Try.func90, Try.ntmps90
      go_wp2
      go_ret
      exact ⟨ret_nC HP.out, rfl⟩
  · by_cases h2 : b < n
    · have HP : Hid (clV n a b = b) := hide (by unfold clV; rw [if_neg h1, if_pos h2])
      go_enter Try.func90, Try.ntmps90
      go_wp2
      go_ret
      exact ⟨ret_nC HP.out, rfl⟩
    · have HP : Hid (clV n a b = n) := hide (by unfold clV; rw [if_neg h1, if_neg h2])
      go_enter Try.func90, Try.ntmps90
      go_wp2
      go_ret
      exact ⟨ret_nC HP.out, rfl⟩

/-- A box that holds what a word says. -/
structure Say (w : World) (g : Nat) (a b c d : Int) : Prop where
  lt : g < w.heap.size
  c0 : w.cell? ⟨g, 0, none⟩ = some (.int .i64 a)
  c1 : w.cell? ⟨g, 1, none⟩ = some (.int .i64 b)
  c2 : w.cell? ⟨g, 2, none⟩ = some (.int .i64 c)
  c3 : w.cell? ⟨g, 3, none⟩ = some (.int .i64 d)
  f0 : w.frozen? ⟨g, 0, none⟩ = false
  f1 : w.frozen? ⟨g, 1, none⟩ = false
  f2 : w.frozen? ⟨g, 2, none⟩ = false
  f3 : w.frozen? ⟨g, 3, none⟩ = false
theorem Say.keep {w w' : World} {g : Nat} {a b c d : Int} (h : Say w g a b c d) (hb : Below w.heap.size w w') : Say w' g a b c d :=
  ⟨Nat.lt_of_lt_of_le h.lt hb.size, by rw [hb.cell h.lt]; exact h.c0, by rw [hb.cell h.lt]; exact h.c1, by rw [hb.cell h.lt]; exact h.c2, by rw [hb.cell h.lt]; exact h.c3,
   by rw [hb.frozen h.lt]; exact h.f0, by rw [hb.frozen h.lt]; exact h.f1, by rw [hb.frozen h.lt]; exact h.f2, by rw [hb.frozen h.lt]; exact h.f3⟩
theorem Say.new (w : World) (a b c d : Int) (t : TypeId) : Say (w.alloc (.cells #[.int .i64 a, .int .i64 b, .int .i64 c, .int .i64 d] t)) w.heap.size a b c d := by
  constructor <;> simp [go_sem]
theorem below_box (w : World) (a b c d : Int) (t : TypeId) : Below w.heap.size w (w.alloc (.cells #[.int .i64 a, .int .i64 b, .int .i64 c, .int .i64 d] t)) := (Below.refl _ w).alloc (Nat.le_refl _) _

theorem ofThread_any (k t : Int) (w : World) : Calls Try.prog 25 #[.int .i64 k, .int .i64 t] w (SayPost k t (-1) 0 w) := by
  go_enter Try.func25, Try.ntmps25
  go_wp2
  exact bodyPost_ret (v := .agg #[.int .i64 k, .int .i64 t, .int .i64 (-1), .int .i64 0]) (by simp [results, Try.results25, go_sem]) rfl ⟨rfl, below_box _ _ _ _ _ _⟩

theorem nothing_any (w : World) : Calls Try.prog 87 #[] w (SayPost (-1) (-1) (-1) 0 w) := by
  have HS := hide (Say.new w 0 0 0 0 77)
  have HB := hide (below_box w 0 0 0 0 77)
  go_enter Try.func87, Try.ntmps87
  go_wp2_with (first
    | (go_at_call 25; refine (ofThread_any _ _ _).mono ?_; rintro e w1 ⟨rfl, hb1⟩; obtain ⟨hlt, c0, c1, c2, c3, f0, f1, f2, f3⟩ := HS.out.keep hb1))
  refine bodyPost_ret (v := .agg #[.int .i64 (-1), .int .i64 (-1), .int .i64 (-1), .int .i64 0]) (by simp [results, Try.results87, go_sem, c0, c1, c2, c3]) rfl ⟨rfl, ?_⟩
  exact ((((below_next HB.out HB.out.size hb1).setCell (by simp) _).setCell (by simp) _).setCell (by simp) _).setCell (by simp) _

theorem below_set4 {B : Nat} {w w' : World} {g : Nat} (hg : B ≤ g) (h : Below B w w') (a b c d : Value) : Below B w ((((w'.setCell ⟨g, 0, none⟩ a).setCell ⟨g, 1, none⟩ b).setCell ⟨g, 2, none⟩ c).setCell ⟨g, 3, none⟩ d) :=
  (((h.setCell hg _).setCell hg _).setCell hg _).setCell hg _

theorem word_thread (k t i l : Int) (hk : 0 ≤ k ∧ k ≤ 5) (h4 : k ≠ 4) (ht : -1 ≤ t ∧ t ≤ 15) (w : World) : Calls Try.prog 24 #[.agg #[.int .i64 k, .int .i64 t, .int .i64 i, .int .i64 l]] w (IntPost (frV k t) w) := by
  have h4' : (k == 4) = false := beq_eq_false_iff_ne.2 h4
  go_enter Try.func24, Try.ntmps24
  go_wp2
  go_ret
  exact ⟨ret_nC (by unfold frV; omega), below_box _ _ _ _ _ _⟩

theorem word_open (t i l : Int) (hi : 0 ≤ i ∧ i ≤ 3) (hl : 1 ≤ l ∧ l ≤ 3) (w : World) : Calls Try.prog 24 #[.agg #[.int .i64 4, .int .i64 t, .int .i64 i, .int .i64 l]] w (IntPost (opV i l) w) := by
  go_enter Try.func24, Try.ntmps24
  go_wp2
  go_ret
  exact ⟨ret_nC (by unfold opV; omega), below_box _ _ _ _ _ _⟩

theorem split_thread (x k q : Int) (hx : I64 x) (hk : x % 8 = k) (hq : x / 8 - 1 = q) (h4 : k ≠ 4) (w : World) : Calls Try.prog 85 #[.int .i64 x] w (SayPost k q (-1) 0 w) := by
  have HS := hide (Say.new w 0 0 0 0 77)
  have HB := hide (below_box w 0 0 0 0 77)
  have h4' : (k == 4) = false := beq_eq_false_iff_ne.2 h4
  have hw : wrap64 (x / 8 - 1) = q := by rw [wrap64_id (by unfold I64 at *; omega)]; exact hq
  have hb8 : bits .and .i64 x 7 = k := by rw [← hk]; exact bits_any x 3 (by decide)
  clear hk hq h4
  go_enter Try.func85, Try.ntmps85
  go_wp2_with (first
    | (go_at_call 25; rw [hw]; refine (ofThread_any _ _ _).mono ?_; rintro e w1 ⟨rfl, hb1⟩; obtain ⟨hlt, c0, c1, c2, c3, f0, f1, f2, f3⟩ := HS.out.keep hb1))
  refine bodyPost_ret (v := .agg #[.int .i64 k, .int .i64 q, .int .i64 (-1), .int .i64 0]) (by simp [results, Try.results85, go_sem, c0, c1, c2, c3]) rfl ⟨rfl, ?_⟩
  exact below_set4 (by simp) (below_next HB.out HB.out.size hb1) _ _ _ _

theorem split_open (x q : Int) (hx : I64 x) (hk : x % 8 = 4) (hq : x / 8 - 1 = q) (w : World) : Calls Try.prog 85 #[.int .i64 x] w (SayPost 4 (-1) (q / 16) (q % 16) w) := by
  have hw : wrap64 (x / 8 - 1) = q := by rw [wrap64_id (by unfold I64 at *; omega)]; exact hq
  have hb8 : bits .and .i64 x 7 = 4 := by rw [← hk]; exact bits_any x 3 (by decide)
  have hb15 : bits .and .i64 q 15 = q % 16 := bits_any q 4 (by decide)
  clear hk hq
  go_enter Try.func85, Try.ntmps85
  go_wp2
  refine bodyPost_ret (v := .agg #[.int .i64 4, .int .i64 (-1), .int .i64 (q / 16), .int .i64 (q % 16)]) (by simp [results, Try.results85, go_sem, hw]) rfl ⟨rfl, below_box _ _ _ _ _ _⟩

end Go.Proofs.Ytlbekjnpaiiilaa
/- Contracts of nearest and read. -/
namespace Go.Proofs.Ytlbekjnpaiiilaa
open Go.RowKit

theorem below_box2 (w : World) (a b c d a' b' c' d' : Int) (t t' : TypeId) : Below w.heap.size w ((w.alloc (.cells #[.int .i64 a, .int .i64 b, .int .i64 c, .int .i64 d] t)).alloc (.cells #[.int .i64 a', .int .i64 b', .int .i64 c', .int .i64 d'] t')) := (below_box w a b c d t).alloc (by simp) _

theorem nearest_0 (t i l : Int) (w : World) : Calls Try.prog 86 #[.agg #[.int .i64 0, .int .i64 t, .int .i64 i, .int .i64 l]] w (SayPost 0 (-1) i l w) := by
  go_enter Try.func86, Try.ntmps86
  go_wp2
  exact bodyPost_ret (v := .agg #[.int .i64 0, .int .i64 (-1), .int .i64 i, .int .i64 l]) (by simp [results, Try.results86, go_sem]) rfl ⟨rfl, below_box2 _ _ _ _ _ _ _ _ _ _ _⟩

theorem nearest_5 (t i l : Int) (w : World) : Calls Try.prog 86 #[.agg #[.int .i64 5, .int .i64 t, .int .i64 i, .int .i64 l]] w (SayPost 5 (-1) i l w) := by
  go_enter Try.func86, Try.ntmps86
  go_wp2
  exact bodyPost_ret (v := .agg #[.int .i64 5, .int .i64 (-1), .int .i64 i, .int .i64 l]) (by simp [results, Try.results86, go_sem]) rfl ⟨rfl, below_box2 _ _ _ _ _ _ _ _ _ _ _⟩

theorem nearest_1 (t i l : Int) (w : World) : Calls Try.prog 86 #[.agg #[.int .i64 1, .int .i64 t, .int .i64 i, .int .i64 l]] w (SayPost 1 (clV t 0 15) i l w) := by
  go_enter Try.func86, Try.ntmps86
  go_wp2_with (first
    | (go_at_call 90; refine (withinC_any _ _ _ (by decide) _).mono ?_; rintro e w1 ⟨rfl, rfl⟩))
  exact bodyPost_ret (v := .agg #[.int .i64 1, .int .i64 (clV t 0 15), .int .i64 i, .int .i64 l]) (by simp [results, Try.results86, go_sem]) rfl ⟨rfl, below_box2 _ _ _ _ _ _ _ _ _ _ _⟩

theorem nearest_2 (t i l : Int) (w : World) : Calls Try.prog 86 #[.agg #[.int .i64 2, .int .i64 t, .int .i64 i, .int .i64 l]] w (SayPost 2 (clV t 0 15) i l w) := by
  go_enter Try.func86, Try.ntmps86
  go_wp2_with (first
    | (go_at_call 90; refine (withinC_any _ _ _ (by decide) _).mono ?_; rintro e w1 ⟨rfl, rfl⟩))
  exact bodyPost_ret (v := .agg #[.int .i64 2, .int .i64 (clV t 0 15), .int .i64 i, .int .i64 l]) (by simp [results, Try.results86, go_sem]) rfl ⟨rfl, below_box2 _ _ _ _ _ _ _ _ _ _ _⟩

theorem nearest_3 (t i l : Int) (w : World) : Calls Try.prog 86 #[.agg #[.int .i64 3, .int .i64 t, .int .i64 i, .int .i64 l]] w (SayPost 3 (clV t 0 15) i l w) := by
  go_enter Try.func86, Try.ntmps86
  go_wp2_with (first
    | (go_at_call 90; refine (withinC_any _ _ _ (by decide) _).mono ?_; rintro e w1 ⟨rfl, rfl⟩))
  exact bodyPost_ret (v := .agg #[.int .i64 3, .int .i64 (clV t 0 15), .int .i64 i, .int .i64 l]) (by simp [results, Try.results86, go_sem]) rfl ⟨rfl, below_box2 _ _ _ _ _ _ _ _ _ _ _⟩

theorem nearest_4 (t i l : Int) (w : World) : Calls Try.prog 86 #[.agg #[.int .i64 4, .int .i64 t, .int .i64 i, .int .i64 l]] w (SayPost 4 t (clV i 0 3) (clV l 1 3) w) := by
  go_enter Try.func86, Try.ntmps86
  go_wp2_with (first
    | (go_at_call 90; refine (withinC_any _ _ _ (by decide) _).mono ?_; rintro e w1 ⟨rfl, rfl⟩))
  exact bodyPost_ret (v := .agg #[.int .i64 4, .int .i64 t, .int .i64 (clV i 0 3), .int .i64 (clV l 1 3)]) (by simp [results, Try.results86, go_sem]) rfl ⟨rfl, below_box2 _ _ _ _ _ _ _ _ _ _ _⟩

theorem nearest_6 (t i l : Int) (w : World) : Calls Try.prog 86 #[.agg #[.int .i64 6, .int .i64 t, .int .i64 i, .int .i64 l]] w (SayPost (-1) (-1) (-1) 0 w) := by
  have HS := hide (Say.new (w.alloc (.cells #[.int .i64 6, .int .i64 t, .int .i64 i, .int .i64 l] 77)) 0 0 0 0 77)
  have HB := hide (below_box2 w 6 t i l 0 0 0 0 77 77)
  go_enter Try.func86, Try.ntmps86
  go_wp2_with (first
    | (go_at_call 87; refine (nothing_any _).mono ?_; rintro e w1 ⟨rfl, hb1⟩; obtain ⟨hlt, c0, c1, c2, c3, f0, f1, f2, f3⟩ := HS.out.keep hb1; simp at c0 c1 c2 c3 f0 f1 f2 f3))
  refine bodyPost_ret (v := .agg #[.int .i64 (-1), .int .i64 (-1), .int .i64 (-1), .int .i64 0]) (by simp [results, Try.results86, go_sem, c0, c1, c2, c3]) rfl ⟨rfl, ?_⟩
  exact below_set4 (by simp) (below_next HB.out HB.out.size hb1) _ _ _ _

theorem nearest_7 (t i l : Int) (w : World) : Calls Try.prog 86 #[.agg #[.int .i64 7, .int .i64 t, .int .i64 i, .int .i64 l]] w (SayPost (-1) (-1) (-1) 0 w) := by
  have HS := hide (Say.new (w.alloc (.cells #[.int .i64 7, .int .i64 t, .int .i64 i, .int .i64 l] 77)) 0 0 0 0 77)
  have HB := hide (below_box2 w 7 t i l 0 0 0 0 77 77)
  go_enter Try.func86, Try.ntmps86
  go_wp2_with (first
    | (go_at_call 87; refine (nothing_any _).mono ?_; rintro e w1 ⟨rfl, hb1⟩; obtain ⟨hlt, c0, c1, c2, c3, f0, f1, f2, f3⟩ := HS.out.keep hb1; simp at c0 c1 c2 c3 f0 f1 f2 f3))
  refine bodyPost_ret (v := .agg #[.int .i64 (-1), .int .i64 (-1), .int .i64 (-1), .int .i64 0]) (by simp [results, Try.results86, go_sem, c0, c1, c2, c3]) rfl ⟨rfl, ?_⟩
  exact below_set4 (by simp) (below_next HB.out HB.out.size hb1) _ _ _ _

end Go.Proofs.Ytlbekjnpaiiilaa
/- The contract of read. -/
namespace Go.Proofs.Ytlbekjnpaiiilaa
open Go.RowKit Go.Sort

set_option maxHeartbeats 400000 in
theorem read_same (x k t i l : Int) (c1 : ∀ w, Calls Try.prog 85 #[.int .i64 x] w (SayPost k t i l w))
    (c2 : ∀ w, Calls Try.prog 86 #[.agg #[.int .i64 k, .int .i64 t, .int .i64 i, .int .i64 l]] w (SayPost k t i l w)) (w : World) :
    Calls Try.prog 75 #[.int .i64 x] w (SayPost k t i l w) := by
  have HS := hide (Say.new w 0 0 0 0 77)
  have HB := hide (below_box w 0 0 0 0 77)
  have c1 := fun w => hide (c1 w)
  have c2 := fun w => hide (c2 w)
  go_enter Try.func75, Try.ntmps75
  go_wp2_with (first
    | (go_at_call 85; refine ((c1 _).out).mono ?_; rintro e w1 ⟨rfl, hb1⟩))
  have HR := hide (Say.new w1 k t i l 77)
  have hBr := below_next HB.out HB.out.size (below_next hb1 hb1.size (below_box w1 k t i l 77))
  have HS1 := hide ((HS.out.keep hb1).keep (below_box w1 k t i l 77))
  clear HS HB hb1 c1
  generalize w1.heap.size = g at *
  generalize (w1.alloc (.cells #[.int .i64 k, .int .i64 t, .int .i64 i, .int .i64 l] 77)) = wr at *
  obtain ⟨hlt, r0, r1, r2, r3, _, _, _, _⟩ := HR.out
  have q0 := cell_regrown r0
  have q1 := cell_regrown r1
  have q2 := cell_regrown r2
  have q3 := cell_regrown r3
  have Q1 := hide (fun d os => Calls.regrown_of (w := wr) ((c2 (grow (redrawn wr d) os)).out))
  clear c2 r0 r1 r2 r3
  refine wp_region_quiet_below (by kernel_rfl) (by kernel_rfl) ?_
  repeat (go_big_quiet_step (first | (go_at_call 86; exact Q1.out _ _)))
  refine wpQuiet_nil ?_
  intro _ hw'
  obtain ⟨⟨dq, osq⟩, hw''⟩ := hw'
  subst hw''
  have HR2 := hide (HR.out.keep (below_regrown wr dq osq))
  have HS2 := hide (HS1.out.keep (below_regrown wr dq osq))
  have hBn := below_next hBr hBr.size (below_regrown wr dq osq)
  generalize grow (redrawn wr dq) osq = wq at *
  obtain ⟨_, r0, r1, r2, r3, _, _, _, _⟩ := HR2.out
  obtain ⟨_, s0, s1, s2, s3, f0, f1, f2, f3⟩ := HS2.out
  go_wp2
  refine bodyPost_ret (v := .agg #[.int .i64 k, .int .i64 t, .int .i64 i, .int .i64 l]) (by simp [results, Try.results75, go_sem, s0, s1, s2, s3]) rfl ⟨rfl, ?_⟩
  exact below_set4 (Nat.le_refl _) hBn _ _ _ _

theorem neq_say (k t i l k' t' i' l' : Int) (hne : ¬(k = k' ∧ t = t' ∧ i = i' ∧ l = l')) (u : World) : (binOp .neq 77 (.agg #[.int .i64 k, .int .i64 t, .int .i64 i, .int .i64 l]) (.agg #[.int .i64 k', .int .i64 t', .int .i64 i', .int .i64 l'])).run Try.prog u = .ok (.bool true) u := by
  by_cases h1 : k = k'
  · by_cases h2 : t = t'
    · by_cases h3 : i = i'
      · by_cases h4 : l = l'
        · exact absurd ⟨h1, h2, h3, h4⟩ hne
        · simp [go_sem, h1, h2, h3, h4]
      · simp [go_sem, h1, h2, h3]
    · simp [go_sem, h1, h2]
  · simp [go_sem, h1]
set_option maxHeartbeats 400000 in
theorem read_other (x k t i l k' t' i' l' : Int) (hne : ¬(k = k' ∧ t = t' ∧ i = i' ∧ l = l')) (c1 : ∀ w, Calls Try.prog 85 #[.int .i64 x] w (SayPost k t i l w))
    (c2 : ∀ w, Calls Try.prog 86 #[.agg #[.int .i64 k, .int .i64 t, .int .i64 i, .int .i64 l]] w (SayPost k' t' i' l' w)) (w : World) :
    Calls Try.prog 75 #[.int .i64 x] w (SayPost (-1) (-1) (-1) 0 w) := by
  have HS := hide (Say.new w 0 0 0 0 77)
  have HB := hide (below_box w 0 0 0 0 77)
  have he := neq_say k t i l k' t' i' l' hne
  clear hne
  have c1 := fun w => hide (c1 w)
  have c2 := fun w => hide (c2 w)
  go_enter Try.func75, Try.ntmps75
  go_wp2_with (first
    | (go_at_call 85; refine ((c1 _).out).mono ?_; rintro e w1 ⟨rfl, hb1⟩))
  have HR := hide (Say.new w1 k t i l 77)
  have hBr := below_next HB.out HB.out.size (below_next hb1 hb1.size (below_box w1 k t i l 77))
  have HS1 := hide ((HS.out.keep hb1).keep (below_box w1 k t i l 77))
  clear HS HB hb1 c1
  generalize w1.heap.size = g at *
  generalize (w1.alloc (.cells #[.int .i64 k, .int .i64 t, .int .i64 i, .int .i64 l] 77)) = wr at *
  obtain ⟨hlt, r0, r1, r2, r3, _, _, _, _⟩ := HR.out
  have q0 := cell_regrown r0
  have q1 := cell_regrown r1
  have q2 := cell_regrown r2
  have q3 := cell_regrown r3
  have Q1 := hide (fun d os => Calls.regrown_of (w := wr) ((c2 (grow (redrawn wr d) os)).out))
  clear c2 r0 r1 r2 r3
  refine wp_region_quiet_below (by kernel_rfl) (by kernel_rfl) ?_
  repeat (go_big_quiet_step (first | (go_at_call 86; exact Q1.out _ _)))
  refine wpQuiet_nil ?_
  intro _ hw'
  obtain ⟨⟨dq, osq⟩, hw''⟩ := hw'
  subst hw''
  have HS2 := hide (HS1.out.keep (below_regrown wr dq osq))
  have hBn := below_next hBr hBr.size (below_regrown wr dq osq)
  generalize grow (redrawn wr dq) osq = wq at *
  go_wp2_with (first
    | (go_at_call 87; refine (nothing_any _).mono ?_; rintro e w2 ⟨rfl, hb2⟩; obtain ⟨_, s0, s1, s2, s3, f0, f1, f2, f3⟩ := HS2.out.keep hb2))
  refine bodyPost_ret (v := .agg #[.int .i64 (-1), .int .i64 (-1), .int .i64 (-1), .int .i64 0]) (by simp [results, Try.results75, go_sem, s0, s1, s2, s3]) rfl ⟨rfl, ?_⟩
  exact below_set4 (Nat.le_refl _) (below_next hBn hBn.size hb2) _ _ _ _
end Go.Proofs.Ytlbekjnpaiiilaa
/- Contracts of the program's calls of layer 8. -/
namespace Go.Proofs.Ytlbekjnpaiiilaa
open Go.RowKit Go.Sort

theorem cl_id {n a b : Int} (h1 : a ≤ n) (h2 : n ≤ b) : clV n a b = n := by unfold clV; rw [if_neg (by omega), if_neg (by omega)]
theorem cl_ne {n a b : Int} (_ : a ≤ b) (h : n < a ∨ b < n) : n ≠ clV n a b := by
  unfold clV
  repeat' split
  all_goals omega
theorem say_nothing {x : Int} (h : kdV x = -1) : whV x = -1 ∧ itV x = -1 ∧ lyV x = 0 := by
  unfold whV itV lyV
  rw [h]
  exact ⟨rfl, rfl, rfl⟩
theorem say_end {x : Int} (h : kdV x = 0 ∨ kdV x = 5) : whV x = -1 ∧ itV x = -1 ∧ lyV x = 0 := by
  unfold whV itV lyV
  rcases h with h | h <;> rw [h] <;> exact ⟨rfl, rfl, rfl⟩
theorem say_thread {x : Int} (h : 1 ≤ kdV x ∧ kdV x ≤ 3) : whV x = x / 8 - 1 ∧ itV x = -1 ∧ lyV x = 0 := by
  unfold whV itV lyV
  rw [if_pos h, if_neg (by omega), if_neg (by omega)]
  exact ⟨rfl, rfl, rfl⟩
theorem say_open {x : Int} (h : kdV x = 4) : whV x = -1 ∧ itV x = (x / 8 - 1) / 16 ∧ lyV x = (x / 8 - 1) % 16 := by
  unfold whV itV lyV
  rw [h]
  exact ⟨rfl, rfl, rfl⟩

theorem read_none (x k t i l k' t' i' l' : Int) (hne : ¬(k = k' ∧ t = t' ∧ i = i' ∧ l = l')) (hk : kdV x = -1) (c1 : ∀ w, Calls Try.prog 85 #[.int .i64 x] w (SayPost k t i l w))
    (c2 : ∀ w, Calls Try.prog 86 #[.agg #[.int .i64 k, .int .i64 t, .int .i64 i, .int .i64 l]] w (SayPost k' t' i' l' w)) (w : World) :
    Calls Try.prog 75 #[.int .i64 x] w (SayPost (kdV x) (whV x) (itV x) (lyV x) w) := by
  obtain ⟨h1, h2, h3⟩ := say_nothing hk
  rw [hk, h1, h2, h3]
  exact read_other x k t i l k' t' i' l' hne c1 c2 w

theorem read_any (x : Int) (hx : I64 x) (w : World) : Calls Try.prog 75 #[.int .i64 x] w (SayPost (kdV x) (whV x) (itV x) (lyV x) w) := by
  obtain ⟨q, hq⟩ : ∃ q, x / 8 - 1 = q := ⟨_, rfl⟩
  have hr : x % 8 = 0 ∨ x % 8 = 1 ∨ x % 8 = 2 ∨ x % 8 = 3 ∨ x % 8 = 4 ∨ x % 8 = 5 ∨ x % 8 = 6 ∨ x % 8 = 7 := by omega
  have ends : ∀ k : Int, (∀ t i l w, Calls Try.prog 86 #[.agg #[.int .i64 k, .int .i64 t, .int .i64 i, .int .i64 l]] w (SayPost k (-1) i l w)) → (k = 0 ∨ k = 5) → x % 8 = k → Calls Try.prog 75 #[.int .i64 x] w (SayPost (kdV x) (whV x) (itV x) (lyV x) w) := by
    intro k hc hk hr
    by_cases h : q = -1
    · have hkd : kdV x = k := by
        rcases hk with rfl | rfl
        · obtain rfl : x = 0 := by omega
          rfl
        · obtain rfl : x = 5 := by omega
          rfl
      obtain ⟨h1, h2, h3⟩ := say_end (by rw [hkd]; exact hk)
      rw [hkd, h1, h2, h3]
      subst h
      exact read_same x k (-1) (-1) 0 (split_thread x k (-1) hx hr hq (by omega)) (hc _ _ _) w
    · have hkd : kdV x = -1 := by
        unfold kdV
        rw [if_neg (by omega), if_neg (by omega), if_neg (by omega), if_neg (by omega)]
      exact read_none x k q (-1) 0 k (-1) (-1) 0 (by omega) hkd (split_thread x k q hx hr hq (by omega)) (hc _ _ _) w
  have threads : ∀ k : Int, (∀ t i l w, Calls Try.prog 86 #[.agg #[.int .i64 k, .int .i64 t, .int .i64 i, .int .i64 l]] w (SayPost k (clV t 0 15) i l w)) → (1 ≤ k ∧ k ≤ 3) → x % 8 = k → Calls Try.prog 75 #[.int .i64 x] w (SayPost (kdV x) (whV x) (itV x) (lyV x) w) := by
    intro k hc hk hr
    by_cases h : 0 ≤ q ∧ q ≤ 15
    · have hkd : kdV x = k := by
        unfold kdV
        rw [if_neg (by omega), if_neg (by omega), if_pos (by omega)]
        exact hr
      obtain ⟨h1, h2, h3⟩ := say_thread (by rw [hkd]; exact hk)
      rw [hkd, h1, h2, h3, hq]
      have c2 := hc q (-1) 0
      rw [cl_id h.1 h.2] at c2
      exact read_same x k q (-1) 0 (split_thread x k q hx hr hq (by omega)) c2 w
    · have hkd : kdV x = -1 := by
        unfold kdV
        rw [if_neg (by omega), if_neg (by omega), if_neg (by omega), if_neg (by omega)]
      exact read_none x k q (-1) 0 k (clV q 0 15) (-1) 0 (fun hh => cl_ne (by omega) (by omega) hh.2.1) hkd (split_thread x k q hx hr hq (by omega)) (hc _ _ _) w
  have nones : ∀ k : Int, (∀ t i l w, Calls Try.prog 86 #[.agg #[.int .i64 k, .int .i64 t, .int .i64 i, .int .i64 l]] w (SayPost (-1) (-1) (-1) 0 w)) → (6 ≤ k ∧ k ≤ 7) → x % 8 = k → Calls Try.prog 75 #[.int .i64 x] w (SayPost (kdV x) (whV x) (itV x) (lyV x) w) := by
    intro k hc hk hr
    have hkd : kdV x = -1 := by
      unfold kdV
      rw [if_neg (by omega), if_neg (by omega), if_neg (by omega), if_neg (by omega)]
    exact read_none x k q (-1) 0 (-1) (-1) (-1) 0 (by omega) hkd (split_thread x k q hx hr hq (by omega)) (hc _ _ _) w
  rcases hr with hr | hr | hr | hr | hr | hr | hr | hr
  · exact ends 0 nearest_0 (by omega) hr
  · exact threads 1 nearest_1 (by omega) hr
  · exact threads 2 nearest_2 (by omega) hr
  · exact threads 3 nearest_3 (by omega) hr
  · by_cases h : 0 ≤ q / 16 ∧ q / 16 ≤ 3 ∧ 1 ≤ q % 16 ∧ q % 16 ≤ 3
    · have hkd : kdV x = 4 := by
        unfold kdV
        rw [if_neg (by omega), if_neg (by omega), if_neg (by omega), if_pos (by omega)]
      obtain ⟨h1, h2, h3⟩ := say_open hkd
      rw [hkd, h1, h2, h3, hq]
      have c2 := nearest_4 (-1) (q / 16) (q % 16)
      rw [cl_id h.1 h.2.1, cl_id h.2.2.1 h.2.2.2] at c2
      exact read_same x 4 (-1) (q / 16) (q % 16) (split_open x q hx hr hq) c2 w
    · have hkd : kdV x = -1 := by
        unfold kdV
        rw [if_neg (by omega), if_neg (by omega), if_neg (by omega), if_neg (by omega)]
      refine read_none x 4 (-1) (q / 16) (q % 16) 4 (-1) (clV (q / 16) 0 3) (clV (q % 16) 1 3) (fun hh => ?_) hkd (split_open x q hx hr hq) (nearest_4 _ _ _) w
      by_cases h5 : 0 ≤ q / 16 ∧ q / 16 ≤ 3
      · exact cl_ne (by omega) (by omega) hh.2.2.2
      · exact cl_ne (by omega) (by omega) hh.2.2.1
  · exact ends 5 nearest_5 (by omega) hr
  · exact nones 6 nearest_6 (by omega) hr
  · exact nones 7 nearest_7 (by omega) hr

theorem kind_any (x : Int) (hx : I64 x) (w : World) : Calls Try.prog 58 #[.int .i64 x] w (IntPost (kdV x) w) := by
  have c := fun w => hide (read_any x hx w)
  have hf : ∀ u : World, (Instr.field 77 (.agg #[.int .i64 (kdV x), .int .i64 (whV x), .int .i64 (itV x), .int .i64 (lyV x)]) 0).run Try.prog u = .ok (.int .i64 (kdV x)) u := fun _ => by simp [Instr.field, asAgg, go_sem]
  go_enter Try.func58, Try.ntmps58
  go_wp2_with (first | (go_at_call 75; refine ((c _).out).mono ?_; rintro e w1 ⟨rfl, hb1⟩))
  go_ret
  exact ⟨rfl, hb1⟩
theorem who_any (x : Int) (hx : I64 x) (w : World) : Calls Try.prog 59 #[.int .i64 x] w (IntPost (whV x) w) := by
  have c := fun w => hide (read_any x hx w)
  have hf : ∀ u : World, (Instr.field 77 (.agg #[.int .i64 (kdV x), .int .i64 (whV x), .int .i64 (itV x), .int .i64 (lyV x)]) 1).run Try.prog u = .ok (.int .i64 (whV x)) u := fun _ => by simp [Instr.field, asAgg, go_sem]
  go_enter Try.func59, Try.ntmps59
  go_wp2_with (first | (go_at_call 75; refine ((c _).out).mono ?_; rintro e w1 ⟨rfl, hb1⟩))
  go_ret
  exact ⟨rfl, hb1⟩
def PairPost (a b : Int) (w : World) (e : Ending) (w' : World) : Prop := e = .returned (.tuple #[.int .i64 a, .int .i64 b]) ∧ Below w.heap.size w w'
theorem first_any (t : Int) (ht : 0 ≤ t ∧ t ≤ 15) (w : World) : Calls Try.prog 12 #[.int .i64 t] w (IntPost (frV 1 t) w) := by
  have c := fun w => hide (word_thread 1 t (-1) 0 (by omega) (by omega) (by omega) w)
  go_enter Try.func12, Try.ntmps12
  go_wp2_with (first | (go_at_call 25; refine (ofThread_any _ _ _).mono ?_; rintro e w1 ⟨rfl, hb1⟩) | (go_at_call 24; refine ((c _).out).mono ?_; rintro e w2 ⟨rfl, hb2⟩))
  go_ret
  exact ⟨rfl, below_next hb1 hb1.size hb2⟩
theorem joined_any (t : Int) (ht : 0 ≤ t ∧ t ≤ 15) (w : World) : Calls Try.prog 16 #[.int .i64 t] w (IntPost (frV 2 t) w) := by
  have c := fun w => hide (word_thread 2 t (-1) 0 (by omega) (by omega) (by omega) w)
  go_enter Try.func16, Try.ntmps16
  go_wp2_with (first | (go_at_call 25; refine (ofThread_any _ _ _).mono ?_; rintro e w1 ⟨rfl, hb1⟩) | (go_at_call 24; refine ((c _).out).mono ?_; rintro e w2 ⟨rfl, hb2⟩))
  go_ret
  exact ⟨rfl, below_next hb1 hb1.size hb2⟩
theorem deposited_any (t : Int) (ht : 0 ≤ t ∧ t ≤ 15) (w : World) : Calls Try.prog 13 #[.int .i64 t] w (IntPost (frV 3 t) w) := by
  have c := fun w => hide (word_thread 3 t (-1) 0 (by omega) (by omega) (by omega) w)
  go_enter Try.func13, Try.ntmps13
  go_wp2_with (first | (go_at_call 25; refine (ofThread_any _ _ _).mono ?_; rintro e w1 ⟨rfl, hb1⟩) | (go_at_call 24; refine ((c _).out).mono ?_; rintro e w2 ⟨rfl, hb2⟩))
  go_ret
  exact ⟨rfl, below_next hb1 hb1.size hb2⟩
end Go.Proofs.Ytlbekjnpaiiilaa
/- Contracts of the document's own calls of layer 8. -/
namespace Go.Proofs.Ytlbekjnpaiiilaa
open Go.RowKit Go.Sort

theorem kd_first {x t k : Int} (hk : 1 ≤ k ∧ k ≤ 3) (ht : 0 ≤ t ∧ t ≤ 15) (h : x = frV k t) : kdV x = k := by rw [h]; exact (kd_fr hk ht).1

theorem kd_none {x : Int} (h0 : x ≠ 0) (h5 : x ≠ 5) (h1 : ∀ t : Int, 0 ≤ t → t ≤ 15 → x ≠ frV 1 t ∧ x ≠ frV 2 t ∧ x ≠ frV 3 t) (h2 : ∀ i l : Int, 0 ≤ i → i < 4 → 1 ≤ l → l ≤ 3 → x ≠ opV i l) : kdV x = -1 := by
  unfold kdV
  rw [if_neg h0, if_neg h5, if_neg, if_neg]
  · rintro ⟨ha, hb, hc, hd, he⟩
    refine h2 ((x / 8 - 1) / 16) ((x / 8 - 1) % 16) hb (by omega) hd he ?_
    unfold opV
    omega
  · rintro ⟨ha, hb, hc, hd⟩
    have h := h1 (x / 8 - 1) hc hd
    unfold frV at h
    omega

theorem quo8 {x : Int} (h : 0 ≤ x) : x.tdiv 8 = x / 8 := Int.tdiv_eq_ediv_of_nonneg h
end Go.Proofs.Ytlbekjnpaiiilaa
