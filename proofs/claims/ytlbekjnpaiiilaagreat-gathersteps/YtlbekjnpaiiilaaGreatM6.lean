/- Texts of the elder layers in one file. -/
import Derived.Test.YtlbekjnpaiiilaaGreatM3
import Derived.Test.YtlbekjnpaiiilaaGreatM1
import Derived.Lib.QuietBelow
import Derived.Deep.QuietTactic
import Derived.Deep.RegionWith
import Derived.BigQuiet
/- What a word says, as plain numbers. Nothing of the program. -/
namespace Go.Proofs.YtlbekjnpaiiilaaGreat
open Go.RowKit

/-- The lowest bits are the rest, of numbers below 0 too. -/
theorem bits_any (x : Int) (k : Nat) (hk : k ≤ 8) : bits .and .i64 x (((2 ^ k - 1 : Nat) : Int)) = x % ((2 ^ k : Nat) : Int) := by
  rw [bits_and_def]
  have h2 : (2 : Nat) ^ k ≤ 2 ^ 8 := Nat.pow_le_pow_right (by decide) hk
  have h3 : 0 < (2 : Nat) ^ k := Nat.pow_pos (by decide)
  rw [BitVec.toNat_and, BitVec.ofInt_natCast, BitVec.toNat_ofNat, Nat.mod_eq_of_lt (a := 2 ^ k - 1) (by omega), Nat.and_two_pow_sub_one_eq_mod, BitVec.toNat_ofInt]
  have hd : ((2 ^ k : Nat) : Int) ∣ ((2 ^ 64 : Nat) : Int) := Int.natCast_dvd_natCast.2 (Nat.pow_dvd_pow 2 (by omega))
  have h0 : 0 ≤ x % ((2 ^ 64 : Nat) : Int) := Int.emod_nonneg _ (by decide)
  have h5 : (((x % ((2 ^ 64 : Nat) : Int)).toNat % 2 ^ k : Nat) : Int) = x % ((2 ^ k : Nat) : Int) := by
    rw [Int.natCast_emod, Int.toNat_of_nonneg h0, Int.emod_emod_of_dvd _ hd]
  have h4 := Int.emod_lt_of_pos x (b := ((2 ^ k : Nat) : Int)) (by omega)
  have h6 := Int.emod_nonneg x (b := ((2 ^ k : Nat) : Int)) (by omega)
  rw [h5, IntKind.wrap_i64]
  omega

/-- Kind, thread, item and layer of a word. -/
def kdV (w : Int) : Int :=
  if w = 0 then 0 else if w = 5 then 5
  else if 1 ≤ w % 8 ∧ w % 8 ≤ 3 ∧ 0 ≤ w / 8 - 1 ∧ w / 8 - 1 ≤ 15 then w % 8
  else if w % 8 = 4 ∧ 0 ≤ (w / 8 - 1) / 16 ∧ (w / 8 - 1) / 16 ≤ 3 ∧ 1 ≤ (w / 8 - 1) % 16 ∧ (w / 8 - 1) % 16 ≤ 3 then 4 else -1
def whV (w : Int) : Int := if 1 ≤ kdV w ∧ kdV w ≤ 3 then w / 8 - 1 else -1
def itV (w : Int) : Int := if kdV w = 4 then (w / 8 - 1) / 16 else -1
def lyV (w : Int) : Int := if kdV w = 4 then (w / 8 - 1) % 16 else 0

/-- What is taken apart, and the nearest that may be. -/
def clV (n a b : Int) : Int := if n < a then a else if b < n then b else n

/-- The words. -/
def opV (i l : Int) : Int := 8 * (16 * i + l + 1) + 4
def frV (k t : Int) : Int := 8 * (t + 1) + k

theorem kd_fr {k t : Int} (hk : 1 ≤ k ∧ k ≤ 3) (ht : 0 ≤ t ∧ t ≤ 15) : kdV (frV k t) = k ∧ whV (frV k t) = t := by
  have h : kdV (frV k t) = k := by
    unfold kdV frV
    rw [if_neg (by omega), if_neg (by omega), if_pos (by omega)]; omega
  refine ⟨h, ?_⟩
  unfold whV
  rw [h, if_pos (by omega)]
  unfold frV
  omega
theorem kd_op {i l : Int} (hi : 0 ≤ i ∧ i ≤ 3) (hl : 1 ≤ l ∧ l ≤ 3) : kdV (opV i l) = 4 ∧ whV (opV i l) = -1 ∧ itV (opV i l) = i ∧ lyV (opV i l) = l := by
  have h : kdV (opV i l) = 4 := by
    unfold kdV opV
    rw [if_neg (by omega), if_neg (by omega), if_neg (by omega), if_pos (by omega)]
  unfold whV itV lyV
  rw [h]
  refine ⟨rfl, rfl, ?_, ?_⟩
  · rw [if_pos rfl]; unfold opV; omega
  · rw [if_pos rfl]; unfold opV; omega
theorem kd_le (w : Int) : -1 ≤ kdV w ∧ kdV w ≤ 5 := by
  unfold kdV
  repeat' split
  all_goals omega
theorem i64_little {x : Int} (h1 : -1000000000 ≤ x) (h2 : x ≤ 1000000000) : I64 x := by unfold I64; omega
end Go.Proofs.YtlbekjnpaiiilaaGreat
/- Contracts of the program's small calls of layer 8: within, ofThread, nothing, word, split. -/
namespace Go.Proofs.YtlbekjnpaiiilaaGreat
open Go.RowKit

theorem ret_nC {a b : Int} (h : b = a) : Ending.returned (.int .i64 a) = .returned (.int .i64 b) := by rw [h]
/-- What a word says, as a value. -/
def sayV (k t i l : Int) : Value := .agg #[.int .i64 k, .int .i64 t, .int .i64 i, .int .i64 l]
def SayPost (k t i l : Int) (w : World) (e : Ending) (w' : World) : Prop := e = .returned (.agg #[.int .i64 k, .int .i64 t, .int .i64 i, .int .i64 l]) ∧ Below w.heap.size w w'
theorem ret_say {a b c d a' b' c' d' : Int} (h1 : a' = a) (h2 : b' = b) (h3 : c' = c) (h4 : d' = d) : Ending.returned (.agg #[.int .i64 a, .int .i64 b, .int .i64 c, .int .i64 d]) = .returned (.agg #[.int .i64 a', .int .i64 b', .int .i64 c', .int .i64 d']) := by rw [h1, h2, h3, h4]

theorem withinC_any (n a b : Int) (hab : a ≤ b) (w : World) : Calls Tryz.prog 106 #[.int .i64 n, .int .i64 a, .int .i64 b] w (fun e w' => e = .returned (.int .i64 (clV n a b)) ∧ w' = w) := by
  by_cases h1 : n < a
  · have HP : Hid (clV n a b = a) := hide (by unfold clV; rw [if_pos h1])
    by_cases h2 : b < a
    · exact absurd hab (by omega)
    · go_enter Tryz.func106, Tryz.ntmps106
      go_wp2
      go_ret
      exact ⟨ret_nC HP.out, rfl⟩
  · by_cases h2 : b < n
    · have HP : Hid (clV n a b = b) := hide (by unfold clV; rw [if_neg h1, if_pos h2])
      go_enter Tryz.func106, Tryz.ntmps106
      go_wp2
      go_ret
      exact ⟨ret_nC HP.out, rfl⟩
    · have HP : Hid (clV n a b = n) := hide (by unfold clV; rw [if_neg h1, if_neg h2])
      go_enter Tryz.func106, Tryz.ntmps106
      go_wp2
      go_ret
      exact ⟨ret_nC HP.out, rfl⟩

/-- A box that holds what a word says. -/
structure Say (w : World) (g : Nat) (a b c d : Int) : Prop where
  lt : g < w.heap.size
  c0 : w.cell? ⟨g, 0, none⟩ = some (.int .i64 a)
  c1 : w.cell? ⟨g, 1, none⟩ = some (.int .i64 b)
  c2 : w.cell? ⟨g, 2, none⟩ = some (.int .i64 c)
  c3 : w.cell? ⟨g, 3, none⟩ = some (.int .i64 d)
  f0 : w.frozen? ⟨g, 0, none⟩ = false
  f1 : w.frozen? ⟨g, 1, none⟩ = false
  f2 : w.frozen? ⟨g, 2, none⟩ = false
  f3 : w.frozen? ⟨g, 3, none⟩ = false
theorem Say.keep {w w' : World} {g : Nat} {a b c d : Int} (h : Say w g a b c d) (hb : Below w.heap.size w w') : Say w' g a b c d :=
  ⟨Nat.lt_of_lt_of_le h.lt hb.size, by rw [hb.cell h.lt]; exact h.c0, by rw [hb.cell h.lt]; exact h.c1, by rw [hb.cell h.lt]; exact h.c2, by rw [hb.cell h.lt]; exact h.c3,
   by rw [hb.frozen h.lt]; exact h.f0, by rw [hb.frozen h.lt]; exact h.f1, by rw [hb.frozen h.lt]; exact h.f2, by rw [hb.frozen h.lt]; exact h.f3⟩
theorem Say.new (w : World) (a b c d : Int) (t : TypeId) : Say (w.alloc (.cells #[.int .i64 a, .int .i64 b, .int .i64 c, .int .i64 d] t)) w.heap.size a b c d := by
  constructor <;> simp [go_sem]
theorem below_box (w : World) (a b c d : Int) (t : TypeId) : Below w.heap.size w (w.alloc (.cells #[.int .i64 a, .int .i64 b, .int .i64 c, .int .i64 d] t)) := (Below.refl _ w).alloc (Nat.le_refl _) _

theorem ofThread_any (k t : Int) (w : World) : Calls Tryz.prog 47 #[.int .i64 k, .int .i64 t] w (SayPost k t (-1) 0 w) := by
  go_enter Tryz.func47, Tryz.ntmps47
  go_wp2
  exact bodyPost_ret (v := .agg #[.int .i64 k, .int .i64 t, .int .i64 (-1), .int .i64 0]) (by simp [results, Tryz.results47, go_sem]) rfl ⟨rfl, below_box _ _ _ _ _ _⟩

theorem nothing_any (w : World) : Calls Tryz.prog 105 #[] w (SayPost (-1) (-1) (-1) 0 w) := by
  have HS := hide (Say.new w 0 0 0 0 108)
  have HB := hide (below_box w 0 0 0 0 108)
  go_enter Tryz.func105, Tryz.ntmps105
  go_wp2_with (first
    | (go_at_call 47; refine (ofThread_any _ _ _).mono ?_; rintro e w1 ⟨rfl, hb1⟩; obtain ⟨hlt, c0, c1, c2, c3, f0, f1, f2, f3⟩ := HS.out.keep hb1))
  refine bodyPost_ret (v := .agg #[.int .i64 (-1), .int .i64 (-1), .int .i64 (-1), .int .i64 0]) (by simp [results, Tryz.results105, go_sem, c0, c1, c2, c3]) rfl ⟨rfl, ?_⟩
  exact ((((below_next HB.out HB.out.size hb1).setCell (by simp) _).setCell (by simp) _).setCell (by simp) _).setCell (by simp) _

theorem below_set4 {B : Nat} {w w' : World} {g : Nat} (hg : B ≤ g) (h : Below B w w') (a b c d : Value) : Below B w ((((w'.setCell ⟨g, 0, none⟩ a).setCell ⟨g, 1, none⟩ b).setCell ⟨g, 2, none⟩ c).setCell ⟨g, 3, none⟩ d) :=
  (((h.setCell hg _).setCell hg _).setCell hg _).setCell hg _

theorem word_thread (k t i l : Int) (hk : 0 ≤ k ∧ k ≤ 5) (h4 : k ≠ 4) (ht : -1 ≤ t ∧ t ≤ 15) (w : World) : Calls Tryz.prog 46 #[.agg #[.int .i64 k, .int .i64 t, .int .i64 i, .int .i64 l]] w (IntPost (frV k t) w) := by
  have h4' : (k == 4) = false := beq_eq_false_iff_ne.2 h4
  go_enter Tryz.func46, Tryz.ntmps46
  go_wp2
  go_ret
  exact ⟨ret_nC (by unfold frV; omega), below_box _ _ _ _ _ _⟩

theorem word_open (t i l : Int) (hi : 0 ≤ i ∧ i ≤ 3) (hl : 1 ≤ l ∧ l ≤ 3) (w : World) : Calls Tryz.prog 46 #[.agg #[.int .i64 4, .int .i64 t, .int .i64 i, .int .i64 l]] w (IntPost (opV i l) w) := by
  go_enter Tryz.func46, Tryz.ntmps46
  go_wp2
  go_ret
  exact ⟨ret_nC (by unfold opV; omega), below_box _ _ _ _ _ _⟩

theorem split_thread (x k q : Int) (hx : I64 x) (hk : x % 8 = k) (hq : x / 8 - 1 = q) (h4 : k ≠ 4) (w : World) : Calls Tryz.prog 103 #[.int .i64 x] w (SayPost k q (-1) 0 w) := by
  have HS := hide (Say.new w 0 0 0 0 108)
  have HB := hide (below_box w 0 0 0 0 108)
  have h4' : (k == 4) = false := beq_eq_false_iff_ne.2 h4
  have hw : wrap64 (x / 8 - 1) = q := by rw [wrap64_id (by unfold I64 at *; omega)]; exact hq
  have hb8 : bits .and .i64 x 7 = k := by rw [← hk]; exact bits_any x 3 (by decide)
  clear hk hq h4
  go_enter Tryz.func103, Tryz.ntmps103
  go_wp2_with (first
    | (go_at_call 47; rw [hw]; refine (ofThread_any _ _ _).mono ?_; rintro e w1 ⟨rfl, hb1⟩; obtain ⟨hlt, c0, c1, c2, c3, f0, f1, f2, f3⟩ := HS.out.keep hb1))
  refine bodyPost_ret (v := .agg #[.int .i64 k, .int .i64 q, .int .i64 (-1), .int .i64 0]) (by simp [results, Tryz.results103, go_sem, c0, c1, c2, c3]) rfl ⟨rfl, ?_⟩
  exact below_set4 (by simp) (below_next HB.out HB.out.size hb1) _ _ _ _

theorem split_open (x q : Int) (hx : I64 x) (hk : x % 8 = 4) (hq : x / 8 - 1 = q) (w : World) : Calls Tryz.prog 103 #[.int .i64 x] w (SayPost 4 (-1) (q / 16) (q % 16) w) := by
  have hw : wrap64 (x / 8 - 1) = q := by rw [wrap64_id (by unfold I64 at *; omega)]; exact hq
  have hb8 : bits .and .i64 x 7 = 4 := by rw [← hk]; exact bits_any x 3 (by decide)
  have hb15 : bits .and .i64 q 15 = q % 16 := bits_any q 4 (by decide)
  clear hk hq
  go_enter Tryz.func103, Tryz.ntmps103
  go_wp2
  refine bodyPost_ret (v := .agg #[.int .i64 4, .int .i64 (-1), .int .i64 (q / 16), .int .i64 (q % 16)]) (by simp [results, Tryz.results103, go_sem, hw]) rfl ⟨rfl, below_box _ _ _ _ _ _⟩

end Go.Proofs.YtlbekjnpaiiilaaGreat
/- Contracts of nearest and read. -/
namespace Go.Proofs.YtlbekjnpaiiilaaGreat
open Go.RowKit

theorem below_box2 (w : World) (a b c d a' b' c' d' : Int) (t t' : TypeId) : Below w.heap.size w ((w.alloc (.cells #[.int .i64 a, .int .i64 b, .int .i64 c, .int .i64 d] t)).alloc (.cells #[.int .i64 a', .int .i64 b', .int .i64 c', .int .i64 d'] t')) := (below_box w a b c d t).alloc (by simp) _

theorem nearest_0 (t i l : Int) (w : World) : Calls Tryz.prog 104 #[.agg #[.int .i64 0, .int .i64 t, .int .i64 i, .int .i64 l]] w (SayPost 0 (-1) i l w) := by
  go_enter Tryz.func104, Tryz.ntmps104
  go_wp2
  exact bodyPost_ret (v := .agg #[.int .i64 0, .int .i64 (-1), .int .i64 i, .int .i64 l]) (by simp [results, Tryz.results104, go_sem]) rfl ⟨rfl, below_box2 _ _ _ _ _ _ _ _ _ _ _⟩

theorem nearest_5 (t i l : Int) (w : World) : Calls Tryz.prog 104 #[.agg #[.int .i64 5, .int .i64 t, .int .i64 i, .int .i64 l]] w (SayPost 5 (-1) i l w) := by
  go_enter Tryz.func104, Tryz.ntmps104
  go_wp2
  exact bodyPost_ret (v := .agg #[.int .i64 5, .int .i64 (-1), .int .i64 i, .int .i64 l]) (by simp [results, Tryz.results104, go_sem]) rfl ⟨rfl, below_box2 _ _ _ _ _ _ _ _ _ _ _⟩

theorem nearest_1 (t i l : Int) (w : World) : Calls Tryz.prog 104 #[.agg #[.int .i64 1, .int .i64 t, .int .i64 i, .int .i64 l]] w (SayPost 1 (clV t 0 15) i l w) := by
  go_enter Tryz.func104, Tryz.ntmps104
  go_wp2_with (first
    | (go_at_call 106; refine (withinC_any _ _ _ (by decide) _).mono ?_; rintro e w1 ⟨rfl, rfl⟩))
  exact bodyPost_ret (v := .agg #[.int .i64 1, .int .i64 (clV t 0 15), .int .i64 i, .int .i64 l]) (by simp [results, Tryz.results104, go_sem]) rfl ⟨rfl, below_box2 _ _ _ _ _ _ _ _ _ _ _⟩

theorem nearest_2 (t i l : Int) (w : World) : Calls Tryz.prog 104 #[.agg #[.int .i64 2, .int .i64 t, .int .i64 i, .int .i64 l]] w (SayPost 2 (clV t 0 15) i l w) := by
  go_enter Tryz.func104, Tryz.ntmps104
  go_wp2_with (first
    | (go_at_call 106; refine (withinC_any _ _ _ (by decide) _).mono ?_; rintro e w1 ⟨rfl, rfl⟩))
  exact bodyPost_ret (v := .agg #[.int .i64 2, .int .i64 (clV t 0 15), .int .i64 i, .int .i64 l]) (by simp [results, Tryz.results104, go_sem]) rfl ⟨rfl, below_box2 _ _ _ _ _ _ _ _ _ _ _⟩

theorem nearest_3 (t i l : Int) (w : World) : Calls Tryz.prog 104 #[.agg #[.int .i64 3, .int .i64 t, .int .i64 i, .int .i64 l]] w (SayPost 3 (clV t 0 15) i l w) := by
  go_enter Tryz.func104, Tryz.ntmps104
  go_wp2_with (first
    | (go_at_call 106; refine (withinC_any _ _ _ (by decide) _).mono ?_; rintro e w1 ⟨rfl, rfl⟩))
  exact bodyPost_ret (v := .agg #[.int .i64 3, .int .i64 (clV t 0 15), .int .i64 i, .int .i64 l]) (by simp [results, Tryz.results104, go_sem]) rfl ⟨rfl, below_box2 _ _ _ _ _ _ _ _ _ _ _⟩

theorem nearest_4 (t i l : Int) (w : World) : Calls Tryz.prog 104 #[.agg #[.int .i64 4, .int .i64 t, .int .i64 i, .int .i64 l]] w (SayPost 4 t (clV i 0 3) (clV l 1 3) w) := by
  go_enter Tryz.func104, Tryz.ntmps104
  go_wp2_with (first
    | (go_at_call 106; refine (withinC_any _ _ _ (by decide) _).mono ?_; rintro e w1 ⟨rfl, rfl⟩))
  exact bodyPost_ret (v := .agg #[.int .i64 4, .int .i64 t, .int .i64 (clV i 0 3), .int .i64 (clV l 1 3)]) (by simp [results, Tryz.results104, go_sem]) rfl ⟨rfl, below_box2 _ _ _ _ _ _ _ _ _ _ _⟩

theorem nearest_6 (t i l : Int) (w : World) : Calls Tryz.prog 104 #[.agg #[.int .i64 6, .int .i64 t, .int .i64 i, .int .i64 l]] w (SayPost (-1) (-1) (-1) 0 w) := by
  have HS := hide (Say.new (w.alloc (.cells #[.int .i64 6, .int .i64 t, .int .i64 i, .int .i64 l] 108)) 0 0 0 0 108)
  have HB := hide (below_box2 w 6 t i l 0 0 0 0 108 108)
  go_enter Tryz.func104, Tryz.ntmps104
  go_wp2_with (first
    | (go_at_call 105; refine (nothing_any _).mono ?_; rintro e w1 ⟨rfl, hb1⟩; obtain ⟨hlt, c0, c1, c2, c3, f0, f1, f2, f3⟩ := HS.out.keep hb1; simp at c0 c1 c2 c3 f0 f1 f2 f3))
  refine bodyPost_ret (v := .agg #[.int .i64 (-1), .int .i64 (-1), .int .i64 (-1), .int .i64 0]) (by simp [results, Tryz.results104, go_sem, c0, c1, c2, c3]) rfl ⟨rfl, ?_⟩
  exact below_set4 (by simp) (below_next HB.out HB.out.size hb1) _ _ _ _

theorem nearest_7 (t i l : Int) (w : World) : Calls Tryz.prog 104 #[.agg #[.int .i64 7, .int .i64 t, .int .i64 i, .int .i64 l]] w (SayPost (-1) (-1) (-1) 0 w) := by
  have HS := hide (Say.new (w.alloc (.cells #[.int .i64 7, .int .i64 t, .int .i64 i, .int .i64 l] 108)) 0 0 0 0 108)
  have HB := hide (below_box2 w 7 t i l 0 0 0 0 108 108)
  go_enter Tryz.func104, Tryz.ntmps104
  go_wp2_with (first
    | (go_at_call 105; refine (nothing_any _).mono ?_; rintro e w1 ⟨rfl, hb1⟩; obtain ⟨hlt, c0, c1, c2, c3, f0, f1, f2, f3⟩ := HS.out.keep hb1; simp at c0 c1 c2 c3 f0 f1 f2 f3))
  refine bodyPost_ret (v := .agg #[.int .i64 (-1), .int .i64 (-1), .int .i64 (-1), .int .i64 0]) (by simp [results, Tryz.results104, go_sem, c0, c1, c2, c3]) rfl ⟨rfl, ?_⟩
  exact below_set4 (by simp) (below_next HB.out HB.out.size hb1) _ _ _ _

end Go.Proofs.YtlbekjnpaiiilaaGreat
/- The contract of read. -/
namespace Go.Proofs.YtlbekjnpaiiilaaGreat
open Go.RowKit Go.Sort

set_option maxHeartbeats 400000 in
theorem read_same (x k t i l : Int) (c1 : ∀ w, Calls Tryz.prog 103 #[.int .i64 x] w (SayPost k t i l w))
    (c2 : ∀ w, Calls Tryz.prog 104 #[.agg #[.int .i64 k, .int .i64 t, .int .i64 i, .int .i64 l]] w (SayPost k t i l w)) (w : World) :
    Calls Tryz.prog 94 #[.int .i64 x] w (SayPost k t i l w) := by
  have HS := hide (Say.new w 0 0 0 0 108)
  have HB := hide (below_box w 0 0 0 0 108)
  have c1 := fun w => hide (c1 w)
  have c2 := fun w => hide (c2 w)
  go_enter Tryz.func94, Tryz.ntmps94
  go_wp2_with (first
    | (go_at_call 103; refine ((c1 _).out).mono ?_; rintro e w1 ⟨rfl, hb1⟩))
  have HR := hide (Say.new w1 k t i l 108)
  have hBr := below_next HB.out HB.out.size (below_next hb1 hb1.size (below_box w1 k t i l 108))
  have HS1 := hide ((HS.out.keep hb1).keep (below_box w1 k t i l 108))
  clear HS HB hb1 c1
  generalize w1.heap.size = g at *
  generalize (w1.alloc (.cells #[.int .i64 k, .int .i64 t, .int .i64 i, .int .i64 l] 108)) = wr at *
  obtain ⟨hlt, r0, r1, r2, r3, _, _, _, _⟩ := HR.out
  have q0 := cell_regrown r0
  have q1 := cell_regrown r1
  have q2 := cell_regrown r2
  have q3 := cell_regrown r3
  have Q1 := hide (fun d os => Calls.regrown_of (w := wr) ((c2 (grow (redrawn wr d) os)).out))
  clear c2 r0 r1 r2 r3
  refine wp_region_quiet_below (by kernel_rfl) (by kernel_rfl) ?_
  repeat (go_big_quiet_step (first | (go_at_call 104; exact Q1.out _ _)))
  refine wpQuiet_nil ?_
  intro _ hw'
  obtain ⟨⟨dq, osq⟩, hw''⟩ := hw'
  subst hw''
  have HR2 := hide (HR.out.keep (below_regrown wr dq osq))
  have HS2 := hide (HS1.out.keep (below_regrown wr dq osq))
  have hBn := below_next hBr hBr.size (below_regrown wr dq osq)
  generalize grow (redrawn wr dq) osq = wq at *
  obtain ⟨_, r0, r1, r2, r3, _, _, _, _⟩ := HR2.out
  obtain ⟨_, s0, s1, s2, s3, f0, f1, f2, f3⟩ := HS2.out
  go_wp2
  refine bodyPost_ret (v := .agg #[.int .i64 k, .int .i64 t, .int .i64 i, .int .i64 l]) (by simp [results, Tryz.results94, go_sem, s0, s1, s2, s3]) rfl ⟨rfl, ?_⟩
  exact below_set4 (Nat.le_refl _) hBn _ _ _ _

theorem neq_say (k t i l k' t' i' l' : Int) (hne : ¬(k = k' ∧ t = t' ∧ i = i' ∧ l = l')) (u : World) : (binOp .neq 108 (.agg #[.int .i64 k, .int .i64 t, .int .i64 i, .int .i64 l]) (.agg #[.int .i64 k', .int .i64 t', .int .i64 i', .int .i64 l'])).run Tryz.prog u = .ok (.bool true) u := by
  by_cases h1 : k = k'
  · by_cases h2 : t = t'
    · by_cases h3 : i = i'
      · by_cases h4 : l = l'
        · exact absurd ⟨h1, h2, h3, h4⟩ hne
        · simp [go_sem, h1, h2, h3, h4]
      · simp [go_sem, h1, h2, h3]
    · simp [go_sem, h1, h2]
  · simp [go_sem, h1]
set_option maxHeartbeats 400000 in
theorem read_other (x k t i l k' t' i' l' : Int) (hne : ¬(k = k' ∧ t = t' ∧ i = i' ∧ l = l')) (c1 : ∀ w, Calls Tryz.prog 103 #[.int .i64 x] w (SayPost k t i l w))
    (c2 : ∀ w, Calls Tryz.prog 104 #[.agg #[.int .i64 k, .int .i64 t, .int .i64 i, .int .i64 l]] w (SayPost k' t' i' l' w)) (w : World) :
    Calls Tryz.prog 94 #[.int .i64 x] w (SayPost (-1) (-1) (-1) 0 w) := by
  have HS := hide (Say.new w 0 0 0 0 108)
  have HB := hide (below_box w 0 0 0 0 108)
  have he := neq_say k t i l k' t' i' l' hne
  clear hne
  have c1 := fun w => hide (c1 w)
  have c2 := fun w => hide (c2 w)
  go_enter Tryz.func94, Tryz.ntmps94
  go_wp2_with (first
    | (go_at_call 103; refine ((c1 _).out).mono ?_; rintro e w1 ⟨rfl, hb1⟩))
  have HR := hide (Say.new w1 k t i l 108)
  have hBr := below_next HB.out HB.out.size (below_next hb1 hb1.size (below_box w1 k t i l 108))
  have HS1 := hide ((HS.out.keep hb1).keep (below_box w1 k t i l 108))
  clear HS HB hb1 c1
  generalize w1.heap.size = g at *
  generalize (w1.alloc (.cells #[.int .i64 k, .int .i64 t, .int .i64 i, .int .i64 l] 108)) = wr at *
  obtain ⟨hlt, r0, r1, r2, r3, _, _, _, _⟩ := HR.out
  have q0 := cell_regrown r0
  have q1 := cell_regrown r1
  have q2 := cell_regrown r2
  have q3 := cell_regrown r3
  have Q1 := hide (fun d os => Calls.regrown_of (w := wr) ((c2 (grow (redrawn wr d) os)).out))
  clear c2 r0 r1 r2 r3
  refine wp_region_quiet_below (by kernel_rfl) (by kernel_rfl) ?_
  repeat (go_big_quiet_step (first | (go_at_call 104; exact Q1.out _ _)))
  refine wpQuiet_nil ?_
  intro _ hw'
  obtain ⟨⟨dq, osq⟩, hw''⟩ := hw'
  subst hw''
  have HS2 := hide (HS1.out.keep (below_regrown wr dq osq))
  have hBn := below_next hBr hBr.size (below_regrown wr dq osq)
  generalize grow (redrawn wr dq) osq = wq at *
  go_wp2_with (first
    | (go_at_call 105; refine (nothing_any _).mono ?_; rintro e w2 ⟨rfl, hb2⟩; obtain ⟨_, s0, s1, s2, s3, f0, f1, f2, f3⟩ := HS2.out.keep hb2))
  refine bodyPost_ret (v := .agg #[.int .i64 (-1), .int .i64 (-1), .int .i64 (-1), .int .i64 0]) (by simp [results, Tryz.results94, go_sem, s0, s1, s2, s3]) rfl ⟨rfl, ?_⟩
  exact below_set4 (Nat.le_refl _) (below_next hBn hBn.size hb2) _ _ _ _
end Go.Proofs.YtlbekjnpaiiilaaGreat
/- Contracts of the program's calls of layer 8. -/
namespace Go.Proofs.YtlbekjnpaiiilaaGreat
open Go.RowKit Go.Sort

theorem cl_id {n a b : Int} (h1 : a ≤ n) (h2 : n ≤ b) : clV n a b = n := by unfold clV; rw [if_neg (by omega), if_neg (by omega)]
theorem cl_ne {n a b : Int} (_ : a ≤ b) (h : n < a ∨ b < n) : n ≠ clV n a b := by
  unfold clV
  repeat' split
  all_goals omega
theorem say_nothing {x : Int} (h : kdV x = -1) : whV x = -1 ∧ itV x = -1 ∧ lyV x = 0 := by
  unfold whV itV lyV
  rw [h]
  exact ⟨rfl, rfl, rfl⟩
theorem say_end {x : Int} (h : kdV x = 0 ∨ kdV x = 5) : whV x = -1 ∧ itV x = -1 ∧ lyV x = 0 := by
  unfold whV itV lyV
  rcases h with h | h <;> rw [h] <;> exact ⟨rfl, rfl, rfl⟩
theorem say_thread {x : Int} (h : 1 ≤ kdV x ∧ kdV x ≤ 3) : whV x = x / 8 - 1 ∧ itV x = -1 ∧ lyV x = 0 := by
  unfold whV itV lyV
  rw [if_pos h, if_neg (by omega), if_neg (by omega)]
  exact ⟨rfl, rfl, rfl⟩
theorem say_open {x : Int} (h : kdV x = 4) : whV x = -1 ∧ itV x = (x / 8 - 1) / 16 ∧ lyV x = (x / 8 - 1) % 16 := by
  unfold whV itV lyV
  rw [h]
  exact ⟨rfl, rfl, rfl⟩

theorem read_none (x k t i l k' t' i' l' : Int) (hne : ¬(k = k' ∧ t = t' ∧ i = i' ∧ l = l')) (hk : kdV x = -1) (c1 : ∀ w, Calls Tryz.prog 103 #[.int .i64 x] w (SayPost k t i l w))
    (c2 : ∀ w, Calls Tryz.prog 104 #[.agg #[.int .i64 k, .int .i64 t, .int .i64 i, .int .i64 l]] w (SayPost k' t' i' l' w)) (w : World) :
    Calls Tryz.prog 94 #[.int .i64 x] w (SayPost (kdV x) (whV x) (itV x) (lyV x) w) := by
  obtain ⟨h1, h2, h3⟩ := say_nothing hk
  rw [hk, h1, h2, h3]
  exact read_other x k t i l k' t' i' l' hne c1 c2 w

theorem read_any (x : Int) (hx : I64 x) (w : World) : Calls Tryz.prog 94 #[.int .i64 x] w (SayPost (kdV x) (whV x) (itV x) (lyV x) w) := by
  obtain ⟨q, hq⟩ : ∃ q, x / 8 - 1 = q := ⟨_, rfl⟩
  have hr : x % 8 = 0 ∨ x % 8 = 1 ∨ x % 8 = 2 ∨ x % 8 = 3 ∨ x % 8 = 4 ∨ x % 8 = 5 ∨ x % 8 = 6 ∨ x % 8 = 7 := by omega
  have ends : ∀ k : Int, (∀ t i l w, Calls Tryz.prog 104 #[.agg #[.int .i64 k, .int .i64 t, .int .i64 i, .int .i64 l]] w (SayPost k (-1) i l w)) → (k = 0 ∨ k = 5) → x % 8 = k → Calls Tryz.prog 94 #[.int .i64 x] w (SayPost (kdV x) (whV x) (itV x) (lyV x) w) := by
    intro k hc hk hr
    by_cases h : q = -1
    · have hkd : kdV x = k := by
        rcases hk with rfl | rfl
        · obtain rfl : x = 0 := by omega
          rfl
        · obtain rfl : x = 5 := by omega
          rfl
      obtain ⟨h1, h2, h3⟩ := say_end (by rw [hkd]; exact hk)
      rw [hkd, h1, h2, h3]
      subst h
      exact read_same x k (-1) (-1) 0 (split_thread x k (-1) hx hr hq (by omega)) (hc _ _ _) w
    · have hkd : kdV x = -1 := by
        unfold kdV
        rw [if_neg (by omega), if_neg (by omega), if_neg (by omega), if_neg (by omega)]
      exact read_none x k q (-1) 0 k (-1) (-1) 0 (by omega) hkd (split_thread x k q hx hr hq (by omega)) (hc _ _ _) w
  have threads : ∀ k : Int, (∀ t i l w, Calls Tryz.prog 104 #[.agg #[.int .i64 k, .int .i64 t, .int .i64 i, .int .i64 l]] w (SayPost k (clV t 0 15) i l w)) → (1 ≤ k ∧ k ≤ 3) → x % 8 = k → Calls Tryz.prog 94 #[.int .i64 x] w (SayPost (kdV x) (whV x) (itV x) (lyV x) w) := by
    intro k hc hk hr
    by_cases h : 0 ≤ q ∧ q ≤ 15
    · have hkd : kdV x = k := by
        unfold kdV
        rw [if_neg (by omega), if_neg (by omega), if_pos (by omega)]
        exact hr
      obtain ⟨h1, h2, h3⟩ := say_thread (by rw [hkd]; exact hk)
      rw [hkd, h1, h2, h3, hq]
      have c2 := hc q (-1) 0
      rw [cl_id h.1 h.2] at c2
      exact read_same x k q (-1) 0 (split_thread x k q hx hr hq (by omega)) c2 w
    · have hkd : kdV x = -1 := by
        unfold kdV
        rw [if_neg (by omega), if_neg (by omega), if_neg (by omega), if_neg (by omega)]
      exact read_none x k q (-1) 0 k (clV q 0 15) (-1) 0 (fun hh => cl_ne (by omega) (by omega) hh.2.1) hkd (split_thread x k q hx hr hq (by omega)) (hc _ _ _) w
  have nones : ∀ k : Int, (∀ t i l w, Calls Tryz.prog 104 #[.agg #[.int .i64 k, .int .i64 t, .int .i64 i, .int .i64 l]] w (SayPost (-1) (-1) (-1) 0 w)) → (6 ≤ k ∧ k ≤ 7) → x % 8 = k → Calls Tryz.prog 94 #[.int .i64 x] w (SayPost (kdV x) (whV x) (itV x) (lyV x) w) := by
    intro k hc hk hr
    have hkd : kdV x = -1 := by
      unfold kdV
      rw [if_neg (by omega), if_neg (by omega), if_neg (by omega), if_neg (by omega)]
    exact read_none x k q (-1) 0 (-1) (-1) (-1) 0 (by omega) hkd (split_thread x k q hx hr hq (by omega)) (hc _ _ _) w
  rcases hr with hr | hr | hr | hr | hr | hr | hr | hr
  · exact ends 0 nearest_0 (by omega) hr
  · exact threads 1 nearest_1 (by omega) hr
  · exact threads 2 nearest_2 (by omega) hr
  · exact threads 3 nearest_3 (by omega) hr
  · by_cases h : 0 ≤ q / 16 ∧ q / 16 ≤ 3 ∧ 1 ≤ q % 16 ∧ q % 16 ≤ 3
    · have hkd : kdV x = 4 := by
        unfold kdV
        rw [if_neg (by omega), if_neg (by omega), if_neg (by omega), if_pos (by omega)]
      obtain ⟨h1, h2, h3⟩ := say_open hkd
      rw [hkd, h1, h2, h3, hq]
      have c2 := nearest_4 (-1) (q / 16) (q % 16)
      rw [cl_id h.1 h.2.1, cl_id h.2.2.1 h.2.2.2] at c2
      exact read_same x 4 (-1) (q / 16) (q % 16) (split_open x q hx hr hq) c2 w
    · have hkd : kdV x = -1 := by
        unfold kdV
        rw [if_neg (by omega), if_neg (by omega), if_neg (by omega), if_neg (by omega)]
      refine read_none x 4 (-1) (q / 16) (q % 16) 4 (-1) (clV (q / 16) 0 3) (clV (q % 16) 1 3) (fun hh => ?_) hkd (split_open x q hx hr hq) (nearest_4 _ _ _) w
      by_cases h5 : 0 ≤ q / 16 ∧ q / 16 ≤ 3
      · exact cl_ne (by omega) (by omega) hh.2.2.2
      · exact cl_ne (by omega) (by omega) hh.2.2.1
  · exact ends 5 nearest_5 (by omega) hr
  · exact nones 6 nearest_6 (by omega) hr
  · exact nones 7 nearest_7 (by omega) hr

theorem kind_any (x : Int) (hx : I64 x) (w : World) : Calls Tryz.prog 77 #[.int .i64 x] w (IntPost (kdV x) w) := by
  have c := fun w => hide (read_any x hx w)
  have hf : ∀ u : World, (Instr.field 108 (.agg #[.int .i64 (kdV x), .int .i64 (whV x), .int .i64 (itV x), .int .i64 (lyV x)]) 0).run Tryz.prog u = .ok (.int .i64 (kdV x)) u := fun _ => by simp [Instr.field, asAgg, go_sem]
  go_enter Tryz.func77, Tryz.ntmps77
  go_wp2_with (first | (go_at_call 94; refine ((c _).out).mono ?_; rintro e w1 ⟨rfl, hb1⟩))
  go_ret
  exact ⟨rfl, hb1⟩
theorem who_any (x : Int) (hx : I64 x) (w : World) : Calls Tryz.prog 78 #[.int .i64 x] w (IntPost (whV x) w) := by
  have c := fun w => hide (read_any x hx w)
  have hf : ∀ u : World, (Instr.field 108 (.agg #[.int .i64 (kdV x), .int .i64 (whV x), .int .i64 (itV x), .int .i64 (lyV x)]) 1).run Tryz.prog u = .ok (.int .i64 (whV x)) u := fun _ => by simp [Instr.field, asAgg, go_sem]
  go_enter Tryz.func78, Tryz.ntmps78
  go_wp2_with (first | (go_at_call 94; refine ((c _).out).mono ?_; rintro e w1 ⟨rfl, hb1⟩))
  go_ret
  exact ⟨rfl, hb1⟩
def PairPost (a b : Int) (w : World) (e : Ending) (w' : World) : Prop := e = .returned (.tuple #[.int .i64 a, .int .i64 b]) ∧ Below w.heap.size w w'
theorem first_any (t : Int) (ht : 0 ≤ t ∧ t ≤ 15) (w : World) : Calls Tryz.prog 76 #[.int .i64 t] w (IntPost (frV 1 t) w) := by
  have c := fun w => hide (word_thread 1 t (-1) 0 (by omega) (by omega) (by omega) w)
  go_enter Tryz.func76, Tryz.ntmps76
  go_wp2_with (first | (go_at_call 47; refine (ofThread_any _ _ _).mono ?_; rintro e w1 ⟨rfl, hb1⟩) | (go_at_call 46; refine ((c _).out).mono ?_; rintro e w2 ⟨rfl, hb2⟩))
  go_ret
  exact ⟨rfl, below_next hb1 hb1.size hb2⟩
theorem deposited_any (t : Int) (ht : 0 ≤ t ∧ t ≤ 15) (w : World) : Calls Tryz.prog 17 #[.int .i64 t] w (IntPost (frV 3 t) w) := by
  have c := fun w => hide (word_thread 3 t (-1) 0 (by omega) (by omega) (by omega) w)
  go_enter Tryz.func17, Tryz.ntmps17
  go_wp2_with (first | (go_at_call 47; refine (ofThread_any _ _ _).mono ?_; rintro e w1 ⟨rfl, hb1⟩) | (go_at_call 46; refine ((c _).out).mono ?_; rintro e w2 ⟨rfl, hb2⟩))
  go_ret
  exact ⟨rfl, below_next hb1 hb1.size hb2⟩
end Go.Proofs.YtlbekjnpaiiilaaGreat
/- Contracts of the document's own calls of layer 8. -/
namespace Go.Proofs.YtlbekjnpaiiilaaGreat
open Go.RowKit Go.Sort

theorem rfirst_any (t : Int) (ht : 0 ≤ t ∧ t ≤ 15) (w : World) : Calls Tryz.prog 21 #[.int .i64 t] w (fun e w' => e = .returned (.int .i64 (frV 1 t)) ∧ w' = w) := by
  have HP : Hid (8 * (t + 1) + 1 = frV 1 t) := hide rfl
  go_enter Tryz.func21, Tryz.ntmps21
  go_wp2
  go_ret
  exact ⟨ret_nC HP.out.symm, rfl⟩
theorem rjoined_any (t : Int) (ht : 0 ≤ t ∧ t ≤ 15) (w : World) : Calls Tryz.prog 61 #[.int .i64 t] w (fun e w' => e = .returned (.int .i64 (frV 2 t)) ∧ w' = w) := by
  have HP : Hid (8 * (t + 1) + 2 = frV 2 t) := hide rfl
  go_enter Tryz.func61, Tryz.ntmps61
  go_wp2
  go_ret
  exact ⟨ret_nC HP.out.symm, rfl⟩
theorem rdeposited_any (t : Int) (ht : 0 ≤ t ∧ t ≤ 15) (w : World) : Calls Tryz.prog 30 #[.int .i64 t] w (fun e w' => e = .returned (.int .i64 (frV 3 t)) ∧ w' = w) := by
  have HP : Hid (8 * (t + 1) + 3 = frV 3 t) := hide rfl
  go_enter Tryz.func30, Tryz.ntmps30
  go_wp2
  go_ret
  exact ⟨ret_nC HP.out.symm, rfl⟩
theorem ropen_any (i l : Int) (hi : 0 ≤ i ∧ i ≤ 3) (hl : 1 ≤ l ∧ l ≤ 3) (w : World) : Calls Tryz.prog 62 #[.int .i64 i, .int .i64 l] w (fun e w' => e = .returned (.int .i64 (opV i l)) ∧ w' = w) := by
  have HP : Hid (8 * (16 * i + l + 1) + 4 = opV i l) := hide rfl
  go_enter Tryz.func62, Tryz.ntmps62
  go_wp2
  go_ret
  exact ⟨ret_nC HP.out.symm, rfl⟩
theorem rtold_any (w : World) : Calls Tryz.prog 60 #[] w (fun e w' => e = .returned (.int .i64 5) ∧ w' = w) := by
  go_enter Tryz.func60, Tryz.ntmps60
  go_wp2
  go_ret
  exact ⟨rfl, rfl⟩

theorem kd_first {x t k : Int} (hk : 1 ≤ k ∧ k ≤ 3) (ht : 0 ≤ t ∧ t ≤ 15) (h : x = frV k t) : kdV x = k := by rw [h]; exact (kd_fr hk ht).1

theorem kd_none {x : Int} (h0 : x ≠ 0) (h5 : x ≠ 5) (h1 : ∀ t : Int, 0 ≤ t → t ≤ 15 → x ≠ frV 1 t ∧ x ≠ frV 2 t ∧ x ≠ frV 3 t) (h2 : ∀ i l : Int, 0 ≤ i → i < 4 → 1 ≤ l → l ≤ 3 → x ≠ opV i l) : kdV x = -1 := by
  unfold kdV
  rw [if_neg h0, if_neg h5, if_neg, if_neg]
  · rintro ⟨ha, hb, hc, hd, he⟩
    refine h2 ((x / 8 - 1) / 16) ((x / 8 - 1) % 16) hb (by omega) hd he ?_
    unfold opV
    omega
  · rintro ⟨ha, hb, hc, hd⟩
    have h := h1 (x / 8 - 1) hc hd
    unfold frV at h
    omega

set_option maxRecDepth 100000 in
set_option maxHeartbeats 1000000 in
theorem rkind_any (x : Int) (hx : I64 x) (w : World) : Calls Tryz.prog 22 #[.int .i64 x] w (fun e w' => e = .returned (.int .i64 (kdV x)) ∧ w' = w) := by
  by_cases h0 : x = 0
  · subst h0
    go_enter Tryz.func22, Tryz.ntmps22
    go_wp2
    go_ret
    exact ⟨rfl, rfl⟩
  · by_cases h5 : x = 5
    · subst h5
      go_enter Tryz.func22, Tryz.ntmps22
      go_wp2_with (first | (go_at_call 60; refine (rtold_any _).mono ?_; rintro e w1 ⟨rfl, rfl⟩))
      go_ret
      exact ⟨rfl, rfl⟩
    · have z0 : (x == 0) = false := beq_eq_false_iff_ne.2 h0
      have z5 : (x == 5) = false := beq_eq_false_iff_ne.2 h5
      go_enter Tryz.func22, Tryz.ntmps22
      go_wp2_with (first | (go_at_call 60; refine (rtold_any _).mono ?_; rintro e w1 ⟨rfl, rfl⟩))
      have K1 := fun t ht => hide (fun w => rfirst_any t ht w)
      have K2 := fun t ht => hide (fun w => rjoined_any t ht w)
      have K3 := fun t ht => hide (fun w => rdeposited_any t ht w)
      have K4 := fun i l hi hl => hide (fun w => ropen_any i l hi hl w)
      go_loopw [3] (fun i wr => ∃ j : Nat, j ≤ 16 ∧ i = .int .i64 j ∧ wr = w1 ∧ ∀ t : Int, 0 ≤ t → t < j → x ≠ frV 1 t ∧ x ≠ frV 2 t ∧ x ≠ frV 3 t) (fun i _ => 16 - (intOf i).toNat)
      case atStart => exact ⟨0, Nat.zero_le _, rfl, rfl, fun t h1 h2 => by omega⟩
      case round =>
        obtain ⟨j, hj, rfl, rfl, hno⟩ := hrel
        have HN := hide hno
        clear hno
        by_cases hlt : j < 16
        · have hj2 : 0 ≤ (j : Int) ∧ (j : Int) ≤ 15 := by omega
          have C1 := K1 j hj2
          have C2 := K2 j hj2
          have C3 := K3 j hj2
          have D1 := hide (fun h : x = frV 1 j => kd_first (by omega) hj2 h)
          have D2 := hide (fun h : x = frV 2 j => kd_first (by omega) hj2 h)
          have D3 := hide (fun h : x = frV 3 j => kd_first (by omega) hj2 h)
          have HE : Hid ((x ≠ frV 1 j ∧ x ≠ frV 2 j ∧ x ≠ frV 3 j) → ∀ t : Int, 0 ≤ t → t < (j : Int) + 1 → x ≠ frV 1 t ∧ x ≠ frV 2 t ∧ x ≠ frV 3 t) := hide (fun h t h1 h2 => by
            by_cases ht : t < j
            · exact HN.out t h1 ht
            · obtain rfl : t = j := by omega
              exact h)
          generalize frV 1 j = y1 at C1 D1 HE
          generalize frV 2 j = y2 at C2 D2 HE
          generalize frV 3 j = y3 at C3 D3 HE
          clear K1 K2 K3 K4 HN
          by_cases h1 : x = y1
          · have b1 : (x == y1) = true := beq_iff_eq.2 h1
            have HP := hide (D1.out h1)
            clear h1 HE
            go_wp2_with (first | (go_at_call 21; refine (C1.out _).mono ?_; rintro e w2 ⟨rfl, rfl⟩))
            go_ret
            exact ⟨ret_nC HP.out, rfl⟩
          · have b1 : (x == y1) = false := beq_eq_false_iff_ne.2 h1
            by_cases h2 : x = y2
            · have b2 : (x == y2) = true := beq_iff_eq.2 h2
              have HP := hide (D2.out h2)
              clear h1 h2 HE
              go_wp2_with (first | (go_at_call 21; refine (C1.out _).mono ?_; rintro e w2 ⟨rfl, rfl⟩) | (go_at_call 61; refine (C2.out _).mono ?_; rintro e w2 ⟨rfl, rfl⟩))
              go_ret
              exact ⟨ret_nC HP.out, rfl⟩
            · have b2 : (x == y2) = false := beq_eq_false_iff_ne.2 h2
              by_cases h3 : x = y3
              · have b3 : (x == y3) = true := beq_iff_eq.2 h3
                have HP := hide (D3.out h3)
                clear h1 h2 h3 HE
                go_wp2_with (first | (go_at_call 21; refine (C1.out _).mono ?_; rintro e w2 ⟨rfl, rfl⟩) | (go_at_call 61; refine (C2.out _).mono ?_; rintro e w2 ⟨rfl, rfl⟩) | (go_at_call 30; refine (C3.out _).mono ?_; rintro e w2 ⟨rfl, rfl⟩))
                go_ret
                exact ⟨ret_nC HP.out, rfl⟩
              · have b3 : (x == y3) = false := beq_eq_false_iff_ne.2 h3
                have HP := hide (HE.out ⟨h1, h2, h3⟩)
                clear h1 h2 h3 HE D1 D2 D3
                go_wp2_with (first | (go_at_call 21; refine (C1.out _).mono ?_; rintro e w2 ⟨rfl, rfl⟩) | (go_at_call 61; refine (C2.out _).mono ?_; rintro e w2 ⟨rfl, rfl⟩) | (go_at_call 30; refine (C3.out _).mono ?_; rintro e w2 ⟨rfl, rfl⟩))
                go_roundw
                case rel => exact ⟨j + 1, by omega, by go_num, trivial, by rw [Int.natCast_succ]; exact HP.out⟩
                case measure => simp [intOf]; omega
        · have hj16 : ¬ (j : Int) < 16 := by omega
          have HN16 : Hid (∀ t : Int, 0 ≤ t → t ≤ 15 → x ≠ frV 1 t ∧ x ≠ frV 2 t ∧ x ≠ frV 3 t) := hide (fun t h1 h2 => HN.out t h1 (by omega))
          clear HN K1 K2 K3
          have HF := hide (fun h => kd_none h0 h5 HN16.out h)
          clear HN16 hlt hj h0 h5
          go_wp2
          go_loopw [4] (fun i wz => ∃ a : Nat, a ≤ 4 ∧ i = .int .i64 a ∧ wz = wr ∧ ∀ i l : Int, 0 ≤ i → i < a → 1 ≤ l → l ≤ 3 → x ≠ opV i l) (fun i _ => 4 - (intOf i).toNat)
          case atStart => exact ⟨0, Nat.zero_le _, rfl, rfl, fun i l h1 h2 => by omega⟩
          case round =>
            obtain ⟨a, ha, rfl, rfl, hno⟩ := hrel
            have HN := hide hno
            clear hno
            by_cases hlt : a < 4
            · have ha2 : 0 ≤ (a : Int) ∧ (a : Int) ≤ 3 := by omega
              have hd4 : decide ((a : Int) < 4) = true := decide_eq_true (by omega)
              go_wp2
              go_loopw [5] (fun i wy => ∃ b : Nat, b ≤ 3 ∧ i = .int .i64 ((b : Int) + 1) ∧ wy = wr ∧ ∀ l : Int, 1 ≤ l → l ≤ b → x ≠ opV a l) (fun i _ => 4 - (intOf i).toNat)
              case atStart => exact ⟨0, Nat.zero_le _, rfl, rfl, fun l h1 h2 => by omega⟩
              case round =>
                obtain ⟨b, hb, rfl, rfl, hno⟩ := hrel
                have HM := hide hno
                clear hno
                by_cases hlb : b < 3
                · have hb2 : 1 ≤ (b : Int) + 1 ∧ (b : Int) + 1 ≤ 3 := by omega
                  have C4 := K4 a ((b : Int) + 1) ha2 hb2
                  have D4 := hide (fun h : x = opV a ((b : Int) + 1) => show kdV x = 4 by rw [h]; exact (kd_op ha2 hb2).1)
                  have HE : Hid (x ≠ opV a ((b : Int) + 1) → ∀ l : Int, 1 ≤ l → l ≤ (b : Int) + 1 → x ≠ opV a l) := hide (fun h l h1 h2 => by
                    by_cases hl : l ≤ b
                    · exact HM.out l h1 hl
                    · obtain rfl : l = (b : Int) + 1 := by omega
                      exact h)
                  generalize opV a ((b : Int) + 1) = y4 at C4 D4 HE
                  clear K4 HN HM HF
                  by_cases h4 : x = y4
                  · have b4 : (x == y4) = true := beq_iff_eq.2 h4
                    have HP := hide (D4.out h4)
                    clear h4 HE
                    go_wp2_with (first | (go_at_call 62; refine (C4.out _).mono ?_; rintro e w2 ⟨rfl, rfl⟩))
                    go_ret
                    exact ⟨ret_nC HP.out, rfl⟩
                  · have b4 : (x == y4) = false := beq_eq_false_iff_ne.2 h4
                    have HP := hide (HE.out h4)
                    clear h4 HE D4
                    go_wp2_with (first | (go_at_call 62; refine (C4.out _).mono ?_; rintro e w2 ⟨rfl, rfl⟩))
                    go_roundw
                    case rel => exact ⟨b + 1, by omega, by go_num, trivial, by rw [Int.natCast_succ]; exact HP.out⟩
                    case measure => simp [intOf]; omega
                · have HP : Hid (∀ i l : Int, 0 ≤ i → i < (a : Int) + 1 → 1 ≤ l → l ≤ 3 → x ≠ opV i l) := hide (fun i l h1 h2 h3 h4 => by
                    by_cases hi : i < a
                    · exact HN.out i l h1 hi h3 h4
                    · obtain rfl : i = a := by omega
                      exact HM.out l h3 (by omega))
                  clear HN HM HF K4
                  go_wp2
                  go_roundw
                  case rel => exact ⟨a + 1, by omega, by go_num, trivial, by rw [Int.natCast_succ]; exact HP.out⟩
                  case measure => simp [intOf]; omega
            · have HP := hide (HF.out (fun i l h1 h2 h3 h4 => HN.out i l h1 (by omega) h3 h4))
              clear HF HN K4
              go_wp2
              go_ret
              exact ⟨ret_nC HP.out, rfl⟩

theorem quo8 {x : Int} (h : 0 ≤ x) : x.tdiv 8 = x / 8 := Int.tdiv_eq_ediv_of_nonneg h
theorem rwho_any (x : Int) (hx : I64 x) (w : World) : Calls Tryz.prog 23 #[.int .i64 x] w (fun e w' => e = .returned (.int .i64 (whV x)) ∧ w' = w) := by
  have c := fun w => hide (rkind_any x hx w)
  obtain ⟨k, hk⟩ : ∃ k, kdV x = k := ⟨_, rfl⟩
  rw [hk] at c
  by_cases h1 : k < 1
  · have HP : Hid (whV x = -1) := hide (by unfold whV; rw [hk, if_neg (by omega)])
    clear hk
    go_enter Tryz.func23, Tryz.ntmps23
    go_wp2_with (first | (go_at_call 22; refine ((c _).out).mono ?_; rintro e w1 ⟨rfl, rfl⟩))
    go_ret
    exact ⟨ret_nC HP.out, rfl⟩
  · by_cases h3 : 3 < k
    · have HP : Hid (whV x = -1) := hide (by unfold whV; rw [hk, if_neg (by omega)])
      clear hk
      go_enter Tryz.func23, Tryz.ntmps23
      go_wp2_with (first | (go_at_call 22; refine ((c _).out).mono ?_; rintro e w1 ⟨rfl, rfl⟩))
      go_ret
      exact ⟨ret_nC HP.out, rfl⟩
    · have hb : 0 ≤ x ∧ x ≤ 1000 := by
        unfold kdV at hk
        repeat' split at hk
        all_goals omega
      have HP : Hid (whV x = x.tdiv 8 - 1) := hide (by unfold whV; rw [hk, if_pos (by omega), quo8 hb.1])
      have hd : 0 ≤ x.tdiv 8 ∧ x.tdiv 8 ≤ 1000 := by rw [quo8 hb.1]; omega
      clear hk
      go_enter Tryz.func23, Tryz.ntmps23
      go_wp2_with (first | (go_at_call 22; refine ((c _).out).mono ?_; rintro e w1 ⟨rfl, rfl⟩))
      go_ret
      exact ⟨ret_nC HP.out, rfl⟩

end Go.Proofs.YtlbekjnpaiiilaaGreat
