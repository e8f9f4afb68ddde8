/- Contracts of the program's small calls of layer 8: within, ofThread, nothing, word, split. -/
import Derived.Test.YtcbjkpblailfpaaCd
namespace Go.Proofs.Ytcbjkpblailfpaa
open Go.RowKit

theorem ret_n {a b : Int} (h : b = a) : Ending.returned (.int .i64 a) = .returned (.int .i64 b) := by rw [h]
/-- What a word says, as a value. -/
def sayV (k t i l : Int) : Value := .agg #[.int .i64 k, .int .i64 t, .int .i64 i, .int .i64 l]
def SayPost (k t i l : Int) (w : World) (e : Ending) (w' : World) : Prop := e = .returned (.agg #[.int .i64 k, .int .i64 t, .int .i64 i, .int .i64 l]) ∧ Below w.heap.size w w'
theorem ret_say {a b c d a' b' c' d' : Int} (h1 : a' = a) (h2 : b' = b) (h3 : c' = c) (h4 : d' = d) : Ending.returned (.agg #[.int .i64 a, .int .i64 b, .int .i64 c, .int .i64 d]) = .returned (.agg #[.int .i64 a', .int .i64 b', .int .i64 c', .int .i64 d']) := by rw [h1, h2, h3, h4]

theorem within_any (n a b : Int) (hab : a ≤ b) (w : World) : Calls Try.prog 31 #[.int .i64 n, .int .i64 a, .int .i64 b] w (fun e w' => e = .returned (.int .i64 (clV n a b)) ∧ w' = w) := by
  by_cases h1 : n < a
  · have HP : Hid (clV n a b = a) := hide (by unfold clV; rw [if_pos h1])
    by_cases h2 : b < a
    · exact absurd hab (by omega)
    · go_enter Try.func31, Try.ntmps31
      go_wp2
      go_ret
      exact ⟨ret_n HP.out, rfl⟩
  · by_cases h2 : b < n
    · have HP : Hid (clV n a b = b) := hide (by unfold clV; rw [if_neg h1, if_pos h2])
      go_enter Try.func31, Try.ntmps31
      go_wp2
      go_ret
      exact ⟨ret_n HP.out, rfl⟩
    · have HP : Hid (clV n a b = n) := hide (by unfold clV; rw [if_neg h1, if_neg h2])
      go_enter Try.func31, Try.ntmps31
      go_wp2
      go_ret
      exact ⟨ret_n HP.out, rfl⟩

/-- A box that holds what a word says. -/
structure Say (w : World) (g : Nat) (a b c d : Int) : Prop where
  lt : g < w.heap.size
  c0 : w.cell? ⟨g, 0, none⟩ = some (.int .i64 a)
  c1 : w.cell? ⟨g, 1, none⟩ = some (.int .i64 b)
  c2 : w.cell? ⟨g, 2, none⟩ = some (.int .i64 c)
  c3 : w.cell? ⟨g, 3, none⟩ = some (.int .i64 d)
  f0 : w.frozen? ⟨g, 0, none⟩ = false
  f1 : w.frozen? ⟨g, 1, none⟩ = false
  f2 : w.frozen? ⟨g, 2, none⟩ = false
  f3 : w.frozen? ⟨g, 3, none⟩ = false
theorem Say.keep {w w' : World} {g : Nat} {a b c d : Int} (h : Say w g a b c d) (hb : Below w.heap.size w w') : Say w' g a b c d :=
  ⟨Nat.lt_of_lt_of_le h.lt hb.size, by rw [hb.cell h.lt]; exact h.c0, by rw [hb.cell h.lt]; exact h.c1, by rw [hb.cell h.lt]; exact h.c2, by rw [hb.cell h.lt]; exact h.c3,
   by rw [hb.frozen h.lt]; exact h.f0, by rw [hb.frozen h.lt]; exact h.f1, by rw [hb.frozen h.lt]; exact h.f2, by rw [hb.frozen h.lt]; exact h.f3⟩
theorem Say.new (w : World) (a b c d : Int) (t : TypeId) : Say (w.alloc (.cells #[.int .i64 a, .int .i64 b, .int .i64 c, .int .i64 d] t)) w.heap.size a b c d := by
  constructor <;> simp [go_sem]
theorem below_box (w : World) (a b c d : Int) (t : TypeId) : Below w.heap.size w (w.alloc (.cells #[.int .i64 a, .int .i64 b, .int .i64 c, .int .i64 d] t)) := (Below.refl _ w).alloc (Nat.le_refl _) _

theorem ofThread_any (k t : Int) (w : World) : Calls Try.prog 27 #[.int .i64 k, .int .i64 t] w (SayPost k t (-1) 0 w) := by
  go_enter Try.func27, Try.ntmps27
  go_wp2
  exact bodyPost_ret (v := .agg #[.int .i64 k, .int .i64 t, .int .i64 (-1), .int .i64 0]) (by simp [results, Try.results27, go_sem]) rfl ⟨rfl, below_box _ _ _ _ _ _⟩

theorem nothing_any (w : World) : Calls Try.prog 30 #[] w (SayPost (-1) (-1) (-1) 0 w) := by
  have HS := hide (Say.new w 0 0 0 0 33)
  have HB := hide (below_box w 0 0 0 0 33)
  go_enter Try.func30, Try.ntmps30
  go_wp2_with (first
    | (go_at_call 27; refine (ofThread_any _ _ _).mono ?_; rintro e w1 ⟨rfl, hb1⟩; obtain ⟨hlt, c0, c1, c2, c3, f0, f1, f2, f3⟩ := HS.out.keep hb1))
  refine bodyPost_ret (v := .agg #[.int .i64 (-1), .int .i64 (-1), .int .i64 (-1), .int .i64 0]) (by simp [results, Try.results30, go_sem, c0, c1, c2, c3]) rfl ⟨rfl, ?_⟩
  exact ((((below_next HB.out HB.out.size hb1).setCell (by simp) _).setCell (by simp) _).setCell (by simp) _).setCell (by simp) _

theorem below_set4 {B : Nat} {w w' : World} {g : Nat} (hg : B ≤ g) (h : Below B w w') (a b c d : Value) : Below B w ((((w'.setCell ⟨g, 0, none⟩ a).setCell ⟨g, 1, none⟩ b).setCell ⟨g, 2, none⟩ c).setCell ⟨g, 3, none⟩ d) :=
  (((h.setCell hg _).setCell hg _).setCell hg _).setCell hg _

theorem word_thread (k t i l : Int) (hk : 0 ≤ k ∧ k ≤ 5) (h4 : k ≠ 4) (ht : -1 ≤ t ∧ t ≤ 15) (w : World) : Calls Try.prog 26 #[.agg #[.int .i64 k, .int .i64 t, .int .i64 i, .int .i64 l]] w (IntPost (frV k t) w) := by
  have h4' : (k == 4) = false := beq_eq_false_iff_ne.2 h4
  go_enter Try.func26, Try.ntmps26
  go_wp2
  go_ret
  exact ⟨ret_n (by unfold frV; omega), below_box _ _ _ _ _ _⟩

theorem word_open (t i l : Int) (hi : 0 ≤ i ∧ i ≤ 3) (hl : 1 ≤ l ∧ l ≤ 3) (w : World) : Calls Try.prog 26 #[.agg #[.int .i64 4, .int .i64 t, .int .i64 i, .int .i64 l]] w (IntPost (opV i l) w) := by
  go_enter Try.func26, Try.ntmps26
  go_wp2
  go_ret
  exact ⟨ret_n (by unfold opV; omega), below_box _ _ _ _ _ _⟩

theorem split_thread (x k q : Int) (hx : I64 x) (hk : x % 8 = k) (hq : x / 8 - 1 = q) (h4 : k ≠ 4) (w : World) : Calls Try.prog 28 #[.int .i64 x] w (SayPost k q (-1) 0 w) := by
  have HS := hide (Say.new w 0 0 0 0 33)
  have HB := hide (below_box w 0 0 0 0 33)
  have h4' : (k == 4) = false := beq_eq_false_iff_ne.2 h4
  have hw : wrap64 (x / 8 - 1) = q := by rw [wrap64_id (by unfold I64 at *; omega)]; exact hq
  have hb8 : bits .and .i64 x 7 = k := by rw [← hk]; exact bits_any x 3 (by decide)
  clear hk hq h4
  go_enter Try.func28, Try.ntmps28
  go_wp2_with (first
    | (go_at_call 27; rw [hw]; refine (ofThread_any _ _ _).mono ?_; rintro e w1 ⟨rfl, hb1⟩; obtain ⟨hlt, c0, c1, c2, c3, f0, f1, f2, f3⟩ := HS.out.keep hb1))
  refine bodyPost_ret (v := .agg #[.int .i64 k, .int .i64 q, .int .i64 (-1), .int .i64 0]) (by simp [results, Try.results28, go_sem, c0, c1, c2, c3]) rfl ⟨rfl, ?_⟩
  exact below_set4 (by simp) (below_next HB.out HB.out.size hb1) _ _ _ _

theorem split_open (x q : Int) (hx : I64 x) (hk : x % 8 = 4) (hq : x / 8 - 1 = q) (w : World) : Calls Try.prog 28 #[.int .i64 x] w (SayPost 4 (-1) (q / 16) (q % 16) w) := by
  have hw : wrap64 (x / 8 - 1) = q := by rw [wrap64_id (by unfold I64 at *; omega)]; exact hq
  have hb8 : bits .and .i64 x 7 = 4 := by rw [← hk]; exact bits_any x 3 (by decide)
  have hb15 : bits .and .i64 q 15 = q % 16 := bits_any q 4 (by decide)
  clear hk hq
  go_enter Try.func28, Try.ntmps28
  go_wp2
  refine bodyPost_ret (v := .agg #[.int .i64 4, .int .i64 (-1), .int .i64 (q / 16), .int .i64 (q % 16)]) (by simp [results, Try.results28, go_sem, hw]) rfl ⟨rfl, below_box _ _ _ _ _ _⟩

end Go.Proofs.Ytcbjkpblailfpaa
