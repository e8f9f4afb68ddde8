/- Contracts of the program's calls of layer 8. -/
import Derived.Test.YtcbjkpblailfpaaCdC
namespace Go.Proofs.Ytcbjkpblailfpaa
open Go.RowKit Go.Sort

theorem cl_id {n a b : Int} (h1 : a ≤ n) (h2 : n ≤ b) : clV n a b = n := by unfold clV; rw [if_neg (by omega), if_neg (by omega)]
theorem cl_ne {n a b : Int} (_ : a ≤ b) (h : n < a ∨ b < n) : n ≠ clV n a b := by
  unfold clV
  repeat' split
  all_goals omega
theorem say_nothing {x : Int} (h : kdV x = -1) : whV x = -1 ∧ itV x = -1 ∧ lyV x = 0 := by
  unfold whV itV lyV
  rw [h]
  exact ⟨rfl, rfl, rfl⟩
theorem say_end {x : Int} (h : kdV x = 0 ∨ kdV x = 5) : whV x = -1 ∧ itV x = -1 ∧ lyV x = 0 := by
  unfold whV itV lyV
  rcases h with h | h <;> rw [h] <;> exact ⟨rfl, rfl, rfl⟩
theorem say_thread {x : Int} (h : 1 ≤ kdV x ∧ kdV x ≤ 3) : whV x = x / 8 - 1 ∧ itV x = -1 ∧ lyV x = 0 := by
  unfold whV itV lyV
  rw [if_pos h, if_neg (by omega), if_neg (by omega)]
  exact ⟨rfl, rfl, rfl⟩
theorem say_open {x : Int} (h : kdV x = 4) : whV x = -1 ∧ itV x = (x / 8 - 1) / 16 ∧ lyV x = (x / 8 - 1) % 16 := by
  unfold whV itV lyV
  rw [h]
  exact ⟨rfl, rfl, rfl⟩

theorem read_none (x k t i l k' t' i' l' : Int) (hne : ¬(k = k' ∧ t = t' ∧ i = i' ∧ l = l')) (hk : kdV x = -1) (c1 : ∀ w, Calls Try.prog 28 #[.int .i64 x] w (SayPost k t i l w))
    (c2 : ∀ w, Calls Try.prog 29 #[.agg #[.int .i64 k, .int .i64 t, .int .i64 i, .int .i64 l]] w (SayPost k' t' i' l' w)) (w : World) :
    Calls Try.prog 25 #[.int .i64 x] w (SayPost (kdV x) (whV x) (itV x) (lyV x) w) := by
  obtain ⟨h1, h2, h3⟩ := say_nothing hk
  rw [hk, h1, h2, h3]
  exact read_other x k t i l k' t' i' l' hne c1 c2 w

theorem read_any (x : Int) (hx : I64 x) (w : World) : Calls Try.prog 25 #[.int .i64 x] w (SayPost (kdV x) (whV x) (itV x) (lyV x) w) := by
  obtain ⟨q, hq⟩ : ∃ q, x / 8 - 1 = q := ⟨_, rfl⟩
  have hr : x % 8 = 0 ∨ x % 8 = 1 ∨ x % 8 = 2 ∨ x % 8 = 3 ∨ x % 8 = 4 ∨ x % 8 = 5 ∨ x % 8 = 6 ∨ x % 8 = 7 := by omega
  have ends : ∀ k : Int, (∀ t i l w, Calls Try.prog 29 #[.agg #[.int .i64 k, .int .i64 t, .int .i64 i, .int .i64 l]] w (SayPost k (-1) i l w)) → (k = 0 ∨ k = 5) → x % 8 = k → Calls Try.prog 25 #[.int .i64 x] w (SayPost (kdV x) (whV x) (itV x) (lyV x) w) := by
    intro k hc hk hr
    by_cases h : q = -1
    · have hkd : kdV x = k := by
        rcases hk with rfl | rfl
        · obtain rfl : x = 0 := by omega
          rfl
        · obtain rfl : x = 5 := by omega
          rfl
      obtain ⟨h1, h2, h3⟩ := say_end (by rw [hkd]; exact hk)
      rw [hkd, h1, h2, h3]
      subst h
      exact read_same x k (-1) (-1) 0 (split_thread x k (-1) hx hr hq (by omega)) (hc _ _ _) w
    · have hkd : kdV x = -1 := by
        unfold kdV
        rw [if_neg (by omega), if_neg (by omega), if_neg (by omega), if_neg (by omega)]
      exact read_none x k q (-1) 0 k (-1) (-1) 0 (by omega) hkd (split_thread x k q hx hr hq (by omega)) (hc _ _ _) w
  have threads : ∀ k : Int, (∀ t i l w, Calls Try.prog 29 #[.agg #[.int .i64 k, .int .i64 t, .int .i64 i, .int .i64 l]] w (SayPost k (clV t 0 15) i l w)) → (1 ≤ k ∧ k ≤ 3) → x % 8 = k → Calls Try.prog 25 #[.int .i64 x] w (SayPost (kdV x) (whV x) (itV x) (lyV x) w) := by
    intro k hc hk hr
    by_cases h : 0 ≤ q ∧ q ≤ 15
    · have hkd : kdV x = k := by
        unfold kdV
        rw [if_neg (by omega), if_neg (by omega), if_pos (by omega)]
        exact hr
      obtain ⟨h1, h2, h3⟩ := say_thread (by rw [hkd]; exact hk)
      rw [hkd, h1, h2, h3, hq]
      have c2 := hc q (-1) 0
      rw [cl_id h.1 h.2] at c2
      exact read_same x k q (-1) 0 (split_thread x k q hx hr hq (by omega)) c2 w
    · have hkd : kdV x = -1 := by
        unfold kdV
        rw [if_neg (by omega), if_neg (by omega), if_neg (by omega), if_neg (by omega)]
      exact read_none x k q (-1) 0 k (clV q 0 15) (-1) 0 (fun hh => cl_ne (by omega) (by omega) hh.2.1) hkd (split_thread x k q hx hr hq (by omega)) (hc _ _ _) w
  have nones : ∀ k : Int, (∀ t i l w, Calls Try.prog 29 #[.agg #[.int .i64 k, .int .i64 t, .int .i64 i, .int .i64 l]] w (SayPost (-1) (-1) (-1) 0 w)) → (6 ≤ k ∧ k ≤ 7) → x % 8 = k → Calls Try.prog 25 #[.int .i64 x] w (SayPost (kdV x) (whV x) (itV x) (lyV x) w) := by
    intro k hc hk hr
    have hkd : kdV x = -1 := by
      unfold kdV
      rw [if_neg (by omega), if_neg (by omega), if_neg (by omega), if_neg (by omega)]
    exact read_none x k q (-1) 0 (-1) (-1) (-1) 0 (by omega) hkd (split_thread x k q hx hr hq (by omega)) (hc _ _ _) w
  rcases hr with hr | hr | hr | hr | hr | hr | hr | hr
  · exact ends 0 nearest_0 (by omega) hr
  · exact threads 1 nearest_1 (by omega) hr
  · exact threads 2 nearest_2 (by omega) hr
  · exact threads 3 nearest_3 (by omega) hr
  · by_cases h : 0 ≤ q / 16 ∧ q / 16 ≤ 3 ∧ 1 ≤ q % 16 ∧ q % 16 ≤ 3
    · have hkd : kdV x = 4 := by
        unfold kdV
        rw [if_neg (by omega), if_neg (by omega), if_neg (by omega), if_pos (by omega)]
      obtain ⟨h1, h2, h3⟩ := say_open hkd
      rw [hkd, h1, h2, h3, hq]
      have c2 := nearest_4 (-1) (q / 16) (q % 16)
      rw [cl_id h.1 h.2.1, cl_id h.2.2.1 h.2.2.2] at c2
      exact read_same x 4 (-1) (q / 16) (q % 16) (split_open x q hx hr hq) c2 w
    · have hkd : kdV x = -1 := by
        unfold kdV
        rw [if_neg (by omega), if_neg (by omega), if_neg (by omega), if_neg (by omega)]
      refine read_none x 4 (-1) (q / 16) (q % 16) 4 (-1) (clV (q / 16) 0 3) (clV (q % 16) 1 3) (fun hh => ?_) hkd (split_open x q hx hr hq) (nearest_4 _ _ _) w
      by_cases h5 : 0 ≤ q / 16 ∧ q / 16 ≤ 3
      · exact cl_ne (by omega) (by omega) hh.2.2.2
      · exact cl_ne (by omega) (by omega) hh.2.2.1
  · exact ends 5 nearest_5 (by omega) hr
  · exact nones 6 nearest_6 (by omega) hr
  · exact nones 7 nearest_7 (by omega) hr

theorem kind_any (x : Int) (hx : I64 x) (w : World) : Calls Try.prog 10 #[.int .i64 x] w (IntPost (kdV x) w) := by
  have c := fun w => hide (read_any x hx w)
  have hf : ∀ u : World, (Instr.field 33 (.agg #[.int .i64 (kdV x), .int .i64 (whV x), .int .i64 (itV x), .int .i64 (lyV x)]) 0).run Try.prog u = .ok (.int .i64 (kdV x)) u := fun _ => by simp [Instr.field, asAgg, go_sem]
  go_enter Try.func10, Try.ntmps10
  go_wp2_with (first | (go_at_call 25; refine ((c _).out).mono ?_; rintro e w1 ⟨rfl, hb1⟩))
  go_ret
  exact ⟨rfl, hb1⟩
theorem who_any (x : Int) (hx : I64 x) (w : World) : Calls Try.prog 12 #[.int .i64 x] w (IntPost (whV x) w) := by
  have c := fun w => hide (read_any x hx w)
  have hf : ∀ u : World, (Instr.field 33 (.agg #[.int .i64 (kdV x), .int .i64 (whV x), .int .i64 (itV x), .int .i64 (lyV x)]) 1).run Try.prog u = .ok (.int .i64 (whV x)) u := fun _ => by simp [Instr.field, asAgg, go_sem]
  go_enter Try.func12, Try.ntmps12
  go_wp2_with (first | (go_at_call 25; refine ((c _).out).mono ?_; rintro e w1 ⟨rfl, hb1⟩))
  go_ret
  exact ⟨rfl, hb1⟩
def PairPost (a b : Int) (w : World) (e : Ending) (w' : World) : Prop := e = .returned (.tuple #[.int .i64 a, .int .i64 b]) ∧ Below w.heap.size w w'
theorem where_any (x : Int) (hx : I64 x) (w : World) : Calls Try.prog 8 #[.int .i64 x] w (PairPost (itV x) (lyV x) w) := by
  have c := fun w => hide (read_any x hx w)
  go_enter Try.func8, Try.ntmps8
  go_wp2_with (first | (go_at_call 25; refine ((c _).out).mono ?_; rintro e w1 ⟨rfl, hb1⟩))
  have HR := hide (Say.new w1 (kdV x) (whV x) (itV x) (lyV x) 33)
  have hBr := below_next hb1 hb1.size (below_box w1 (kdV x) (whV x) (itV x) (lyV x) 33)
  generalize w1.heap.size = g at *
  generalize (w1.alloc (.cells #[.int .i64 (kdV x), .int .i64 (whV x), .int .i64 (itV x), .int .i64 (lyV x)] 33)) = wr at *
  obtain ⟨hlt, r0, r1, r2, r3, _, _, _, _⟩ := HR.out
  go_quiet (fail)
  go_wp2
  go_ret2
  exact ⟨rfl, below_drewN hBr _⟩

theorem first_any (t : Int) (ht : 0 ≤ t ∧ t ≤ 15) (w : World) : Calls Try.prog 15 #[.int .i64 t] w (IntPost (frV 1 t) w) := by
  have c := fun w => hide (word_thread 1 t (-1) 0 (by omega) (by omega) (by omega) w)
  go_enter Try.func15, Try.ntmps15
  go_wp2_with (first | (go_at_call 27; refine (ofThread_any _ _ _).mono ?_; rintro e w1 ⟨rfl, hb1⟩) | (go_at_call 26; refine ((c _).out).mono ?_; rintro e w2 ⟨rfl, hb2⟩))
  go_ret
  exact ⟨rfl, below_next hb1 hb1.size hb2⟩
theorem joined_any (t : Int) (ht : 0 ≤ t ∧ t ≤ 15) (w : World) : Calls Try.prog 17 #[.int .i64 t] w (IntPost (frV 2 t) w) := by
  have c := fun w => hide (word_thread 2 t (-1) 0 (by omega) (by omega) (by omega) w)
  go_enter Try.func17, Try.ntmps17
  go_wp2_with (first | (go_at_call 27; refine (ofThread_any _ _ _).mono ?_; rintro e w1 ⟨rfl, hb1⟩) | (go_at_call 26; refine ((c _).out).mono ?_; rintro e w2 ⟨rfl, hb2⟩))
  go_ret
  exact ⟨rfl, below_next hb1 hb1.size hb2⟩
theorem deposited_any (t : Int) (ht : 0 ≤ t ∧ t ≤ 15) (w : World) : Calls Try.prog 19 #[.int .i64 t] w (IntPost (frV 3 t) w) := by
  have c := fun w => hide (word_thread 3 t (-1) 0 (by omega) (by omega) (by omega) w)
  go_enter Try.func19, Try.ntmps19
  go_wp2_with (first | (go_at_call 27; refine (ofThread_any _ _ _).mono ?_; rintro e w1 ⟨rfl, hb1⟩) | (go_at_call 26; refine ((c _).out).mono ?_; rintro e w2 ⟨rfl, hb2⟩))
  go_ret
  exact ⟨rfl, below_next hb1 hb1.size hb2⟩
theorem told_any (w : World) : Calls Try.prog 23 #[] w (IntPost 5 w) := by
  have c := fun w => hide (word_thread 5 (-1) (-1) 0 (by omega) (by omega) (by omega) w)
  go_enter Try.func23, Try.ntmps23
  go_wp2_with (first | (go_at_call 27; refine (ofThread_any _ _ _).mono ?_; rintro e w1 ⟨rfl, hb1⟩) | (go_at_call 26; refine ((c _).out).mono ?_; rintro e w2 ⟨rfl, hb2⟩))
  go_ret
  exact ⟨rfl, below_next hb1 hb1.size hb2⟩
theorem open_any (i l : Int) (hi : 0 ≤ i ∧ i ≤ 3) (hl : 1 ≤ l ∧ l ≤ 3) (w : World) : Calls Try.prog 21 #[.int .i64 i, .int .i64 l] w (IntPost (opV i l) w) := by
  have c := fun w => hide (word_open (-1) i l hi hl w)
  go_enter Try.func21, Try.ntmps21
  go_wp2_with (first | (go_at_call 26; refine ((c _).out).mono ?_; rintro e w2 ⟨rfl, hb2⟩))
  go_ret
  exact ⟨rfl, hb2⟩
end Go.Proofs.Ytcbjkpblailfpaa
