/- The contract of read. -/
import Derived.Test.YtcbjkpblailfpaaCdB
import Derived.BigQuiet
namespace Go.Proofs.Ytcbjkpblailfpaa
open Go.RowKit Go.Sort

set_option maxHeartbeats 400000 in
theorem read_same (x k t i l : Int) (c1 : ∀ w, Calls Try.prog 28 #[.int .i64 x] w (SayPost k t i l w))
    (c2 : ∀ w, Calls Try.prog 29 #[.agg #[.int .i64 k, .int .i64 t, .int .i64 i, .int .i64 l]] w (SayPost k t i l w)) (w : World) :
    Calls Try.prog 25 #[.int .i64 x] w (SayPost k t i l w) := by
  have HS := hide (Say.new w 0 0 0 0 33)
  have HB := hide (below_box w 0 0 0 0 33)
  have c1 := fun w => hide (c1 w)
  have c2 := fun w => hide (c2 w)
  go_enter Try.func25, Try.ntmps25
  go_wp2_with (first
    | (go_at_call 28; refine ((c1 _).out).mono ?_; rintro e w1 ⟨rfl, hb1⟩))
  have HR := hide (Say.new w1 k t i l 33)
  have hBr := below_next HB.out HB.out.size (below_next hb1 hb1.size (below_box w1 k t i l 33))
  have HS1 := hide ((HS.out.keep hb1).keep (below_box w1 k t i l 33))
  clear HS HB hb1 c1
  generalize w1.heap.size = g at *
  generalize (w1.alloc (.cells #[.int .i64 k, .int .i64 t, .int .i64 i, .int .i64 l] 33)) = wr at *
  obtain ⟨hlt, r0, r1, r2, r3, _, _, _, _⟩ := HR.out
  have q0 := cell_regrown r0
  have q1 := cell_regrown r1
  have q2 := cell_regrown r2
  have q3 := cell_regrown r3
  have Q1 := hide (fun d os => Calls.regrown_of (w := wr) ((c2 (grow (redrawn wr d) os)).out))
  clear c2 r0 r1 r2 r3
  refine wp_region_quiet_below (by kernel_rfl) (by kernel_rfl) ?_
  repeat (go_big_quiet_step (first | (go_at_call 29; exact Q1.out _ _)))
  refine wpQuiet_nil ?_
  intro _ hw'
  obtain ⟨⟨dq, osq⟩, hw''⟩ := hw'
  subst hw''
  have HR2 := hide (HR.out.keep (below_regrown wr dq osq))
  have HS2 := hide (HS1.out.keep (below_regrown wr dq osq))
  have hBn := below_next hBr hBr.size (below_regrown wr dq osq)
  generalize grow (redrawn wr dq) osq = wq at *
  obtain ⟨_, r0, r1, r2, r3, _, _, _, _⟩ := HR2.out
  obtain ⟨_, s0, s1, s2, s3, f0, f1, f2, f3⟩ := HS2.out
  go_wp2
  refine bodyPost_ret (v := .agg #[.int .i64 k, .int .i64 t, .int .i64 i, .int .i64 l]) (by simp [results, Try.results25, go_sem, s0, s1, s2, s3]) rfl ⟨rfl, ?_⟩
  exact below_set4 (Nat.le_refl _) hBn _ _ _ _

theorem neq_say (k t i l k' t' i' l' : Int) (hne : ¬(k = k' ∧ t = t' ∧ i = i' ∧ l = l')) (u : World) : (binOp .neq 33 (.agg #[.int .i64 k, .int .i64 t, .int .i64 i, .int .i64 l]) (.agg #[.int .i64 k', .int .i64 t', .int .i64 i', .int .i64 l'])).run Try.prog u = .ok (.bool true) u := by
  by_cases h1 : k = k'
  · by_cases h2 : t = t'
    · by_cases h3 : i = i'
      · by_cases h4 : l = l'
        · exact absurd ⟨h1, h2, h3, h4⟩ hne
        · simp [go_sem, h1, h2, h3, h4]
      · simp [go_sem, h1, h2, h3]
    · simp [go_sem, h1, h2]
  · simp [go_sem, h1]
set_option maxHeartbeats 400000 in
theorem read_other (x k t i l k' t' i' l' : Int) (hne : ¬(k = k' ∧ t = t' ∧ i = i' ∧ l = l')) (c1 : ∀ w, Calls Try.prog 28 #[.int .i64 x] w (SayPost k t i l w))
    (c2 : ∀ w, Calls Try.prog 29 #[.agg #[.int .i64 k, .int .i64 t, .int .i64 i, .int .i64 l]] w (SayPost k' t' i' l' w)) (w : World) :
    Calls Try.prog 25 #[.int .i64 x] w (SayPost (-1) (-1) (-1) 0 w) := by
  have HS := hide (Say.new w 0 0 0 0 33)
  have HB := hide (below_box w 0 0 0 0 33)
  have he := neq_say k t i l k' t' i' l' hne
  clear hne
  have c1 := fun w => hide (c1 w)
  have c2 := fun w => hide (c2 w)
  go_enter Try.func25, Try.ntmps25
  go_wp2_with (first
    | (go_at_call 28; refine ((c1 _).out).mono ?_; rintro e w1 ⟨rfl, hb1⟩))
  have HR := hide (Say.new w1 k t i l 33)
  have hBr := below_next HB.out HB.out.size (below_next hb1 hb1.size (below_box w1 k t i l 33))
  have HS1 := hide ((HS.out.keep hb1).keep (below_box w1 k t i l 33))
  clear HS HB hb1 c1
  generalize w1.heap.size = g at *
  generalize (w1.alloc (.cells #[.int .i64 k, .int .i64 t, .int .i64 i, .int .i64 l] 33)) = wr at *
  obtain ⟨hlt, r0, r1, r2, r3, _, _, _, _⟩ := HR.out
  have q0 := cell_regrown r0
  have q1 := cell_regrown r1
  have q2 := cell_regrown r2
  have q3 := cell_regrown r3
  have Q1 := hide (fun d os => Calls.regrown_of (w := wr) ((c2 (grow (redrawn wr d) os)).out))
  clear c2 r0 r1 r2 r3
  refine wp_region_quiet_below (by kernel_rfl) (by kernel_rfl) ?_
  repeat (go_big_quiet_step (first | (go_at_call 29; exact Q1.out _ _)))
  refine wpQuiet_nil ?_
  intro _ hw'
  obtain ⟨⟨dq, osq⟩, hw''⟩ := hw'
  subst hw''
  have HS2 := hide (HS1.out.keep (below_regrown wr dq osq))
  have hBn := below_next hBr hBr.size (below_regrown wr dq osq)
  generalize grow (redrawn wr dq) osq = wq at *
  go_wp2_with (first
    | (go_at_call 30; refine (nothing_any _).mono ?_; rintro e w2 ⟨rfl, hb2⟩; obtain ⟨_, s0, s1, s2, s3, f0, f1, f2, f3⟩ := HS2.out.keep hb2))
  refine bodyPost_ret (v := .agg #[.int .i64 (-1), .int .i64 (-1), .int .i64 (-1), .int .i64 0]) (by simp [results, Try.results25, go_sem, s0, s1, s2, s3]) rfl ⟨rfl, ?_⟩
  exact below_set4 (Nat.le_refl _) (below_next hBn hBn.size hb2) _ _ _ _
end Go.Proofs.Ytcbjkpblailfpaa
