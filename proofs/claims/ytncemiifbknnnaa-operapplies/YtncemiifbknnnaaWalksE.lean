/- The walk of OperApplies: it returns true, and turns nothing that was there. -/
import Derived.Test.YtncemiifbknnnaaRef
import Derived.Lib.QuietBelow
import Derived.Deep.QuietTactic
namespace Go.Proofs.Ytncemiifbknnnaa
open Go.RowKit Go.Sort

theorem b_of_same {P : Program} {f : FuncId} {args : Array Value} {w : World} {v : Value} (h : Calls P f args w fun e w' => e = .returned v ∧ w = w') :
    Calls P f args w fun e w' => e = .returned v ∧ Below w.heap.size w w' := h.mono fun _ _ ⟨he, hw⟩ => ⟨he, by subst hw; exact Below.refl _ _⟩

set_option maxHeartbeats 1000000 in
theorem walkApplies (t v x lo hi : Int) (bd : Bool) (wv : I64 v) (w1 : I64 x) (w2 : I64 lo) (w3 : I64 hi) (w : World) :
    Calls Try.prog 3 #[.agg #[.int .i64 t, .int .i64 v], .int .i64 x, .int .i64 lo, .int .i64 hi, .bool bd] w (ShownPost w) := by
  obtain ⟨y, hy⟩ : ∃ y, apV t v x lo hi = y := ⟨_, rfl⟩
  obtain ⟨is, hi1⟩ : ∃ y, apB t v x lo hi = y := ⟨_, rfl⟩
  have Y := hide hy; have I := hide hi1
  clear hy hi1
  go_enter Try.func3, Try.ntmps3
  go_wp2_with fail
  refine (apply_is _ _ _ _ _ _ _ _ w1 wv w2 w3 Y.out I.out).mono ?_
  rintro e u1 ⟨rfl, hb1⟩
  have c1 := hb1.cell (p := ⟨w.heap.size, 0, none⟩) (by simp)
  have c2 := hb1.cell (p := ⟨w.heap.size, 1, none⟩) (by simp)
  have s1 : w.heap.size + 1 ≤ u1.heap.size := by simpa using hb1.size
  go_wp2_with fail
  refine (rapply_any _ _ _ _ _ _ w1 wv w2 w3).mono ?_
  rintro e u2 ⟨rfl, hb2⟩
  rw [Y.out, I.out]
  have c3 : u2.cell? ⟨w.heap.size, 0, none⟩ = some (.int .i64 t) := by
    rw [hb2.cell (p := ⟨w.heap.size, 0, none⟩) (by simp; omega), c1]; simp [go_sem]
  have c4 : u2.cell? ⟨w.heap.size, 1, none⟩ = some (.int .i64 v) := by
    rw [hb2.cell (p := ⟨w.heap.size, 1, none⟩) (by simp; omega), c2]; simp [go_sem]
  have s2 := hb2.size
  have hB : Below w.heap.size w u2 := (((Below.refl _ _).alloc (Nat.le_refl _) _).trans (hb1.mono (by simp))).trans (hb2.mono (by omega))
  clear c1 c2 hb1 hb2 s1 s2
  go_wp2_with fail
  have k1 := cell_regrown c3
  have k2 := cell_regrown c4
  clear c3 c4
  obtain ⟨m, hm⟩ : ∃ m, mayB t v bd = m := ⟨_, rfl⟩
  obtain ⟨k, hk⟩ : ∃ m, knownB t = m := ⟨_, rfl⟩
  have q1 : ∀ d os, Calls Try.prog 12 #[.agg #[.int .i64 t, .int .i64 v], .bool bd] (grow (redrawn u2 d) os) fun e w'' => e = .returned (.bool m) ∧ ∃ p : Regrown, w'' = grow (redrawn u2 p.d) p.os := fun d os => Calls.regrown_of (hm ▸ may_any t v bd _)
  have q2 : ∀ d os, Calls Try.prog 13 #[.agg #[.int .i64 t, .int .i64 v], .bool bd] (grow (redrawn u2 d) os) fun e w'' => e = .returned (.bool m) ∧ ∃ p : Regrown, w'' = grow (redrawn u2 p.d) p.os := fun d os => Calls.regrown_of (hm ▸ rmay_any t v bd _)
  have q3 : ∀ d os, Calls Try.prog 14 #[.int .i64 t] (grow (redrawn u2 d) os) fun e w'' => e = .returned (.bool k) ∧ ∃ p : Regrown, w'' = grow (redrawn u2 p.d) p.os := fun d os => Calls.regrown_of (b_of_same (hk ▸ known_any t _))
  have q4 : ∀ d os, Calls Try.prog 15 #[.int .i64 t] (grow (redrawn u2 d) os) fun e w'' => e = .returned (.bool k) ∧ ∃ p : Regrown, w'' = grow (redrawn u2 p.d) p.os := fun d os => Calls.regrown_of (b_of_same (hk ▸ rknown_any t _))
  have q5 : ∀ d os, Calls Try.prog 16 #[] (grow (redrawn u2 d) os) fun e w'' => e = .returned (.bool true) ∧ ∃ p : Regrown, w'' = grow (redrawn u2 p.d) p.os := fun d os => Calls.regrown_of (shown_any _)
  have Q1 := hide q1; have Q2 := hide q2; have Q3 := hide q3; have Q4 := hide q4; have Q5 := hide q5
  clear q1 q2 q3 q4 q5 hm hk
  refine wp_region_quiet_below (by kernel_rfl) (by kernel_rfl) ?_
  repeat (quiet_step (first | (go_at_call 12; exact Q1.out _ _) | (go_at_call 13; exact Q2.out _ _) | (go_at_call 14; exact Q3.out _ _) | (go_at_call 15; exact Q4.out _ _) | (go_at_call 16; exact Q5.out _ _)))
  refine wpQuiet_nil ?_
  intro _ hw'
  obtain ⟨⟨dq, osq⟩, hw''⟩ := hw'
  subst hw''
  go_wp2
  go_ret
  exact ⟨rfl, hB.trans ((below_regrown u2 dq osq).mono hB.size)⟩

end Go.Proofs.Ytncemiifbknnnaa
