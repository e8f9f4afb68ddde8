/- The walk of OperBounds: it returns true, and turns nothing that was there. -/
import Derived.Test.YtncemiifbknnnaaWalksA
namespace Go.Proofs.Ytncemiifbknnnaa
open Go.RowKit

theorem bounds_put (v x lo hi : Int) (hl : I64 lo) (hh : I64 hi) :
    (putB x v lo hi = false ∧ putV x v lo hi = x) ∨ ∃ y, putB x v lo hi = true ∧ putV x v lo hi = y ∧ lo ≤ y ∧ y ≤ hi ∧ wrap64 (x + v) = y ∧ (0 ≤ v ∧ x ≤ y ∨ v < 0 ∧ y < x) := by
  cases hp : putB x v lo hi
  · exact .inl ⟨rfl, by simp [putV, hp]⟩
  · have e : putV x v lo hi = x + v := by simp [putV, hp]
    simp [putB] at hp
    exact .inr ⟨x + v, rfl, e, by omega, by omega, wrap64_id (by unfold I64 at *; omega), by omega⟩

set_option maxHeartbeats 1000000 in
theorem walkBoundsPut (v x lo hi : Int) (w0 : I64 v) (w1 : I64 x) (w2 : I64 lo) (w3 : I64 hi) (h1 : lo ≤ x) (h2 : x ≤ hi) (w : World) :
    Calls Try.prog 4 #[.int .i64 v, .int .i64 x, .int .i64 lo, .int .i64 hi, .bool false] w (ShownPost w) := by
  go_enter Try.func4, Try.ntmps4
  go_wp2_with (go_at_call 16; refine (shown_any _).mono ?_; rintro e u ⟨rfl, hb⟩)
  rcases bounds_put v x lo hi w2 w3 with ⟨e1, e2⟩ | ⟨y, e1, e2, hy1, hy2, e3, hs⟩
  · refine (apply_is _ _ _ _ _ x false _ w1 w0 w2 w3 ((apV8 _ _ _ _).1.trans e2) ((apV8 _ _ _ _).2.trans e1)).mono ?_
    clear e1 e2
    rintro e u1 ⟨rfl, hb1⟩
    have s := hb.size
    have hB : Below w.heap.size w u1 := (hb.alloc s _).trans (hb1.mono (by simp; omega))
    clear hb hb1 s
    go_wp2
    go_ret
    exact ⟨rfl, hB⟩
  · refine (apply_is _ _ _ _ _ y true _ w1 w0 w2 w3 ((apV8 _ _ _ _).1.trans e2) ((apV8 _ _ _ _).2.trans e1)).mono ?_
    clear e1 e2
    rintro e u1 ⟨rfl, hb1⟩
    have s := hb.size
    have hB : Below w.heap.size w u1 := (hb.alloc s _).trans (hb1.mono (by simp; omega))
    clear hb hb1 s
    have HQ := hide (show (decide (0 ≤ v) == decide (x ≤ y)) = true by rw [beq_iff_eq, decide_eq_decide]; omega)
    clear hs
    go_wp2
    go_ret
    exact ⟨ret_b HQ.out.symm, hB⟩

theorem bounds_take (v x lo : Int) (hv : I64 v) (h1 : lo ≤ x) :
    (v < 0 ∧ takeB x v lo = false ∧ takeV x v lo = x) ∨ ∃ y, 0 ≤ v ∧ takeB x v lo = true ∧ takeV x v lo = y ∧ lo ≤ y ∧ y ≤ x ∧
      (IntKind.u64.wrap (IntKind.u64.wrap x - IntKind.u64.wrap y) ≤ IntKind.u64.wrap v) ∧ (y = lo ∨ (y == lo) = false ∧ (IntKind.u64.wrap (IntKind.u64.wrap x - IntKind.u64.wrap y) == IntKind.u64.wrap v) = true) := by
  rcases Int.lt_or_le v 0 with h0 | h0
  · obtain ⟨e1, e2⟩ := take_no (x := x) (lo := lo) (.inl h0)
    exact .inl ⟨h0, e1, e2⟩
  · rcases Int.lt_or_le v (x - lo) with h3 | h3
    · obtain ⟨e1, e2⟩ := take_some h0 h1 h3
      refine .inr ⟨x - v, h0, e1, e2, by omega, by omega, ?_, .inr ⟨by rw [beq_eq_false_iff_ne]; omega, ?_⟩⟩
      · unfold I64 at hv; simp only [u64_wrap]; omega
      · rw [beq_iff_eq]; unfold I64 at hv; simp only [u64_wrap]; omega
    · obtain ⟨e1, e2⟩ := take_all h0 h1 h3
      refine .inr ⟨lo, h0, e1, e2, by omega, by omega, ?_, .inl rfl⟩
      unfold I64 at hv; simp only [u64_wrap]; omega

set_option maxHeartbeats 1000000 in
theorem walkBoundsTake (v x lo hi : Int) (w0 : I64 v) (w1 : I64 x) (w2 : I64 lo) (w3 : I64 hi) (h1 : lo ≤ x) (h2 : x ≤ hi) (w : World) :
    Calls Try.prog 4 #[.int .i64 v, .int .i64 x, .int .i64 lo, .int .i64 hi, .bool true] w (ShownPost w) := by
  go_enter Try.func4, Try.ntmps4
  go_wp2_with (go_at_call 16; refine (shown_any _).mono ?_; rintro e u ⟨rfl, hb⟩)
  rcases bounds_take v x lo w0 h1 with ⟨h0, e1, e2⟩ | ⟨y, h0, e1, e2, hy1, hy2, hle, hs⟩
  · refine (apply_is _ _ _ _ _ x false _ w1 w0 w2 w3 ((apV9 _ _ _ _).1.trans e2) ((apV9 _ _ _ _).2.trans e1)).mono ?_
    clear e1 e2
    rintro e u1 ⟨rfl, hb1⟩
    have s := hb.size
    have hB : Below w.heap.size w u1 := (hb.alloc s _).trans (hb1.mono (by simp; omega))
    clear hb hb1 s
    go_wp2
    go_ret
    exact ⟨ret_b (p := !decide (0 ≤ v)) (by simp; omega), hB⟩
  · refine (apply_is _ _ _ _ _ y true _ w1 w0 w2 w3 ((apV9 _ _ _ _).1.trans e2) ((apV9 _ _ _ _).2.trans e1)).mono ?_
    clear e1 e2
    rintro e u1 ⟨rfl, hb1⟩
    have s := hb.size
    have hB : Below w.heap.size w u1 := (hb.alloc s _).trans (hb1.mono (by simp; omega))
    clear hb hb1 s
    rcases hs with rfl | ⟨hs1, hs2⟩
    all_goals
      go_wp2
      go_ret
      exact ⟨rfl, hB⟩

set_option maxHeartbeats 1000000 in
theorem walkBoundsOut (v x lo hi : Int) (t : Bool) (h : x < lo ∨ hi < x) (w : World) :
    Calls Try.prog 4 #[.int .i64 v, .int .i64 x, .int .i64 lo, .int .i64 hi, .bool t] w (ShownPost w) := by
  rcases h with h | h
  all_goals
    go_enter Try.func4, Try.ntmps4
    go_wp2_with (go_at_call 16; refine (shown_any _).mono ?_; rintro e u ⟨rfl, hb⟩)
    all_goals
      go_ret
      exact ⟨rfl, hb⟩

theorem walkBounds (v x lo hi : Int) (t : Bool) (w0 : I64 v) (w1 : I64 x) (w2 : I64 lo) (w3 : I64 hi) (w : World) :
    Calls Try.prog 4 #[.int .i64 v, .int .i64 x, .int .i64 lo, .int .i64 hi, .bool t] w (ShownPost w) := by
  by_cases h : x < lo ∨ hi < x
  · exact walkBoundsOut v x lo hi t h w
  · cases t
    · exact walkBoundsPut v x lo hi w0 w1 w2 w3 (by omega) (by omega) w
    · exact walkBoundsTake v x lo hi w0 w1 w2 w3 (by omega) (by omega) w
end Go.Proofs.Ytncemiifbknnnaa
