/- Contracts of the document's own answers for layer 1: the same plain mathematics. -/
import Derived.Test.YtjibnocgbbohlaaOps
namespace Go.Proofs.Ytjibnocgbbohlaa
open Go.RowKit

theorem rput_no {x v lo hi : Int} (hx : I64 x) (hv : I64 v) (hl : I64 lo) (hh : I64 hi) (h : ¬(0 ≤ v ↔ x ≤ wrap64 (x + v)) ∨ wrap64 (x + v) < lo ∨ hi < wrap64 (x + v)) :
    apV 8 v x lo hi = x ∧ apB 8 v x lo hi = false := by
  have hb : putB x v lo hi = false := put_no hx hv hl hh (by omega)
  rw [(apV8 v x lo hi).1, (apV8 v x lo hi).2]
  exact ⟨by simp [putV, hb], hb⟩
theorem rput_yes {x v lo hi : Int} (hx : I64 x) (hv : I64 v) (h : 0 ≤ v ↔ x ≤ wrap64 (x + v)) (h1 : lo ≤ wrap64 (x + v)) (h2 : wrap64 (x + v) ≤ hi) :
    apV 8 v x lo hi = wrap64 (x + v) ∧ apB 8 v x lo hi = true := by
  obtain ⟨hb, e⟩ := put_yes hx hv (by omega) h1 h2
  rw [(apV8 v x lo hi).1, (apV8 v x lo hi).2]
  exact ⟨by simp [putV, hb, e], hb⟩

set_option maxHeartbeats 400000 in
theorem rsum_any (a b : Int) (w : World) : Calls Try.prog 29 #[.int .i64 a, .int .i64 b] w fun e w' => e = .returned (.tuple #[.int .i64 (wrap64 (a + b)), .bool (decide (0 ≤ b) == decide (a ≤ wrap64 (a + b)))]) ∧ w = w' := by
  go_enter Try.func29, Try.ntmps29
  go_wp2
  go_ret2
  exact ⟨rfl, rfl⟩

set_option maxHeartbeats 1000000 in
theorem rapply_any (t v x lo hi : Int) (w : World) (hx : I64 x) (hv : I64 v) (hl : I64 lo) (hh : I64 hi) :
    Calls Try.prog 26 #[.agg #[.int .i64 t, .int .i64 v], .int .i64 x, .int .i64 lo, .int .i64 hi] w (ApPost t v x lo hi w) := by
  by_cases h7 : t < 1 ∨ 9 < t
  · obtain ⟨e1, e2⟩ := apV_else t v x lo hi h7
    have E1 := hide e1; have E2 := hide e2; clear e1 e2
    rcases h7 with h7 | h7
    all_goals
      go_enter Try.func26, Try.ntmps26
      go_wp2
      go_ret2
      exact ⟨ret_ib E1.out E2.out, (Below.refl _ _).alloc (Nat.le_refl _) _⟩
  have h : t = 1 ∨ t = 2 ∨ t = 3 ∨ t = 4 ∨ t = 5 ∨ t = 6 ∨ t = 7 ∨ t = 8 ∨ t = 9 := by omega
  clear h7
  rcases h with h | h | h | h | h | h | h | h | h
  · subst h
    go_enter Try.func26, Try.ntmps26
    go_wp2
    go_ret2
    exact ⟨ret_ib (apV1 v x lo hi).1 (apV1 v x lo hi).2, (Below.refl _ _).alloc (Nat.le_refl _) _⟩
  · subst h
    go_enter Try.func26, Try.ntmps26
    go_wp2
    go_ret2
    exact ⟨ret_ib (apV2 v x lo hi).1 (apV2 v x lo hi).2, (Below.refl _ _).alloc (Nat.le_refl _) _⟩
  · subst h
    go_enter Try.func26, Try.ntmps26
    go_wp2
    go_ret2
    exact ⟨ret_ib (apV3 v x lo hi).1 (apV3 v x lo hi).2, (Below.refl _ _).alloc (Nat.le_refl _) _⟩
  · subst h
    go_enter Try.func26, Try.ntmps26
    go_wp2
    go_ret2
    exact ⟨ret_ib (apV4 v x lo hi).1 (apV4 v x lo hi).2, (Below.refl _ _).alloc (Nat.le_refl _) _⟩
  · subst h
    rcases Int.lt_trichotomy x v with hc | hc | hc
    · have E := hide (show apV 5 v x lo hi = v by rw [(apV5 v x lo hi).1, if_pos (by omega)])
      go_enter Try.func26, Try.ntmps26
      go_wp2
      go_ret2
      exact ⟨ret_ib E.out (apV5 v x lo hi).2, (Below.refl _ _).alloc (Nat.le_refl _) _⟩
    · subst hc
      have E := hide (show apV 5 x x lo hi = x by rw [(apV5 x x lo hi).1]; split <;> rfl)
      go_enter Try.func26, Try.ntmps26
      go_wp2
      go_ret2
      exact ⟨ret_ib E.out (apV5 x x lo hi).2, (Below.refl _ _).alloc (Nat.le_refl _) _⟩
    · have E := hide (show apV 5 v x lo hi = x by rw [(apV5 v x lo hi).1, if_neg (by omega)])
      go_enter Try.func26, Try.ntmps26
      go_wp2
      go_ret2
      exact ⟨ret_ib E.out (apV5 v x lo hi).2, (Below.refl _ _).alloc (Nat.le_refl _) _⟩
  · subst h
    rcases Int.lt_trichotomy x v with hc | hc | hc
    · have E := hide (show apV 6 v x lo hi = x by rw [(apV6 v x lo hi).1, if_pos (by omega)])
      go_enter Try.func26, Try.ntmps26
      go_wp2
      go_ret2
      exact ⟨ret_ib E.out (apV6 v x lo hi).2, (Below.refl _ _).alloc (Nat.le_refl _) _⟩
    · subst hc
      have E := hide (show apV 6 x x lo hi = x by rw [(apV6 x x lo hi).1]; split <;> rfl)
      go_enter Try.func26, Try.ntmps26
      go_wp2
      go_ret2
      exact ⟨ret_ib E.out (apV6 x x lo hi).2, (Below.refl _ _).alloc (Nat.le_refl _) _⟩
    · have E := hide (show apV 6 v x lo hi = v by rw [(apV6 v x lo hi).1, if_neg (by omega)])
      go_enter Try.func26, Try.ntmps26
      go_wp2
      go_ret2
      exact ⟨ret_ib E.out (apV6 v x lo hi).2, (Below.refl _ _).alloc (Nat.le_refl _) _⟩
  · subst h
    go_enter Try.func26, Try.ntmps26
    go_wp2
    go_ret2
    exact ⟨ret_ib (apV7 v x lo hi).1 (apV7 v x lo hi).2, (Below.refl _ _).alloc (Nat.le_refl _) _⟩
  · subst h
    go_enter Try.func26, Try.ntmps26
    go_wp2_with (go_at_call 29; refine (rsum_any _ _ _).mono ?_; rintro e w' ⟨rfl, rfl⟩)
    · go_ret2
      obtain ⟨e1, e2⟩ := rput_no hx hv hl hh (.inr ‹_›)
      exact ⟨ret_ib e1 e2, (Below.refl _ _).alloc (Nat.le_refl _) _⟩
    · go_ret2
      obtain ⟨e1, e2⟩ := rput_yes hx hv ‹_› ‹_› (And.right ‹_›)
      exact ⟨ret_ib e1 e2, (Below.refl _ _).alloc (Nat.le_refl _) _⟩
    · go_ret2
      obtain ⟨e1, e2⟩ := rput_no hx hv hl hh (.inr (.inl ‹_›))
      exact ⟨ret_ib e1 e2, (Below.refl _ _).alloc (Nat.le_refl _) _⟩
    · go_ret2
      obtain ⟨e1, e2⟩ := rput_no hx hv hl hh (.inl ‹_›)
      exact ⟨ret_ib e1 e2, (Below.refl _ _).alloc (Nat.le_refl _) _⟩
  · subst h
    by_cases h0 : 0 ≤ v
    · by_cases h1 : lo ≤ x
      · have HS := hide (take_sub hx hl hv h0 h1)
        go_enter Try.func26, Try.ntmps26
        go_wp2
        · go_ret2
          obtain ⟨e1, e2⟩ := take_all h0 h1 (HS.out.1 ‹_›)
          exact ⟨ret_ib ((apV9 v x lo hi).1.trans e2) ((apV9 v x lo hi).2.trans e1), (Below.refl _ _).alloc (Nat.le_refl _) _⟩
        · go_ret2
          have h : v < x - lo := by
            rcases Int.lt_or_le v (x - lo) with hc | hc
            · exact hc
            · have := HS.out.2 hc; omega
          have e : wrap64 (x - v) = x - v := wrap64_id (by unfold I64 at *; omega)
          obtain ⟨e1, e2⟩ := take_some h0 h1 h
          exact ⟨ret_ib (((apV9 v x lo hi).1.trans e2).trans e.symm) ((apV9 v x lo hi).2.trans e1), (Below.refl _ _).alloc (Nat.le_refl _) _⟩
      · obtain ⟨e1, e2⟩ := take_no (x := x) (v := v) (lo := lo) (.inr (by omega))
        have E1 := hide e1; have E2 := hide e2; clear e1 e2
        go_enter Try.func26, Try.ntmps26
        go_wp2
        go_ret2
        exact ⟨ret_ib ((apV9 v x lo hi).1.trans E2.out) ((apV9 v x lo hi).2.trans E1.out), (Below.refl _ _).alloc (Nat.le_refl _) _⟩
    · obtain ⟨e1, e2⟩ := take_no (x := x) (v := v) (lo := lo) (.inl (by omega))
      have E1 := hide e1; have E2 := hide e2; clear e1 e2
      go_enter Try.func26, Try.ntmps26
      go_wp2
      go_ret2
      exact ⟨ret_ib ((apV9 v x lo hi).1.trans E2.out) ((apV9 v x lo hi).2.trans E1.out), (Below.refl _ _).alloc (Nat.le_refl _) _⟩

def mayB (t v : Int) (b : Bool) : Bool := if b = true then decide (t = 8) || (decide (t = 9) && decide (0 ≤ v)) else decide (1 ≤ t) && decide (t ≤ 7)
def MayPost (t v : Int) (b : Bool) (w : World) (e : Ending) (w' : World) : Prop := e = .returned (.bool (mayB t v b)) ∧ Below w.heap.size w w'

set_option maxHeartbeats 400000 in
theorem rmay_any (t v : Int) (b : Bool) (w : World) : Calls Try.prog 24 #[.agg #[.int .i64 t, .int .i64 v], .bool b] w (MayPost t v b w) := by
  cases b
  · by_cases h : 1 ≤ t
    · have E := hide (show mayB t v false = decide (t ≤ 7) by simp [mayB, h])
      go_enter Try.func24, Try.ntmps24
      go_wp2
      go_ret
      exact ⟨ret_b E.out, (Below.refl _ _).alloc (Nat.le_refl _) _⟩
    · have E := hide (show mayB t v false = false by simp [mayB, h])
      go_enter Try.func24, Try.ntmps24
      go_wp2
      go_ret
      exact ⟨ret_b E.out, (Below.refl _ _).alloc (Nat.le_refl _) _⟩
  · by_cases h8 : t = 8
    · subst h8
      have E := hide (show mayB 8 v true = true by simp [mayB])
      go_enter Try.func24, Try.ntmps24
      go_wp2
      go_ret
      exact ⟨ret_b E.out, (Below.refl _ _).alloc (Nat.le_refl _) _⟩
    · by_cases h9 : t = 9
      · subst h9
        have E := hide (show mayB 9 v true = decide (0 ≤ v) by simp [mayB])
        go_enter Try.func24, Try.ntmps24
        go_wp2
        go_ret
        exact ⟨ret_b E.out, (Below.refl _ _).alloc (Nat.le_refl _) _⟩
      · have E := hide (show mayB t v true = false by simp [mayB]; omega)
        have f9 : (t == 9) = false := beq_eq_false_iff_ne.2 h9
        have f8 : (t == 8) = false := beq_eq_false_iff_ne.2 h8
        clear h8 h9
        go_enter Try.func24, Try.ntmps24
        go_wp2
        go_ret
        exact ⟨ret_b E.out, (Below.refl _ _).alloc (Nat.le_refl _) _⟩
end Go.Proofs.Ytjibnocgbbohlaa
