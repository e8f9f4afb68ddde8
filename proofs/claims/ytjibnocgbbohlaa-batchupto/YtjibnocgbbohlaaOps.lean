/- Contracts of the functions of package oper: each returns what the plain mathematics says; nothing that was there has turned. -/
import Derived.Test.YtjibnocgbbohlaaRows
import Derived.Test.YtjibnocgbbohlaaPlain
import Derived.WalkKit
import Derived.ProofKit
import Derived.OpenShut
namespace Go.Proofs.Ytjibnocgbbohlaa
open Go.RowKit

set_option maxHeartbeats 400000 in
theorem put_any (x v lo hi : Int) (w : World) (hx : I64 x) (hv : I64 v) (hl : I64 lo) (hh : I64 hi) :
    Calls Try.prog 30 #[.int .i64 x, .int .i64 v, .int .i64 lo, .int .i64 hi] w fun e w' => e = .returned (.tuple #[.int .i64 (putV x v lo hi), .bool (putB x v lo hi)]) ∧ w = w' := by
  go_enter Try.func30, Try.ntmps30
  go_wp2
  · go_ret2
    have hp := put_no hx hv hl hh (.inr ‹_›)
    exact ⟨by simp [putV, hp], rfl⟩
  · go_ret2
    obtain ⟨hp, he⟩ := put_yes hx hv ‹_› ‹_› (And.right ‹_›)
    exact ⟨by simp [putV, hp, he], rfl⟩
  · go_ret2
    have hp := put_no hx hv hl hh (.inr (.inl ‹_›))
    exact ⟨by simp [putV, hp], rfl⟩
  · go_ret2
    have hp := put_no hx hv hl hh (.inl ‹_›)
    exact ⟨by simp [putV, hp], rfl⟩

set_option maxHeartbeats 400000 in
theorem take_any (x v lo : Int) (w : World) (hx : I64 x) (hv : I64 v) (hl : I64 lo) :
    Calls Try.prog 31 #[.int .i64 x, .int .i64 v, .int .i64 lo] w fun e w' => e = .returned (.tuple #[.int .i64 (takeV x v lo), .bool (takeB x v lo)]) ∧ w = w' := by
  by_cases h0 : 0 ≤ v
  · by_cases h1 : lo ≤ x
    · have HS := hide (take_sub hx hl hv h0 h1)
      go_enter Try.func31, Try.ntmps31
      go_wp2
      · go_ret2
        obtain ⟨e1, e2⟩ := take_all h0 h1 (HS.out.1 ‹_›)
        exact ⟨ret_ib e2 e1, rfl⟩
      · go_ret2
        have h : v < x - lo := by
          rcases Int.lt_or_le v (x - lo) with hc | hc
          · exact hc
          · have := HS.out.2 hc; omega
        have e : wrap64 (x - v) = x - v := wrap64_id (by unfold I64 at *; omega)
        obtain ⟨e1, e2⟩ := take_some h0 h1 h
        exact ⟨ret_ib (e2.trans e.symm) e1, rfl⟩
    · obtain ⟨e1, e2⟩ := take_no (x := x) (v := v) (lo := lo) (.inr (by omega))
      have E1 := hide e1; have E2 := hide e2; clear e1 e2
      go_enter Try.func31, Try.ntmps31
      go_wp2
      go_ret2
      exact ⟨ret_ib E2.out E1.out, rfl⟩
  · obtain ⟨e1, e2⟩ := take_no (x := x) (v := v) (lo := lo) (.inl (by omega))
    have E1 := hide e1; have E2 := hide e2; clear e1 e2
    go_enter Try.func31, Try.ntmps31
    go_wp2
    go_ret2
    exact ⟨ret_ib E2.out E1.out, rfl⟩

def ApPost (t v x lo hi : Int) (w : World) (e : Ending) (w' : World) : Prop :=
  e = .returned (.tuple #[.int .i64 (apV t v x lo hi), .bool (apB t v x lo hi)]) ∧ Below w.heap.size w w'


theorem apV1 (v x lo hi : Int) : apV 1 v x lo hi = wrap64 (x + v) ∧ apB 1 v x lo hi = true := by simp [apV, apB]
theorem apV2 (v x lo hi : Int) : apV 2 v x lo hi = wrap64 (x - v) ∧ apB 2 v x lo hi = true := by simp [apV, apB]
theorem apV3 (v x lo hi : Int) : apV 3 v x lo hi = bits .or .i64 x v ∧ apB 3 v x lo hi = true := by simp [apV, apB]
theorem apV4 (v x lo hi : Int) : apV 4 v x lo hi = bits .and .i64 x v ∧ apB 4 v x lo hi = true := by simp [apV, apB]
theorem apV5 (v x lo hi : Int) : apV 5 v x lo hi = (if x ≤ v then v else x) ∧ apB 5 v x lo hi = true := by simp [apV, apB]
theorem apV6 (v x lo hi : Int) : apV 6 v x lo hi = (if x ≤ v then x else v) ∧ apB 6 v x lo hi = true := by simp [apV, apB]
theorem apV7 (v x lo hi : Int) : apV 7 v x lo hi = v ∧ apB 7 v x lo hi = true := by simp [apV, apB]
theorem apV8 (v x lo hi : Int) : apV 8 v x lo hi = putV x v lo hi ∧ apB 8 v x lo hi = putB x v lo hi := by simp [apV, apB]
theorem apV9 (v x lo hi : Int) : apV 9 v x lo hi = takeV x v lo ∧ apB 9 v x lo hi = takeB x v lo := by simp [apV, apB]
theorem apV_else (t v x lo hi : Int) (h : t < 1 ∨ 9 < t) : apV t v x lo hi = x ∧ apB t v x lo hi = false := by
  simp only [apV, apB]
  repeat (first | rw [if_neg (by omega)] | rw [if_neg (by omega)])
  simp

theorem wrap_sub (x v : Int) : wrap64 (x - v) = wrap64 (x + wrap64 (-v)) := by unfold wrap64; omega

set_option maxHeartbeats 1000000 in
theorem apply_any (t v x lo hi : Int) (w : World) (hx : I64 x) (hv : I64 v) (hl : I64 lo) (hh : I64 hi) :
    Calls Try.prog 28 #[.agg #[.int .i64 t, .int .i64 v], .int .i64 x, .int .i64 lo, .int .i64 hi] w (ApPost t v x lo hi w) := by
  by_cases h7 : t < 1 ∨ 9 < t
  · obtain ⟨e1, e2⟩ := apV_else t v x lo hi h7
    have E1 := hide e1; have E2 := hide e2; clear e1 e2
    rcases h7 with h7 | h7
    all_goals
      go_enter Try.func28, Try.ntmps28
      go_wp2
      go_ret2
      exact ⟨ret_ib E1.out E2.out, (Below.refl _ _).alloc (Nat.le_refl _) _⟩
  have h : t = 1 ∨ t = 2 ∨ t = 3 ∨ t = 4 ∨ t = 5 ∨ t = 6 ∨ t = 7 ∨ t = 8 ∨ t = 9 := by omega
  clear h7
  rcases h with h | h | h | h | h | h | h | h | h
  · subst h
    go_enter Try.func28, Try.ntmps28
    go_wp2
    go_ret2
    exact ⟨ret_ib (apV1 v x lo hi).1 (apV1 v x lo hi).2, (Below.refl _ _).alloc (Nat.le_refl _) _⟩
  · subst h
    go_enter Try.func28, Try.ntmps28
    go_wp2
    go_ret2
    exact ⟨ret_ib ((apV2 v x lo hi).1.trans (wrap_sub x v)) (apV2 v x lo hi).2, (Below.refl _ _).alloc (Nat.le_refl _) _⟩
  · subst h
    go_enter Try.func28, Try.ntmps28
    go_wp2
    go_ret2
    exact ⟨ret_ib (apV3 v x lo hi).1 (apV3 v x lo hi).2, (Below.refl _ _).alloc (Nat.le_refl _) _⟩
  · subst h
    go_enter Try.func28, Try.ntmps28
    go_wp2
    go_ret2
    exact ⟨ret_ib (apV4 v x lo hi).1 (apV4 v x lo hi).2, (Below.refl _ _).alloc (Nat.le_refl _) _⟩
  · subst h
    rcases Int.lt_trichotomy x v with hc | hc | hc
    · have E := hide (show apV 5 v x lo hi = v by rw [(apV5 v x lo hi).1, if_pos (by omega)])
      go_enter Try.func28, Try.ntmps28
      go_wp2
      go_ret2
      exact ⟨ret_ib E.out (apV5 v x lo hi).2, (Below.refl _ _).alloc (Nat.le_refl _) _⟩
    · subst hc
      have E := hide (show apV 5 x x lo hi = x by rw [(apV5 x x lo hi).1]; split <;> rfl)
      go_enter Try.func28, Try.ntmps28
      go_wp2
      go_ret2
      exact ⟨ret_ib E.out (apV5 x x lo hi).2, (Below.refl _ _).alloc (Nat.le_refl _) _⟩
    · have E := hide (show apV 5 v x lo hi = x by rw [(apV5 v x lo hi).1, if_neg (by omega)])
      go_enter Try.func28, Try.ntmps28
      go_wp2
      go_ret2
      exact ⟨ret_ib E.out (apV5 v x lo hi).2, (Below.refl _ _).alloc (Nat.le_refl _) _⟩
  · subst h
    rcases Int.lt_trichotomy x v with hc | hc | hc
    · have E := hide (show apV 6 v x lo hi = x by rw [(apV6 v x lo hi).1, if_pos (by omega)])
      go_enter Try.func28, Try.ntmps28
      go_wp2
      go_ret2
      exact ⟨ret_ib E.out (apV6 v x lo hi).2, (Below.refl _ _).alloc (Nat.le_refl _) _⟩
    · subst hc
      have E := hide (show apV 6 x x lo hi = x by rw [(apV6 x x lo hi).1]; split <;> rfl)
      go_enter Try.func28, Try.ntmps28
      go_wp2
      go_ret2
      exact ⟨ret_ib E.out (apV6 x x lo hi).2, (Below.refl _ _).alloc (Nat.le_refl _) _⟩
    · have E := hide (show apV 6 v x lo hi = v by rw [(apV6 v x lo hi).1, if_neg (by omega)])
      go_enter Try.func28, Try.ntmps28
      go_wp2
      go_ret2
      exact ⟨ret_ib E.out (apV6 v x lo hi).2, (Below.refl _ _).alloc (Nat.le_refl _) _⟩
  · subst h
    go_enter Try.func28, Try.ntmps28
    go_wp2
    go_ret2
    exact ⟨ret_ib (apV7 v x lo hi).1 (apV7 v x lo hi).2, (Below.refl _ _).alloc (Nat.le_refl _) _⟩
  · subst h
    go_enter Try.func28, Try.ntmps28
    go_wp2_with (go_at_call 30; refine (put_any _ _ _ _ _ hx hv hl hh).mono ?_; rintro e w' ⟨rfl, rfl⟩)
    go_ret2
    exact ⟨ret_ib (apV8 v x lo hi).1 (apV8 v x lo hi).2, (Below.refl _ _).alloc (Nat.le_refl _) _⟩
  · subst h
    go_enter Try.func28, Try.ntmps28
    go_wp2_with (go_at_call 31; refine (take_any _ _ _ _ hx hv hl).mono ?_; rintro e w' ⟨rfl, rfl⟩)
    go_ret2
    exact ⟨ret_ib (apV9 v x lo hi).1 (apV9 v x lo hi).2, (Below.refl _ _).alloc (Nat.le_refl _) _⟩
end Go.Proofs.Ytjibnocgbbohlaa
