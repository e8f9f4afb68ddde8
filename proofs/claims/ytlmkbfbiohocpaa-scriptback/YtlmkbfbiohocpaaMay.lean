/- Contracts of oper.Known and oper.May, and of the document's Known. -/
import Derived.Test.YtlmkbfbiohocpaaRef
namespace Go.Proofs.Ytlmkbfbiohocpaa
open Go.RowKit

def knownB (t : Int) : Bool := decide (1 ≤ t) && decide (t ≤ 9)

set_option maxHeartbeats 400000 in
theorem known_any (t : Int) (w : World) : Calls Try.prog 30 #[.int .i64 t] w fun e w' => e = .returned (.bool (knownB t)) ∧ w = w' := by
  by_cases h : 1 ≤ t
  · have E := hide (show knownB t = decide (t ≤ 9) by simp [knownB, h])
    go_enter Try.func30, Try.ntmps30
    go_wp2
    go_ret
    exact ⟨ret_b (by rw [E.out]), rfl⟩
  · have E := hide (show knownB t = false by simp [knownB, h])
    go_enter Try.func30, Try.ntmps30
    go_wp2
    go_ret
    exact ⟨ret_b (by rw [E.out]), rfl⟩

set_option maxHeartbeats 400000 in
theorem may_any (t v : Int) (b : Bool) (w : World) : Calls Try.prog 24 #[.agg #[.int .i64 t, .int .i64 v], .bool b] w (MayPost t v b w) := by
  by_cases h9 : t = 9
  · subst h9
    by_cases hv : v < 0
    · have E := hide (show mayB 9 v b = false by cases b <;> simp [mayB]; omega)
      go_enter Try.func24, Try.ntmps24
      go_wp2
      go_ret
      exact ⟨ret_b E.out, (Below.refl _ _).alloc (Nat.le_refl _) _⟩
    · have E := hide (show mayB 9 v b = b by cases b <;> simp [mayB]; omega)
      go_enter Try.func24, Try.ntmps24
      go_wp2
      go_ret
      exact ⟨ret_b E.out, (Below.refl _ _).alloc (Nat.le_refl _) _⟩
  by_cases h8 : t = 8
  · subst h8
    have E := hide (show mayB 8 v b = b by cases b <;> simp [mayB])
    go_enter Try.func24, Try.ntmps24
    go_wp2
    go_ret
    exact ⟨ret_b E.out, (Below.refl _ _).alloc (Nat.le_refl _) _⟩
  · have f9 : (t == 9) = false := beq_eq_false_iff_ne.2 h9
    have f8 : (t == 8) = false := beq_eq_false_iff_ne.2 h8
    cases b
    · have E := hide (show mayB t v false = knownB t by rw [Bool.eq_iff_iff]; simp [mayB, knownB]; omega)
      clear h8 h9
      go_enter Try.func24, Try.ntmps24
      go_wp2_with (go_at_call 30; refine (known_any _ _).mono ?_; rintro e w' ⟨rfl, rfl⟩)
      go_ret
      exact ⟨ret_b E.out, (Below.refl _ _).alloc (Nat.le_refl _) _⟩
    · have E := hide (show mayB t v true = false by simp [mayB]; omega)
      clear h8 h9
      go_enter Try.func24, Try.ntmps24
      go_wp2_with (go_at_call 30; refine (known_any _ _).mono ?_; rintro e w' ⟨rfl, rfl⟩)
      go_ret
      exact ⟨ret_b E.out, (Below.refl _ _).alloc (Nat.le_refl _) _⟩

end Go.Proofs.Ytlmkbfbiohocpaa
