/- Contracts of oper.Known, oper.May and of the anchor 'shown': it returns true. -/
import Derived.Test.YtncemiifbknnnaaOps
namespace Go.Proofs.Ytncemiifbknnnaa
open Go.RowKit

def knownB (t : Int) : Bool := decide (1 ≤ t) && decide (t ≤ 9)
def mayB (t v : Int) (b : Bool) : Bool := if b = true then decide (t = 8) || (decide (t = 9) && decide (0 ≤ v)) else decide (1 ≤ t) && decide (t ≤ 7)

set_option maxHeartbeats 400000 in
theorem known_any (t : Int) (w : World) : Calls Try.prog 14 #[.int .i64 t] w fun e w' => e = .returned (.bool (knownB t)) ∧ w = w' := by
  by_cases h : 1 ≤ t
  · have E := hide (show knownB t = decide (t ≤ 9) by simp [knownB, h])
    go_enter Try.func14, Try.ntmps14
    go_wp2
    go_ret
    exact ⟨ret_b (by rw [E.out]), rfl⟩
  · have E := hide (show knownB t = false by simp [knownB, h])
    go_enter Try.func14, Try.ntmps14
    go_wp2
    go_ret
    exact ⟨ret_b (by rw [E.out]), rfl⟩

def MayPost (t v : Int) (b : Bool) (w : World) (e : Ending) (w' : World) : Prop := e = .returned (.bool (mayB t v b)) ∧ Below w.heap.size w w'

set_option maxHeartbeats 400000 in
theorem may_any (t v : Int) (b : Bool) (w : World) : Calls Try.prog 12 #[.agg #[.int .i64 t, .int .i64 v], .bool b] w (MayPost t v b w) := by
  by_cases h9 : t = 9
  · subst h9
    by_cases hv : v < 0
    · have E := hide (show mayB 9 v b = false by cases b <;> simp [mayB]; omega)
      go_enter Try.func12, Try.ntmps12
      go_wp2
      go_ret
      exact ⟨ret_b E.out, (Below.refl _ _).alloc (Nat.le_refl _) _⟩
    · have E := hide (show mayB 9 v b = b by cases b <;> simp [mayB]; omega)
      go_enter Try.func12, Try.ntmps12
      go_wp2
      go_ret
      exact ⟨ret_b E.out, (Below.refl _ _).alloc (Nat.le_refl _) _⟩
  by_cases h8 : t = 8
  · subst h8
    have E := hide (show mayB 8 v b = b by cases b <;> simp [mayB])
    go_enter Try.func12, Try.ntmps12
    go_wp2
    go_ret
    exact ⟨ret_b E.out, (Below.refl _ _).alloc (Nat.le_refl _) _⟩
  · have f9 : (t == 9) = false := beq_eq_false_iff_ne.2 h9
    have f8 : (t == 8) = false := beq_eq_false_iff_ne.2 h8
    cases b
    · have E := hide (show mayB t v false = knownB t by rw [Bool.eq_iff_iff]; simp [mayB, knownB]; omega)
      clear h8 h9
      go_enter Try.func12, Try.ntmps12
      go_wp2_with (go_at_call 14; refine (known_any _ _).mono ?_; rintro e w' ⟨rfl, rfl⟩)
      go_ret
      exact ⟨ret_b E.out, (Below.refl _ _).alloc (Nat.le_refl _) _⟩
    · have E := hide (show mayB t v true = false by simp [mayB]; omega)
      clear h8 h9
      go_enter Try.func12, Try.ntmps12
      go_wp2_with (go_at_call 14; refine (known_any _ _).mono ?_; rintro e w' ⟨rfl, rfl⟩)
      go_ret
      exact ⟨ret_b E.out, (Below.refl _ _).alloc (Nat.le_refl _) _⟩

theorem lit_i64 (x : Int) (h : -1000 ≤ x ∧ x ≤ 1000) : I64 x := by unfold I64; omega

def ShownPost (w : World) (e : Ending) (w' : World) : Prop := e = .returned (.bool true) ∧ Below w.heap.size w w'

def Ap2 (a : Int) (b : Bool) (w : World) (e : Ending) (w' : World) : Prop := e = .returned (.tuple #[.int .i64 a, .bool b]) ∧ Below w.heap.size w w'
theorem apply_is (t v x lo hi a : Int) (b : Bool) (w : World) (hx : I64 x) (hv : I64 v) (hl : I64 lo) (hh : I64 hi) (ha : apV t v x lo hi = a) (hb : apB t v x lo hi = b) :
    Calls Try.prog 10 #[.agg #[.int .i64 t, .int .i64 v], .int .i64 x, .int .i64 lo, .int .i64 hi] w (Ap2 a b w) := by
  subst ha hb
  exact (apply_any t v x lo hi w hx hv hl hh).mono fun _ _ h => h

set_option maxHeartbeats 400000 in
theorem shown_any (w : World) : Calls Try.prog 16 #[] w (ShownPost w) := by
  go_enter Try.func16, Try.ntmps16
  go_wp2_with fail
  refine (apply_is 9 5 3 0 9 0 true _ (lit_i64 _ (by omega)) (lit_i64 _ (by omega)) (lit_i64 _ (by omega)) (lit_i64 _ (by omega)) (by simp [apV, takeV, takeB]) (by simp [apB, takeB])).mono ?_
  rintro e w1 ⟨rfl, hb1⟩
  go_wp2_with fail
  refine (apply_is 8 7 3 0 9 3 false _ (lit_i64 _ (by omega)) (lit_i64 _ (by omega)) (lit_i64 _ (by omega)) (lit_i64 _ (by omega)) (by simp [apV, putV, putB]) (by simp [apB, putB])).mono ?_
  rintro e w2 ⟨rfl, hb2⟩
  go_wp2_with fail
  refine (apply_is 2 7 3 0 0 (-4) true _ (lit_i64 _ (by omega)) (lit_i64 _ (by omega)) (lit_i64 _ (by omega)) (lit_i64 _ (by omega)) (by simp only [apV, wrap64]; simp) (by simp [apB])).mono ?_
  rintro e w3 ⟨rfl, hb3⟩
  go_wp2_with fail
  refine (known_any 9 _).mono ?_
  rintro e w4 ⟨rfl, rfl⟩
  rw [show knownB 9 = true by simp [knownB]]
  go_wp2_with fail
  refine (may_any 1 0 true _).mono ?_
  rintro e w4 ⟨rfl, hb4⟩
  rw [show mayB 1 0 true = false by simp [mayB]]
  go_wp2
  go_ret
  exact ⟨rfl, ((hb1.trans (hb2.mono hb1.size)).trans (hb3.mono (Nat.le_trans hb1.size hb2.size))).trans (hb4.mono (Nat.le_trans (Nat.le_trans hb1.size hb2.size) hb3.size))⟩
end Go.Proofs.Ytncemiifbknnnaa
