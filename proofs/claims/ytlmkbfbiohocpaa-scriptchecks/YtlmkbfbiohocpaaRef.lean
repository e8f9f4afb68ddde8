/- Contracts of the document's own answers for layer 1: the same plain mathematics. -/
import Derived.Test.YtlmkbfbiohocpaaOps
namespace Go.Proofs.Ytlmkbfbiohocpaa
open Go.RowKit

theorem rput_no {x v lo hi : Int} (hx : I64 x) (hv : I64 v) (hl : I64 lo) (hh : I64 hi) (h : ¬(0 ≤ v ↔ x ≤ wrap64 (x + v)) ∨ wrap64 (x + v) < lo ∨ hi < wrap64 (x + v)) :
    apV 8 v x lo hi = x ∧ apB 8 v x lo hi = false := by
  have hb : putB x v lo hi = false := put_no hx hv hl hh (by omega)
  rw [(apV8 v x lo hi).1, (apV8 v x lo hi).2]
  exact ⟨by simp [putV, hb], hb⟩
theorem rput_yes {x v lo hi : Int} (hx : I64 x) (hv : I64 v) (h : 0 ≤ v ↔ x ≤ wrap64 (x + v)) (h1 : lo ≤ wrap64 (x + v)) (h2 : wrap64 (x + v) ≤ hi) :
    apV 8 v x lo hi = wrap64 (x + v) ∧ apB 8 v x lo hi = true := by
  obtain ⟨hb, e⟩ := put_yes hx hv (by omega) h1 h2
  rw [(apV8 v x lo hi).1, (apV8 v x lo hi).2]
  exact ⟨by simp [putV, hb, e], hb⟩

def mayB (t v : Int) (b : Bool) : Bool := if b = true then decide (t = 8) || (decide (t = 9) && decide (0 ≤ v)) else decide (1 ≤ t) && decide (t ≤ 7)
def MayPost (t v : Int) (b : Bool) (w : World) (e : Ending) (w' : World) : Prop := e = .returned (.bool (mayB t v b)) ∧ Below w.heap.size w w'

set_option maxHeartbeats 400000 in
theorem rmay_any (t v : Int) (b : Bool) (w : World) : Calls Try.prog 25 #[.agg #[.int .i64 t, .int .i64 v], .bool b] w (MayPost t v b w) := by
  cases b
  · by_cases h : 1 ≤ t
    · have E := hide (show mayB t v false = decide (t ≤ 7) by simp [mayB, h])
      go_enter Try.func25, Try.ntmps25
      go_wp2
      go_ret
      exact ⟨ret_b E.out, (Below.refl _ _).alloc (Nat.le_refl _) _⟩
    · have E := hide (show mayB t v false = false by simp [mayB, h])
      go_enter Try.func25, Try.ntmps25
      go_wp2
      go_ret
      exact ⟨ret_b E.out, (Below.refl _ _).alloc (Nat.le_refl _) _⟩
  · by_cases h8 : t = 8
    · subst h8
      have E := hide (show mayB 8 v true = true by simp [mayB])
      go_enter Try.func25, Try.ntmps25
      go_wp2
      go_ret
      exact ⟨ret_b E.out, (Below.refl _ _).alloc (Nat.le_refl _) _⟩
    · by_cases h9 : t = 9
      · subst h9
        have E := hide (show mayB 9 v true = decide (0 ≤ v) by simp [mayB])
        go_enter Try.func25, Try.ntmps25
        go_wp2
        go_ret
        exact ⟨ret_b E.out, (Below.refl _ _).alloc (Nat.le_refl _) _⟩
      · have E := hide (show mayB t v true = false by simp [mayB]; omega)
        have f9 : (t == 9) = false := beq_eq_false_iff_ne.2 h9
        have f8 : (t == 8) = false := beq_eq_false_iff_ne.2 h8
        clear h8 h9
        go_enter Try.func25, Try.ntmps25
        go_wp2
        go_ret
        exact ⟨ret_b E.out, (Below.refl _ _).alloc (Nat.le_refl _) _⟩
end Go.Proofs.Ytlmkbfbiohocpaa
