/- Contracts of the document's Check and Steps, and of the program's beginning and Steps. -/
import Derived.Test.YtpbneghabikpdaaCfg
namespace Go.Proofs.Ytpbneghabikpdaa
open Go.RowKit

theorem sp_eq {d l s : Int} (h3 : 0 ≤ d ∧ d ≤ 4) (h4 : 0 ≤ l ∧ l ≤ 3) (h6 : 0 ≤ s ∧ s ≤ 20) : spV d l s = wrap64 (20 + 8 * d + wrap64 (l * (20 + 2 * s))) := by
  have h : l = 0 ∨ l = 1 ∨ l = 2 ∨ l = 3 := by omega
  unfold spV wrap64
  rcases h with rfl | rfl | rfl | rfl <;> omega

/-- A number with its bounds and its error. -/
def N4Post (n l m e : Int) (w : World) (x : Ending) (w' : World) : Prop := x = .returned (.agg #[.int .i64 n, .int .i64 l, .int .i64 m, .int .i64 e]) ∧ Below w.heap.size w w'

set_option maxRecDepth 100000 in
set_option maxHeartbeats 4000000 in
theorem rcheck_any (x0 x1 x2 x3 x4 x5 x6 x7 : Int) (b : Bool) (x9 x10 x11 : Int) (w : World) : Calls Try.prog 9 #[.agg #[.int .i64 x0, .int .i64 x1, .int .i64 x2, .int .i64 x3, .int .i64 x4, .int .i64 x5, .int .i64 x6, .int .i64 x7, .bool b, .int .i64 x9, .int .i64 x10, .int .i64 x11]] w (IntPost (ckV x0 x1 x2 x3 x4 x5 x6 x7 b x9 x10 x11) w) := by
  have HB : Hid (Below w.heap.size w (w.alloc (.cells #[.int .i64 x0, .int .i64 x1, .int .i64 x2, .int .i64 x3, .int .i64 x4, .int .i64 x5, .int .i64 x6, .int .i64 x7, .bool b, .int .i64 x9, .int .i64 x10, .int .i64 x11] 33))) := hide ((Below.refl _ _).alloc (Nat.le_refl _) _)
  cases b
  all_goals
    go_enter Try.func9, Try.ntmps9
    go_wp2
    all_goals
      go_ret
      refine ⟨ret_i ?_, HB.out⟩
      clear HB
      simp only [ckV, numsL, ckL, if_true, Bool.false_eq_true, if_false]
      repeat (first | rfl | rw [if_pos (by omega)] | rw [if_neg (by omega)])
end Go.Proofs.Ytpbneghabikpdaa
