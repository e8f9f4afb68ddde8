/- What Check answers of a config of which a number is turned. -/
import Derived.Test.YtcnmgojllgepbaaW5Base
import Derived.Lib.QuietBelow
import Derived.Deep.QuietTactic
namespace Go.Proofs.Ytcnmgojllgepbaa
open Go.RowKit
set_option linter.unusedVariables false


theorem bnd_ok (x0 x1 x2 x3 x4 x5 x6 x7 : Int) (b : Bool) (x9 x10 x11 : Int) (ok : CfOk x0 x1 x2 x3 x4 x5 x6 x7 b x9 x10 x11) : ¬(x11 < (if b then x9 else x11) ∨ (if b then x10 else x11) < x11) := by
  cases b
  · simp
  · have := ok.hb rfl
    simp; omega
theorem ck_first (x0 x1 x2 x3 x4 x5 x6 x7 : Int) (b : Bool) (x9 x10 x11 : Int) (ok : CfOk x0 x1 x2 x3 x4 x5 x6 x7 b x9 x10 x11) (t u : Int) : ckV t x1 x2 x3 x4 x5 x6 u b x9 x10 x11 = (if t < 1 ∨ 16 < t then 50 else if u < 0 ∨ 1000 < u then 57 else 0) := by
  have hbn := bnd_ok x0 x1 x2 x3 x4 x5 x6 x7 b x9 x10 x11 ok
  obtain ⟨h0, h1, h2, h3, h4, h5, h6, h7, hb⟩ := ok
  simp only [ckV, numsL, ckL]
  rw [if_neg (show ¬(x1 < 1 ∨ 4 < x1) by omega), if_neg (show ¬(x2 < 1 ∨ 3 < x2) by omega), if_neg (show ¬(x3 < 0 ∨ 4 < x3) by omega), if_neg (show ¬(x4 < 0 ∨ 3 < x4) by omega), if_neg (show ¬(x5 < 1 ∨ 8 < x5) by omega), if_neg (show ¬(x6 < 0 ∨ 20 < x6) by omega), if_neg hbn]
theorem ck_second (x0 x1 x2 x3 x4 x5 x6 x7 : Int) (b : Bool) (x9 x10 x11 : Int) (t u : Int) : ckV t 0 x2 x3 x4 x5 x6 u b x9 x10 x11 = (if t < 1 ∨ 16 < t then 50 else 51) := by
  simp [ckV, numsL, ckL]
theorem ck_bounds (x0 x1 x2 x3 x4 x5 x6 x7 : Int) (b : Bool) (x9 x10 x11 : Int) (ok : CfOk x0 x1 x2 x3 x4 x5 x6 x7 b x9 x10 x11) (c : Bool) (lo hi z : Int) : ckV x0 x1 x2 x3 x4 x5 x6 x7 c lo hi z = (if c = true ∧ (z < lo ∨ hi < z) then 58 else 0) := by
  obtain ⟨h0, h1, h2, h3, h4, h5, h6, h7, hb⟩ := ok
  simp only [ckV, numsL, ckL]
  rw [if_neg (show ¬(x0 < 1 ∨ 16 < x0) by omega), if_neg (show ¬(x1 < 1 ∨ 4 < x1) by omega), if_neg (show ¬(x2 < 1 ∨ 3 < x2) by omega), if_neg (show ¬(x3 < 0 ∨ 4 < x3) by omega), if_neg (show ¬(x4 < 0 ∨ 3 < x4) by omega), if_neg (show ¬(x5 < 1 ∨ 8 < x5) by omega), if_neg (show ¬(x6 < 0 ∨ 20 < x6) by omega), if_neg (show ¬(x7 < 0 ∨ 1000 < x7) by omega)]
  cases c <;> simp
theorem sp_mono {d l s d' l' s' : Int} (h1 : d ≤ d') (h2 : l ≤ l') (h3 : s ≤ s') (hl : 0 ≤ l ∧ l ≤ 3) (hl' : 0 ≤ l' ∧ l' ≤ 3) (hs : 0 ≤ s) : spV d l s ≤ spV d' l' s' := by
  have e : l = 0 ∨ l = 1 ∨ l = 2 ∨ l = 3 := by omega
  have e' : l' = 0 ∨ l' = 1 ∨ l' = 2 ∨ l' = 3 := by omega
  unfold spV
  rcases e with rfl | rfl | rfl | rfl <;> rcases e' with rfl | rfl | rfl | rfl <;> omega
theorem sp_least {d l s : Int} (h1 : 0 ≤ d) (hl : 0 ≤ l ∧ l ≤ 3) (hs : 0 ≤ s) : 20 ≤ spV d l s := by
  have e : l = 0 ∨ l = 1 ∨ l = 2 ∨ l = 3 := by omega
  unfold spV
  rcases e with rfl | rfl | rfl | rfl <;> omega

end Go.Proofs.Ytcnmgojllgepbaa
