/- Configs: what Check and Steps answer, as plain mathematics. Nothing of the program. -/
import Derived.Test.YtpbneghabikpdaaRows
import Derived.Test.YtpbneghabikpdaaWords2
import Derived.Deep.RegionHeld3
import Derived.Deep.CutRange
namespace Go.Proofs.Ytpbneghabikpdaa
open Go.RowKit

theorem ret_i {a b : Int} (h : b = a) : Ending.returned (.int .i64 a) = .returned (.int .i64 b) := by rw [h]

/-- The error of the first number that is not within its bounds: a number, its least, its greatest, its error. -/
def ckL : List (Int × Int × Int × Int) → Int
  | [] => 0
  | n :: t => if n.1 < n.2.1 ∨ n.2.2.1 < n.1 then n.2.2.2 else ckL t
/-- The numbers of a config, with their bounds and errors. -/
def numsL (x0 x1 x2 x3 x4 x5 x6 x7 : Int) (b : Bool) (x9 x10 x11 : Int) : List (Int × Int × Int × Int) :=
  [(x0, 1, 16, 50), (x1, 1, 4, 51), (x2, 1, 3, 52), (x3, 0, 4, 53), (x4, 0, 3, 54), (x5, 1, 8, 55), (x6, 0, 20, 56), (x7, 0, 1000, 57), (x11, if b then x9 else x11, if b then x10 else x11, 58)]
/-- What Check answers. -/
def ckV (x0 x1 x2 x3 x4 x5 x6 x7 : Int) (b : Bool) (x9 x10 x11 : Int) : Int := ckL (numsL x0 x1 x2 x3 x4 x5 x6 x7 b x9 x10 x11)
/-- What Steps answers, of a config that may be. -/
def spV (d l s : Int) : Int := 20 + 8 * d + l * (20 + 2 * s)

theorem ckL_bad {l : List (Int × Int × Int × Int)} {k : Nat} {n : Int × Int × Int × Int} (h : l[k]? = some n) (hb : n.1 < n.2.1 ∨ n.2.2.1 < n.1) : ckL (l.drop k) = n.2.2.2 := by
  rw [List.getElem?_eq_some_iff] at h
  obtain ⟨hk, rfl⟩ := h
  rw [List.drop_eq_getElem_cons hk, ckL, if_pos hb]
theorem ckL_good {l : List (Int × Int × Int × Int)} {k : Nat} {n : Int × Int × Int × Int} (h : l[k]? = some n) (hb : ¬(n.1 < n.2.1 ∨ n.2.2.1 < n.1)) : ckL (l.drop k) = ckL (l.drop (k + 1)) := by
  rw [List.getElem?_eq_some_iff] at h
  obtain ⟨hk, rfl⟩ := h
  rw [List.drop_eq_getElem_cons hk, ckL, if_neg hb]

/-- May it be? -/
structure CfOk (x0 x1 x2 x3 x4 x5 x6 x7 : Int) (b : Bool) (x9 x10 x11 : Int) : Prop where
  h0 : 1 ≤ x0 ∧ x0 ≤ 16
  h1 : 1 ≤ x1 ∧ x1 ≤ 4
  h2 : 1 ≤ x2 ∧ x2 ≤ 3
  h3 : 0 ≤ x3 ∧ x3 ≤ 4
  h4 : 0 ≤ x4 ∧ x4 ≤ 3
  h5 : 1 ≤ x5 ∧ x5 ≤ 8
  h6 : 0 ≤ x6 ∧ x6 ≤ 20
  h7 : 0 ≤ x7 ∧ x7 ≤ 1000
  hb : b = true → x9 ≤ x11 ∧ x11 ≤ x10
theorem ck_ok (x0 x1 x2 x3 x4 x5 x6 x7 : Int) (b : Bool) (x9 x10 x11 : Int) : ckV x0 x1 x2 x3 x4 x5 x6 x7 b x9 x10 x11 = 0 ↔ CfOk x0 x1 x2 x3 x4 x5 x6 x7 b x9 x10 x11 := by
  constructor
  · intro h
    have hx : ¬(x11 < (if b then x9 else x11) ∨ (if b then x10 else x11) < x11) ∧ (1 ≤ x0 ∧ x0 ≤ 16) ∧ (1 ≤ x1 ∧ x1 ≤ 4) ∧ (1 ≤ x2 ∧ x2 ≤ 3) ∧ (0 ≤ x3 ∧ x3 ≤ 4) ∧ (0 ≤ x4 ∧ x4 ≤ 3) ∧ (1 ≤ x5 ∧ x5 ≤ 8) ∧ (0 ≤ x6 ∧ x6 ≤ 20) ∧ (0 ≤ x7 ∧ x7 ≤ 1000) := by
      simp only [ckV, numsL, ckL] at h
      repeat (first | omega | (split at h; next => omega))
    obtain ⟨hx, h0, h1, h2, h3, h4, h5, h6, h7⟩ := hx
    refine ⟨h0, h1, h2, h3, h4, h5, h6, h7, fun hb => ?_⟩
    subst hb
    simp at hx
    omega
  · intro ⟨h0, h1, h2, h3, h4, h5, h6, h7, hb⟩
    simp only [ckV, numsL, ckL]
    repeat (rw [if_neg (by omega)])
    cases b
    · simp
    · have := hb rfl
      simp; omega
end Go.Proofs.Ytpbneghabikpdaa
