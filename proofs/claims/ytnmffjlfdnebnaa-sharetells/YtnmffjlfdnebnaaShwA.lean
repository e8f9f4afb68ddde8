/- The law's shown. -/
import Derived.Test.YtnmffjlfdnebnaaShZ
import Derived.Test.YtnmffjlfdnebnaaTnZ
import Derived.Test.YtnmffjlfdnebnaaM5
import Derived.Lib.QuietBelow
import Derived.Deep.QuietTactic
import Derived.BigQuiet
import Derived.Deep.RegionHeld3
namespace Go.Proofs.Ytnmffjlfdnebnaa
open Go.RowKit Go.Sort
set_option linter.unusedVariables false
set_option linter.unusedSimpArgs false

def xC : Cf := (⟨3, 1, 1, 0, 0, 1, 0, 0, false, 0, 0, 0⟩ : Cf)
def xW : List Int := [0, 0, 0, 0, 0, 0, 0]
def xB : List (List E3) := [[], [], []]
def xD : Dt := ⟨15, 0, 0, 0, [(0, 1, 2), (2, 1, 3)], [(2, 1)], [], 0, 0, 0, 0, 0, 0, 0, 5, 0, 0⟩
def xN : Dt := ⟨0, 0, 0, 0, [], [], [], 0, 0, 0, 0, 0, 0, 0, 0, 0, 0⟩
def x0 : Tn := ⟨xC, 0, 0, xW, xB, xN, [], 0, [], false⟩
def x1 : Tn := ⟨xC, 0, 0, xW, xB, xD, [], 0, [], false⟩
def x2 : Tn := ⟨xC, 0, 0, [0, 0, 0, 0, 0, 0, 7], xB, { xD with ph := 16 }, [], 0, [], false⟩
def x3 : Tn := ⟨xC, 0, 0, [0, 0, 0, 0, 0, 5, 7], xB, { xD with ph := 0, pl := 1 }, [], 0, [], true⟩
def x4 : Tn := ⟨xC, 0, 0, xW, xB, { xN with ph := 2 }, [], 0, [], false⟩
def aM (A : Option Addr) (c : Nat) (B : Option Addr) (d : Nat) (bs : List Bt) : TA := ⟨A, c, B, d, bs, ⟨none, 0, none, 0, none, 0⟩, none, 0, none, 0⟩
theorem st_x1 : stepV x1 = x2 := by kernel_rfl
theorem st_x2 : stepV x2 = x3 := by kernel_rfl
theorem xC_ok : CfK xC := (ck_ok 3 1 1 0 0 1 0 0 false 0 0 0).1 (by decide)
theorem i64_s (x : Int) (h : -100 ≤ x ∧ x ≤ 100) : I64 x := by unfold I64; omega
theorem x1_ok : TnOk x1 := by
  refine ⟨by decide, by decide, by decide, by decide, by decide, ⟨?_, i64_s _ (by decide), i64_s _ (by decide), ?_, ?_, ?_⟩, i64_s _ (by decide), i64_s _ (by decide), i64_s _ (by decide), ?_, xC_ok⟩
  · intro x hx; have h : ∀ x ∈ x1.d.nums, -100 ≤ x ∧ x ≤ 100 := by decide
    exact i64_s x (h x hx)
  · intro e he; have h : ∀ e ∈ x1.d.bl, -100 ≤ e.2.2 ∧ e.2.2 ≤ 100 := by decide
    exact i64_s _ (h e he)
  · intro x hx; cases hx
  · intro e he; have h : ∀ e ∈ x1.d.kl, (-100 ≤ e.1 ∧ e.1 ≤ 100) ∧ -100 ≤ e.2 ∧ e.2 ≤ 100 := by decide
    exact ⟨i64_s _ (h e he).1, i64_s _ (h e he).2⟩
  · intro x hx; have h : ∀ x ∈ x1.ws, -100 ≤ x ∧ x ≤ 100 := by decide
    exact i64_s x (h x hx)
theorem x2_ok : TnOk x2 := by
  refine ⟨by decide, by decide, by decide, by decide, by decide, ⟨?_, i64_s _ (by decide), i64_s _ (by decide), ?_, ?_, ?_⟩, i64_s _ (by decide), i64_s _ (by decide), i64_s _ (by decide), ?_, xC_ok⟩
  · intro x hx; have h : ∀ x ∈ x2.d.nums, -100 ≤ x ∧ x ≤ 100 := by decide
    exact i64_s x (h x hx)
  · intro e he; have h : ∀ e ∈ x2.d.bl, -100 ≤ e.2.2 ∧ e.2.2 ≤ 100 := by decide
    exact i64_s _ (h e he)
  · intro x hx; cases hx
  · intro e he; have h : ∀ e ∈ x2.d.kl, (-100 ≤ e.1 ∧ e.1 ≤ 100) ∧ -100 ≤ e.2 ∧ e.2 ≤ 100 := by decide
    exact ⟨i64_s _ (h e he).1, i64_s _ (h e he).2⟩
  · intro x hx; have h : ∀ x ∈ x2.ws, -100 ≤ x ∧ x ≤ 100 := by decide
    exact i64_s x (h x hx)
theorem x4_ok : TnOk x4 := by
  refine ⟨by decide, by decide, by decide, by decide, by decide, ⟨?_, i64_s _ (by decide), i64_s _ (by decide), ?_, ?_, ?_⟩, i64_s _ (by decide), i64_s _ (by decide), i64_s _ (by decide), ?_, xC_ok⟩
  · intro x hx; have h : ∀ x ∈ x4.d.nums, -100 ≤ x ∧ x ≤ 100 := by decide
    exact i64_s x (h x hx)
  · intro e he; have h : ∀ e ∈ x4.d.bl, -100 ≤ e.2.2 ∧ e.2.2 ≤ 100 := by decide
    exact i64_s _ (h e he)
  · intro x hx; cases hx
  · intro e he; have h : ∀ e ∈ x4.d.kl, (-100 ≤ e.1 ∧ e.1 ≤ 100) ∧ -100 ≤ e.2 ∧ e.2 ≤ 100 := by decide
    exact ⟨i64_s _ (h e he).1, i64_s _ (h e he).2⟩
  · intro x hx; have h : ∀ x ∈ x4.ws, -100 ≤ x ∧ x ≤ 100 := by decide
    exact i64_s x (h x hx)
end Go.Proofs.Ytnmffjlfdnebnaa
