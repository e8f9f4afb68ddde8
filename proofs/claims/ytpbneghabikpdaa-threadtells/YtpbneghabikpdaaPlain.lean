/- Plain mathematics of one op: what a cell is behind it, and whether it does anything. Nothing of the program. -/
import Derived.WalkKit
import Derived.ProofKit
import Derived.OpenShut
namespace Go.Proofs.Ytpbneghabikpdaa
open Go.RowKit

theorem hide {p : Prop} (h : p) : Hid p := h

theorem ret_ib {a b : Int} {p q : Bool} (h : b = a) (h' : q = p) : Ending.returned (.tuple #[.int .i64 a, .bool p]) = .returned (.tuple #[.int .i64 b, .bool q]) := by rw [h, h']
theorem ret_b {p q : Bool} (h : q = p) : Ending.returned (.bool p) = .returned (.bool q) := by rw [h]

/-- A number of 64 bits. -/
def I64 (x : Int) : Prop := -9223372036854775808 ≤ x ∧ x ≤ 9223372036854775807

theorem i64_of_wf {x : Int} (h : (Lit.int .i64 x).wf = true) : I64 x := by
  simp [Lit.wf, IntKind.min, IntKind.max, IntKind.signed, IntKind.bits] at h
  unfold I64; omega
theorem i64_wrap (x : Int) : I64 (wrap64 x) := by unfold I64 wrap64; omega
theorem i64_bits (op : BinOp) (x y : Int) : I64 (bits op .i64 x y) := i64_of_wf (wf_bits op .i64 x y)
theorem wrap64_id {x : Int} (h : I64 x) : wrap64 x = x := by unfold I64 at h; unfold wrap64; omega

def putB (x v lo hi : Int) : Bool := decide (lo ≤ x + v) && decide (x + v ≤ hi)
def takeB (x v lo : Int) : Bool := decide (0 ≤ v) && decide (lo ≤ x)
def putV (x v lo hi : Int) : Int := if putB x v lo hi = true then x + v else x
def takeV (x v lo : Int) : Int := if takeB x v lo = true then (if x - lo ≤ v then lo else x - v) else x

def apV (t v x lo hi : Int) : Int :=
  if t = 1 then wrap64 (x + v) else if t = 2 then wrap64 (x - v) else if t = 3 then bits .or .i64 x v else if t = 4 then bits .and .i64 x v
  else if t = 5 then (if x ≤ v then v else x) else if t = 6 then (if x ≤ v then x else v) else if t = 7 then v
  else if t = 8 then putV x v lo hi else if t = 9 then takeV x v lo else x
def apB (t v x lo hi : Int) : Bool :=
  if 1 ≤ t ∧ t ≤ 7 then true else if t = 8 then putB x v lo hi else if t = 9 then takeB x v lo else false

theorem put_no {x v lo hi : Int} (hx : I64 x) (hv : I64 v) (hl : I64 lo) (hh : I64 hi) (h : ¬(wrap64 (x + v) < x ↔ v < 0) ∨ wrap64 (x + v) < lo ∨ hi < wrap64 (x + v)) : putB x v lo hi = false := by
  unfold I64 at hx hv hl hh; unfold wrap64 at h
  simp only [putB, Bool.and_eq_false_iff, decide_eq_false_iff_not]
  omega
theorem put_yes {x v lo hi : Int} (hx : I64 x) (hv : I64 v) (h : wrap64 (x + v) < x ↔ v < 0) (h1 : lo ≤ wrap64 (x + v)) (h2 : wrap64 (x + v) ≤ hi) : putB x v lo hi = true ∧ wrap64 (x + v) = x + v := by
  unfold I64 at hx hv; unfold wrap64 at h h1 h2 ⊢
  simp only [putB, Bool.and_eq_true, decide_eq_true_eq]
  omega

theorem u64_wrap (n : Int) : IntKind.u64.wrap n = n % 18446744073709551616 := IntKind.wrap_u64 n
theorem take_sub {x lo v : Int} (hx : I64 x) (hl : I64 lo) (hv : I64 v) (h0 : 0 ≤ v) (h : lo ≤ x) :
    (IntKind.u64.wrap (IntKind.u64.wrap x - IntKind.u64.wrap lo) ≤ IntKind.u64.wrap v) ↔ x - lo ≤ v := by
  unfold I64 at hx hl hv
  simp only [u64_wrap]
  omega
theorem take_no {x v lo : Int} (h : v < 0 ∨ x < lo) : takeB x v lo = false ∧ takeV x v lo = x := by
  have hb : takeB x v lo = false := by simp only [takeB, Bool.and_eq_false_iff, decide_eq_false_iff_not]; omega
  exact ⟨hb, by simp [takeV, hb]⟩
theorem take_all {x v lo : Int} (h0 : 0 ≤ v) (h : lo ≤ x) (h1 : x - lo ≤ v) : takeB x v lo = true ∧ takeV x v lo = lo := by
  have hb : takeB x v lo = true := by simp [takeB, h0, h]
  exact ⟨hb, by simp [takeV, hb, h1]⟩
theorem take_some {x v lo : Int} (h0 : 0 ≤ v) (h : lo ≤ x) (h1 : v < x - lo) : takeB x v lo = true ∧ takeV x v lo = x - v := by
  have hb : takeB x v lo = true := by simp [takeB, h0, h]
  have : ¬ x - lo ≤ v := by omega
  exact ⟨hb, by simp [takeV, hb, this]⟩
theorem ap_i64 {t v x lo hi : Int} (hv : I64 v) (hx : I64 x) (hl : I64 lo) (hh : I64 hi) : I64 (apV t v x lo hi) := by
  unfold apV
  repeat' split
  all_goals first
    | exact i64_wrap _ | exact i64_bits _ _ _ | assumption
    | (unfold putV putB; unfold I64 at *; simp only [Bool.and_eq_true, decide_eq_true_eq]; split <;> omega)
    | (unfold takeV takeB; unfold I64 at *; simp only [Bool.and_eq_true, decide_eq_true_eq]; repeat' split
       all_goals omega)
end Go.Proofs.Ytpbneghabikpdaa
