/- Texts of the elder layers in one file. -/
import Derived.WalkKit
import Derived.ProofKit
import Derived.OpenShut
import Derived.Test.YtjghdbkkjhnpfaaRows
import Derived.Maps.AppendAt
import Derived.Deep.AppendLies
import Derived.Deep.Draws
import Derived.OwnWalk
import Derived.RangeFuncBox
import Derived.RangeFuncNested
import Derived.RangeFuncLeaves
import Derived.RangeFuncBound
import Derived.RangeFuncCalls
import Derived.Shelf.Abstract
import Derived.OwnWalkIn
import Derived.TacticsInMore
import Derived.LoopNIn
import Derived.LoopIn
import Derived.Deep.QuietTactic
import Derived.BigQuiet
import Derived.StillTailTactics
import Derived.Deep.RegionHeld3
import Derived.Deep.Slices
/- Plain mathematics of one op: what a cell is behind it, and whether it does anything. Nothing of the program. -/
namespace Go.Proofs.Ytjghdbkkjhnpfaa
open Go.RowKit

theorem hide {p : Prop} (h : p) : Hid p := h

theorem ret_ib {a b : Int} {p q : Bool} (h : b = a) (h' : q = p) : Ending.returned (.tuple #[.int .i64 a, .bool p]) = .returned (.tuple #[.int .i64 b, .bool q]) := by rw [h, h']
theorem ret_b {p q : Bool} (h : q = p) : Ending.returned (.bool p) = .returned (.bool q) := by rw [h]

/-- A number of 64 bits. -/
def I64 (x : Int) : Prop := -9223372036854775808 ≤ x ∧ x ≤ 9223372036854775807

theorem i64_of_wf {x : Int} (h : (Lit.int .i64 x).wf = true) : I64 x := by
  simp [Lit.wf, IntKind.min, IntKind.max, IntKind.signed, IntKind.bits] at h
  unfold I64; omega
theorem i64_wrap (x : Int) : I64 (wrap64 x) := by unfold I64 wrap64; omega
theorem i64_bits (op : BinOp) (x y : Int) : I64 (bits op .i64 x y) := i64_of_wf (wf_bits op .i64 x y)
theorem wrap64_id {x : Int} (h : I64 x) : wrap64 x = x := by unfold I64 at h; unfold wrap64; omega

def putB (x v lo hi : Int) : Bool := decide (lo ≤ x + v) && decide (x + v ≤ hi)
def takeB (x v lo : Int) : Bool := decide (0 ≤ v) && decide (lo ≤ x)
def putV (x v lo hi : Int) : Int := if putB x v lo hi = true then x + v else x
def takeV (x v lo : Int) : Int := if takeB x v lo = true then (if x - lo ≤ v then lo else x - v) else x

def apV (t v x lo hi : Int) : Int :=
  if t = 1 then wrap64 (x + v) else if t = 2 then wrap64 (x - v) else if t = 3 then bits .or .i64 x v else if t = 4 then bits .and .i64 x v
  else if t = 5 then (if x ≤ v then v else x) else if t = 6 then (if x ≤ v then x else v) else if t = 7 then v
  else if t = 8 then putV x v lo hi else if t = 9 then takeV x v lo else x
def apB (t v x lo hi : Int) : Bool :=
  if 1 ≤ t ∧ t ≤ 7 then true else if t = 8 then putB x v lo hi else if t = 9 then takeB x v lo else false

theorem put_no {x v lo hi : Int} (hx : I64 x) (hv : I64 v) (hl : I64 lo) (hh : I64 hi) (h : ¬(wrap64 (x + v) < x ↔ v < 0) ∨ wrap64 (x + v) < lo ∨ hi < wrap64 (x + v)) : putB x v lo hi = false := by
  unfold I64 at hx hv hl hh; unfold wrap64 at h
  simp only [putB, Bool.and_eq_false_iff, decide_eq_false_iff_not]
  omega
theorem put_yes {x v lo hi : Int} (hx : I64 x) (hv : I64 v) (h : wrap64 (x + v) < x ↔ v < 0) (h1 : lo ≤ wrap64 (x + v)) (h2 : wrap64 (x + v) ≤ hi) : putB x v lo hi = true ∧ wrap64 (x + v) = x + v := by
  unfold I64 at hx hv; unfold wrap64 at h h1 h2 ⊢
  simp only [putB, Bool.and_eq_true, decide_eq_true_eq]
  omega

theorem u64_wrap (n : Int) : IntKind.u64.wrap n = n % 18446744073709551616 := IntKind.wrap_u64 n
theorem take_sub {x lo v : Int} (hx : I64 x) (hl : I64 lo) (hv : I64 v) (h0 : 0 ≤ v) (h : lo ≤ x) :
    (IntKind.u64.wrap (IntKind.u64.wrap x - IntKind.u64.wrap lo) ≤ IntKind.u64.wrap v) ↔ x - lo ≤ v := by
  unfold I64 at hx hl hv
  simp only [u64_wrap]
  omega
theorem take_no {x v lo : Int} (h : v < 0 ∨ x < lo) : takeB x v lo = false ∧ takeV x v lo = x := by
  have hb : takeB x v lo = false := by simp only [takeB, Bool.and_eq_false_iff, decide_eq_false_iff_not]; omega
  exact ⟨hb, by simp [takeV, hb]⟩
theorem take_all {x v lo : Int} (h0 : 0 ≤ v) (h : lo ≤ x) (h1 : x - lo ≤ v) : takeB x v lo = true ∧ takeV x v lo = lo := by
  have hb : takeB x v lo = true := by simp [takeB, h0, h]
  exact ⟨hb, by simp [takeV, hb, h1]⟩
theorem take_some {x v lo : Int} (h0 : 0 ≤ v) (h : lo ≤ x) (h1 : v < x - lo) : takeB x v lo = true ∧ takeV x v lo = x - v := by
  have hb : takeB x v lo = true := by simp [takeB, h0, h]
  have : ¬ x - lo ≤ v := by omega
  exact ⟨hb, by simp [takeV, hb, this]⟩
theorem ap_i64 {t v x lo hi : Int} (hv : I64 v) (hx : I64 x) (hl : I64 lo) (hh : I64 hi) : I64 (apV t v x lo hi) := by
  unfold apV
  repeat' split
  all_goals first
    | exact i64_wrap _ | exact i64_bits _ _ _ | assumption
    | (unfold putV putB; unfold I64 at *; simp only [Bool.and_eq_true, decide_eq_true_eq]; split <;> omega)
    | (unfold takeV takeB; unfold I64 at *; simp only [Bool.and_eq_true, decide_eq_true_eq]; repeat' split
       all_goals omega)
end Go.Proofs.Ytjghdbkkjhnpfaa
/- Plain facts about one op, behind the statements of layer 1: order, twice, back, bounds, wider. Nothing of the program. -/
namespace Go.Proofs.Ytjghdbkkjhnpfaa
open Go.RowKit

theorem ofInt_wrap (n : Int) : BitVec.ofInt 64 (IntKind.i64.wrap n) = BitVec.ofInt 64 n := by
  apply BitVec.eq_of_toInt_eq
  rw [IntKind.wrap_i64, BitVec.toInt_ofInt, BitVec.toInt_ofInt]
  simp only [Int.bmod_def]
  omega
theorem ofInt_nat (a : BitVec 64) : BitVec.ofInt 64 (a.toNat : Int) = a := by
  rw [BitVec.ofInt_natCast, BitVec.ofNat_toNat, BitVec.setWidth_eq]
theorem bits_or_def (x y : Int) : bits .or .i64 x y = IntKind.i64.wrap (((BitVec.ofInt 64 x) ||| (BitVec.ofInt 64 y)).toNat : Int) := rfl
theorem bits_and_def (x y : Int) : bits .and .i64 x y = IntKind.i64.wrap (((BitVec.ofInt 64 x) &&& (BitVec.ofInt 64 y)).toNat : Int) := rfl
theorem bv_or (x y : Int) : BitVec.ofInt 64 (bits .or .i64 x y) = BitVec.ofInt 64 x ||| BitVec.ofInt 64 y := by rw [bits_or_def, ofInt_wrap, ofInt_nat]
theorem bv_and (x y : Int) : BitVec.ofInt 64 (bits .and .i64 x y) = BitVec.ofInt 64 x &&& BitVec.ofInt 64 y := by rw [bits_and_def, ofInt_wrap, ofInt_nat]

theorem or_order (x v w : Int) : bits .or .i64 (bits .or .i64 x v) w = bits .or .i64 (bits .or .i64 x w) v := by
  rw [bits_or_def (bits .or .i64 x v), bits_or_def (bits .or .i64 x w), bv_or, bv_or, BitVec.or_assoc, BitVec.or_assoc, BitVec.or_comm (BitVec.ofInt 64 v)]
theorem and_order (x v w : Int) : bits .and .i64 (bits .and .i64 x v) w = bits .and .i64 (bits .and .i64 x w) v := by
  rw [bits_and_def (bits .and .i64 x v), bits_and_def (bits .and .i64 x w), bv_and, bv_and, BitVec.and_assoc, BitVec.and_assoc, BitVec.and_comm (BitVec.ofInt 64 v)]
theorem or_twice (x v : Int) : bits .or .i64 (bits .or .i64 x v) v = bits .or .i64 x v := by
  rw [bits_or_def (bits .or .i64 x v), bv_or, BitVec.or_assoc, BitVec.or_self, ← bits_or_def]
theorem and_twice (x v : Int) : bits .and .i64 (bits .and .i64 x v) v = bits .and .i64 x v := by
  rw [bits_and_def (bits .and .i64 x v), bv_and, BitVec.and_assoc, BitVec.and_self, ← bits_and_def]

theorem ap_order (t v w x : Int) (h : 1 ≤ t ∧ t ≤ 6) : apV t v (apV t w x 0 0) 0 0 = apV t w (apV t v x 0 0) 0 0 := by
  have h : t = 1 ∨ t = 2 ∨ t = 3 ∨ t = 4 ∨ t = 5 ∨ t = 6 := by omega
  rcases h with rfl | rfl | rfl | rfl | rfl | rfl
  · simp only [apV, if_true]; unfold wrap64; omega
  · simp only [apV, if_true]; unfold wrap64; simp; omega
  · simp [apV, or_order x v w]
  · simp [apV, and_order x v w]
  · simp only [apV]; simp; repeat' split
    all_goals omega
  · simp only [apV]; simp; repeat' split
    all_goals omega
theorem ap_twice (t v x : Int) (h : 3 ≤ t ∧ t ≤ 7) : apV t v (apV t v x 0 0) 0 0 = apV t v x 0 0 := by
  have h : t = 3 ∨ t = 4 ∨ t = 5 ∨ t = 6 ∨ t = 7 := by omega
  rcases h with rfl | rfl | rfl | rfl | rfl
  · simp [apV, or_twice]
  · simp [apV, and_twice]
  · simp only [apV]; simp; repeat' split
    all_goals omega
  · simp only [apV]; simp; repeat' split
    all_goals omega
  · simp [apV]
theorem ap_adds (v w x : Int) : apV 1 w (apV 1 v x 0 0) 0 0 = apV 1 (wrap64 (v + w)) x 0 0 := by
  simp only [apV, if_true]; unfold wrap64; omega
theorem ap_true (t v x lo hi : Int) (h : 1 ≤ t ∧ t ≤ 7) : apB t v x lo hi = true := by simp [apB, h]
theorem ap_back (v x lo hi lo' hi' : Int) (hx : I64 x) : apV 2 v (apV 1 v x lo hi) lo' hi' = x := by
  simp only [apV, if_true]; unfold I64 at hx; unfold wrap64; simp; omega
theorem put_back (v x lo hi : Int) (h1 : lo ≤ x) (h2 : x ≤ hi) (h : putB x v lo hi = true) :
    putB (putV x v lo hi) (-v) lo hi = true ∧ putV (putV x v lo hi) (-v) lo hi = x := by
  have e : putV x v lo hi = x + v := by simp [putV, h]
  have hb : putB (x + v) (-v) lo hi = true := by simp [putB]; omega
  rw [e]
  exact ⟨hb, by simp [putV, hb]; omega⟩
end Go.Proofs.Ytjghdbkkjhnpfaa
/- Contracts of the functions of package oper: each returns what the plain mathematics says; nothing that was there has turned. -/
namespace Go.Proofs.Ytjghdbkkjhnpfaa
open Go.RowKit

def ApPost (t v x lo hi : Int) (w : World) (e : Ending) (w' : World) : Prop :=
  e = .returned (.tuple #[.int .i64 (apV t v x lo hi), .bool (apB t v x lo hi)]) ∧ Below w.heap.size w w'


theorem apV1 (v x lo hi : Int) : apV 1 v x lo hi = wrap64 (x + v) ∧ apB 1 v x lo hi = true := by simp [apV, apB]
theorem apV2 (v x lo hi : Int) : apV 2 v x lo hi = wrap64 (x - v) ∧ apB 2 v x lo hi = true := by simp [apV, apB]
theorem apV3 (v x lo hi : Int) : apV 3 v x lo hi = bits .or .i64 x v ∧ apB 3 v x lo hi = true := by simp [apV, apB]
theorem apV4 (v x lo hi : Int) : apV 4 v x lo hi = bits .and .i64 x v ∧ apB 4 v x lo hi = true := by simp [apV, apB]
theorem apV5 (v x lo hi : Int) : apV 5 v x lo hi = (if x ≤ v then v else x) ∧ apB 5 v x lo hi = true := by simp [apV, apB]
theorem apV6 (v x lo hi : Int) : apV 6 v x lo hi = (if x ≤ v then x else v) ∧ apB 6 v x lo hi = true := by simp [apV, apB]
theorem apV7 (v x lo hi : Int) : apV 7 v x lo hi = v ∧ apB 7 v x lo hi = true := by simp [apV, apB]
theorem apV8 (v x lo hi : Int) : apV 8 v x lo hi = putV x v lo hi ∧ apB 8 v x lo hi = putB x v lo hi := by simp [apV, apB]
theorem apV9 (v x lo hi : Int) : apV 9 v x lo hi = takeV x v lo ∧ apB 9 v x lo hi = takeB x v lo := by simp [apV, apB]
theorem apV_else (t v x lo hi : Int) (h : t < 1 ∨ 9 < t) : apV t v x lo hi = x ∧ apB t v x lo hi = false := by
  simp only [apV, apB]
  repeat (first | rw [if_neg (by omega)] | rw [if_neg (by omega)])
  simp

theorem wrap_sub (x v : Int) : wrap64 (x - v) = wrap64 (x + wrap64 (-v)) := by unfold wrap64; omega

end Go.Proofs.Ytjghdbkkjhnpfaa
/- Contracts of the document's own answers for layer 1: the same plain mathematics. -/
namespace Go.Proofs.Ytjghdbkkjhnpfaa
open Go.RowKit

theorem rput_no {x v lo hi : Int} (hx : I64 x) (hv : I64 v) (hl : I64 lo) (hh : I64 hi) (h : ¬(0 ≤ v ↔ x ≤ wrap64 (x + v)) ∨ wrap64 (x + v) < lo ∨ hi < wrap64 (x + v)) :
    apV 8 v x lo hi = x ∧ apB 8 v x lo hi = false := by
  have hb : putB x v lo hi = false := put_no hx hv hl hh (by omega)
  rw [(apV8 v x lo hi).1, (apV8 v x lo hi).2]
  exact ⟨by simp [putV, hb], hb⟩
theorem rput_yes {x v lo hi : Int} (hx : I64 x) (hv : I64 v) (h : 0 ≤ v ↔ x ≤ wrap64 (x + v)) (h1 : lo ≤ wrap64 (x + v)) (h2 : wrap64 (x + v) ≤ hi) :
    apV 8 v x lo hi = wrap64 (x + v) ∧ apB 8 v x lo hi = true := by
  obtain ⟨hb, e⟩ := put_yes hx hv (by omega) h1 h2
  rw [(apV8 v x lo hi).1, (apV8 v x lo hi).2]
  exact ⟨by simp [putV, hb, e], hb⟩

def mayB (t v : Int) (b : Bool) : Bool := if b = true then decide (t = 8) || (decide (t = 9) && decide (0 ≤ v)) else decide (1 ≤ t) && decide (t ≤ 7)
def MayPost (t v : Int) (b : Bool) (w : World) (e : Ending) (w' : World) : Prop := e = .returned (.bool (mayB t v b)) ∧ Below w.heap.size w w'

end Go.Proofs.Ytjghdbkkjhnpfaa
/- Contracts of oper.Known and oper.May, and of the document's Known. -/
namespace Go.Proofs.Ytjghdbkkjhnpfaa
open Go.RowKit

def knownB (t : Int) : Bool := decide (1 ≤ t) && decide (t ≤ 9)

end Go.Proofs.Ytjghdbkkjhnpfaa
/- Plain mathematics of batches: what a cell is behind entries, what is ahead of each. Nothing of the program. -/
namespace Go.Proofs.Ytjghdbkkjhnpfaa
open Go.RowKit

/-- An entry: whose, tag, number. -/
abbrev E3 := Int × Int × Int

def stp (lo hi : Int) (x : Int) (e : E3) : Int := apV e.2.1 e.2.2 x lo hi
def allV (l : List E3) (x lo hi : Int) : Int := l.foldl (stp lo hi) x
def prs : List E3 → Int → Int → Int → List Int
  | [], _, _, _ => []
  | e :: l, x, lo, hi => x :: prs l (stp lo hi x e) lo hi
/-- What the iterator tells: ahead, behind. -/
def pairs : List E3 → Int → Int → Int → List (Int × Int)
  | [], _, _, _ => []
  | e :: l, x, lo, hi => (x, stp lo hi x e) :: pairs l (stp lo hi x e) lo hi

def Good (l : List E3) : Prop := ∀ e ∈ l, I64 e.2.2

theorem allV_nil (x lo hi : Int) : allV [] x lo hi = x := rfl
theorem allV_append (a b : List E3) (x lo hi : Int) : allV (a ++ b) x lo hi = allV b (allV a x lo hi) lo hi := List.foldl_append
theorem allV_snoc (a : List E3) (e : E3) (x lo hi : Int) : allV (a ++ [e]) x lo hi = stp lo hi (allV a x lo hi) e := by rw [allV_append]; rfl
theorem prs_length (l : List E3) (x lo hi : Int) : (prs l x lo hi).length = l.length := by
  induction l generalizing x with
  | nil => rfl
  | cons e l ih => simp [prs, ih]
theorem prs_append (a b : List E3) (x lo hi : Int) : prs (a ++ b) x lo hi = prs a x lo hi ++ prs b (allV a x lo hi) lo hi := by
  induction a generalizing x with
  | nil => rfl
  | cons e l ih => simp [prs, ih, allV]
theorem pairs_append (a b : List E3) (x lo hi : Int) : pairs (a ++ b) x lo hi = pairs a x lo hi ++ pairs b (allV a x lo hi) lo hi := by
  induction a generalizing x with
  | nil => rfl
  | cons e l ih => simp [pairs, ih, allV]
theorem pairs_length (l : List E3) (x lo hi : Int) : (pairs l x lo hi).length = l.length := by
  induction l generalizing x with
  | nil => rfl
  | cons e l ih => simp [pairs, ih]
theorem pairs_snoc (a : List E3) (e : E3) (x lo hi : Int) : pairs (a ++ [e]) x lo hi = pairs a x lo hi ++ [(allV a x lo hi, stp lo hi (allV a x lo hi) e)] := by rw [pairs_append]; rfl
theorem prs_snoc (a : List E3) (e : E3) (x lo hi : Int) : prs (a ++ [e]) x lo hi = prs a x lo hi ++ [allV a x lo hi] := by rw [prs_append]; rfl
theorem pairs_fst (l : List E3) (x lo hi : Int) : (pairs l x lo hi).map (·.1) = prs l x lo hi := by
  induction l generalizing x with
  | nil => rfl
  | cons e l ih => simp [pairs, prs, ih]
/-- The last thing told. -/
def lastOf (x : Int) (p : List (Int × Int)) : Int := (p.getLast?.map (·.2)).getD x
theorem lastOf_nil (x : Int) : lastOf x [] = x := rfl
theorem lastOf_snoc (x : Int) (p : List (Int × Int)) (q : Int × Int) : lastOf x (p ++ [q]) = q.2 := by simp [lastOf]
theorem lastOf_pairs (l : List E3) (x lo hi : Int) : lastOf x (pairs l x lo hi) = allV l x lo hi := by
  rcases List.eq_nil_or_concat l with rfl | ⟨a, e, rfl⟩
  · rfl
  · rw [List.concat_eq_append, pairs_snoc, lastOf_snoc, allV_snoc]
theorem take_snoc {α : Type} (l : List α) (k : Nat) (e : α) (h : l[k]? = some e) : l.take (k + 1) = l.take k ++ [e] := by
  rw [List.take_add_one, h]; rfl
theorem stp_i64 {lo hi x : Int} {e : E3} (hv : I64 e.2.2) (hx : I64 x) (hl : I64 lo) (hh : I64 hi) : I64 (stp lo hi x e) := ap_i64 hv hx hl hh
theorem allV_i64 {l : List E3} {x lo hi : Int} (hg : Good l) (hx : I64 x) (hl : I64 lo) (hh : I64 hi) : I64 (allV l x lo hi) := by
  induction l generalizing x with
  | nil => exact hx
  | cons e l ih => exact ih (fun e' h => hg e' (List.mem_cons_of_mem _ h)) (stp_i64 (hg e (by simp)) hx hl hh)
theorem Good.take {l : List E3} (h : Good l) (k : Nat) : Good (l.take k) := fun e he => h e (List.mem_of_mem_take he)
theorem Good.append {a b : List E3} (h : Good a) (k : Good b) : Good (a ++ b) := fun e he => (List.mem_append.1 he).elim (h e) (k e)
theorem Good.at {l : List E3} (h : Good l) {k : Nat} {e : E3} (he : l[k]? = some e) : I64 e.2.2 := h e (List.mem_of_getElem? he)

/-- The cells of entries. -/
def ecells (l : List E3) : List Value := l.flatMap fun e => [.int .i64 e.1, .int .i64 e.2.1, .int .i64 e.2.2]
theorem ecells_length (l : List E3) : (ecells l).length = l.length * 3 := by
  induction l with
  | nil => rfl
  | cons e l ih => simp only [ecells, List.flatMap_cons, List.length_append] at ih ⊢; rw [ih]; simp; omega
theorem ecells_append (a b : List E3) : ecells (a ++ b) = ecells a ++ ecells b := List.flatMap_append
theorem ecells_at {l : List E3} {k : Nat} {e : E3} (h : l[k]? = some e) :
    (ecells l)[k * 3]? = some (.int .i64 e.1) ∧ (ecells l)[k * 3 + 1]? = some (.int .i64 e.2.1) ∧ (ecells l)[k * 3 + 2]? = some (.int .i64 e.2.2) := by
  induction l generalizing k with
  | nil => simp at h
  | cons d l ih =>
    cases k with
    | zero => simp at h; subst h; simp [ecells]
    | succ k =>
      have h3 := ih (k := k) (by simpa using h)
      have e1 : ∀ j, (ecells (d :: l))[(k + 1) * 3 + j]? = (ecells l)[k * 3 + j]? := fun j => by
        show (_ :: _ :: _ :: ecells l)[(k + 1) * 3 + j]? = _
        rw [show (k + 1) * 3 + j = k * 3 + j + 1 + 1 + 1 by omega]; simp
      exact ⟨(e1 0).trans h3.1, (e1 1).trans h3.2.1, (e1 2).trans h3.2.2⟩
theorem ecells_one (l : List E3) : ∀ u ∈ ecells l, u.oneCell' = true := by
  intro u hu
  simp only [ecells, List.mem_flatMap] at hu
  obtain ⟨e, _, hu⟩ := hu
  simp at hu
  rcases hu with rfl | rfl | rfl <;> rfl
end Go.Proofs.Ytjghdbkkjhnpfaa
/- Words for memory: a slice that reads as a list of cells, nil let in; nothing of the program. -/
namespace Go.Proofs.Ytjghdbkkjhnpfaa
open Go.RowKit

/-- The slice of n elements of sz cells each at A holds xs, in a block below B. -/
def Sees (w : World) (B sz : Nat) (A : Option Addr) (n : Nat) (xs : List Value) : Prop :=
  xs.length = n * sz ∧ (0 < n → ∃ b off, A = some ⟨b, off, none⟩ ∧ b < B ∧ ∀ j u, xs[j]? = some u → w.cell? ⟨b, off + j, none⟩ = some u)

theorem addr_add (b off j : Nat) : (⟨b, off, none⟩ : Addr).add j = ⟨b, off + j, none⟩ := by
  unfold Addr.add
  by_cases h : j = 0 <;> simp [h]

section
variable {w w' : World} {B B' sz n : Nat} {A : Option Addr} {xs : List Value}
theorem Sees.empty : Sees w B sz A 0 [] := ⟨by simp, fun h => absurd h (by omega)⟩
theorem Sees.hold (h : Sees w B sz A n xs) (hk : ∀ p : Addr, p.block < B → w'.cell? p = w.cell? p) : Sees w' B sz A n xs :=
  ⟨h.1, fun hn => by
    obtain ⟨b, off, e, hb, hc⟩ := h.2 hn
    exact ⟨b, off, e, hb, fun j u hu => (hk ⟨b, off + j, none⟩ hb).trans (hc j u hu)⟩⟩
theorem Sees.up (h : Sees w B sz A n xs) (hB : B ≤ B') : Sees w B' sz A n xs :=
  ⟨h.1, fun hn => by
    obtain ⟨b, off, e, hb, hc⟩ := h.2 hn
    exact ⟨b, off, e, by omega, hc⟩⟩
theorem Sees.below (h : Sees w B sz A n xs) (hb : Below B w w') : Sees w' B sz A n xs := h.hold fun _ hp => hb.cell hp
theorem Sees.later (h : Sees w w.heap.size sz A n xs) (hb : Below w.heap.size w w') : Sees w' w'.heap.size sz A n xs := (h.below hb).up hb.size
theorem Sees.of_own {base c : Nat} {e : TypeId} (h : w.ownsRow base e sz (.slice A n c) n xs) : Sees w w.heap.size sz A n xs := by
  refine ⟨h.1, fun hn => ?_⟩
  rcases h.2 with ⟨hv, h0⟩ | ⟨g, cap, cur, hv, hb, hg, h1, h2, h3, h4⟩
  · omega
  · have hA : A = some ⟨g, 0, none⟩ := by injection hv
    subst hA
    refine ⟨g, 0, rfl, (Array.getElem?_eq_some_iff.1 hg).1, fun j u hu => ?_⟩
    have := h.cells (g := g) rfl j u hu
    rwa [addr_add] at this
theorem Sees.take (h : Sees w B sz A n xs) {k : Nat} (hk : k ≤ n) : Sees w B sz A k (xs.take (k * sz)) := by
  refine ⟨by rw [List.length_take, h.1]; exact Nat.min_eq_left (Nat.mul_le_mul_right _ hk), fun hn => ?_⟩
  obtain ⟨b, off, e, hb, hc⟩ := h.2 (by omega)
  refine ⟨b, off, e, hb, fun j u hu => hc j u ?_⟩
  rw [List.getElem?_take] at hu
  split at hu
  · exact hu
  · cases hu
end

theorem ecells_take (l : List E3) (k : Nat) : (ecells l).take (k * 3) = ecells (l.take k) := by
  induction l generalizing k with
  | nil => simp [ecells]
  | cons e l ih =>
    cases k with
    | zero => simp [ecells]
    | succ k =>
      have := ih k
      show (_ :: _ :: _ :: ecells l).take ((k + 1) * 3) = _ :: _ :: _ :: ecells (l.take k)
      rw [show (k + 1) * 3 = k * 3 + 1 + 1 + 1 by omega]
      simp [this]

/-- The k-th entry's cells. -/
theorem Sees.entry {w : World} {B : Nat} {A : Option Addr} {l : List E3} (h : Sees w B 3 A l.length (ecells l)) {k : Nat} (hk : k < l.length) :
    ∃ (b off : Nat) (t g v : Int), A = some ⟨b, off, none⟩ ∧ b < B ∧ l[k]? = some (t, g, v) ∧ w.cell? ⟨b, off + k * 3, none⟩ = some (.int .i64 t) ∧
      w.cell? ⟨b, off + k * 3 + 1, none⟩ = some (.int .i64 g) ∧ w.cell? ⟨b, off + k * 3 + 2, none⟩ = some (.int .i64 v) := by
  obtain ⟨b, off, e, hb, hc⟩ := h.2 (by omega)
  obtain ⟨⟨t, g, v⟩, he⟩ : ∃ e, l[k]? = some e := ⟨l[k], List.getElem?_eq_getElem hk⟩
  obtain ⟨h1, h2, h3⟩ := ecells_at he
  exact ⟨b, off, t, g, v, e, hb, he, hc _ _ h1, by have := hc _ _ h2; rwa [← Nat.add_assoc] at this, by have := hc _ _ h3; rwa [← Nat.add_assoc] at this⟩

/-- The k-th number's cell. -/
theorem Sees.num {w : World} {B : Nat} {A : Option Addr} {n : Nat} {l : List Int} (h : Sees w B 1 A n (l.map (Value.int .i64))) {k : Nat} (hk : k < n) :
    ∃ (b off : Nat) (v : Int), A = some ⟨b, off, none⟩ ∧ b < B ∧ l[k]? = some v ∧ w.cell? ⟨b, off + k, none⟩ = some (.int .i64 v) := by
  obtain ⟨b, off, e, hb, hc⟩ := h.2 (by omega)
  have hl : l.length = n := by have := h.1; simpa using this
  obtain ⟨v, he⟩ : ∃ e, l[k]? = some e := ⟨l[k], List.getElem?_eq_getElem (by omega)⟩
  exact ⟨b, off, v, e, hb, he, hc _ _ (by simp [he])⟩

theorem below_drewN {B : Nat} {a w : World} (h : Below B a w) (n : Nat) : Below B a (w.drewN n) := ⟨h.os, h.tape, h.output, h.size, h.block⟩
theorem grown_of_below {a w : World} (h : Below a.heap.size a w) (row : Option Nat) : a.grownBy w row := ⟨h.os, h.tape, h.output, h.size, fun i hi _ => h.block i hi⟩
theorem below_next {B : Nat} {a b c : World} (h : Below B a b) (hB : B ≤ b.heap.size) (k : Below b.heap.size b c) : Below B a c := h.trans (k.mono hB)
end Go.Proofs.Ytjghdbkkjhnpfaa
/- 'append' onto a row of the call's own, from a slice that reads as a list, nil let in. -/
namespace Go.Proofs.Ytjghdbkkjhnpfaa
open Go.RowKit

theorem own_form {w : World} {base : Nat} {e : TypeId} {sz n : Nat} {v : Value} {xs : List Value} (h : w.ownsRow base e sz v n xs) : ∃ A c, v = .slice A n c ∧ n ≤ c := by
  rcases h.2 with ⟨rfl, rfl⟩ | ⟨g, cap, _, rfl, _, _, hc, _⟩
  · exact ⟨_, _, rfl, Nat.le_refl _⟩
  · exact ⟨_, _, rfl, hc⟩
theorem own_at {w : World} {base : Nat} {e : TypeId} {sz n : Nat} {v : Value} {xs : List Value} (h : w.ownsRow base e sz v n xs) : ∀ k, v.ownBlock = some k → base ≤ k := fun k hk => (h.lt k hk).1

theorem own_below {w w' : World} {base : Nat} {e : TypeId} {sz n : Nat} {v : Value} {xs : List Value} (h : w.ownsRow base e sz v n xs) (hb : Below w.heap.size w w') : w'.ownsRow base e sz v n xs :=
  h.kept (row := none) (grown_of_below hb none) (by cases hv : v.ownBlock with
    | none => exact .inl rfl
    | some k => exact .inr (by simp))

section
variable {P : Program} (w : World)
theorem run_app (base : Nat) (t ty e : TypeId) (i : TypeInfo) (z : Value) (sz bytes : Nat) (ht : P.underlying t = some (.slice e)) (hi : P.info? e = some i) (hz : i.zero = some z)
    (hsize : i.size = sz) (hby : i.bytes = bytes) (hzs : z.cells.size = sz) (hsz : 0 < sz) (v : Value) (n : Nat) (xs : List Value) (hown : w.ownsRow base e sz v n xs)
    (B : Nat) (A : Option Addr) (m c : Nat) (news : List Value) (hs : Sees w B sz A m news) (h1 : ∀ u ∈ news, u.oneCell' = true)
    (h63 : n + m ≤ maxLen) (hbytes : (n + m) * bytes ≤ 140737488355328) (hbase : base ≤ w.heap.size) :
    ∃ v' w', (Builtin.append_ #[t, t] ty #[v, .slice A m c]).run P w = .ok v' w' ∧ w'.ownsRow base e sz v' (n + m) (xs ++ news) ∧ w.grownBy w' v.ownBlock := by
  cases A with
  | none =>
    obtain rfl : m = 0 := by
      rcases Nat.eq_zero_or_pos m with h | h
      · exact h
      · obtain ⟨b, off, h', _⟩ := hs.2 h; cases h'
    obtain rfl : news = [] := List.eq_nil_of_length_eq_zero (by simpa using hs.1)
    refine ⟨v, w, ?_, by simpa using hown, World.grownBy.refl w _⟩
    rcases hown.2 with ⟨rfl, rfl⟩ | ⟨g, cap, cur, rfl, _, _, hnc, _⟩
    · simp [Builtin.append_, run_underlying ht, sizeOf, typeInfo, hi, Builtin.lenOf, Builtin.firstCells]
    · simp [Builtin.append_, run_underlying ht, sizeOf, typeInfo, hi, Builtin.lenOf, Builtin.firstCells, hnc, storeCells]
  | some ad =>
    have hcells : ∀ j u, news[j]? = some u → w.cell? (ad.add j) = some u := by
      intro j u hu
      rcases Nat.eq_zero_or_pos m with h | h
      · subst h
        obtain rfl : news = [] := List.eq_nil_of_length_eq_zero (by simpa using hs.1)
        simp at hu
      · obtain ⟨b, off, h', _, hc⟩ := hs.2 h
        cases h'
        rw [addr_add]
        exact hc j u hu
    obtain ⟨v', w', hr, h2, h3, _, _⟩ := run_append_own_at (P := P) w base t ty e i z sz bytes ht hi hz hsize hby hzs hsz v n xs hown ad m c news hs.1 hcells h1 h63 hbytes hbase
    exact ⟨v', w', hr, h2, h3⟩

theorem wpList_app {ops : Array Oper} {rest : List Oper} {o : Oper} {a : Act} {Q : Exit → Act → World → Prop} (hgd : o.guard = none) (s x : Operand) (t : TypeId)
    (ho : o.op = .call { callee := .builtin .append, args := #[s, x], argTypes := #[t, t] })
    (base : Nat) (e : TypeId) (i : TypeInfo) (z : Value) (sz bytes : Nat) (ht : P.underlying t = some (.slice e)) (hi : P.info? e = some i) (hz : i.zero = some z)
    (hsize : i.size = sz) (hby : i.bytes = bytes) (hzs : z.cells.size = sz) (hsz : 0 < sz) (v : Value) (n : Nat) (xs : List Value) (hs : a.eval s = v) (hown : w.ownsRow base e sz v n xs)
    (B : Nat) (A : Option Addr) (m c : Nat) (news : List Value) (hx : a.eval x = .slice A m c) (hr : Sees w B sz A m news) (h1 : ∀ u ∈ news, u.oneCell' = true)
    (h63 : n + m ≤ maxLen) (hbytes : (n + m) * bytes ≤ 140737488355328) (hbase : base ≤ w.heap.size)
    (h : ∀ v' w', w'.ownsRow base e sz v' (n + m) (xs ++ news) → w.grownBy w' v.ownBlock → wpList P ops Q rest (a.put o.dst v') w') : wpList P ops Q (o :: rest) a w := by
  refine wpList_plain hgd fun K hK => ?_
  obtain ⟨v', w', hrun, h2, h3⟩ := run_app (P := P) w base t o.type e i z sz bytes ht hi hz hsize hby hzs hsz v n xs hown B A m c news hr h1 h63 hbytes hbase
  unfold Oper.wp execOp
  simp only [ho, resolve, invoke, builtin, Sem.run_bind, Sem.run_pure, Result.andThen_ok, List.map_toArray, List.map_cons, List.map_nil, hs, hx, hrun]
  exact hK _ _ (h v' w' h2 h3)
end

/-- A new block of cells is seen. -/
theorem sees_new (w : World) (xs : List Value) (t : TypeId) (sz n : Nat) (h : xs.length = n * sz) : Sees (w.alloc (.cells xs.toArray t)) (w.alloc (.cells xs.toArray t)).heap.size sz (some ⟨w.heap.size, 0, none⟩) n xs :=
  ⟨h, fun _ => ⟨w.heap.size, 0, rfl, by simp, fun j u hu => by
    have : (w.alloc (.cells xs.toArray t)).heap[w.heap.size]? = some (.cells xs.toArray t (0, 0)) := heap_alloc_new w _
    have h2 := cell_of_row _ w.heap.size j xs.toArray t (0, 0) this
    rw [Nat.zero_add, h2]
    simpa using hu⟩⟩
end Go.Proofs.Ytjghdbkkjhnpfaa
/- batch's iterator: what it tells, entry by entry. -/
namespace Go.Proofs.Ytjghdbkkjhnpfaa
open Go.RowKit Go.Shelf

attribute [local go_sem] Oper.semAt_some

abbrev encP (p : Int × Int) : Array Value := #[.int .i64 p.1, .int .i64 p.2]

/-- What a round keeps: what lay below n₀, and the boxes m .. k - 1. -/
structure Keep (n₀ m k : Nat) (W W' : World) : Prop where
  size : W.heap.size ≤ W'.heap.size
  block : ∀ b, (b < n₀ ∨ (m ≤ b ∧ b < k)) → W'.heap[b]? = W.heap[b]?
theorem Keep.refl (n₀ m k : Nat) (W : World) : Keep n₀ m k W W := ⟨Nat.le_refl _, fun _ _ => rfl⟩
theorem Keep.trans {n₀ m k : Nat} {A B C : World} (h : Keep n₀ m k A B) (h' : Keep n₀ m k B C) : Keep n₀ m k A C :=
  ⟨Nat.le_trans h.size h'.size, fun b hb => (h'.block b hb).trans (h.block b hb)⟩
theorem Keep.cell {n₀ m k : Nat} {A B : World} (h : Keep n₀ m k A B) {p : Addr} (hp : p.block < n₀ ∨ (m ≤ p.block ∧ p.block < k)) : B.cell? p = A.cell? p := World.cell?_of_block (h.block _ hp)
theorem Keep.of_below {n₀ m k : Nat} {A B : World} (h : Below A.heap.size A B) (hn : n₀ ≤ A.heap.size) (hk : k ≤ A.heap.size) : Keep n₀ m k A B :=
  ⟨h.size, fun b hb => h.block b (by omega)⟩
theorem Keep.put {n₀ m k : Nat} {w : World} (hn : n₀ ≤ w.heap.size) (hk : k ≤ w.heap.size) (W : World) (l : Nat) (o o' : Obj) (hl : w.heap.size ≤ l) (_ : W.heap[l]? = some o) (_ : o.isCells = false) (_ : o.isWalk = false) : Keep n₀ m k W (W.putObj l o') :=
  ⟨(grownBy_putObj' W l o').size, fun b hb => (World.putObj_heap_other (by omega))⟩

end Go.Proofs.Ytjghdbkkjhnpfaa
/- Contracts of batch.All, batch.Priors and batch.Still. -/
namespace Go.Proofs.Ytjghdbkkjhnpfaa
open Go.RowKit Go.Shelf

attribute [local go_sem] Oper.semAt_some

def IntPost (a : Int) (w : World) (e : Ending) (w' : World) : Prop := e = .returned (.int .i64 a) ∧ Below w.heap.size w w'
def BoolPost (p : Bool) (w : World) (e : Ending) (w' : World) : Prop := e = .returned (.bool p) ∧ Below w.heap.size w w'

def RowPost (sz n : Nat) (xs : List Value) (w : World) (e : Ending) (w' : World) : Prop := ∃ A c, e = .returned (.slice A n c) ∧ n ≤ c ∧ Sees w' w'.heap.size sz A n xs ∧ Below w.heap.size w w'

theorem info3 : (Try.prog.info? 3).map (fun i => (i.zero, i.size, i.bytes)) = some (some (.int .i64 0), 1, 8) := by kernel_rfl

end Go.Proofs.Ytjghdbkkjhnpfaa
/- Contracts of batch.Join, batch.Upto, batch.Still, and of the document's own. -/
namespace Go.Proofs.Ytjghdbkkjhnpfaa
open Go.RowKit

/-- A batch as a slice value: its address, its capacity, its entries. -/
structure Bt where
  A : Option Addr
  c : Nat
  l : List E3
def Bt.val (q : Bt) : Value := .slice q.A q.l.length q.c
def Bt.Ok (w : World) (q : Bt) : Prop := Sees w w.heap.size 3 q.A q.l.length (ecells q.l)
def flat (bs : List Bt) : List E3 := bs.flatMap (·.l)
theorem flat_snoc (bs : List Bt) (q : Bt) : flat (bs ++ [q]) = flat bs ++ q.l := by simp [flat]
theorem flat_take_le (bs : List Bt) (j : Nat) : (flat (bs.take j)).length ≤ (flat bs).length := by
  have h : flat bs = flat (bs.take j) ++ flat (bs.drop j) := by
    conv => lhs; rw [← List.take_append_drop j bs]
    exact List.flatMap_append
  rw [h, List.length_append]
  omega

theorem info48 : (Try.prog.info? 71).map (fun i => (i.zero, i.size, i.bytes)) = some (some (.agg #[.int .i64 0, .int .i64 0, .int .i64 0]), 3, 24) := by kernel_rfl
theorem info52 : (Try.prog.info? 84).map (fun i => (i.zero, i.size, i.bytes)) = some (some (.agg #[.int .i64 0, .int .i64 0, .int .i64 0]), 3, 24) := by kernel_rfl

/-- It lies in a block that was not there in w. -/
def Fresh (w : World) (A : Option Addr) : Prop := ∀ p, A = some p → w.heap.size ≤ p.block
theorem Fresh.before {w w' : World} {A : Option Addr} (h : Fresh w' A) (hs : w.heap.size ≤ w'.heap.size) : Fresh w A := fun p hp => Nat.le_trans hs (h p hp)
theorem fresh_own {w w' : World} {e : TypeId} {sz n m c : Nat} {A : Option Addr} {xs : List Value} (h : w'.ownsRow w.heap.size e sz (.slice A m c) n xs) : Fresh w A := by
  rintro ⟨b, o, s⟩ rfl
  rcases h.2 with ⟨hv, _⟩ | ⟨g, cap, cur, hv, hb, _⟩
  · cases hv
  · injection hv with h1; injection h1 with h2; injection h2 with h3; rw [h3]; exact hb
/-- A new slice in a block of its own. -/
def FRowPost (sz n : Nat) (xs : List Value) (w : World) (e : Ending) (w' : World) : Prop := ∃ A c, e = .returned (.slice A n c) ∧ n ≤ c ∧ Sees w' w'.heap.size sz A n xs ∧ Fresh w A ∧ Below w.heap.size w w'
theorem FRowPost.row {sz n : Nat} {xs : List Value} {w : World} {e : Ending} {w' : World} (h : FRowPost sz n xs w e w') : RowPost sz n xs w e w' := by
  obtain ⟨A, c, h1, h2, h3, _, h4⟩ := h
  exact ⟨A, c, h1, h2, h3, h4⟩

set_option maxRecDepth 100000 in
set_option maxHeartbeats 1000000 in
theorem joinF_any (A : Option Addr) (cap : Nat) (bs : List Bt) (len : Nat) (hlen : len = bs.length) (hmax : len ≤ 100000) (hf : (flat bs).length ≤ 100000) (w : World)
    (hs : Sees w w.heap.size 1 A len (bs.map Bt.val)) (hq : ∀ q ∈ bs, q.Ok w) :
    Calls Try.prog 66 #[.slice A len cap] w (FRowPost 3 (flat bs).length (ecells (flat bs)) w) := by
  obtain ⟨i0, hi0, hz0, hz1, hz2⟩ := info_parts info48
  have HL := hide hlen
  clear hlen
  go_enter Try.func66, Try.ntmps66
  go_wp2
  go_loopw [3, 8] (fun a i wr => ∃ j : Nat, j ≤ len ∧ i = .int .i64 j ∧ wr.ownsRow w.heap.size 71 3 a (flat (bs.take j)).length (ecells (flat (bs.take j))) ∧ Below w.heap.size w wr)
    (fun _ i _ => len - (intOf i).toNat)
  case atStart => exact ⟨0, Nat.zero_le _, rfl, World.ownsRow_nil _ _ _ _, Below.refl _ _⟩
  case round =>
    obtain ⟨j, hj, rfl, hown, hB⟩ := hrel
    by_cases hlt : j < len
    · obtain ⟨b, off, rfl, hb, hc⟩ := hs.2 (by omega)
      obtain ⟨q, hqj⟩ : ∃ q, bs[j]? = some q := ⟨bs[j]'(by have := HL.out; omega), List.getElem?_eq_getElem _⟩
      have hcq := hc j q.val (by simp [hqj])
      have hcr : wr.cell? ⟨b, off + j, none⟩ = some q.val := (hB.cell (p := ⟨b, off + j, none⟩) hb).trans hcq
      have hok : Sees wr w.heap.size 3 q.A q.l.length (ecells q.l) := (hq q (List.mem_of_getElem? hqj)).below hB
      have HT := hide (take_snoc bs j q hqj)
      have hle : (flat (bs.take j)).length + q.l.length ≤ 100000 := by
        have := flat_take_le bs (j + 1)
        rw [HT.out, flat_snoc, List.length_append] at this
        omega
      obtain ⟨qA, qc, ql⟩ := q
      simp only [Bt.val] at hcr hok hle
      clear hc hcq hqj
      go_wp2_with (at_builtin; refine wpList_app _ rfl _ _ 30 rfl w.heap.size 71 i0 _ 3 24 Try.underlying30 hi0 hz0 hz1 hz2 rfl (by omega) _ _ _ rfl hown w.heap.size qA ql.length qc (ecells ql) rfl hok (ecells_one ql) (by unfold maxLen; omega) (by omega) hB.size ?_; intro v1 w1 hown1 hg1)
      go_roundw
      case rel => exact ⟨j + 1, by omega, by go_num, by rw [HT.out, flat_snoc, List.length_append, ecells_append]; exact hown1, hB.grown hg1 hB.size (own_at hown)⟩
      case measure => simp [intOf]; omega
    · obtain rfl : j = len := by omega
      have HT := hide (show bs.take j = bs by rw [HL.out, List.take_length])
      go_wp2
      go_ret
      rw [HT.out] at hown
      obtain ⟨A', c', rfl, hc'⟩ := own_form hown
      exact ⟨A', c', rfl, hc', Sees.of_own hown, fresh_own hown, hB⟩

theorem join_any (A : Option Addr) (cap : Nat) (bs : List Bt) (len : Nat) (hlen : len = bs.length) (hmax : len ≤ 100000) (hf : (flat bs).length ≤ 100000) (w : World)
    (hs : Sees w w.heap.size 1 A len (bs.map Bt.val)) (hq : ∀ q ∈ bs, q.Ok w) :
    Calls Try.prog 66 #[.slice A len cap] w (RowPost 3 (flat bs).length (ecells (flat bs)) w) := (joinF_any A cap bs len hlen hmax hf w hs hq).mono fun _ _ h => h.row

/-- How many entries Upto takes. -/
def upN (n : Int) (len : Nat) : Nat := (min n (len : Int)).toNat

end Go.Proofs.Ytjghdbkkjhnpfaa
/- Contracts of the document's own answers for layer 2, and of the turning of entries. -/
namespace Go.Proofs.Ytjghdbkkjhnpfaa
open Go.RowKit

/-- An empty row that the call makes. -/
theorem own_empty (w : World) (B : Nat) (e : TypeId) (sz : Nat) (hB : B ≤ w.heap.size) : (w.alloc (.cells #[] e)).ownsRow B e sz (.slice (some ⟨w.heap.size, 0, none⟩) 0 0) 0 [] :=
  World.ownsRow_made w #[] 0 hB (by unfold maxLen; omega) (by simp)

theorem prs_take_snoc (l : List E3) (k : Nat) (e : E3) (h : l[k]? = some e) (x lo hi : Int) : prs (l.take (k + 1)) x lo hi = prs (l.take k) x lo hi ++ [allV (l.take k) x lo hi] := by
  rw [take_snoc l k e h, prs_snoc]

theorem take_eq_step {α : Type} [DecidableEq α] {xs ys : List α} {j : Nat} {a b : α} (h : xs.take j = ys.take j) (ha : xs[j]? = some a) (hb : ys[j]? = some b) (he : a = b) : xs.take (j + 1) = ys.take (j + 1) := by
  rw [take_snoc xs j a ha, take_snoc ys j b hb, h, he]
theorem ne_at {α : Type} {xs ys : List α} {j : Nat} {a b : α} (ha : xs[j]? = some a) (hb : ys[j]? = some b) (he : a ≠ b) : xs ≠ ys := by
  rintro rfl
  rw [ha] at hb
  exact he (by injection hb)

set_option maxRecDepth 100000 in
set_option maxHeartbeats 1000000 in
theorem ints_any (A B : Option Addr) (cap cap' n m : Nat) (xs ys : List Int) (hn : n ≤ 100000) (w : World) (hx : Sees w w.heap.size 1 A n (xs.map (Value.int .i64))) (hy : Sees w w.heap.size 1 B m (ys.map (Value.int .i64))) :
    Calls Try.prog 53 #[.slice A n cap, .slice B m cap'] w (BoolPost (decide (xs = ys)) w) := by
  have hlx : xs.length = n := by have := hx.1; simpa using this
  have hly : ys.length = m := by have := hy.1; simpa using this
  by_cases hnm : n = m
  · subst hnm
    have HX := hide hlx
    have HY := hide hly
    clear hlx hly
    go_enter Try.func53, Try.ntmps53
    go_wp2
    go_loopw [5] (fun i wr => ∃ j : Nat, j ≤ n ∧ i = .int .i64 j ∧ xs.take j = ys.take j ∧ ∃ q, wr = w.drewN q) (fun i _ => n - (intOf i).toNat)
    case atStart => exact ⟨0, Nat.zero_le _, rfl, rfl, 0, rfl⟩
    case round =>
      obtain ⟨j, hj, rfl, htk, q, rfl⟩ := hrel
      by_cases hlt : j < n
      · obtain ⟨b, off, a, rfl, hb, ha, hc⟩ := hx.num hlt
        obtain ⟨b', off', a', rfl, hb', ha', hc'⟩ := hy.num hlt
        have HTK := hide htk
        have HA := hide ha
        have HA' := hide ha'
        clear htk ha ha'
        by_cases hne : a = a'
        · subst hne
          go_wp2_with fail
          go_quiet (fail)
          go_wp2
          go_roundw
          case rel => exact ⟨j + 1, by omega, by go_num, take_eq_step HTK.out HA.out HA'.out rfl, _, rfl⟩
          case measure => simp [intOf]; omega
        · have HN := hide hne
          have hb1 : (a == a') = false := beq_eq_false_iff_ne.2 hne
          have hb2 : (a != a') = true := bne_iff_ne.2 hne
          clear hne
          go_wp2_with fail
          go_quiet (fail)
          go_wp2
          go_ret
          exact ⟨ret_b (decide_eq_false (ne_at HA.out HA'.out HN.out)), below_drewN (below_drewN (Below.refl _ _) _) _⟩
      · obtain rfl : j = n := by omega
        have HE : Hid (xs = ys) := by
          have h1 := List.take_of_length_le (l := xs) (i := j) (by rw [HX.out]; exact Nat.le_refl _)
          have h2 := List.take_of_length_le (l := ys) (i := j) (by rw [HY.out]; exact Nat.le_refl _)
          exact h1.symm.trans (htk.trans h2)
        clear htk
        go_wp2
        go_ret
        exact ⟨ret_b (decide_eq_true HE.out), below_drewN (Below.refl _ _) _⟩
  · have HE : Hid (xs ≠ ys) := fun e => hnm (by rw [← hlx, ← hly, e])
    have hb1 : ((n : Int) == (m : Int)) = false := beq_eq_false_iff_ne.2 (by omega)
    have hb2 : ((n : Int) != (m : Int)) = true := bne_iff_ne.2 (by omega)
    clear hlx hly
    go_enter Try.func53, Try.ntmps53
    go_wp2
    go_ret
    exact ⟨ret_b (decide_eq_false HE.out), Below.refl _ _⟩
end Go.Proofs.Ytjghdbkkjhnpfaa
/- Contracts of Same and of its. -/
namespace Go.Proofs.Ytjghdbkkjhnpfaa
open Go.RowKit

set_option maxRecDepth 100000 in
set_option maxHeartbeats 1000000 in
theorem same_any (A B : Option Addr) (cap cap' n m : Nat) (xs ys : List E3) (hnx : n = xs.length) (hmy : m = ys.length) (hn : n ≤ 100000) (w : World) (hx : Sees w w.heap.size 3 A n (ecells xs)) (hy : Sees w w.heap.size 3 B m (ecells ys)) :
    Calls Try.prog 16 #[.slice A n cap, .slice B m cap'] w (BoolPost (decide (xs = ys)) w) := by
  by_cases hnm : n = m
  · subst hnm
    have HX := hide hnx
    have HY := hide hmy
    clear hnx hmy
    go_enter Try.func16, Try.ntmps16
    go_wp2
    go_loopw [5] (fun i wr => ∃ j : Nat, j ≤ n ∧ i = .int .i64 j ∧ xs.take j = ys.take j ∧ ∃ q, wr = w.drewN q) (fun i _ => n - (intOf i).toNat)
    case atStart => exact ⟨0, Nat.zero_le _, rfl, rfl, 0, rfl⟩
    case round =>
      obtain ⟨j, hj, rfl, htk, q, rfl⟩ := hrel
      by_cases hlt : j < n
      · have hx' := hx
        have hy' := hy
        rw [HX.out] at hx'
        rw [HY.out] at hy'
        obtain ⟨b, off, t, g, v, rfl, hb, ha, c1, c2, c3⟩ := hx'.entry (k := j) (by have := HX.out; omega)
        obtain ⟨b', off', t', g', v', rfl, hb', ha', d1, d2, d3⟩ := hy'.entry (k := j) (by have := HY.out; omega)
        have HTK := hide htk
        have HA := hide ha
        have HA' := hide ha'
        clear htk ha ha' hx' hy'
        by_cases hne : (t, g, v) = (t', g', v')
        · simp only [Prod.mk.injEq] at hne
          obtain ⟨rfl, rfl, rfl⟩ := hne
          go_wp2_with fail
          go_quiet (fail)
          go_wp2
          go_roundw
          case rel => exact ⟨j + 1, by omega, by go_num, take_eq_step HTK.out HA.out HA'.out rfl, _, rfl⟩
          case measure => simp [intOf]; omega
        · have HN := hide hne
          clear hne
          by_cases h1 : t = t'
          · subst h1
            by_cases h2 : g = g'
            · subst h2
              have hv : v ≠ v' := fun e => HN.out (by rw [e])
              have hb1 : (v == v') = false := beq_eq_false_iff_ne.2 hv
              have hb2 : (v != v') = true := bne_iff_ne.2 hv
              clear hv
              go_wp2_with fail
              go_quiet (fail)
              go_wp2
              go_ret
              exact ⟨ret_b (decide_eq_false (ne_at HA.out HA'.out HN.out)), below_drewN (below_drewN (Below.refl _ _) _) _⟩
            · have hb1 : (g == g') = false := beq_eq_false_iff_ne.2 h2
              have hb2 : (g != g') = true := bne_iff_ne.2 h2
              clear h2
              go_wp2_with fail
              go_quiet (fail)
              go_wp2
              go_ret
              exact ⟨ret_b (decide_eq_false (ne_at HA.out HA'.out HN.out)), below_drewN (below_drewN (Below.refl _ _) _) _⟩
          · have hb1 : (t == t') = false := beq_eq_false_iff_ne.2 h1
            have hb2 : (t != t') = true := bne_iff_ne.2 h1
            clear h1
            go_wp2_with fail
            go_quiet (fail)
            go_wp2
            go_ret
            exact ⟨ret_b (decide_eq_false (ne_at HA.out HA'.out HN.out)), below_drewN (below_drewN (Below.refl _ _) _) _⟩
      · obtain rfl : j = n := by omega
        have HE : Hid (xs = ys) := by
          have h1 := List.take_of_length_le (l := xs) (i := j) (by rw [HX.out]; exact Nat.le_refl _)
          have h2 := List.take_of_length_le (l := ys) (i := j) (by rw [HY.out]; exact Nat.le_refl _)
          exact h1.symm.trans (htk.trans h2)
        clear htk
        go_wp2
        go_ret
        exact ⟨ret_b (decide_eq_true HE.out), below_drewN (Below.refl _ _) _⟩
  · have HE : Hid (xs ≠ ys) := fun e => hnm (by rw [hnx, hmy, e])
    have hb1 : ((n : Int) == (m : Int)) = false := beq_eq_false_iff_ne.2 (by omega)
    have hb2 : ((n : Int) != (m : Int)) = true := bne_iff_ne.2 (by omega)
    clear hnx hmy
    go_enter Try.func16, Try.ntmps16
    go_wp2
    go_ret
    exact ⟨ret_b (decide_eq_false HE.out), Below.refl _ _⟩

theorem own_ne {w : World} {base : Nat} {e : TypeId} {sz n b : Nat} {v : Value} {xs : List Value} (h : w.ownsRow base e sz v n xs) (hb : b < base) : v.ownBlock ≠ some b :=
  fun hv => absurd (own_at h b hv) (Nat.not_le.2 hb)

end Go.Proofs.Ytjghdbkkjhnpfaa
/- Rows of the call's own beside each other; entries made of numbers; sums and orders. -/
namespace Go.Proofs.Ytjghdbkkjhnpfaa
open Go.RowKit

theorem row_kept {w w1 : World} {tmp : Obj} {base : Nat} {e : TypeId} {sz n : Nat} {u v v' : Value} {xs : List Value} (hu : w.ownsRow base e sz u n xs) (hg : (w.alloc tmp).grownBy w1 v.ownBlock) (hne : u.ownBlock ≠ v.ownBlock)
    (hat : v'.ownBlock = v.ownBlock ∨ v'.ownBlock = some (w.alloc tmp).heap.size) : w1.ownsRow base e sz u n xs ∧ u.ownBlock ≠ v'.ownBlock := by
  refine ⟨(hu.alloc tmp).kept hg (.inr hne), ?_⟩
  rcases hat with h | h
  · rw [h]; exact hne
  · intro hk
    have := (hu.lt _ (hk.trans h)).2
    simp at this
    omega

/-- k entries: f whose, t the tag, g the numbers. -/
def mkE (f g : Nat → Int) (t : Int) (k : Nat) : List E3 := (List.range k).map fun i => (f i, t, g i)
theorem mkE_zero (f g : Nat → Int) (t : Int) : mkE f g t 0 = [] := rfl
theorem mkE_succ (f g : Nat → Int) (t : Int) (k : Nat) : mkE f g t (k + 1) = mkE f g t k ++ [(f k, t, g k)] := by simp [mkE, List.range_succ]
theorem mkE_length (f g : Nat → Int) (t : Int) (k : Nat) : (mkE f g t k).length = k := by simp [mkE]
theorem mkE_good {f g : Nat → Int} {t : Int} {k : Nat} (h : ∀ i, i < k → I64 (g i)) : Good (mkE f g t k) := by
  intro e he
  simp only [mkE, List.mem_map, List.mem_range] at he
  obtain ⟨i, hi, rfl⟩ := he
  exact h i hi
theorem mkE_all (f g : Nat → Int) (t : Int) (k : Nat) (x lo hi : Int) : allV (mkE f g t k) x lo hi = ((List.range k).map g).foldl (fun y v => apV t v y lo hi) x := by
  simp only [allV, mkE, List.foldl_map]
  rfl

theorem foldl_move {f : Int → Int → Int} (h : ∀ x v u, f (f x v) u = f (f x u) v) (l : List Int) (x v : Int) : l.foldl f (f x v) = f (l.foldl f x) v := by
  induction l generalizing x with
  | nil => rfl
  | cons a l ih => rw [List.foldl_cons, h, ih, List.foldl_cons]
theorem foldl_rev {f : Int → Int → Int} (h : ∀ x v u, f (f x v) u = f (f x u) v) (l : List Int) (x : Int) : l.reverse.foldl f x = l.foldl f x := by
  induction l generalizing x with
  | nil => rfl
  | cons a l ih => rw [List.reverse_cons, List.foldl_append, ih]; exact (foldl_move h l x a).symm

/-- The numbers of a list, by their places; those of its mirror. -/
def nth (l : List Int) (i : Nat) : Int := l[i]?.getD 0
theorem nth_all (l : List Int) : (List.range l.length).map (nth l) = l := by
  apply List.ext_getElem
  · simp
  · intro i h1 h2
    simp [nth, h2]
theorem nth_rev (l : List Int) : (List.range l.length).map (fun i => nth l (l.length - 1 - i)) = l.reverse := by
  apply List.ext_getElem
  · simp
  · intro i h1 h2
    have h3 : i < l.length := by simpa using h2
    have h4 : l.length - 1 - i < l.length := by omega
    simp [nth, h4]
theorem nth_i64 {l : List Int} (h : ∀ v ∈ l, I64 v) (i : Nat) : I64 (nth l i) := by
  unfold nth
  cases hi : l[i]? with
  | none => show I64 0; unfold I64; omega
  | some v => exact h v (List.mem_of_getElem? hi)

theorem order_all (t : Int) (ht : 1 ≤ t ∧ t ≤ 6) (f f' : Nat → Int) (l : List Int) (x : Int) :
    allV (mkE f (nth l) t l.length) x 0 0 = allV (mkE f' (fun i => nth l (l.length - 1 - i)) t l.length) x 0 0 := by
  rw [mkE_all, mkE_all, nth_all, nth_rev, foldl_rev (fun y v u => ap_order t u v y ht)]

def sumOf (l : List Int) : Int := l.foldl (· + ·) 0
theorem add_all (l : List Int) (x s : Int) : l.foldl (fun y v => apV 1 v y 0 0) (wrap64 (x + s)) = wrap64 (x + l.foldl (· + ·) s) := by
  induction l generalizing s with
  | nil => rfl
  | cons a l ih =>
    rw [List.foldl_cons, List.foldl_cons, ← ih (s + a)]
    congr 1
    simp only [apV, if_true]; unfold wrap64; omega
theorem sub_all (l : List Int) (x s : Int) : l.foldl (fun y v => apV 2 v y 0 0) (wrap64 (x - s)) = wrap64 (x - l.foldl (· + ·) s) := by
  induction l generalizing s with
  | nil => rfl
  | cons a l ih =>
    rw [List.foldl_cons, List.foldl_cons, ← ih (s + a)]
    congr 1
    simp only [apV]; unfold wrap64; simp; omega
theorem adds_is (f : Nat → Int) (l : List Int) (x : Int) (hx : I64 x) : allV (mkE f (nth l) 1 l.length) x 0 0 = wrap64 (x + sumOf l) := by
  rw [mkE_all, nth_all]
  have := add_all l x 0
  rwa [Int.add_zero, wrap64_id hx] at this
theorem subs_is (f : Nat → Int) (l : List Int) (x : Int) (hx : I64 x) : allV (mkE f (nth l) 2 l.length) x 0 0 = wrap64 (x - sumOf l) := by
  rw [mkE_all, nth_all]
  have := sub_all l x 0
  rwa [Int.sub_zero, wrap64_id hx] at this
theorem meet_is (f f' : Nat → Int) (l : List Int) (x : Int) (hx : I64 x) : allV (mkE f (nth l) 1 l.length ++ mkE f' (nth l) 2 l.length) x 0 0 = x ∧ allV (mkE f' (nth l) 2 l.length ++ mkE f (nth l) 1 l.length) x 0 0 = x := by
  rw [allV_append, allV_append, adds_is f l x hx, subs_is f' l x hx, subs_is f' l _ (i64_wrap _), adds_is f l _ (i64_wrap _)]
  generalize sumOf l = s
  unfold I64 at hx
  unfold wrap64
  constructor <;> omega
end Go.Proofs.Ytjghdbkkjhnpfaa
/- Arguments opened: slices of numbers, slices of entries. Nothing of the program but its types. -/
namespace Go.Proofs.Ytjghdbkkjhnpfaa
open Go.RowKit Go.ChangeShapes Go.WideShapes Go.Deep

theorem choose_list {α : Type} {p : Nat → α → Prop} : ∀ (n : Nat), (∀ i, i < n → ∃ a, p i a) → ∃ l : List α, l.length = n ∧ ∀ i a, l[i]? = some a → p i a
  | 0, _ => ⟨[], rfl, fun i a h => by simp at h⟩
  | n + 1, h => by
    obtain ⟨l, hl, hp⟩ := choose_list n fun i hi => h i (by omega)
    obtain ⟨a, ha⟩ := h n (by omega)
    refine ⟨l ++ [a], by simp [hl], fun i b hb => ?_⟩
    rcases Nat.lt_or_ge i n with hi | hi
    · rw [List.getElem?_append_left (by omega)] at hb
      exact hp i b hb
    · rw [List.getElem?_append_right (by omega), hl] at hb
      have : i - n = 0 := by
        rcases Nat.eq_zero_or_pos (i - n) with h0 | h0
        · exact h0
        · rw [List.getElem?_eq_none (by simp; omega)] at hb; cases hb
      rw [this] at hb
      simp at hb
      subst hb
      rwa [show i = n by omega]

theorem plain_addr {w : World} {a : Addr} {v : Value} (h : w.cell? a = some v) : ∃ b off, a = ⟨b, off, none⟩ := by
  obtain ⟨b, off, spot⟩ := a
  have := World.cell?_spot h
  simp at this
  subst this
  exact ⟨b, off, rfl⟩

section
variable {H : Type} {enc : TypeId × Value → H} {P : Program} {w : World} {base : Nat} {spare : Nat → Bool} {held : Bool}

theorem open_nums {r : Reach} {b0 : Nat} {t e : TypeId} {v : Value} {d : DataW H} {p : List MemPlace} (ht : P.underlying t = some (.slice e)) (he : P.underlying e = some (.int .i64)) (hc : P.cellsOf e = 1)
    (hv : Value.okWide P w r b0 t v) (h : DataW.Trod enc P w base spare held t v d p) :
    ∃ (A : Option Addr) (n cap : Nat) (l : List Int), v = .slice A n cap ∧ n = l.length ∧ n ≤ cap ∧ Sees w w.heap.size 1 A n (l.map (Value.int .i64)) ∧ ∀ x ∈ l, I64 x := by
  obtain ⟨a0, len, cap, rfl⟩ := okWide_slice ht hv
  obtain ⟨fuel, hf⟩ := h
  rcases open_ints ht he hc hf with ⟨hcs, hx⟩ | ⟨a, len', cap', zs, hcs, _, hl, hm, hz, hx, hcell, hwz⟩
  · simp [Value.cells] at hcs
    obtain ⟨rfl, rfl, rfl⟩ := hcs
    exact ⟨none, 0, 0, [], rfl, rfl, Nat.le_refl _, Sees.empty, by simp⟩
  · simp [Value.cells] at hcs
    obtain ⟨rfl, rfl, rfl⟩ := hcs
    have hzl : len ≤ zs.length := by rw [hz]; split <;> omega
    refine ⟨some a, len, cap, zs.take len, rfl, by rw [List.length_take]; omega, hl, ⟨by simp; omega, fun hn => ?_⟩, fun x hx => i64_of_wf (hwz x (List.mem_of_mem_take hx))⟩
    obtain ⟨b, off, rfl, hc⟩ := ints_at hcell (by omega)
    refine ⟨b, off, rfl, World.block_lt_of_cell? w _ (hc 0 (by omega)), fun j u hu => ?_⟩
    rw [List.getElem?_map, List.getElem?_take] at hu
    split at hu
    · rename_i hj
      rw [hc j (by omega)]
      have hjz : j < zs.length := by omega
      simp [List.getElem?_eq_getElem hjz] at hu
      subst hu
      simp [List.getD, List.getElem?_eq_getElem hjz]
    · cases hu

/-- A struct of a number and of a struct of two numbers, laid out in three cells. -/
theorem open_ents {r : Reach} {b0 : Nat} {t e s : TypeId} {f0 f1 g0 g1 : Field} {v : Value} {d : DataW H} {p : List MemPlace} (ht : P.underlying t = some (.slice e)) (he : P.underlying e = some (.struct #[f0, f1])) (hs : P.underlying s = some (.struct #[g0, g1]))
    (hce : P.cellsOf e = 3) (hcs : P.cellsOf s = 2) (h0 : P.underlying f0.type = some (.int .i64)) (o0 : f0.offset = 0) (c0 : P.cellsOf f0.type = 1) (t1 : f1.type = s) (o1 : f1.offset = 1)
    (k0 : P.underlying g0.type = some (.int .i64)) (p0 : g0.offset = 0) (d0 : P.cellsOf g0.type = 1) (k1 : P.underlying g1.type = some (.int .i64)) (p1 : g1.offset = 1) (d1 : P.cellsOf g1.type = 1)
    (hv : Value.okWide P w r b0 t v) (h : DataW.Trod enc P w base spare held t v d p) :
    ∃ (A : Option Addr) (n cap : Nat) (l : List E3), v = .slice A n cap ∧ n = l.length ∧ n ≤ cap ∧ Sees w w.heap.size 3 A n (ecells l) ∧ Good l := by
  obtain ⟨a0, len, cap, rfl⟩ := okWide_slice ht hv
  obtain ⟨fuel, hf⟩ := h
  rcases open_slice ht hf with ⟨hcs', hx⟩ | ⟨a, len', cap', m, n, D, Pl, hcs', _, hl, hm, hmm, hx, hi⟩
  · simp [Value.cells] at hcs'
    obtain ⟨rfl, rfl, rfl⟩ := hcs'
    exact ⟨none, 0, 0, [], rfl, rfl, Nat.le_refl _, Sees.empty, fun e he => by cases he⟩
  · simp [Value.cells] at hcs'
    obtain ⟨rfl, rfl, rfl⟩ := hcs'
    have hlm : len ≤ m := by rw [hmm]; split <;> omega
    have key : ∀ i, i < len → ∃ q : E3, (w.cell? (a.add (i * 3)) = some (.int .i64 q.1) ∧ w.cell? ((a.add (i * 3)).add 1) = some (.int .i64 q.2.1) ∧ w.cell? ((a.add (i * 3)).add 2) = some (.int .i64 q.2.2)) ∧ I64 q.2.2 := by
      intro i hil
      obtain ⟨cs, hc, htr⟩ := hi i (by omega)
      rw [hce] at hc
      obtain ⟨_, hcl, hat⟩ := World.cells?_some hc
      obtain ⟨ys, n1, _, _, _, hyl, hfl⟩ := DataW.trod_struct he htr
      match cs, hcl with
      | [u0, u1, u2], _ =>
        match ys, hyl with
        | [y0, y1], _ =>
          have e0 := hfl 0 f0 rfl
          have e1 := hfl 1 f1 rfl
          rw [o0, c0] at e0
          rw [o1, t1, hcs] at e1
          obtain ⟨x0, q0, _, _⟩ := DataW.trod_int h0 (by simpa using e0)
          obtain ⟨zs, n2, _, _, _, hzl, hgl⟩ := DataW.trod_struct hs (show DataW.trod enc P w base spare held n1 s [u1, u2] = some y1 by simpa using e1)
          match zs, hzl with
          | [z0, z1], _ =>
            have e2 := hgl 0 g0 rfl
            have e3 := hgl 1 g1 rfl
            rw [p0, d0] at e2
            rw [p1, d1] at e3
            obtain ⟨x1, q1, _, _⟩ := DataW.trod_int k0 (by simpa using e2)
            obtain ⟨x2, q2, _, wf2⟩ := DataW.trod_int k1 (by simpa using e3)
            simp at q0 q1 q2
            subst q0 q1 q2
            refine ⟨(x0, x1, x2), ⟨?_, ?_, ?_⟩, i64_of_wf wf2⟩
            · have := hat 0 (by omega)
              rw [show (a.add (i * 3)).add 0 = a.add (i * 3) from by simp [Addr.add]] at this
              simpa using this
            · simpa using hat 1 (by omega)
            · simpa using hat 2 (by omega)
    obtain ⟨l, hll, hlp⟩ := choose_list len key
    refine ⟨some a, len, cap, l, rfl, hll.symm, hl, ⟨by rw [ecells_length, hll], fun hn => ?_⟩, fun q hq => ?_⟩
    · obtain ⟨q, hq⟩ : ∃ q, l[0]? = some q := ⟨l[0]'(by omega), List.getElem?_eq_getElem _⟩
      have h00 := (hlp 0 q hq).1.1
      rw [Nat.zero_mul, show a.add 0 = a from by simp [Addr.add]] at h00
      obtain ⟨b, off, rfl⟩ := plain_addr h00
      refine ⟨b, off, rfl, World.block_lt_of_cell? w _ h00, fun j u hu => ?_⟩
      have hj : j < l.length * 3 := by
        rcases Nat.lt_or_ge j (l.length * 3) with h | h
        · exact h
        · rw [List.getElem?_eq_none (by rw [ecells_length]; omega)] at hu; cases hu
      obtain ⟨q, hq⟩ : ∃ q, l[j / 3]? = some q := ⟨l[j / 3]'(by omega), List.getElem?_eq_getElem _⟩
      obtain ⟨a0, a1, a2⟩ := ecells_at hq
      obtain ⟨⟨b0, b1, b2⟩, _⟩ := hlp (j / 3) q hq
      rw [addr_add] at b0 b1 b2
      rw [addr_add] at b1 b2
      have hr : j = j / 3 * 3 ∨ j = j / 3 * 3 + 1 ∨ j = j / 3 * 3 + 2 := by omega
      rcases hr with hr | hr | hr
      · rw [hr] at hu ⊢; rw [a0] at hu; rw [b0]; exact hu
      · rw [hr] at hu ⊢; rw [a1] at hu; rw [← Nat.add_assoc, b1]; exact hu
      · rw [hr] at hu ⊢; rw [a2] at hu; rw [← Nat.add_assoc, b2]; exact hu
    · obtain ⟨i, hi⟩ := List.getElem?_of_mem hq
      exact (hlp i q hi).2
end
end Go.Proofs.Ytjghdbkkjhnpfaa
