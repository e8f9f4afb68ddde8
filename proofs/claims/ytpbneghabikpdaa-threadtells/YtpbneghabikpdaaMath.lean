/- Plain mathematics of batches: what a cell is behind entries, what is ahead of each. Nothing of the program. -/
import Derived.Test.YtpbneghabikpdaaPlain
namespace Go.Proofs.Ytpbneghabikpdaa
open Go.RowKit

/-- An entry: whose, tag, number. -/
abbrev E3 := Int × Int × Int

def stp (lo hi : Int) (x : Int) (e : E3) : Int := apV e.2.1 e.2.2 x lo hi
def allV (l : List E3) (x lo hi : Int) : Int := l.foldl (stp lo hi) x
def prs : List E3 → Int → Int → Int → List Int
  | [], _, _, _ => []
  | e :: l, x, lo, hi => x :: prs l (stp lo hi x e) lo hi
/-- What the iterator tells: ahead, behind. -/
def pairs : List E3 → Int → Int → Int → List (Int × Int)
  | [], _, _, _ => []
  | e :: l, x, lo, hi => (x, stp lo hi x e) :: pairs l (stp lo hi x e) lo hi

def Good (l : List E3) : Prop := ∀ e ∈ l, I64 e.2.2

theorem allV_nil (x lo hi : Int) : allV [] x lo hi = x := rfl
theorem allV_append (a b : List E3) (x lo hi : Int) : allV (a ++ b) x lo hi = allV b (allV a x lo hi) lo hi := List.foldl_append
theorem allV_snoc (a : List E3) (e : E3) (x lo hi : Int) : allV (a ++ [e]) x lo hi = stp lo hi (allV a x lo hi) e := by rw [allV_append]; rfl
theorem prs_length (l : List E3) (x lo hi : Int) : (prs l x lo hi).length = l.length := by
  induction l generalizing x with
  | nil => rfl
  | cons e l ih => simp [prs, ih]
theorem prs_append (a b : List E3) (x lo hi : Int) : prs (a ++ b) x lo hi = prs a x lo hi ++ prs b (allV a x lo hi) lo hi := by
  induction a generalizing x with
  | nil => rfl
  | cons e l ih => simp [prs, ih, allV]
theorem pairs_append (a b : List E3) (x lo hi : Int) : pairs (a ++ b) x lo hi = pairs a x lo hi ++ pairs b (allV a x lo hi) lo hi := by
  induction a generalizing x with
  | nil => rfl
  | cons e l ih => simp [pairs, ih, allV]
theorem pairs_length (l : List E3) (x lo hi : Int) : (pairs l x lo hi).length = l.length := by
  induction l generalizing x with
  | nil => rfl
  | cons e l ih => simp [pairs, ih]
theorem pairs_snoc (a : List E3) (e : E3) (x lo hi : Int) : pairs (a ++ [e]) x lo hi = pairs a x lo hi ++ [(allV a x lo hi, stp lo hi (allV a x lo hi) e)] := by rw [pairs_append]; rfl
theorem prs_snoc (a : List E3) (e : E3) (x lo hi : Int) : prs (a ++ [e]) x lo hi = prs a x lo hi ++ [allV a x lo hi] := by rw [prs_append]; rfl
theorem pairs_fst (l : List E3) (x lo hi : Int) : (pairs l x lo hi).map (·.1) = prs l x lo hi := by
  induction l generalizing x with
  | nil => rfl
  | cons e l ih => simp [pairs, prs, ih]
/-- The last thing told. -/
def lastOf (x : Int) (p : List (Int × Int)) : Int := (p.getLast?.map (·.2)).getD x
theorem lastOf_nil (x : Int) : lastOf x [] = x := rfl
theorem lastOf_snoc (x : Int) (p : List (Int × Int)) (q : Int × Int) : lastOf x (p ++ [q]) = q.2 := by simp [lastOf]
theorem lastOf_pairs (l : List E3) (x lo hi : Int) : lastOf x (pairs l x lo hi) = allV l x lo hi := by
  rcases List.eq_nil_or_concat l with rfl | ⟨a, e, rfl⟩
  · rfl
  · rw [List.concat_eq_append, pairs_snoc, lastOf_snoc, allV_snoc]
theorem take_snoc {α : Type} (l : List α) (k : Nat) (e : α) (h : l[k]? = some e) : l.take (k + 1) = l.take k ++ [e] := by
  rw [List.take_add_one, h]; rfl
theorem stp_i64 {lo hi x : Int} {e : E3} (hv : I64 e.2.2) (hx : I64 x) (hl : I64 lo) (hh : I64 hi) : I64 (stp lo hi x e) := ap_i64 hv hx hl hh
theorem allV_i64 {l : List E3} {x lo hi : Int} (hg : Good l) (hx : I64 x) (hl : I64 lo) (hh : I64 hi) : I64 (allV l x lo hi) := by
  induction l generalizing x with
  | nil => exact hx
  | cons e l ih => exact ih (fun e' h => hg e' (List.mem_cons_of_mem _ h)) (stp_i64 (hg e (by simp)) hx hl hh)
theorem Good.take {l : List E3} (h : Good l) (k : Nat) : Good (l.take k) := fun e he => h e (List.mem_of_mem_take he)
theorem Good.append {a b : List E3} (h : Good a) (k : Good b) : Good (a ++ b) := fun e he => (List.mem_append.1 he).elim (h e) (k e)
theorem Good.at {l : List E3} (h : Good l) {k : Nat} {e : E3} (he : l[k]? = some e) : I64 e.2.2 := h e (List.mem_of_getElem? he)

/-- The cells of entries. -/
def ecells (l : List E3) : List Value := l.flatMap fun e => [.int .i64 e.1, .int .i64 e.2.1, .int .i64 e.2.2]
theorem ecells_length (l : List E3) : (ecells l).length = l.length * 3 := by
  induction l with
  | nil => rfl
  | cons e l ih => simp only [ecells, List.flatMap_cons, List.length_append] at ih ⊢; rw [ih]; simp; omega
theorem ecells_append (a b : List E3) : ecells (a ++ b) = ecells a ++ ecells b := List.flatMap_append
theorem ecells_at {l : List E3} {k : Nat} {e : E3} (h : l[k]? = some e) :
    (ecells l)[k * 3]? = some (.int .i64 e.1) ∧ (ecells l)[k * 3 + 1]? = some (.int .i64 e.2.1) ∧ (ecells l)[k * 3 + 2]? = some (.int .i64 e.2.2) := by
  induction l generalizing k with
  | nil => simp at h
  | cons d l ih =>
    cases k with
    | zero => simp at h; subst h; simp [ecells]
    | succ k =>
      have h3 := ih (k := k) (by simpa using h)
      have e1 : ∀ j, (ecells (d :: l))[(k + 1) * 3 + j]? = (ecells l)[k * 3 + j]? := fun j => by
        show (_ :: _ :: _ :: ecells l)[(k + 1) * 3 + j]? = _
        rw [show (k + 1) * 3 + j = k * 3 + j + 1 + 1 + 1 by omega]; simp
      exact ⟨(e1 0).trans h3.1, (e1 1).trans h3.2.1, (e1 2).trans h3.2.2⟩
theorem ecells_one (l : List E3) : ∀ u ∈ ecells l, u.oneCell' = true := by
  intro u hu
  simp only [ecells, List.mem_flatMap] at hu
  obtain ⟨e, _, hu⟩ := hu
  simp at hu
  rcases hu with rfl | rfl | rfl <;> rfl
end Go.Proofs.Ytpbneghabikpdaa
