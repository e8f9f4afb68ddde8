/- Rows of the call's own beside each other; entries made of numbers; sums and orders. -/
import Derived.Test.YtpbneghabikpdaaFacts
import Derived.Test.YtpbneghabikpdaaApp
namespace Go.Proofs.Ytpbneghabikpdaa
open Go.RowKit

theorem row_kept {w w1 : World} {tmp : Obj} {base : Nat} {e : TypeId} {sz n : Nat} {u v v' : Value} {xs : List Value} (hu : w.ownsRow base e sz u n xs) (hg : (w.alloc tmp).grownBy w1 v.ownBlock) (hne : u.ownBlock ≠ v.ownBlock)
    (hat : v'.ownBlock = v.ownBlock ∨ v'.ownBlock = some (w.alloc tmp).heap.size) : w1.ownsRow base e sz u n xs ∧ u.ownBlock ≠ v'.ownBlock := by
  refine ⟨(hu.alloc tmp).kept hg (.inr hne), ?_⟩
  rcases hat with h | h
  · rw [h]; exact hne
  · intro hk
    have := (hu.lt _ (hk.trans h)).2
    simp at this
    omega

/-- k entries: f whose, t the tag, g the numbers. -/
def mkE (f g : Nat → Int) (t : Int) (k : Nat) : List E3 := (List.range k).map fun i => (f i, t, g i)
theorem mkE_zero (f g : Nat → Int) (t : Int) : mkE f g t 0 = [] := rfl
theorem mkE_succ (f g : Nat → Int) (t : Int) (k : Nat) : mkE f g t (k + 1) = mkE f g t k ++ [(f k, t, g k)] := by simp [mkE, List.range_succ]
theorem mkE_length (f g : Nat → Int) (t : Int) (k : Nat) : (mkE f g t k).length = k := by simp [mkE]
theorem mkE_good {f g : Nat → Int} {t : Int} {k : Nat} (h : ∀ i, i < k → I64 (g i)) : Good (mkE f g t k) := by
  intro e he
  simp only [mkE, List.mem_map, List.mem_range] at he
  obtain ⟨i, hi, rfl⟩ := he
  exact h i hi
theorem mkE_all (f g : Nat → Int) (t : Int) (k : Nat) (x lo hi : Int) : allV (mkE f g t k) x lo hi = ((List.range k).map g).foldl (fun y v => apV t v y lo hi) x := by
  simp only [allV, mkE, List.foldl_map]
  rfl

theorem foldl_move {f : Int → Int → Int} (h : ∀ x v u, f (f x v) u = f (f x u) v) (l : List Int) (x v : Int) : l.foldl f (f x v) = f (l.foldl f x) v := by
  induction l generalizing x with
  | nil => rfl
  | cons a l ih => rw [List.foldl_cons, h, ih, List.foldl_cons]
theorem foldl_rev {f : Int → Int → Int} (h : ∀ x v u, f (f x v) u = f (f x u) v) (l : List Int) (x : Int) : l.reverse.foldl f x = l.foldl f x := by
  induction l generalizing x with
  | nil => rfl
  | cons a l ih => rw [List.reverse_cons, List.foldl_append, ih]; exact (foldl_move h l x a).symm

/-- The numbers of a list, by their places; those of its mirror. -/
def nth (l : List Int) (i : Nat) : Int := l[i]?.getD 0
theorem nth_all (l : List Int) : (List.range l.length).map (nth l) = l := by
  apply List.ext_getElem
  · simp
  · intro i h1 h2
    simp [nth, h2]
theorem nth_rev (l : List Int) : (List.range l.length).map (fun i => nth l (l.length - 1 - i)) = l.reverse := by
  apply List.ext_getElem
  · simp
  · intro i h1 h2
    have h3 : i < l.length := by simpa using h2
    have h4 : l.length - 1 - i < l.length := by omega
    simp [nth, h4]
theorem nth_i64 {l : List Int} (h : ∀ v ∈ l, I64 v) (i : Nat) : I64 (nth l i) := by
  unfold nth
  cases hi : l[i]? with
  | none => show I64 0; unfold I64; omega
  | some v => exact h v (List.mem_of_getElem? hi)

theorem order_all (t : Int) (ht : 1 ≤ t ∧ t ≤ 6) (f f' : Nat → Int) (l : List Int) (x : Int) :
    allV (mkE f (nth l) t l.length) x 0 0 = allV (mkE f' (fun i => nth l (l.length - 1 - i)) t l.length) x 0 0 := by
  rw [mkE_all, mkE_all, nth_all, nth_rev, foldl_rev (fun y v u => ap_order t u v y ht)]

def sumOf (l : List Int) : Int := l.foldl (· + ·) 0
theorem add_all (l : List Int) (x s : Int) : l.foldl (fun y v => apV 1 v y 0 0) (wrap64 (x + s)) = wrap64 (x + l.foldl (· + ·) s) := by
  induction l generalizing s with
  | nil => rfl
  | cons a l ih =>
    rw [List.foldl_cons, List.foldl_cons, ← ih (s + a)]
    congr 1
    simp only [apV, if_true]; unfold wrap64; omega
theorem sub_all (l : List Int) (x s : Int) : l.foldl (fun y v => apV 2 v y 0 0) (wrap64 (x - s)) = wrap64 (x - l.foldl (· + ·) s) := by
  induction l generalizing s with
  | nil => rfl
  | cons a l ih =>
    rw [List.foldl_cons, List.foldl_cons, ← ih (s + a)]
    congr 1
    simp only [apV]; unfold wrap64; simp; omega
theorem adds_is (f : Nat → Int) (l : List Int) (x : Int) (hx : I64 x) : allV (mkE f (nth l) 1 l.length) x 0 0 = wrap64 (x + sumOf l) := by
  rw [mkE_all, nth_all]
  have := add_all l x 0
  rwa [Int.add_zero, wrap64_id hx] at this
theorem subs_is (f : Nat → Int) (l : List Int) (x : Int) (hx : I64 x) : allV (mkE f (nth l) 2 l.length) x 0 0 = wrap64 (x - sumOf l) := by
  rw [mkE_all, nth_all]
  have := sub_all l x 0
  rwa [Int.sub_zero, wrap64_id hx] at this
theorem meet_is (f f' : Nat → Int) (l : List Int) (x : Int) (hx : I64 x) : allV (mkE f (nth l) 1 l.length ++ mkE f' (nth l) 2 l.length) x 0 0 = x ∧ allV (mkE f' (nth l) 2 l.length ++ mkE f (nth l) 1 l.length) x 0 0 = x := by
  rw [allV_append, allV_append, adds_is f l x hx, subs_is f' l x hx, subs_is f' l _ (i64_wrap _), adds_is f l _ (i64_wrap _)]
  generalize sumOf l = s
  unfold I64 at hx
  unfold wrap64
  constructor <;> omega
end Go.Proofs.Ytpbneghabikpdaa
