/- The words whose slots of an item and a layer are all set. -/
import Derived.Test.YtjghdbkkjhnpfaaW15Base
import Derived.Test.YtjghdbkkjhnpfaaM5
import Derived.Lib.QuietBelow
import Derived.Deep.QuietTactic
import Derived.BigQuiet
namespace Go.Proofs.Ytjghdbkkjhnpfaa
open Go.RowKit Go.Sort
set_option linter.unusedVariables false
set_option linter.unusedSimpArgs false

theorem rslot_tn (c : Cf) (ok : CfK c) (i : Int) (hi : I64 i) (l : Int) (hl : I64 l) (n : Int) (hn : I64 n) (w : World) : Calls Try.prog 12 #[.agg (ccs c).toArray, .int .i64 i, .int .i64 l, .int .i64 n] w (IntPost (slV c i l n) w) := rslot_any c.x0 c.x1 c.x2 c.x3 c.x4 c.x5 c.x6 c.x7 c.b c.x9 c.x10 c.x11 ok i hi l hl n hn w
def slN (u : Tn) (X : Int) : Nat → List Int
  | 0 => u.ws
  | n + 1 => (slN u X n).set (slV u.c u.d.it u.d.ly (n : Int)).toNat X
theorem slN_length (u : Tn) (X : Int) (n : Nat) : (slN u X n).length = u.ws.length := by
  induction n with
  | zero => rfl
  | succ n ih => rw [slN, List.length_set]; exact ih
theorem slN_i64 {u : Tn} (h : ∀ x ∈ u.ws, I64 x) {X : Int} (hX : I64 X) (n : Nat) : ∀ x ∈ slN u X n, I64 x := by
  induction n with
  | zero => exact h
  | succ n ih => rw [slN]; exact set_i64 ih _ hX
theorem slN_far (u : Tn) (X : Int) (p : Nat) (n : Nat) (h : ∀ s : Nat, s < n → (slV u.c u.d.it u.d.ly (s : Int)).toNat ≠ p) : (slN u X n)[p]? = u.ws[p]? := by
  induction n with
  | zero => rfl
  | succ n ih => rw [slN, List.getElem?_set_ne (h n (Nat.lt_succ_self n))]; exact ih (fun s hs => h s (by omega))
theorem slN_at {u : Tn} {m : Nat} (my : MayOk u m) (X : Int) (h0 : 1 ≤ u.d.ly) (h1 : u.d.ly ≤ u.c.x4) (n : Nat) (hn : (n : Int) ≤ u.c.x5) {s : Nat} (hs : s < n) : (slN u X n)[(slV u.c u.d.it u.d.ly (s : Int)).toNat]? = some X := by
  induction n with
  | zero => omega
  | succ n ih =>
    rw [slN]
    obtain ⟨k, e, hk, _, ek⟩ := sl_in my h0 h1 (n := (n : Int)) (by omega) (by omega)
    obtain ⟨j, ej, hj, _, ejj⟩ := sl_in my h0 h1 (n := (s : Int)) (by omega) (by omega)
    rw [e, ej]
    by_cases q : s = n
    · subst q
      have : j = k := by omega
      subst this
      exact List.getElem?_set_self (by rw [slN_length]; simpa using hk)
    · rw [List.getElem?_set_ne (by simp; omega)]
      have := ih (by omega) (by omega)
      rwa [ej] at this
/-- How things lie behind n rounds. -/
structure SlAt (u : Tn) (a : TA) (X : Int) (g n : Nat) (w W : World) : Prop where
  row : ∃ cur, boxOf W g = some cur ∧ u.ws.length ≤ cur.length ∧ cur.take u.ws.length = (slN u X n).map (Value.int .i64)
  b : boxOf W w.heap.size = some (tcs u a)
  c : boxOf W (w.heap.size + 1) = some (ccs u.c)
  lo : Below w.heap.size w W
  g : w.heap.size + 1 < g
theorem SlAt.keep {u : Tn} {a : TA} {X : Int} {g n : Nat} {w W W' : World} (h : SlAt u a X g n w W) (hb : Below W.heap.size W W') : SlAt u a X g n w W' :=
  ⟨by obtain ⟨cur, h1, h2, h3⟩ := h.row; exact ⟨cur, boxOf_keep h1 hb, h2, h3⟩, boxOf_keep h.b hb, boxOf_keep h.c hb, below_next h.lo h.lo.size hb, h.g⟩
theorem SlAt.store {u : Tn} {a : TA} {X : Int} {g n k : Nat} {w W : World} (h : SlAt u a X g n w W) (hk : slV u.c u.d.it u.d.ly (n : Int) = (k : Int)) : SlAt u a X g (n + 1) w (W.setCell ⟨g, k, none⟩ (.int .i64 X)) := by
  have hg := h.g
  refine ⟨?_, ?_, ?_, h.lo.setCell (by show _ ≤ g; omega) _, h.g⟩
  · obtain ⟨cur, h1, h2, h3⟩ := h.row
    refine ⟨cur.set k (.int .i64 X), boxOf_set _ _ _ _ h1, by rw [List.length_set]; exact h2, ?_⟩
    rw [take_set h3, slN, hk]; simp
  · rw [boxOf_far _ _ _ _ (show ¬ g = w.heap.size by omega)]; exact h.b
  · rw [boxOf_far _ _ _ _ (show ¬ g = w.heap.size + 1 by omega)]; exact h.c
theorem SlAt.cell {u : Tn} {a : TA} {X : Int} {g n : Nat} {w W : World} (h : SlAt u a X g n w W) {k : Nat} (hk : k < u.ws.length) : ∃ cur x, boxOf W g = some cur ∧ cur[k]? = some x := by
  obtain ⟨cur, h1, h2, _⟩ := h.row
  exact ⟨cur, cur[k]'(by omega), h1, List.getElem?_eq_getElem _⟩
end Go.Proofs.Ytjghdbkkjhnpfaa
