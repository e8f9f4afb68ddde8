/- What the walk of ClimbAlone wants. -/
import Derived.Test.YtlmlmmkichkkhaaW13AloneM
import Derived.Test.YtlmlmmkichkkhaaW13Base
import Derived.Test.YtlmlmmkichkkhaaShR
import Derived.Test.YtlmlmmkichkkhaaM4
import Derived.Test.YtlmlmmkichkkhaaM1
import Derived.Lib.QuietBelow
import Derived.Deep.QuietTactic
import Derived.BigQuiet
import Derived.Deep.RegionHeld3
import Derived.Deep.Cut
namespace Go.Proofs.Ytlmlmmkichkkhaa
open Go.RowKit Go.Sort
set_option linter.unusedVariables false
set_option linter.unusedSimpArgs false

theorem rem_15 (z m : Int) (z0 : 0 ≤ z) (h : 1 ≤ m ∧ m ≤ 16) : 0 ≤ z % m ∧ z % m ≤ 15 := by
  have := Int.emod_nonneg z (show m ≠ 0 by omega); have := Int.emod_lt_of_pos z (show 0 < m by omega); omega
theorem rem_lt (z m : Int) (h : 1 ≤ m) : 0 ≤ z % m ∧ z % m < m := ⟨Int.emod_nonneg z (by omega), Int.emod_lt_of_pos z (by omega)⟩
theorem trem_lt (z m : Int) (z0 : 0 ≤ z) (h : 1 ≤ m) : 0 ≤ z.tmod m ∧ z.tmod m < m := ⟨Int.tmod_nonneg m z0, Int.tmod_lt_of_pos z (by omega)⟩
def bdH' (parts : Array (Nat × Value)) : Sem Value := Instr.build 33 parts
theorem bdH'_is (parts : Array (Nat × Value)) : Instr.build 33 parts = bdH' parts := rfl
theorem run_bdH' (it nd : Int) (w : World) : (bdH' #[(0, .int .i64 4), (1, .int .i64 it), (7, .int .i64 nd)]).run Try.prog w = .ok (.agg (thc (⟨4, it, 0, 0, [], [], [], 0, nd, 0, 0, 0, 0, 0, 0, 0, 0⟩ : Dt) ⟨none, 0, none, 0, none, 0⟩).toArray) w := by kernel_rfl
def bdU' (parts : Array (Nat × Value)) : Sem Value := Instr.build 38 parts
theorem bdU'_is (parts : Array (Nat × Value)) : Instr.build 38 parts = bdU' parts := rfl
theorem run_bdU' (c : Cf) (t : Int) (ws : List Int) (d : Dt) (p : Ad) (A B : Option Addr) (k e : Nat) (bs : List Bt) (w : World) : (bdU' #[(0, .agg (ccs c).toArray), (1, .int .i64 t), (3, .agg #[.slice A ws.length k, .slice B bs.length e]), (4, .agg (thc d p).toArray)]).run Try.prog w = .ok (.agg (tcs (⟨c, t, 0, ws, List.replicate (cntV c.x0) [], d, [], 0, [], false⟩ : Tn) (⟨A, k, B, e, bs, p, none, 0, none, 0⟩ : TA)).toArray) w := by kernel_rfl
theorem build_cf (c : Cf) (ok : CfK c) (w : World) : Calls Try.prog 19 #[.agg (ccs c).toArray] w (MFPost (newW c) (List.replicate (cntV c.x0) []) w) := build_any c.x0 c.x1 c.x2 c.x3 c.x4 c.x5 c.x6 c.x7 c.b c.x9 c.x10 c.x11 ok w
/-- How the turn lies behind n steps. -/
structure LpA (c : Cf) (g k9 : Nat) (u : Tn) (a : TA) (w W : World) : Prop where
  b : boxOf W k9 = some (tcs u a)
  t : TnAt W u a
  mA : ∀ p, a.mA = some p → p.block ≠ k9
  mB : ∀ p, a.mB = some p → p.block ≠ k9
  hA : 0 < u.d.hl.length → ∀ p, a.p.hA = some p → p.block ≠ k9
  c1 : boxOf W g = some (ccs c)
  c2 : boxOf W (g + 1) = some (ccs c)
  lo : Below w.heap.size w W
  k : g + 1 < k9
  e : u.d.bl = [] ∧ u.d.kl = [] ∧ u.tl = [] ∧ u.ll = [] ∧ ∀ q ∈ a.bs, q.l = []
theorem MemOk.own' {W : World} {A B : Option Addr} {ws : List Int} {bs : List Bt} (m : MemOk W A ws B bs) (k : Nat) (hA : ∀ p, A = some p → p.block ≠ k) (hB : ∀ p, B = some p → p.block ≠ k) (he : ∀ q ∈ bs, q.l = []) (vs : List Value) (o : Nat) : MemOk (W.setCells k o vs) A ws B bs :=
  ⟨⟨m.words.setsC k (fun _ => hA) vs o, m.bxs.setsC k (fun _ => hB) vs o, fun q hq => (show Sees _ _ 3 q.A q.l.length (ecells q.l) from (by rw [he q hq]; exact Sees.empty))⟩, m.few, m.fewb, m.short⟩
/-- Behind a step whose answer is stored into the same variable. -/
theorem LpA.next {c : Cf} {g k9 : Nat} {u v : Tn} {a b : TA} {w W W1 : World} (h : LpA c g k9 u a w W) (hg : w.heap.size ≤ g) (hl : LikeK u v) (t1 : TnAt W1 v b) (m : MvdK W a b u.d.hl.length v.d.hl.length) (hb : Below W.heap.size W W1) (ty : TypeId) :
    LpA c g k9 v b w (((W1.alloc (.cells zT.toArray ty)).setCells W1.heap.size 0 (tcs v b)).setCells k9 0 (tcs v b)) := by
  have nb := belowY W1 v b ty
  have lk := boxOf_lt h.b
  have lk1 := Nat.lt_of_lt_of_le lk hb.size
  have B0 := boxOf_keep (boxOf_keep h.b hb) nb
  have t2 := t1.later nb
  have hk := h.k
  have mA : ∀ p, b.mA = some p → p.block ≠ k9 := fun p hp => by
    rcases m.mA with e | f
    · exact h.mA p (e ▸ hp)
    · have := f p hp; omega
  have mB : ∀ p, b.mB = some p → p.block ≠ k9 := fun p hp => h.mB p (m.mB ▸ hp)
  have hA : 0 < v.d.hl.length → ∀ p, b.p.hA = some p → p.block ≠ k9 := fun hn p hp => by
    rcases m.hA with e | f
    · exact h.hA (by rw [← e.2]; exact hn) p (e.1 ▸ hp)
    · have := f p hp; omega
  have e' : v.d.bl = [] ∧ v.d.kl = [] ∧ v.tl = [] ∧ v.ll = [] ∧ ∀ q ∈ b.bs, q.l = [] := ⟨hl.bl.trans h.e.1, hl.kl.trans h.e.2.1, hl.tl.trans h.e.2.2.1, hl.ll.trans h.e.2.2.2.1, by rw [m.bs]; exact h.e.2.2.2.2⟩
  refine ⟨boxOf_whole _ _ _ B0 ((tcs_length _ _).trans (tcs_length _ _).symm), ⟨t2.m.own' k9 mA mB e'.2.2.2.2 _ _, t2.bx, ⟨?_, ?_, t2.th.h.setsC k9 hA _ _⟩, ?_, ?_⟩, mA, mB, hA, ?_, ?_, ?_, h.k, e'⟩
  · rw [e'.1]; exact Sees.empty
  · rw [e'.2.1]; exact Sees.empty
  · rw [e'.2.2.1]; exact Sees.empty
  · rw [e'.2.2.2.1]; exact Sees.empty
  · rw [boxOf_sets_far _ _ (by omega)]; exact boxOf_keep (boxOf_keep h.c1 hb) nb
  · rw [boxOf_sets_far _ _ (by omega)]; exact boxOf_keep (boxOf_keep h.c2 hb) nb
  · have h1 := below_next h.lo h.lo.size hb
    exact below_sets _ (by omega) _ _ _ _ (below_next h1 h1.size nb)
/-- The turn behind n steps. -/
def stA (c : Cf) (t it : Int) (B0 : List (List E3)) (n : Nat) : Tn := if n % 2 = 1 then tnA c t it B0 (n / 2) 5 else tnA c t it B0 (n / 2) (if n / 2 < c.x3.toNat then 4 else 7)
theorem stA_next {c : Cf} (ok : CfK c) {t it : Int} (B0 : List (List E3)) (hD : 1 ≤ c.x3) (h0 : 0 ≤ t) (hi : 0 ≤ it ∧ it < c.x1) {n : Nat} (hn : n < 2 * c.x3.toNat) : stepK (stA c t it B0 n) = stA c t it B0 (n + 1) ∧ isK (stA c t it B0 n) = true := by
  unfold stA
  by_cases hp : n % 2 = 1
  · rw [if_pos hp, if_neg (show ¬ (n + 1) % 2 = 1 by omega), tnA_odd ok B0 hD h0 hi (by omega), show (n + 1) / 2 = n / 2 + 1 by omega]
    exact ⟨rfl, by simp [isK, tnA]⟩
  · rw [if_neg hp, if_pos (show (n + 1) % 2 = 1 by omega), if_pos (show n / 2 < c.x3.toNat by omega), tnA_even ok B0 hD h0 hi (by omega), show (n + 1) / 2 = n / 2 by omega]
    exact ⟨rfl, by simp [isK, tnA]⟩
theorem stA_ok {c : Cf} (ok : CfK c) (hlo : I64 c.x9) (hhi : I64 c.x10) (hin : I64 c.x11) {t it : Int} (B0 : List (List E3)) (hD : 1 ≤ c.x3) (h0 : 0 ≤ t ∧ t ≤ 15) (hi : 0 ≤ it ∧ it < c.x1) (n : Nat) : TnOk (stA c t it B0 n) := by
  unfold stA
  split
  · exact tnA_ok ok hlo hhi hin B0 hD h0 hi _ 5 (i64_k 5 (by decide))
  · split
    · exact tnA_ok ok hlo hhi hin B0 hD h0 hi _ 4 (i64_k 4 (by decide))
    · exact tnA_ok ok hlo hhi hin B0 hD h0 hi _ 7 (i64_k 7 (by decide))
theorem stA_tt (c : Cf) (t it : Int) (B0 : List (List E3)) (n : Nat) : (stA c t it B0 n).tt = t := by unfold stA; split; rfl; split <;> rfl
theorem stA_0 {c : Cf} (ok : CfK c) {t it : Int} (B0 : List (List E3)) (hD : 1 ≤ c.x3) (h0 : 0 ≤ t) : stA c t it B0 0 = ⟨c, t, 0, newW c, B0, ⟨4, it, 0, 0, [], [], [], 0, leafV c.x3 t, 0, 0, 0, 0, 0, 0, 0, 0⟩, [], 0, [], false⟩ := by
  have w := way_of (D := c.x3) (t := t) ⟨hD, ok.h3.2⟩ h0
  have hl : 0 < leafV c.x3 t := by
    have hl := way_len w
    rcases Int.lt_or_le 0 (leafV c.x3 t) with q | q
    · exact q
    · unfold pathV at hl; rw [upV_none q] at hl; simp at hl; omega
  unfold stA
  rw [if_neg (by decide), if_pos (by omega)]
  have e : (pathV c.x3 t)[0]?.getD 0 = leafV c.x3 t := by unfold pathV; rw [upV_some hl]; rfl
  simp only [tnA, onW, List.take_zero]
  rw [show (0 / 2 : Nat) = 0 from rfl, e]
  rfl
theorem stA_end {c : Cf} (ok : CfK c) {t it : Int} (B0 : List (List E3)) (hD : 1 ≤ c.x3) (h0 : 0 ≤ t) : stA c t it B0 (2 * c.x3.toNat) = ⟨c, t, 0, onW c it (frV 1 t) (pathV c.x3 t) (newW c) c.x3.toNat, B0, ⟨7, it, 0, 0, [], [], pathV c.x3 t, 0, 0, 0, 0, 0, 0, 0, 0, 0, 0⟩, [], 0, [], false⟩ := by
  have w := way_of (D := c.x3) (t := t) ⟨hD, ok.h3.2⟩ h0
  unfold stA
  rw [if_neg (by omega), show 2 * c.x3.toNat / 2 = c.x3.toNat by omega, if_neg (Nat.lt_irrefl _)]
  have e : (pathV c.x3 t)[c.x3.toNat]? = none := List.getElem?_eq_none (by rw [way_len w]; omega)
  have e2 : (pathV c.x3 t).take c.x3.toNat = pathV c.x3 t := by rw [← way_len w]; exact List.take_length
  simp only [tnA, e, e2]
  rfl
/-- What stands at a node of the way, in the end. -/
theorem onW_held {c : Cf} (ok : CfK c) {t it : Int} (hD : 1 ≤ c.x3) (h0 : 0 ≤ t) (hi : 0 ≤ it ∧ it < c.x1) {j : Nat} {x : Int} (hj : (pathV c.x3 t)[j]? = some x) : ∀ m, j < m → m ≤ c.x3.toNat → (onW c it (frV 1 t) (pathV c.x3 t) (newW c) m)[(npV c it x).toNat]? = some (frV 1 t) := by
  have w := way_of (D := c.x3) (t := t) ⟨hD, ok.h3.2⟩ h0
  intro m
  induction m with
  | zero => intro h; omega
  | succ m ih =>
    intro h1 h2
    have hjl : j < c.x3.toNat := by omega
    obtain ⟨x', e', hx1, hx2, _⟩ := way_at w hjl
    obtain rfl : x' = x := Option.some.inj (e'.symm.trans hj)
    rw [show ((c.x3.toNat : Nat) : Int) = c.x3 by omega] at hx2
    have lx := np_lt ok hi ⟨hx1, hx2⟩
    have hlen := newW_length ok
    rw [onW]
    by_cases hm : j = m
    · subst hm
      rw [hj]
      show ((onW _ _ _ _ _ _).set (npV c it x').toNat _)[_]? = _
      exact List.getElem?_set_self (by rw [onW_length]; omega)
    · obtain ⟨y, ey, hy1, hy2, _⟩ := way_at w (show m < c.x3.toNat by omega)
      rw [show ((c.x3.toNat : Nat) : Int) = c.x3 by omega] at hy2
      have ly := np_lt ok hi ⟨hy1, hy2⟩
      have a1 := np_is hi ⟨hx1, hx2⟩
      have a2 := np_is hi ⟨hy1, hy2⟩
      have hne := way_apart w hj ey hm
      rw [ey]
      show ((onW _ _ _ _ _ _).set (npV c it y).toNat _)[_]? = _
      rw [List.getElem?_set_ne (by omega)]
      exact ih (by omega) (by omega)
end Go.Proofs.Ytlmlmmkichkkhaa
