/- batch's iterator: what it tells, entry by entry. -/
import Derived.Test.YtjibnocgbbohlaaOps
import Derived.Test.YtjibnocgbbohlaaRead
import Derived.RangeFuncBox
import Derived.RangeFuncNested
import Derived.RangeFuncLeaves
import Derived.RangeFuncBound
import Derived.RangeFuncCalls
import Derived.Shelf.Abstract
import Derived.OwnWalkIn
import Derived.TacticsInMore
import Derived.LoopNIn
import Derived.LoopIn
namespace Go.Proofs.Ytjibnocgbbohlaa
open Go.RowKit Go.Shelf

attribute [local go_sem] Oper.semAt_some

abbrev encP (p : Int × Int) : Array Value := #[.int .i64 p.1, .int .i64 p.2]

/-- What a round keeps: what lay below n₀, and the boxes m .. k - 1. -/
structure Keep (n₀ m k : Nat) (W W' : World) : Prop where
  size : W.heap.size ≤ W'.heap.size
  block : ∀ b, (b < n₀ ∨ (m ≤ b ∧ b < k)) → W'.heap[b]? = W.heap[b]?
theorem Keep.refl (n₀ m k : Nat) (W : World) : Keep n₀ m k W W := ⟨Nat.le_refl _, fun _ _ => rfl⟩
theorem Keep.trans {n₀ m k : Nat} {A B C : World} (h : Keep n₀ m k A B) (h' : Keep n₀ m k B C) : Keep n₀ m k A C :=
  ⟨Nat.le_trans h.size h'.size, fun b hb => (h'.block b hb).trans (h.block b hb)⟩
theorem Keep.cell {n₀ m k : Nat} {A B : World} (h : Keep n₀ m k A B) {p : Addr} (hp : p.block < n₀ ∨ (m ≤ p.block ∧ p.block < k)) : B.cell? p = A.cell? p := World.cell?_of_block (h.block _ hp)
theorem Keep.of_below {n₀ m k : Nat} {A B : World} (h : Below A.heap.size A B) (hn : n₀ ≤ A.heap.size) (hk : k ≤ A.heap.size) : Keep n₀ m k A B :=
  ⟨h.size, fun b hb => h.block b (by omega)⟩
theorem Keep.put {n₀ m k : Nat} {w : World} (hn : n₀ ≤ w.heap.size) (hk : k ≤ w.heap.size) (W : World) (l : Nat) (o o' : Obj) (hl : w.heap.size ≤ l) (_ : W.heap[l]? = some o) (_ : o.isCells = false) (_ : o.isWalk = false) : Keep n₀ m k W (W.putObj l o') :=
  ⟨(grownBy_putObj' W l o').size, fun b hb => (World.putObj_heap_other (by omega))⟩

set_option maxRecDepth 100000 in
set_option maxHeartbeats 2000000 in
theorem closure_in (n : Nat) (hn : 1 ≤ n) (lp n₀ m k len : Nat) (A : Option Addr) (cap : Nat) (l : List E3) (hlen : len = l.length) (hmax : len ≤ 1000) (x lo hi : Int) (hx : I64 x) (hl : I64 lo) (hh : I64 hi) (hg : Good l)
    (J Jx : List (Int × Int) → World → Prop) (W : World) (hJ : AbidesFrom W.heap.size J)
    (hY : ∀ pre x W1, J pre W1 → pre.length < len → YieldAt Fence.wide (n - 1) Try.prog lp (encP x) W1 fun e W' =>
      (e = .returned (.bool true) ∧ J (pre ++ [x]) W' ∧ Keep n₀ m k W1 W') ∨ (e = .returned (.bool false) ∧ Jx (pre ++ [x]) W'))
    (hn0 : n₀ ≤ W.heap.size) (hk : k ≤ W.heap.size) (hm : m + 4 ≤ k)
    (hcb : W.cell? ⟨m, 0, none⟩ = some (.slice A len cap)) (hcx : W.cell? ⟨m + 1, 0, none⟩ = some (.int .i64 x)) (hclo : W.cell? ⟨m + 1 + 1, 0, none⟩ = some (.int .i64 lo)) (hchi : W.cell? ⟨m + 1 + 1 + 1, 0, none⟩ = some (.int .i64 hi))
    (hs : Sees W n₀ 3 A len (ecells l)) (h0 : J [] W) :
    CallsIn Fence.wide n Try.prog 27 #[.func (.yield lp) #[] #[], .pointer (some ⟨m + 1, 0, none⟩), .pointer (some ⟨m, 0, none⟩), .pointer (some ⟨m + 1 + 1, 0, none⟩), .pointer (some ⟨m + 1 + 1 + 1, 0, none⟩)] W fun e W' => (∃ v, e = .returned v) ∧
      ((∃ ys, ys = pairs l x lo hi ∧ J ys W') ∨ (∃ pre, True ∧ Jx pre W')) := by
  refine callsIn_of_wp Try.func27 rfl trivial ?_ rfl
  simp only [Try.ntmps27, List.size_toArray, List.length_cons, List.length_nil, Nat.reduceAdd, Nat.reduceSub, Array.replicate_succ, Array.replicate_zero, List.push_toArray, List.append_toArray, List.nil_append, List.cons_append]
  gi_wp2
  gi_loopw [6, 14] (fun a i wr => ∃ j : Nat, j ≤ len ∧ i = .int .i64 j ∧ a = .int .i64 (allV (l.take j) x lo hi) ∧ J (pairs (l.take j) x lo hi) wr ∧ Keep n₀ m k W wr)
    (fun _ i _ => len - (intOf i).toNat)
  case atStart => exact ⟨0, Nat.zero_le _, rfl, rfl, h0, Keep.refl _ _ _ _⟩
  case round =>
    obtain ⟨j, hj, rfl, rfl, hJs, hkp⟩ := hrel
    by_cases hlt : j < len
    · subst hlen
      obtain ⟨b, off, t, g, v, rfl, hb, he, c1, c2, c3⟩ := hs.entry hlt
      have k1 : wr.cell? ⟨b, off + j * 3, none⟩ = some (.int .i64 t) := (hkp.cell (p := ⟨b, off + j * 3, none⟩) (.inl hb)).trans c1
      have k2 : wr.cell? ⟨b, off + j * 3 + 1, none⟩ = some (.int .i64 g) := (hkp.cell (p := ⟨b, off + j * 3 + 1, none⟩) (.inl hb)).trans c2
      have k3 : wr.cell? ⟨b, off + j * 3 + 2, none⟩ = some (.int .i64 v) := (hkp.cell (p := ⟨b, off + j * 3 + 2, none⟩) (.inl hb)).trans c3
      have k4 : wr.cell? ⟨m + 1 + 1, 0, none⟩ = some (.int .i64 lo) := (hkp.cell (p := ⟨m + 1 + 1, 0, none⟩) (.inr ⟨by simp; omega, by simp; omega⟩)).trans hclo
      have k5 : wr.cell? ⟨m + 1 + 1 + 1, 0, none⟩ = some (.int .i64 hi) := (hkp.cell (p := ⟨m + 1 + 1 + 1, 0, none⟩) (.inr ⟨by simp; omega, by simp; omega⟩)).trans hchi
      have HE := hide he
      have hz := hkp.size
      have z3 : m + 1 + 1 < wr.heap.size := by omega
      have z4 : m + 1 + 1 + 1 < wr.heap.size := by omega
      have hv : I64 v := hg.at he
      have hcur : I64 (allV (l.take j) x lo hi) := allV_i64 (hg.take j) hx hl hh
      clear he c1 c2 c3 hcb hcx hclo hchi
      have hpl : (pairs (l.take j) x lo hi).length < l.length := by rw [pairs_length, List.length_take]; omega
      obtain ⟨cur, hcu⟩ : ∃ y, allV (l.take j) x lo hi = y := ⟨_, rfl⟩
      rw [hcu] at hcur
      have HC := hide hcu
      rw [hcu]
      clear hcu
      gi_wp2_with (refine ⟨trivial, ?_⟩; gi_at_call 28; refine (callsIn_wide.2 (apply_any g v _ lo hi _ hcur hv hl hh)).mono ?_; rintro e w2 ⟨rfl, hb2⟩; have hJ2 := hJ _ _ w2 none (hJ _ _ _ none hJs (World.grownBy_alloc wr _ none) (fun r e => by cases e)) (grown_of_below hb2 none) (fun r e => by cases e); obtain ⟨fn, tmps, assign, body, hy, hR⟩ := hY _ (cur, apV g v cur lo hi) w2 hJ2 hpl; dsimp only [encP] at hy)
      refine hR.mono ?_
      have HT : Hid (l.take (j + 1) = l.take j ++ [(t, g, v)]) := take_snoc l j _ HE.out
      have hkw : Keep n₀ m k wr w2 := Keep.of_below (below_next ((Below.refl _ wr).alloc (Nat.le_refl _) _) (by simp) hb2) (by omega) (by omega)
      rintro e W3 (⟨rfl, hJ3, hk3⟩ | ⟨rfl, hJx3⟩)
      · gi_wp2
        go_roundw
        case rel => exact ⟨j + 1, by omega, by simp, by rw [HT.out, allV_snoc, HC.out]; rfl, by rw [HT.out, pairs_snoc, HC.out]; exact hJ3, (hkp.trans hkw).trans hk3⟩
        case measure => simp [intOf]; omega
      · gi_wp2
        refine bodyPost_ret (results_none rfl _ _ _) rfl ?_
        exact ⟨⟨_, rfl⟩, .inr ⟨_, trivial, hJx3⟩⟩
    · obtain rfl : j = len := by omega
      subst hlen
      gi_wp2
      go_end0
      exact ⟨⟨_, rfl⟩, .inl ⟨_, by rw [List.take_length], hJs⟩⟩

set_option maxHeartbeats 1000000 in
/-- contents: its four arguments are boxed; the function value captures the boxes. -/
theorem contents_in (n : Nat) (A : Option Addr) (len cap : Nat) (x lo hi : Int) (w : World) :
    CallsIn Fence.wide n Try.prog 25 #[.slice A len cap, .int .i64 x, .int .i64 lo, .int .i64 hi] w fun e w' =>
      e = .returned (.func (.func 27) #[] #[.pointer (some ⟨w.heap.size + 1, 0, none⟩), .pointer (some ⟨w.heap.size, 0, none⟩), .pointer (some ⟨w.heap.size + 1 + 1, 0, none⟩), .pointer (some ⟨w.heap.size + 1 + 1 + 1, 0, none⟩)]) ∧
      w' = (((w.alloc (.cells #[.slice A len cap] 22)).alloc (.cells #[.int .i64 x] 3)).alloc (.cells #[.int .i64 lo] 3)).alloc (.cells #[.int .i64 hi] 3) := by
  refine callsIn_of_wp Try.func25 rfl trivial ?_ rfl
  simp only [Try.ntmps25, List.size_toArray, List.length_cons, List.length_nil, Nat.reduceAdd, Nat.reduceSub, Array.replicate_succ, Array.replicate_zero, List.push_toArray, List.append_toArray, List.nil_append, List.cons_append]
  gi_wp2
  go_ret
  exact ⟨rfl, rfl⟩

/-- The iterator's contract. -/
theorem contents_stops (n : Nat) (hn : 1 ≤ n) (n₀ m k len : Nat) (A : Option Addr) (cap : Nat) (l : List E3) (hlen : len = l.length) (hmax : len ≤ 1000) (x lo hi : Int) (hx : I64 x) (hl : I64 lo) (hh : I64 hi) (hg : Good l)
    (w : World) (hn0 : n₀ ≤ w.heap.size) (hk : k ≤ w.heap.size) (hm : m + 4 ≤ k)
    (hcb : w.cell? ⟨m, 0, none⟩ = some (.slice A len cap)) (hcx : w.cell? ⟨m + 1, 0, none⟩ = some (.int .i64 x)) (hclo : w.cell? ⟨m + 1 + 1, 0, none⟩ = some (.int .i64 lo)) (hchi : w.cell? ⟨m + 1 + 1 + 1, 0, none⟩ = some (.int .i64 hi))
    (hs : Sees w n₀ 3 A len (ecells l)) :
    SeqStopsK Fence.wide n Try.prog 27 #[.pointer (some ⟨m + 1, 0, none⟩), .pointer (some ⟨m, 0, none⟩), .pointer (some ⟨m + 1 + 1, 0, none⟩), .pointer (some ⟨m + 1 + 1 + 1, 0, none⟩)] encP (Keep n₀ m k)
      (fun ys => ys = pairs l x lo hi) (fun _ => True) len w := fun lp J Jx W hW hJ _ hY h0 =>
  closure_in n hn lp n₀ m k len A cap l hlen hmax x lo hi hx hl hh hg J Jx W hJ hY (Nat.le_trans hn0 hW.size) (Nat.le_trans hk hW.size) hm
    ((hW.cell (p := ⟨m, 0, none⟩) (by simp; omega)).trans hcb) ((hW.cell (p := ⟨m + 1, 0, none⟩) (by simp; omega)).trans hcx) ((hW.cell (p := ⟨m + 1 + 1, 0, none⟩) (by simp; omega)).trans hclo)
    ((hW.cell (p := ⟨m + 1 + 1 + 1, 0, none⟩) (by simp; omega)).trans hchi) (hs.below (hW.mono hn0)) h0
end Go.Proofs.Ytjibnocgbbohlaa
