/- shape's iterator: what it tells, node by node; and its makers, up and way. -/
import Derived.Test.YtagbngilgjmjiaaShA
import Derived.RangeFuncBox
import Derived.RangeFuncNested
import Derived.RangeFuncLeaves
import Derived.RangeFuncBound
import Derived.RangeFuncCalls
import Derived.Shelf.Abstract
import Derived.OwnWalkIn
import Derived.TacticsInMore
import Derived.LoopNIn
import Derived.LoopIn
namespace Go.Proofs.Ytagbngilgjmjiaa
open Go.RowKit Go.Shelf

attribute [local go_sem] Oper.semAt_some

abbrev encI (x : Int) : Array Value := #[.int .i64 x]
abbrev AnyK (_ _ : World) : Prop := True

set_option maxRecDepth 100000 in
set_option maxHeartbeats 2000000 in
theorem upc_in (n : Nat) (hn : 1 ≤ n) (lp m : Nat) (x : Int) (hx : I64 x) (J Jx : List Int → World → Prop) (W : World) (hJ : AbidesFrom W.heap.size J)
    (hY : ∀ pre y W1, J pre W1 → pre.length < 63 → YieldAt Fence.wide (n - 1) Try.prog lp (encI y) W1 fun e W' =>
      (e = .returned (.bool true) ∧ J (pre ++ [y]) W' ∧ AnyK W1 W') ∨ (e = .returned (.bool false) ∧ Jx (pre ++ [y]) W'))
    (hcb : W.cell? ⟨m, 0, none⟩ = some (.int .i64 x)) (h0 : J [] W) :
    CallsIn Fence.wide n Try.prog 25 #[.func (.yield lp) #[] #[], .pointer (some ⟨m, 0, none⟩)] W fun e W' => (∃ v, e = .returned v) ∧
      ((∃ ys, ys = upV x ∧ J ys W') ∨ (∃ pre, pre <+: upV x ∧ Jx pre W')) := by
  refine callsIn_of_wp Try.func25 rfl trivial ?_ rfl
  simp only [Try.ntmps25, List.size_toArray, List.length_cons, List.length_nil, Nat.reduceAdd, Nat.reduceSub, Array.replicate_succ, Array.replicate_zero, List.push_toArray, List.append_toArray, List.nil_append, List.cons_append]
  gi_wp2
  gi_loopw [3] (fun a wr => ∃ (y : Int) (pre : List Int), a = .int .i64 y ∧ I64 y ∧ upV x = pre ++ upV y ∧ J pre wr)
    (fun a _ => (intOf a).toNat)
  case atStart => exact ⟨x, [], rfl, hx, rfl, h0⟩
  case round =>
    obtain ⟨y, pre, rfl, hy64, hsp, hJs⟩ := hrel
    have HS := hide hsp
    have hlen := upV_length hx
    rw [hsp] at hlen
    clear hsp
    by_cases hlt : 1 ≤ y
    · have HU := hide (upV_some (x := y) (by omega))
      rw [HU.out] at hlen
      have hpl : pre.length < 63 := by simp at hlen; omega
      clear hlen
      obtain ⟨fn, tmps, assign, body, hy, hR⟩ := hY pre y wr hJs hpl
      dsimp only [encI] at hy
      gi_wp2
      refine hR.mono ?_
      rintro e W3 (⟨rfl, hJ3, hk3⟩ | ⟨rfl, hJx3⟩)
      · gi_wp2_with (refine ⟨trivial, ?_⟩; gi_at_call 11; refine (callsIn_wide.2 (parent_any y hy64 _)).mono ?_; rintro e w2 ⟨rfl, hb2⟩)
        go_roundw
        case rel => exact ⟨parV y, pre ++ [y], rfl, par_i64 hy64, by rw [HS.out, HU.out]; simp, hJ _ _ w2 none hJ3 (grown_of_below hb2 none) (fun r e => by cases e)⟩
        case measure => have := par_lt (x := y) (by omega); simp [intOf]; omega
      · gi_wp2
        go_end0
        exact ⟨⟨_, rfl⟩, .inr ⟨_, ⟨upV (parV y), by rw [HS.out, HU.out]; simp⟩, hJx3⟩⟩
    · have HU := hide (upV_none (x := y) (by omega))
      clear hlen
      gi_wp2
      refine ⟨fun _ h => (by cases h), ?_⟩
      gi_wp2
      go_end0
      exact ⟨⟨_, rfl⟩, .inl ⟨_, by rw [HS.out, HU.out]; simp, hJs⟩⟩

set_option maxHeartbeats 1000000 in
theorem up_in (n : Nat) (x : Int) (w : World) :
    CallsIn Fence.wide n Try.prog 21 #[.int .i64 x] w fun e w' =>
      e = .returned (.func (.func 25) #[] #[.pointer (some ⟨w.heap.size, 0, none⟩)]) ∧ w' = w.alloc (.cells #[.int .i64 x] 3) := by
  refine callsIn_of_wp Try.func21 rfl trivial ?_ rfl
  simp only [Try.ntmps21, List.size_toArray, List.length_cons, List.length_nil, Nat.reduceAdd, Nat.reduceSub, Array.replicate_succ, Array.replicate_zero, List.push_toArray, List.append_toArray, List.nil_append, List.cons_append]
  gi_wp2
  go_ret
  exact ⟨rfl, rfl⟩

/-- The iterator's contract. -/
theorem up_stops (n : Nat) (hn : 1 ≤ n) (m : Nat) (x : Int) (hx : I64 x) (w : World) (hm : m < w.heap.size) (hcb : w.cell? ⟨m, 0, none⟩ = some (.int .i64 x)) :
    SeqStopsK Fence.wide n Try.prog 25 #[.pointer (some ⟨m, 0, none⟩)] encI AnyK (fun ys => ys = upV x) (fun pre => pre <+: upV x) 63 w := fun lp J Jx W hW hJ _ hY h0 =>
  upc_in n hn lp m x hx J Jx W hJ hY ((hW.cell (p := ⟨m, 0, none⟩) hm).trans hcb) h0

/-- A function value that tells the way up from x: where it lies. -/
def WayPost (x : Int) (w : World) (e : Ending) (w' : World) : Prop :=
  ∃ m, e = .returned (.func (.func 25) #[] #[.pointer (some ⟨m, 0, none⟩)]) ∧ w.heap.size ≤ m ∧ m < w'.heap.size ∧ w'.cell? ⟨m, 0, none⟩ = some (.int .i64 x) ∧ Below w.heap.size w w'

theorem up_any (x : Int) (w : World) : Calls Try.prog 21 #[.int .i64 x] w (WayPost x w) := by
  refine (callsIn_wide (n := 5)).1 ((up_in 5 x w).mono ?_)
  rintro e w' ⟨rfl, rfl⟩
  exact ⟨_, rfl, Nat.le_refl _, by simp, (Boxed.new w 3 (.int .i64 x)).cell, (Below.refl _ w).alloc (Nat.le_refl _) _⟩

theorem way_any (D t : Int) (hD : 0 ≤ D ∧ D ≤ 4) (h0 : 0 ≤ t) (ht : I64 t) (w : World) : Calls Try.prog 23 #[.int .i64 D, .int .i64 t] w (WayPost (leafV D t) w) := by
  go_enter Try.func23, Try.ntmps23
  go_wp2_with (first
    | (go_at_call 9; refine (leaf_any D t hD h0 ht _).mono ?_; rintro e w1 ⟨rfl, hb1⟩)
    | (go_at_call 21; refine (up_any (leafV D t) _).mono ?_; rintro e w2 ⟨m, rfl, hm1, hm2, hc, hb2⟩))
  go_ret
  exact ⟨m, rfl, Nat.le_trans hb1.size hm1, hm2, hc, below_next hb1 hb1.size hb2⟩
end Go.Proofs.Ytagbngilgjmjiaa
