/- Words for calls that turn some blocks alone; the writer of layer 9, and its put. -/
import Derived.Test.YtlmkbfbiohocpaaScB
import Derived.OneCell
import Derived.Deep.RegionLaw
import Derived.IntWalk
namespace Go.Proofs.Ytlmkbfbiohocpaa
open Go.RowKit

/-- The blocks of av are as they were. -/
structure Kept (av : Nat → Prop) (w w' : World) : Prop where
  os : w'.os = w.os
  tape : w'.tape = w.tape
  output : w'.output = w.output
  size : w.heap.size ≤ w'.heap.size
  block : ∀ k, av k → w'.heap[k]? = w.heap[k]?
section
variable {av av' : Nat → Prop} {a w w' : World}
theorem Kept.refl (av : Nat → Prop) (w : World) : Kept av w w := ⟨rfl, rfl, rfl, Nat.le_refl _, fun _ _ => rfl⟩
theorem Kept.trans (h : Kept av a w) (k : Kept av w w') : Kept av a w' :=
  ⟨k.os.trans h.os, k.tape.trans h.tape, k.output.trans h.output, Nat.le_trans h.size k.size, fun i hi => (k.block i hi).trans (h.block i hi)⟩
theorem Kept.mono (h : Kept av a w) (hs : ∀ k, av' k → av k) : Kept av' a w := ⟨h.os, h.tape, h.output, h.size, fun i hi => h.block i (hs i hi)⟩
theorem Kept.below {B : Nat} (h : Kept av a w) (hB : ∀ k, k < B → av k) : Below B a w := ⟨h.os, h.tape, h.output, h.size, fun i hi => h.block i (hB i hi)⟩
theorem Kept.of_below {B : Nat} (h : Below B a w) (hB : ∀ k, av k → k < B) : Kept av a w := ⟨h.os, h.tape, h.output, h.size, fun i hi => h.block i (hB i hi)⟩
theorem Kept.drew (h : Kept av a w) : Kept av a w.drew := ⟨h.os, h.tape, h.output, h.size, h.block⟩
theorem Kept.alloc (h : Kept av a w) (hl : ∀ k, av k → k < w.heap.size) (o : Obj) : Kept av a (w.alloc o) :=
  h.trans (Kept.of_below ((Below.refl w.heap.size w).alloc (Nat.le_refl _) o) hl)
theorem Kept.setCell (h : Kept av a w) {p : Addr} (hp : ¬ av p.block) (u : Value) : Kept av a (w.setCell p u) :=
  h.trans ⟨rfl, rfl, rfl, by simp, fun k hk => Below.heap_setCell w p u k (fun e => hp (e ▸ hk))⟩
theorem Kept.cell (h : Kept av a w) {g o : Nat} (hg : av g) : w.cell? ⟨g, o, none⟩ = a.cell? ⟨g, o, none⟩ := World.cell?_of_block (w := a) (h.block g hg)
theorem Kept.frozen (h : Kept av a w) {g o : Nat} (hg : av g) : w.frozen? ⟨g, o, none⟩ = a.frozen? ⟨g, o, none⟩ := World.frozen?_of_block (w := a) (h.block g hg)
end

theorem heap_set {w : World} {g i : Nat} {t : TypeId} {cs : Array Value} (h : w.heap[g]? = some (.cells cs t (0, 0))) (u : Value) : (w.setCell ⟨g, i, none⟩ u).heap[g]? = some (.cells (cs.setIfInBounds i u) t (0, 0)) := by
  simp [World.setCell, Array.getElem?_modify, h]
theorem heap_cell {w : World} {g : Nat} {t : TypeId} {cs : Array Value} (h : w.heap[g]? = some (.cells cs t (0, 0))) (i : Nat) : w.cell? ⟨g, i, none⟩ = cs[i]? := cell_of_row w g i cs t (0, 0) h
theorem heap_frozen {w : World} {g : Nat} {t : TypeId} {cs : Array Value} (h : w.heap[g]? = some (.cells cs t (0, 0))) (i : Nat) : w.frozen? ⟨g, i, none⟩ = false := by simp [World.frozen?, h]
theorem heap_lt {w : World} {g : Nat} {o : Obj} (h : w.heap[g]? = some o) : g < w.heap.size := (Array.getElem?_eq_some_iff.1 h).1

/-- The writer at g, whose bytes are xs; it keeps off the blocks of av. -/
structure WAt (g base : Nat) (av : Nat → Prop) (xs : List Int) (w : World) (v : Value) : Prop where
  lt : ∀ k, av k → k < w.heap.size
  ng : ¬ av g
  here : w.heap[g]? = some (.cells #[v] 65 (0, 0))
  own : w.ownsRow base 5 1 v xs.length (xs.map (Value.int .u8))
  far : ∀ k, v.ownBlock = some k → ¬ av k ∧ k ≠ g
  base : g < base ∧ base ≤ w.heap.size
def WSt (g base : Nat) (av : Nat → Prop) (xs : List Int) (w : World) : Prop := ∃ v, WAt g base av xs w v

theorem WAt.keep {g base : Nat} {av : Nat → Prop} {xs : List Int} {w w' : World} {v : Value} (h : WAt g base av xs w v) (hb : Below w.heap.size w w') : WAt g base av xs w' v :=
  ⟨fun k hk => Nat.lt_of_lt_of_le (h.lt k hk) hb.size, h.ng, (hb.block g (heap_lt h.here)).trans h.here, own_below h.own hb, h.far, h.base.1, Nat.le_trans h.base.2 hb.size⟩
theorem WAt.step {g base g' cap : Nat} {av : Nat → Prop} {xs : List Int} {wr w3 : World} {v : Value} {x : Int} {tmp : Obj} (h : WAt g base av xs wr v)
    (hown : w3.ownsRow base 5 1 (.slice (some ⟨g', 0, none⟩) (xs.length + 1) cap) (xs.length + 1) (xs.map (Value.int .u8) ++ [.int .u8 x]))
    (hg : (wr.alloc tmp).grownBy w3 v.ownBlock) (hat : v.ownBlock = some g' ∨ g' = wr.heap.size + 1) :
    WAt g base av (xs ++ [x]) (w3.setCell ⟨g, 0, none⟩ (.slice (some ⟨g', 0, none⟩) (xs.length + 1) cap)) (.slice (some ⟨g', 0, none⟩) (xs.length + 1) cap) ∧
      Kept av wr (w3.setCell ⟨g, 0, none⟩ (.slice (some ⟨g', 0, none⟩) (xs.length + 1) cap)) := by
  have zs := hg.size
  simp at zs
  have hgl := heap_lt h.here
  have hb : ∀ k, k < wr.heap.size → v.ownBlock ≠ some k → w3.heap[k]? = wr.heap[k]? := fun k hk hne =>
    (hg.block k (by simp; omega) (Ne.symm hne)).trans (Below.heap_alloc wr tmp k hk)
  have h3 : w3.heap[g]? = some (.cells #[v] 65 (0, 0)) := (hb g hgl (fun e => (h.far g e).2 rfl)).trans h.here
  refine ⟨⟨fun k hk => ?_, h.ng, ?_, ?_, ?_, h.base.1, ?_⟩, hg.os, hg.tape, hg.output, ?_, fun k hk => ?_⟩
  · have := h.lt k hk; simp; omega
  · simpa using heap_set h3 (.slice (some ⟨g', 0, none⟩) (xs.length + 1) cap) (i := 0)
  · have := ownsRow_setCell_below hown (a := ⟨g, 0, none⟩) h.base.1 (.slice (some ⟨g', 0, none⟩) (xs.length + 1) cap)
    simpa using this
  · intro k hk
    have : g' = k := by simpa [Value.ownBlock] using hk
    subst this
    rcases hat with e | e
    · exact h.far _ e
    · exact ⟨fun ha => by have := h.lt _ ha; omega, by omega⟩
  · have := h.base.2; simp; omega
  · simp; omega
  · rw [Below.heap_setCell _ _ _ _ (fun e => h.ng (by have e' : k = g := e; rw [← e']; exact hk))]
    exact hb k (h.lt k hk) (fun e => (h.far k e).1 hk)

theorem lt_alloc {w : World} {k : Nat} {o : Obj} (h : k < w.heap.size) : k < (w.alloc o).drew.heap.size := Nat.lt_of_lt_of_le h (((Below.refl w.heap.size w).alloc (Nat.le_refl _) o).drew).size
theorem u8_by (n : Int) (k : Nat) : IntKind.u8.wrap (n / 2 ^ (8 * (k : Int)).toNat) = byV n k := by
  rw [show (8 * (k : Int)).toNat = 8 * k by omega, byV]
  simp [IntKind.wrap, IntKind.bits, IntKind.signed]
theorem grown_undrew {a w : World} {row : Option Nat} (h : a.drew.grownBy w row) : a.grownBy w row := ⟨h.os, h.tape, h.output, h.size, h.block⟩
theorem info5 : (Try.prog.info? 5).map (fun i => (i.zero, i.size, i.bytes)) = some (some (.int .u8 0), 1, 1) := by kernel_rfl

/-- What put answers, and leaves. -/
def PutPost (g base : Nat) (av : Nat → Prop) (xs : List Int) (n : Int) (w : World) (x : Ending) (w' : World) : Prop := x = .returned (.int .i64 n) ∧ WSt g base av xs w' ∧ Kept av w w'

set_option maxRecDepth 100000 in
set_option maxHeartbeats 4000000 in
theorem wput_any (g base : Nat) (av : Nat → Prop) (xs : List Int) (n sz : Int) (size : Nat) (hsz : sz = (size : Int)) (h8 : size ≤ 8) (hx : xs.length ≤ 10000000) (w : World) (h : WSt g base av xs w) :
    Calls Try.prog 26 #[.pointer (some ⟨g, 0, none⟩), .int .i64 n, .int .i64 sz] w (PutPost g base av (xs ++ putL n size) n w) := by
  obtain ⟨i0, hi0, hz0, hz1, hz2⟩ := info_parts info5
  have HW := hide h
  subst hsz
  clear h
  go_enter Try.func26, Try.ntmps26
  go_wp2
  go_loopw [7] (fun q wr => ∃ (j : Nat) (pre : List Int), j ≤ size ∧ q = .int .i64 ((j : Int) - 1) ∧ pre ++ putL n j = putL n size ∧ pre.length + j = size ∧ WSt g base av (xs ++ pre) wr ∧ Kept av w wr) (fun q _ => (intOf q + 1).toNat)
  case atStart => exact ⟨size, [], Nat.le_refl _, rfl, rfl, by simp, by simpa using HW.out, Kept.refl _ _⟩
  case round =>
    obtain ⟨j, pre, hj, rfl, hpre, hpl, ⟨v, hv⟩, hk⟩ := hrel
    have HP := hide hpre
    have HPL := hide hpl
    clear hpre hpl HW
    have HV := hide hv
    have HK := hide hk
    clear hk
    cases j with
    | zero =>
      clear hv
      go_wp2
      go_ret
      refine ⟨rfl, ⟨v, ?_⟩, HK.out⟩
      have := HP.out
      rw [putL, List.append_nil] at this
      rw [← this]
      exact HV.out
    | succ k =>
      have e1 : ((k + 1 : Nat) : Int) - 1 = (k : Int) := by omega
      rw [e1]
      clear e1
      have hk7 : (k : Int) ≤ 7 := by omega
      have c0 : wr.cell? ⟨g, 0, none⟩ = some v := by rw [heap_cell hv.here]; rfl
      have f0 : wr.frozen? ⟨g, 0, none⟩ = false := heap_frozen hv.here 0
      have hown := hv.own
      have hbs := hv.base
      have hgl := heap_lt hv.here
      have hng : v.ownBlock ≠ some g := fun e => (hv.far g e).2 rfl
      have hl1 : (xs ++ pre).length ≤ 10000008 := by rw [List.length_append]; have := HPL.out; omega
      clear hv
      obtain ⟨ys, hys⟩ : ∃ ys, xs ++ pre = ys := ⟨_, rfl⟩
      rw [hys] at HV hown hl1
      have HY := hide hys
      clear hys
      have e8 : IntKind.i64.wrap (8 * (k : Int)) = 8 * (k : Int) := IntWalk.i64_in _ (by omega)
      have p8 : (0 : Int) ≤ 8 * (k : Int) := by omega
      go_wp2_with fail
      go_region_law
        (first
          | (refine step_append_lies _ (by rfl) _ _ _ (by rfl) base 5 i0 _ 1 1 Try.underlying57 hi0 hz0 hz1 hz2 rfl (by omega) v ys.length (ys.map (Value.int .u8)) (by rfl) ((World.ownsRow.drew hown).alloc _) ⟨wr.heap.size, 0, none⟩ 1 1 [.int .u8 (IntKind.u8.wrap (n / 2 ^ (8 * (k : Int)).toNat))] (by rfl) (by rfl) (World.news_of_block (cs := #[.int .u8 (IntKind.u8.wrap (n / 2 ^ (8 * (k : Int)).toNat))]) (t := 5) (fr := (0, 0)) (heap_alloc_new wr _)) (by simp [Value.oneCell']) (by omega) (by unfold maxLen; omega) (by omega) (by simp; omega) (wr.heap.size + 1) (by simp) ?_; intro g' cap w3 hown3 hgrow hplace hlt3; have c3 : w3.cell? ⟨g, 0, none⟩ = some v := (hgrow.cell_far ⟨g, 0, none⟩ (lt_alloc hgl) (Ne.symm hng)).trans (cell_keep c0 (((Below.refl _ _).alloc (Nat.le_refl _) _).drew)); have f3 : w3.frozen? ⟨g, 0, none⟩ = false := (hgrow.frozen_far ⟨g, 0, none⟩ (lt_alloc hgl) (Ne.symm hng)).trans (frozen_keep (((Below.refl _ _).alloc (Nat.le_refl _) _).drew) hgl f0)))
      all_goals
        obtain ⟨hW, hK⟩ := HV.out.step hown3 (grown_undrew hgrow) hplace
        have HW2 := hide hW
        have HK2 := hide (HK.out.trans hK)
        clear hown hown3 hgrow hplace hlt3 hW hK HV HK c0 f0 c3 f3 hng hbs hi0 hz0 hz1 hz2 e8 p8
        go_wp2
        go_roundw
        case rel =>
          have e : xs ++ (pre ++ [byV n k]) = ys ++ [IntKind.u8.wrap (n / 2 ^ (8 * (k : Int)).toNat)] := by rw [u8_by, ← HY.out, List.append_assoc]
          exact ⟨k, pre ++ [byV n k], by omega, rfl, by rw [List.append_assoc]; exact HP.out, by rw [List.length_append]; have := HPL.out; simp; omega, ⟨_, by rw [e]; exact HW2.out⟩, HK2.out⟩
        case measure => simp [intOf]
end Go.Proofs.Ytlmkbfbiohocpaa
