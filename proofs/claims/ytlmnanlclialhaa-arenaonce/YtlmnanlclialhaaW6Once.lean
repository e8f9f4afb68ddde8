/- The walk of ArenaOnce. -/
import Derived.Test.YtlmnanlclialhaaW6Base
import Derived.Test.YtlmnanlclialhaaArR
import Derived.Deep.AppendLies
import Derived.Lib.QuietBelow
import Derived.Deep.QuietTactic
namespace Go.Proofs.Ytlmnanlclialhaa
open Go.RowKit Go.Sort
set_option linter.unusedVariables false

def rangeV (n : Nat) : List Value := (List.range n).map fun (i : Nat) => Value.int .i64 (i : Int)
theorem rangeV_next (n : Nat) : rangeV (n + 1) = rangeV n ++ [.int .i64 (n : Int)] := by simp [rangeV, List.range_succ]
theorem rangeV_at {w : World} {B n q : Nat} {A : Option Addr} (h : Sees w B 1 A n (rangeV n)) (hq : q < n) : ∃ b off, A = some ⟨b, off, none⟩ ∧ w.cell? ⟨b, off + q, none⟩ = some (.int .i64 (q : Int)) := by
  obtain ⟨b, off, e, hb, hc⟩ := h.2 (by omega)
  exact ⟨b, off, e, hc q _ (by simp [rangeV, hq])⟩
theorem keepG12 {w w1 w2 : World} {H B : Nat} {row : Option Nat} {x0 x1 x2 x3 x4 x5 x6 x7 : Int} {b : Bool} {x9 x10 x11 : Int} (h : w.cell? ⟨H, 0, none⟩ = some (.int .i64 x0) ∧ w.cell? ⟨H, 1, none⟩ = some (.int .i64 x1) ∧ w.cell? ⟨H, 2, none⟩ = some (.int .i64 x2) ∧ w.cell? ⟨H, 3, none⟩ = some (.int .i64 x3) ∧ w.cell? ⟨H, 4, none⟩ = some (.int .i64 x4) ∧ w.cell? ⟨H, 5, none⟩ = some (.int .i64 x5) ∧ w.cell? ⟨H, 6, none⟩ = some (.int .i64 x6) ∧ w.cell? ⟨H, 7, none⟩ = some (.int .i64 x7) ∧ w.cell? ⟨H, 8, none⟩ = some (.bool b) ∧ w.cell? ⟨H, 9, none⟩ = some (.int .i64 x9) ∧ w.cell? ⟨H, 10, none⟩ = some (.int .i64 x10) ∧ w.cell? ⟨H, 11, none⟩ = some (.int .i64 x11)) (hb : RowKit.Below w.heap.size w w1) (hg : w1.grownBy w2 row) (hr : ∀ k, row = some k → B ≤ k) (hH : H < B) (hB : B ≤ w.heap.size) : w2.cell? ⟨H, 0, none⟩ = some (.int .i64 x0) ∧ w2.cell? ⟨H, 1, none⟩ = some (.int .i64 x1) ∧ w2.cell? ⟨H, 2, none⟩ = some (.int .i64 x2) ∧ w2.cell? ⟨H, 3, none⟩ = some (.int .i64 x3) ∧ w2.cell? ⟨H, 4, none⟩ = some (.int .i64 x4) ∧ w2.cell? ⟨H, 5, none⟩ = some (.int .i64 x5) ∧ w2.cell? ⟨H, 6, none⟩ = some (.int .i64 x6) ∧ w2.cell? ⟨H, 7, none⟩ = some (.int .i64 x7) ∧ w2.cell? ⟨H, 8, none⟩ = some (.bool b) ∧ w2.cell? ⟨H, 9, none⟩ = some (.int .i64 x9) ∧ w2.cell? ⟨H, 10, none⟩ = some (.int .i64 x10) ∧ w2.cell? ⟨H, 11, none⟩ = some (.int .i64 x11) := by
  have key : ∀ (i : Nat) (v : Value), w.cell? ⟨H, i, none⟩ = some v → w2.cell? ⟨H, i, none⟩ = some v := fun i v hv => by
    have := hb.size
    rw [hg.cell_far ⟨H, i, none⟩ (by simp; omega) (fun e => by have := hr H e.symm; omega)]
    exact cell_keep hv hb
  obtain ⟨h0, h1, h2, h3, h4, h5, h6, h7, h8, h9, h10, h11⟩ := h
  exact ⟨key _ _ h0, key _ _ h1, key _ _ h2, key _ _ h3, key _ _ h4, key _ _ h5, key _ _ h6, key _ _ h7, key _ _ h8, key _ _ h9, key _ _ h10, key _ _ h11⟩
/-- How things lie while the places are gathered: the n-th one is n. -/
structure OnceAt (x0 x1 x2 x3 x4 x5 x6 x7 : Int) (b : Bool) (x9 x10 x11 : Int) (H B : Nat) (w wr : World) (v : Value) (n : Nat) : Prop where
  cells : wr.cell? ⟨H, 0, none⟩ = some (.int .i64 x0) ∧ wr.cell? ⟨H, 1, none⟩ = some (.int .i64 x1) ∧ wr.cell? ⟨H, 2, none⟩ = some (.int .i64 x2) ∧ wr.cell? ⟨H, 3, none⟩ = some (.int .i64 x3) ∧ wr.cell? ⟨H, 4, none⟩ = some (.int .i64 x4) ∧ wr.cell? ⟨H, 5, none⟩ = some (.int .i64 x5) ∧ wr.cell? ⟨H, 6, none⟩ = some (.int .i64 x6) ∧ wr.cell? ⟨H, 7, none⟩ = some (.int .i64 x7) ∧ wr.cell? ⟨H, 8, none⟩ = some (.bool b) ∧ wr.cell? ⟨H, 9, none⟩ = some (.int .i64 x9) ∧ wr.cell? ⟨H, 10, none⟩ = some (.int .i64 x10) ∧ wr.cell? ⟨H, 11, none⟩ = some (.int .i64 x11)
  own : wr.ownsRow B 3 1 v n (rangeV n)
  bel : RowKit.Below H w wr
  hHB : H < B
  big : B ≤ wr.heap.size
section
variable {x0 x1 x2 x3 x4 x5 x6 x7 : Int} {b : Bool} {x9 x10 x11 : Int} {H B n : Nat} {w wr w1 w3 : World} {v v' : Value}
theorem OnceAt.later (h : OnceAt x0 x1 x2 x3 x4 x5 x6 x7 b x9 x10 x11 H B w wr v n) (hb : RowKit.Below wr.heap.size wr w1) : OnceAt x0 x1 x2 x3 x4 x5 x6 x7 b x9 x10 x11 H B w w1 v n :=
  ⟨keep12 h.cells hb, own_below h.own hb, below_next h.bel (Nat.le_trans (Nat.le_of_lt h.hHB) h.big) hb, h.hHB, Nat.le_trans h.big hb.size⟩
theorem OnceAt.push (h : OnceAt x0 x1 x2 x3 x4 x5 x6 x7 b x9 x10 x11 H B w wr v n) {o : Obj} (hown : w3.ownsRow B 3 1 v' (n + 1) (rangeV n ++ [.int .i64 (n : Int)])) (hg : (wr.alloc o).grownBy w3 v.ownBlock) : OnceAt x0 x1 x2 x3 x4 x5 x6 x7 b x9 x10 x11 H B w w3 v' (n + 1) := by
  have hr : ∀ k, v.ownBlock = some k → B ≤ k := own_at h.own
  have h1 := h.hHB
  have h2 := h.big
  have h3 := hg.size
  simp at h3
  exact ⟨keepG12 h.cells ((Below.refl _ _).alloc (Nat.le_refl _) o) hg hr h1 h2, by rw [rangeV_next]; exact hown, (h.bel.alloc (by omega) o).grown hg (by simp; omega) (fun k hk => by have := hr k hk; omega), h1, by omega⟩
theorem OnceAt.push2 (h : OnceAt x0 x1 x2 x3 x4 x5 x6 x7 b x9 x10 x11 H B w wr v n) {o : Obj} (hown : w3.ownsRow B 3 1 v' (n + 2) (rangeV n ++ [.int .i64 (n : Int), .int .i64 ((n : Int) + 1)])) (hg : (wr.alloc o).grownBy w3 v.ownBlock) : OnceAt x0 x1 x2 x3 x4 x5 x6 x7 b x9 x10 x11 H B w w3 v' (n + 2) := by
  have hr : ∀ k, v.ownBlock = some k → B ≤ k := own_at h.own
  have h1 := h.hHB
  have h2 := h.big
  have h3 := hg.size
  simp at h3
  exact ⟨keepG12 h.cells ((Below.refl _ _).alloc (Nat.le_refl _) o) hg hr h1 h2, by rw [rangeV_next, rangeV_next, List.append_assoc]; exact hown, (h.bel.alloc (by omega) o).grown hg (by simp; omega) (fun k hk => by have := hr k hk; omega), h1, by omega⟩
end
set_option maxRecDepth 100000 in
set_option maxHeartbeats 4000000 in
theorem walkOnceOk (x0 x1 x2 x3 x4 x5 x6 x7 : Int) (b : Bool) (x9 x10 x11 : Int)  (hok : CfOk x0 x1 x2 x3 x4 x5 x6 x7 b x9 x10 x11) (w : World) : Calls Try.prog 5 #[.agg #[.int .i64 x0, .int .i64 x1, .int .i64 x2, .int .i64 x3, .int .i64 x4, .int .i64 x5, .int .i64 x6, .int .i64 x7, .bool b, .int .i64 x9, .int .i64 x10, .int .i64 x11]] w (BoolPost true w) := by
  have hB : Below w.heap.size w (w.alloc (.cells #[.int .i64 x0, .int .i64 x1, .int .i64 x2, .int .i64 x3, .int .i64 x4, .int .i64 x5, .int .i64 x6, .int .i64 x7, .bool b, .int .i64 x9, .int .i64 x10, .int .i64 x11] 23)) := (Below.refl _ w).alloc (Nat.le_refl _) _
  have q0 : (w.alloc (.cells #[.int .i64 x0, .int .i64 x1, .int .i64 x2, .int .i64 x3, .int .i64 x4, .int .i64 x5, .int .i64 x6, .int .i64 x7, .bool b, .int .i64 x9, .int .i64 x10, .int .i64 x11] 23)).cell? ⟨w.heap.size, 0, none⟩ = some (.int .i64 x0) := by simp [go_sem]
  have q1 : (w.alloc (.cells #[.int .i64 x0, .int .i64 x1, .int .i64 x2, .int .i64 x3, .int .i64 x4, .int .i64 x5, .int .i64 x6, .int .i64 x7, .bool b, .int .i64 x9, .int .i64 x10, .int .i64 x11] 23)).cell? ⟨w.heap.size, 1, none⟩ = some (.int .i64 x1) := by simp [go_sem]
  have q2 : (w.alloc (.cells #[.int .i64 x0, .int .i64 x1, .int .i64 x2, .int .i64 x3, .int .i64 x4, .int .i64 x5, .int .i64 x6, .int .i64 x7, .bool b, .int .i64 x9, .int .i64 x10, .int .i64 x11] 23)).cell? ⟨w.heap.size, 2, none⟩ = some (.int .i64 x2) := by simp [go_sem]
  have q3 : (w.alloc (.cells #[.int .i64 x0, .int .i64 x1, .int .i64 x2, .int .i64 x3, .int .i64 x4, .int .i64 x5, .int .i64 x6, .int .i64 x7, .bool b, .int .i64 x9, .int .i64 x10, .int .i64 x11] 23)).cell? ⟨w.heap.size, 3, none⟩ = some (.int .i64 x3) := by simp [go_sem]
  have q4 : (w.alloc (.cells #[.int .i64 x0, .int .i64 x1, .int .i64 x2, .int .i64 x3, .int .i64 x4, .int .i64 x5, .int .i64 x6, .int .i64 x7, .bool b, .int .i64 x9, .int .i64 x10, .int .i64 x11] 23)).cell? ⟨w.heap.size, 4, none⟩ = some (.int .i64 x4) := by simp [go_sem]
  have q5 : (w.alloc (.cells #[.int .i64 x0, .int .i64 x1, .int .i64 x2, .int .i64 x3, .int .i64 x4, .int .i64 x5, .int .i64 x6, .int .i64 x7, .bool b, .int .i64 x9, .int .i64 x10, .int .i64 x11] 23)).cell? ⟨w.heap.size, 5, none⟩ = some (.int .i64 x5) := by simp [go_sem]
  have q6 : (w.alloc (.cells #[.int .i64 x0, .int .i64 x1, .int .i64 x2, .int .i64 x3, .int .i64 x4, .int .i64 x5, .int .i64 x6, .int .i64 x7, .bool b, .int .i64 x9, .int .i64 x10, .int .i64 x11] 23)).cell? ⟨w.heap.size, 6, none⟩ = some (.int .i64 x6) := by simp [go_sem]
  have q7 : (w.alloc (.cells #[.int .i64 x0, .int .i64 x1, .int .i64 x2, .int .i64 x3, .int .i64 x4, .int .i64 x5, .int .i64 x6, .int .i64 x7, .bool b, .int .i64 x9, .int .i64 x10, .int .i64 x11] 23)).cell? ⟨w.heap.size, 7, none⟩ = some (.int .i64 x7) := by simp [go_sem]
  have q8 : (w.alloc (.cells #[.int .i64 x0, .int .i64 x1, .int .i64 x2, .int .i64 x3, .int .i64 x4, .int .i64 x5, .int .i64 x6, .int .i64 x7, .bool b, .int .i64 x9, .int .i64 x10, .int .i64 x11] 23)).cell? ⟨w.heap.size, 8, none⟩ = some (.bool b) := by simp [go_sem]
  have q9 : (w.alloc (.cells #[.int .i64 x0, .int .i64 x1, .int .i64 x2, .int .i64 x3, .int .i64 x4, .int .i64 x5, .int .i64 x6, .int .i64 x7, .bool b, .int .i64 x9, .int .i64 x10, .int .i64 x11] 23)).cell? ⟨w.heap.size, 9, none⟩ = some (.int .i64 x9) := by simp [go_sem]
  have q10 : (w.alloc (.cells #[.int .i64 x0, .int .i64 x1, .int .i64 x2, .int .i64 x3, .int .i64 x4, .int .i64 x5, .int .i64 x6, .int .i64 x7, .bool b, .int .i64 x9, .int .i64 x10, .int .i64 x11] 23)).cell? ⟨w.heap.size, 10, none⟩ = some (.int .i64 x10) := by simp [go_sem]
  have q11 : (w.alloc (.cells #[.int .i64 x0, .int .i64 x1, .int .i64 x2, .int .i64 x3, .int .i64 x4, .int .i64 x5, .int .i64 x6, .int .i64 x7, .bool b, .int .i64 x9, .int .i64 x10, .int .i64 x11] 23)).cell? ⟨w.heap.size, 11, none⟩ = some (.int .i64 x11) := by simp [go_sem]
  have KM := hide (may_yes x0 x1 x2 x3 x4 x5 x6 x7 b x9 x10 x11 hok)
  have K0 := hide (fun i (hi : I64 i) (v : World) => cell_any x0 x1 x2 x3 x4 x5 x6 x7 b x9 x10 x11 hok i hi v)
  have K1 := hide (fun i j (hi : I64 i) (hj : I64 j) (v : World) => node_any x0 x1 x2 x3 x4 x5 x6 x7 b x9 x10 x11 hok i hi j hj v)
  have K2 := hide (fun i j k (hi : I64 i) (hj : I64 j) (hk : I64 k) (v : World) => slot_any x0 x1 x2 x3 x4 x5 x6 x7 b x9 x10 x11 hok i hi j hj k hk v)
  have K3 := hide (fun i (hi : I64 i) (v : World) => line_any x0 x1 x2 x3 x4 x5 x6 x7 b x9 x10 x11 hok i hi v)
  have K4 := hide (fun i (hi : I64 i) (v : World) => result_any x0 x1 x2 x3 x4 x5 x6 x7 b x9 x10 x11 hok i hi v)
  have K5 := hide (size_any x0 x1 x2 x3 x4 x5 x6 x7 b x9 x10 x11 hok)
  have K7 := hide (rnodes_any x0 x1 x2 x3 x4 x5 x6 x7 b x9 x10 x11 hok.h3)
  have o0 := hok.h0
  have o1 := hok.h1
  have o4 := hok.h4
  have o5 := hok.h5
  have on := nd_le hok.h3
  have ob := bk_le hok.h3 hok.h4 hok.h5
  have hbk0 : 1 + ndV x3 + x4 * x5 = bkV x3 x4 x5 := rfl
  clear hok
  obtain ⟨bk, hbk⟩ : ∃ n : Nat, bkV x3 x4 x5 = (n : Int) := ⟨(bkV x3 x4 x5).toNat, by omega⟩
  obtain ⟨nd, hnd⟩ : ∃ n : Nat, ndV x3 = (n : Int) := ⟨(ndV x3).toNat, by omega⟩
  simp only [hbk, hnd] at K0 K1 K2 K3 K4 K5 K7 on ob hbk0
  clear hbk hnd
  obtain ⟨it, rfl⟩ : ∃ n : Nat, x1 = (n : Int) := ⟨x1.toNat, by omega⟩
  obtain ⟨ly, rfl⟩ : ∃ n : Nat, x4 = (n : Int) := ⟨x4.toNat, by omega⟩
  obtain ⟨wd, rfl⟩ : ∃ n : Nat, x5 = (n : Int) := ⟨x5.toNat, by omega⟩
  obtain ⟨th, rfl⟩ : ∃ n : Nat, x0 = (n : Int) := ⟨x0.toNat, by omega⟩
  have HB0 := hide hbk0
  clear hbk0
  obtain ⟨i0, hi0, hz0, hz1, hz2⟩ := info_parts info3
  go_enter Try.func5, Try.ntmps5
  go_wp2_with fail
  refine (KM.out _).mono ?_
  rintro x w1 ⟨rfl, hb⟩
  replace q0 := cell_keep q0 hb
  replace q1 := cell_keep q1 hb
  replace q2 := cell_keep q2 hb
  replace q3 := cell_keep q3 hb
  replace q4 := cell_keep q4 hb
  replace q5 := cell_keep q5 hb
  replace q6 := cell_keep q6 hb
  replace q7 := cell_keep q7 hb
  replace q8 := cell_keep q8 hb
  replace q9 := cell_keep q9 hb
  replace q10 := cell_keep q10 hb
  replace q11 := cell_keep q11 hb
  replace hB := below_next hB hB.size hb
  clear hb
  go_wp2_with fail
  refine (shown6_any _).mono ?_
  rintro x w2 ⟨rfl, hb⟩
  replace q0 := cell_keep q0 hb
  replace q1 := cell_keep q1 hb
  replace q2 := cell_keep q2 hb
  replace q3 := cell_keep q3 hb
  replace q4 := cell_keep q4 hb
  replace q5 := cell_keep q5 hb
  replace q6 := cell_keep q6 hb
  replace q7 := cell_keep q7 hb
  replace q8 := cell_keep q8 hb
  replace q9 := cell_keep q9 hb
  replace q10 := cell_keep q10 hb
  replace q11 := cell_keep q11 hb
  replace hB := below_next hB hB.size hb
  clear hb
  clear KM
  have hba : RowKit.Below w2.heap.size w2 (w2.alloc (.cells #[] 3)) := (Below.refl _ _).alloc (Nat.le_refl _) _
  have start : OnceAt (th : Int) (it : Int) x2 x3 (ly : Int) (wd : Int) x6 x7 b x9 x10 x11 w.heap.size w2.heap.size w (w2.alloc (.cells #[] 3)) (.slice (some ⟨w2.heap.size, 0, none⟩) 0 0) 0 := ⟨keep12 ⟨q0, q1, q2, q3, q4, q5, q6, q7, q8, q9, q10, q11⟩ hba, own_empty w2 _ _ _ (Nat.le_refl _), below_next hB hB.size hba, World.block_lt_of_cell? _ _ q0, hba.size⟩
  have ST := hide start
  clear start hba hB q0 q1 q2 q3 q4 q5 q6 q7 q8 q9 q10 q11
  go_wp2
  generalize w2.heap.size = B at *
  go_loopw [3, 4] (fun v i wr => ∃ (j n : Nat), 0 ≤ j ∧ j ≤ it ∧ i = .int .i64 (j : Int) ∧ Hid ((n : Int) = (j : Int) * bk) ∧ OnceAt (th : Int) (it : Int) x2 x3 (ly : Int) (wd : Int) x6 x7 b x9 x10 x11 w.heap.size B w wr v n) (fun _ i _ => it - (intOf i).toNat)
  case atStart => exact ⟨0, _, Nat.le_refl _, by omega, rfl, hide (by simp), ST.out⟩
  case round =>
    clear ST
    obtain ⟨j, n, hj1, hj2, rfl, EJ, hat⟩ := hrel
    have HAT := hide hat
    obtain ⟨q0, q1, q2, q3, q4, q5, q6, q7, q8, q9, q10, q11⟩ := hat.cells
    clear hat 
    have nb : (n : Int) ≤ 160 := by have := mul_le (a := (j : Int)) (b := (bk : Int)) (p := 4) (q := 40) (by omega) (by omega); have := EJ.out; omega
    by_cases hlt : j < it
    · skip
      have hlt' : (j : Int) < (it : Int) := by omega
      have KJ := hide (K0.out (j : Int) (by unfold I64; omega))
      rw [show cellV (it : Int) bk (j : Int) = (n : Int) by rw [cellV, if_pos (by omega), EJ.out]] at KJ
      go_wp2_with fail
      refine (KJ.out _).mono ?_
      rintro x v1 ⟨rfl, hv⟩
      have A1 := hide (HAT.out.later hv)
      clear hv HAT q0 q1 q2 q3 q4 q5 q6 q7 q8 q9 q10 q11
      have hown := A1.out.own
      have hbg := A1.out.big
      go_wp2_with (at_builtin; refine wpList_append_own_at _ rfl _ _ 36 rfl B 3 i0 _ 1 8 Try.underlying36 hi0 hz0 hz1 hz2 rfl (by omega) _ n _ rfl (hown.alloc _) ⟨v1.heap.size, 0, none⟩ 1 1 [.int .i64 (n : Int)] rfl rfl (World.news_of_block (cs := #[.int .i64 (n : Int)]) (t := 3) (fr := (0, 0)) (heap_alloc_new v1 _)) (by simp [Value.oneCell']) (by unfold maxLen; omega) (by omega) (by simp; omega) ?_; intro u3 w3 ow3 hg3 _ hat3; have A3 := hide (A1.out.push ow3 hg3); clear ow3 hg3 hat3 hown hbg A1)
      clear KJ
      go_loopw [3, 5] (fun v i wr => ∃ (k n : Nat), 1 ≤ k ∧ k ≤ nd + 1 ∧ i = .int .i64 (k : Int) ∧ Hid ((n : Int) = (j : Int) * bk + k) ∧ OnceAt (th : Int) (it : Int) x2 x3 (ly : Int) (wd : Int) x6 x7 b x9 x10 x11 w.heap.size B w wr v n) (fun _ i _ => nd + 1 - (intOf i).toNat)
      case atStart => exact ⟨1, _, Nat.le_refl _, by omega, rfl, hide (by have := EJ.out; simp; omega), A3.out⟩
      case round =>
        clear A3
        obtain ⟨k, m, hk1, hk2, rfl, EK, hat⟩ := hrel
        have HAT := hide hat
        obtain ⟨q0, q1, q2, q3, q4, q5, q6, q7, q8, q9, q10, q11⟩ := hat.cells
        clear hat 
        go_wp2_with fail
        refine (K7.out _).mono ?_
        rintro x v ⟨rfl, hv⟩
        replace HAT := hide (HAT.out.later hv)
        clear hv q0 q1 q2 q3 q4 q5 q6 q7 q8 q9 q10 q11
        obtain ⟨q0, q1, q2, q3, q4, q5, q6, q7, q8, q9, q10, q11⟩ := HAT.out.cells
        have mb : (m : Int) ≤ 180 := by have := EJ.out; have := EK.out; omega
        by_cases hkn : k ≤ nd
        · skip
          have hkn' : (k : Int) ≤ (nd : Int) := by omega
          have KJ := hide (K1.out (j : Int) (k : Int) (by unfold I64; omega) (by unfold I64; omega))
          rw [show nodeV (it : Int) bk nd (j : Int) (k : Int) = (m : Int) by rw [nodeV, if_pos (by omega), EK.out]] at KJ
          go_wp2_with fail
          refine (KJ.out _).mono ?_
          rintro x v1 ⟨rfl, hv⟩
          have A1 := hide (HAT.out.later hv)
          clear hv HAT q0 q1 q2 q3 q4 q5 q6 q7 q8 q9 q10 q11
          have hown := A1.out.own
          have hbg := A1.out.big
          go_wp2_with (at_builtin; refine wpList_append_own_at _ rfl _ _ 36 rfl B 3 i0 _ 1 8 Try.underlying36 hi0 hz0 hz1 hz2 rfl (by omega) _ m _ rfl (hown.alloc _) ⟨v1.heap.size, 0, none⟩ 1 1 [.int .i64 (m : Int)] rfl rfl (World.news_of_block (cs := #[.int .i64 (m : Int)]) (t := 3) (fr := (0, 0)) (heap_alloc_new v1 _)) (by simp [Value.oneCell']) (by unfold maxLen; omega) (by omega) (by simp; omega) ?_; intro u3 w3 ow3 hg3 _ hat3; have A3 := hide (A1.out.push ow3 hg3); clear ow3 hg3 hat3 hown hbg A1)
          go_roundw
          case rel => exact ⟨k + 1, m + 1, by omega, by omega, by go_num, hide (by have := EK.out; omega), A3.out⟩
          case measure => simp [intOf]; omega
        · skip
          have hkn' : ¬ (k : Int) ≤ (nd : Int) := by omega
          clear q0 q1 q2 q3 q4 q5 q6 q7 q8 q9 q10 q11
          go_wp2
          go_loopw [3, 6] (fun v i wr => ∃ (l n : Nat), 1 ≤ l ∧ l ≤ ly + 1 ∧ i = .int .i64 (l : Int) ∧ Hid ((n : Int) = (j : Int) * bk + 1 + nd + ((l : Int) - 1) * wd) ∧ OnceAt (th : Int) (it : Int) x2 x3 (ly : Int) (wd : Int) x6 x7 b x9 x10 x11 w.heap.size B w wr v n) (fun _ i _ => ly + 1 - (intOf i).toNat)
          case atStart => exact ⟨1, _, Nat.le_refl _, by omega, rfl, hide (by have := EK.out; simp; omega), HAT.out⟩
          case round =>
            clear HAT
            obtain ⟨l, p, hl1, hl2, rfl, EL, hat⟩ := hrel
            have HAT := hide hat
            obtain ⟨q0, q1, q2, q3, q4, q5, q6, q7, q8, q9, q10, q11⟩ := hat.cells
            clear hat 
            by_cases hll : l ≤ ly
            · skip
              have hll' : (l : Int) ≤ (ly : Int) := by omega
              have ml := mul_le (a := (l : Int) - 1) (b := (wd : Int)) (p := 3) (q := 8) (by omega) (by omega)
              have HML := hide ml
              clear ml
              clear q0 q1 q2 q3 q5 q6 q7 q8 q9 q10 q11
              go_wp2
              go_loopw [3, 7] (fun v i wr => ∃ (s n : Nat), 0 ≤ s ∧ s ≤ wd ∧ i = .int .i64 (s : Int) ∧ Hid ((n : Int) = (j : Int) * bk + 1 + nd + ((l : Int) - 1) * wd + s) ∧ OnceAt (th : Int) (it : Int) x2 x3 (ly : Int) (wd : Int) x6 x7 b x9 x10 x11 w.heap.size B w wr v n) (fun _ i _ => wd - (intOf i).toNat)
              case atStart => exact ⟨0, _, Nat.le_refl _, by omega, rfl, hide (by have := EL.out; simp; omega), HAT.out⟩
              case round =>
                clear HAT
                obtain ⟨s, r, hs1, hs2, rfl, ES, hat⟩ := hrel
                have HAT := hide hat
                obtain ⟨q0, q1, q2, q3, q4, q5, q6, q7, q8, q9, q10, q11⟩ := hat.cells
                clear hat 
                have rb : (r : Int) ≤ 220 := by have := EJ.out; have := ES.out; have := HML.out; omega
                by_cases hss : s < wd
                · skip
                  have hss' : (s : Int) < (wd : Int) := by omega
                  have KJ := hide (K2.out (j : Int) (l : Int) (s : Int) (by unfold I64; omega) (by unfold I64; omega) (by unfold I64; omega))
                  rw [show slotV (it : Int) bk nd ly wd (j : Int) (l : Int) (s : Int) = (r : Int) by rw [slotV, if_pos (by omega), ES.out]] at KJ
                  go_wp2_with fail
                  refine (KJ.out _).mono ?_
                  rintro x v1 ⟨rfl, hv⟩
                  have A1 := hide (HAT.out.later hv)
                  clear hv HAT q0 q1 q2 q3 q4 q5 q6 q7 q8 q9 q10 q11
                  have hown := A1.out.own
                  have hbg := A1.out.big
                  go_wp2_with (at_builtin; refine wpList_append_own_at _ rfl _ _ 36 rfl B 3 i0 _ 1 8 Try.underlying36 hi0 hz0 hz1 hz2 rfl (by omega) _ r _ rfl (hown.alloc _) ⟨v1.heap.size, 0, none⟩ 1 1 [.int .i64 (r : Int)] rfl rfl (World.news_of_block (cs := #[.int .i64 (r : Int)]) (t := 3) (fr := (0, 0)) (heap_alloc_new v1 _)) (by simp [Value.oneCell']) (by unfold maxLen; omega) (by omega) (by simp; omega) ?_; intro u3 w3 ow3 hg3 _ hat3; have A3 := hide (A1.out.push ow3 hg3); clear ow3 hg3 hat3 hown hbg A1)
                  go_roundw
                  case rel => exact ⟨s + 1, r + 1, by omega, by omega, by go_num, hide (by have := ES.out; omega), A3.out⟩
                  case measure => simp [intOf]; omega
                · skip
                  obtain rfl : s = wd := by omega
                  clear q0 q1 q2 q3 q4 q6 q7 q8 q9 q10 q11
                  go_wp2
                  go_roundw
                  case rel => exact ⟨l + 1, r, by omega, by omega, by go_num, hide (by have := ES.out; have := Int.sub_mul (l : Int) 1 (s : Int); push_cast; rw [show (l : Int) + 1 - 1 = l by omega]; omega), HAT.out⟩
                  case measure => simp [intOf]; omega
            · skip
              obtain rfl : l = ly + 1 := by omega
              clear q0 q1 q2 q3 q5 q6 q7 q8 q9 q10 q11
              go_wp2
              go_roundw
              case rel => exact ⟨j + 1, p, by omega, by omega, by go_num, hide (by have := EL.out; have := HB0.out; have := Int.add_mul (j : Int) 1 (bk : Int); push_cast at *; rw [show (ly : Int) + 1 - 1 = ly by omega] at *; omega), HAT.out⟩
              case measure => simp [intOf]; omega
    · skip
      obtain rfl : it = j := by omega
      clear q0 q2 q3 q4 q5 q6 q7 q8 q9 q10 q11
      go_wp2
      go_loopw [3, 8] (fun v i wr => ∃ (t n : Nat), 0 ≤ t ∧ t ≤ th ∧ i = .int .i64 (t : Int) ∧ Hid ((n : Int) = (it : Int) * bk + 2 * t) ∧ OnceAt (th : Int) (it : Int) x2 x3 (ly : Int) (wd : Int) x6 x7 b x9 x10 x11 w.heap.size B w wr v n) (fun _ i _ => th - (intOf i).toNat)
      case atStart => exact ⟨0, _, Nat.le_refl _, by omega, rfl, hide (by have := EJ.out; simp; omega), HAT.out⟩
      case round =>
        clear HAT
        obtain ⟨t, m, ht1, ht2, rfl, ET, hat⟩ := hrel
        have HAT := hide hat
        obtain ⟨q0, q1, q2, q3, q4, q5, q6, q7, q8, q9, q10, q11⟩ := hat.cells
        clear hat 
        have mb : (m : Int) ≤ 200 := by have := EJ.out; have := ET.out; omega
        by_cases htt : t < th
        · skip
          have htt' : (t : Int) < (th : Int) := by omega
          have KJ := hide (K3.out (t : Int) (by unfold I64; omega))
          rw [show lineV (it : Int) bk th (t : Int) = (m : Int) by rw [lineV, if_pos (by omega), ET.out]] at KJ
          have KJ2 := hide (K4.out (t : Int) (by unfold I64; omega))
          rw [show resV (it : Int) bk th (t : Int) = (m : Int) + 1 by rw [resV, if_pos (by omega), ET.out]] at KJ2
          go_upto_region 22 with fail
          clear q0 q1 q2 q3 q4 q5 q6 q7 q8 q9 q10 q11
          replace HAT := hide (HAT.out.later ((Below.refl _ wr).drew))
          have H0 := HAT.out.cells
          go_region_held3 (fun w' => w'.cell? ⟨w.heap.size, 0, none⟩ = some (.int .i64 (th : Int)) ∧ w'.cell? ⟨w.heap.size, 1, none⟩ = some (.int .i64 (it : Int)) ∧ w'.cell? ⟨w.heap.size, 2, none⟩ = some (.int .i64 x2) ∧ w'.cell? ⟨w.heap.size, 3, none⟩ = some (.int .i64 x3) ∧ w'.cell? ⟨w.heap.size, 4, none⟩ = some (.int .i64 (ly : Int)) ∧ w'.cell? ⟨w.heap.size, 5, none⟩ = some (.int .i64 (wd : Int)) ∧ w'.cell? ⟨w.heap.size, 6, none⟩ = some (.int .i64 x6) ∧ w'.cell? ⟨w.heap.size, 7, none⟩ = some (.int .i64 x7) ∧ w'.cell? ⟨w.heap.size, 8, none⟩ = some (.bool b) ∧ w'.cell? ⟨w.heap.size, 9, none⟩ = some (.int .i64 x9) ∧ w'.cell? ⟨w.heap.size, 10, none⟩ = some (.int .i64 x10) ∧ w'.cell? ⟨w.heap.size, 11, none⟩ = some (.int .i64 x11))
            (first | (with_reducible exact H0) | (with_reducible exact H1) | (exact keep12 H0 ((Below.refl _ _).alloc (Nat.le_refl _) _)))
            (first
              | (go_at_call 20; refine (KJ.out _).mono ?_; rintro x v1 ⟨rfl, hv⟩; replace HAT := hide (HAT.out.later hv); replace H0 := HAT.out.cells; clear hv)
              | (go_at_call 22; refine (KJ2.out _).mono ?_; rintro x v2 ⟨rfl, hv⟩; replace HAT := hide (HAT.out.later hv); replace H0 := HAT.out.cells; clear hv; have hown := HAT.out.own; have hbg := HAT.out.big)
              | (refine step_append_lies _ (by rfl) _ _ _ (by rfl) B 3 i0 _ 1 8 Try.underlying36 hi0 hz0 hz1 hz2 rfl (by omega) _ m (rangeV m) (by rfl) (hown.alloc _) ⟨v2.heap.size, 0, none⟩ 2 2 [.int .i64 (m : Int), .int .i64 ((m : Int) + 1)] (by rfl) (by rfl) (World.news_of_block (cs := #[.int .i64 (m : Int), .int .i64 ((m : Int) + 1)]) (t := 3) (fr := (0, 0)) (heap_alloc_new v2 _)) (by simp [Value.oneCell']) (by omega) (by unfold maxLen; omega) (by omega) (by simp; omega) (v2.heap.size + 1) (by simp) ?_; intro g cap w3 hown3 hgrow hplace hlt3; have A3 := hide (HAT.out.push2 hown3 hgrow); have H1 := A3.out.cells))
          clear KJ KJ2 hown hbg hown3 hgrow hplace HAT H0 H1
          go_wp2
          go_roundw
          case rel => exact ⟨t + 1, m + 2, by omega, by omega, by go_num, hide (by have := ET.out; push_cast; omega), A3.out⟩
          case measure => simp [intOf]; omega
        · skip
          obtain rfl : t = th := by omega
          have hsz : sizeV (it : Int) bk (t : Int) = (m : Int) := by rw [sizeV, ET.out]
          have KS := hide K5.out
          rw [hsz] at KS
          clear hsz
          obtain ⟨A, c, rfl, hc⟩ := own_form HAT.out.own
          have hsee := Sees.of_own HAT.out.own
          go_wp2_with fail
          refine (KS.out _).mono ?_
          rintro x v ⟨rfl, hv⟩
          have hB := below_next HAT.out.bel (Nat.le_trans (Nat.le_of_lt HAT.out.hHB) HAT.out.big) hv
          have HSE := hide (hsee.later hv)
          clear hv hsee HAT KS q0 q1 q2 q3 q4 q5 q6 q7 q8 q9 q10 q11
          go_wp2
          go_loopw [9] (fun i wr' => ∃ q : Nat, q ≤ m ∧ i = .int .i64 (q : Int) ∧ wr' = v) (fun i _ => m - (intOf i).toNat)
          case atStart => exact ⟨0, Nat.zero_le _, rfl, rfl⟩
          case round =>
            obtain ⟨q, hq, rfl, rfl⟩ := hrel
            by_cases hqm : q < m
            · skip
              obtain ⟨b', off, rfl, hcell⟩ := rangeV_at HSE.out hqm
              have hq0 : (0 : Int) ≤ (q : Int) := Int.natCast_nonneg _
              have hq1 : (q : Int) < (m : Int) := by omega
              go_wp2
              go_roundw
              case rel => exact ⟨q + 1, by omega, by go_num, trivial⟩
              case measure => simp [intOf]; omega
            · skip
              obtain rfl : q = m := by omega
              go_wp2
              go_ret
              exact ⟨rfl, hB⟩
set_option maxRecDepth 100000 in
set_option maxHeartbeats 4000000 in
theorem walkOnceNo (x0 x1 x2 x3 x4 x5 x6 x7 : Int) (b : Bool) (x9 x10 x11 : Int)  (hok : ¬ CfOk x0 x1 x2 x3 x4 x5 x6 x7 b x9 x10 x11) (w : World) : Calls Try.prog 5 #[.agg #[.int .i64 x0, .int .i64 x1, .int .i64 x2, .int .i64 x3, .int .i64 x4, .int .i64 x5, .int .i64 x6, .int .i64 x7, .bool b, .int .i64 x9, .int .i64 x10, .int .i64 x11]] w (BoolPost true w) := by
  have hB : Below w.heap.size w (w.alloc (.cells #[.int .i64 x0, .int .i64 x1, .int .i64 x2, .int .i64 x3, .int .i64 x4, .int .i64 x5, .int .i64 x6, .int .i64 x7, .bool b, .int .i64 x9, .int .i64 x10, .int .i64 x11] 23)) := (Below.refl _ w).alloc (Nat.le_refl _) _
  have q0 : (w.alloc (.cells #[.int .i64 x0, .int .i64 x1, .int .i64 x2, .int .i64 x3, .int .i64 x4, .int .i64 x5, .int .i64 x6, .int .i64 x7, .bool b, .int .i64 x9, .int .i64 x10, .int .i64 x11] 23)).cell? ⟨w.heap.size, 0, none⟩ = some (.int .i64 x0) := by simp [go_sem]
  have q1 : (w.alloc (.cells #[.int .i64 x0, .int .i64 x1, .int .i64 x2, .int .i64 x3, .int .i64 x4, .int .i64 x5, .int .i64 x6, .int .i64 x7, .bool b, .int .i64 x9, .int .i64 x10, .int .i64 x11] 23)).cell? ⟨w.heap.size, 1, none⟩ = some (.int .i64 x1) := by simp [go_sem]
  have q2 : (w.alloc (.cells #[.int .i64 x0, .int .i64 x1, .int .i64 x2, .int .i64 x3, .int .i64 x4, .int .i64 x5, .int .i64 x6, .int .i64 x7, .bool b, .int .i64 x9, .int .i64 x10, .int .i64 x11] 23)).cell? ⟨w.heap.size, 2, none⟩ = some (.int .i64 x2) := by simp [go_sem]
  have q3 : (w.alloc (.cells #[.int .i64 x0, .int .i64 x1, .int .i64 x2, .int .i64 x3, .int .i64 x4, .int .i64 x5, .int .i64 x6, .int .i64 x7, .bool b, .int .i64 x9, .int .i64 x10, .int .i64 x11] 23)).cell? ⟨w.heap.size, 3, none⟩ = some (.int .i64 x3) := by simp [go_sem]
  have q4 : (w.alloc (.cells #[.int .i64 x0, .int .i64 x1, .int .i64 x2, .int .i64 x3, .int .i64 x4, .int .i64 x5, .int .i64 x6, .int .i64 x7, .bool b, .int .i64 x9, .int .i64 x10, .int .i64 x11] 23)).cell? ⟨w.heap.size, 4, none⟩ = some (.int .i64 x4) := by simp [go_sem]
  have q5 : (w.alloc (.cells #[.int .i64 x0, .int .i64 x1, .int .i64 x2, .int .i64 x3, .int .i64 x4, .int .i64 x5, .int .i64 x6, .int .i64 x7, .bool b, .int .i64 x9, .int .i64 x10, .int .i64 x11] 23)).cell? ⟨w.heap.size, 5, none⟩ = some (.int .i64 x5) := by simp [go_sem]
  have q6 : (w.alloc (.cells #[.int .i64 x0, .int .i64 x1, .int .i64 x2, .int .i64 x3, .int .i64 x4, .int .i64 x5, .int .i64 x6, .int .i64 x7, .bool b, .int .i64 x9, .int .i64 x10, .int .i64 x11] 23)).cell? ⟨w.heap.size, 6, none⟩ = some (.int .i64 x6) := by simp [go_sem]
  have q7 : (w.alloc (.cells #[.int .i64 x0, .int .i64 x1, .int .i64 x2, .int .i64 x3, .int .i64 x4, .int .i64 x5, .int .i64 x6, .int .i64 x7, .bool b, .int .i64 x9, .int .i64 x10, .int .i64 x11] 23)).cell? ⟨w.heap.size, 7, none⟩ = some (.int .i64 x7) := by simp [go_sem]
  have q8 : (w.alloc (.cells #[.int .i64 x0, .int .i64 x1, .int .i64 x2, .int .i64 x3, .int .i64 x4, .int .i64 x5, .int .i64 x6, .int .i64 x7, .bool b, .int .i64 x9, .int .i64 x10, .int .i64 x11] 23)).cell? ⟨w.heap.size, 8, none⟩ = some (.bool b) := by simp [go_sem]
  have q9 : (w.alloc (.cells #[.int .i64 x0, .int .i64 x1, .int .i64 x2, .int .i64 x3, .int .i64 x4, .int .i64 x5, .int .i64 x6, .int .i64 x7, .bool b, .int .i64 x9, .int .i64 x10, .int .i64 x11] 23)).cell? ⟨w.heap.size, 9, none⟩ = some (.int .i64 x9) := by simp [go_sem]
  have q10 : (w.alloc (.cells #[.int .i64 x0, .int .i64 x1, .int .i64 x2, .int .i64 x3, .int .i64 x4, .int .i64 x5, .int .i64 x6, .int .i64 x7, .bool b, .int .i64 x9, .int .i64 x10, .int .i64 x11] 23)).cell? ⟨w.heap.size, 10, none⟩ = some (.int .i64 x10) := by simp [go_sem]
  have q11 : (w.alloc (.cells #[.int .i64 x0, .int .i64 x1, .int .i64 x2, .int .i64 x3, .int .i64 x4, .int .i64 x5, .int .i64 x6, .int .i64 x7, .bool b, .int .i64 x9, .int .i64 x10, .int .i64 x11] 23)).cell? ⟨w.heap.size, 11, none⟩ = some (.int .i64 x11) := by simp [go_sem]
  have KM := hide (may_no x0 x1 x2 x3 x4 x5 x6 x7 b x9 x10 x11 hok)
  clear hok
  go_enter Try.func5, Try.ntmps5
  go_wp2_with fail
  refine (KM.out _).mono ?_
  rintro x w1 ⟨rfl, hb⟩
  replace q0 := cell_keep q0 hb
  replace q1 := cell_keep q1 hb
  replace q2 := cell_keep q2 hb
  replace q3 := cell_keep q3 hb
  replace q4 := cell_keep q4 hb
  replace q5 := cell_keep q5 hb
  replace q6 := cell_keep q6 hb
  replace q7 := cell_keep q7 hb
  replace q8 := cell_keep q8 hb
  replace q9 := cell_keep q9 hb
  replace q10 := cell_keep q10 hb
  replace q11 := cell_keep q11 hb
  replace hB := below_next hB hB.size hb
  clear hb
  go_wp2_with fail
  refine (shown6_any _).mono ?_
  rintro x w2 ⟨rfl, hb⟩
  replace q0 := cell_keep q0 hb
  replace q1 := cell_keep q1 hb
  replace q2 := cell_keep q2 hb
  replace q3 := cell_keep q3 hb
  replace q4 := cell_keep q4 hb
  replace q5 := cell_keep q5 hb
  replace q6 := cell_keep q6 hb
  replace q7 := cell_keep q7 hb
  replace q8 := cell_keep q8 hb
  replace q9 := cell_keep q9 hb
  replace q10 := cell_keep q10 hb
  replace q11 := cell_keep q11 hb
  replace hB := below_next hB hB.size hb
  clear hb
  go_wp2
  go_ret
  exact ⟨rfl, hB⟩
theorem walkOnce (x0 x1 x2 x3 x4 x5 x6 x7 : Int) (b : Bool) (x9 x10 x11 : Int)  (w : World) : Calls Try.prog 5 #[.agg #[.int .i64 x0, .int .i64 x1, .int .i64 x2, .int .i64 x3, .int .i64 x4, .int .i64 x5, .int .i64 x6, .int .i64 x7, .bool b, .int .i64 x9, .int .i64 x10, .int .i64 x11]] w (BoolPost true w) := by
  by_cases hok : CfOk x0 x1 x2 x3 x4 x5 x6 x7 b x9 x10 x11
  · exact walkOnceOk x0 x1 x2 x3 x4 x5 x6 x7 b x9 x10 x11  hok w
  · exact walkOnceNo x0 x1 x2 x3 x4 x5 x6 x7 b x9 x10 x11  hok w

end Go.Proofs.Ytlmnanlclialhaa
