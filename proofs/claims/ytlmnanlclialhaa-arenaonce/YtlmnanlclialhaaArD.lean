/- Contracts of the program's places: Cell, Line, Result, Node, Slot. -/
import Derived.Test.YtlmnanlclialhaaArC
namespace Go.Proofs.Ytlmnanlclialhaa
open Go.RowKit

set_option linter.unusedVariables false
theorem cell_eq (it bk i : Int) : rowV 0 0 it bk i = cellV it bk i := by
  unfold rowV cellV
  by_cases h : 0 ≤ i ∧ i < it
  · rw [if_pos h, if_neg (by omega)]; simp
  · rw [if_neg h, if_pos (by omega)]
theorem line_eq (it bk th t : Int) : rowV (it * bk) 0 th 2 t = lineV it bk th t := by
  unfold rowV lineV
  by_cases h : 0 ≤ t ∧ t < th
  · rw [if_pos h, if_neg (by omega)]; omega
  · rw [if_neg h, if_pos (by omega)]
theorem res_eq (it bk th t : Int) : rowV (it * bk + 1) 0 th 2 t = resV it bk th t := by
  unfold rowV resV
  by_cases h : 0 ≤ t ∧ t < th
  · rw [if_pos h, if_neg (by omega)]; omega
  · rw [if_neg h, if_pos (by omega)]
theorem cell_le {it bk i : Int} (h : 1 ≤ it ∧ it ≤ 4) (hb : 1 ≤ bk ∧ bk ≤ 40) : -1 ≤ cellV it bk i ∧ cellV it bk i ≤ 160 ∧ (cellV it bk i = -1 ↔ ¬(0 ≤ i ∧ i < it)) := by
  unfold cellV
  by_cases hi : 0 ≤ i ∧ i < it
  · have := mul_le (a := i) (b := bk) (p := 4) (q := 40) (by omega) (by omega)
    rw [if_pos hi]; omega
  · rw [if_neg hi]; omega
theorem node_eq {it bk nd i n : Int} (h : 1 ≤ it ∧ it ≤ 4) (hb : 1 ≤ bk ∧ bk ≤ 40) : wiV 0 [cellV it bk i, rowV 1 1 nd 1 n] = nodeV it bk nd i n := by
  have h1 := cell_le (i := i) h hb
  by_cases hi : 0 ≤ i ∧ i < it
  · have h2 : ¬ cellV it bk i = -1 := by omega
    rw [wiV, if_neg h2]
    by_cases hn : 1 ≤ n ∧ n ≤ nd
    · have e : rowV 1 1 nd 1 n = n := by rw [rowV, if_neg (by omega)]; omega
      rw [e, wiV, if_neg (by omega), nodeV, if_pos ⟨hi, hn⟩, wiV, cellV, if_pos hi]; omega
    · have e : rowV 1 1 nd 1 n = -1 := by rw [rowV, if_pos (by omega)]
      rw [e, wiV, if_pos rfl, nodeV, if_neg (fun h => hn h.2)]
  · have h2 : cellV it bk i = -1 := by omega
    rw [h2, wiV, if_pos rfl, nodeV, if_neg (fun h => hi h.1)]
theorem slot_eq {it bk nd ly wd i l s : Int} (h : 1 ≤ it ∧ it ≤ 4) (hb : 1 ≤ bk ∧ bk ≤ 40) (hnd : 0 ≤ nd) (hwd : 0 ≤ wd) : wiV 0 [cellV it bk i, rowV (1 + nd) 1 ly wd l, rowV 0 0 wd 1 s] = slotV it bk nd ly wd i l s := by
  have h1 := cell_le (i := i) h hb
  by_cases hi : 0 ≤ i ∧ i < it
  · have h2 : ¬ cellV it bk i = -1 := by omega
    rw [wiV, if_neg h2]
    by_cases hl : 1 ≤ l ∧ l ≤ ly
    · have e : rowV (1 + nd) 1 ly wd l = 1 + nd + (l - 1) * wd := by rw [rowV, if_neg (by omega)]
      have hm : 0 ≤ (l - 1) * wd := Int.mul_nonneg (by omega) hwd
      rw [e, wiV, if_neg (by omega)]
      by_cases hs : 0 ≤ s ∧ s < wd
      · have e : rowV 0 0 wd 1 s = s := by rw [rowV, if_neg (by omega)]; omega
        rw [e, wiV, if_neg (by omega), slotV, if_pos ⟨hi, hl, hs⟩, wiV, cellV, if_pos hi]; omega
      · have e : rowV 0 0 wd 1 s = -1 := by rw [rowV, if_pos (by omega)]
        rw [e, wiV, if_pos rfl, slotV, if_neg (fun h => hs h.2.2)]
    · have e : rowV (1 + nd) 1 ly wd l = -1 := by rw [rowV, if_pos (by omega)]
      rw [e, wiV, if_pos rfl, slotV, if_neg (fun h => hl h.2.1)]
  · have h2 : cellV it bk i = -1 := by omega
    rw [h2, wiV, if_pos rfl, slotV, if_neg (fun h => hi h.1)]
theorem row_le {s f m k n : Int} (hs : 0 ≤ s ∧ s ≤ 100) (hm : m ≤ 20) (hk : 0 ≤ k ∧ k ≤ 40) : -1 ≤ rowV s f m k n ∧ rowV s f m k n ≤ 1000 := by
  unfold rowV
  by_cases h : n < f ∨ m ≤ n - f
  · rw [if_pos h]; omega
  · have := mul_le (a := n - f) (b := k) (p := 20) (q := 40) (by omega) hk
    rw [if_neg h]; omega

set_option maxRecDepth 100000 in
set_option maxHeartbeats 4000000 in
theorem cell_any (x0 x1 x2 x3 x4 x5 x6 x7 : Int) (b : Bool) (x9 x10 x11 : Int) (ok : CfOk x0 x1 x2 x3 x4 x5 x6 x7 b x9 x10 x11) (n : Int) (hn : I64 n) (w : World) : Calls Try.prog 14 #[.agg #[.int .i64 x0, .int .i64 x1, .int .i64 x2, .int .i64 x3, .int .i64 x4, .int .i64 x5, .int .i64 x6, .int .i64 x7, .bool b, .int .i64 x9, .int .i64 x10, .int .i64 x11], .int .i64 n] w (IntPost (cellV x1 (bkV x3 x4 x5) n) w) := by
  have hB : Below w.heap.size w (w.alloc (.cells #[.int .i64 x0, .int .i64 x1, .int .i64 x2, .int .i64 x3, .int .i64 x4, .int .i64 x5, .int .i64 x6, .int .i64 x7, .bool b, .int .i64 x9, .int .i64 x10, .int .i64 x11] 23)) := (Below.refl _ _).alloc (Nat.le_refl _) _
  have h1 := bk_le ok.h3 ok.h4 ok.h5
  have h2 := mul_le (a := x1) (b := bkV x3 x4 x5) ⟨by have := ok.h1; omega, ok.h1.2⟩ ⟨by omega, h1.2⟩
  have K1 := hide (items_any x0 x1 x2 x3 x4 x5 x6 x7 b x9 x10 x11 ok)
  have K2 := hide (fun a b c d (v : World) => row1_any a b c d (0) 0 (x1) (bkV x3 x4 x5) n (by omega) (by have := ok.h0; have := ok.h1; omega) (by omega) (by omega) hn v)
  rw [cell_eq] at K2
  obtain ⟨r, hr⟩ : ∃ r, cellV x1 (bkV x3 x4 x5) n = r := ⟨_, rfl⟩
  rw [hr] at K2 ⊢
  clear hr h1 h2 ok hn
  go_enter Try.func14, Try.ntmps14
  go_wp2_with fail
  refine (K1.out _).mono ?_
  rintro x v ⟨a, b, c, d, rfl, hp, hv⟩
  replace hB := below_next hB hB.size hv
  clear hv
  go_wp2_with fail
  refine (K2.out a b c d v hp).mono ?_
  rintro x v' ⟨rfl, rfl⟩
  go_wp2
  go_ret
  exact ⟨rfl, hB⟩

set_option maxRecDepth 100000 in
set_option maxHeartbeats 4000000 in
theorem line_any (x0 x1 x2 x3 x4 x5 x6 x7 : Int) (b : Bool) (x9 x10 x11 : Int) (ok : CfOk x0 x1 x2 x3 x4 x5 x6 x7 b x9 x10 x11) (n : Int) (hn : I64 n) (w : World) : Calls Try.prog 20 #[.agg #[.int .i64 x0, .int .i64 x1, .int .i64 x2, .int .i64 x3, .int .i64 x4, .int .i64 x5, .int .i64 x6, .int .i64 x7, .bool b, .int .i64 x9, .int .i64 x10, .int .i64 x11], .int .i64 n] w (IntPost (lineV x1 (bkV x3 x4 x5) x0 n) w) := by
  have hB : Below w.heap.size w (w.alloc (.cells #[.int .i64 x0, .int .i64 x1, .int .i64 x2, .int .i64 x3, .int .i64 x4, .int .i64 x5, .int .i64 x6, .int .i64 x7, .bool b, .int .i64 x9, .int .i64 x10, .int .i64 x11] 23)) := (Below.refl _ _).alloc (Nat.le_refl _) _
  have h1 := bk_le ok.h3 ok.h4 ok.h5
  have h2 := mul_le (a := x1) (b := bkV x3 x4 x5) ⟨by have := ok.h1; omega, ok.h1.2⟩ ⟨by omega, h1.2⟩
  have K1 := hide (lines_any x0 x1 x2 x3 x4 x5 x6 x7 b x9 x10 x11 ok)
  have K2 := hide (fun a b c d (v : World) => row1_any a b c d (x1 * bkV x3 x4 x5) 0 (x0) (2) n (by omega) (by have := ok.h0; have := ok.h1; omega) (by omega) (by omega) hn v)
  rw [line_eq] at K2
  obtain ⟨r, hr⟩ : ∃ r, lineV x1 (bkV x3 x4 x5) x0 n = r := ⟨_, rfl⟩
  rw [hr] at K2 ⊢
  clear hr h1 h2 ok hn
  go_enter Try.func20, Try.ntmps20
  go_wp2_with fail
  refine (K1.out _).mono ?_
  rintro x v ⟨a, b, c, d, rfl, hp, hv⟩
  replace hB := below_next hB hB.size hv
  clear hv
  go_wp2_with fail
  refine (K2.out a b c d v hp).mono ?_
  rintro x v' ⟨rfl, rfl⟩
  go_wp2
  go_ret
  exact ⟨rfl, hB⟩

set_option maxRecDepth 100000 in
set_option maxHeartbeats 4000000 in
theorem result_any (x0 x1 x2 x3 x4 x5 x6 x7 : Int) (b : Bool) (x9 x10 x11 : Int) (ok : CfOk x0 x1 x2 x3 x4 x5 x6 x7 b x9 x10 x11) (n : Int) (hn : I64 n) (w : World) : Calls Try.prog 22 #[.agg #[.int .i64 x0, .int .i64 x1, .int .i64 x2, .int .i64 x3, .int .i64 x4, .int .i64 x5, .int .i64 x6, .int .i64 x7, .bool b, .int .i64 x9, .int .i64 x10, .int .i64 x11], .int .i64 n] w (IntPost (resV x1 (bkV x3 x4 x5) x0 n) w) := by
  have hB : Below w.heap.size w (w.alloc (.cells #[.int .i64 x0, .int .i64 x1, .int .i64 x2, .int .i64 x3, .int .i64 x4, .int .i64 x5, .int .i64 x6, .int .i64 x7, .bool b, .int .i64 x9, .int .i64 x10, .int .i64 x11] 23)) := (Below.refl _ _).alloc (Nat.le_refl _) _
  have h1 := bk_le ok.h3 ok.h4 ok.h5
  have h2 := mul_le (a := x1) (b := bkV x3 x4 x5) ⟨by have := ok.h1; omega, ok.h1.2⟩ ⟨by omega, h1.2⟩
  have K1 := hide (results_any x0 x1 x2 x3 x4 x5 x6 x7 b x9 x10 x11 ok)
  have K2 := hide (fun a b c d (v : World) => row1_any a b c d (x1 * bkV x3 x4 x5 + 1) 0 (x0) (2) n (by omega) (by have := ok.h0; have := ok.h1; omega) (by omega) (by omega) hn v)
  rw [res_eq] at K2
  obtain ⟨r, hr⟩ : ∃ r, resV x1 (bkV x3 x4 x5) x0 n = r := ⟨_, rfl⟩
  rw [hr] at K2 ⊢
  clear hr h1 h2 ok hn
  go_enter Try.func22, Try.ntmps22
  go_wp2_with fail
  refine (K1.out _).mono ?_
  rintro x v ⟨a, b, c, d, rfl, hp, hv⟩
  replace hB := below_next hB hB.size hv
  clear hv
  go_wp2_with fail
  refine (K2.out a b c d v hp).mono ?_
  rintro x v' ⟨rfl, rfl⟩
  go_wp2
  go_ret
  exact ⟨rfl, hB⟩

end Go.Proofs.Ytlmnanlclialhaa
