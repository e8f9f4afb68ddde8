/- The walk of ConfigBounds. -/
import Derived.Test.YtcnmgojllgepbaaW5Math
import Derived.Lib.QuietBelow
import Derived.Deep.QuietTactic
namespace Go.Proofs.Ytcnmgojllgepbaa
open Go.RowKit Go.Sort
set_option linter.unusedVariables false

set_option maxRecDepth 100000 in
set_option maxHeartbeats 4000000 in
theorem walkBounds (x0 x1 x2 x3 x4 x5 x6 x7 : Int) (b : Bool) (x9 x10 x11 : Int) (lo hi : Int) (w : World) : Calls Try.prog 5 #[.agg #[.int .i64 x0, .int .i64 x1, .int .i64 x2, .int .i64 x3, .int .i64 x4, .int .i64 x5, .int .i64 x6, .int .i64 x7, .bool b, .int .i64 x9, .int .i64 x10, .int .i64 x11], .int .i64 lo, .int .i64 hi] w (BoolPost true w) := by
  have hB : Below w.heap.size w (w.alloc (.cells #[.int .i64 x0, .int .i64 x1, .int .i64 x2, .int .i64 x3, .int .i64 x4, .int .i64 x5, .int .i64 x6, .int .i64 x7, .bool false, .int .i64 x9, .int .i64 x10, .int .i64 x11] 23)) := (Below.refl _ w).alloc (Nat.le_refl _) _
  have q0 : (w.alloc (.cells #[.int .i64 x0, .int .i64 x1, .int .i64 x2, .int .i64 x3, .int .i64 x4, .int .i64 x5, .int .i64 x6, .int .i64 x7, .bool false, .int .i64 x9, .int .i64 x10, .int .i64 x11] 23)).cell? ⟨w.heap.size, 0, none⟩ = some (.int .i64 x0) := by simp [go_sem]
  have q1 : (w.alloc (.cells #[.int .i64 x0, .int .i64 x1, .int .i64 x2, .int .i64 x3, .int .i64 x4, .int .i64 x5, .int .i64 x6, .int .i64 x7, .bool false, .int .i64 x9, .int .i64 x10, .int .i64 x11] 23)).cell? ⟨w.heap.size, 1, none⟩ = some (.int .i64 x1) := by simp [go_sem]
  have q2 : (w.alloc (.cells #[.int .i64 x0, .int .i64 x1, .int .i64 x2, .int .i64 x3, .int .i64 x4, .int .i64 x5, .int .i64 x6, .int .i64 x7, .bool false, .int .i64 x9, .int .i64 x10, .int .i64 x11] 23)).cell? ⟨w.heap.size, 2, none⟩ = some (.int .i64 x2) := by simp [go_sem]
  have q3 : (w.alloc (.cells #[.int .i64 x0, .int .i64 x1, .int .i64 x2, .int .i64 x3, .int .i64 x4, .int .i64 x5, .int .i64 x6, .int .i64 x7, .bool false, .int .i64 x9, .int .i64 x10, .int .i64 x11] 23)).cell? ⟨w.heap.size, 3, none⟩ = some (.int .i64 x3) := by simp [go_sem]
  have q4 : (w.alloc (.cells #[.int .i64 x0, .int .i64 x1, .int .i64 x2, .int .i64 x3, .int .i64 x4, .int .i64 x5, .int .i64 x6, .int .i64 x7, .bool false, .int .i64 x9, .int .i64 x10, .int .i64 x11] 23)).cell? ⟨w.heap.size, 4, none⟩ = some (.int .i64 x4) := by simp [go_sem]
  have q5 : (w.alloc (.cells #[.int .i64 x0, .int .i64 x1, .int .i64 x2, .int .i64 x3, .int .i64 x4, .int .i64 x5, .int .i64 x6, .int .i64 x7, .bool false, .int .i64 x9, .int .i64 x10, .int .i64 x11] 23)).cell? ⟨w.heap.size, 5, none⟩ = some (.int .i64 x5) := by simp [go_sem]
  have q6 : (w.alloc (.cells #[.int .i64 x0, .int .i64 x1, .int .i64 x2, .int .i64 x3, .int .i64 x4, .int .i64 x5, .int .i64 x6, .int .i64 x7, .bool false, .int .i64 x9, .int .i64 x10, .int .i64 x11] 23)).cell? ⟨w.heap.size, 6, none⟩ = some (.int .i64 x6) := by simp [go_sem]
  have q7 : (w.alloc (.cells #[.int .i64 x0, .int .i64 x1, .int .i64 x2, .int .i64 x3, .int .i64 x4, .int .i64 x5, .int .i64 x6, .int .i64 x7, .bool false, .int .i64 x9, .int .i64 x10, .int .i64 x11] 23)).cell? ⟨w.heap.size, 7, none⟩ = some (.int .i64 x7) := by simp [go_sem]
  have q8 : (w.alloc (.cells #[.int .i64 x0, .int .i64 x1, .int .i64 x2, .int .i64 x3, .int .i64 x4, .int .i64 x5, .int .i64 x6, .int .i64 x7, .bool false, .int .i64 x9, .int .i64 x10, .int .i64 x11] 23)).cell? ⟨w.heap.size, 8, none⟩ = some (.bool false) := by simp [go_sem]
  have q9 : (w.alloc (.cells #[.int .i64 x0, .int .i64 x1, .int .i64 x2, .int .i64 x3, .int .i64 x4, .int .i64 x5, .int .i64 x6, .int .i64 x7, .bool false, .int .i64 x9, .int .i64 x10, .int .i64 x11] 23)).cell? ⟨w.heap.size, 9, none⟩ = some (.int .i64 x9) := by simp [go_sem]
  have q10 : (w.alloc (.cells #[.int .i64 x0, .int .i64 x1, .int .i64 x2, .int .i64 x3, .int .i64 x4, .int .i64 x5, .int .i64 x6, .int .i64 x7, .bool false, .int .i64 x9, .int .i64 x10, .int .i64 x11] 23)).cell? ⟨w.heap.size, 10, none⟩ = some (.int .i64 x10) := by simp [go_sem]
  have q11 : (w.alloc (.cells #[.int .i64 x0, .int .i64 x1, .int .i64 x2, .int .i64 x3, .int .i64 x4, .int .i64 x5, .int .i64 x6, .int .i64 x7, .bool false, .int .i64 x9, .int .i64 x10, .int .i64 x11] 23)).cell? ⟨w.heap.size, 11, none⟩ = some (.int .i64 x11) := by simp [go_sem]
  have zq9 : (w.alloc (.cells #[.int .i64 x0, .int .i64 x1, .int .i64 x2, .int .i64 x3, .int .i64 x4, .int .i64 x5, .int .i64 x6, .int .i64 x7, .bool false, .int .i64 x9, .int .i64 x10, .int .i64 x11] 23)).frozen? ⟨w.heap.size, 9, none⟩ = false := by simp [go_sem]
  have zq10 : (w.alloc (.cells #[.int .i64 x0, .int .i64 x1, .int .i64 x2, .int .i64 x3, .int .i64 x4, .int .i64 x5, .int .i64 x6, .int .i64 x7, .bool false, .int .i64 x9, .int .i64 x10, .int .i64 x11] 23)).frozen? ⟨w.heap.size, 10, none⟩ = false := by simp [go_sem]
  have zq11 : (w.alloc (.cells #[.int .i64 x0, .int .i64 x1, .int .i64 x2, .int .i64 x3, .int .i64 x4, .int .i64 x5, .int .i64 x6, .int .i64 x7, .bool false, .int .i64 x9, .int .i64 x10, .int .i64 x11] 23)).frozen? ⟨w.heap.size, 11, none⟩ = false := by simp [go_sem]
  obtain ⟨e, he⟩ : ∃ e, ckV x0 x1 x2 x3 x4 x5 x6 x7 false x9 x10 x11 = e := ⟨_, rfl⟩
  have KC := hide (check_any x0 x1 x2 x3 x4 x5 x6 x7 false x9 x10 x11)
  have KR := hide (rcheck_any x0 x1 x2 x3 x4 x5 x6 x7 false x9 x10 x11)
  rw [he] at KC KR
  have HO := hide (ck_ok x0 x1 x2 x3 x4 x5 x6 x7 false x9 x10 x11)
  rw [he] at HO
  clear he
  by_cases h0 : e = 0
  · subst h0
    have OK := hide (HO.out.1 rfl)
    clear HO
    have KA := hide (check_any x0 x1 x2 x3 x4 x5 x6 x7 false lo hi lo)
    have KD := hide (check_any x0 x1 x2 x3 x4 x5 x6 x7 true lo hi lo)
    have KE := hide (check_any x0 x1 x2 x3 x4 x5 x6 x7 true lo hi hi)
    rw [ck_bounds x0 x1 x2 x3 x4 x5 x6 x7 false x9 x10 x11 OK.out false lo hi lo] at KA
    rw [ck_bounds x0 x1 x2 x3 x4 x5 x6 x7 false x9 x10 x11 OK.out true lo hi lo] at KD
    rw [ck_bounds x0 x1 x2 x3 x4 x5 x6 x7 false x9 x10 x11 OK.out true lo hi hi] at KE
    clear OK
    rw [show (if false = true ∧ (lo < lo ∨ hi < lo) then 58 else 0 : Int) = 0 by simp] at KA
    obtain ⟨v, hv, hw⟩ : ∃ v : Int, (if true = true ∧ (lo < lo ∨ hi < lo) then 58 else 0 : Int) = v ∧ (if true = true ∧ (hi < lo ∨ hi < hi) then 58 else 0 : Int) = v := ⟨if hi < lo then 58 else 0, by simp [Int.lt_irrefl], by simp [Int.lt_irrefl]⟩
    rw [hv] at KD
    rw [hw] at KE
    clear hw
    have hv' : (hi < lo ∧ v = 58) ∨ (lo ≤ hi ∧ v = 0) := by rw [← hv]; rcases Int.lt_or_le hi lo with h | h <;> simp [Int.lt_irrefl, h] <;> omega
    clear hv
    go_enter Try.func5, Try.ntmps5
    go_wp2_with fail
    refine (KC.out _).mono ?_
    rintro x w1 ⟨rfl, hb⟩
    replace zq9 := frozen_keep hb (World.block_lt_of_cell? _ _ q9) zq9
    replace zq10 := frozen_keep hb (World.block_lt_of_cell? _ _ q10) zq10
    replace zq11 := frozen_keep hb (World.block_lt_of_cell? _ _ q11) zq11
    replace q0 := cell_keep q0 hb
    replace q1 := cell_keep q1 hb
    replace q2 := cell_keep q2 hb
    replace q3 := cell_keep q3 hb
    replace q4 := cell_keep q4 hb
    replace q5 := cell_keep q5 hb
    replace q6 := cell_keep q6 hb
    replace q7 := cell_keep q7 hb
    replace q8 := cell_keep q8 hb
    replace q9 := cell_keep q9 hb
    replace q10 := cell_keep q10 hb
    replace q11 := cell_keep q11 hb
    replace hB := below_next hB hB.size hb
    clear hb
    go_wp2_with fail
    refine (KR.out _).mono ?_
    rintro x w2 ⟨rfl, hb⟩
    replace zq9 := frozen_keep hb (World.block_lt_of_cell? _ _ q9) zq9
    replace zq10 := frozen_keep hb (World.block_lt_of_cell? _ _ q10) zq10
    replace zq11 := frozen_keep hb (World.block_lt_of_cell? _ _ q11) zq11
    replace q0 := cell_keep q0 hb
    replace q1 := cell_keep q1 hb
    replace q2 := cell_keep q2 hb
    replace q3 := cell_keep q3 hb
    replace q4 := cell_keep q4 hb
    replace q5 := cell_keep q5 hb
    replace q6 := cell_keep q6 hb
    replace q7 := cell_keep q7 hb
    replace q8 := cell_keep q8 hb
    replace q9 := cell_keep q9 hb
    replace q10 := cell_keep q10 hb
    replace q11 := cell_keep q11 hb
    replace hB := below_next hB hB.size hb
    clear hb
    go_wp2_with fail
    refine (shown5_any _).mono ?_
    rintro x w3 ⟨rfl, hb⟩
    replace zq9 := frozen_keep hb (World.block_lt_of_cell? _ _ q9) zq9
    replace zq10 := frozen_keep hb (World.block_lt_of_cell? _ _ q10) zq10
    replace zq11 := frozen_keep hb (World.block_lt_of_cell? _ _ q11) zq11
    replace q0 := cell_keep q0 hb
    replace q1 := cell_keep q1 hb
    replace q2 := cell_keep q2 hb
    replace q3 := cell_keep q3 hb
    replace q4 := cell_keep q4 hb
    replace q5 := cell_keep q5 hb
    replace q6 := cell_keep q6 hb
    replace q7 := cell_keep q7 hb
    replace q8 := cell_keep q8 hb
    replace q9 := cell_keep q9 hb
    replace q10 := cell_keep q10 hb
    replace q11 := cell_keep q11 hb
    replace hB := below_next hB hB.size hb
    clear hb
    clear KC KR
    have ps0_0 : (w3.setCell ⟨w.heap.size, 9, none⟩ (.int .i64 lo)).cell? ⟨w.heap.size, 0, none⟩ = some (.int .i64 x0) := (World.cell?_setCell_other _ _ _ _ (by simp)).trans q0
    have ps0_1 : (w3.setCell ⟨w.heap.size, 9, none⟩ (.int .i64 lo)).cell? ⟨w.heap.size, 1, none⟩ = some (.int .i64 x1) := (World.cell?_setCell_other _ _ _ _ (by simp)).trans q1
    have ps0_2 : (w3.setCell ⟨w.heap.size, 9, none⟩ (.int .i64 lo)).cell? ⟨w.heap.size, 2, none⟩ = some (.int .i64 x2) := (World.cell?_setCell_other _ _ _ _ (by simp)).trans q2
    have ps0_3 : (w3.setCell ⟨w.heap.size, 9, none⟩ (.int .i64 lo)).cell? ⟨w.heap.size, 3, none⟩ = some (.int .i64 x3) := (World.cell?_setCell_other _ _ _ _ (by simp)).trans q3
    have ps0_4 : (w3.setCell ⟨w.heap.size, 9, none⟩ (.int .i64 lo)).cell? ⟨w.heap.size, 4, none⟩ = some (.int .i64 x4) := (World.cell?_setCell_other _ _ _ _ (by simp)).trans q4
    have ps0_5 : (w3.setCell ⟨w.heap.size, 9, none⟩ (.int .i64 lo)).cell? ⟨w.heap.size, 5, none⟩ = some (.int .i64 x5) := (World.cell?_setCell_other _ _ _ _ (by simp)).trans q5
    have ps0_6 : (w3.setCell ⟨w.heap.size, 9, none⟩ (.int .i64 lo)).cell? ⟨w.heap.size, 6, none⟩ = some (.int .i64 x6) := (World.cell?_setCell_other _ _ _ _ (by simp)).trans q6
    have ps0_7 : (w3.setCell ⟨w.heap.size, 9, none⟩ (.int .i64 lo)).cell? ⟨w.heap.size, 7, none⟩ = some (.int .i64 x7) := (World.cell?_setCell_other _ _ _ _ (by simp)).trans q7
    have ps0_8 : (w3.setCell ⟨w.heap.size, 9, none⟩ (.int .i64 lo)).cell? ⟨w.heap.size, 8, none⟩ = some (.bool false) := (World.cell?_setCell_other _ _ _ _ (by simp)).trans q8
    have ps0_9 : (w3.setCell ⟨w.heap.size, 9, none⟩ (.int .i64 lo)).cell? ⟨w.heap.size, 9, none⟩ = some (.int .i64 lo) := World.cell?_setCell_same _ _ _ q9
    have ps0_10 : (w3.setCell ⟨w.heap.size, 9, none⟩ (.int .i64 lo)).cell? ⟨w.heap.size, 10, none⟩ = some (.int .i64 x10) := (World.cell?_setCell_other _ _ _ _ (by simp)).trans q10
    have ps0_11 : (w3.setCell ⟨w.heap.size, 9, none⟩ (.int .i64 lo)).cell? ⟨w.heap.size, 11, none⟩ = some (.int .i64 x11) := (World.cell?_setCell_other _ _ _ _ (by simp)).trans q11
    replace hB := hB.setCell (p := ⟨w.heap.size, 9, none⟩) (Nat.le_refl _) (.int .i64 lo)
    have ps1_0 : ((w3.setCell ⟨w.heap.size, 9, none⟩ (.int .i64 lo)).setCell ⟨w.heap.size, 10, none⟩ (.int .i64 hi)).cell? ⟨w.heap.size, 0, none⟩ = some (.int .i64 x0) := (World.cell?_setCell_other _ _ _ _ (by simp)).trans ps0_0
    have ps1_1 : ((w3.setCell ⟨w.heap.size, 9, none⟩ (.int .i64 lo)).setCell ⟨w.heap.size, 10, none⟩ (.int .i64 hi)).cell? ⟨w.heap.size, 1, none⟩ = some (.int .i64 x1) := (World.cell?_setCell_other _ _ _ _ (by simp)).trans ps0_1
    have ps1_2 : ((w3.setCell ⟨w.heap.size, 9, none⟩ (.int .i64 lo)).setCell ⟨w.heap.size, 10, none⟩ (.int .i64 hi)).cell? ⟨w.heap.size, 2, none⟩ = some (.int .i64 x2) := (World.cell?_setCell_other _ _ _ _ (by simp)).trans ps0_2
    have ps1_3 : ((w3.setCell ⟨w.heap.size, 9, none⟩ (.int .i64 lo)).setCell ⟨w.heap.size, 10, none⟩ (.int .i64 hi)).cell? ⟨w.heap.size, 3, none⟩ = some (.int .i64 x3) := (World.cell?_setCell_other _ _ _ _ (by simp)).trans ps0_3
    have ps1_4 : ((w3.setCell ⟨w.heap.size, 9, none⟩ (.int .i64 lo)).setCell ⟨w.heap.size, 10, none⟩ (.int .i64 hi)).cell? ⟨w.heap.size, 4, none⟩ = some (.int .i64 x4) := (World.cell?_setCell_other _ _ _ _ (by simp)).trans ps0_4
    have ps1_5 : ((w3.setCell ⟨w.heap.size, 9, none⟩ (.int .i64 lo)).setCell ⟨w.heap.size, 10, none⟩ (.int .i64 hi)).cell? ⟨w.heap.size, 5, none⟩ = some (.int .i64 x5) := (World.cell?_setCell_other _ _ _ _ (by simp)).trans ps0_5
    have ps1_6 : ((w3.setCell ⟨w.heap.size, 9, none⟩ (.int .i64 lo)).setCell ⟨w.heap.size, 10, none⟩ (.int .i64 hi)).cell? ⟨w.heap.size, 6, none⟩ = some (.int .i64 x6) := (World.cell?_setCell_other _ _ _ _ (by simp)).trans ps0_6
    have ps1_7 : ((w3.setCell ⟨w.heap.size, 9, none⟩ (.int .i64 lo)).setCell ⟨w.heap.size, 10, none⟩ (.int .i64 hi)).cell? ⟨w.heap.size, 7, none⟩ = some (.int .i64 x7) := (World.cell?_setCell_other _ _ _ _ (by simp)).trans ps0_7
    have ps1_8 : ((w3.setCell ⟨w.heap.size, 9, none⟩ (.int .i64 lo)).setCell ⟨w.heap.size, 10, none⟩ (.int .i64 hi)).cell? ⟨w.heap.size, 8, none⟩ = some (.bool false) := (World.cell?_setCell_other _ _ _ _ (by simp)).trans ps0_8
    have ps1_9 : ((w3.setCell ⟨w.heap.size, 9, none⟩ (.int .i64 lo)).setCell ⟨w.heap.size, 10, none⟩ (.int .i64 hi)).cell? ⟨w.heap.size, 9, none⟩ = some (.int .i64 lo) := (World.cell?_setCell_other _ _ _ _ (by simp)).trans ps0_9
    have ps1_10 : ((w3.setCell ⟨w.heap.size, 9, none⟩ (.int .i64 lo)).setCell ⟨w.heap.size, 10, none⟩ (.int .i64 hi)).cell? ⟨w.heap.size, 10, none⟩ = some (.int .i64 hi) := World.cell?_setCell_same _ _ _ ps0_10
    have ps1_11 : ((w3.setCell ⟨w.heap.size, 9, none⟩ (.int .i64 lo)).setCell ⟨w.heap.size, 10, none⟩ (.int .i64 hi)).cell? ⟨w.heap.size, 11, none⟩ = some (.int .i64 x11) := (World.cell?_setCell_other _ _ _ _ (by simp)).trans ps0_11
    clear ps0_0 ps0_1 ps0_2 ps0_3 ps0_4 ps0_5 ps0_6 ps0_7 ps0_8 ps0_9 ps0_10 ps0_11
    replace hB := hB.setCell (p := ⟨w.heap.size, 10, none⟩) (Nat.le_refl _) (.int .i64 hi)
    have p0 : (((w3.setCell ⟨w.heap.size, 9, none⟩ (.int .i64 lo)).setCell ⟨w.heap.size, 10, none⟩ (.int .i64 hi)).setCell ⟨w.heap.size, 11, none⟩ (.int .i64 lo)).cell? ⟨w.heap.size, 0, none⟩ = some (.int .i64 x0) := (World.cell?_setCell_other _ _ _ _ (by simp)).trans ps1_0
    have p1 : (((w3.setCell ⟨w.heap.size, 9, none⟩ (.int .i64 lo)).setCell ⟨w.heap.size, 10, none⟩ (.int .i64 hi)).setCell ⟨w.heap.size, 11, none⟩ (.int .i64 lo)).cell? ⟨w.heap.size, 1, none⟩ = some (.int .i64 x1) := (World.cell?_setCell_other _ _ _ _ (by simp)).trans ps1_1
    have p2 : (((w3.setCell ⟨w.heap.size, 9, none⟩ (.int .i64 lo)).setCell ⟨w.heap.size, 10, none⟩ (.int .i64 hi)).setCell ⟨w.heap.size, 11, none⟩ (.int .i64 lo)).cell? ⟨w.heap.size, 2, none⟩ = some (.int .i64 x2) := (World.cell?_setCell_other _ _ _ _ (by simp)).trans ps1_2
    have p3 : (((w3.setCell ⟨w.heap.size, 9, none⟩ (.int .i64 lo)).setCell ⟨w.heap.size, 10, none⟩ (.int .i64 hi)).setCell ⟨w.heap.size, 11, none⟩ (.int .i64 lo)).cell? ⟨w.heap.size, 3, none⟩ = some (.int .i64 x3) := (World.cell?_setCell_other _ _ _ _ (by simp)).trans ps1_3
    have p4 : (((w3.setCell ⟨w.heap.size, 9, none⟩ (.int .i64 lo)).setCell ⟨w.heap.size, 10, none⟩ (.int .i64 hi)).setCell ⟨w.heap.size, 11, none⟩ (.int .i64 lo)).cell? ⟨w.heap.size, 4, none⟩ = some (.int .i64 x4) := (World.cell?_setCell_other _ _ _ _ (by simp)).trans ps1_4
    have p5 : (((w3.setCell ⟨w.heap.size, 9, none⟩ (.int .i64 lo)).setCell ⟨w.heap.size, 10, none⟩ (.int .i64 hi)).setCell ⟨w.heap.size, 11, none⟩ (.int .i64 lo)).cell? ⟨w.heap.size, 5, none⟩ = some (.int .i64 x5) := (World.cell?_setCell_other _ _ _ _ (by simp)).trans ps1_5
    have p6 : (((w3.setCell ⟨w.heap.size, 9, none⟩ (.int .i64 lo)).setCell ⟨w.heap.size, 10, none⟩ (.int .i64 hi)).setCell ⟨w.heap.size, 11, none⟩ (.int .i64 lo)).cell? ⟨w.heap.size, 6, none⟩ = some (.int .i64 x6) := (World.cell?_setCell_other _ _ _ _ (by simp)).trans ps1_6
    have p7 : (((w3.setCell ⟨w.heap.size, 9, none⟩ (.int .i64 lo)).setCell ⟨w.heap.size, 10, none⟩ (.int .i64 hi)).setCell ⟨w.heap.size, 11, none⟩ (.int .i64 lo)).cell? ⟨w.heap.size, 7, none⟩ = some (.int .i64 x7) := (World.cell?_setCell_other _ _ _ _ (by simp)).trans ps1_7
    have p8 : (((w3.setCell ⟨w.heap.size, 9, none⟩ (.int .i64 lo)).setCell ⟨w.heap.size, 10, none⟩ (.int .i64 hi)).setCell ⟨w.heap.size, 11, none⟩ (.int .i64 lo)).cell? ⟨w.heap.size, 8, none⟩ = some (.bool false) := (World.cell?_setCell_other _ _ _ _ (by simp)).trans ps1_8
    have p9 : (((w3.setCell ⟨w.heap.size, 9, none⟩ (.int .i64 lo)).setCell ⟨w.heap.size, 10, none⟩ (.int .i64 hi)).setCell ⟨w.heap.size, 11, none⟩ (.int .i64 lo)).cell? ⟨w.heap.size, 9, none⟩ = some (.int .i64 lo) := (World.cell?_setCell_other _ _ _ _ (by simp)).trans ps1_9
    have p10 : (((w3.setCell ⟨w.heap.size, 9, none⟩ (.int .i64 lo)).setCell ⟨w.heap.size, 10, none⟩ (.int .i64 hi)).setCell ⟨w.heap.size, 11, none⟩ (.int .i64 lo)).cell? ⟨w.heap.size, 10, none⟩ = some (.int .i64 hi) := (World.cell?_setCell_other _ _ _ _ (by simp)).trans ps1_10
    have p11 : (((w3.setCell ⟨w.heap.size, 9, none⟩ (.int .i64 lo)).setCell ⟨w.heap.size, 10, none⟩ (.int .i64 hi)).setCell ⟨w.heap.size, 11, none⟩ (.int .i64 lo)).cell? ⟨w.heap.size, 11, none⟩ = some (.int .i64 lo) := World.cell?_setCell_same _ _ _ ps1_11
    clear ps1_0 ps1_1 ps1_2 ps1_3 ps1_4 ps1_5 ps1_6 ps1_7 ps1_8 ps1_9 ps1_10 ps1_11
    replace hB := hB.setCell (p := ⟨w.heap.size, 11, none⟩) (Nat.le_refl _) (.int .i64 lo)
    have hb : Below (((w3.setCell ⟨w.heap.size, 9, none⟩ (.int .i64 lo)).setCell ⟨w.heap.size, 10, none⟩ (.int .i64 hi)).setCell ⟨w.heap.size, 11, none⟩ (.int .i64 lo)).heap.size (((w3.setCell ⟨w.heap.size, 9, none⟩ (.int .i64 lo)).setCell ⟨w.heap.size, 10, none⟩ (.int .i64 hi)).setCell ⟨w.heap.size, 11, none⟩ (.int .i64 lo)) ((((w3.setCell ⟨w.heap.size, 9, none⟩ (.int .i64 lo)).setCell ⟨w.heap.size, 10, none⟩ (.int .i64 hi)).setCell ⟨w.heap.size, 11, none⟩ (.int .i64 lo)).alloc (.cells #[.int .i64 x0, .int .i64 x1, .int .i64 x2, .int .i64 x3, .int .i64 x4, .int .i64 x5, .int .i64 x6, .int .i64 x7, .bool true, .int .i64 lo, .int .i64 hi, .int .i64 lo] 23)) := (Below.refl _ _).alloc (Nat.le_refl _) _
    replace p0 := cell_keep p0 hb
    replace p1 := cell_keep p1 hb
    replace p2 := cell_keep p2 hb
    replace p3 := cell_keep p3 hb
    replace p4 := cell_keep p4 hb
    replace p5 := cell_keep p5 hb
    replace p6 := cell_keep p6 hb
    replace p7 := cell_keep p7 hb
    replace p8 := cell_keep p8 hb
    replace p9 := cell_keep p9 hb
    replace p10 := cell_keep p10 hb
    replace p11 := cell_keep p11 hb
    replace hB := below_next hB hB.size hb
    clear hb
    have d0 : ((((w3.setCell ⟨w.heap.size, 9, none⟩ (.int .i64 lo)).setCell ⟨w.heap.size, 10, none⟩ (.int .i64 hi)).setCell ⟨w.heap.size, 11, none⟩ (.int .i64 lo)).alloc (.cells #[.int .i64 x0, .int .i64 x1, .int .i64 x2, .int .i64 x3, .int .i64 x4, .int .i64 x5, .int .i64 x6, .int .i64 x7, .bool true, .int .i64 lo, .int .i64 hi, .int .i64 lo] 23)).cell? ⟨w3.heap.size, 0, none⟩ = some (.int .i64 x0) := by simp [go_sem]
    have d1 : ((((w3.setCell ⟨w.heap.size, 9, none⟩ (.int .i64 lo)).setCell ⟨w.heap.size, 10, none⟩ (.int .i64 hi)).setCell ⟨w.heap.size, 11, none⟩ (.int .i64 lo)).alloc (.cells #[.int .i64 x0, .int .i64 x1, .int .i64 x2, .int .i64 x3, .int .i64 x4, .int .i64 x5, .int .i64 x6, .int .i64 x7, .bool true, .int .i64 lo, .int .i64 hi, .int .i64 lo] 23)).cell? ⟨w3.heap.size, 1, none⟩ = some (.int .i64 x1) := by simp [go_sem]
    have d2 : ((((w3.setCell ⟨w.heap.size, 9, none⟩ (.int .i64 lo)).setCell ⟨w.heap.size, 10, none⟩ (.int .i64 hi)).setCell ⟨w.heap.size, 11, none⟩ (.int .i64 lo)).alloc (.cells #[.int .i64 x0, .int .i64 x1, .int .i64 x2, .int .i64 x3, .int .i64 x4, .int .i64 x5, .int .i64 x6, .int .i64 x7, .bool true, .int .i64 lo, .int .i64 hi, .int .i64 lo] 23)).cell? ⟨w3.heap.size, 2, none⟩ = some (.int .i64 x2) := by simp [go_sem]
    have d3 : ((((w3.setCell ⟨w.heap.size, 9, none⟩ (.int .i64 lo)).setCell ⟨w.heap.size, 10, none⟩ (.int .i64 hi)).setCell ⟨w.heap.size, 11, none⟩ (.int .i64 lo)).alloc (.cells #[.int .i64 x0, .int .i64 x1, .int .i64 x2, .int .i64 x3, .int .i64 x4, .int .i64 x5, .int .i64 x6, .int .i64 x7, .bool true, .int .i64 lo, .int .i64 hi, .int .i64 lo] 23)).cell? ⟨w3.heap.size, 3, none⟩ = some (.int .i64 x3) := by simp [go_sem]
    have d4 : ((((w3.setCell ⟨w.heap.size, 9, none⟩ (.int .i64 lo)).setCell ⟨w.heap.size, 10, none⟩ (.int .i64 hi)).setCell ⟨w.heap.size, 11, none⟩ (.int .i64 lo)).alloc (.cells #[.int .i64 x0, .int .i64 x1, .int .i64 x2, .int .i64 x3, .int .i64 x4, .int .i64 x5, .int .i64 x6, .int .i64 x7, .bool true, .int .i64 lo, .int .i64 hi, .int .i64 lo] 23)).cell? ⟨w3.heap.size, 4, none⟩ = some (.int .i64 x4) := by simp [go_sem]
    have d5 : ((((w3.setCell ⟨w.heap.size, 9, none⟩ (.int .i64 lo)).setCell ⟨w.heap.size, 10, none⟩ (.int .i64 hi)).setCell ⟨w.heap.size, 11, none⟩ (.int .i64 lo)).alloc (.cells #[.int .i64 x0, .int .i64 x1, .int .i64 x2, .int .i64 x3, .int .i64 x4, .int .i64 x5, .int .i64 x6, .int .i64 x7, .bool true, .int .i64 lo, .int .i64 hi, .int .i64 lo] 23)).cell? ⟨w3.heap.size, 5, none⟩ = some (.int .i64 x5) := by simp [go_sem]
    have d6 : ((((w3.setCell ⟨w.heap.size, 9, none⟩ (.int .i64 lo)).setCell ⟨w.heap.size, 10, none⟩ (.int .i64 hi)).setCell ⟨w.heap.size, 11, none⟩ (.int .i64 lo)).alloc (.cells #[.int .i64 x0, .int .i64 x1, .int .i64 x2, .int .i64 x3, .int .i64 x4, .int .i64 x5, .int .i64 x6, .int .i64 x7, .bool true, .int .i64 lo, .int .i64 hi, .int .i64 lo] 23)).cell? ⟨w3.heap.size, 6, none⟩ = some (.int .i64 x6) := by simp [go_sem]
    have d7 : ((((w3.setCell ⟨w.heap.size, 9, none⟩ (.int .i64 lo)).setCell ⟨w.heap.size, 10, none⟩ (.int .i64 hi)).setCell ⟨w.heap.size, 11, none⟩ (.int .i64 lo)).alloc (.cells #[.int .i64 x0, .int .i64 x1, .int .i64 x2, .int .i64 x3, .int .i64 x4, .int .i64 x5, .int .i64 x6, .int .i64 x7, .bool true, .int .i64 lo, .int .i64 hi, .int .i64 lo] 23)).cell? ⟨w3.heap.size, 7, none⟩ = some (.int .i64 x7) := by simp [go_sem]
    have d8 : ((((w3.setCell ⟨w.heap.size, 9, none⟩ (.int .i64 lo)).setCell ⟨w.heap.size, 10, none⟩ (.int .i64 hi)).setCell ⟨w.heap.size, 11, none⟩ (.int .i64 lo)).alloc (.cells #[.int .i64 x0, .int .i64 x1, .int .i64 x2, .int .i64 x3, .int .i64 x4, .int .i64 x5, .int .i64 x6, .int .i64 x7, .bool true, .int .i64 lo, .int .i64 hi, .int .i64 lo] 23)).cell? ⟨w3.heap.size, 8, none⟩ = some (.bool true) := by simp [go_sem]
    have d9 : ((((w3.setCell ⟨w.heap.size, 9, none⟩ (.int .i64 lo)).setCell ⟨w.heap.size, 10, none⟩ (.int .i64 hi)).setCell ⟨w.heap.size, 11, none⟩ (.int .i64 lo)).alloc (.cells #[.int .i64 x0, .int .i64 x1, .int .i64 x2, .int .i64 x3, .int .i64 x4, .int .i64 x5, .int .i64 x6, .int .i64 x7, .bool true, .int .i64 lo, .int .i64 hi, .int .i64 lo] 23)).cell? ⟨w3.heap.size, 9, none⟩ = some (.int .i64 lo) := by simp [go_sem]
    have d10 : ((((w3.setCell ⟨w.heap.size, 9, none⟩ (.int .i64 lo)).setCell ⟨w.heap.size, 10, none⟩ (.int .i64 hi)).setCell ⟨w.heap.size, 11, none⟩ (.int .i64 lo)).alloc (.cells #[.int .i64 x0, .int .i64 x1, .int .i64 x2, .int .i64 x3, .int .i64 x4, .int .i64 x5, .int .i64 x6, .int .i64 x7, .bool true, .int .i64 lo, .int .i64 hi, .int .i64 lo] 23)).cell? ⟨w3.heap.size, 10, none⟩ = some (.int .i64 hi) := by simp [go_sem]
    have d11 : ((((w3.setCell ⟨w.heap.size, 9, none⟩ (.int .i64 lo)).setCell ⟨w.heap.size, 10, none⟩ (.int .i64 hi)).setCell ⟨w.heap.size, 11, none⟩ (.int .i64 lo)).alloc (.cells #[.int .i64 x0, .int .i64 x1, .int .i64 x2, .int .i64 x3, .int .i64 x4, .int .i64 x5, .int .i64 x6, .int .i64 x7, .bool true, .int .i64 lo, .int .i64 hi, .int .i64 lo] 23)).cell? ⟨w3.heap.size, 11, none⟩ = some (.int .i64 lo) := by simp [go_sem]
    have hb : Below ((((w3.setCell ⟨w.heap.size, 9, none⟩ (.int .i64 lo)).setCell ⟨w.heap.size, 10, none⟩ (.int .i64 hi)).setCell ⟨w.heap.size, 11, none⟩ (.int .i64 lo)).alloc (.cells #[.int .i64 x0, .int .i64 x1, .int .i64 x2, .int .i64 x3, .int .i64 x4, .int .i64 x5, .int .i64 x6, .int .i64 x7, .bool true, .int .i64 lo, .int .i64 hi, .int .i64 lo] 23)).heap.size ((((w3.setCell ⟨w.heap.size, 9, none⟩ (.int .i64 lo)).setCell ⟨w.heap.size, 10, none⟩ (.int .i64 hi)).setCell ⟨w.heap.size, 11, none⟩ (.int .i64 lo)).alloc (.cells #[.int .i64 x0, .int .i64 x1, .int .i64 x2, .int .i64 x3, .int .i64 x4, .int .i64 x5, .int .i64 x6, .int .i64 x7, .bool true, .int .i64 lo, .int .i64 hi, .int .i64 lo] 23)) (((((w3.setCell ⟨w.heap.size, 9, none⟩ (.int .i64 lo)).setCell ⟨w.heap.size, 10, none⟩ (.int .i64 hi)).setCell ⟨w.heap.size, 11, none⟩ (.int .i64 lo)).alloc (.cells #[.int .i64 x0, .int .i64 x1, .int .i64 x2, .int .i64 x3, .int .i64 x4, .int .i64 x5, .int .i64 x6, .int .i64 x7, .bool true, .int .i64 lo, .int .i64 hi, .int .i64 lo] 23)).alloc (.cells #[.int .i64 x0, .int .i64 x1, .int .i64 x2, .int .i64 x3, .int .i64 x4, .int .i64 x5, .int .i64 x6, .int .i64 x7, .bool true, .int .i64 lo, .int .i64 hi, .int .i64 hi] 23)) := (Below.refl _ _).alloc (Nat.le_refl _) _
    replace p0 := cell_keep p0 hb
    replace p1 := cell_keep p1 hb
    replace p2 := cell_keep p2 hb
    replace p3 := cell_keep p3 hb
    replace p4 := cell_keep p4 hb
    replace p5 := cell_keep p5 hb
    replace p6 := cell_keep p6 hb
    replace p7 := cell_keep p7 hb
    replace p8 := cell_keep p8 hb
    replace p9 := cell_keep p9 hb
    replace p10 := cell_keep p10 hb
    replace p11 := cell_keep p11 hb
    replace d0 := cell_keep d0 hb
    replace d1 := cell_keep d1 hb
    replace d2 := cell_keep d2 hb
    replace d3 := cell_keep d3 hb
    replace d4 := cell_keep d4 hb
    replace d5 := cell_keep d5 hb
    replace d6 := cell_keep d6 hb
    replace d7 := cell_keep d7 hb
    replace d8 := cell_keep d8 hb
    replace d9 := cell_keep d9 hb
    replace d10 := cell_keep d10 hb
    replace d11 := cell_keep d11 hb
    replace hB := below_next hB hB.size hb
    clear hb
    have e0 : (((((w3.setCell ⟨w.heap.size, 9, none⟩ (.int .i64 lo)).setCell ⟨w.heap.size, 10, none⟩ (.int .i64 hi)).setCell ⟨w.heap.size, 11, none⟩ (.int .i64 lo)).alloc (.cells #[.int .i64 x0, .int .i64 x1, .int .i64 x2, .int .i64 x3, .int .i64 x4, .int .i64 x5, .int .i64 x6, .int .i64 x7, .bool true, .int .i64 lo, .int .i64 hi, .int .i64 lo] 23)).alloc (.cells #[.int .i64 x0, .int .i64 x1, .int .i64 x2, .int .i64 x3, .int .i64 x4, .int .i64 x5, .int .i64 x6, .int .i64 x7, .bool true, .int .i64 lo, .int .i64 hi, .int .i64 hi] 23)).cell? ⟨w3.heap.size + 1, 0, none⟩ = some (.int .i64 x0) := by simp [go_sem]
    have e1 : (((((w3.setCell ⟨w.heap.size, 9, none⟩ (.int .i64 lo)).setCell ⟨w.heap.size, 10, none⟩ (.int .i64 hi)).setCell ⟨w.heap.size, 11, none⟩ (.int .i64 lo)).alloc (.cells #[.int .i64 x0, .int .i64 x1, .int .i64 x2, .int .i64 x3, .int .i64 x4, .int .i64 x5, .int .i64 x6, .int .i64 x7, .bool true, .int .i64 lo, .int .i64 hi, .int .i64 lo] 23)).alloc (.cells #[.int .i64 x0, .int .i64 x1, .int .i64 x2, .int .i64 x3, .int .i64 x4, .int .i64 x5, .int .i64 x6, .int .i64 x7, .bool true, .int .i64 lo, .int .i64 hi, .int .i64 hi] 23)).cell? ⟨w3.heap.size + 1, 1, none⟩ = some (.int .i64 x1) := by simp [go_sem]
    have e2 : (((((w3.setCell ⟨w.heap.size, 9, none⟩ (.int .i64 lo)).setCell ⟨w.heap.size, 10, none⟩ (.int .i64 hi)).setCell ⟨w.heap.size, 11, none⟩ (.int .i64 lo)).alloc (.cells #[.int .i64 x0, .int .i64 x1, .int .i64 x2, .int .i64 x3, .int .i64 x4, .int .i64 x5, .int .i64 x6, .int .i64 x7, .bool true, .int .i64 lo, .int .i64 hi, .int .i64 lo] 23)).alloc (.cells #[.int .i64 x0, .int .i64 x1, .int .i64 x2, .int .i64 x3, .int .i64 x4, .int .i64 x5, .int .i64 x6, .int .i64 x7, .bool true, .int .i64 lo, .int .i64 hi, .int .i64 hi] 23)).cell? ⟨w3.heap.size + 1, 2, none⟩ = some (.int .i64 x2) := by simp [go_sem]
    have e3 : (((((w3.setCell ⟨w.heap.size, 9, none⟩ (.int .i64 lo)).setCell ⟨w.heap.size, 10, none⟩ (.int .i64 hi)).setCell ⟨w.heap.size, 11, none⟩ (.int .i64 lo)).alloc (.cells #[.int .i64 x0, .int .i64 x1, .int .i64 x2, .int .i64 x3, .int .i64 x4, .int .i64 x5, .int .i64 x6, .int .i64 x7, .bool true, .int .i64 lo, .int .i64 hi, .int .i64 lo] 23)).alloc (.cells #[.int .i64 x0, .int .i64 x1, .int .i64 x2, .int .i64 x3, .int .i64 x4, .int .i64 x5, .int .i64 x6, .int .i64 x7, .bool true, .int .i64 lo, .int .i64 hi, .int .i64 hi] 23)).cell? ⟨w3.heap.size + 1, 3, none⟩ = some (.int .i64 x3) := by simp [go_sem]
    have e4 : (((((w3.setCell ⟨w.heap.size, 9, none⟩ (.int .i64 lo)).setCell ⟨w.heap.size, 10, none⟩ (.int .i64 hi)).setCell ⟨w.heap.size, 11, none⟩ (.int .i64 lo)).alloc (.cells #[.int .i64 x0, .int .i64 x1, .int .i64 x2, .int .i64 x3, .int .i64 x4, .int .i64 x5, .int .i64 x6, .int .i64 x7, .bool true, .int .i64 lo, .int .i64 hi, .int .i64 lo] 23)).alloc (.cells #[.int .i64 x0, .int .i64 x1, .int .i64 x2, .int .i64 x3, .int .i64 x4, .int .i64 x5, .int .i64 x6, .int .i64 x7, .bool true, .int .i64 lo, .int .i64 hi, .int .i64 hi] 23)).cell? ⟨w3.heap.size + 1, 4, none⟩ = some (.int .i64 x4) := by simp [go_sem]
    have e5 : (((((w3.setCell ⟨w.heap.size, 9, none⟩ (.int .i64 lo)).setCell ⟨w.heap.size, 10, none⟩ (.int .i64 hi)).setCell ⟨w.heap.size, 11, none⟩ (.int .i64 lo)).alloc (.cells #[.int .i64 x0, .int .i64 x1, .int .i64 x2, .int .i64 x3, .int .i64 x4, .int .i64 x5, .int .i64 x6, .int .i64 x7, .bool true, .int .i64 lo, .int .i64 hi, .int .i64 lo] 23)).alloc (.cells #[.int .i64 x0, .int .i64 x1, .int .i64 x2, .int .i64 x3, .int .i64 x4, .int .i64 x5, .int .i64 x6, .int .i64 x7, .bool true, .int .i64 lo, .int .i64 hi, .int .i64 hi] 23)).cell? ⟨w3.heap.size + 1, 5, none⟩ = some (.int .i64 x5) := by simp [go_sem]
    have e6 : (((((w3.setCell ⟨w.heap.size, 9, none⟩ (.int .i64 lo)).setCell ⟨w.heap.size, 10, none⟩ (.int .i64 hi)).setCell ⟨w.heap.size, 11, none⟩ (.int .i64 lo)).alloc (.cells #[.int .i64 x0, .int .i64 x1, .int .i64 x2, .int .i64 x3, .int .i64 x4, .int .i64 x5, .int .i64 x6, .int .i64 x7, .bool true, .int .i64 lo, .int .i64 hi, .int .i64 lo] 23)).alloc (.cells #[.int .i64 x0, .int .i64 x1, .int .i64 x2, .int .i64 x3, .int .i64 x4, .int .i64 x5, .int .i64 x6, .int .i64 x7, .bool true, .int .i64 lo, .int .i64 hi, .int .i64 hi] 23)).cell? ⟨w3.heap.size + 1, 6, none⟩ = some (.int .i64 x6) := by simp [go_sem]
    have e7 : (((((w3.setCell ⟨w.heap.size, 9, none⟩ (.int .i64 lo)).setCell ⟨w.heap.size, 10, none⟩ (.int .i64 hi)).setCell ⟨w.heap.size, 11, none⟩ (.int .i64 lo)).alloc (.cells #[.int .i64 x0, .int .i64 x1, .int .i64 x2, .int .i64 x3, .int .i64 x4, .int .i64 x5, .int .i64 x6, .int .i64 x7, .bool true, .int .i64 lo, .int .i64 hi, .int .i64 lo] 23)).alloc (.cells #[.int .i64 x0, .int .i64 x1, .int .i64 x2, .int .i64 x3, .int .i64 x4, .int .i64 x5, .int .i64 x6, .int .i64 x7, .bool true, .int .i64 lo, .int .i64 hi, .int .i64 hi] 23)).cell? ⟨w3.heap.size + 1, 7, none⟩ = some (.int .i64 x7) := by simp [go_sem]
    have e8 : (((((w3.setCell ⟨w.heap.size, 9, none⟩ (.int .i64 lo)).setCell ⟨w.heap.size, 10, none⟩ (.int .i64 hi)).setCell ⟨w.heap.size, 11, none⟩ (.int .i64 lo)).alloc (.cells #[.int .i64 x0, .int .i64 x1, .int .i64 x2, .int .i64 x3, .int .i64 x4, .int .i64 x5, .int .i64 x6, .int .i64 x7, .bool true, .int .i64 lo, .int .i64 hi, .int .i64 lo] 23)).alloc (.cells #[.int .i64 x0, .int .i64 x1, .int .i64 x2, .int .i64 x3, .int .i64 x4, .int .i64 x5, .int .i64 x6, .int .i64 x7, .bool true, .int .i64 lo, .int .i64 hi, .int .i64 hi] 23)).cell? ⟨w3.heap.size + 1, 8, none⟩ = some (.bool true) := by simp [go_sem]
    have e9 : (((((w3.setCell ⟨w.heap.size, 9, none⟩ (.int .i64 lo)).setCell ⟨w.heap.size, 10, none⟩ (.int .i64 hi)).setCell ⟨w.heap.size, 11, none⟩ (.int .i64 lo)).alloc (.cells #[.int .i64 x0, .int .i64 x1, .int .i64 x2, .int .i64 x3, .int .i64 x4, .int .i64 x5, .int .i64 x6, .int .i64 x7, .bool true, .int .i64 lo, .int .i64 hi, .int .i64 lo] 23)).alloc (.cells #[.int .i64 x0, .int .i64 x1, .int .i64 x2, .int .i64 x3, .int .i64 x4, .int .i64 x5, .int .i64 x6, .int .i64 x7, .bool true, .int .i64 lo, .int .i64 hi, .int .i64 hi] 23)).cell? ⟨w3.heap.size + 1, 9, none⟩ = some (.int .i64 lo) := by simp [go_sem]
    have e10 : (((((w3.setCell ⟨w.heap.size, 9, none⟩ (.int .i64 lo)).setCell ⟨w.heap.size, 10, none⟩ (.int .i64 hi)).setCell ⟨w.heap.size, 11, none⟩ (.int .i64 lo)).alloc (.cells #[.int .i64 x0, .int .i64 x1, .int .i64 x2, .int .i64 x3, .int .i64 x4, .int .i64 x5, .int .i64 x6, .int .i64 x7, .bool true, .int .i64 lo, .int .i64 hi, .int .i64 lo] 23)).alloc (.cells #[.int .i64 x0, .int .i64 x1, .int .i64 x2, .int .i64 x3, .int .i64 x4, .int .i64 x5, .int .i64 x6, .int .i64 x7, .bool true, .int .i64 lo, .int .i64 hi, .int .i64 hi] 23)).cell? ⟨w3.heap.size + 1, 10, none⟩ = some (.int .i64 hi) := by simp [go_sem]
    have e11 : (((((w3.setCell ⟨w.heap.size, 9, none⟩ (.int .i64 lo)).setCell ⟨w.heap.size, 10, none⟩ (.int .i64 hi)).setCell ⟨w.heap.size, 11, none⟩ (.int .i64 lo)).alloc (.cells #[.int .i64 x0, .int .i64 x1, .int .i64 x2, .int .i64 x3, .int .i64 x4, .int .i64 x5, .int .i64 x6, .int .i64 x7, .bool true, .int .i64 lo, .int .i64 hi, .int .i64 lo] 23)).alloc (.cells #[.int .i64 x0, .int .i64 x1, .int .i64 x2, .int .i64 x3, .int .i64 x4, .int .i64 x5, .int .i64 x6, .int .i64 x7, .bool true, .int .i64 lo, .int .i64 hi, .int .i64 hi] 23)).cell? ⟨w3.heap.size + 1, 11, none⟩ = some (.int .i64 hi) := by simp [go_sem]
    rcases hv' with ⟨hlt, rfl⟩ | ⟨hge, rfl⟩
    · skip
      go_wp2_with fail
      refine (KA.out _).mono ?_
      rintro x w4 ⟨rfl, hb⟩
      clear zq9 zq10 zq11 q0 q1 q2 q3 q4 q5 q6 q7 q8 q9 q10 q11
      replace p0 := cell_keep p0 hb
      replace p1 := cell_keep p1 hb
      replace p2 := cell_keep p2 hb
      replace p3 := cell_keep p3 hb
      replace p4 := cell_keep p4 hb
      replace p5 := cell_keep p5 hb
      replace p6 := cell_keep p6 hb
      replace p7 := cell_keep p7 hb
      replace p8 := cell_keep p8 hb
      replace p9 := cell_keep p9 hb
      replace p10 := cell_keep p10 hb
      replace p11 := cell_keep p11 hb
      replace d0 := cell_keep d0 hb
      replace d1 := cell_keep d1 hb
      replace d2 := cell_keep d2 hb
      replace d3 := cell_keep d3 hb
      replace d4 := cell_keep d4 hb
      replace d5 := cell_keep d5 hb
      replace d6 := cell_keep d6 hb
      replace d7 := cell_keep d7 hb
      replace d8 := cell_keep d8 hb
      replace d9 := cell_keep d9 hb
      replace d10 := cell_keep d10 hb
      replace d11 := cell_keep d11 hb
      replace e0 := cell_keep e0 hb
      replace e1 := cell_keep e1 hb
      replace e2 := cell_keep e2 hb
      replace e3 := cell_keep e3 hb
      replace e4 := cell_keep e4 hb
      replace e5 := cell_keep e5 hb
      replace e6 := cell_keep e6 hb
      replace e7 := cell_keep e7 hb
      replace e8 := cell_keep e8 hb
      replace e9 := cell_keep e9 hb
      replace e10 := cell_keep e10 hb
      replace e11 := cell_keep e11 hb
      replace hB := below_next hB hB.size hb
      clear hb
      go_wp2_with fail
      refine (KD.out _).mono ?_
      rintro x w5 ⟨rfl, hb⟩
      replace p0 := cell_keep p0 hb
      replace p1 := cell_keep p1 hb
      replace p2 := cell_keep p2 hb
      replace p3 := cell_keep p3 hb
      replace p4 := cell_keep p4 hb
      replace p5 := cell_keep p5 hb
      replace p6 := cell_keep p6 hb
      replace p7 := cell_keep p7 hb
      replace p8 := cell_keep p8 hb
      replace p9 := cell_keep p9 hb
      replace p10 := cell_keep p10 hb
      replace p11 := cell_keep p11 hb
      replace d0 := cell_keep d0 hb
      replace d1 := cell_keep d1 hb
      replace d2 := cell_keep d2 hb
      replace d3 := cell_keep d3 hb
      replace d4 := cell_keep d4 hb
      replace d5 := cell_keep d5 hb
      replace d6 := cell_keep d6 hb
      replace d7 := cell_keep d7 hb
      replace d8 := cell_keep d8 hb
      replace d9 := cell_keep d9 hb
      replace d10 := cell_keep d10 hb
      replace d11 := cell_keep d11 hb
      replace e0 := cell_keep e0 hb
      replace e1 := cell_keep e1 hb
      replace e2 := cell_keep e2 hb
      replace e3 := cell_keep e3 hb
      replace e4 := cell_keep e4 hb
      replace e5 := cell_keep e5 hb
      replace e6 := cell_keep e6 hb
      replace e7 := cell_keep e7 hb
      replace e8 := cell_keep e8 hb
      replace e9 := cell_keep e9 hb
      replace e10 := cell_keep e10 hb
      replace e11 := cell_keep e11 hb
      replace hB := below_next hB hB.size hb
      clear hb
      go_wp2_with fail
      refine (KE.out _).mono ?_
      rintro x w6 ⟨rfl, hb⟩
      replace p0 := cell_keep p0 hb
      replace p1 := cell_keep p1 hb
      replace p2 := cell_keep p2 hb
      replace p3 := cell_keep p3 hb
      replace p4 := cell_keep p4 hb
      replace p5 := cell_keep p5 hb
      replace p6 := cell_keep p6 hb
      replace p7 := cell_keep p7 hb
      replace p8 := cell_keep p8 hb
      replace p9 := cell_keep p9 hb
      replace p10 := cell_keep p10 hb
      replace p11 := cell_keep p11 hb
      replace d0 := cell_keep d0 hb
      replace d1 := cell_keep d1 hb
      replace d2 := cell_keep d2 hb
      replace d3 := cell_keep d3 hb
      replace d4 := cell_keep d4 hb
      replace d5 := cell_keep d5 hb
      replace d6 := cell_keep d6 hb
      replace d7 := cell_keep d7 hb
      replace d8 := cell_keep d8 hb
      replace d9 := cell_keep d9 hb
      replace d10 := cell_keep d10 hb
      replace d11 := cell_keep d11 hb
      replace e0 := cell_keep e0 hb
      replace e1 := cell_keep e1 hb
      replace e2 := cell_keep e2 hb
      replace e3 := cell_keep e3 hb
      replace e4 := cell_keep e4 hb
      replace e5 := cell_keep e5 hb
      replace e6 := cell_keep e6 hb
      replace e7 := cell_keep e7 hb
      replace e8 := cell_keep e8 hb
      replace e9 := cell_keep e9 hb
      replace e10 := cell_keep e10 hb
      replace e11 := cell_keep e11 hb
      replace hB := below_next hB hB.size hb
      clear hb
      go_wp2
      go_ret
      exact ⟨rfl, hB⟩
    · skip
      go_wp2_with fail
      refine (KA.out _).mono ?_
      rintro x w4 ⟨rfl, hb⟩
      clear zq9 zq10 zq11 q0 q1 q2 q3 q4 q5 q6 q7 q8 q9 q10 q11
      replace p0 := cell_keep p0 hb
      replace p1 := cell_keep p1 hb
      replace p2 := cell_keep p2 hb
      replace p3 := cell_keep p3 hb
      replace p4 := cell_keep p4 hb
      replace p5 := cell_keep p5 hb
      replace p6 := cell_keep p6 hb
      replace p7 := cell_keep p7 hb
      replace p8 := cell_keep p8 hb
      replace p9 := cell_keep p9 hb
      replace p10 := cell_keep p10 hb
      replace p11 := cell_keep p11 hb
      replace d0 := cell_keep d0 hb
      replace d1 := cell_keep d1 hb
      replace d2 := cell_keep d2 hb
      replace d3 := cell_keep d3 hb
      replace d4 := cell_keep d4 hb
      replace d5 := cell_keep d5 hb
      replace d6 := cell_keep d6 hb
      replace d7 := cell_keep d7 hb
      replace d8 := cell_keep d8 hb
      replace d9 := cell_keep d9 hb
      replace d10 := cell_keep d10 hb
      replace d11 := cell_keep d11 hb
      replace e0 := cell_keep e0 hb
      replace e1 := cell_keep e1 hb
      replace e2 := cell_keep e2 hb
      replace e3 := cell_keep e3 hb
      replace e4 := cell_keep e4 hb
      replace e5 := cell_keep e5 hb
      replace e6 := cell_keep e6 hb
      replace e7 := cell_keep e7 hb
      replace e8 := cell_keep e8 hb
      replace e9 := cell_keep e9 hb
      replace e10 := cell_keep e10 hb
      replace e11 := cell_keep e11 hb
      replace hB := below_next hB hB.size hb
      clear hb
      go_wp2_with fail
      refine (KD.out _).mono ?_
      rintro x w5 ⟨rfl, hb⟩
      replace p0 := cell_keep p0 hb
      replace p1 := cell_keep p1 hb
      replace p2 := cell_keep p2 hb
      replace p3 := cell_keep p3 hb
      replace p4 := cell_keep p4 hb
      replace p5 := cell_keep p5 hb
      replace p6 := cell_keep p6 hb
      replace p7 := cell_keep p7 hb
      replace p8 := cell_keep p8 hb
      replace p9 := cell_keep p9 hb
      replace p10 := cell_keep p10 hb
      replace p11 := cell_keep p11 hb
      replace d0 := cell_keep d0 hb
      replace d1 := cell_keep d1 hb
      replace d2 := cell_keep d2 hb
      replace d3 := cell_keep d3 hb
      replace d4 := cell_keep d4 hb
      replace d5 := cell_keep d5 hb
      replace d6 := cell_keep d6 hb
      replace d7 := cell_keep d7 hb
      replace d8 := cell_keep d8 hb
      replace d9 := cell_keep d9 hb
      replace d10 := cell_keep d10 hb
      replace d11 := cell_keep d11 hb
      replace e0 := cell_keep e0 hb
      replace e1 := cell_keep e1 hb
      replace e2 := cell_keep e2 hb
      replace e3 := cell_keep e3 hb
      replace e4 := cell_keep e4 hb
      replace e5 := cell_keep e5 hb
      replace e6 := cell_keep e6 hb
      replace e7 := cell_keep e7 hb
      replace e8 := cell_keep e8 hb
      replace e9 := cell_keep e9 hb
      replace e10 := cell_keep e10 hb
      replace e11 := cell_keep e11 hb
      replace hB := below_next hB hB.size hb
      clear hb
      go_wp2_with fail
      refine (KE.out _).mono ?_
      rintro x w6 ⟨rfl, hb⟩
      replace p0 := cell_keep p0 hb
      replace p1 := cell_keep p1 hb
      replace p2 := cell_keep p2 hb
      replace p3 := cell_keep p3 hb
      replace p4 := cell_keep p4 hb
      replace p5 := cell_keep p5 hb
      replace p6 := cell_keep p6 hb
      replace p7 := cell_keep p7 hb
      replace p8 := cell_keep p8 hb
      replace p9 := cell_keep p9 hb
      replace p10 := cell_keep p10 hb
      replace p11 := cell_keep p11 hb
      replace d0 := cell_keep d0 hb
      replace d1 := cell_keep d1 hb
      replace d2 := cell_keep d2 hb
      replace d3 := cell_keep d3 hb
      replace d4 := cell_keep d4 hb
      replace d5 := cell_keep d5 hb
      replace d6 := cell_keep d6 hb
      replace d7 := cell_keep d7 hb
      replace d8 := cell_keep d8 hb
      replace d9 := cell_keep d9 hb
      replace d10 := cell_keep d10 hb
      replace d11 := cell_keep d11 hb
      replace e0 := cell_keep e0 hb
      replace e1 := cell_keep e1 hb
      replace e2 := cell_keep e2 hb
      replace e3 := cell_keep e3 hb
      replace e4 := cell_keep e4 hb
      replace e5 := cell_keep e5 hb
      replace e6 := cell_keep e6 hb
      replace e7 := cell_keep e7 hb
      replace e8 := cell_keep e8 hb
      replace e9 := cell_keep e9 hb
      replace e10 := cell_keep e10 hb
      replace e11 := cell_keep e11 hb
      replace hB := below_next hB hB.size hb
      clear hb
      go_wp2
      go_ret
      exact ⟨rfl, hB⟩
  · have h1 : (e == 0) = false := by simpa using h0
    clear HO zq9 zq10 zq11
    go_enter Try.func5, Try.ntmps5
    go_wp2_with fail
    refine (KC.out _).mono ?_
    rintro x w1 ⟨rfl, hb⟩
    replace q0 := cell_keep q0 hb
    replace q1 := cell_keep q1 hb
    replace q2 := cell_keep q2 hb
    replace q3 := cell_keep q3 hb
    replace q4 := cell_keep q4 hb
    replace q5 := cell_keep q5 hb
    replace q6 := cell_keep q6 hb
    replace q7 := cell_keep q7 hb
    replace q8 := cell_keep q8 hb
    replace q9 := cell_keep q9 hb
    replace q10 := cell_keep q10 hb
    replace q11 := cell_keep q11 hb
    replace hB := below_next hB hB.size hb
    clear hb
    go_wp2_with fail
    have Q1 := hide (fun d os => Calls.regrown_of (w := w1) (shown5_any (grow (redrawn w1 d) os)))
    have Q2 := hide (fun d os => Calls.regrown_of (w := w1) (KC.out (grow (redrawn w1 d) os)))
    have Q3 := hide (fun d os => Calls.regrown_of (w := w1) (KR.out (grow (redrawn w1 d) os)))
    clear KC KR
    have q0 := cell_regrown q0
    have q1 := cell_regrown q1
    have q2 := cell_regrown q2
    have q3 := cell_regrown q3
    have q4 := cell_regrown q4
    have q5 := cell_regrown q5
    have q6 := cell_regrown q6
    have q7 := cell_regrown q7
    have q8 := cell_regrown q8
    have q9 := cell_regrown q9
    have q10 := cell_regrown q10
    have q11 := cell_regrown q11
    refine wp_region_quiet_below (by kernel_rfl) (by kernel_rfl) ?_
    repeat (quiet_step (first | (go_at_call 12; exact Q1.out _ _) | (go_at_call 8; exact Q2.out _ _) | (go_at_call 9; exact Q3.out _ _)))
    refine wpQuiet_nil ?_
    intro _ hw'
    obtain ⟨⟨dq, osq⟩, hw''⟩ := hw'
    subst hw''
    go_wp2
    go_ret
    exact ⟨rfl, hB.trans ((below_regrown w1 dq osq).mono hB.size)⟩

end Go.Proofs.Ytcnmgojllgepbaa
