/- The walk of ConfigFirst. -/
import Derived.Test.YtcnmgojllgepbaaW5Math
import Derived.Lib.QuietBelow
import Derived.Deep.QuietTactic
namespace Go.Proofs.Ytcnmgojllgepbaa
open Go.RowKit Go.Sort
set_option linter.unusedVariables false

set_option maxRecDepth 100000 in
set_option maxHeartbeats 4000000 in
theorem walkFirst (x0 x1 x2 x3 x4 x5 x6 x7 : Int) (b : Bool) (x9 x10 x11 : Int) (t u : Int) (w : World) : Calls Try.prog 6 #[.agg #[.int .i64 x0, .int .i64 x1, .int .i64 x2, .int .i64 x3, .int .i64 x4, .int .i64 x5, .int .i64 x6, .int .i64 x7, .bool b, .int .i64 x9, .int .i64 x10, .int .i64 x11], .int .i64 t, .int .i64 u] w (BoolPost true w) := by
  have hB : Below w.heap.size w (w.alloc (.cells #[.int .i64 x0, .int .i64 x1, .int .i64 x2, .int .i64 x3, .int .i64 x4, .int .i64 x5, .int .i64 x6, .int .i64 x7, .bool b, .int .i64 x9, .int .i64 x10, .int .i64 x11] 23)) := (Below.refl _ w).alloc (Nat.le_refl _) _
  have q0 : (w.alloc (.cells #[.int .i64 x0, .int .i64 x1, .int .i64 x2, .int .i64 x3, .int .i64 x4, .int .i64 x5, .int .i64 x6, .int .i64 x7, .bool b, .int .i64 x9, .int .i64 x10, .int .i64 x11] 23)).cell? ⟨w.heap.size, 0, none⟩ = some (.int .i64 x0) := by simp [go_sem]
  have q1 : (w.alloc (.cells #[.int .i64 x0, .int .i64 x1, .int .i64 x2, .int .i64 x3, .int .i64 x4, .int .i64 x5, .int .i64 x6, .int .i64 x7, .bool b, .int .i64 x9, .int .i64 x10, .int .i64 x11] 23)).cell? ⟨w.heap.size, 1, none⟩ = some (.int .i64 x1) := by simp [go_sem]
  have q2 : (w.alloc (.cells #[.int .i64 x0, .int .i64 x1, .int .i64 x2, .int .i64 x3, .int .i64 x4, .int .i64 x5, .int .i64 x6, .int .i64 x7, .bool b, .int .i64 x9, .int .i64 x10, .int .i64 x11] 23)).cell? ⟨w.heap.size, 2, none⟩ = some (.int .i64 x2) := by simp [go_sem]
  have q3 : (w.alloc (.cells #[.int .i64 x0, .int .i64 x1, .int .i64 x2, .int .i64 x3, .int .i64 x4, .int .i64 x5, .int .i64 x6, .int .i64 x7, .bool b, .int .i64 x9, .int .i64 x10, .int .i64 x11] 23)).cell? ⟨w.heap.size, 3, none⟩ = some (.int .i64 x3) := by simp [go_sem]
  have q4 : (w.alloc (.cells #[.int .i64 x0, .int .i64 x1, .int .i64 x2, .int .i64 x3, .int .i64 x4, .int .i64 x5, .int .i64 x6, .int .i64 x7, .bool b, .int .i64 x9, .int .i64 x10, .int .i64 x11] 23)).cell? ⟨w.heap.size, 4, none⟩ = some (.int .i64 x4) := by simp [go_sem]
  have q5 : (w.alloc (.cells #[.int .i64 x0, .int .i64 x1, .int .i64 x2, .int .i64 x3, .int .i64 x4, .int .i64 x5, .int .i64 x6, .int .i64 x7, .bool b, .int .i64 x9, .int .i64 x10, .int .i64 x11] 23)).cell? ⟨w.heap.size, 5, none⟩ = some (.int .i64 x5) := by simp [go_sem]
  have q6 : (w.alloc (.cells #[.int .i64 x0, .int .i64 x1, .int .i64 x2, .int .i64 x3, .int .i64 x4, .int .i64 x5, .int .i64 x6, .int .i64 x7, .bool b, .int .i64 x9, .int .i64 x10, .int .i64 x11] 23)).cell? ⟨w.heap.size, 6, none⟩ = some (.int .i64 x6) := by simp [go_sem]
  have q7 : (w.alloc (.cells #[.int .i64 x0, .int .i64 x1, .int .i64 x2, .int .i64 x3, .int .i64 x4, .int .i64 x5, .int .i64 x6, .int .i64 x7, .bool b, .int .i64 x9, .int .i64 x10, .int .i64 x11] 23)).cell? ⟨w.heap.size, 7, none⟩ = some (.int .i64 x7) := by simp [go_sem]
  have q8 : (w.alloc (.cells #[.int .i64 x0, .int .i64 x1, .int .i64 x2, .int .i64 x3, .int .i64 x4, .int .i64 x5, .int .i64 x6, .int .i64 x7, .bool b, .int .i64 x9, .int .i64 x10, .int .i64 x11] 23)).cell? ⟨w.heap.size, 8, none⟩ = some (.bool b) := by simp [go_sem]
  have q9 : (w.alloc (.cells #[.int .i64 x0, .int .i64 x1, .int .i64 x2, .int .i64 x3, .int .i64 x4, .int .i64 x5, .int .i64 x6, .int .i64 x7, .bool b, .int .i64 x9, .int .i64 x10, .int .i64 x11] 23)).cell? ⟨w.heap.size, 9, none⟩ = some (.int .i64 x9) := by simp [go_sem]
  have q10 : (w.alloc (.cells #[.int .i64 x0, .int .i64 x1, .int .i64 x2, .int .i64 x3, .int .i64 x4, .int .i64 x5, .int .i64 x6, .int .i64 x7, .bool b, .int .i64 x9, .int .i64 x10, .int .i64 x11] 23)).cell? ⟨w.heap.size, 10, none⟩ = some (.int .i64 x10) := by simp [go_sem]
  have q11 : (w.alloc (.cells #[.int .i64 x0, .int .i64 x1, .int .i64 x2, .int .i64 x3, .int .i64 x4, .int .i64 x5, .int .i64 x6, .int .i64 x7, .bool b, .int .i64 x9, .int .i64 x10, .int .i64 x11] 23)).cell? ⟨w.heap.size, 11, none⟩ = some (.int .i64 x11) := by simp [go_sem]
  have zq0 : (w.alloc (.cells #[.int .i64 x0, .int .i64 x1, .int .i64 x2, .int .i64 x3, .int .i64 x4, .int .i64 x5, .int .i64 x6, .int .i64 x7, .bool b, .int .i64 x9, .int .i64 x10, .int .i64 x11] 23)).frozen? ⟨w.heap.size, 0, none⟩ = false := by simp [go_sem]
  have zq7 : (w.alloc (.cells #[.int .i64 x0, .int .i64 x1, .int .i64 x2, .int .i64 x3, .int .i64 x4, .int .i64 x5, .int .i64 x6, .int .i64 x7, .bool b, .int .i64 x9, .int .i64 x10, .int .i64 x11] 23)).frozen? ⟨w.heap.size, 7, none⟩ = false := by simp [go_sem]
  obtain ⟨e, he⟩ : ∃ e, ckV x0 x1 x2 x3 x4 x5 x6 x7 b x9 x10 x11 = e := ⟨_, rfl⟩
  have KR := hide (rcheck_any x0 x1 x2 x3 x4 x5 x6 x7 b x9 x10 x11)
  rw [he] at KR
  have HO := hide (ck_ok x0 x1 x2 x3 x4 x5 x6 x7 b x9 x10 x11)
  rw [he] at HO
  clear he
  by_cases h0 : e = 0
  · subst h0
    have OK := hide (HO.out.1 rfl)
    clear HO
    have KA := hide (check_any t x1 x2 x3 x4 x5 x6 u b x9 x10 x11)
    have KD := hide (check_any t 0 x2 x3 x4 x5 x6 u b x9 x10 x11)
    rw [ck_first x0 x1 x2 x3 x4 x5 x6 x7 b x9 x10 x11 OK.out t u] at KA
    rw [ck_second x0 x1 x2 x3 x4 x5 x6 x7 b x9 x10 x11 t u] at KD
    clear OK
    go_enter Try.func6, Try.ntmps6
    go_wp2_with fail
    refine (KR.out _).mono ?_
    rintro x w1 ⟨rfl, hb⟩
    replace zq0 := frozen_keep hb (World.block_lt_of_cell? _ _ q0) zq0
    replace zq7 := frozen_keep hb (World.block_lt_of_cell? _ _ q7) zq7
    replace q0 := cell_keep q0 hb
    replace q1 := cell_keep q1 hb
    replace q2 := cell_keep q2 hb
    replace q3 := cell_keep q3 hb
    replace q4 := cell_keep q4 hb
    replace q5 := cell_keep q5 hb
    replace q6 := cell_keep q6 hb
    replace q7 := cell_keep q7 hb
    replace q8 := cell_keep q8 hb
    replace q9 := cell_keep q9 hb
    replace q10 := cell_keep q10 hb
    replace q11 := cell_keep q11 hb
    replace hB := below_next hB hB.size hb
    clear hb
    go_wp2_with fail
    refine (shown5_any _).mono ?_
    rintro x w2 ⟨rfl, hb⟩
    replace zq0 := frozen_keep hb (World.block_lt_of_cell? _ _ q0) zq0
    replace zq7 := frozen_keep hb (World.block_lt_of_cell? _ _ q7) zq7
    replace q0 := cell_keep q0 hb
    replace q1 := cell_keep q1 hb
    replace q2 := cell_keep q2 hb
    replace q3 := cell_keep q3 hb
    replace q4 := cell_keep q4 hb
    replace q5 := cell_keep q5 hb
    replace q6 := cell_keep q6 hb
    replace q7 := cell_keep q7 hb
    replace q8 := cell_keep q8 hb
    replace q9 := cell_keep q9 hb
    replace q10 := cell_keep q10 hb
    replace q11 := cell_keep q11 hb
    replace hB := below_next hB hB.size hb
    clear hb
    clear KR
    have ps0_0 : (w2.setCell ⟨w.heap.size, 0, none⟩ (.int .i64 t)).cell? ⟨w.heap.size, 0, none⟩ = some (.int .i64 t) := World.cell?_setCell_same _ _ _ q0
    have ps0_1 : (w2.setCell ⟨w.heap.size, 0, none⟩ (.int .i64 t)).cell? ⟨w.heap.size, 1, none⟩ = some (.int .i64 x1) := (World.cell?_setCell_other _ _ _ _ (by simp)).trans q1
    have ps0_2 : (w2.setCell ⟨w.heap.size, 0, none⟩ (.int .i64 t)).cell? ⟨w.heap.size, 2, none⟩ = some (.int .i64 x2) := (World.cell?_setCell_other _ _ _ _ (by simp)).trans q2
    have ps0_3 : (w2.setCell ⟨w.heap.size, 0, none⟩ (.int .i64 t)).cell? ⟨w.heap.size, 3, none⟩ = some (.int .i64 x3) := (World.cell?_setCell_other _ _ _ _ (by simp)).trans q3
    have ps0_4 : (w2.setCell ⟨w.heap.size, 0, none⟩ (.int .i64 t)).cell? ⟨w.heap.size, 4, none⟩ = some (.int .i64 x4) := (World.cell?_setCell_other _ _ _ _ (by simp)).trans q4
    have ps0_5 : (w2.setCell ⟨w.heap.size, 0, none⟩ (.int .i64 t)).cell? ⟨w.heap.size, 5, none⟩ = some (.int .i64 x5) := (World.cell?_setCell_other _ _ _ _ (by simp)).trans q5
    have ps0_6 : (w2.setCell ⟨w.heap.size, 0, none⟩ (.int .i64 t)).cell? ⟨w.heap.size, 6, none⟩ = some (.int .i64 x6) := (World.cell?_setCell_other _ _ _ _ (by simp)).trans q6
    have ps0_7 : (w2.setCell ⟨w.heap.size, 0, none⟩ (.int .i64 t)).cell? ⟨w.heap.size, 7, none⟩ = some (.int .i64 x7) := (World.cell?_setCell_other _ _ _ _ (by simp)).trans q7
    have ps0_8 : (w2.setCell ⟨w.heap.size, 0, none⟩ (.int .i64 t)).cell? ⟨w.heap.size, 8, none⟩ = some (.bool b) := (World.cell?_setCell_other _ _ _ _ (by simp)).trans q8
    have ps0_9 : (w2.setCell ⟨w.heap.size, 0, none⟩ (.int .i64 t)).cell? ⟨w.heap.size, 9, none⟩ = some (.int .i64 x9) := (World.cell?_setCell_other _ _ _ _ (by simp)).trans q9
    have ps0_10 : (w2.setCell ⟨w.heap.size, 0, none⟩ (.int .i64 t)).cell? ⟨w.heap.size, 10, none⟩ = some (.int .i64 x10) := (World.cell?_setCell_other _ _ _ _ (by simp)).trans q10
    have ps0_11 : (w2.setCell ⟨w.heap.size, 0, none⟩ (.int .i64 t)).cell? ⟨w.heap.size, 11, none⟩ = some (.int .i64 x11) := (World.cell?_setCell_other _ _ _ _ (by simp)).trans q11
    replace hB := hB.setCell (p := ⟨w.heap.size, 0, none⟩) (Nat.le_refl _) (.int .i64 t)
    have p0 : ((w2.setCell ⟨w.heap.size, 0, none⟩ (.int .i64 t)).setCell ⟨w.heap.size, 7, none⟩ (.int .i64 u)).cell? ⟨w.heap.size, 0, none⟩ = some (.int .i64 t) := (World.cell?_setCell_other _ _ _ _ (by simp)).trans ps0_0
    have p1 : ((w2.setCell ⟨w.heap.size, 0, none⟩ (.int .i64 t)).setCell ⟨w.heap.size, 7, none⟩ (.int .i64 u)).cell? ⟨w.heap.size, 1, none⟩ = some (.int .i64 x1) := (World.cell?_setCell_other _ _ _ _ (by simp)).trans ps0_1
    have p2 : ((w2.setCell ⟨w.heap.size, 0, none⟩ (.int .i64 t)).setCell ⟨w.heap.size, 7, none⟩ (.int .i64 u)).cell? ⟨w.heap.size, 2, none⟩ = some (.int .i64 x2) := (World.cell?_setCell_other _ _ _ _ (by simp)).trans ps0_2
    have p3 : ((w2.setCell ⟨w.heap.size, 0, none⟩ (.int .i64 t)).setCell ⟨w.heap.size, 7, none⟩ (.int .i64 u)).cell? ⟨w.heap.size, 3, none⟩ = some (.int .i64 x3) := (World.cell?_setCell_other _ _ _ _ (by simp)).trans ps0_3
    have p4 : ((w2.setCell ⟨w.heap.size, 0, none⟩ (.int .i64 t)).setCell ⟨w.heap.size, 7, none⟩ (.int .i64 u)).cell? ⟨w.heap.size, 4, none⟩ = some (.int .i64 x4) := (World.cell?_setCell_other _ _ _ _ (by simp)).trans ps0_4
    have p5 : ((w2.setCell ⟨w.heap.size, 0, none⟩ (.int .i64 t)).setCell ⟨w.heap.size, 7, none⟩ (.int .i64 u)).cell? ⟨w.heap.size, 5, none⟩ = some (.int .i64 x5) := (World.cell?_setCell_other _ _ _ _ (by simp)).trans ps0_5
    have p6 : ((w2.setCell ⟨w.heap.size, 0, none⟩ (.int .i64 t)).setCell ⟨w.heap.size, 7, none⟩ (.int .i64 u)).cell? ⟨w.heap.size, 6, none⟩ = some (.int .i64 x6) := (World.cell?_setCell_other _ _ _ _ (by simp)).trans ps0_6
    have p7 : ((w2.setCell ⟨w.heap.size, 0, none⟩ (.int .i64 t)).setCell ⟨w.heap.size, 7, none⟩ (.int .i64 u)).cell? ⟨w.heap.size, 7, none⟩ = some (.int .i64 u) := World.cell?_setCell_same _ _ _ ps0_7
    have p8 : ((w2.setCell ⟨w.heap.size, 0, none⟩ (.int .i64 t)).setCell ⟨w.heap.size, 7, none⟩ (.int .i64 u)).cell? ⟨w.heap.size, 8, none⟩ = some (.bool b) := (World.cell?_setCell_other _ _ _ _ (by simp)).trans ps0_8
    have p9 : ((w2.setCell ⟨w.heap.size, 0, none⟩ (.int .i64 t)).setCell ⟨w.heap.size, 7, none⟩ (.int .i64 u)).cell? ⟨w.heap.size, 9, none⟩ = some (.int .i64 x9) := (World.cell?_setCell_other _ _ _ _ (by simp)).trans ps0_9
    have p10 : ((w2.setCell ⟨w.heap.size, 0, none⟩ (.int .i64 t)).setCell ⟨w.heap.size, 7, none⟩ (.int .i64 u)).cell? ⟨w.heap.size, 10, none⟩ = some (.int .i64 x10) := (World.cell?_setCell_other _ _ _ _ (by simp)).trans ps0_10
    have p11 : ((w2.setCell ⟨w.heap.size, 0, none⟩ (.int .i64 t)).setCell ⟨w.heap.size, 7, none⟩ (.int .i64 u)).cell? ⟨w.heap.size, 11, none⟩ = some (.int .i64 x11) := (World.cell?_setCell_other _ _ _ _ (by simp)).trans ps0_11
    clear ps0_0 ps0_1 ps0_2 ps0_3 ps0_4 ps0_5 ps0_6 ps0_7 ps0_8 ps0_9 ps0_10 ps0_11
    replace hB := hB.setCell (p := ⟨w.heap.size, 7, none⟩) (Nat.le_refl _) (.int .i64 u)
    have hb : Below ((w2.setCell ⟨w.heap.size, 0, none⟩ (.int .i64 t)).setCell ⟨w.heap.size, 7, none⟩ (.int .i64 u)).heap.size ((w2.setCell ⟨w.heap.size, 0, none⟩ (.int .i64 t)).setCell ⟨w.heap.size, 7, none⟩ (.int .i64 u)) (((w2.setCell ⟨w.heap.size, 0, none⟩ (.int .i64 t)).setCell ⟨w.heap.size, 7, none⟩ (.int .i64 u)).alloc (.cells #[.int .i64 t, .int .i64 0, .int .i64 x2, .int .i64 x3, .int .i64 x4, .int .i64 x5, .int .i64 x6, .int .i64 u, .bool b, .int .i64 x9, .int .i64 x10, .int .i64 x11] 23)) := (Below.refl _ _).alloc (Nat.le_refl _) _
    replace p0 := cell_keep p0 hb
    replace p1 := cell_keep p1 hb
    replace p2 := cell_keep p2 hb
    replace p3 := cell_keep p3 hb
    replace p4 := cell_keep p4 hb
    replace p5 := cell_keep p5 hb
    replace p6 := cell_keep p6 hb
    replace p7 := cell_keep p7 hb
    replace p8 := cell_keep p8 hb
    replace p9 := cell_keep p9 hb
    replace p10 := cell_keep p10 hb
    replace p11 := cell_keep p11 hb
    replace hB := below_next hB hB.size hb
    clear hb
    have d0 : (((w2.setCell ⟨w.heap.size, 0, none⟩ (.int .i64 t)).setCell ⟨w.heap.size, 7, none⟩ (.int .i64 u)).alloc (.cells #[.int .i64 t, .int .i64 0, .int .i64 x2, .int .i64 x3, .int .i64 x4, .int .i64 x5, .int .i64 x6, .int .i64 u, .bool b, .int .i64 x9, .int .i64 x10, .int .i64 x11] 23)).cell? ⟨w2.heap.size, 0, none⟩ = some (.int .i64 t) := by simp [go_sem]
    have d1 : (((w2.setCell ⟨w.heap.size, 0, none⟩ (.int .i64 t)).setCell ⟨w.heap.size, 7, none⟩ (.int .i64 u)).alloc (.cells #[.int .i64 t, .int .i64 0, .int .i64 x2, .int .i64 x3, .int .i64 x4, .int .i64 x5, .int .i64 x6, .int .i64 u, .bool b, .int .i64 x9, .int .i64 x10, .int .i64 x11] 23)).cell? ⟨w2.heap.size, 1, none⟩ = some (.int .i64 0) := by simp [go_sem]
    have d2 : (((w2.setCell ⟨w.heap.size, 0, none⟩ (.int .i64 t)).setCell ⟨w.heap.size, 7, none⟩ (.int .i64 u)).alloc (.cells #[.int .i64 t, .int .i64 0, .int .i64 x2, .int .i64 x3, .int .i64 x4, .int .i64 x5, .int .i64 x6, .int .i64 u, .bool b, .int .i64 x9, .int .i64 x10, .int .i64 x11] 23)).cell? ⟨w2.heap.size, 2, none⟩ = some (.int .i64 x2) := by simp [go_sem]
    have d3 : (((w2.setCell ⟨w.heap.size, 0, none⟩ (.int .i64 t)).setCell ⟨w.heap.size, 7, none⟩ (.int .i64 u)).alloc (.cells #[.int .i64 t, .int .i64 0, .int .i64 x2, .int .i64 x3, .int .i64 x4, .int .i64 x5, .int .i64 x6, .int .i64 u, .bool b, .int .i64 x9, .int .i64 x10, .int .i64 x11] 23)).cell? ⟨w2.heap.size, 3, none⟩ = some (.int .i64 x3) := by simp [go_sem]
    have d4 : (((w2.setCell ⟨w.heap.size, 0, none⟩ (.int .i64 t)).setCell ⟨w.heap.size, 7, none⟩ (.int .i64 u)).alloc (.cells #[.int .i64 t, .int .i64 0, .int .i64 x2, .int .i64 x3, .int .i64 x4, .int .i64 x5, .int .i64 x6, .int .i64 u, .bool b, .int .i64 x9, .int .i64 x10, .int .i64 x11] 23)).cell? ⟨w2.heap.size, 4, none⟩ = some (.int .i64 x4) := by simp [go_sem]
    have d5 : (((w2.setCell ⟨w.heap.size, 0, none⟩ (.int .i64 t)).setCell ⟨w.heap.size, 7, none⟩ (.int .i64 u)).alloc (.cells #[.int .i64 t, .int .i64 0, .int .i64 x2, .int .i64 x3, .int .i64 x4, .int .i64 x5, .int .i64 x6, .int .i64 u, .bool b, .int .i64 x9, .int .i64 x10, .int .i64 x11] 23)).cell? ⟨w2.heap.size, 5, none⟩ = some (.int .i64 x5) := by simp [go_sem]
    have d6 : (((w2.setCell ⟨w.heap.size, 0, none⟩ (.int .i64 t)).setCell ⟨w.heap.size, 7, none⟩ (.int .i64 u)).alloc (.cells #[.int .i64 t, .int .i64 0, .int .i64 x2, .int .i64 x3, .int .i64 x4, .int .i64 x5, .int .i64 x6, .int .i64 u, .bool b, .int .i64 x9, .int .i64 x10, .int .i64 x11] 23)).cell? ⟨w2.heap.size, 6, none⟩ = some (.int .i64 x6) := by simp [go_sem]
    have d7 : (((w2.setCell ⟨w.heap.size, 0, none⟩ (.int .i64 t)).setCell ⟨w.heap.size, 7, none⟩ (.int .i64 u)).alloc (.cells #[.int .i64 t, .int .i64 0, .int .i64 x2, .int .i64 x3, .int .i64 x4, .int .i64 x5, .int .i64 x6, .int .i64 u, .bool b, .int .i64 x9, .int .i64 x10, .int .i64 x11] 23)).cell? ⟨w2.heap.size, 7, none⟩ = some (.int .i64 u) := by simp [go_sem]
    have d8 : (((w2.setCell ⟨w.heap.size, 0, none⟩ (.int .i64 t)).setCell ⟨w.heap.size, 7, none⟩ (.int .i64 u)).alloc (.cells #[.int .i64 t, .int .i64 0, .int .i64 x2, .int .i64 x3, .int .i64 x4, .int .i64 x5, .int .i64 x6, .int .i64 u, .bool b, .int .i64 x9, .int .i64 x10, .int .i64 x11] 23)).cell? ⟨w2.heap.size, 8, none⟩ = some (.bool b) := by simp [go_sem]
    have d9 : (((w2.setCell ⟨w.heap.size, 0, none⟩ (.int .i64 t)).setCell ⟨w.heap.size, 7, none⟩ (.int .i64 u)).alloc (.cells #[.int .i64 t, .int .i64 0, .int .i64 x2, .int .i64 x3, .int .i64 x4, .int .i64 x5, .int .i64 x6, .int .i64 u, .bool b, .int .i64 x9, .int .i64 x10, .int .i64 x11] 23)).cell? ⟨w2.heap.size, 9, none⟩ = some (.int .i64 x9) := by simp [go_sem]
    have d10 : (((w2.setCell ⟨w.heap.size, 0, none⟩ (.int .i64 t)).setCell ⟨w.heap.size, 7, none⟩ (.int .i64 u)).alloc (.cells #[.int .i64 t, .int .i64 0, .int .i64 x2, .int .i64 x3, .int .i64 x4, .int .i64 x5, .int .i64 x6, .int .i64 u, .bool b, .int .i64 x9, .int .i64 x10, .int .i64 x11] 23)).cell? ⟨w2.heap.size, 10, none⟩ = some (.int .i64 x10) := by simp [go_sem]
    have d11 : (((w2.setCell ⟨w.heap.size, 0, none⟩ (.int .i64 t)).setCell ⟨w.heap.size, 7, none⟩ (.int .i64 u)).alloc (.cells #[.int .i64 t, .int .i64 0, .int .i64 x2, .int .i64 x3, .int .i64 x4, .int .i64 x5, .int .i64 x6, .int .i64 u, .bool b, .int .i64 x9, .int .i64 x10, .int .i64 x11] 23)).cell? ⟨w2.heap.size, 11, none⟩ = some (.int .i64 x11) := by simp [go_sem]
    have ht : t < 1 ∨ 16 < t ∨ (1 ≤ t ∧ t ≤ 16) := by omega
    have hu : u < 0 ∨ 1000 < u ∨ (0 ≤ u ∧ u ≤ 1000) := by omega
    rcases ht with ht | ht | ht
    · rcases hu with hu | hu | hu
      · rw [show (if t < 1 ∨ 16 < t then 50 else if u < 0 ∨ 1000 < u then 57 else 0 : Int) = 50 by rw [if_pos (by omega)]] at KA
        rw [show (if t < 1 ∨ 16 < t then 50 else 51 : Int) = 50 by rw [if_pos (by omega)]] at KD
        go_wp2_with fail
        refine (KA.out _).mono ?_
        rintro x w3 ⟨rfl, hb⟩
        clear zq0 zq7 q0 q1 q2 q3 q4 q5 q6 q7 q8 q9 q10 q11
        replace p0 := cell_keep p0 hb
        replace p1 := cell_keep p1 hb
        replace p2 := cell_keep p2 hb
        replace p3 := cell_keep p3 hb
        replace p4 := cell_keep p4 hb
        replace p5 := cell_keep p5 hb
        replace p6 := cell_keep p6 hb
        replace p7 := cell_keep p7 hb
        replace p8 := cell_keep p8 hb
        replace p9 := cell_keep p9 hb
        replace p10 := cell_keep p10 hb
        replace p11 := cell_keep p11 hb
        replace d0 := cell_keep d0 hb
        replace d1 := cell_keep d1 hb
        replace d2 := cell_keep d2 hb
        replace d3 := cell_keep d3 hb
        replace d4 := cell_keep d4 hb
        replace d5 := cell_keep d5 hb
        replace d6 := cell_keep d6 hb
        replace d7 := cell_keep d7 hb
        replace d8 := cell_keep d8 hb
        replace d9 := cell_keep d9 hb
        replace d10 := cell_keep d10 hb
        replace d11 := cell_keep d11 hb
        replace hB := below_next hB hB.size hb
        clear hb
        go_wp2_with fail
        refine (KD.out _).mono ?_
        rintro x w4 ⟨rfl, hb⟩
        replace p0 := cell_keep p0 hb
        replace p1 := cell_keep p1 hb
        replace p2 := cell_keep p2 hb
        replace p3 := cell_keep p3 hb
        replace p4 := cell_keep p4 hb
        replace p5 := cell_keep p5 hb
        replace p6 := cell_keep p6 hb
        replace p7 := cell_keep p7 hb
        replace p8 := cell_keep p8 hb
        replace p9 := cell_keep p9 hb
        replace p10 := cell_keep p10 hb
        replace p11 := cell_keep p11 hb
        replace d0 := cell_keep d0 hb
        replace d1 := cell_keep d1 hb
        replace d2 := cell_keep d2 hb
        replace d3 := cell_keep d3 hb
        replace d4 := cell_keep d4 hb
        replace d5 := cell_keep d5 hb
        replace d6 := cell_keep d6 hb
        replace d7 := cell_keep d7 hb
        replace d8 := cell_keep d8 hb
        replace d9 := cell_keep d9 hb
        replace d10 := cell_keep d10 hb
        replace d11 := cell_keep d11 hb
        replace hB := below_next hB hB.size hb
        clear hb
        go_wp2
        go_ret
        exact ⟨rfl, hB⟩
      · rw [show (if t < 1 ∨ 16 < t then 50 else if u < 0 ∨ 1000 < u then 57 else 0 : Int) = 50 by rw [if_pos (by omega)]] at KA
        rw [show (if t < 1 ∨ 16 < t then 50 else 51 : Int) = 50 by rw [if_pos (by omega)]] at KD
        go_wp2_with fail
        refine (KA.out _).mono ?_
        rintro x w3 ⟨rfl, hb⟩
        clear zq0 zq7 q0 q1 q2 q3 q4 q5 q6 q7 q8 q9 q10 q11
        replace p0 := cell_keep p0 hb
        replace p1 := cell_keep p1 hb
        replace p2 := cell_keep p2 hb
        replace p3 := cell_keep p3 hb
        replace p4 := cell_keep p4 hb
        replace p5 := cell_keep p5 hb
        replace p6 := cell_keep p6 hb
        replace p7 := cell_keep p7 hb
        replace p8 := cell_keep p8 hb
        replace p9 := cell_keep p9 hb
        replace p10 := cell_keep p10 hb
        replace p11 := cell_keep p11 hb
        replace d0 := cell_keep d0 hb
        replace d1 := cell_keep d1 hb
        replace d2 := cell_keep d2 hb
        replace d3 := cell_keep d3 hb
        replace d4 := cell_keep d4 hb
        replace d5 := cell_keep d5 hb
        replace d6 := cell_keep d6 hb
        replace d7 := cell_keep d7 hb
        replace d8 := cell_keep d8 hb
        replace d9 := cell_keep d9 hb
        replace d10 := cell_keep d10 hb
        replace d11 := cell_keep d11 hb
        replace hB := below_next hB hB.size hb
        clear hb
        go_wp2_with fail
        refine (KD.out _).mono ?_
        rintro x w4 ⟨rfl, hb⟩
        replace p0 := cell_keep p0 hb
        replace p1 := cell_keep p1 hb
        replace p2 := cell_keep p2 hb
        replace p3 := cell_keep p3 hb
        replace p4 := cell_keep p4 hb
        replace p5 := cell_keep p5 hb
        replace p6 := cell_keep p6 hb
        replace p7 := cell_keep p7 hb
        replace p8 := cell_keep p8 hb
        replace p9 := cell_keep p9 hb
        replace p10 := cell_keep p10 hb
        replace p11 := cell_keep p11 hb
        replace d0 := cell_keep d0 hb
        replace d1 := cell_keep d1 hb
        replace d2 := cell_keep d2 hb
        replace d3 := cell_keep d3 hb
        replace d4 := cell_keep d4 hb
        replace d5 := cell_keep d5 hb
        replace d6 := cell_keep d6 hb
        replace d7 := cell_keep d7 hb
        replace d8 := cell_keep d8 hb
        replace d9 := cell_keep d9 hb
        replace d10 := cell_keep d10 hb
        replace d11 := cell_keep d11 hb
        replace hB := below_next hB hB.size hb
        clear hb
        go_wp2
        go_ret
        exact ⟨rfl, hB⟩
      · rw [show (if t < 1 ∨ 16 < t then 50 else if u < 0 ∨ 1000 < u then 57 else 0 : Int) = 50 by rw [if_pos (by omega)]] at KA
        rw [show (if t < 1 ∨ 16 < t then 50 else 51 : Int) = 50 by rw [if_pos (by omega)]] at KD
        go_wp2_with fail
        refine (KA.out _).mono ?_
        rintro x w3 ⟨rfl, hb⟩
        clear zq0 zq7 q0 q1 q2 q3 q4 q5 q6 q7 q8 q9 q10 q11
        replace p0 := cell_keep p0 hb
        replace p1 := cell_keep p1 hb
        replace p2 := cell_keep p2 hb
        replace p3 := cell_keep p3 hb
        replace p4 := cell_keep p4 hb
        replace p5 := cell_keep p5 hb
        replace p6 := cell_keep p6 hb
        replace p7 := cell_keep p7 hb
        replace p8 := cell_keep p8 hb
        replace p9 := cell_keep p9 hb
        replace p10 := cell_keep p10 hb
        replace p11 := cell_keep p11 hb
        replace d0 := cell_keep d0 hb
        replace d1 := cell_keep d1 hb
        replace d2 := cell_keep d2 hb
        replace d3 := cell_keep d3 hb
        replace d4 := cell_keep d4 hb
        replace d5 := cell_keep d5 hb
        replace d6 := cell_keep d6 hb
        replace d7 := cell_keep d7 hb
        replace d8 := cell_keep d8 hb
        replace d9 := cell_keep d9 hb
        replace d10 := cell_keep d10 hb
        replace d11 := cell_keep d11 hb
        replace hB := below_next hB hB.size hb
        clear hb
        go_wp2_with fail
        refine (KD.out _).mono ?_
        rintro x w4 ⟨rfl, hb⟩
        replace p0 := cell_keep p0 hb
        replace p1 := cell_keep p1 hb
        replace p2 := cell_keep p2 hb
        replace p3 := cell_keep p3 hb
        replace p4 := cell_keep p4 hb
        replace p5 := cell_keep p5 hb
        replace p6 := cell_keep p6 hb
        replace p7 := cell_keep p7 hb
        replace p8 := cell_keep p8 hb
        replace p9 := cell_keep p9 hb
        replace p10 := cell_keep p10 hb
        replace p11 := cell_keep p11 hb
        replace d0 := cell_keep d0 hb
        replace d1 := cell_keep d1 hb
        replace d2 := cell_keep d2 hb
        replace d3 := cell_keep d3 hb
        replace d4 := cell_keep d4 hb
        replace d5 := cell_keep d5 hb
        replace d6 := cell_keep d6 hb
        replace d7 := cell_keep d7 hb
        replace d8 := cell_keep d8 hb
        replace d9 := cell_keep d9 hb
        replace d10 := cell_keep d10 hb
        replace d11 := cell_keep d11 hb
        replace hB := below_next hB hB.size hb
        clear hb
        go_wp2
        go_ret
        exact ⟨rfl, hB⟩
    · rcases hu with hu | hu | hu
      · rw [show (if t < 1 ∨ 16 < t then 50 else if u < 0 ∨ 1000 < u then 57 else 0 : Int) = 50 by rw [if_pos (by omega)]] at KA
        rw [show (if t < 1 ∨ 16 < t then 50 else 51 : Int) = 50 by rw [if_pos (by omega)]] at KD
        go_wp2_with fail
        refine (KA.out _).mono ?_
        rintro x w3 ⟨rfl, hb⟩
        clear zq0 zq7 q0 q1 q2 q3 q4 q5 q6 q7 q8 q9 q10 q11
        replace p0 := cell_keep p0 hb
        replace p1 := cell_keep p1 hb
        replace p2 := cell_keep p2 hb
        replace p3 := cell_keep p3 hb
        replace p4 := cell_keep p4 hb
        replace p5 := cell_keep p5 hb
        replace p6 := cell_keep p6 hb
        replace p7 := cell_keep p7 hb
        replace p8 := cell_keep p8 hb
        replace p9 := cell_keep p9 hb
        replace p10 := cell_keep p10 hb
        replace p11 := cell_keep p11 hb
        replace d0 := cell_keep d0 hb
        replace d1 := cell_keep d1 hb
        replace d2 := cell_keep d2 hb
        replace d3 := cell_keep d3 hb
        replace d4 := cell_keep d4 hb
        replace d5 := cell_keep d5 hb
        replace d6 := cell_keep d6 hb
        replace d7 := cell_keep d7 hb
        replace d8 := cell_keep d8 hb
        replace d9 := cell_keep d9 hb
        replace d10 := cell_keep d10 hb
        replace d11 := cell_keep d11 hb
        replace hB := below_next hB hB.size hb
        clear hb
        go_wp2_with fail
        refine (KD.out _).mono ?_
        rintro x w4 ⟨rfl, hb⟩
        replace p0 := cell_keep p0 hb
        replace p1 := cell_keep p1 hb
        replace p2 := cell_keep p2 hb
        replace p3 := cell_keep p3 hb
        replace p4 := cell_keep p4 hb
        replace p5 := cell_keep p5 hb
        replace p6 := cell_keep p6 hb
        replace p7 := cell_keep p7 hb
        replace p8 := cell_keep p8 hb
        replace p9 := cell_keep p9 hb
        replace p10 := cell_keep p10 hb
        replace p11 := cell_keep p11 hb
        replace d0 := cell_keep d0 hb
        replace d1 := cell_keep d1 hb
        replace d2 := cell_keep d2 hb
        replace d3 := cell_keep d3 hb
        replace d4 := cell_keep d4 hb
        replace d5 := cell_keep d5 hb
        replace d6 := cell_keep d6 hb
        replace d7 := cell_keep d7 hb
        replace d8 := cell_keep d8 hb
        replace d9 := cell_keep d9 hb
        replace d10 := cell_keep d10 hb
        replace d11 := cell_keep d11 hb
        replace hB := below_next hB hB.size hb
        clear hb
        go_wp2
        go_ret
        exact ⟨rfl, hB⟩
      · rw [show (if t < 1 ∨ 16 < t then 50 else if u < 0 ∨ 1000 < u then 57 else 0 : Int) = 50 by rw [if_pos (by omega)]] at KA
        rw [show (if t < 1 ∨ 16 < t then 50 else 51 : Int) = 50 by rw [if_pos (by omega)]] at KD
        go_wp2_with fail
        refine (KA.out _).mono ?_
        rintro x w3 ⟨rfl, hb⟩
        clear zq0 zq7 q0 q1 q2 q3 q4 q5 q6 q7 q8 q9 q10 q11
        replace p0 := cell_keep p0 hb
        replace p1 := cell_keep p1 hb
        replace p2 := cell_keep p2 hb
        replace p3 := cell_keep p3 hb
        replace p4 := cell_keep p4 hb
        replace p5 := cell_keep p5 hb
        replace p6 := cell_keep p6 hb
        replace p7 := cell_keep p7 hb
        replace p8 := cell_keep p8 hb
        replace p9 := cell_keep p9 hb
        replace p10 := cell_keep p10 hb
        replace p11 := cell_keep p11 hb
        replace d0 := cell_keep d0 hb
        replace d1 := cell_keep d1 hb
        replace d2 := cell_keep d2 hb
        replace d3 := cell_keep d3 hb
        replace d4 := cell_keep d4 hb
        replace d5 := cell_keep d5 hb
        replace d6 := cell_keep d6 hb
        replace d7 := cell_keep d7 hb
        replace d8 := cell_keep d8 hb
        replace d9 := cell_keep d9 hb
        replace d10 := cell_keep d10 hb
        replace d11 := cell_keep d11 hb
        replace hB := below_next hB hB.size hb
        clear hb
        go_wp2_with fail
        refine (KD.out _).mono ?_
        rintro x w4 ⟨rfl, hb⟩
        replace p0 := cell_keep p0 hb
        replace p1 := cell_keep p1 hb
        replace p2 := cell_keep p2 hb
        replace p3 := cell_keep p3 hb
        replace p4 := cell_keep p4 hb
        replace p5 := cell_keep p5 hb
        replace p6 := cell_keep p6 hb
        replace p7 := cell_keep p7 hb
        replace p8 := cell_keep p8 hb
        replace p9 := cell_keep p9 hb
        replace p10 := cell_keep p10 hb
        replace p11 := cell_keep p11 hb
        replace d0 := cell_keep d0 hb
        replace d1 := cell_keep d1 hb
        replace d2 := cell_keep d2 hb
        replace d3 := cell_keep d3 hb
        replace d4 := cell_keep d4 hb
        replace d5 := cell_keep d5 hb
        replace d6 := cell_keep d6 hb
        replace d7 := cell_keep d7 hb
        replace d8 := cell_keep d8 hb
        replace d9 := cell_keep d9 hb
        replace d10 := cell_keep d10 hb
        replace d11 := cell_keep d11 hb
        replace hB := below_next hB hB.size hb
        clear hb
        go_wp2
        go_ret
        exact ⟨rfl, hB⟩
      · rw [show (if t < 1 ∨ 16 < t then 50 else if u < 0 ∨ 1000 < u then 57 else 0 : Int) = 50 by rw [if_pos (by omega)]] at KA
        rw [show (if t < 1 ∨ 16 < t then 50 else 51 : Int) = 50 by rw [if_pos (by omega)]] at KD
        go_wp2_with fail
        refine (KA.out _).mono ?_
        rintro x w3 ⟨rfl, hb⟩
        clear zq0 zq7 q0 q1 q2 q3 q4 q5 q6 q7 q8 q9 q10 q11
        replace p0 := cell_keep p0 hb
        replace p1 := cell_keep p1 hb
        replace p2 := cell_keep p2 hb
        replace p3 := cell_keep p3 hb
        replace p4 := cell_keep p4 hb
        replace p5 := cell_keep p5 hb
        replace p6 := cell_keep p6 hb
        replace p7 := cell_keep p7 hb
        replace p8 := cell_keep p8 hb
        replace p9 := cell_keep p9 hb
        replace p10 := cell_keep p10 hb
        replace p11 := cell_keep p11 hb
        replace d0 := cell_keep d0 hb
        replace d1 := cell_keep d1 hb
        replace d2 := cell_keep d2 hb
        replace d3 := cell_keep d3 hb
        replace d4 := cell_keep d4 hb
        replace d5 := cell_keep d5 hb
        replace d6 := cell_keep d6 hb
        replace d7 := cell_keep d7 hb
        replace d8 := cell_keep d8 hb
        replace d9 := cell_keep d9 hb
        replace d10 := cell_keep d10 hb
        replace d11 := cell_keep d11 hb
        replace hB := below_next hB hB.size hb
        clear hb
        go_wp2_with fail
        refine (KD.out _).mono ?_
        rintro x w4 ⟨rfl, hb⟩
        replace p0 := cell_keep p0 hb
        replace p1 := cell_keep p1 hb
        replace p2 := cell_keep p2 hb
        replace p3 := cell_keep p3 hb
        replace p4 := cell_keep p4 hb
        replace p5 := cell_keep p5 hb
        replace p6 := cell_keep p6 hb
        replace p7 := cell_keep p7 hb
        replace p8 := cell_keep p8 hb
        replace p9 := cell_keep p9 hb
        replace p10 := cell_keep p10 hb
        replace p11 := cell_keep p11 hb
        replace d0 := cell_keep d0 hb
        replace d1 := cell_keep d1 hb
        replace d2 := cell_keep d2 hb
        replace d3 := cell_keep d3 hb
        replace d4 := cell_keep d4 hb
        replace d5 := cell_keep d5 hb
        replace d6 := cell_keep d6 hb
        replace d7 := cell_keep d7 hb
        replace d8 := cell_keep d8 hb
        replace d9 := cell_keep d9 hb
        replace d10 := cell_keep d10 hb
        replace d11 := cell_keep d11 hb
        replace hB := below_next hB hB.size hb
        clear hb
        go_wp2
        go_ret
        exact ⟨rfl, hB⟩
    · rcases hu with hu | hu | hu
      · rw [show (if t < 1 ∨ 16 < t then 50 else if u < 0 ∨ 1000 < u then 57 else 0 : Int) = 57 by rw [if_neg (by omega), if_pos (by omega)]] at KA
        rw [show (if t < 1 ∨ 16 < t then 50 else 51 : Int) = 51 by rw [if_neg (by omega)]] at KD
        go_wp2_with fail
        refine (KA.out _).mono ?_
        rintro x w3 ⟨rfl, hb⟩
        clear zq0 zq7 q0 q1 q2 q3 q4 q5 q6 q7 q8 q9 q10 q11
        replace p0 := cell_keep p0 hb
        replace p1 := cell_keep p1 hb
        replace p2 := cell_keep p2 hb
        replace p3 := cell_keep p3 hb
        replace p4 := cell_keep p4 hb
        replace p5 := cell_keep p5 hb
        replace p6 := cell_keep p6 hb
        replace p7 := cell_keep p7 hb
        replace p8 := cell_keep p8 hb
        replace p9 := cell_keep p9 hb
        replace p10 := cell_keep p10 hb
        replace p11 := cell_keep p11 hb
        replace d0 := cell_keep d0 hb
        replace d1 := cell_keep d1 hb
        replace d2 := cell_keep d2 hb
        replace d3 := cell_keep d3 hb
        replace d4 := cell_keep d4 hb
        replace d5 := cell_keep d5 hb
        replace d6 := cell_keep d6 hb
        replace d7 := cell_keep d7 hb
        replace d8 := cell_keep d8 hb
        replace d9 := cell_keep d9 hb
        replace d10 := cell_keep d10 hb
        replace d11 := cell_keep d11 hb
        replace hB := below_next hB hB.size hb
        clear hb
        go_wp2_with fail
        refine (KD.out _).mono ?_
        rintro x w4 ⟨rfl, hb⟩
        replace p0 := cell_keep p0 hb
        replace p1 := cell_keep p1 hb
        replace p2 := cell_keep p2 hb
        replace p3 := cell_keep p3 hb
        replace p4 := cell_keep p4 hb
        replace p5 := cell_keep p5 hb
        replace p6 := cell_keep p6 hb
        replace p7 := cell_keep p7 hb
        replace p8 := cell_keep p8 hb
        replace p9 := cell_keep p9 hb
        replace p10 := cell_keep p10 hb
        replace p11 := cell_keep p11 hb
        replace d0 := cell_keep d0 hb
        replace d1 := cell_keep d1 hb
        replace d2 := cell_keep d2 hb
        replace d3 := cell_keep d3 hb
        replace d4 := cell_keep d4 hb
        replace d5 := cell_keep d5 hb
        replace d6 := cell_keep d6 hb
        replace d7 := cell_keep d7 hb
        replace d8 := cell_keep d8 hb
        replace d9 := cell_keep d9 hb
        replace d10 := cell_keep d10 hb
        replace d11 := cell_keep d11 hb
        replace hB := below_next hB hB.size hb
        clear hb
        go_wp2
        go_ret
        exact ⟨rfl, hB⟩
      · rw [show (if t < 1 ∨ 16 < t then 50 else if u < 0 ∨ 1000 < u then 57 else 0 : Int) = 57 by rw [if_neg (by omega), if_pos (by omega)]] at KA
        rw [show (if t < 1 ∨ 16 < t then 50 else 51 : Int) = 51 by rw [if_neg (by omega)]] at KD
        go_wp2_with fail
        refine (KA.out _).mono ?_
        rintro x w3 ⟨rfl, hb⟩
        clear zq0 zq7 q0 q1 q2 q3 q4 q5 q6 q7 q8 q9 q10 q11
        replace p0 := cell_keep p0 hb
        replace p1 := cell_keep p1 hb
        replace p2 := cell_keep p2 hb
        replace p3 := cell_keep p3 hb
        replace p4 := cell_keep p4 hb
        replace p5 := cell_keep p5 hb
        replace p6 := cell_keep p6 hb
        replace p7 := cell_keep p7 hb
        replace p8 := cell_keep p8 hb
        replace p9 := cell_keep p9 hb
        replace p10 := cell_keep p10 hb
        replace p11 := cell_keep p11 hb
        replace d0 := cell_keep d0 hb
        replace d1 := cell_keep d1 hb
        replace d2 := cell_keep d2 hb
        replace d3 := cell_keep d3 hb
        replace d4 := cell_keep d4 hb
        replace d5 := cell_keep d5 hb
        replace d6 := cell_keep d6 hb
        replace d7 := cell_keep d7 hb
        replace d8 := cell_keep d8 hb
        replace d9 := cell_keep d9 hb
        replace d10 := cell_keep d10 hb
        replace d11 := cell_keep d11 hb
        replace hB := below_next hB hB.size hb
        clear hb
        go_wp2_with fail
        refine (KD.out _).mono ?_
        rintro x w4 ⟨rfl, hb⟩
        replace p0 := cell_keep p0 hb
        replace p1 := cell_keep p1 hb
        replace p2 := cell_keep p2 hb
        replace p3 := cell_keep p3 hb
        replace p4 := cell_keep p4 hb
        replace p5 := cell_keep p5 hb
        replace p6 := cell_keep p6 hb
        replace p7 := cell_keep p7 hb
        replace p8 := cell_keep p8 hb
        replace p9 := cell_keep p9 hb
        replace p10 := cell_keep p10 hb
        replace p11 := cell_keep p11 hb
        replace d0 := cell_keep d0 hb
        replace d1 := cell_keep d1 hb
        replace d2 := cell_keep d2 hb
        replace d3 := cell_keep d3 hb
        replace d4 := cell_keep d4 hb
        replace d5 := cell_keep d5 hb
        replace d6 := cell_keep d6 hb
        replace d7 := cell_keep d7 hb
        replace d8 := cell_keep d8 hb
        replace d9 := cell_keep d9 hb
        replace d10 := cell_keep d10 hb
        replace d11 := cell_keep d11 hb
        replace hB := below_next hB hB.size hb
        clear hb
        go_wp2
        go_ret
        exact ⟨rfl, hB⟩
      · rw [show (if t < 1 ∨ 16 < t then 50 else if u < 0 ∨ 1000 < u then 57 else 0 : Int) = 0 by rw [if_neg (by omega), if_neg (by omega)]] at KA
        rw [show (if t < 1 ∨ 16 < t then 50 else 51 : Int) = 51 by rw [if_neg (by omega)]] at KD
        go_wp2_with fail
        refine (KA.out _).mono ?_
        rintro x w3 ⟨rfl, hb⟩
        clear zq0 zq7 q0 q1 q2 q3 q4 q5 q6 q7 q8 q9 q10 q11
        replace p0 := cell_keep p0 hb
        replace p1 := cell_keep p1 hb
        replace p2 := cell_keep p2 hb
        replace p3 := cell_keep p3 hb
        replace p4 := cell_keep p4 hb
        replace p5 := cell_keep p5 hb
        replace p6 := cell_keep p6 hb
        replace p7 := cell_keep p7 hb
        replace p8 := cell_keep p8 hb
        replace p9 := cell_keep p9 hb
        replace p10 := cell_keep p10 hb
        replace p11 := cell_keep p11 hb
        replace d0 := cell_keep d0 hb
        replace d1 := cell_keep d1 hb
        replace d2 := cell_keep d2 hb
        replace d3 := cell_keep d3 hb
        replace d4 := cell_keep d4 hb
        replace d5 := cell_keep d5 hb
        replace d6 := cell_keep d6 hb
        replace d7 := cell_keep d7 hb
        replace d8 := cell_keep d8 hb
        replace d9 := cell_keep d9 hb
        replace d10 := cell_keep d10 hb
        replace d11 := cell_keep d11 hb
        replace hB := below_next hB hB.size hb
        clear hb
        go_wp2_with fail
        refine (KD.out _).mono ?_
        rintro x w4 ⟨rfl, hb⟩
        replace p0 := cell_keep p0 hb
        replace p1 := cell_keep p1 hb
        replace p2 := cell_keep p2 hb
        replace p3 := cell_keep p3 hb
        replace p4 := cell_keep p4 hb
        replace p5 := cell_keep p5 hb
        replace p6 := cell_keep p6 hb
        replace p7 := cell_keep p7 hb
        replace p8 := cell_keep p8 hb
        replace p9 := cell_keep p9 hb
        replace p10 := cell_keep p10 hb
        replace p11 := cell_keep p11 hb
        replace d0 := cell_keep d0 hb
        replace d1 := cell_keep d1 hb
        replace d2 := cell_keep d2 hb
        replace d3 := cell_keep d3 hb
        replace d4 := cell_keep d4 hb
        replace d5 := cell_keep d5 hb
        replace d6 := cell_keep d6 hb
        replace d7 := cell_keep d7 hb
        replace d8 := cell_keep d8 hb
        replace d9 := cell_keep d9 hb
        replace d10 := cell_keep d10 hb
        replace d11 := cell_keep d11 hb
        replace hB := below_next hB hB.size hb
        clear hb
        go_wp2
        go_ret
        exact ⟨rfl, hB⟩
  · have h1 : (e == 0) = false := by simpa using h0
    clear HO
    go_enter Try.func6, Try.ntmps6
    go_wp2_with fail
    refine (KR.out _).mono ?_
    rintro x w1 ⟨rfl, hb⟩
    replace hB := below_next hB hB.size hb
    clear hb
    go_wp2_with fail
    refine (shown5_any _).mono ?_
    rintro x w2 ⟨rfl, hb⟩
    replace hB := below_next hB hB.size hb
    clear hb
    go_wp2
    go_ret
    exact ⟨rfl, hB⟩

end Go.Proofs.Ytcnmgojllgepbaa
