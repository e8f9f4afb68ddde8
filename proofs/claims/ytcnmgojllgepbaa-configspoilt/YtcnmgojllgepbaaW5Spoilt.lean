/- The walk of ConfigSpoilt. -/
import Derived.Test.YtcnmgojllgepbaaW5Math
import Derived.Lib.QuietBelow
import Derived.Deep.QuietTactic
namespace Go.Proofs.Ytcnmgojllgepbaa
open Go.RowKit Go.Sort
set_option linter.unusedVariables false

set_option maxRecDepth 100000 in
set_option maxHeartbeats 8000000 in
theorem walkSpoilt (x0 x1 x2 x3 x4 x5 x6 x7 : Int) (b : Bool) (x9 x10 x11 : Int) (a : Nat) (ha : a < 256) (below : Bool) (w : World) : Calls Try.prog 4 #[.agg #[.int .i64 x0, .int .i64 x1, .int .i64 x2, .int .i64 x3, .int .i64 x4, .int .i64 x5, .int .i64 x6, .int .i64 x7, .bool b, .int .i64 x9, .int .i64 x10, .int .i64 x11], .int .u8 (a : Int), .bool below] w (BoolPost true w) := by
  have hB : Below w.heap.size w (w.alloc (.cells #[.int .i64 x0, .int .i64 x1, .int .i64 x2, .int .i64 x3, .int .i64 x4, .int .i64 x5, .int .i64 x6, .int .i64 x7, .bool b, .int .i64 x9, .int .i64 x10, .int .i64 x11] 23)) := (Below.refl _ w).alloc (Nat.le_refl _) _
  have q0 : (w.alloc (.cells #[.int .i64 x0, .int .i64 x1, .int .i64 x2, .int .i64 x3, .int .i64 x4, .int .i64 x5, .int .i64 x6, .int .i64 x7, .bool b, .int .i64 x9, .int .i64 x10, .int .i64 x11] 23)).cell? ⟨w.heap.size, 0, none⟩ = some (.int .i64 x0) := by simp [go_sem]
  have q1 : (w.alloc (.cells #[.int .i64 x0, .int .i64 x1, .int .i64 x2, .int .i64 x3, .int .i64 x4, .int .i64 x5, .int .i64 x6, .int .i64 x7, .bool b, .int .i64 x9, .int .i64 x10, .int .i64 x11] 23)).cell? ⟨w.heap.size, 1, none⟩ = some (.int .i64 x1) := by simp [go_sem]
  have q2 : (w.alloc (.cells #[.int .i64 x0, .int .i64 x1, .int .i64 x2, .int .i64 x3, .int .i64 x4, .int .i64 x5, .int .i64 x6, .int .i64 x7, .bool b, .int .i64 x9, .int .i64 x10, .int .i64 x11] 23)).cell? ⟨w.heap.size, 2, none⟩ = some (.int .i64 x2) := by simp [go_sem]
  have q3 : (w.alloc (.cells #[.int .i64 x0, .int .i64 x1, .int .i64 x2, .int .i64 x3, .int .i64 x4, .int .i64 x5, .int .i64 x6, .int .i64 x7, .bool b, .int .i64 x9, .int .i64 x10, .int .i64 x11] 23)).cell? ⟨w.heap.size, 3, none⟩ = some (.int .i64 x3) := by simp [go_sem]
  have q4 : (w.alloc (.cells #[.int .i64 x0, .int .i64 x1, .int .i64 x2, .int .i64 x3, .int .i64 x4, .int .i64 x5, .int .i64 x6, .int .i64 x7, .bool b, .int .i64 x9, .int .i64 x10, .int .i64 x11] 23)).cell? ⟨w.heap.size, 4, none⟩ = some (.int .i64 x4) := by simp [go_sem]
  have q5 : (w.alloc (.cells #[.int .i64 x0, .int .i64 x1, .int .i64 x2, .int .i64 x3, .int .i64 x4, .int .i64 x5, .int .i64 x6, .int .i64 x7, .bool b, .int .i64 x9, .int .i64 x10, .int .i64 x11] 23)).cell? ⟨w.heap.size, 5, none⟩ = some (.int .i64 x5) := by simp [go_sem]
  have q6 : (w.alloc (.cells #[.int .i64 x0, .int .i64 x1, .int .i64 x2, .int .i64 x3, .int .i64 x4, .int .i64 x5, .int .i64 x6, .int .i64 x7, .bool b, .int .i64 x9, .int .i64 x10, .int .i64 x11] 23)).cell? ⟨w.heap.size, 6, none⟩ = some (.int .i64 x6) := by simp [go_sem]
  have q7 : (w.alloc (.cells #[.int .i64 x0, .int .i64 x1, .int .i64 x2, .int .i64 x3, .int .i64 x4, .int .i64 x5, .int .i64 x6, .int .i64 x7, .bool b, .int .i64 x9, .int .i64 x10, .int .i64 x11] 23)).cell? ⟨w.heap.size, 7, none⟩ = some (.int .i64 x7) := by simp [go_sem]
  have q8 : (w.alloc (.cells #[.int .i64 x0, .int .i64 x1, .int .i64 x2, .int .i64 x3, .int .i64 x4, .int .i64 x5, .int .i64 x6, .int .i64 x7, .bool b, .int .i64 x9, .int .i64 x10, .int .i64 x11] 23)).cell? ⟨w.heap.size, 8, none⟩ = some (.bool b) := by simp [go_sem]
  have q9 : (w.alloc (.cells #[.int .i64 x0, .int .i64 x1, .int .i64 x2, .int .i64 x3, .int .i64 x4, .int .i64 x5, .int .i64 x6, .int .i64 x7, .bool b, .int .i64 x9, .int .i64 x10, .int .i64 x11] 23)).cell? ⟨w.heap.size, 9, none⟩ = some (.int .i64 x9) := by simp [go_sem]
  have q10 : (w.alloc (.cells #[.int .i64 x0, .int .i64 x1, .int .i64 x2, .int .i64 x3, .int .i64 x4, .int .i64 x5, .int .i64 x6, .int .i64 x7, .bool b, .int .i64 x9, .int .i64 x10, .int .i64 x11] 23)).cell? ⟨w.heap.size, 10, none⟩ = some (.int .i64 x10) := by simp [go_sem]
  have q11 : (w.alloc (.cells #[.int .i64 x0, .int .i64 x1, .int .i64 x2, .int .i64 x3, .int .i64 x4, .int .i64 x5, .int .i64 x6, .int .i64 x7, .bool b, .int .i64 x9, .int .i64 x10, .int .i64 x11] 23)).cell? ⟨w.heap.size, 11, none⟩ = some (.int .i64 x11) := by simp [go_sem]
  have zq0 : (w.alloc (.cells #[.int .i64 x0, .int .i64 x1, .int .i64 x2, .int .i64 x3, .int .i64 x4, .int .i64 x5, .int .i64 x6, .int .i64 x7, .bool b, .int .i64 x9, .int .i64 x10, .int .i64 x11] 23)).frozen? ⟨w.heap.size, 0, none⟩ = false := by simp [go_sem]
  have zq1 : (w.alloc (.cells #[.int .i64 x0, .int .i64 x1, .int .i64 x2, .int .i64 x3, .int .i64 x4, .int .i64 x5, .int .i64 x6, .int .i64 x7, .bool b, .int .i64 x9, .int .i64 x10, .int .i64 x11] 23)).frozen? ⟨w.heap.size, 1, none⟩ = false := by simp [go_sem]
  have zq2 : (w.alloc (.cells #[.int .i64 x0, .int .i64 x1, .int .i64 x2, .int .i64 x3, .int .i64 x4, .int .i64 x5, .int .i64 x6, .int .i64 x7, .bool b, .int .i64 x9, .int .i64 x10, .int .i64 x11] 23)).frozen? ⟨w.heap.size, 2, none⟩ = false := by simp [go_sem]
  have zq3 : (w.alloc (.cells #[.int .i64 x0, .int .i64 x1, .int .i64 x2, .int .i64 x3, .int .i64 x4, .int .i64 x5, .int .i64 x6, .int .i64 x7, .bool b, .int .i64 x9, .int .i64 x10, .int .i64 x11] 23)).frozen? ⟨w.heap.size, 3, none⟩ = false := by simp [go_sem]
  have zq4 : (w.alloc (.cells #[.int .i64 x0, .int .i64 x1, .int .i64 x2, .int .i64 x3, .int .i64 x4, .int .i64 x5, .int .i64 x6, .int .i64 x7, .bool b, .int .i64 x9, .int .i64 x10, .int .i64 x11] 23)).frozen? ⟨w.heap.size, 4, none⟩ = false := by simp [go_sem]
  have zq5 : (w.alloc (.cells #[.int .i64 x0, .int .i64 x1, .int .i64 x2, .int .i64 x3, .int .i64 x4, .int .i64 x5, .int .i64 x6, .int .i64 x7, .bool b, .int .i64 x9, .int .i64 x10, .int .i64 x11] 23)).frozen? ⟨w.heap.size, 5, none⟩ = false := by simp [go_sem]
  have zq6 : (w.alloc (.cells #[.int .i64 x0, .int .i64 x1, .int .i64 x2, .int .i64 x3, .int .i64 x4, .int .i64 x5, .int .i64 x6, .int .i64 x7, .bool b, .int .i64 x9, .int .i64 x10, .int .i64 x11] 23)).frozen? ⟨w.heap.size, 6, none⟩ = false := by simp [go_sem]
  have zq7 : (w.alloc (.cells #[.int .i64 x0, .int .i64 x1, .int .i64 x2, .int .i64 x3, .int .i64 x4, .int .i64 x5, .int .i64 x6, .int .i64 x7, .bool b, .int .i64 x9, .int .i64 x10, .int .i64 x11] 23)).frozen? ⟨w.heap.size, 7, none⟩ = false := by simp [go_sem]
  obtain ⟨e, he⟩ : ∃ e, ckV x0 x1 x2 x3 x4 x5 x6 x7 b x9 x10 x11 = e := ⟨_, rfl⟩
  have KC := hide (check_any x0 x1 x2 x3 x4 x5 x6 x7 b x9 x10 x11)
  have KR := hide (rcheck_any x0 x1 x2 x3 x4 x5 x6 x7 b x9 x10 x11)
  rw [he] at KC KR
  have HO := hide (ck_ok x0 x1 x2 x3 x4 x5 x6 x7 b x9 x10 x11)
  rw [he] at HO
  clear he
  by_cases h0 : e = 0
  · subst h0
    have OK := hide (HO.out.1 rfl)
    clear HO
    go_enter Try.func4, Try.ntmps4
    go_wp2_with fail
    refine (KC.out _).mono ?_
    rintro x w1 ⟨rfl, hb⟩
    replace zq0 := frozen_keep hb (World.block_lt_of_cell? _ _ q0) zq0
    replace zq1 := frozen_keep hb (World.block_lt_of_cell? _ _ q1) zq1
    replace zq2 := frozen_keep hb (World.block_lt_of_cell? _ _ q2) zq2
    replace zq3 := frozen_keep hb (World.block_lt_of_cell? _ _ q3) zq3
    replace zq4 := frozen_keep hb (World.block_lt_of_cell? _ _ q4) zq4
    replace zq5 := frozen_keep hb (World.block_lt_of_cell? _ _ q5) zq5
    replace zq6 := frozen_keep hb (World.block_lt_of_cell? _ _ q6) zq6
    replace zq7 := frozen_keep hb (World.block_lt_of_cell? _ _ q7) zq7
    replace q0 := cell_keep q0 hb
    replace q1 := cell_keep q1 hb
    replace q2 := cell_keep q2 hb
    replace q3 := cell_keep q3 hb
    replace q4 := cell_keep q4 hb
    replace q5 := cell_keep q5 hb
    replace q6 := cell_keep q6 hb
    replace q7 := cell_keep q7 hb
    replace q8 := cell_keep q8 hb
    replace q9 := cell_keep q9 hb
    replace q10 := cell_keep q10 hb
    replace q11 := cell_keep q11 hb
    replace hB := below_next hB hB.size hb
    clear hb
    go_wp2_with fail
    refine (KR.out _).mono ?_
    rintro x w2 ⟨rfl, hb⟩
    replace zq0 := frozen_keep hb (World.block_lt_of_cell? _ _ q0) zq0
    replace zq1 := frozen_keep hb (World.block_lt_of_cell? _ _ q1) zq1
    replace zq2 := frozen_keep hb (World.block_lt_of_cell? _ _ q2) zq2
    replace zq3 := frozen_keep hb (World.block_lt_of_cell? _ _ q3) zq3
    replace zq4 := frozen_keep hb (World.block_lt_of_cell? _ _ q4) zq4
    replace zq5 := frozen_keep hb (World.block_lt_of_cell? _ _ q5) zq5
    replace zq6 := frozen_keep hb (World.block_lt_of_cell? _ _ q6) zq6
    replace zq7 := frozen_keep hb (World.block_lt_of_cell? _ _ q7) zq7
    replace q0 := cell_keep q0 hb
    replace q1 := cell_keep q1 hb
    replace q2 := cell_keep q2 hb
    replace q3 := cell_keep q3 hb
    replace q4 := cell_keep q4 hb
    replace q5 := cell_keep q5 hb
    replace q6 := cell_keep q6 hb
    replace q7 := cell_keep q7 hb
    replace q8 := cell_keep q8 hb
    replace q9 := cell_keep q9 hb
    replace q10 := cell_keep q10 hb
    replace q11 := cell_keep q11 hb
    replace hB := below_next hB hB.size hb
    clear hb
    go_wp2_with fail
    refine (shown5_any _).mono ?_
    rintro x w3 ⟨rfl, hb⟩
    replace zq0 := frozen_keep hb (World.block_lt_of_cell? _ _ q0) zq0
    replace zq1 := frozen_keep hb (World.block_lt_of_cell? _ _ q1) zq1
    replace zq2 := frozen_keep hb (World.block_lt_of_cell? _ _ q2) zq2
    replace zq3 := frozen_keep hb (World.block_lt_of_cell? _ _ q3) zq3
    replace zq4 := frozen_keep hb (World.block_lt_of_cell? _ _ q4) zq4
    replace zq5 := frozen_keep hb (World.block_lt_of_cell? _ _ q5) zq5
    replace zq6 := frozen_keep hb (World.block_lt_of_cell? _ _ q6) zq6
    replace zq7 := frozen_keep hb (World.block_lt_of_cell? _ _ q7) zq7
    replace q0 := cell_keep q0 hb
    replace q1 := cell_keep q1 hb
    replace q2 := cell_keep q2 hb
    replace q3 := cell_keep q3 hb
    replace q4 := cell_keep q4 hb
    replace q5 := cell_keep q5 hb
    replace q6 := cell_keep q6 hb
    replace q7 := cell_keep q7 hb
    replace q8 := cell_keep q8 hb
    replace q9 := cell_keep q9 hb
    replace q10 := cell_keep q10 hb
    replace q11 := cell_keep q11 hb
    replace hB := below_next hB hB.size hb
    clear hb
    clear KC KR
    have hb : Below w3.heap.size w3 ((w3.alloc (.cells #[.int .i64 0, .int .i64 0, .int .i64 0, .int .i64 (-1), .int .i64 (-1), .int .i64 0, .int .i64 (-1), .int .i64 (-1)] 3)).alloc (.cells #[.int .i64 17, .int .i64 5, .int .i64 4, .int .i64 5, .int .i64 4, .int .i64 9, .int .i64 21, .int .i64 1001] 3)) := ((Below.refl _ _).alloc (Nat.le_refl _) _).alloc (by simp) _
    have p0 := cell_keep q0 hb
    have p1 := cell_keep q1 hb
    have p2 := cell_keep q2 hb
    have p3 := cell_keep q3 hb
    have p4 := cell_keep q4 hb
    have p5 := cell_keep q5 hb
    have p6 := cell_keep q6 hb
    have p7 := cell_keep q7 hb
    have p8 := cell_keep q8 hb
    have p9 := cell_keep q9 hb
    have p10 := cell_keep q10 hb
    have p11 := cell_keep q11 hb
    have zp0 := frozen_keep hb (World.block_lt_of_cell? _ _ q0) zq0
    have zp1 := frozen_keep hb (World.block_lt_of_cell? _ _ q1) zq1
    have zp2 := frozen_keep hb (World.block_lt_of_cell? _ _ q2) zq2
    have zp3 := frozen_keep hb (World.block_lt_of_cell? _ _ q3) zq3
    have zp4 := frozen_keep hb (World.block_lt_of_cell? _ _ q4) zq4
    have zp5 := frozen_keep hb (World.block_lt_of_cell? _ _ q5) zq5
    have zp6 := frozen_keep hb (World.block_lt_of_cell? _ _ q6) zq6
    have zp7 := frozen_keep hb (World.block_lt_of_cell? _ _ q7) zq7
    replace hB := below_next hB hB.size hb
    clear hb
    have hk : a % 8 = 0 ∨ a % 8 = 1 ∨ a % 8 = 2 ∨ a % 8 = 3 ∨ a % 8 = 4 ∨ a % 8 = 5 ∨ a % 8 = 6 ∨ a % 8 = 7 := by omega
    have hwx : IntKind.i64.wrap (a : Int) = (a : Int) := by rw [IntKind.wrap_i64]; omega
    rcases hk with hk | hk | hk | hk | hk | hk | hk | hk
    · have hr : Int.tmod (a : Int) 8 = 0 := by rw [Int.tmod_eq_emod_of_nonneg (by omega)]; omega
      clear hk
      cases below
      · skip
        have KA := hide (check_any 17 x1 x2 x3 x4 x5 x6 x7 b x9 x10 x11)
        rw [show ckV 17 x1 x2 x3 x4 x5 x6 x7 b x9 x10 x11 = 50 by obtain ⟨h0, h1, h2, h3, h4, h5, h6, h7, hb⟩ := OK.out; simp only [ckV, numsL, ckL]; repeat (first | rfl | rw [if_pos (by omega)] | rw [if_neg (by omega)])] at KA
        have s0 : (((w3.alloc (.cells #[.int .i64 0, .int .i64 0, .int .i64 0, .int .i64 (-1), .int .i64 (-1), .int .i64 0, .int .i64 (-1), .int .i64 (-1)] 3)).alloc (.cells #[.int .i64 17, .int .i64 5, .int .i64 4, .int .i64 5, .int .i64 4, .int .i64 9, .int .i64 21, .int .i64 1001] 3)).setCell ⟨w.heap.size, 0, none⟩ (.int .i64 17)).cell? ⟨w.heap.size, 0, none⟩ = some (.int .i64 17) := World.cell?_setCell_same _ _ _ p0
        have s1 : (((w3.alloc (.cells #[.int .i64 0, .int .i64 0, .int .i64 0, .int .i64 (-1), .int .i64 (-1), .int .i64 0, .int .i64 (-1), .int .i64 (-1)] 3)).alloc (.cells #[.int .i64 17, .int .i64 5, .int .i64 4, .int .i64 5, .int .i64 4, .int .i64 9, .int .i64 21, .int .i64 1001] 3)).setCell ⟨w.heap.size, 0, none⟩ (.int .i64 17)).cell? ⟨w.heap.size, 1, none⟩ = some (.int .i64 x1) := (World.cell?_setCell_other _ _ _ _ (by simp)).trans p1
        have s2 : (((w3.alloc (.cells #[.int .i64 0, .int .i64 0, .int .i64 0, .int .i64 (-1), .int .i64 (-1), .int .i64 0, .int .i64 (-1), .int .i64 (-1)] 3)).alloc (.cells #[.int .i64 17, .int .i64 5, .int .i64 4, .int .i64 5, .int .i64 4, .int .i64 9, .int .i64 21, .int .i64 1001] 3)).setCell ⟨w.heap.size, 0, none⟩ (.int .i64 17)).cell? ⟨w.heap.size, 2, none⟩ = some (.int .i64 x2) := (World.cell?_setCell_other _ _ _ _ (by simp)).trans p2
        have s3 : (((w3.alloc (.cells #[.int .i64 0, .int .i64 0, .int .i64 0, .int .i64 (-1), .int .i64 (-1), .int .i64 0, .int .i64 (-1), .int .i64 (-1)] 3)).alloc (.cells #[.int .i64 17, .int .i64 5, .int .i64 4, .int .i64 5, .int .i64 4, .int .i64 9, .int .i64 21, .int .i64 1001] 3)).setCell ⟨w.heap.size, 0, none⟩ (.int .i64 17)).cell? ⟨w.heap.size, 3, none⟩ = some (.int .i64 x3) := (World.cell?_setCell_other _ _ _ _ (by simp)).trans p3
        have s4 : (((w3.alloc (.cells #[.int .i64 0, .int .i64 0, .int .i64 0, .int .i64 (-1), .int .i64 (-1), .int .i64 0, .int .i64 (-1), .int .i64 (-1)] 3)).alloc (.cells #[.int .i64 17, .int .i64 5, .int .i64 4, .int .i64 5, .int .i64 4, .int .i64 9, .int .i64 21, .int .i64 1001] 3)).setCell ⟨w.heap.size, 0, none⟩ (.int .i64 17)).cell? ⟨w.heap.size, 4, none⟩ = some (.int .i64 x4) := (World.cell?_setCell_other _ _ _ _ (by simp)).trans p4
        have s5 : (((w3.alloc (.cells #[.int .i64 0, .int .i64 0, .int .i64 0, .int .i64 (-1), .int .i64 (-1), .int .i64 0, .int .i64 (-1), .int .i64 (-1)] 3)).alloc (.cells #[.int .i64 17, .int .i64 5, .int .i64 4, .int .i64 5, .int .i64 4, .int .i64 9, .int .i64 21, .int .i64 1001] 3)).setCell ⟨w.heap.size, 0, none⟩ (.int .i64 17)).cell? ⟨w.heap.size, 5, none⟩ = some (.int .i64 x5) := (World.cell?_setCell_other _ _ _ _ (by simp)).trans p5
        have s6 : (((w3.alloc (.cells #[.int .i64 0, .int .i64 0, .int .i64 0, .int .i64 (-1), .int .i64 (-1), .int .i64 0, .int .i64 (-1), .int .i64 (-1)] 3)).alloc (.cells #[.int .i64 17, .int .i64 5, .int .i64 4, .int .i64 5, .int .i64 4, .int .i64 9, .int .i64 21, .int .i64 1001] 3)).setCell ⟨w.heap.size, 0, none⟩ (.int .i64 17)).cell? ⟨w.heap.size, 6, none⟩ = some (.int .i64 x6) := (World.cell?_setCell_other _ _ _ _ (by simp)).trans p6
        have s7 : (((w3.alloc (.cells #[.int .i64 0, .int .i64 0, .int .i64 0, .int .i64 (-1), .int .i64 (-1), .int .i64 0, .int .i64 (-1), .int .i64 (-1)] 3)).alloc (.cells #[.int .i64 17, .int .i64 5, .int .i64 4, .int .i64 5, .int .i64 4, .int .i64 9, .int .i64 21, .int .i64 1001] 3)).setCell ⟨w.heap.size, 0, none⟩ (.int .i64 17)).cell? ⟨w.heap.size, 7, none⟩ = some (.int .i64 x7) := (World.cell?_setCell_other _ _ _ _ (by simp)).trans p7
        have s8 : (((w3.alloc (.cells #[.int .i64 0, .int .i64 0, .int .i64 0, .int .i64 (-1), .int .i64 (-1), .int .i64 0, .int .i64 (-1), .int .i64 (-1)] 3)).alloc (.cells #[.int .i64 17, .int .i64 5, .int .i64 4, .int .i64 5, .int .i64 4, .int .i64 9, .int .i64 21, .int .i64 1001] 3)).setCell ⟨w.heap.size, 0, none⟩ (.int .i64 17)).cell? ⟨w.heap.size, 8, none⟩ = some (.bool b) := (World.cell?_setCell_other _ _ _ _ (by simp)).trans p8
        have s9 : (((w3.alloc (.cells #[.int .i64 0, .int .i64 0, .int .i64 0, .int .i64 (-1), .int .i64 (-1), .int .i64 0, .int .i64 (-1), .int .i64 (-1)] 3)).alloc (.cells #[.int .i64 17, .int .i64 5, .int .i64 4, .int .i64 5, .int .i64 4, .int .i64 9, .int .i64 21, .int .i64 1001] 3)).setCell ⟨w.heap.size, 0, none⟩ (.int .i64 17)).cell? ⟨w.heap.size, 9, none⟩ = some (.int .i64 x9) := (World.cell?_setCell_other _ _ _ _ (by simp)).trans p9
        have s10 : (((w3.alloc (.cells #[.int .i64 0, .int .i64 0, .int .i64 0, .int .i64 (-1), .int .i64 (-1), .int .i64 0, .int .i64 (-1), .int .i64 (-1)] 3)).alloc (.cells #[.int .i64 17, .int .i64 5, .int .i64 4, .int .i64 5, .int .i64 4, .int .i64 9, .int .i64 21, .int .i64 1001] 3)).setCell ⟨w.heap.size, 0, none⟩ (.int .i64 17)).cell? ⟨w.heap.size, 10, none⟩ = some (.int .i64 x10) := (World.cell?_setCell_other _ _ _ _ (by simp)).trans p10
        have s11 : (((w3.alloc (.cells #[.int .i64 0, .int .i64 0, .int .i64 0, .int .i64 (-1), .int .i64 (-1), .int .i64 0, .int .i64 (-1), .int .i64 (-1)] 3)).alloc (.cells #[.int .i64 17, .int .i64 5, .int .i64 4, .int .i64 5, .int .i64 4, .int .i64 9, .int .i64 21, .int .i64 1001] 3)).setCell ⟨w.heap.size, 0, none⟩ (.int .i64 17)).cell? ⟨w.heap.size, 11, none⟩ = some (.int .i64 x11) := (World.cell?_setCell_other _ _ _ _ (by simp)).trans p11
        replace hB := hB.setCell (p := ⟨w.heap.size, 0, none⟩) (Nat.le_refl _) (.int .i64 17)
        go_wp2_with fail
        refine (KA.out _).mono ?_
        rintro x w4 ⟨rfl, hb⟩
        replace hB := below_next hB hB.size hb
        clear hb q0 q1 q2 q3 q4 q5 q6 q7 q8 q9 q10 q11 p0 p1 p2 p3 p4 p5 p6 p7 p8 p9 p10 p11 s0 s1 s2 s3 s4 s5 s6 s7 s8 s9 s10 s11 zq0 zq1 zq2 zq3 zq4 zq5 zq6 zq7 zp0 zp1 zp2 zp3 zp4 zp5 zp6 zp7
        go_wp2
        go_ret
        exact ⟨rfl, hB⟩
      · skip
        have KA := hide (check_any 0 x1 x2 x3 x4 x5 x6 x7 b x9 x10 x11)
        rw [show ckV 0 x1 x2 x3 x4 x5 x6 x7 b x9 x10 x11 = 50 by obtain ⟨h0, h1, h2, h3, h4, h5, h6, h7, hb⟩ := OK.out; simp only [ckV, numsL, ckL]; repeat (first | rfl | rw [if_pos (by omega)] | rw [if_neg (by omega)])] at KA
        have s0 : (((w3.alloc (.cells #[.int .i64 0, .int .i64 0, .int .i64 0, .int .i64 (-1), .int .i64 (-1), .int .i64 0, .int .i64 (-1), .int .i64 (-1)] 3)).alloc (.cells #[.int .i64 17, .int .i64 5, .int .i64 4, .int .i64 5, .int .i64 4, .int .i64 9, .int .i64 21, .int .i64 1001] 3)).setCell ⟨w.heap.size, 0, none⟩ (.int .i64 0)).cell? ⟨w.heap.size, 0, none⟩ = some (.int .i64 0) := World.cell?_setCell_same _ _ _ p0
        have s1 : (((w3.alloc (.cells #[.int .i64 0, .int .i64 0, .int .i64 0, .int .i64 (-1), .int .i64 (-1), .int .i64 0, .int .i64 (-1), .int .i64 (-1)] 3)).alloc (.cells #[.int .i64 17, .int .i64 5, .int .i64 4, .int .i64 5, .int .i64 4, .int .i64 9, .int .i64 21, .int .i64 1001] 3)).setCell ⟨w.heap.size, 0, none⟩ (.int .i64 0)).cell? ⟨w.heap.size, 1, none⟩ = some (.int .i64 x1) := (World.cell?_setCell_other _ _ _ _ (by simp)).trans p1
        have s2 : (((w3.alloc (.cells #[.int .i64 0, .int .i64 0, .int .i64 0, .int .i64 (-1), .int .i64 (-1), .int .i64 0, .int .i64 (-1), .int .i64 (-1)] 3)).alloc (.cells #[.int .i64 17, .int .i64 5, .int .i64 4, .int .i64 5, .int .i64 4, .int .i64 9, .int .i64 21, .int .i64 1001] 3)).setCell ⟨w.heap.size, 0, none⟩ (.int .i64 0)).cell? ⟨w.heap.size, 2, none⟩ = some (.int .i64 x2) := (World.cell?_setCell_other _ _ _ _ (by simp)).trans p2
        have s3 : (((w3.alloc (.cells #[.int .i64 0, .int .i64 0, .int .i64 0, .int .i64 (-1), .int .i64 (-1), .int .i64 0, .int .i64 (-1), .int .i64 (-1)] 3)).alloc (.cells #[.int .i64 17, .int .i64 5, .int .i64 4, .int .i64 5, .int .i64 4, .int .i64 9, .int .i64 21, .int .i64 1001] 3)).setCell ⟨w.heap.size, 0, none⟩ (.int .i64 0)).cell? ⟨w.heap.size, 3, none⟩ = some (.int .i64 x3) := (World.cell?_setCell_other _ _ _ _ (by simp)).trans p3
        have s4 : (((w3.alloc (.cells #[.int .i64 0, .int .i64 0, .int .i64 0, .int .i64 (-1), .int .i64 (-1), .int .i64 0, .int .i64 (-1), .int .i64 (-1)] 3)).alloc (.cells #[.int .i64 17, .int .i64 5, .int .i64 4, .int .i64 5, .int .i64 4, .int .i64 9, .int .i64 21, .int .i64 1001] 3)).setCell ⟨w.heap.size, 0, none⟩ (.int .i64 0)).cell? ⟨w.heap.size, 4, none⟩ = some (.int .i64 x4) := (World.cell?_setCell_other _ _ _ _ (by simp)).trans p4
        have s5 : (((w3.alloc (.cells #[.int .i64 0, .int .i64 0, .int .i64 0, .int .i64 (-1), .int .i64 (-1), .int .i64 0, .int .i64 (-1), .int .i64 (-1)] 3)).alloc (.cells #[.int .i64 17, .int .i64 5, .int .i64 4, .int .i64 5, .int .i64 4, .int .i64 9, .int .i64 21, .int .i64 1001] 3)).setCell ⟨w.heap.size, 0, none⟩ (.int .i64 0)).cell? ⟨w.heap.size, 5, none⟩ = some (.int .i64 x5) := (World.cell?_setCell_other _ _ _ _ (by simp)).trans p5
        have s6 : (((w3.alloc (.cells #[.int .i64 0, .int .i64 0, .int .i64 0, .int .i64 (-1), .int .i64 (-1), .int .i64 0, .int .i64 (-1), .int .i64 (-1)] 3)).alloc (.cells #[.int .i64 17, .int .i64 5, .int .i64 4, .int .i64 5, .int .i64 4, .int .i64 9, .int .i64 21, .int .i64 1001] 3)).setCell ⟨w.heap.size, 0, none⟩ (.int .i64 0)).cell? ⟨w.heap.size, 6, none⟩ = some (.int .i64 x6) := (World.cell?_setCell_other _ _ _ _ (by simp)).trans p6
        have s7 : (((w3.alloc (.cells #[.int .i64 0, .int .i64 0, .int .i64 0, .int .i64 (-1), .int .i64 (-1), .int .i64 0, .int .i64 (-1), .int .i64 (-1)] 3)).alloc (.cells #[.int .i64 17, .int .i64 5, .int .i64 4, .int .i64 5, .int .i64 4, .int .i64 9, .int .i64 21, .int .i64 1001] 3)).setCell ⟨w.heap.size, 0, none⟩ (.int .i64 0)).cell? ⟨w.heap.size, 7, none⟩ = some (.int .i64 x7) := (World.cell?_setCell_other _ _ _ _ (by simp)).trans p7
        have s8 : (((w3.alloc (.cells #[.int .i64 0, .int .i64 0, .int .i64 0, .int .i64 (-1), .int .i64 (-1), .int .i64 0, .int .i64 (-1), .int .i64 (-1)] 3)).alloc (.cells #[.int .i64 17, .int .i64 5, .int .i64 4, .int .i64 5, .int .i64 4, .int .i64 9, .int .i64 21, .int .i64 1001] 3)).setCell ⟨w.heap.size, 0, none⟩ (.int .i64 0)).cell? ⟨w.heap.size, 8, none⟩ = some (.bool b) := (World.cell?_setCell_other _ _ _ _ (by simp)).trans p8
        have s9 : (((w3.alloc (.cells #[.int .i64 0, .int .i64 0, .int .i64 0, .int .i64 (-1), .int .i64 (-1), .int .i64 0, .int .i64 (-1), .int .i64 (-1)] 3)).alloc (.cells #[.int .i64 17, .int .i64 5, .int .i64 4, .int .i64 5, .int .i64 4, .int .i64 9, .int .i64 21, .int .i64 1001] 3)).setCell ⟨w.heap.size, 0, none⟩ (.int .i64 0)).cell? ⟨w.heap.size, 9, none⟩ = some (.int .i64 x9) := (World.cell?_setCell_other _ _ _ _ (by simp)).trans p9
        have s10 : (((w3.alloc (.cells #[.int .i64 0, .int .i64 0, .int .i64 0, .int .i64 (-1), .int .i64 (-1), .int .i64 0, .int .i64 (-1), .int .i64 (-1)] 3)).alloc (.cells #[.int .i64 17, .int .i64 5, .int .i64 4, .int .i64 5, .int .i64 4, .int .i64 9, .int .i64 21, .int .i64 1001] 3)).setCell ⟨w.heap.size, 0, none⟩ (.int .i64 0)).cell? ⟨w.heap.size, 10, none⟩ = some (.int .i64 x10) := (World.cell?_setCell_other _ _ _ _ (by simp)).trans p10
        have s11 : (((w3.alloc (.cells #[.int .i64 0, .int .i64 0, .int .i64 0, .int .i64 (-1), .int .i64 (-1), .int .i64 0, .int .i64 (-1), .int .i64 (-1)] 3)).alloc (.cells #[.int .i64 17, .int .i64 5, .int .i64 4, .int .i64 5, .int .i64 4, .int .i64 9, .int .i64 21, .int .i64 1001] 3)).setCell ⟨w.heap.size, 0, none⟩ (.int .i64 0)).cell? ⟨w.heap.size, 11, none⟩ = some (.int .i64 x11) := (World.cell?_setCell_other _ _ _ _ (by simp)).trans p11
        replace hB := hB.setCell (p := ⟨w.heap.size, 0, none⟩) (Nat.le_refl _) (.int .i64 0)
        go_wp2_with fail
        refine (KA.out _).mono ?_
        rintro x w4 ⟨rfl, hb⟩
        replace hB := below_next hB hB.size hb
        clear hb q0 q1 q2 q3 q4 q5 q6 q7 q8 q9 q10 q11 p0 p1 p2 p3 p4 p5 p6 p7 p8 p9 p10 p11 s0 s1 s2 s3 s4 s5 s6 s7 s8 s9 s10 s11 zq0 zq1 zq2 zq3 zq4 zq5 zq6 zq7 zp0 zp1 zp2 zp3 zp4 zp5 zp6 zp7
        go_wp2
        go_ret
        exact ⟨rfl, hB⟩
    · have hr : Int.tmod (a : Int) 8 = 1 := by rw [Int.tmod_eq_emod_of_nonneg (by omega)]; omega
      clear hk
      cases below
      · skip
        have KA := hide (check_any x0 5 x2 x3 x4 x5 x6 x7 b x9 x10 x11)
        rw [show ckV x0 5 x2 x3 x4 x5 x6 x7 b x9 x10 x11 = 51 by obtain ⟨h0, h1, h2, h3, h4, h5, h6, h7, hb⟩ := OK.out; simp only [ckV, numsL, ckL]; repeat (first | rfl | rw [if_pos (by omega)] | rw [if_neg (by omega)])] at KA
        have s0 : (((w3.alloc (.cells #[.int .i64 0, .int .i64 0, .int .i64 0, .int .i64 (-1), .int .i64 (-1), .int .i64 0, .int .i64 (-1), .int .i64 (-1)] 3)).alloc (.cells #[.int .i64 17, .int .i64 5, .int .i64 4, .int .i64 5, .int .i64 4, .int .i64 9, .int .i64 21, .int .i64 1001] 3)).setCell ⟨w.heap.size, 1, none⟩ (.int .i64 5)).cell? ⟨w.heap.size, 0, none⟩ = some (.int .i64 x0) := (World.cell?_setCell_other _ _ _ _ (by simp)).trans p0
        have s1 : (((w3.alloc (.cells #[.int .i64 0, .int .i64 0, .int .i64 0, .int .i64 (-1), .int .i64 (-1), .int .i64 0, .int .i64 (-1), .int .i64 (-1)] 3)).alloc (.cells #[.int .i64 17, .int .i64 5, .int .i64 4, .int .i64 5, .int .i64 4, .int .i64 9, .int .i64 21, .int .i64 1001] 3)).setCell ⟨w.heap.size, 1, none⟩ (.int .i64 5)).cell? ⟨w.heap.size, 1, none⟩ = some (.int .i64 5) := World.cell?_setCell_same _ _ _ p1
        have s2 : (((w3.alloc (.cells #[.int .i64 0, .int .i64 0, .int .i64 0, .int .i64 (-1), .int .i64 (-1), .int .i64 0, .int .i64 (-1), .int .i64 (-1)] 3)).alloc (.cells #[.int .i64 17, .int .i64 5, .int .i64 4, .int .i64 5, .int .i64 4, .int .i64 9, .int .i64 21, .int .i64 1001] 3)).setCell ⟨w.heap.size, 1, none⟩ (.int .i64 5)).cell? ⟨w.heap.size, 2, none⟩ = some (.int .i64 x2) := (World.cell?_setCell_other _ _ _ _ (by simp)).trans p2
        have s3 : (((w3.alloc (.cells #[.int .i64 0, .int .i64 0, .int .i64 0, .int .i64 (-1), .int .i64 (-1), .int .i64 0, .int .i64 (-1), .int .i64 (-1)] 3)).alloc (.cells #[.int .i64 17, .int .i64 5, .int .i64 4, .int .i64 5, .int .i64 4, .int .i64 9, .int .i64 21, .int .i64 1001] 3)).setCell ⟨w.heap.size, 1, none⟩ (.int .i64 5)).cell? ⟨w.heap.size, 3, none⟩ = some (.int .i64 x3) := (World.cell?_setCell_other _ _ _ _ (by simp)).trans p3
        have s4 : (((w3.alloc (.cells #[.int .i64 0, .int .i64 0, .int .i64 0, .int .i64 (-1), .int .i64 (-1), .int .i64 0, .int .i64 (-1), .int .i64 (-1)] 3)).alloc (.cells #[.int .i64 17, .int .i64 5, .int .i64 4, .int .i64 5, .int .i64 4, .int .i64 9, .int .i64 21, .int .i64 1001] 3)).setCell ⟨w.heap.size, 1, none⟩ (.int .i64 5)).cell? ⟨w.heap.size, 4, none⟩ = some (.int .i64 x4) := (World.cell?_setCell_other _ _ _ _ (by simp)).trans p4
        have s5 : (((w3.alloc (.cells #[.int .i64 0, .int .i64 0, .int .i64 0, .int .i64 (-1), .int .i64 (-1), .int .i64 0, .int .i64 (-1), .int .i64 (-1)] 3)).alloc (.cells #[.int .i64 17, .int .i64 5, .int .i64 4, .int .i64 5, .int .i64 4, .int .i64 9, .int .i64 21, .int .i64 1001] 3)).setCell ⟨w.heap.size, 1, none⟩ (.int .i64 5)).cell? ⟨w.heap.size, 5, none⟩ = some (.int .i64 x5) := (World.cell?_setCell_other _ _ _ _ (by simp)).trans p5
        have s6 : (((w3.alloc (.cells #[.int .i64 0, .int .i64 0, .int .i64 0, .int .i64 (-1), .int .i64 (-1), .int .i64 0, .int .i64 (-1), .int .i64 (-1)] 3)).alloc (.cells #[.int .i64 17, .int .i64 5, .int .i64 4, .int .i64 5, .int .i64 4, .int .i64 9, .int .i64 21, .int .i64 1001] 3)).setCell ⟨w.heap.size, 1, none⟩ (.int .i64 5)).cell? ⟨w.heap.size, 6, none⟩ = some (.int .i64 x6) := (World.cell?_setCell_other _ _ _ _ (by simp)).trans p6
        have s7 : (((w3.alloc (.cells #[.int .i64 0, .int .i64 0, .int .i64 0, .int .i64 (-1), .int .i64 (-1), .int .i64 0, .int .i64 (-1), .int .i64 (-1)] 3)).alloc (.cells #[.int .i64 17, .int .i64 5, .int .i64 4, .int .i64 5, .int .i64 4, .int .i64 9, .int .i64 21, .int .i64 1001] 3)).setCell ⟨w.heap.size, 1, none⟩ (.int .i64 5)).cell? ⟨w.heap.size, 7, none⟩ = some (.int .i64 x7) := (World.cell?_setCell_other _ _ _ _ (by simp)).trans p7
        have s8 : (((w3.alloc (.cells #[.int .i64 0, .int .i64 0, .int .i64 0, .int .i64 (-1), .int .i64 (-1), .int .i64 0, .int .i64 (-1), .int .i64 (-1)] 3)).alloc (.cells #[.int .i64 17, .int .i64 5, .int .i64 4, .int .i64 5, .int .i64 4, .int .i64 9, .int .i64 21, .int .i64 1001] 3)).setCell ⟨w.heap.size, 1, none⟩ (.int .i64 5)).cell? ⟨w.heap.size, 8, none⟩ = some (.bool b) := (World.cell?_setCell_other _ _ _ _ (by simp)).trans p8
        have s9 : (((w3.alloc (.cells #[.int .i64 0, .int .i64 0, .int .i64 0, .int .i64 (-1), .int .i64 (-1), .int .i64 0, .int .i64 (-1), .int .i64 (-1)] 3)).alloc (.cells #[.int .i64 17, .int .i64 5, .int .i64 4, .int .i64 5, .int .i64 4, .int .i64 9, .int .i64 21, .int .i64 1001] 3)).setCell ⟨w.heap.size, 1, none⟩ (.int .i64 5)).cell? ⟨w.heap.size, 9, none⟩ = some (.int .i64 x9) := (World.cell?_setCell_other _ _ _ _ (by simp)).trans p9
        have s10 : (((w3.alloc (.cells #[.int .i64 0, .int .i64 0, .int .i64 0, .int .i64 (-1), .int .i64 (-1), .int .i64 0, .int .i64 (-1), .int .i64 (-1)] 3)).alloc (.cells #[.int .i64 17, .int .i64 5, .int .i64 4, .int .i64 5, .int .i64 4, .int .i64 9, .int .i64 21, .int .i64 1001] 3)).setCell ⟨w.heap.size, 1, none⟩ (.int .i64 5)).cell? ⟨w.heap.size, 10, none⟩ = some (.int .i64 x10) := (World.cell?_setCell_other _ _ _ _ (by simp)).trans p10
        have s11 : (((w3.alloc (.cells #[.int .i64 0, .int .i64 0, .int .i64 0, .int .i64 (-1), .int .i64 (-1), .int .i64 0, .int .i64 (-1), .int .i64 (-1)] 3)).alloc (.cells #[.int .i64 17, .int .i64 5, .int .i64 4, .int .i64 5, .int .i64 4, .int .i64 9, .int .i64 21, .int .i64 1001] 3)).setCell ⟨w.heap.size, 1, none⟩ (.int .i64 5)).cell? ⟨w.heap.size, 11, none⟩ = some (.int .i64 x11) := (World.cell?_setCell_other _ _ _ _ (by simp)).trans p11
        replace hB := hB.setCell (p := ⟨w.heap.size, 1, none⟩) (Nat.le_refl _) (.int .i64 5)
        go_wp2_with fail
        refine (KA.out _).mono ?_
        rintro x w4 ⟨rfl, hb⟩
        replace hB := below_next hB hB.size hb
        clear hb q0 q1 q2 q3 q4 q5 q6 q7 q8 q9 q10 q11 p0 p1 p2 p3 p4 p5 p6 p7 p8 p9 p10 p11 s0 s1 s2 s3 s4 s5 s6 s7 s8 s9 s10 s11 zq0 zq1 zq2 zq3 zq4 zq5 zq6 zq7 zp0 zp1 zp2 zp3 zp4 zp5 zp6 zp7
        go_wp2
        go_ret
        exact ⟨rfl, hB⟩
      · skip
        have KA := hide (check_any x0 0 x2 x3 x4 x5 x6 x7 b x9 x10 x11)
        rw [show ckV x0 0 x2 x3 x4 x5 x6 x7 b x9 x10 x11 = 51 by obtain ⟨h0, h1, h2, h3, h4, h5, h6, h7, hb⟩ := OK.out; simp only [ckV, numsL, ckL]; repeat (first | rfl | rw [if_pos (by omega)] | rw [if_neg (by omega)])] at KA
        have s0 : (((w3.alloc (.cells #[.int .i64 0, .int .i64 0, .int .i64 0, .int .i64 (-1), .int .i64 (-1), .int .i64 0, .int .i64 (-1), .int .i64 (-1)] 3)).alloc (.cells #[.int .i64 17, .int .i64 5, .int .i64 4, .int .i64 5, .int .i64 4, .int .i64 9, .int .i64 21, .int .i64 1001] 3)).setCell ⟨w.heap.size, 1, none⟩ (.int .i64 0)).cell? ⟨w.heap.size, 0, none⟩ = some (.int .i64 x0) := (World.cell?_setCell_other _ _ _ _ (by simp)).trans p0
        have s1 : (((w3.alloc (.cells #[.int .i64 0, .int .i64 0, .int .i64 0, .int .i64 (-1), .int .i64 (-1), .int .i64 0, .int .i64 (-1), .int .i64 (-1)] 3)).alloc (.cells #[.int .i64 17, .int .i64 5, .int .i64 4, .int .i64 5, .int .i64 4, .int .i64 9, .int .i64 21, .int .i64 1001] 3)).setCell ⟨w.heap.size, 1, none⟩ (.int .i64 0)).cell? ⟨w.heap.size, 1, none⟩ = some (.int .i64 0) := World.cell?_setCell_same _ _ _ p1
        have s2 : (((w3.alloc (.cells #[.int .i64 0, .int .i64 0, .int .i64 0, .int .i64 (-1), .int .i64 (-1), .int .i64 0, .int .i64 (-1), .int .i64 (-1)] 3)).alloc (.cells #[.int .i64 17, .int .i64 5, .int .i64 4, .int .i64 5, .int .i64 4, .int .i64 9, .int .i64 21, .int .i64 1001] 3)).setCell ⟨w.heap.size, 1, none⟩ (.int .i64 0)).cell? ⟨w.heap.size, 2, none⟩ = some (.int .i64 x2) := (World.cell?_setCell_other _ _ _ _ (by simp)).trans p2
        have s3 : (((w3.alloc (.cells #[.int .i64 0, .int .i64 0, .int .i64 0, .int .i64 (-1), .int .i64 (-1), .int .i64 0, .int .i64 (-1), .int .i64 (-1)] 3)).alloc (.cells #[.int .i64 17, .int .i64 5, .int .i64 4, .int .i64 5, .int .i64 4, .int .i64 9, .int .i64 21, .int .i64 1001] 3)).setCell ⟨w.heap.size, 1, none⟩ (.int .i64 0)).cell? ⟨w.heap.size, 3, none⟩ = some (.int .i64 x3) := (World.cell?_setCell_other _ _ _ _ (by simp)).trans p3
        have s4 : (((w3.alloc (.cells #[.int .i64 0, .int .i64 0, .int .i64 0, .int .i64 (-1), .int .i64 (-1), .int .i64 0, .int .i64 (-1), .int .i64 (-1)] 3)).alloc (.cells #[.int .i64 17, .int .i64 5, .int .i64 4, .int .i64 5, .int .i64 4, .int .i64 9, .int .i64 21, .int .i64 1001] 3)).setCell ⟨w.heap.size, 1, none⟩ (.int .i64 0)).cell? ⟨w.heap.size, 4, none⟩ = some (.int .i64 x4) := (World.cell?_setCell_other _ _ _ _ (by simp)).trans p4
        have s5 : (((w3.alloc (.cells #[.int .i64 0, .int .i64 0, .int .i64 0, .int .i64 (-1), .int .i64 (-1), .int .i64 0, .int .i64 (-1), .int .i64 (-1)] 3)).alloc (.cells #[.int .i64 17, .int .i64 5, .int .i64 4, .int .i64 5, .int .i64 4, .int .i64 9, .int .i64 21, .int .i64 1001] 3)).setCell ⟨w.heap.size, 1, none⟩ (.int .i64 0)).cell? ⟨w.heap.size, 5, none⟩ = some (.int .i64 x5) := (World.cell?_setCell_other _ _ _ _ (by simp)).trans p5
        have s6 : (((w3.alloc (.cells #[.int .i64 0, .int .i64 0, .int .i64 0, .int .i64 (-1), .int .i64 (-1), .int .i64 0, .int .i64 (-1), .int .i64 (-1)] 3)).alloc (.cells #[.int .i64 17, .int .i64 5, .int .i64 4, .int .i64 5, .int .i64 4, .int .i64 9, .int .i64 21, .int .i64 1001] 3)).setCell ⟨w.heap.size, 1, none⟩ (.int .i64 0)).cell? ⟨w.heap.size, 6, none⟩ = some (.int .i64 x6) := (World.cell?_setCell_other _ _ _ _ (by simp)).trans p6
        have s7 : (((w3.alloc (.cells #[.int .i64 0, .int .i64 0, .int .i64 0, .int .i64 (-1), .int .i64 (-1), .int .i64 0, .int .i64 (-1), .int .i64 (-1)] 3)).alloc (.cells #[.int .i64 17, .int .i64 5, .int .i64 4, .int .i64 5, .int .i64 4, .int .i64 9, .int .i64 21, .int .i64 1001] 3)).setCell ⟨w.heap.size, 1, none⟩ (.int .i64 0)).cell? ⟨w.heap.size, 7, none⟩ = some (.int .i64 x7) := (World.cell?_setCell_other _ _ _ _ (by simp)).trans p7
        have s8 : (((w3.alloc (.cells #[.int .i64 0, .int .i64 0, .int .i64 0, .int .i64 (-1), .int .i64 (-1), .int .i64 0, .int .i64 (-1), .int .i64 (-1)] 3)).alloc (.cells #[.int .i64 17, .int .i64 5, .int .i64 4, .int .i64 5, .int .i64 4, .int .i64 9, .int .i64 21, .int .i64 1001] 3)).setCell ⟨w.heap.size, 1, none⟩ (.int .i64 0)).cell? ⟨w.heap.size, 8, none⟩ = some (.bool b) := (World.cell?_setCell_other _ _ _ _ (by simp)).trans p8
        have s9 : (((w3.alloc (.cells #[.int .i64 0, .int .i64 0, .int .i64 0, .int .i64 (-1), .int .i64 (-1), .int .i64 0, .int .i64 (-1), .int .i64 (-1)] 3)).alloc (.cells #[.int .i64 17, .int .i64 5, .int .i64 4, .int .i64 5, .int .i64 4, .int .i64 9, .int .i64 21, .int .i64 1001] 3)).setCell ⟨w.heap.size, 1, none⟩ (.int .i64 0)).cell? ⟨w.heap.size, 9, none⟩ = some (.int .i64 x9) := (World.cell?_setCell_other _ _ _ _ (by simp)).trans p9
        have s10 : (((w3.alloc (.cells #[.int .i64 0, .int .i64 0, .int .i64 0, .int .i64 (-1), .int .i64 (-1), .int .i64 0, .int .i64 (-1), .int .i64 (-1)] 3)).alloc (.cells #[.int .i64 17, .int .i64 5, .int .i64 4, .int .i64 5, .int .i64 4, .int .i64 9, .int .i64 21, .int .i64 1001] 3)).setCell ⟨w.heap.size, 1, none⟩ (.int .i64 0)).cell? ⟨w.heap.size, 10, none⟩ = some (.int .i64 x10) := (World.cell?_setCell_other _ _ _ _ (by simp)).trans p10
        have s11 : (((w3.alloc (.cells #[.int .i64 0, .int .i64 0, .int .i64 0, .int .i64 (-1), .int .i64 (-1), .int .i64 0, .int .i64 (-1), .int .i64 (-1)] 3)).alloc (.cells #[.int .i64 17, .int .i64 5, .int .i64 4, .int .i64 5, .int .i64 4, .int .i64 9, .int .i64 21, .int .i64 1001] 3)).setCell ⟨w.heap.size, 1, none⟩ (.int .i64 0)).cell? ⟨w.heap.size, 11, none⟩ = some (.int .i64 x11) := (World.cell?_setCell_other _ _ _ _ (by simp)).trans p11
        replace hB := hB.setCell (p := ⟨w.heap.size, 1, none⟩) (Nat.le_refl _) (.int .i64 0)
        go_wp2_with fail
        refine (KA.out _).mono ?_
        rintro x w4 ⟨rfl, hb⟩
        replace hB := below_next hB hB.size hb
        clear hb q0 q1 q2 q3 q4 q5 q6 q7 q8 q9 q10 q11 p0 p1 p2 p3 p4 p5 p6 p7 p8 p9 p10 p11 s0 s1 s2 s3 s4 s5 s6 s7 s8 s9 s10 s11 zq0 zq1 zq2 zq3 zq4 zq5 zq6 zq7 zp0 zp1 zp2 zp3 zp4 zp5 zp6 zp7
        go_wp2
        go_ret
        exact ⟨rfl, hB⟩
    · have hr : Int.tmod (a : Int) 8 = 2 := by rw [Int.tmod_eq_emod_of_nonneg (by omega)]; omega
      clear hk
      cases below
      · skip
        have KA := hide (check_any x0 x1 4 x3 x4 x5 x6 x7 b x9 x10 x11)
        rw [show ckV x0 x1 4 x3 x4 x5 x6 x7 b x9 x10 x11 = 52 by obtain ⟨h0, h1, h2, h3, h4, h5, h6, h7, hb⟩ := OK.out; simp only [ckV, numsL, ckL]; repeat (first | rfl | rw [if_pos (by omega)] | rw [if_neg (by omega)])] at KA
        have s0 : (((w3.alloc (.cells #[.int .i64 0, .int .i64 0, .int .i64 0, .int .i64 (-1), .int .i64 (-1), .int .i64 0, .int .i64 (-1), .int .i64 (-1)] 3)).alloc (.cells #[.int .i64 17, .int .i64 5, .int .i64 4, .int .i64 5, .int .i64 4, .int .i64 9, .int .i64 21, .int .i64 1001] 3)).setCell ⟨w.heap.size, 2, none⟩ (.int .i64 4)).cell? ⟨w.heap.size, 0, none⟩ = some (.int .i64 x0) := (World.cell?_setCell_other _ _ _ _ (by simp)).trans p0
        have s1 : (((w3.alloc (.cells #[.int .i64 0, .int .i64 0, .int .i64 0, .int .i64 (-1), .int .i64 (-1), .int .i64 0, .int .i64 (-1), .int .i64 (-1)] 3)).alloc (.cells #[.int .i64 17, .int .i64 5, .int .i64 4, .int .i64 5, .int .i64 4, .int .i64 9, .int .i64 21, .int .i64 1001] 3)).setCell ⟨w.heap.size, 2, none⟩ (.int .i64 4)).cell? ⟨w.heap.size, 1, none⟩ = some (.int .i64 x1) := (World.cell?_setCell_other _ _ _ _ (by simp)).trans p1
        have s2 : (((w3.alloc (.cells #[.int .i64 0, .int .i64 0, .int .i64 0, .int .i64 (-1), .int .i64 (-1), .int .i64 0, .int .i64 (-1), .int .i64 (-1)] 3)).alloc (.cells #[.int .i64 17, .int .i64 5, .int .i64 4, .int .i64 5, .int .i64 4, .int .i64 9, .int .i64 21, .int .i64 1001] 3)).setCell ⟨w.heap.size, 2, none⟩ (.int .i64 4)).cell? ⟨w.heap.size, 2, none⟩ = some (.int .i64 4) := World.cell?_setCell_same _ _ _ p2
        have s3 : (((w3.alloc (.cells #[.int .i64 0, .int .i64 0, .int .i64 0, .int .i64 (-1), .int .i64 (-1), .int .i64 0, .int .i64 (-1), .int .i64 (-1)] 3)).alloc (.cells #[.int .i64 17, .int .i64 5, .int .i64 4, .int .i64 5, .int .i64 4, .int .i64 9, .int .i64 21, .int .i64 1001] 3)).setCell ⟨w.heap.size, 2, none⟩ (.int .i64 4)).cell? ⟨w.heap.size, 3, none⟩ = some (.int .i64 x3) := (World.cell?_setCell_other _ _ _ _ (by simp)).trans p3
        have s4 : (((w3.alloc (.cells #[.int .i64 0, .int .i64 0, .int .i64 0, .int .i64 (-1), .int .i64 (-1), .int .i64 0, .int .i64 (-1), .int .i64 (-1)] 3)).alloc (.cells #[.int .i64 17, .int .i64 5, .int .i64 4, .int .i64 5, .int .i64 4, .int .i64 9, .int .i64 21, .int .i64 1001] 3)).setCell ⟨w.heap.size, 2, none⟩ (.int .i64 4)).cell? ⟨w.heap.size, 4, none⟩ = some (.int .i64 x4) := (World.cell?_setCell_other _ _ _ _ (by simp)).trans p4
        have s5 : (((w3.alloc (.cells #[.int .i64 0, .int .i64 0, .int .i64 0, .int .i64 (-1), .int .i64 (-1), .int .i64 0, .int .i64 (-1), .int .i64 (-1)] 3)).alloc (.cells #[.int .i64 17, .int .i64 5, .int .i64 4, .int .i64 5, .int .i64 4, .int .i64 9, .int .i64 21, .int .i64 1001] 3)).setCell ⟨w.heap.size, 2, none⟩ (.int .i64 4)).cell? ⟨w.heap.size, 5, none⟩ = some (.int .i64 x5) := (World.cell?_setCell_other _ _ _ _ (by simp)).trans p5
        have s6 : (((w3.alloc (.cells #[.int .i64 0, .int .i64 0, .int .i64 0, .int .i64 (-1), .int .i64 (-1), .int .i64 0, .int .i64 (-1), .int .i64 (-1)] 3)).alloc (.cells #[.int .i64 17, .int .i64 5, .int .i64 4, .int .i64 5, .int .i64 4, .int .i64 9, .int .i64 21, .int .i64 1001] 3)).setCell ⟨w.heap.size, 2, none⟩ (.int .i64 4)).cell? ⟨w.heap.size, 6, none⟩ = some (.int .i64 x6) := (World.cell?_setCell_other _ _ _ _ (by simp)).trans p6
        have s7 : (((w3.alloc (.cells #[.int .i64 0, .int .i64 0, .int .i64 0, .int .i64 (-1), .int .i64 (-1), .int .i64 0, .int .i64 (-1), .int .i64 (-1)] 3)).alloc (.cells #[.int .i64 17, .int .i64 5, .int .i64 4, .int .i64 5, .int .i64 4, .int .i64 9, .int .i64 21, .int .i64 1001] 3)).setCell ⟨w.heap.size, 2, none⟩ (.int .i64 4)).cell? ⟨w.heap.size, 7, none⟩ = some (.int .i64 x7) := (World.cell?_setCell_other _ _ _ _ (by simp)).trans p7
        have s8 : (((w3.alloc (.cells #[.int .i64 0, .int .i64 0, .int .i64 0, .int .i64 (-1), .int .i64 (-1), .int .i64 0, .int .i64 (-1), .int .i64 (-1)] 3)).alloc (.cells #[.int .i64 17, .int .i64 5, .int .i64 4, .int .i64 5, .int .i64 4, .int .i64 9, .int .i64 21, .int .i64 1001] 3)).setCell ⟨w.heap.size, 2, none⟩ (.int .i64 4)).cell? ⟨w.heap.size, 8, none⟩ = some (.bool b) := (World.cell?_setCell_other _ _ _ _ (by simp)).trans p8
        have s9 : (((w3.alloc (.cells #[.int .i64 0, .int .i64 0, .int .i64 0, .int .i64 (-1), .int .i64 (-1), .int .i64 0, .int .i64 (-1), .int .i64 (-1)] 3)).alloc (.cells #[.int .i64 17, .int .i64 5, .int .i64 4, .int .i64 5, .int .i64 4, .int .i64 9, .int .i64 21, .int .i64 1001] 3)).setCell ⟨w.heap.size, 2, none⟩ (.int .i64 4)).cell? ⟨w.heap.size, 9, none⟩ = some (.int .i64 x9) := (World.cell?_setCell_other _ _ _ _ (by simp)).trans p9
        have s10 : (((w3.alloc (.cells #[.int .i64 0, .int .i64 0, .int .i64 0, .int .i64 (-1), .int .i64 (-1), .int .i64 0, .int .i64 (-1), .int .i64 (-1)] 3)).alloc (.cells #[.int .i64 17, .int .i64 5, .int .i64 4, .int .i64 5, .int .i64 4, .int .i64 9, .int .i64 21, .int .i64 1001] 3)).setCell ⟨w.heap.size, 2, none⟩ (.int .i64 4)).cell? ⟨w.heap.size, 10, none⟩ = some (.int .i64 x10) := (World.cell?_setCell_other _ _ _ _ (by simp)).trans p10
        have s11 : (((w3.alloc (.cells #[.int .i64 0, .int .i64 0, .int .i64 0, .int .i64 (-1), .int .i64 (-1), .int .i64 0, .int .i64 (-1), .int .i64 (-1)] 3)).alloc (.cells #[.int .i64 17, .int .i64 5, .int .i64 4, .int .i64 5, .int .i64 4, .int .i64 9, .int .i64 21, .int .i64 1001] 3)).setCell ⟨w.heap.size, 2, none⟩ (.int .i64 4)).cell? ⟨w.heap.size, 11, none⟩ = some (.int .i64 x11) := (World.cell?_setCell_other _ _ _ _ (by simp)).trans p11
        replace hB := hB.setCell (p := ⟨w.heap.size, 2, none⟩) (Nat.le_refl _) (.int .i64 4)
        go_wp2_with fail
        refine (KA.out _).mono ?_
        rintro x w4 ⟨rfl, hb⟩
        replace hB := below_next hB hB.size hb
        clear hb q0 q1 q2 q3 q4 q5 q6 q7 q8 q9 q10 q11 p0 p1 p2 p3 p4 p5 p6 p7 p8 p9 p10 p11 s0 s1 s2 s3 s4 s5 s6 s7 s8 s9 s10 s11 zq0 zq1 zq2 zq3 zq4 zq5 zq6 zq7 zp0 zp1 zp2 zp3 zp4 zp5 zp6 zp7
        go_wp2
        go_ret
        exact ⟨rfl, hB⟩
      · skip
        have KA := hide (check_any x0 x1 0 x3 x4 x5 x6 x7 b x9 x10 x11)
        rw [show ckV x0 x1 0 x3 x4 x5 x6 x7 b x9 x10 x11 = 52 by obtain ⟨h0, h1, h2, h3, h4, h5, h6, h7, hb⟩ := OK.out; simp only [ckV, numsL, ckL]; repeat (first | rfl | rw [if_pos (by omega)] | rw [if_neg (by omega)])] at KA
        have s0 : (((w3.alloc (.cells #[.int .i64 0, .int .i64 0, .int .i64 0, .int .i64 (-1), .int .i64 (-1), .int .i64 0, .int .i64 (-1), .int .i64 (-1)] 3)).alloc (.cells #[.int .i64 17, .int .i64 5, .int .i64 4, .int .i64 5, .int .i64 4, .int .i64 9, .int .i64 21, .int .i64 1001] 3)).setCell ⟨w.heap.size, 2, none⟩ (.int .i64 0)).cell? ⟨w.heap.size, 0, none⟩ = some (.int .i64 x0) := (World.cell?_setCell_other _ _ _ _ (by simp)).trans p0
        have s1 : (((w3.alloc (.cells #[.int .i64 0, .int .i64 0, .int .i64 0, .int .i64 (-1), .int .i64 (-1), .int .i64 0, .int .i64 (-1), .int .i64 (-1)] 3)).alloc (.cells #[.int .i64 17, .int .i64 5, .int .i64 4, .int .i64 5, .int .i64 4, .int .i64 9, .int .i64 21, .int .i64 1001] 3)).setCell ⟨w.heap.size, 2, none⟩ (.int .i64 0)).cell? ⟨w.heap.size, 1, none⟩ = some (.int .i64 x1) := (World.cell?_setCell_other _ _ _ _ (by simp)).trans p1
        have s2 : (((w3.alloc (.cells #[.int .i64 0, .int .i64 0, .int .i64 0, .int .i64 (-1), .int .i64 (-1), .int .i64 0, .int .i64 (-1), .int .i64 (-1)] 3)).alloc (.cells #[.int .i64 17, .int .i64 5, .int .i64 4, .int .i64 5, .int .i64 4, .int .i64 9, .int .i64 21, .int .i64 1001] 3)).setCell ⟨w.heap.size, 2, none⟩ (.int .i64 0)).cell? ⟨w.heap.size, 2, none⟩ = some (.int .i64 0) := World.cell?_setCell_same _ _ _ p2
        have s3 : (((w3.alloc (.cells #[.int .i64 0, .int .i64 0, .int .i64 0, .int .i64 (-1), .int .i64 (-1), .int .i64 0, .int .i64 (-1), .int .i64 (-1)] 3)).alloc (.cells #[.int .i64 17, .int .i64 5, .int .i64 4, .int .i64 5, .int .i64 4, .int .i64 9, .int .i64 21, .int .i64 1001] 3)).setCell ⟨w.heap.size, 2, none⟩ (.int .i64 0)).cell? ⟨w.heap.size, 3, none⟩ = some (.int .i64 x3) := (World.cell?_setCell_other _ _ _ _ (by simp)).trans p3
        have s4 : (((w3.alloc (.cells #[.int .i64 0, .int .i64 0, .int .i64 0, .int .i64 (-1), .int .i64 (-1), .int .i64 0, .int .i64 (-1), .int .i64 (-1)] 3)).alloc (.cells #[.int .i64 17, .int .i64 5, .int .i64 4, .int .i64 5, .int .i64 4, .int .i64 9, .int .i64 21, .int .i64 1001] 3)).setCell ⟨w.heap.size, 2, none⟩ (.int .i64 0)).cell? ⟨w.heap.size, 4, none⟩ = some (.int .i64 x4) := (World.cell?_setCell_other _ _ _ _ (by simp)).trans p4
        have s5 : (((w3.alloc (.cells #[.int .i64 0, .int .i64 0, .int .i64 0, .int .i64 (-1), .int .i64 (-1), .int .i64 0, .int .i64 (-1), .int .i64 (-1)] 3)).alloc (.cells #[.int .i64 17, .int .i64 5, .int .i64 4, .int .i64 5, .int .i64 4, .int .i64 9, .int .i64 21, .int .i64 1001] 3)).setCell ⟨w.heap.size, 2, none⟩ (.int .i64 0)).cell? ⟨w.heap.size, 5, none⟩ = some (.int .i64 x5) := (World.cell?_setCell_other _ _ _ _ (by simp)).trans p5
        have s6 : (((w3.alloc (.cells #[.int .i64 0, .int .i64 0, .int .i64 0, .int .i64 (-1), .int .i64 (-1), .int .i64 0, .int .i64 (-1), .int .i64 (-1)] 3)).alloc (.cells #[.int .i64 17, .int .i64 5, .int .i64 4, .int .i64 5, .int .i64 4, .int .i64 9, .int .i64 21, .int .i64 1001] 3)).setCell ⟨w.heap.size, 2, none⟩ (.int .i64 0)).cell? ⟨w.heap.size, 6, none⟩ = some (.int .i64 x6) := (World.cell?_setCell_other _ _ _ _ (by simp)).trans p6
        have s7 : (((w3.alloc (.cells #[.int .i64 0, .int .i64 0, .int .i64 0, .int .i64 (-1), .int .i64 (-1), .int .i64 0, .int .i64 (-1), .int .i64 (-1)] 3)).alloc (.cells #[.int .i64 17, .int .i64 5, .int .i64 4, .int .i64 5, .int .i64 4, .int .i64 9, .int .i64 21, .int .i64 1001] 3)).setCell ⟨w.heap.size, 2, none⟩ (.int .i64 0)).cell? ⟨w.heap.size, 7, none⟩ = some (.int .i64 x7) := (World.cell?_setCell_other _ _ _ _ (by simp)).trans p7
        have s8 : (((w3.alloc (.cells #[.int .i64 0, .int .i64 0, .int .i64 0, .int .i64 (-1), .int .i64 (-1), .int .i64 0, .int .i64 (-1), .int .i64 (-1)] 3)).alloc (.cells #[.int .i64 17, .int .i64 5, .int .i64 4, .int .i64 5, .int .i64 4, .int .i64 9, .int .i64 21, .int .i64 1001] 3)).setCell ⟨w.heap.size, 2, none⟩ (.int .i64 0)).cell? ⟨w.heap.size, 8, none⟩ = some (.bool b) := (World.cell?_setCell_other _ _ _ _ (by simp)).trans p8
        have s9 : (((w3.alloc (.cells #[.int .i64 0, .int .i64 0, .int .i64 0, .int .i64 (-1), .int .i64 (-1), .int .i64 0, .int .i64 (-1), .int .i64 (-1)] 3)).alloc (.cells #[.int .i64 17, .int .i64 5, .int .i64 4, .int .i64 5, .int .i64 4, .int .i64 9, .int .i64 21, .int .i64 1001] 3)).setCell ⟨w.heap.size, 2, none⟩ (.int .i64 0)).cell? ⟨w.heap.size, 9, none⟩ = some (.int .i64 x9) := (World.cell?_setCell_other _ _ _ _ (by simp)).trans p9
        have s10 : (((w3.alloc (.cells #[.int .i64 0, .int .i64 0, .int .i64 0, .int .i64 (-1), .int .i64 (-1), .int .i64 0, .int .i64 (-1), .int .i64 (-1)] 3)).alloc (.cells #[.int .i64 17, .int .i64 5, .int .i64 4, .int .i64 5, .int .i64 4, .int .i64 9, .int .i64 21, .int .i64 1001] 3)).setCell ⟨w.heap.size, 2, none⟩ (.int .i64 0)).cell? ⟨w.heap.size, 10, none⟩ = some (.int .i64 x10) := (World.cell?_setCell_other _ _ _ _ (by simp)).trans p10
        have s11 : (((w3.alloc (.cells #[.int .i64 0, .int .i64 0, .int .i64 0, .int .i64 (-1), .int .i64 (-1), .int .i64 0, .int .i64 (-1), .int .i64 (-1)] 3)).alloc (.cells #[.int .i64 17, .int .i64 5, .int .i64 4, .int .i64 5, .int .i64 4, .int .i64 9, .int .i64 21, .int .i64 1001] 3)).setCell ⟨w.heap.size, 2, none⟩ (.int .i64 0)).cell? ⟨w.heap.size, 11, none⟩ = some (.int .i64 x11) := (World.cell?_setCell_other _ _ _ _ (by simp)).trans p11
        replace hB := hB.setCell (p := ⟨w.heap.size, 2, none⟩) (Nat.le_refl _) (.int .i64 0)
        go_wp2_with fail
        refine (KA.out _).mono ?_
        rintro x w4 ⟨rfl, hb⟩
        replace hB := below_next hB hB.size hb
        clear hb q0 q1 q2 q3 q4 q5 q6 q7 q8 q9 q10 q11 p0 p1 p2 p3 p4 p5 p6 p7 p8 p9 p10 p11 s0 s1 s2 s3 s4 s5 s6 s7 s8 s9 s10 s11 zq0 zq1 zq2 zq3 zq4 zq5 zq6 zq7 zp0 zp1 zp2 zp3 zp4 zp5 zp6 zp7
        go_wp2
        go_ret
        exact ⟨rfl, hB⟩
    · have hr : Int.tmod (a : Int) 8 = 3 := by rw [Int.tmod_eq_emod_of_nonneg (by omega)]; omega
      clear hk
      cases below
      · skip
        have KA := hide (check_any x0 x1 x2 5 x4 x5 x6 x7 b x9 x10 x11)
        rw [show ckV x0 x1 x2 5 x4 x5 x6 x7 b x9 x10 x11 = 53 by obtain ⟨h0, h1, h2, h3, h4, h5, h6, h7, hb⟩ := OK.out; simp only [ckV, numsL, ckL]; repeat (first | rfl | rw [if_pos (by omega)] | rw [if_neg (by omega)])] at KA
        have s0 : (((w3.alloc (.cells #[.int .i64 0, .int .i64 0, .int .i64 0, .int .i64 (-1), .int .i64 (-1), .int .i64 0, .int .i64 (-1), .int .i64 (-1)] 3)).alloc (.cells #[.int .i64 17, .int .i64 5, .int .i64 4, .int .i64 5, .int .i64 4, .int .i64 9, .int .i64 21, .int .i64 1001] 3)).setCell ⟨w.heap.size, 3, none⟩ (.int .i64 5)).cell? ⟨w.heap.size, 0, none⟩ = some (.int .i64 x0) := (World.cell?_setCell_other _ _ _ _ (by simp)).trans p0
        have s1 : (((w3.alloc (.cells #[.int .i64 0, .int .i64 0, .int .i64 0, .int .i64 (-1), .int .i64 (-1), .int .i64 0, .int .i64 (-1), .int .i64 (-1)] 3)).alloc (.cells #[.int .i64 17, .int .i64 5, .int .i64 4, .int .i64 5, .int .i64 4, .int .i64 9, .int .i64 21, .int .i64 1001] 3)).setCell ⟨w.heap.size, 3, none⟩ (.int .i64 5)).cell? ⟨w.heap.size, 1, none⟩ = some (.int .i64 x1) := (World.cell?_setCell_other _ _ _ _ (by simp)).trans p1
        have s2 : (((w3.alloc (.cells #[.int .i64 0, .int .i64 0, .int .i64 0, .int .i64 (-1), .int .i64 (-1), .int .i64 0, .int .i64 (-1), .int .i64 (-1)] 3)).alloc (.cells #[.int .i64 17, .int .i64 5, .int .i64 4, .int .i64 5, .int .i64 4, .int .i64 9, .int .i64 21, .int .i64 1001] 3)).setCell ⟨w.heap.size, 3, none⟩ (.int .i64 5)).cell? ⟨w.heap.size, 2, none⟩ = some (.int .i64 x2) := (World.cell?_setCell_other _ _ _ _ (by simp)).trans p2
        have s3 : (((w3.alloc (.cells #[.int .i64 0, .int .i64 0, .int .i64 0, .int .i64 (-1), .int .i64 (-1), .int .i64 0, .int .i64 (-1), .int .i64 (-1)] 3)).alloc (.cells #[.int .i64 17, .int .i64 5, .int .i64 4, .int .i64 5, .int .i64 4, .int .i64 9, .int .i64 21, .int .i64 1001] 3)).setCell ⟨w.heap.size, 3, none⟩ (.int .i64 5)).cell? ⟨w.heap.size, 3, none⟩ = some (.int .i64 5) := World.cell?_setCell_same _ _ _ p3
        have s4 : (((w3.alloc (.cells #[.int .i64 0, .int .i64 0, .int .i64 0, .int .i64 (-1), .int .i64 (-1), .int .i64 0, .int .i64 (-1), .int .i64 (-1)] 3)).alloc (.cells #[.int .i64 17, .int .i64 5, .int .i64 4, .int .i64 5, .int .i64 4, .int .i64 9, .int .i64 21, .int .i64 1001] 3)).setCell ⟨w.heap.size, 3, none⟩ (.int .i64 5)).cell? ⟨w.heap.size, 4, none⟩ = some (.int .i64 x4) := (World.cell?_setCell_other _ _ _ _ (by simp)).trans p4
        have s5 : (((w3.alloc (.cells #[.int .i64 0, .int .i64 0, .int .i64 0, .int .i64 (-1), .int .i64 (-1), .int .i64 0, .int .i64 (-1), .int .i64 (-1)] 3)).alloc (.cells #[.int .i64 17, .int .i64 5, .int .i64 4, .int .i64 5, .int .i64 4, .int .i64 9, .int .i64 21, .int .i64 1001] 3)).setCell ⟨w.heap.size, 3, none⟩ (.int .i64 5)).cell? ⟨w.heap.size, 5, none⟩ = some (.int .i64 x5) := (World.cell?_setCell_other _ _ _ _ (by simp)).trans p5
        have s6 : (((w3.alloc (.cells #[.int .i64 0, .int .i64 0, .int .i64 0, .int .i64 (-1), .int .i64 (-1), .int .i64 0, .int .i64 (-1), .int .i64 (-1)] 3)).alloc (.cells #[.int .i64 17, .int .i64 5, .int .i64 4, .int .i64 5, .int .i64 4, .int .i64 9, .int .i64 21, .int .i64 1001] 3)).setCell ⟨w.heap.size, 3, none⟩ (.int .i64 5)).cell? ⟨w.heap.size, 6, none⟩ = some (.int .i64 x6) := (World.cell?_setCell_other _ _ _ _ (by simp)).trans p6
        have s7 : (((w3.alloc (.cells #[.int .i64 0, .int .i64 0, .int .i64 0, .int .i64 (-1), .int .i64 (-1), .int .i64 0, .int .i64 (-1), .int .i64 (-1)] 3)).alloc (.cells #[.int .i64 17, .int .i64 5, .int .i64 4, .int .i64 5, .int .i64 4, .int .i64 9, .int .i64 21, .int .i64 1001] 3)).setCell ⟨w.heap.size, 3, none⟩ (.int .i64 5)).cell? ⟨w.heap.size, 7, none⟩ = some (.int .i64 x7) := (World.cell?_setCell_other _ _ _ _ (by simp)).trans p7
        have s8 : (((w3.alloc (.cells #[.int .i64 0, .int .i64 0, .int .i64 0, .int .i64 (-1), .int .i64 (-1), .int .i64 0, .int .i64 (-1), .int .i64 (-1)] 3)).alloc (.cells #[.int .i64 17, .int .i64 5, .int .i64 4, .int .i64 5, .int .i64 4, .int .i64 9, .int .i64 21, .int .i64 1001] 3)).setCell ⟨w.heap.size, 3, none⟩ (.int .i64 5)).cell? ⟨w.heap.size, 8, none⟩ = some (.bool b) := (World.cell?_setCell_other _ _ _ _ (by simp)).trans p8
        have s9 : (((w3.alloc (.cells #[.int .i64 0, .int .i64 0, .int .i64 0, .int .i64 (-1), .int .i64 (-1), .int .i64 0, .int .i64 (-1), .int .i64 (-1)] 3)).alloc (.cells #[.int .i64 17, .int .i64 5, .int .i64 4, .int .i64 5, .int .i64 4, .int .i64 9, .int .i64 21, .int .i64 1001] 3)).setCell ⟨w.heap.size, 3, none⟩ (.int .i64 5)).cell? ⟨w.heap.size, 9, none⟩ = some (.int .i64 x9) := (World.cell?_setCell_other _ _ _ _ (by simp)).trans p9
        have s10 : (((w3.alloc (.cells #[.int .i64 0, .int .i64 0, .int .i64 0, .int .i64 (-1), .int .i64 (-1), .int .i64 0, .int .i64 (-1), .int .i64 (-1)] 3)).alloc (.cells #[.int .i64 17, .int .i64 5, .int .i64 4, .int .i64 5, .int .i64 4, .int .i64 9, .int .i64 21, .int .i64 1001] 3)).setCell ⟨w.heap.size, 3, none⟩ (.int .i64 5)).cell? ⟨w.heap.size, 10, none⟩ = some (.int .i64 x10) := (World.cell?_setCell_other _ _ _ _ (by simp)).trans p10
        have s11 : (((w3.alloc (.cells #[.int .i64 0, .int .i64 0, .int .i64 0, .int .i64 (-1), .int .i64 (-1), .int .i64 0, .int .i64 (-1), .int .i64 (-1)] 3)).alloc (.cells #[.int .i64 17, .int .i64 5, .int .i64 4, .int .i64 5, .int .i64 4, .int .i64 9, .int .i64 21, .int .i64 1001] 3)).setCell ⟨w.heap.size, 3, none⟩ (.int .i64 5)).cell? ⟨w.heap.size, 11, none⟩ = some (.int .i64 x11) := (World.cell?_setCell_other _ _ _ _ (by simp)).trans p11
        replace hB := hB.setCell (p := ⟨w.heap.size, 3, none⟩) (Nat.le_refl _) (.int .i64 5)
        go_wp2_with fail
        refine (KA.out _).mono ?_
        rintro x w4 ⟨rfl, hb⟩
        replace hB := below_next hB hB.size hb
        clear hb q0 q1 q2 q3 q4 q5 q6 q7 q8 q9 q10 q11 p0 p1 p2 p3 p4 p5 p6 p7 p8 p9 p10 p11 s0 s1 s2 s3 s4 s5 s6 s7 s8 s9 s10 s11 zq0 zq1 zq2 zq3 zq4 zq5 zq6 zq7 zp0 zp1 zp2 zp3 zp4 zp5 zp6 zp7
        go_wp2
        go_ret
        exact ⟨rfl, hB⟩
      · skip
        have KA := hide (check_any x0 x1 x2 (-1) x4 x5 x6 x7 b x9 x10 x11)
        rw [show ckV x0 x1 x2 (-1) x4 x5 x6 x7 b x9 x10 x11 = 53 by obtain ⟨h0, h1, h2, h3, h4, h5, h6, h7, hb⟩ := OK.out; simp only [ckV, numsL, ckL]; repeat (first | rfl | rw [if_pos (by omega)] | rw [if_neg (by omega)])] at KA
        have s0 : (((w3.alloc (.cells #[.int .i64 0, .int .i64 0, .int .i64 0, .int .i64 (-1), .int .i64 (-1), .int .i64 0, .int .i64 (-1), .int .i64 (-1)] 3)).alloc (.cells #[.int .i64 17, .int .i64 5, .int .i64 4, .int .i64 5, .int .i64 4, .int .i64 9, .int .i64 21, .int .i64 1001] 3)).setCell ⟨w.heap.size, 3, none⟩ (.int .i64 (-1))).cell? ⟨w.heap.size, 0, none⟩ = some (.int .i64 x0) := (World.cell?_setCell_other _ _ _ _ (by simp)).trans p0
        have s1 : (((w3.alloc (.cells #[.int .i64 0, .int .i64 0, .int .i64 0, .int .i64 (-1), .int .i64 (-1), .int .i64 0, .int .i64 (-1), .int .i64 (-1)] 3)).alloc (.cells #[.int .i64 17, .int .i64 5, .int .i64 4, .int .i64 5, .int .i64 4, .int .i64 9, .int .i64 21, .int .i64 1001] 3)).setCell ⟨w.heap.size, 3, none⟩ (.int .i64 (-1))).cell? ⟨w.heap.size, 1, none⟩ = some (.int .i64 x1) := (World.cell?_setCell_other _ _ _ _ (by simp)).trans p1
        have s2 : (((w3.alloc (.cells #[.int .i64 0, .int .i64 0, .int .i64 0, .int .i64 (-1), .int .i64 (-1), .int .i64 0, .int .i64 (-1), .int .i64 (-1)] 3)).alloc (.cells #[.int .i64 17, .int .i64 5, .int .i64 4, .int .i64 5, .int .i64 4, .int .i64 9, .int .i64 21, .int .i64 1001] 3)).setCell ⟨w.heap.size, 3, none⟩ (.int .i64 (-1))).cell? ⟨w.heap.size, 2, none⟩ = some (.int .i64 x2) := (World.cell?_setCell_other _ _ _ _ (by simp)).trans p2
        have s3 : (((w3.alloc (.cells #[.int .i64 0, .int .i64 0, .int .i64 0, .int .i64 (-1), .int .i64 (-1), .int .i64 0, .int .i64 (-1), .int .i64 (-1)] 3)).alloc (.cells #[.int .i64 17, .int .i64 5, .int .i64 4, .int .i64 5, .int .i64 4, .int .i64 9, .int .i64 21, .int .i64 1001] 3)).setCell ⟨w.heap.size, 3, none⟩ (.int .i64 (-1))).cell? ⟨w.heap.size, 3, none⟩ = some (.int .i64 (-1)) := World.cell?_setCell_same _ _ _ p3
        have s4 : (((w3.alloc (.cells #[.int .i64 0, .int .i64 0, .int .i64 0, .int .i64 (-1), .int .i64 (-1), .int .i64 0, .int .i64 (-1), .int .i64 (-1)] 3)).alloc (.cells #[.int .i64 17, .int .i64 5, .int .i64 4, .int .i64 5, .int .i64 4, .int .i64 9, .int .i64 21, .int .i64 1001] 3)).setCell ⟨w.heap.size, 3, none⟩ (.int .i64 (-1))).cell? ⟨w.heap.size, 4, none⟩ = some (.int .i64 x4) := (World.cell?_setCell_other _ _ _ _ (by simp)).trans p4
        have s5 : (((w3.alloc (.cells #[.int .i64 0, .int .i64 0, .int .i64 0, .int .i64 (-1), .int .i64 (-1), .int .i64 0, .int .i64 (-1), .int .i64 (-1)] 3)).alloc (.cells #[.int .i64 17, .int .i64 5, .int .i64 4, .int .i64 5, .int .i64 4, .int .i64 9, .int .i64 21, .int .i64 1001] 3)).setCell ⟨w.heap.size, 3, none⟩ (.int .i64 (-1))).cell? ⟨w.heap.size, 5, none⟩ = some (.int .i64 x5) := (World.cell?_setCell_other _ _ _ _ (by simp)).trans p5
        have s6 : (((w3.alloc (.cells #[.int .i64 0, .int .i64 0, .int .i64 0, .int .i64 (-1), .int .i64 (-1), .int .i64 0, .int .i64 (-1), .int .i64 (-1)] 3)).alloc (.cells #[.int .i64 17, .int .i64 5, .int .i64 4, .int .i64 5, .int .i64 4, .int .i64 9, .int .i64 21, .int .i64 1001] 3)).setCell ⟨w.heap.size, 3, none⟩ (.int .i64 (-1))).cell? ⟨w.heap.size, 6, none⟩ = some (.int .i64 x6) := (World.cell?_setCell_other _ _ _ _ (by simp)).trans p6
        have s7 : (((w3.alloc (.cells #[.int .i64 0, .int .i64 0, .int .i64 0, .int .i64 (-1), .int .i64 (-1), .int .i64 0, .int .i64 (-1), .int .i64 (-1)] 3)).alloc (.cells #[.int .i64 17, .int .i64 5, .int .i64 4, .int .i64 5, .int .i64 4, .int .i64 9, .int .i64 21, .int .i64 1001] 3)).setCell ⟨w.heap.size, 3, none⟩ (.int .i64 (-1))).cell? ⟨w.heap.size, 7, none⟩ = some (.int .i64 x7) := (World.cell?_setCell_other _ _ _ _ (by simp)).trans p7
        have s8 : (((w3.alloc (.cells #[.int .i64 0, .int .i64 0, .int .i64 0, .int .i64 (-1), .int .i64 (-1), .int .i64 0, .int .i64 (-1), .int .i64 (-1)] 3)).alloc (.cells #[.int .i64 17, .int .i64 5, .int .i64 4, .int .i64 5, .int .i64 4, .int .i64 9, .int .i64 21, .int .i64 1001] 3)).setCell ⟨w.heap.size, 3, none⟩ (.int .i64 (-1))).cell? ⟨w.heap.size, 8, none⟩ = some (.bool b) := (World.cell?_setCell_other _ _ _ _ (by simp)).trans p8
        have s9 : (((w3.alloc (.cells #[.int .i64 0, .int .i64 0, .int .i64 0, .int .i64 (-1), .int .i64 (-1), .int .i64 0, .int .i64 (-1), .int .i64 (-1)] 3)).alloc (.cells #[.int .i64 17, .int .i64 5, .int .i64 4, .int .i64 5, .int .i64 4, .int .i64 9, .int .i64 21, .int .i64 1001] 3)).setCell ⟨w.heap.size, 3, none⟩ (.int .i64 (-1))).cell? ⟨w.heap.size, 9, none⟩ = some (.int .i64 x9) := (World.cell?_setCell_other _ _ _ _ (by simp)).trans p9
        have s10 : (((w3.alloc (.cells #[.int .i64 0, .int .i64 0, .int .i64 0, .int .i64 (-1), .int .i64 (-1), .int .i64 0, .int .i64 (-1), .int .i64 (-1)] 3)).alloc (.cells #[.int .i64 17, .int .i64 5, .int .i64 4, .int .i64 5, .int .i64 4, .int .i64 9, .int .i64 21, .int .i64 1001] 3)).setCell ⟨w.heap.size, 3, none⟩ (.int .i64 (-1))).cell? ⟨w.heap.size, 10, none⟩ = some (.int .i64 x10) := (World.cell?_setCell_other _ _ _ _ (by simp)).trans p10
        have s11 : (((w3.alloc (.cells #[.int .i64 0, .int .i64 0, .int .i64 0, .int .i64 (-1), .int .i64 (-1), .int .i64 0, .int .i64 (-1), .int .i64 (-1)] 3)).alloc (.cells #[.int .i64 17, .int .i64 5, .int .i64 4, .int .i64 5, .int .i64 4, .int .i64 9, .int .i64 21, .int .i64 1001] 3)).setCell ⟨w.heap.size, 3, none⟩ (.int .i64 (-1))).cell? ⟨w.heap.size, 11, none⟩ = some (.int .i64 x11) := (World.cell?_setCell_other _ _ _ _ (by simp)).trans p11
        replace hB := hB.setCell (p := ⟨w.heap.size, 3, none⟩) (Nat.le_refl _) (.int .i64 (-1))
        go_wp2_with fail
        refine (KA.out _).mono ?_
        rintro x w4 ⟨rfl, hb⟩
        replace hB := below_next hB hB.size hb
        clear hb q0 q1 q2 q3 q4 q5 q6 q7 q8 q9 q10 q11 p0 p1 p2 p3 p4 p5 p6 p7 p8 p9 p10 p11 s0 s1 s2 s3 s4 s5 s6 s7 s8 s9 s10 s11 zq0 zq1 zq2 zq3 zq4 zq5 zq6 zq7 zp0 zp1 zp2 zp3 zp4 zp5 zp6 zp7
        go_wp2
        go_ret
        exact ⟨rfl, hB⟩
    · have hr : Int.tmod (a : Int) 8 = 4 := by rw [Int.tmod_eq_emod_of_nonneg (by omega)]; omega
      clear hk
      cases below
      · skip
        have KA := hide (check_any x0 x1 x2 x3 4 x5 x6 x7 b x9 x10 x11)
        rw [show ckV x0 x1 x2 x3 4 x5 x6 x7 b x9 x10 x11 = 54 by obtain ⟨h0, h1, h2, h3, h4, h5, h6, h7, hb⟩ := OK.out; simp only [ckV, numsL, ckL]; repeat (first | rfl | rw [if_pos (by omega)] | rw [if_neg (by omega)])] at KA
        have s0 : (((w3.alloc (.cells #[.int .i64 0, .int .i64 0, .int .i64 0, .int .i64 (-1), .int .i64 (-1), .int .i64 0, .int .i64 (-1), .int .i64 (-1)] 3)).alloc (.cells #[.int .i64 17, .int .i64 5, .int .i64 4, .int .i64 5, .int .i64 4, .int .i64 9, .int .i64 21, .int .i64 1001] 3)).setCell ⟨w.heap.size, 4, none⟩ (.int .i64 4)).cell? ⟨w.heap.size, 0, none⟩ = some (.int .i64 x0) := (World.cell?_setCell_other _ _ _ _ (by simp)).trans p0
        have s1 : (((w3.alloc (.cells #[.int .i64 0, .int .i64 0, .int .i64 0, .int .i64 (-1), .int .i64 (-1), .int .i64 0, .int .i64 (-1), .int .i64 (-1)] 3)).alloc (.cells #[.int .i64 17, .int .i64 5, .int .i64 4, .int .i64 5, .int .i64 4, .int .i64 9, .int .i64 21, .int .i64 1001] 3)).setCell ⟨w.heap.size, 4, none⟩ (.int .i64 4)).cell? ⟨w.heap.size, 1, none⟩ = some (.int .i64 x1) := (World.cell?_setCell_other _ _ _ _ (by simp)).trans p1
        have s2 : (((w3.alloc (.cells #[.int .i64 0, .int .i64 0, .int .i64 0, .int .i64 (-1), .int .i64 (-1), .int .i64 0, .int .i64 (-1), .int .i64 (-1)] 3)).alloc (.cells #[.int .i64 17, .int .i64 5, .int .i64 4, .int .i64 5, .int .i64 4, .int .i64 9, .int .i64 21, .int .i64 1001] 3)).setCell ⟨w.heap.size, 4, none⟩ (.int .i64 4)).cell? ⟨w.heap.size, 2, none⟩ = some (.int .i64 x2) := (World.cell?_setCell_other _ _ _ _ (by simp)).trans p2
        have s3 : (((w3.alloc (.cells #[.int .i64 0, .int .i64 0, .int .i64 0, .int .i64 (-1), .int .i64 (-1), .int .i64 0, .int .i64 (-1), .int .i64 (-1)] 3)).alloc (.cells #[.int .i64 17, .int .i64 5, .int .i64 4, .int .i64 5, .int .i64 4, .int .i64 9, .int .i64 21, .int .i64 1001] 3)).setCell ⟨w.heap.size, 4, none⟩ (.int .i64 4)).cell? ⟨w.heap.size, 3, none⟩ = some (.int .i64 x3) := (World.cell?_setCell_other _ _ _ _ (by simp)).trans p3
        have s4 : (((w3.alloc (.cells #[.int .i64 0, .int .i64 0, .int .i64 0, .int .i64 (-1), .int .i64 (-1), .int .i64 0, .int .i64 (-1), .int .i64 (-1)] 3)).alloc (.cells #[.int .i64 17, .int .i64 5, .int .i64 4, .int .i64 5, .int .i64 4, .int .i64 9, .int .i64 21, .int .i64 1001] 3)).setCell ⟨w.heap.size, 4, none⟩ (.int .i64 4)).cell? ⟨w.heap.size, 4, none⟩ = some (.int .i64 4) := World.cell?_setCell_same _ _ _ p4
        have s5 : (((w3.alloc (.cells #[.int .i64 0, .int .i64 0, .int .i64 0, .int .i64 (-1), .int .i64 (-1), .int .i64 0, .int .i64 (-1), .int .i64 (-1)] 3)).alloc (.cells #[.int .i64 17, .int .i64 5, .int .i64 4, .int .i64 5, .int .i64 4, .int .i64 9, .int .i64 21, .int .i64 1001] 3)).setCell ⟨w.heap.size, 4, none⟩ (.int .i64 4)).cell? ⟨w.heap.size, 5, none⟩ = some (.int .i64 x5) := (World.cell?_setCell_other _ _ _ _ (by simp)).trans p5
        have s6 : (((w3.alloc (.cells #[.int .i64 0, .int .i64 0, .int .i64 0, .int .i64 (-1), .int .i64 (-1), .int .i64 0, .int .i64 (-1), .int .i64 (-1)] 3)).alloc (.cells #[.int .i64 17, .int .i64 5, .int .i64 4, .int .i64 5, .int .i64 4, .int .i64 9, .int .i64 21, .int .i64 1001] 3)).setCell ⟨w.heap.size, 4, none⟩ (.int .i64 4)).cell? ⟨w.heap.size, 6, none⟩ = some (.int .i64 x6) := (World.cell?_setCell_other _ _ _ _ (by simp)).trans p6
        have s7 : (((w3.alloc (.cells #[.int .i64 0, .int .i64 0, .int .i64 0, .int .i64 (-1), .int .i64 (-1), .int .i64 0, .int .i64 (-1), .int .i64 (-1)] 3)).alloc (.cells #[.int .i64 17, .int .i64 5, .int .i64 4, .int .i64 5, .int .i64 4, .int .i64 9, .int .i64 21, .int .i64 1001] 3)).setCell ⟨w.heap.size, 4, none⟩ (.int .i64 4)).cell? ⟨w.heap.size, 7, none⟩ = some (.int .i64 x7) := (World.cell?_setCell_other _ _ _ _ (by simp)).trans p7
        have s8 : (((w3.alloc (.cells #[.int .i64 0, .int .i64 0, .int .i64 0, .int .i64 (-1), .int .i64 (-1), .int .i64 0, .int .i64 (-1), .int .i64 (-1)] 3)).alloc (.cells #[.int .i64 17, .int .i64 5, .int .i64 4, .int .i64 5, .int .i64 4, .int .i64 9, .int .i64 21, .int .i64 1001] 3)).setCell ⟨w.heap.size, 4, none⟩ (.int .i64 4)).cell? ⟨w.heap.size, 8, none⟩ = some (.bool b) := (World.cell?_setCell_other _ _ _ _ (by simp)).trans p8
        have s9 : (((w3.alloc (.cells #[.int .i64 0, .int .i64 0, .int .i64 0, .int .i64 (-1), .int .i64 (-1), .int .i64 0, .int .i64 (-1), .int .i64 (-1)] 3)).alloc (.cells #[.int .i64 17, .int .i64 5, .int .i64 4, .int .i64 5, .int .i64 4, .int .i64 9, .int .i64 21, .int .i64 1001] 3)).setCell ⟨w.heap.size, 4, none⟩ (.int .i64 4)).cell? ⟨w.heap.size, 9, none⟩ = some (.int .i64 x9) := (World.cell?_setCell_other _ _ _ _ (by simp)).trans p9
        have s10 : (((w3.alloc (.cells #[.int .i64 0, .int .i64 0, .int .i64 0, .int .i64 (-1), .int .i64 (-1), .int .i64 0, .int .i64 (-1), .int .i64 (-1)] 3)).alloc (.cells #[.int .i64 17, .int .i64 5, .int .i64 4, .int .i64 5, .int .i64 4, .int .i64 9, .int .i64 21, .int .i64 1001] 3)).setCell ⟨w.heap.size, 4, none⟩ (.int .i64 4)).cell? ⟨w.heap.size, 10, none⟩ = some (.int .i64 x10) := (World.cell?_setCell_other _ _ _ _ (by simp)).trans p10
        have s11 : (((w3.alloc (.cells #[.int .i64 0, .int .i64 0, .int .i64 0, .int .i64 (-1), .int .i64 (-1), .int .i64 0, .int .i64 (-1), .int .i64 (-1)] 3)).alloc (.cells #[.int .i64 17, .int .i64 5, .int .i64 4, .int .i64 5, .int .i64 4, .int .i64 9, .int .i64 21, .int .i64 1001] 3)).setCell ⟨w.heap.size, 4, none⟩ (.int .i64 4)).cell? ⟨w.heap.size, 11, none⟩ = some (.int .i64 x11) := (World.cell?_setCell_other _ _ _ _ (by simp)).trans p11
        replace hB := hB.setCell (p := ⟨w.heap.size, 4, none⟩) (Nat.le_refl _) (.int .i64 4)
        go_wp2_with fail
        refine (KA.out _).mono ?_
        rintro x w4 ⟨rfl, hb⟩
        replace hB := below_next hB hB.size hb
        clear hb q0 q1 q2 q3 q4 q5 q6 q7 q8 q9 q10 q11 p0 p1 p2 p3 p4 p5 p6 p7 p8 p9 p10 p11 s0 s1 s2 s3 s4 s5 s6 s7 s8 s9 s10 s11 zq0 zq1 zq2 zq3 zq4 zq5 zq6 zq7 zp0 zp1 zp2 zp3 zp4 zp5 zp6 zp7
        go_wp2
        go_ret
        exact ⟨rfl, hB⟩
      · skip
        have KA := hide (check_any x0 x1 x2 x3 (-1) x5 x6 x7 b x9 x10 x11)
        rw [show ckV x0 x1 x2 x3 (-1) x5 x6 x7 b x9 x10 x11 = 54 by obtain ⟨h0, h1, h2, h3, h4, h5, h6, h7, hb⟩ := OK.out; simp only [ckV, numsL, ckL]; repeat (first | rfl | rw [if_pos (by omega)] | rw [if_neg (by omega)])] at KA
        have s0 : (((w3.alloc (.cells #[.int .i64 0, .int .i64 0, .int .i64 0, .int .i64 (-1), .int .i64 (-1), .int .i64 0, .int .i64 (-1), .int .i64 (-1)] 3)).alloc (.cells #[.int .i64 17, .int .i64 5, .int .i64 4, .int .i64 5, .int .i64 4, .int .i64 9, .int .i64 21, .int .i64 1001] 3)).setCell ⟨w.heap.size, 4, none⟩ (.int .i64 (-1))).cell? ⟨w.heap.size, 0, none⟩ = some (.int .i64 x0) := (World.cell?_setCell_other _ _ _ _ (by simp)).trans p0
        have s1 : (((w3.alloc (.cells #[.int .i64 0, .int .i64 0, .int .i64 0, .int .i64 (-1), .int .i64 (-1), .int .i64 0, .int .i64 (-1), .int .i64 (-1)] 3)).alloc (.cells #[.int .i64 17, .int .i64 5, .int .i64 4, .int .i64 5, .int .i64 4, .int .i64 9, .int .i64 21, .int .i64 1001] 3)).setCell ⟨w.heap.size, 4, none⟩ (.int .i64 (-1))).cell? ⟨w.heap.size, 1, none⟩ = some (.int .i64 x1) := (World.cell?_setCell_other _ _ _ _ (by simp)).trans p1
        have s2 : (((w3.alloc (.cells #[.int .i64 0, .int .i64 0, .int .i64 0, .int .i64 (-1), .int .i64 (-1), .int .i64 0, .int .i64 (-1), .int .i64 (-1)] 3)).alloc (.cells #[.int .i64 17, .int .i64 5, .int .i64 4, .int .i64 5, .int .i64 4, .int .i64 9, .int .i64 21, .int .i64 1001] 3)).setCell ⟨w.heap.size, 4, none⟩ (.int .i64 (-1))).cell? ⟨w.heap.size, 2, none⟩ = some (.int .i64 x2) := (World.cell?_setCell_other _ _ _ _ (by simp)).trans p2
        have s3 : (((w3.alloc (.cells #[.int .i64 0, .int .i64 0, .int .i64 0, .int .i64 (-1), .int .i64 (-1), .int .i64 0, .int .i64 (-1), .int .i64 (-1)] 3)).alloc (.cells #[.int .i64 17, .int .i64 5, .int .i64 4, .int .i64 5, .int .i64 4, .int .i64 9, .int .i64 21, .int .i64 1001] 3)).setCell ⟨w.heap.size, 4, none⟩ (.int .i64 (-1))).cell? ⟨w.heap.size, 3, none⟩ = some (.int .i64 x3) := (World.cell?_setCell_other _ _ _ _ (by simp)).trans p3
        have s4 : (((w3.alloc (.cells #[.int .i64 0, .int .i64 0, .int .i64 0, .int .i64 (-1), .int .i64 (-1), .int .i64 0, .int .i64 (-1), .int .i64 (-1)] 3)).alloc (.cells #[.int .i64 17, .int .i64 5, .int .i64 4, .int .i64 5, .int .i64 4, .int .i64 9, .int .i64 21, .int .i64 1001] 3)).setCell ⟨w.heap.size, 4, none⟩ (.int .i64 (-1))).cell? ⟨w.heap.size, 4, none⟩ = some (.int .i64 (-1)) := World.cell?_setCell_same _ _ _ p4
        have s5 : (((w3.alloc (.cells #[.int .i64 0, .int .i64 0, .int .i64 0, .int .i64 (-1), .int .i64 (-1), .int .i64 0, .int .i64 (-1), .int .i64 (-1)] 3)).alloc (.cells #[.int .i64 17, .int .i64 5, .int .i64 4, .int .i64 5, .int .i64 4, .int .i64 9, .int .i64 21, .int .i64 1001] 3)).setCell ⟨w.heap.size, 4, none⟩ (.int .i64 (-1))).cell? ⟨w.heap.size, 5, none⟩ = some (.int .i64 x5) := (World.cell?_setCell_other _ _ _ _ (by simp)).trans p5
        have s6 : (((w3.alloc (.cells #[.int .i64 0, .int .i64 0, .int .i64 0, .int .i64 (-1), .int .i64 (-1), .int .i64 0, .int .i64 (-1), .int .i64 (-1)] 3)).alloc (.cells #[.int .i64 17, .int .i64 5, .int .i64 4, .int .i64 5, .int .i64 4, .int .i64 9, .int .i64 21, .int .i64 1001] 3)).setCell ⟨w.heap.size, 4, none⟩ (.int .i64 (-1))).cell? ⟨w.heap.size, 6, none⟩ = some (.int .i64 x6) := (World.cell?_setCell_other _ _ _ _ (by simp)).trans p6
        have s7 : (((w3.alloc (.cells #[.int .i64 0, .int .i64 0, .int .i64 0, .int .i64 (-1), .int .i64 (-1), .int .i64 0, .int .i64 (-1), .int .i64 (-1)] 3)).alloc (.cells #[.int .i64 17, .int .i64 5, .int .i64 4, .int .i64 5, .int .i64 4, .int .i64 9, .int .i64 21, .int .i64 1001] 3)).setCell ⟨w.heap.size, 4, none⟩ (.int .i64 (-1))).cell? ⟨w.heap.size, 7, none⟩ = some (.int .i64 x7) := (World.cell?_setCell_other _ _ _ _ (by simp)).trans p7
        have s8 : (((w3.alloc (.cells #[.int .i64 0, .int .i64 0, .int .i64 0, .int .i64 (-1), .int .i64 (-1), .int .i64 0, .int .i64 (-1), .int .i64 (-1)] 3)).alloc (.cells #[.int .i64 17, .int .i64 5, .int .i64 4, .int .i64 5, .int .i64 4, .int .i64 9, .int .i64 21, .int .i64 1001] 3)).setCell ⟨w.heap.size, 4, none⟩ (.int .i64 (-1))).cell? ⟨w.heap.size, 8, none⟩ = some (.bool b) := (World.cell?_setCell_other _ _ _ _ (by simp)).trans p8
        have s9 : (((w3.alloc (.cells #[.int .i64 0, .int .i64 0, .int .i64 0, .int .i64 (-1), .int .i64 (-1), .int .i64 0, .int .i64 (-1), .int .i64 (-1)] 3)).alloc (.cells #[.int .i64 17, .int .i64 5, .int .i64 4, .int .i64 5, .int .i64 4, .int .i64 9, .int .i64 21, .int .i64 1001] 3)).setCell ⟨w.heap.size, 4, none⟩ (.int .i64 (-1))).cell? ⟨w.heap.size, 9, none⟩ = some (.int .i64 x9) := (World.cell?_setCell_other _ _ _ _ (by simp)).trans p9
        have s10 : (((w3.alloc (.cells #[.int .i64 0, .int .i64 0, .int .i64 0, .int .i64 (-1), .int .i64 (-1), .int .i64 0, .int .i64 (-1), .int .i64 (-1)] 3)).alloc (.cells #[.int .i64 17, .int .i64 5, .int .i64 4, .int .i64 5, .int .i64 4, .int .i64 9, .int .i64 21, .int .i64 1001] 3)).setCell ⟨w.heap.size, 4, none⟩ (.int .i64 (-1))).cell? ⟨w.heap.size, 10, none⟩ = some (.int .i64 x10) := (World.cell?_setCell_other _ _ _ _ (by simp)).trans p10
        have s11 : (((w3.alloc (.cells #[.int .i64 0, .int .i64 0, .int .i64 0, .int .i64 (-1), .int .i64 (-1), .int .i64 0, .int .i64 (-1), .int .i64 (-1)] 3)).alloc (.cells #[.int .i64 17, .int .i64 5, .int .i64 4, .int .i64 5, .int .i64 4, .int .i64 9, .int .i64 21, .int .i64 1001] 3)).setCell ⟨w.heap.size, 4, none⟩ (.int .i64 (-1))).cell? ⟨w.heap.size, 11, none⟩ = some (.int .i64 x11) := (World.cell?_setCell_other _ _ _ _ (by simp)).trans p11
        replace hB := hB.setCell (p := ⟨w.heap.size, 4, none⟩) (Nat.le_refl _) (.int .i64 (-1))
        go_wp2_with fail
        refine (KA.out _).mono ?_
        rintro x w4 ⟨rfl, hb⟩
        replace hB := below_next hB hB.size hb
        clear hb q0 q1 q2 q3 q4 q5 q6 q7 q8 q9 q10 q11 p0 p1 p2 p3 p4 p5 p6 p7 p8 p9 p10 p11 s0 s1 s2 s3 s4 s5 s6 s7 s8 s9 s10 s11 zq0 zq1 zq2 zq3 zq4 zq5 zq6 zq7 zp0 zp1 zp2 zp3 zp4 zp5 zp6 zp7
        go_wp2
        go_ret
        exact ⟨rfl, hB⟩
    · have hr : Int.tmod (a : Int) 8 = 5 := by rw [Int.tmod_eq_emod_of_nonneg (by omega)]; omega
      clear hk
      cases below
      · skip
        have KA := hide (check_any x0 x1 x2 x3 x4 9 x6 x7 b x9 x10 x11)
        rw [show ckV x0 x1 x2 x3 x4 9 x6 x7 b x9 x10 x11 = 55 by obtain ⟨h0, h1, h2, h3, h4, h5, h6, h7, hb⟩ := OK.out; simp only [ckV, numsL, ckL]; repeat (first | rfl | rw [if_pos (by omega)] | rw [if_neg (by omega)])] at KA
        have s0 : (((w3.alloc (.cells #[.int .i64 0, .int .i64 0, .int .i64 0, .int .i64 (-1), .int .i64 (-1), .int .i64 0, .int .i64 (-1), .int .i64 (-1)] 3)).alloc (.cells #[.int .i64 17, .int .i64 5, .int .i64 4, .int .i64 5, .int .i64 4, .int .i64 9, .int .i64 21, .int .i64 1001] 3)).setCell ⟨w.heap.size, 5, none⟩ (.int .i64 9)).cell? ⟨w.heap.size, 0, none⟩ = some (.int .i64 x0) := (World.cell?_setCell_other _ _ _ _ (by simp)).trans p0
        have s1 : (((w3.alloc (.cells #[.int .i64 0, .int .i64 0, .int .i64 0, .int .i64 (-1), .int .i64 (-1), .int .i64 0, .int .i64 (-1), .int .i64 (-1)] 3)).alloc (.cells #[.int .i64 17, .int .i64 5, .int .i64 4, .int .i64 5, .int .i64 4, .int .i64 9, .int .i64 21, .int .i64 1001] 3)).setCell ⟨w.heap.size, 5, none⟩ (.int .i64 9)).cell? ⟨w.heap.size, 1, none⟩ = some (.int .i64 x1) := (World.cell?_setCell_other _ _ _ _ (by simp)).trans p1
        have s2 : (((w3.alloc (.cells #[.int .i64 0, .int .i64 0, .int .i64 0, .int .i64 (-1), .int .i64 (-1), .int .i64 0, .int .i64 (-1), .int .i64 (-1)] 3)).alloc (.cells #[.int .i64 17, .int .i64 5, .int .i64 4, .int .i64 5, .int .i64 4, .int .i64 9, .int .i64 21, .int .i64 1001] 3)).setCell ⟨w.heap.size, 5, none⟩ (.int .i64 9)).cell? ⟨w.heap.size, 2, none⟩ = some (.int .i64 x2) := (World.cell?_setCell_other _ _ _ _ (by simp)).trans p2
        have s3 : (((w3.alloc (.cells #[.int .i64 0, .int .i64 0, .int .i64 0, .int .i64 (-1), .int .i64 (-1), .int .i64 0, .int .i64 (-1), .int .i64 (-1)] 3)).alloc (.cells #[.int .i64 17, .int .i64 5, .int .i64 4, .int .i64 5, .int .i64 4, .int .i64 9, .int .i64 21, .int .i64 1001] 3)).setCell ⟨w.heap.size, 5, none⟩ (.int .i64 9)).cell? ⟨w.heap.size, 3, none⟩ = some (.int .i64 x3) := (World.cell?_setCell_other _ _ _ _ (by simp)).trans p3
        have s4 : (((w3.alloc (.cells #[.int .i64 0, .int .i64 0, .int .i64 0, .int .i64 (-1), .int .i64 (-1), .int .i64 0, .int .i64 (-1), .int .i64 (-1)] 3)).alloc (.cells #[.int .i64 17, .int .i64 5, .int .i64 4, .int .i64 5, .int .i64 4, .int .i64 9, .int .i64 21, .int .i64 1001] 3)).setCell ⟨w.heap.size, 5, none⟩ (.int .i64 9)).cell? ⟨w.heap.size, 4, none⟩ = some (.int .i64 x4) := (World.cell?_setCell_other _ _ _ _ (by simp)).trans p4
        have s5 : (((w3.alloc (.cells #[.int .i64 0, .int .i64 0, .int .i64 0, .int .i64 (-1), .int .i64 (-1), .int .i64 0, .int .i64 (-1), .int .i64 (-1)] 3)).alloc (.cells #[.int .i64 17, .int .i64 5, .int .i64 4, .int .i64 5, .int .i64 4, .int .i64 9, .int .i64 21, .int .i64 1001] 3)).setCell ⟨w.heap.size, 5, none⟩ (.int .i64 9)).cell? ⟨w.heap.size, 5, none⟩ = some (.int .i64 9) := World.cell?_setCell_same _ _ _ p5
        have s6 : (((w3.alloc (.cells #[.int .i64 0, .int .i64 0, .int .i64 0, .int .i64 (-1), .int .i64 (-1), .int .i64 0, .int .i64 (-1), .int .i64 (-1)] 3)).alloc (.cells #[.int .i64 17, .int .i64 5, .int .i64 4, .int .i64 5, .int .i64 4, .int .i64 9, .int .i64 21, .int .i64 1001] 3)).setCell ⟨w.heap.size, 5, none⟩ (.int .i64 9)).cell? ⟨w.heap.size, 6, none⟩ = some (.int .i64 x6) := (World.cell?_setCell_other _ _ _ _ (by simp)).trans p6
        have s7 : (((w3.alloc (.cells #[.int .i64 0, .int .i64 0, .int .i64 0, .int .i64 (-1), .int .i64 (-1), .int .i64 0, .int .i64 (-1), .int .i64 (-1)] 3)).alloc (.cells #[.int .i64 17, .int .i64 5, .int .i64 4, .int .i64 5, .int .i64 4, .int .i64 9, .int .i64 21, .int .i64 1001] 3)).setCell ⟨w.heap.size, 5, none⟩ (.int .i64 9)).cell? ⟨w.heap.size, 7, none⟩ = some (.int .i64 x7) := (World.cell?_setCell_other _ _ _ _ (by simp)).trans p7
        have s8 : (((w3.alloc (.cells #[.int .i64 0, .int .i64 0, .int .i64 0, .int .i64 (-1), .int .i64 (-1), .int .i64 0, .int .i64 (-1), .int .i64 (-1)] 3)).alloc (.cells #[.int .i64 17, .int .i64 5, .int .i64 4, .int .i64 5, .int .i64 4, .int .i64 9, .int .i64 21, .int .i64 1001] 3)).setCell ⟨w.heap.size, 5, none⟩ (.int .i64 9)).cell? ⟨w.heap.size, 8, none⟩ = some (.bool b) := (World.cell?_setCell_other _ _ _ _ (by simp)).trans p8
        have s9 : (((w3.alloc (.cells #[.int .i64 0, .int .i64 0, .int .i64 0, .int .i64 (-1), .int .i64 (-1), .int .i64 0, .int .i64 (-1), .int .i64 (-1)] 3)).alloc (.cells #[.int .i64 17, .int .i64 5, .int .i64 4, .int .i64 5, .int .i64 4, .int .i64 9, .int .i64 21, .int .i64 1001] 3)).setCell ⟨w.heap.size, 5, none⟩ (.int .i64 9)).cell? ⟨w.heap.size, 9, none⟩ = some (.int .i64 x9) := (World.cell?_setCell_other _ _ _ _ (by simp)).trans p9
        have s10 : (((w3.alloc (.cells #[.int .i64 0, .int .i64 0, .int .i64 0, .int .i64 (-1), .int .i64 (-1), .int .i64 0, .int .i64 (-1), .int .i64 (-1)] 3)).alloc (.cells #[.int .i64 17, .int .i64 5, .int .i64 4, .int .i64 5, .int .i64 4, .int .i64 9, .int .i64 21, .int .i64 1001] 3)).setCell ⟨w.heap.size, 5, none⟩ (.int .i64 9)).cell? ⟨w.heap.size, 10, none⟩ = some (.int .i64 x10) := (World.cell?_setCell_other _ _ _ _ (by simp)).trans p10
        have s11 : (((w3.alloc (.cells #[.int .i64 0, .int .i64 0, .int .i64 0, .int .i64 (-1), .int .i64 (-1), .int .i64 0, .int .i64 (-1), .int .i64 (-1)] 3)).alloc (.cells #[.int .i64 17, .int .i64 5, .int .i64 4, .int .i64 5, .int .i64 4, .int .i64 9, .int .i64 21, .int .i64 1001] 3)).setCell ⟨w.heap.size, 5, none⟩ (.int .i64 9)).cell? ⟨w.heap.size, 11, none⟩ = some (.int .i64 x11) := (World.cell?_setCell_other _ _ _ _ (by simp)).trans p11
        replace hB := hB.setCell (p := ⟨w.heap.size, 5, none⟩) (Nat.le_refl _) (.int .i64 9)
        go_wp2_with fail
        refine (KA.out _).mono ?_
        rintro x w4 ⟨rfl, hb⟩
        replace hB := below_next hB hB.size hb
        clear hb q0 q1 q2 q3 q4 q5 q6 q7 q8 q9 q10 q11 p0 p1 p2 p3 p4 p5 p6 p7 p8 p9 p10 p11 s0 s1 s2 s3 s4 s5 s6 s7 s8 s9 s10 s11 zq0 zq1 zq2 zq3 zq4 zq5 zq6 zq7 zp0 zp1 zp2 zp3 zp4 zp5 zp6 zp7
        go_wp2
        go_ret
        exact ⟨rfl, hB⟩
      · skip
        have KA := hide (check_any x0 x1 x2 x3 x4 0 x6 x7 b x9 x10 x11)
        rw [show ckV x0 x1 x2 x3 x4 0 x6 x7 b x9 x10 x11 = 55 by obtain ⟨h0, h1, h2, h3, h4, h5, h6, h7, hb⟩ := OK.out; simp only [ckV, numsL, ckL]; repeat (first | rfl | rw [if_pos (by omega)] | rw [if_neg (by omega)])] at KA
        have s0 : (((w3.alloc (.cells #[.int .i64 0, .int .i64 0, .int .i64 0, .int .i64 (-1), .int .i64 (-1), .int .i64 0, .int .i64 (-1), .int .i64 (-1)] 3)).alloc (.cells #[.int .i64 17, .int .i64 5, .int .i64 4, .int .i64 5, .int .i64 4, .int .i64 9, .int .i64 21, .int .i64 1001] 3)).setCell ⟨w.heap.size, 5, none⟩ (.int .i64 0)).cell? ⟨w.heap.size, 0, none⟩ = some (.int .i64 x0) := (World.cell?_setCell_other _ _ _ _ (by simp)).trans p0
        have s1 : (((w3.alloc (.cells #[.int .i64 0, .int .i64 0, .int .i64 0, .int .i64 (-1), .int .i64 (-1), .int .i64 0, .int .i64 (-1), .int .i64 (-1)] 3)).alloc (.cells #[.int .i64 17, .int .i64 5, .int .i64 4, .int .i64 5, .int .i64 4, .int .i64 9, .int .i64 21, .int .i64 1001] 3)).setCell ⟨w.heap.size, 5, none⟩ (.int .i64 0)).cell? ⟨w.heap.size, 1, none⟩ = some (.int .i64 x1) := (World.cell?_setCell_other _ _ _ _ (by simp)).trans p1
        have s2 : (((w3.alloc (.cells #[.int .i64 0, .int .i64 0, .int .i64 0, .int .i64 (-1), .int .i64 (-1), .int .i64 0, .int .i64 (-1), .int .i64 (-1)] 3)).alloc (.cells #[.int .i64 17, .int .i64 5, .int .i64 4, .int .i64 5, .int .i64 4, .int .i64 9, .int .i64 21, .int .i64 1001] 3)).setCell ⟨w.heap.size, 5, none⟩ (.int .i64 0)).cell? ⟨w.heap.size, 2, none⟩ = some (.int .i64 x2) := (World.cell?_setCell_other _ _ _ _ (by simp)).trans p2
        have s3 : (((w3.alloc (.cells #[.int .i64 0, .int .i64 0, .int .i64 0, .int .i64 (-1), .int .i64 (-1), .int .i64 0, .int .i64 (-1), .int .i64 (-1)] 3)).alloc (.cells #[.int .i64 17, .int .i64 5, .int .i64 4, .int .i64 5, .int .i64 4, .int .i64 9, .int .i64 21, .int .i64 1001] 3)).setCell ⟨w.heap.size, 5, none⟩ (.int .i64 0)).cell? ⟨w.heap.size, 3, none⟩ = some (.int .i64 x3) := (World.cell?_setCell_other _ _ _ _ (by simp)).trans p3
        have s4 : (((w3.alloc (.cells #[.int .i64 0, .int .i64 0, .int .i64 0, .int .i64 (-1), .int .i64 (-1), .int .i64 0, .int .i64 (-1), .int .i64 (-1)] 3)).alloc (.cells #[.int .i64 17, .int .i64 5, .int .i64 4, .int .i64 5, .int .i64 4, .int .i64 9, .int .i64 21, .int .i64 1001] 3)).setCell ⟨w.heap.size, 5, none⟩ (.int .i64 0)).cell? ⟨w.heap.size, 4, none⟩ = some (.int .i64 x4) := (World.cell?_setCell_other _ _ _ _ (by simp)).trans p4
        have s5 : (((w3.alloc (.cells #[.int .i64 0, .int .i64 0, .int .i64 0, .int .i64 (-1), .int .i64 (-1), .int .i64 0, .int .i64 (-1), .int .i64 (-1)] 3)).alloc (.cells #[.int .i64 17, .int .i64 5, .int .i64 4, .int .i64 5, .int .i64 4, .int .i64 9, .int .i64 21, .int .i64 1001] 3)).setCell ⟨w.heap.size, 5, none⟩ (.int .i64 0)).cell? ⟨w.heap.size, 5, none⟩ = some (.int .i64 0) := World.cell?_setCell_same _ _ _ p5
        have s6 : (((w3.alloc (.cells #[.int .i64 0, .int .i64 0, .int .i64 0, .int .i64 (-1), .int .i64 (-1), .int .i64 0, .int .i64 (-1), .int .i64 (-1)] 3)).alloc (.cells #[.int .i64 17, .int .i64 5, .int .i64 4, .int .i64 5, .int .i64 4, .int .i64 9, .int .i64 21, .int .i64 1001] 3)).setCell ⟨w.heap.size, 5, none⟩ (.int .i64 0)).cell? ⟨w.heap.size, 6, none⟩ = some (.int .i64 x6) := (World.cell?_setCell_other _ _ _ _ (by simp)).trans p6
        have s7 : (((w3.alloc (.cells #[.int .i64 0, .int .i64 0, .int .i64 0, .int .i64 (-1), .int .i64 (-1), .int .i64 0, .int .i64 (-1), .int .i64 (-1)] 3)).alloc (.cells #[.int .i64 17, .int .i64 5, .int .i64 4, .int .i64 5, .int .i64 4, .int .i64 9, .int .i64 21, .int .i64 1001] 3)).setCell ⟨w.heap.size, 5, none⟩ (.int .i64 0)).cell? ⟨w.heap.size, 7, none⟩ = some (.int .i64 x7) := (World.cell?_setCell_other _ _ _ _ (by simp)).trans p7
        have s8 : (((w3.alloc (.cells #[.int .i64 0, .int .i64 0, .int .i64 0, .int .i64 (-1), .int .i64 (-1), .int .i64 0, .int .i64 (-1), .int .i64 (-1)] 3)).alloc (.cells #[.int .i64 17, .int .i64 5, .int .i64 4, .int .i64 5, .int .i64 4, .int .i64 9, .int .i64 21, .int .i64 1001] 3)).setCell ⟨w.heap.size, 5, none⟩ (.int .i64 0)).cell? ⟨w.heap.size, 8, none⟩ = some (.bool b) := (World.cell?_setCell_other _ _ _ _ (by simp)).trans p8
        have s9 : (((w3.alloc (.cells #[.int .i64 0, .int .i64 0, .int .i64 0, .int .i64 (-1), .int .i64 (-1), .int .i64 0, .int .i64 (-1), .int .i64 (-1)] 3)).alloc (.cells #[.int .i64 17, .int .i64 5, .int .i64 4, .int .i64 5, .int .i64 4, .int .i64 9, .int .i64 21, .int .i64 1001] 3)).setCell ⟨w.heap.size, 5, none⟩ (.int .i64 0)).cell? ⟨w.heap.size, 9, none⟩ = some (.int .i64 x9) := (World.cell?_setCell_other _ _ _ _ (by simp)).trans p9
        have s10 : (((w3.alloc (.cells #[.int .i64 0, .int .i64 0, .int .i64 0, .int .i64 (-1), .int .i64 (-1), .int .i64 0, .int .i64 (-1), .int .i64 (-1)] 3)).alloc (.cells #[.int .i64 17, .int .i64 5, .int .i64 4, .int .i64 5, .int .i64 4, .int .i64 9, .int .i64 21, .int .i64 1001] 3)).setCell ⟨w.heap.size, 5, none⟩ (.int .i64 0)).cell? ⟨w.heap.size, 10, none⟩ = some (.int .i64 x10) := (World.cell?_setCell_other _ _ _ _ (by simp)).trans p10
        have s11 : (((w3.alloc (.cells #[.int .i64 0, .int .i64 0, .int .i64 0, .int .i64 (-1), .int .i64 (-1), .int .i64 0, .int .i64 (-1), .int .i64 (-1)] 3)).alloc (.cells #[.int .i64 17, .int .i64 5, .int .i64 4, .int .i64 5, .int .i64 4, .int .i64 9, .int .i64 21, .int .i64 1001] 3)).setCell ⟨w.heap.size, 5, none⟩ (.int .i64 0)).cell? ⟨w.heap.size, 11, none⟩ = some (.int .i64 x11) := (World.cell?_setCell_other _ _ _ _ (by simp)).trans p11
        replace hB := hB.setCell (p := ⟨w.heap.size, 5, none⟩) (Nat.le_refl _) (.int .i64 0)
        go_wp2_with fail
        refine (KA.out _).mono ?_
        rintro x w4 ⟨rfl, hb⟩
        replace hB := below_next hB hB.size hb
        clear hb q0 q1 q2 q3 q4 q5 q6 q7 q8 q9 q10 q11 p0 p1 p2 p3 p4 p5 p6 p7 p8 p9 p10 p11 s0 s1 s2 s3 s4 s5 s6 s7 s8 s9 s10 s11 zq0 zq1 zq2 zq3 zq4 zq5 zq6 zq7 zp0 zp1 zp2 zp3 zp4 zp5 zp6 zp7
        go_wp2
        go_ret
        exact ⟨rfl, hB⟩
    · have hr : Int.tmod (a : Int) 8 = 6 := by rw [Int.tmod_eq_emod_of_nonneg (by omega)]; omega
      clear hk
      cases below
      · skip
        have KA := hide (check_any x0 x1 x2 x3 x4 x5 21 x7 b x9 x10 x11)
        rw [show ckV x0 x1 x2 x3 x4 x5 21 x7 b x9 x10 x11 = 56 by obtain ⟨h0, h1, h2, h3, h4, h5, h6, h7, hb⟩ := OK.out; simp only [ckV, numsL, ckL]; repeat (first | rfl | rw [if_pos (by omega)] | rw [if_neg (by omega)])] at KA
        have s0 : (((w3.alloc (.cells #[.int .i64 0, .int .i64 0, .int .i64 0, .int .i64 (-1), .int .i64 (-1), .int .i64 0, .int .i64 (-1), .int .i64 (-1)] 3)).alloc (.cells #[.int .i64 17, .int .i64 5, .int .i64 4, .int .i64 5, .int .i64 4, .int .i64 9, .int .i64 21, .int .i64 1001] 3)).setCell ⟨w.heap.size, 6, none⟩ (.int .i64 21)).cell? ⟨w.heap.size, 0, none⟩ = some (.int .i64 x0) := (World.cell?_setCell_other _ _ _ _ (by simp)).trans p0
        have s1 : (((w3.alloc (.cells #[.int .i64 0, .int .i64 0, .int .i64 0, .int .i64 (-1), .int .i64 (-1), .int .i64 0, .int .i64 (-1), .int .i64 (-1)] 3)).alloc (.cells #[.int .i64 17, .int .i64 5, .int .i64 4, .int .i64 5, .int .i64 4, .int .i64 9, .int .i64 21, .int .i64 1001] 3)).setCell ⟨w.heap.size, 6, none⟩ (.int .i64 21)).cell? ⟨w.heap.size, 1, none⟩ = some (.int .i64 x1) := (World.cell?_setCell_other _ _ _ _ (by simp)).trans p1
        have s2 : (((w3.alloc (.cells #[.int .i64 0, .int .i64 0, .int .i64 0, .int .i64 (-1), .int .i64 (-1), .int .i64 0, .int .i64 (-1), .int .i64 (-1)] 3)).alloc (.cells #[.int .i64 17, .int .i64 5, .int .i64 4, .int .i64 5, .int .i64 4, .int .i64 9, .int .i64 21, .int .i64 1001] 3)).setCell ⟨w.heap.size, 6, none⟩ (.int .i64 21)).cell? ⟨w.heap.size, 2, none⟩ = some (.int .i64 x2) := (World.cell?_setCell_other _ _ _ _ (by simp)).trans p2
        have s3 : (((w3.alloc (.cells #[.int .i64 0, .int .i64 0, .int .i64 0, .int .i64 (-1), .int .i64 (-1), .int .i64 0, .int .i64 (-1), .int .i64 (-1)] 3)).alloc (.cells #[.int .i64 17, .int .i64 5, .int .i64 4, .int .i64 5, .int .i64 4, .int .i64 9, .int .i64 21, .int .i64 1001] 3)).setCell ⟨w.heap.size, 6, none⟩ (.int .i64 21)).cell? ⟨w.heap.size, 3, none⟩ = some (.int .i64 x3) := (World.cell?_setCell_other _ _ _ _ (by simp)).trans p3
        have s4 : (((w3.alloc (.cells #[.int .i64 0, .int .i64 0, .int .i64 0, .int .i64 (-1), .int .i64 (-1), .int .i64 0, .int .i64 (-1), .int .i64 (-1)] 3)).alloc (.cells #[.int .i64 17, .int .i64 5, .int .i64 4, .int .i64 5, .int .i64 4, .int .i64 9, .int .i64 21, .int .i64 1001] 3)).setCell ⟨w.heap.size, 6, none⟩ (.int .i64 21)).cell? ⟨w.heap.size, 4, none⟩ = some (.int .i64 x4) := (World.cell?_setCell_other _ _ _ _ (by simp)).trans p4
        have s5 : (((w3.alloc (.cells #[.int .i64 0, .int .i64 0, .int .i64 0, .int .i64 (-1), .int .i64 (-1), .int .i64 0, .int .i64 (-1), .int .i64 (-1)] 3)).alloc (.cells #[.int .i64 17, .int .i64 5, .int .i64 4, .int .i64 5, .int .i64 4, .int .i64 9, .int .i64 21, .int .i64 1001] 3)).setCell ⟨w.heap.size, 6, none⟩ (.int .i64 21)).cell? ⟨w.heap.size, 5, none⟩ = some (.int .i64 x5) := (World.cell?_setCell_other _ _ _ _ (by simp)).trans p5
        have s6 : (((w3.alloc (.cells #[.int .i64 0, .int .i64 0, .int .i64 0, .int .i64 (-1), .int .i64 (-1), .int .i64 0, .int .i64 (-1), .int .i64 (-1)] 3)).alloc (.cells #[.int .i64 17, .int .i64 5, .int .i64 4, .int .i64 5, .int .i64 4, .int .i64 9, .int .i64 21, .int .i64 1001] 3)).setCell ⟨w.heap.size, 6, none⟩ (.int .i64 21)).cell? ⟨w.heap.size, 6, none⟩ = some (.int .i64 21) := World.cell?_setCell_same _ _ _ p6
        have s7 : (((w3.alloc (.cells #[.int .i64 0, .int .i64 0, .int .i64 0, .int .i64 (-1), .int .i64 (-1), .int .i64 0, .int .i64 (-1), .int .i64 (-1)] 3)).alloc (.cells #[.int .i64 17, .int .i64 5, .int .i64 4, .int .i64 5, .int .i64 4, .int .i64 9, .int .i64 21, .int .i64 1001] 3)).setCell ⟨w.heap.size, 6, none⟩ (.int .i64 21)).cell? ⟨w.heap.size, 7, none⟩ = some (.int .i64 x7) := (World.cell?_setCell_other _ _ _ _ (by simp)).trans p7
        have s8 : (((w3.alloc (.cells #[.int .i64 0, .int .i64 0, .int .i64 0, .int .i64 (-1), .int .i64 (-1), .int .i64 0, .int .i64 (-1), .int .i64 (-1)] 3)).alloc (.cells #[.int .i64 17, .int .i64 5, .int .i64 4, .int .i64 5, .int .i64 4, .int .i64 9, .int .i64 21, .int .i64 1001] 3)).setCell ⟨w.heap.size, 6, none⟩ (.int .i64 21)).cell? ⟨w.heap.size, 8, none⟩ = some (.bool b) := (World.cell?_setCell_other _ _ _ _ (by simp)).trans p8
        have s9 : (((w3.alloc (.cells #[.int .i64 0, .int .i64 0, .int .i64 0, .int .i64 (-1), .int .i64 (-1), .int .i64 0, .int .i64 (-1), .int .i64 (-1)] 3)).alloc (.cells #[.int .i64 17, .int .i64 5, .int .i64 4, .int .i64 5, .int .i64 4, .int .i64 9, .int .i64 21, .int .i64 1001] 3)).setCell ⟨w.heap.size, 6, none⟩ (.int .i64 21)).cell? ⟨w.heap.size, 9, none⟩ = some (.int .i64 x9) := (World.cell?_setCell_other _ _ _ _ (by simp)).trans p9
        have s10 : (((w3.alloc (.cells #[.int .i64 0, .int .i64 0, .int .i64 0, .int .i64 (-1), .int .i64 (-1), .int .i64 0, .int .i64 (-1), .int .i64 (-1)] 3)).alloc (.cells #[.int .i64 17, .int .i64 5, .int .i64 4, .int .i64 5, .int .i64 4, .int .i64 9, .int .i64 21, .int .i64 1001] 3)).setCell ⟨w.heap.size, 6, none⟩ (.int .i64 21)).cell? ⟨w.heap.size, 10, none⟩ = some (.int .i64 x10) := (World.cell?_setCell_other _ _ _ _ (by simp)).trans p10
        have s11 : (((w3.alloc (.cells #[.int .i64 0, .int .i64 0, .int .i64 0, .int .i64 (-1), .int .i64 (-1), .int .i64 0, .int .i64 (-1), .int .i64 (-1)] 3)).alloc (.cells #[.int .i64 17, .int .i64 5, .int .i64 4, .int .i64 5, .int .i64 4, .int .i64 9, .int .i64 21, .int .i64 1001] 3)).setCell ⟨w.heap.size, 6, none⟩ (.int .i64 21)).cell? ⟨w.heap.size, 11, none⟩ = some (.int .i64 x11) := (World.cell?_setCell_other _ _ _ _ (by simp)).trans p11
        replace hB := hB.setCell (p := ⟨w.heap.size, 6, none⟩) (Nat.le_refl _) (.int .i64 21)
        go_wp2_with fail
        refine (KA.out _).mono ?_
        rintro x w4 ⟨rfl, hb⟩
        replace hB := below_next hB hB.size hb
        clear hb q0 q1 q2 q3 q4 q5 q6 q7 q8 q9 q10 q11 p0 p1 p2 p3 p4 p5 p6 p7 p8 p9 p10 p11 s0 s1 s2 s3 s4 s5 s6 s7 s8 s9 s10 s11 zq0 zq1 zq2 zq3 zq4 zq5 zq6 zq7 zp0 zp1 zp2 zp3 zp4 zp5 zp6 zp7
        go_wp2
        go_ret
        exact ⟨rfl, hB⟩
      · skip
        have KA := hide (check_any x0 x1 x2 x3 x4 x5 (-1) x7 b x9 x10 x11)
        rw [show ckV x0 x1 x2 x3 x4 x5 (-1) x7 b x9 x10 x11 = 56 by obtain ⟨h0, h1, h2, h3, h4, h5, h6, h7, hb⟩ := OK.out; simp only [ckV, numsL, ckL]; repeat (first | rfl | rw [if_pos (by omega)] | rw [if_neg (by omega)])] at KA
        have s0 : (((w3.alloc (.cells #[.int .i64 0, .int .i64 0, .int .i64 0, .int .i64 (-1), .int .i64 (-1), .int .i64 0, .int .i64 (-1), .int .i64 (-1)] 3)).alloc (.cells #[.int .i64 17, .int .i64 5, .int .i64 4, .int .i64 5, .int .i64 4, .int .i64 9, .int .i64 21, .int .i64 1001] 3)).setCell ⟨w.heap.size, 6, none⟩ (.int .i64 (-1))).cell? ⟨w.heap.size, 0, none⟩ = some (.int .i64 x0) := (World.cell?_setCell_other _ _ _ _ (by simp)).trans p0
        have s1 : (((w3.alloc (.cells #[.int .i64 0, .int .i64 0, .int .i64 0, .int .i64 (-1), .int .i64 (-1), .int .i64 0, .int .i64 (-1), .int .i64 (-1)] 3)).alloc (.cells #[.int .i64 17, .int .i64 5, .int .i64 4, .int .i64 5, .int .i64 4, .int .i64 9, .int .i64 21, .int .i64 1001] 3)).setCell ⟨w.heap.size, 6, none⟩ (.int .i64 (-1))).cell? ⟨w.heap.size, 1, none⟩ = some (.int .i64 x1) := (World.cell?_setCell_other _ _ _ _ (by simp)).trans p1
        have s2 : (((w3.alloc (.cells #[.int .i64 0, .int .i64 0, .int .i64 0, .int .i64 (-1), .int .i64 (-1), .int .i64 0, .int .i64 (-1), .int .i64 (-1)] 3)).alloc (.cells #[.int .i64 17, .int .i64 5, .int .i64 4, .int .i64 5, .int .i64 4, .int .i64 9, .int .i64 21, .int .i64 1001] 3)).setCell ⟨w.heap.size, 6, none⟩ (.int .i64 (-1))).cell? ⟨w.heap.size, 2, none⟩ = some (.int .i64 x2) := (World.cell?_setCell_other _ _ _ _ (by simp)).trans p2
        have s3 : (((w3.alloc (.cells #[.int .i64 0, .int .i64 0, .int .i64 0, .int .i64 (-1), .int .i64 (-1), .int .i64 0, .int .i64 (-1), .int .i64 (-1)] 3)).alloc (.cells #[.int .i64 17, .int .i64 5, .int .i64 4, .int .i64 5, .int .i64 4, .int .i64 9, .int .i64 21, .int .i64 1001] 3)).setCell ⟨w.heap.size, 6, none⟩ (.int .i64 (-1))).cell? ⟨w.heap.size, 3, none⟩ = some (.int .i64 x3) := (World.cell?_setCell_other _ _ _ _ (by simp)).trans p3
        have s4 : (((w3.alloc (.cells #[.int .i64 0, .int .i64 0, .int .i64 0, .int .i64 (-1), .int .i64 (-1), .int .i64 0, .int .i64 (-1), .int .i64 (-1)] 3)).alloc (.cells #[.int .i64 17, .int .i64 5, .int .i64 4, .int .i64 5, .int .i64 4, .int .i64 9, .int .i64 21, .int .i64 1001] 3)).setCell ⟨w.heap.size, 6, none⟩ (.int .i64 (-1))).cell? ⟨w.heap.size, 4, none⟩ = some (.int .i64 x4) := (World.cell?_setCell_other _ _ _ _ (by simp)).trans p4
        have s5 : (((w3.alloc (.cells #[.int .i64 0, .int .i64 0, .int .i64 0, .int .i64 (-1), .int .i64 (-1), .int .i64 0, .int .i64 (-1), .int .i64 (-1)] 3)).alloc (.cells #[.int .i64 17, .int .i64 5, .int .i64 4, .int .i64 5, .int .i64 4, .int .i64 9, .int .i64 21, .int .i64 1001] 3)).setCell ⟨w.heap.size, 6, none⟩ (.int .i64 (-1))).cell? ⟨w.heap.size, 5, none⟩ = some (.int .i64 x5) := (World.cell?_setCell_other _ _ _ _ (by simp)).trans p5
        have s6 : (((w3.alloc (.cells #[.int .i64 0, .int .i64 0, .int .i64 0, .int .i64 (-1), .int .i64 (-1), .int .i64 0, .int .i64 (-1), .int .i64 (-1)] 3)).alloc (.cells #[.int .i64 17, .int .i64 5, .int .i64 4, .int .i64 5, .int .i64 4, .int .i64 9, .int .i64 21, .int .i64 1001] 3)).setCell ⟨w.heap.size, 6, none⟩ (.int .i64 (-1))).cell? ⟨w.heap.size, 6, none⟩ = some (.int .i64 (-1)) := World.cell?_setCell_same _ _ _ p6
        have s7 : (((w3.alloc (.cells #[.int .i64 0, .int .i64 0, .int .i64 0, .int .i64 (-1), .int .i64 (-1), .int .i64 0, .int .i64 (-1), .int .i64 (-1)] 3)).alloc (.cells #[.int .i64 17, .int .i64 5, .int .i64 4, .int .i64 5, .int .i64 4, .int .i64 9, .int .i64 21, .int .i64 1001] 3)).setCell ⟨w.heap.size, 6, none⟩ (.int .i64 (-1))).cell? ⟨w.heap.size, 7, none⟩ = some (.int .i64 x7) := (World.cell?_setCell_other _ _ _ _ (by simp)).trans p7
        have s8 : (((w3.alloc (.cells #[.int .i64 0, .int .i64 0, .int .i64 0, .int .i64 (-1), .int .i64 (-1), .int .i64 0, .int .i64 (-1), .int .i64 (-1)] 3)).alloc (.cells #[.int .i64 17, .int .i64 5, .int .i64 4, .int .i64 5, .int .i64 4, .int .i64 9, .int .i64 21, .int .i64 1001] 3)).setCell ⟨w.heap.size, 6, none⟩ (.int .i64 (-1))).cell? ⟨w.heap.size, 8, none⟩ = some (.bool b) := (World.cell?_setCell_other _ _ _ _ (by simp)).trans p8
        have s9 : (((w3.alloc (.cells #[.int .i64 0, .int .i64 0, .int .i64 0, .int .i64 (-1), .int .i64 (-1), .int .i64 0, .int .i64 (-1), .int .i64 (-1)] 3)).alloc (.cells #[.int .i64 17, .int .i64 5, .int .i64 4, .int .i64 5, .int .i64 4, .int .i64 9, .int .i64 21, .int .i64 1001] 3)).setCell ⟨w.heap.size, 6, none⟩ (.int .i64 (-1))).cell? ⟨w.heap.size, 9, none⟩ = some (.int .i64 x9) := (World.cell?_setCell_other _ _ _ _ (by simp)).trans p9
        have s10 : (((w3.alloc (.cells #[.int .i64 0, .int .i64 0, .int .i64 0, .int .i64 (-1), .int .i64 (-1), .int .i64 0, .int .i64 (-1), .int .i64 (-1)] 3)).alloc (.cells #[.int .i64 17, .int .i64 5, .int .i64 4, .int .i64 5, .int .i64 4, .int .i64 9, .int .i64 21, .int .i64 1001] 3)).setCell ⟨w.heap.size, 6, none⟩ (.int .i64 (-1))).cell? ⟨w.heap.size, 10, none⟩ = some (.int .i64 x10) := (World.cell?_setCell_other _ _ _ _ (by simp)).trans p10
        have s11 : (((w3.alloc (.cells #[.int .i64 0, .int .i64 0, .int .i64 0, .int .i64 (-1), .int .i64 (-1), .int .i64 0, .int .i64 (-1), .int .i64 (-1)] 3)).alloc (.cells #[.int .i64 17, .int .i64 5, .int .i64 4, .int .i64 5, .int .i64 4, .int .i64 9, .int .i64 21, .int .i64 1001] 3)).setCell ⟨w.heap.size, 6, none⟩ (.int .i64 (-1))).cell? ⟨w.heap.size, 11, none⟩ = some (.int .i64 x11) := (World.cell?_setCell_other _ _ _ _ (by simp)).trans p11
        replace hB := hB.setCell (p := ⟨w.heap.size, 6, none⟩) (Nat.le_refl _) (.int .i64 (-1))
        go_wp2_with fail
        refine (KA.out _).mono ?_
        rintro x w4 ⟨rfl, hb⟩
        replace hB := below_next hB hB.size hb
        clear hb q0 q1 q2 q3 q4 q5 q6 q7 q8 q9 q10 q11 p0 p1 p2 p3 p4 p5 p6 p7 p8 p9 p10 p11 s0 s1 s2 s3 s4 s5 s6 s7 s8 s9 s10 s11 zq0 zq1 zq2 zq3 zq4 zq5 zq6 zq7 zp0 zp1 zp2 zp3 zp4 zp5 zp6 zp7
        go_wp2
        go_ret
        exact ⟨rfl, hB⟩
    · have hr : Int.tmod (a : Int) 8 = 7 := by rw [Int.tmod_eq_emod_of_nonneg (by omega)]; omega
      clear hk
      cases below
      · skip
        have KA := hide (check_any x0 x1 x2 x3 x4 x5 x6 1001 b x9 x10 x11)
        rw [show ckV x0 x1 x2 x3 x4 x5 x6 1001 b x9 x10 x11 = 57 by obtain ⟨h0, h1, h2, h3, h4, h5, h6, h7, hb⟩ := OK.out; simp only [ckV, numsL, ckL]; repeat (first | rfl | rw [if_pos (by omega)] | rw [if_neg (by omega)])] at KA
        have s0 : (((w3.alloc (.cells #[.int .i64 0, .int .i64 0, .int .i64 0, .int .i64 (-1), .int .i64 (-1), .int .i64 0, .int .i64 (-1), .int .i64 (-1)] 3)).alloc (.cells #[.int .i64 17, .int .i64 5, .int .i64 4, .int .i64 5, .int .i64 4, .int .i64 9, .int .i64 21, .int .i64 1001] 3)).setCell ⟨w.heap.size, 7, none⟩ (.int .i64 1001)).cell? ⟨w.heap.size, 0, none⟩ = some (.int .i64 x0) := (World.cell?_setCell_other _ _ _ _ (by simp)).trans p0
        have s1 : (((w3.alloc (.cells #[.int .i64 0, .int .i64 0, .int .i64 0, .int .i64 (-1), .int .i64 (-1), .int .i64 0, .int .i64 (-1), .int .i64 (-1)] 3)).alloc (.cells #[.int .i64 17, .int .i64 5, .int .i64 4, .int .i64 5, .int .i64 4, .int .i64 9, .int .i64 21, .int .i64 1001] 3)).setCell ⟨w.heap.size, 7, none⟩ (.int .i64 1001)).cell? ⟨w.heap.size, 1, none⟩ = some (.int .i64 x1) := (World.cell?_setCell_other _ _ _ _ (by simp)).trans p1
        have s2 : (((w3.alloc (.cells #[.int .i64 0, .int .i64 0, .int .i64 0, .int .i64 (-1), .int .i64 (-1), .int .i64 0, .int .i64 (-1), .int .i64 (-1)] 3)).alloc (.cells #[.int .i64 17, .int .i64 5, .int .i64 4, .int .i64 5, .int .i64 4, .int .i64 9, .int .i64 21, .int .i64 1001] 3)).setCell ⟨w.heap.size, 7, none⟩ (.int .i64 1001)).cell? ⟨w.heap.size, 2, none⟩ = some (.int .i64 x2) := (World.cell?_setCell_other _ _ _ _ (by simp)).trans p2
        have s3 : (((w3.alloc (.cells #[.int .i64 0, .int .i64 0, .int .i64 0, .int .i64 (-1), .int .i64 (-1), .int .i64 0, .int .i64 (-1), .int .i64 (-1)] 3)).alloc (.cells #[.int .i64 17, .int .i64 5, .int .i64 4, .int .i64 5, .int .i64 4, .int .i64 9, .int .i64 21, .int .i64 1001] 3)).setCell ⟨w.heap.size, 7, none⟩ (.int .i64 1001)).cell? ⟨w.heap.size, 3, none⟩ = some (.int .i64 x3) := (World.cell?_setCell_other _ _ _ _ (by simp)).trans p3
        have s4 : (((w3.alloc (.cells #[.int .i64 0, .int .i64 0, .int .i64 0, .int .i64 (-1), .int .i64 (-1), .int .i64 0, .int .i64 (-1), .int .i64 (-1)] 3)).alloc (.cells #[.int .i64 17, .int .i64 5, .int .i64 4, .int .i64 5, .int .i64 4, .int .i64 9, .int .i64 21, .int .i64 1001] 3)).setCell ⟨w.heap.size, 7, none⟩ (.int .i64 1001)).cell? ⟨w.heap.size, 4, none⟩ = some (.int .i64 x4) := (World.cell?_setCell_other _ _ _ _ (by simp)).trans p4
        have s5 : (((w3.alloc (.cells #[.int .i64 0, .int .i64 0, .int .i64 0, .int .i64 (-1), .int .i64 (-1), .int .i64 0, .int .i64 (-1), .int .i64 (-1)] 3)).alloc (.cells #[.int .i64 17, .int .i64 5, .int .i64 4, .int .i64 5, .int .i64 4, .int .i64 9, .int .i64 21, .int .i64 1001] 3)).setCell ⟨w.heap.size, 7, none⟩ (.int .i64 1001)).cell? ⟨w.heap.size, 5, none⟩ = some (.int .i64 x5) := (World.cell?_setCell_other _ _ _ _ (by simp)).trans p5
        have s6 : (((w3.alloc (.cells #[.int .i64 0, .int .i64 0, .int .i64 0, .int .i64 (-1), .int .i64 (-1), .int .i64 0, .int .i64 (-1), .int .i64 (-1)] 3)).alloc (.cells #[.int .i64 17, .int .i64 5, .int .i64 4, .int .i64 5, .int .i64 4, .int .i64 9, .int .i64 21, .int .i64 1001] 3)).setCell ⟨w.heap.size, 7, none⟩ (.int .i64 1001)).cell? ⟨w.heap.size, 6, none⟩ = some (.int .i64 x6) := (World.cell?_setCell_other _ _ _ _ (by simp)).trans p6
        have s7 : (((w3.alloc (.cells #[.int .i64 0, .int .i64 0, .int .i64 0, .int .i64 (-1), .int .i64 (-1), .int .i64 0, .int .i64 (-1), .int .i64 (-1)] 3)).alloc (.cells #[.int .i64 17, .int .i64 5, .int .i64 4, .int .i64 5, .int .i64 4, .int .i64 9, .int .i64 21, .int .i64 1001] 3)).setCell ⟨w.heap.size, 7, none⟩ (.int .i64 1001)).cell? ⟨w.heap.size, 7, none⟩ = some (.int .i64 1001) := World.cell?_setCell_same _ _ _ p7
        have s8 : (((w3.alloc (.cells #[.int .i64 0, .int .i64 0, .int .i64 0, .int .i64 (-1), .int .i64 (-1), .int .i64 0, .int .i64 (-1), .int .i64 (-1)] 3)).alloc (.cells #[.int .i64 17, .int .i64 5, .int .i64 4, .int .i64 5, .int .i64 4, .int .i64 9, .int .i64 21, .int .i64 1001] 3)).setCell ⟨w.heap.size, 7, none⟩ (.int .i64 1001)).cell? ⟨w.heap.size, 8, none⟩ = some (.bool b) := (World.cell?_setCell_other _ _ _ _ (by simp)).trans p8
        have s9 : (((w3.alloc (.cells #[.int .i64 0, .int .i64 0, .int .i64 0, .int .i64 (-1), .int .i64 (-1), .int .i64 0, .int .i64 (-1), .int .i64 (-1)] 3)).alloc (.cells #[.int .i64 17, .int .i64 5, .int .i64 4, .int .i64 5, .int .i64 4, .int .i64 9, .int .i64 21, .int .i64 1001] 3)).setCell ⟨w.heap.size, 7, none⟩ (.int .i64 1001)).cell? ⟨w.heap.size, 9, none⟩ = some (.int .i64 x9) := (World.cell?_setCell_other _ _ _ _ (by simp)).trans p9
        have s10 : (((w3.alloc (.cells #[.int .i64 0, .int .i64 0, .int .i64 0, .int .i64 (-1), .int .i64 (-1), .int .i64 0, .int .i64 (-1), .int .i64 (-1)] 3)).alloc (.cells #[.int .i64 17, .int .i64 5, .int .i64 4, .int .i64 5, .int .i64 4, .int .i64 9, .int .i64 21, .int .i64 1001] 3)).setCell ⟨w.heap.size, 7, none⟩ (.int .i64 1001)).cell? ⟨w.heap.size, 10, none⟩ = some (.int .i64 x10) := (World.cell?_setCell_other _ _ _ _ (by simp)).trans p10
        have s11 : (((w3.alloc (.cells #[.int .i64 0, .int .i64 0, .int .i64 0, .int .i64 (-1), .int .i64 (-1), .int .i64 0, .int .i64 (-1), .int .i64 (-1)] 3)).alloc (.cells #[.int .i64 17, .int .i64 5, .int .i64 4, .int .i64 5, .int .i64 4, .int .i64 9, .int .i64 21, .int .i64 1001] 3)).setCell ⟨w.heap.size, 7, none⟩ (.int .i64 1001)).cell? ⟨w.heap.size, 11, none⟩ = some (.int .i64 x11) := (World.cell?_setCell_other _ _ _ _ (by simp)).trans p11
        replace hB := hB.setCell (p := ⟨w.heap.size, 7, none⟩) (Nat.le_refl _) (.int .i64 1001)
        go_wp2_with fail
        refine (KA.out _).mono ?_
        rintro x w4 ⟨rfl, hb⟩
        replace hB := below_next hB hB.size hb
        clear hb q0 q1 q2 q3 q4 q5 q6 q7 q8 q9 q10 q11 p0 p1 p2 p3 p4 p5 p6 p7 p8 p9 p10 p11 s0 s1 s2 s3 s4 s5 s6 s7 s8 s9 s10 s11 zq0 zq1 zq2 zq3 zq4 zq5 zq6 zq7 zp0 zp1 zp2 zp3 zp4 zp5 zp6 zp7
        go_wp2
        go_ret
        exact ⟨rfl, hB⟩
      · skip
        have KA := hide (check_any x0 x1 x2 x3 x4 x5 x6 (-1) b x9 x10 x11)
        rw [show ckV x0 x1 x2 x3 x4 x5 x6 (-1) b x9 x10 x11 = 57 by obtain ⟨h0, h1, h2, h3, h4, h5, h6, h7, hb⟩ := OK.out; simp only [ckV, numsL, ckL]; repeat (first | rfl | rw [if_pos (by omega)] | rw [if_neg (by omega)])] at KA
        have s0 : (((w3.alloc (.cells #[.int .i64 0, .int .i64 0, .int .i64 0, .int .i64 (-1), .int .i64 (-1), .int .i64 0, .int .i64 (-1), .int .i64 (-1)] 3)).alloc (.cells #[.int .i64 17, .int .i64 5, .int .i64 4, .int .i64 5, .int .i64 4, .int .i64 9, .int .i64 21, .int .i64 1001] 3)).setCell ⟨w.heap.size, 7, none⟩ (.int .i64 (-1))).cell? ⟨w.heap.size, 0, none⟩ = some (.int .i64 x0) := (World.cell?_setCell_other _ _ _ _ (by simp)).trans p0
        have s1 : (((w3.alloc (.cells #[.int .i64 0, .int .i64 0, .int .i64 0, .int .i64 (-1), .int .i64 (-1), .int .i64 0, .int .i64 (-1), .int .i64 (-1)] 3)).alloc (.cells #[.int .i64 17, .int .i64 5, .int .i64 4, .int .i64 5, .int .i64 4, .int .i64 9, .int .i64 21, .int .i64 1001] 3)).setCell ⟨w.heap.size, 7, none⟩ (.int .i64 (-1))).cell? ⟨w.heap.size, 1, none⟩ = some (.int .i64 x1) := (World.cell?_setCell_other _ _ _ _ (by simp)).trans p1
        have s2 : (((w3.alloc (.cells #[.int .i64 0, .int .i64 0, .int .i64 0, .int .i64 (-1), .int .i64 (-1), .int .i64 0, .int .i64 (-1), .int .i64 (-1)] 3)).alloc (.cells #[.int .i64 17, .int .i64 5, .int .i64 4, .int .i64 5, .int .i64 4, .int .i64 9, .int .i64 21, .int .i64 1001] 3)).setCell ⟨w.heap.size, 7, none⟩ (.int .i64 (-1))).cell? ⟨w.heap.size, 2, none⟩ = some (.int .i64 x2) := (World.cell?_setCell_other _ _ _ _ (by simp)).trans p2
        have s3 : (((w3.alloc (.cells #[.int .i64 0, .int .i64 0, .int .i64 0, .int .i64 (-1), .int .i64 (-1), .int .i64 0, .int .i64 (-1), .int .i64 (-1)] 3)).alloc (.cells #[.int .i64 17, .int .i64 5, .int .i64 4, .int .i64 5, .int .i64 4, .int .i64 9, .int .i64 21, .int .i64 1001] 3)).setCell ⟨w.heap.size, 7, none⟩ (.int .i64 (-1))).cell? ⟨w.heap.size, 3, none⟩ = some (.int .i64 x3) := (World.cell?_setCell_other _ _ _ _ (by simp)).trans p3
        have s4 : (((w3.alloc (.cells #[.int .i64 0, .int .i64 0, .int .i64 0, .int .i64 (-1), .int .i64 (-1), .int .i64 0, .int .i64 (-1), .int .i64 (-1)] 3)).alloc (.cells #[.int .i64 17, .int .i64 5, .int .i64 4, .int .i64 5, .int .i64 4, .int .i64 9, .int .i64 21, .int .i64 1001] 3)).setCell ⟨w.heap.size, 7, none⟩ (.int .i64 (-1))).cell? ⟨w.heap.size, 4, none⟩ = some (.int .i64 x4) := (World.cell?_setCell_other _ _ _ _ (by simp)).trans p4
        have s5 : (((w3.alloc (.cells #[.int .i64 0, .int .i64 0, .int .i64 0, .int .i64 (-1), .int .i64 (-1), .int .i64 0, .int .i64 (-1), .int .i64 (-1)] 3)).alloc (.cells #[.int .i64 17, .int .i64 5, .int .i64 4, .int .i64 5, .int .i64 4, .int .i64 9, .int .i64 21, .int .i64 1001] 3)).setCell ⟨w.heap.size, 7, none⟩ (.int .i64 (-1))).cell? ⟨w.heap.size, 5, none⟩ = some (.int .i64 x5) := (World.cell?_setCell_other _ _ _ _ (by simp)).trans p5
        have s6 : (((w3.alloc (.cells #[.int .i64 0, .int .i64 0, .int .i64 0, .int .i64 (-1), .int .i64 (-1), .int .i64 0, .int .i64 (-1), .int .i64 (-1)] 3)).alloc (.cells #[.int .i64 17, .int .i64 5, .int .i64 4, .int .i64 5, .int .i64 4, .int .i64 9, .int .i64 21, .int .i64 1001] 3)).setCell ⟨w.heap.size, 7, none⟩ (.int .i64 (-1))).cell? ⟨w.heap.size, 6, none⟩ = some (.int .i64 x6) := (World.cell?_setCell_other _ _ _ _ (by simp)).trans p6
        have s7 : (((w3.alloc (.cells #[.int .i64 0, .int .i64 0, .int .i64 0, .int .i64 (-1), .int .i64 (-1), .int .i64 0, .int .i64 (-1), .int .i64 (-1)] 3)).alloc (.cells #[.int .i64 17, .int .i64 5, .int .i64 4, .int .i64 5, .int .i64 4, .int .i64 9, .int .i64 21, .int .i64 1001] 3)).setCell ⟨w.heap.size, 7, none⟩ (.int .i64 (-1))).cell? ⟨w.heap.size, 7, none⟩ = some (.int .i64 (-1)) := World.cell?_setCell_same _ _ _ p7
        have s8 : (((w3.alloc (.cells #[.int .i64 0, .int .i64 0, .int .i64 0, .int .i64 (-1), .int .i64 (-1), .int .i64 0, .int .i64 (-1), .int .i64 (-1)] 3)).alloc (.cells #[.int .i64 17, .int .i64 5, .int .i64 4, .int .i64 5, .int .i64 4, .int .i64 9, .int .i64 21, .int .i64 1001] 3)).setCell ⟨w.heap.size, 7, none⟩ (.int .i64 (-1))).cell? ⟨w.heap.size, 8, none⟩ = some (.bool b) := (World.cell?_setCell_other _ _ _ _ (by simp)).trans p8
        have s9 : (((w3.alloc (.cells #[.int .i64 0, .int .i64 0, .int .i64 0, .int .i64 (-1), .int .i64 (-1), .int .i64 0, .int .i64 (-1), .int .i64 (-1)] 3)).alloc (.cells #[.int .i64 17, .int .i64 5, .int .i64 4, .int .i64 5, .int .i64 4, .int .i64 9, .int .i64 21, .int .i64 1001] 3)).setCell ⟨w.heap.size, 7, none⟩ (.int .i64 (-1))).cell? ⟨w.heap.size, 9, none⟩ = some (.int .i64 x9) := (World.cell?_setCell_other _ _ _ _ (by simp)).trans p9
        have s10 : (((w3.alloc (.cells #[.int .i64 0, .int .i64 0, .int .i64 0, .int .i64 (-1), .int .i64 (-1), .int .i64 0, .int .i64 (-1), .int .i64 (-1)] 3)).alloc (.cells #[.int .i64 17, .int .i64 5, .int .i64 4, .int .i64 5, .int .i64 4, .int .i64 9, .int .i64 21, .int .i64 1001] 3)).setCell ⟨w.heap.size, 7, none⟩ (.int .i64 (-1))).cell? ⟨w.heap.size, 10, none⟩ = some (.int .i64 x10) := (World.cell?_setCell_other _ _ _ _ (by simp)).trans p10
        have s11 : (((w3.alloc (.cells #[.int .i64 0, .int .i64 0, .int .i64 0, .int .i64 (-1), .int .i64 (-1), .int .i64 0, .int .i64 (-1), .int .i64 (-1)] 3)).alloc (.cells #[.int .i64 17, .int .i64 5, .int .i64 4, .int .i64 5, .int .i64 4, .int .i64 9, .int .i64 21, .int .i64 1001] 3)).setCell ⟨w.heap.size, 7, none⟩ (.int .i64 (-1))).cell? ⟨w.heap.size, 11, none⟩ = some (.int .i64 x11) := (World.cell?_setCell_other _ _ _ _ (by simp)).trans p11
        replace hB := hB.setCell (p := ⟨w.heap.size, 7, none⟩) (Nat.le_refl _) (.int .i64 (-1))
        go_wp2_with fail
        refine (KA.out _).mono ?_
        rintro x w4 ⟨rfl, hb⟩
        replace hB := below_next hB hB.size hb
        clear hb q0 q1 q2 q3 q4 q5 q6 q7 q8 q9 q10 q11 p0 p1 p2 p3 p4 p5 p6 p7 p8 p9 p10 p11 s0 s1 s2 s3 s4 s5 s6 s7 s8 s9 s10 s11 zq0 zq1 zq2 zq3 zq4 zq5 zq6 zq7 zp0 zp1 zp2 zp3 zp4 zp5 zp6 zp7
        go_wp2
        go_ret
        exact ⟨rfl, hB⟩
  · have h1 : (e == 0) = false := by simpa using h0
    clear HO zq0 zq1 zq2 zq3 zq4 zq5 zq6 zq7
    go_enter Try.func4, Try.ntmps4
    go_wp2_with fail
    refine (KC.out _).mono ?_
    rintro x w1 ⟨rfl, hb⟩
    replace q0 := cell_keep q0 hb
    replace q1 := cell_keep q1 hb
    replace q2 := cell_keep q2 hb
    replace q3 := cell_keep q3 hb
    replace q4 := cell_keep q4 hb
    replace q5 := cell_keep q5 hb
    replace q6 := cell_keep q6 hb
    replace q7 := cell_keep q7 hb
    replace q8 := cell_keep q8 hb
    replace q9 := cell_keep q9 hb
    replace q10 := cell_keep q10 hb
    replace q11 := cell_keep q11 hb
    replace hB := below_next hB hB.size hb
    clear hb
    go_wp2_with fail
    have Q1 := hide (fun d os => Calls.regrown_of (w := w1) (shown5_any (grow (redrawn w1 d) os)))
    have Q2 := hide (fun d os => Calls.regrown_of (w := w1) (KC.out (grow (redrawn w1 d) os)))
    have Q3 := hide (fun d os => Calls.regrown_of (w := w1) (KR.out (grow (redrawn w1 d) os)))
    clear KC KR
    have q0 := cell_regrown q0
    have q1 := cell_regrown q1
    have q2 := cell_regrown q2
    have q3 := cell_regrown q3
    have q4 := cell_regrown q4
    have q5 := cell_regrown q5
    have q6 := cell_regrown q6
    have q7 := cell_regrown q7
    have q8 := cell_regrown q8
    have q9 := cell_regrown q9
    have q10 := cell_regrown q10
    have q11 := cell_regrown q11
    refine wp_region_quiet_below (by kernel_rfl) (by kernel_rfl) ?_
    repeat (quiet_step (first | (go_at_call 12; exact Q1.out _ _) | (go_at_call 8; exact Q2.out _ _) | (go_at_call 9; exact Q3.out _ _)))
    refine wpQuiet_nil ?_
    intro _ hw'
    obtain ⟨⟨dq, osq⟩, hw''⟩ := hw'
    subst hw''
    go_wp2
    go_ret
    exact ⟨rfl, hB.trans ((below_regrown w1 dq osq).mono hB.size)⟩

end Go.Proofs.Ytcnmgojllgepbaa
