/- The law's 'shown' for layer 5; contracts at what they come to. -/
import Derived.Test.YtcnmgojllgepbaaCfgC
import Derived.Lib.QuietBelow
import Derived.Deep.QuietTactic
namespace Go.Proofs.Ytcnmgojllgepbaa
open Go.RowKit Go.Sort
set_option linter.unusedVariables false

set_option maxRecDepth 100000 in
set_option maxHeartbeats 4000000 in
theorem shown5_any (w : World) : Calls Try.prog 12 #[] w (BoolPost true w) := by
  have hB : Below w.heap.size w (w.alloc (.cells #[.int .i64 2, .int .i64 1, .int .i64 3, .int .i64 0, .int .i64 1, .int .i64 2, .int .i64 3, .int .i64 0, .bool false, .int .i64 0, .int .i64 0, .int .i64 0] 23)) := (Below.refl _ w).alloc (Nat.le_refl _) _
  have q0 : (w.alloc (.cells #[.int .i64 2, .int .i64 1, .int .i64 3, .int .i64 0, .int .i64 1, .int .i64 2, .int .i64 3, .int .i64 0, .bool false, .int .i64 0, .int .i64 0, .int .i64 0] 23)).cell? ⟨w.heap.size, 0, none⟩ = some (.int .i64 2) := by simp [go_sem]
  have q1 : (w.alloc (.cells #[.int .i64 2, .int .i64 1, .int .i64 3, .int .i64 0, .int .i64 1, .int .i64 2, .int .i64 3, .int .i64 0, .bool false, .int .i64 0, .int .i64 0, .int .i64 0] 23)).cell? ⟨w.heap.size, 1, none⟩ = some (.int .i64 1) := by simp [go_sem]
  have q2 : (w.alloc (.cells #[.int .i64 2, .int .i64 1, .int .i64 3, .int .i64 0, .int .i64 1, .int .i64 2, .int .i64 3, .int .i64 0, .bool false, .int .i64 0, .int .i64 0, .int .i64 0] 23)).cell? ⟨w.heap.size, 2, none⟩ = some (.int .i64 3) := by simp [go_sem]
  have q3 : (w.alloc (.cells #[.int .i64 2, .int .i64 1, .int .i64 3, .int .i64 0, .int .i64 1, .int .i64 2, .int .i64 3, .int .i64 0, .bool false, .int .i64 0, .int .i64 0, .int .i64 0] 23)).cell? ⟨w.heap.size, 3, none⟩ = some (.int .i64 0) := by simp [go_sem]
  have q4 : (w.alloc (.cells #[.int .i64 2, .int .i64 1, .int .i64 3, .int .i64 0, .int .i64 1, .int .i64 2, .int .i64 3, .int .i64 0, .bool false, .int .i64 0, .int .i64 0, .int .i64 0] 23)).cell? ⟨w.heap.size, 4, none⟩ = some (.int .i64 1) := by simp [go_sem]
  have q5 : (w.alloc (.cells #[.int .i64 2, .int .i64 1, .int .i64 3, .int .i64 0, .int .i64 1, .int .i64 2, .int .i64 3, .int .i64 0, .bool false, .int .i64 0, .int .i64 0, .int .i64 0] 23)).cell? ⟨w.heap.size, 5, none⟩ = some (.int .i64 2) := by simp [go_sem]
  have q6 : (w.alloc (.cells #[.int .i64 2, .int .i64 1, .int .i64 3, .int .i64 0, .int .i64 1, .int .i64 2, .int .i64 3, .int .i64 0, .bool false, .int .i64 0, .int .i64 0, .int .i64 0] 23)).cell? ⟨w.heap.size, 6, none⟩ = some (.int .i64 3) := by simp [go_sem]
  have q7 : (w.alloc (.cells #[.int .i64 2, .int .i64 1, .int .i64 3, .int .i64 0, .int .i64 1, .int .i64 2, .int .i64 3, .int .i64 0, .bool false, .int .i64 0, .int .i64 0, .int .i64 0] 23)).cell? ⟨w.heap.size, 7, none⟩ = some (.int .i64 0) := by simp [go_sem]
  have q8 : (w.alloc (.cells #[.int .i64 2, .int .i64 1, .int .i64 3, .int .i64 0, .int .i64 1, .int .i64 2, .int .i64 3, .int .i64 0, .bool false, .int .i64 0, .int .i64 0, .int .i64 0] 23)).cell? ⟨w.heap.size, 8, none⟩ = some (.bool false) := by simp [go_sem]
  have q9 : (w.alloc (.cells #[.int .i64 2, .int .i64 1, .int .i64 3, .int .i64 0, .int .i64 1, .int .i64 2, .int .i64 3, .int .i64 0, .bool false, .int .i64 0, .int .i64 0, .int .i64 0] 23)).cell? ⟨w.heap.size, 9, none⟩ = some (.int .i64 0) := by simp [go_sem]
  have q10 : (w.alloc (.cells #[.int .i64 2, .int .i64 1, .int .i64 3, .int .i64 0, .int .i64 1, .int .i64 2, .int .i64 3, .int .i64 0, .bool false, .int .i64 0, .int .i64 0, .int .i64 0] 23)).cell? ⟨w.heap.size, 10, none⟩ = some (.int .i64 0) := by simp [go_sem]
  have q11 : (w.alloc (.cells #[.int .i64 2, .int .i64 1, .int .i64 3, .int .i64 0, .int .i64 1, .int .i64 2, .int .i64 3, .int .i64 0, .bool false, .int .i64 0, .int .i64 0, .int .i64 0] 23)).cell? ⟨w.heap.size, 11, none⟩ = some (.int .i64 0) := by simp [go_sem]
  have K1 := hide (check_any 2 1 3 0 1 2 3 0 false 0 0 0)
  rw [show ckV 2 1 3 0 1 2 3 0 false 0 0 0 = 0 by decide] at K1
  have K2 := hide (check_any 0 0 0 0 0 0 0 0 false 0 0 0)
  rw [show ckV 0 0 0 0 0 0 0 0 false 0 0 0 = 50 by decide] at K2
  have K3 := hide (fun y => steps_any 2 1 3 0 1 2 3 0 false 0 0 0 y (by omega) (by omega) (by omega))
  rw [show spV 0 1 3 = 46 by decide] at K3
  go_enter Try.func12, Try.ntmps12
  go_wp2_with fail
  refine (K1.out _).mono ?_
  rintro x w1 ⟨rfl, hb⟩
  replace q0 := cell_keep q0 hb
  replace q1 := cell_keep q1 hb
  replace q2 := cell_keep q2 hb
  replace q3 := cell_keep q3 hb
  replace q4 := cell_keep q4 hb
  replace q5 := cell_keep q5 hb
  replace q6 := cell_keep q6 hb
  replace q7 := cell_keep q7 hb
  replace q8 := cell_keep q8 hb
  replace q9 := cell_keep q9 hb
  replace q10 := cell_keep q10 hb
  replace q11 := cell_keep q11 hb
  replace hB := below_next hB hB.size hb
  clear hb
  go_wp2_with fail
  refine (K2.out _).mono ?_
  rintro x w2 ⟨rfl, hb⟩
  replace q0 := cell_keep q0 hb
  replace q1 := cell_keep q1 hb
  replace q2 := cell_keep q2 hb
  replace q3 := cell_keep q3 hb
  replace q4 := cell_keep q4 hb
  replace q5 := cell_keep q5 hb
  replace q6 := cell_keep q6 hb
  replace q7 := cell_keep q7 hb
  replace q8 := cell_keep q8 hb
  replace q9 := cell_keep q9 hb
  replace q10 := cell_keep q10 hb
  replace q11 := cell_keep q11 hb
  replace hB := below_next hB hB.size hb
  clear hb
  go_wp2_with fail
  refine (K3.out _).mono ?_
  rintro x w3 ⟨rfl, hb⟩
  replace q0 := cell_keep q0 hb
  replace q1 := cell_keep q1 hb
  replace q2 := cell_keep q2 hb
  replace q3 := cell_keep q3 hb
  replace q4 := cell_keep q4 hb
  replace q5 := cell_keep q5 hb
  replace q6 := cell_keep q6 hb
  replace q7 := cell_keep q7 hb
  replace q8 := cell_keep q8 hb
  replace q9 := cell_keep q9 hb
  replace q10 := cell_keep q10 hb
  replace q11 := cell_keep q11 hb
  replace hB := below_next hB hB.size hb
  clear hb
  go_wp2
  go_ret
  exact ⟨rfl, hB⟩

end Go.Proofs.Ytcnmgojllgepbaa
