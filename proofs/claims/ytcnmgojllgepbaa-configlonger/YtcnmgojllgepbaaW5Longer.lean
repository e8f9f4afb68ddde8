/- The walk of ConfigLonger. -/
import Derived.Test.YtcnmgojllgepbaaW5Math
import Derived.Lib.QuietBelow
import Derived.Deep.QuietTactic
namespace Go.Proofs.Ytcnmgojllgepbaa
open Go.RowKit Go.Sort
set_option linter.unusedVariables false

set_option maxRecDepth 100000 in
set_option maxHeartbeats 4000000 in
theorem walkLonger (x0 x1 x2 x3 x4 x5 x6 x7 : Int) (b : Bool) (x9 x10 x11 : Int) (y0 y1 y2 y3 y4 y5 y6 y7 : Int) (c : Bool) (y9 y10 y11 : Int) (w : World) : Calls Try.prog 7 #[.agg #[.int .i64 x0, .int .i64 x1, .int .i64 x2, .int .i64 x3, .int .i64 x4, .int .i64 x5, .int .i64 x6, .int .i64 x7, .bool b, .int .i64 x9, .int .i64 x10, .int .i64 x11], .agg #[.int .i64 y0, .int .i64 y1, .int .i64 y2, .int .i64 y3, .int .i64 y4, .int .i64 y5, .int .i64 y6, .int .i64 y7, .bool c, .int .i64 y9, .int .i64 y10, .int .i64 y11]] w (BoolPost true w) := by
  have hB : Below w.heap.size w ((w.alloc (.cells #[.int .i64 x0, .int .i64 x1, .int .i64 x2, .int .i64 x3, .int .i64 x4, .int .i64 x5, .int .i64 x6, .int .i64 x7, .bool b, .int .i64 x9, .int .i64 x10, .int .i64 x11] 23)).alloc (.cells #[.int .i64 y0, .int .i64 y1, .int .i64 y2, .int .i64 y3, .int .i64 y4, .int .i64 y5, .int .i64 y6, .int .i64 y7, .bool c, .int .i64 y9, .int .i64 y10, .int .i64 y11] 23)) := ((Below.refl _ w).alloc (Nat.le_refl _) _).alloc (by simp) _
  have q0 : ((w.alloc (.cells #[.int .i64 x0, .int .i64 x1, .int .i64 x2, .int .i64 x3, .int .i64 x4, .int .i64 x5, .int .i64 x6, .int .i64 x7, .bool b, .int .i64 x9, .int .i64 x10, .int .i64 x11] 23)).alloc (.cells #[.int .i64 y0, .int .i64 y1, .int .i64 y2, .int .i64 y3, .int .i64 y4, .int .i64 y5, .int .i64 y6, .int .i64 y7, .bool c, .int .i64 y9, .int .i64 y10, .int .i64 y11] 23)).cell? ⟨w.heap.size, 0, none⟩ = some (.int .i64 x0) := by simp [go_sem]
  have q1 : ((w.alloc (.cells #[.int .i64 x0, .int .i64 x1, .int .i64 x2, .int .i64 x3, .int .i64 x4, .int .i64 x5, .int .i64 x6, .int .i64 x7, .bool b, .int .i64 x9, .int .i64 x10, .int .i64 x11] 23)).alloc (.cells #[.int .i64 y0, .int .i64 y1, .int .i64 y2, .int .i64 y3, .int .i64 y4, .int .i64 y5, .int .i64 y6, .int .i64 y7, .bool c, .int .i64 y9, .int .i64 y10, .int .i64 y11] 23)).cell? ⟨w.heap.size, 1, none⟩ = some (.int .i64 x1) := by simp [go_sem]
  have q2 : ((w.alloc (.cells #[.int .i64 x0, .int .i64 x1, .int .i64 x2, .int .i64 x3, .int .i64 x4, .int .i64 x5, .int .i64 x6, .int .i64 x7, .bool b, .int .i64 x9, .int .i64 x10, .int .i64 x11] 23)).alloc (.cells #[.int .i64 y0, .int .i64 y1, .int .i64 y2, .int .i64 y3, .int .i64 y4, .int .i64 y5, .int .i64 y6, .int .i64 y7, .bool c, .int .i64 y9, .int .i64 y10, .int .i64 y11] 23)).cell? ⟨w.heap.size, 2, none⟩ = some (.int .i64 x2) := by simp [go_sem]
  have q3 : ((w.alloc (.cells #[.int .i64 x0, .int .i64 x1, .int .i64 x2, .int .i64 x3, .int .i64 x4, .int .i64 x5, .int .i64 x6, .int .i64 x7, .bool b, .int .i64 x9, .int .i64 x10, .int .i64 x11] 23)).alloc (.cells #[.int .i64 y0, .int .i64 y1, .int .i64 y2, .int .i64 y3, .int .i64 y4, .int .i64 y5, .int .i64 y6, .int .i64 y7, .bool c, .int .i64 y9, .int .i64 y10, .int .i64 y11] 23)).cell? ⟨w.heap.size, 3, none⟩ = some (.int .i64 x3) := by simp [go_sem]
  have q4 : ((w.alloc (.cells #[.int .i64 x0, .int .i64 x1, .int .i64 x2, .int .i64 x3, .int .i64 x4, .int .i64 x5, .int .i64 x6, .int .i64 x7, .bool b, .int .i64 x9, .int .i64 x10, .int .i64 x11] 23)).alloc (.cells #[.int .i64 y0, .int .i64 y1, .int .i64 y2, .int .i64 y3, .int .i64 y4, .int .i64 y5, .int .i64 y6, .int .i64 y7, .bool c, .int .i64 y9, .int .i64 y10, .int .i64 y11] 23)).cell? ⟨w.heap.size, 4, none⟩ = some (.int .i64 x4) := by simp [go_sem]
  have q5 : ((w.alloc (.cells #[.int .i64 x0, .int .i64 x1, .int .i64 x2, .int .i64 x3, .int .i64 x4, .int .i64 x5, .int .i64 x6, .int .i64 x7, .bool b, .int .i64 x9, .int .i64 x10, .int .i64 x11] 23)).alloc (.cells #[.int .i64 y0, .int .i64 y1, .int .i64 y2, .int .i64 y3, .int .i64 y4, .int .i64 y5, .int .i64 y6, .int .i64 y7, .bool c, .int .i64 y9, .int .i64 y10, .int .i64 y11] 23)).cell? ⟨w.heap.size, 5, none⟩ = some (.int .i64 x5) := by simp [go_sem]
  have q6 : ((w.alloc (.cells #[.int .i64 x0, .int .i64 x1, .int .i64 x2, .int .i64 x3, .int .i64 x4, .int .i64 x5, .int .i64 x6, .int .i64 x7, .bool b, .int .i64 x9, .int .i64 x10, .int .i64 x11] 23)).alloc (.cells #[.int .i64 y0, .int .i64 y1, .int .i64 y2, .int .i64 y3, .int .i64 y4, .int .i64 y5, .int .i64 y6, .int .i64 y7, .bool c, .int .i64 y9, .int .i64 y10, .int .i64 y11] 23)).cell? ⟨w.heap.size, 6, none⟩ = some (.int .i64 x6) := by simp [go_sem]
  have q7 : ((w.alloc (.cells #[.int .i64 x0, .int .i64 x1, .int .i64 x2, .int .i64 x3, .int .i64 x4, .int .i64 x5, .int .i64 x6, .int .i64 x7, .bool b, .int .i64 x9, .int .i64 x10, .int .i64 x11] 23)).alloc (.cells #[.int .i64 y0, .int .i64 y1, .int .i64 y2, .int .i64 y3, .int .i64 y4, .int .i64 y5, .int .i64 y6, .int .i64 y7, .bool c, .int .i64 y9, .int .i64 y10, .int .i64 y11] 23)).cell? ⟨w.heap.size, 7, none⟩ = some (.int .i64 x7) := by simp [go_sem]
  have q8 : ((w.alloc (.cells #[.int .i64 x0, .int .i64 x1, .int .i64 x2, .int .i64 x3, .int .i64 x4, .int .i64 x5, .int .i64 x6, .int .i64 x7, .bool b, .int .i64 x9, .int .i64 x10, .int .i64 x11] 23)).alloc (.cells #[.int .i64 y0, .int .i64 y1, .int .i64 y2, .int .i64 y3, .int .i64 y4, .int .i64 y5, .int .i64 y6, .int .i64 y7, .bool c, .int .i64 y9, .int .i64 y10, .int .i64 y11] 23)).cell? ⟨w.heap.size, 8, none⟩ = some (.bool b) := by simp [go_sem]
  have q9 : ((w.alloc (.cells #[.int .i64 x0, .int .i64 x1, .int .i64 x2, .int .i64 x3, .int .i64 x4, .int .i64 x5, .int .i64 x6, .int .i64 x7, .bool b, .int .i64 x9, .int .i64 x10, .int .i64 x11] 23)).alloc (.cells #[.int .i64 y0, .int .i64 y1, .int .i64 y2, .int .i64 y3, .int .i64 y4, .int .i64 y5, .int .i64 y6, .int .i64 y7, .bool c, .int .i64 y9, .int .i64 y10, .int .i64 y11] 23)).cell? ⟨w.heap.size, 9, none⟩ = some (.int .i64 x9) := by simp [go_sem]
  have q10 : ((w.alloc (.cells #[.int .i64 x0, .int .i64 x1, .int .i64 x2, .int .i64 x3, .int .i64 x4, .int .i64 x5, .int .i64 x6, .int .i64 x7, .bool b, .int .i64 x9, .int .i64 x10, .int .i64 x11] 23)).alloc (.cells #[.int .i64 y0, .int .i64 y1, .int .i64 y2, .int .i64 y3, .int .i64 y4, .int .i64 y5, .int .i64 y6, .int .i64 y7, .bool c, .int .i64 y9, .int .i64 y10, .int .i64 y11] 23)).cell? ⟨w.heap.size, 10, none⟩ = some (.int .i64 x10) := by simp [go_sem]
  have q11 : ((w.alloc (.cells #[.int .i64 x0, .int .i64 x1, .int .i64 x2, .int .i64 x3, .int .i64 x4, .int .i64 x5, .int .i64 x6, .int .i64 x7, .bool b, .int .i64 x9, .int .i64 x10, .int .i64 x11] 23)).alloc (.cells #[.int .i64 y0, .int .i64 y1, .int .i64 y2, .int .i64 y3, .int .i64 y4, .int .i64 y5, .int .i64 y6, .int .i64 y7, .bool c, .int .i64 y9, .int .i64 y10, .int .i64 y11] 23)).cell? ⟨w.heap.size, 11, none⟩ = some (.int .i64 x11) := by simp [go_sem]
  have r0 : ((w.alloc (.cells #[.int .i64 x0, .int .i64 x1, .int .i64 x2, .int .i64 x3, .int .i64 x4, .int .i64 x5, .int .i64 x6, .int .i64 x7, .bool b, .int .i64 x9, .int .i64 x10, .int .i64 x11] 23)).alloc (.cells #[.int .i64 y0, .int .i64 y1, .int .i64 y2, .int .i64 y3, .int .i64 y4, .int .i64 y5, .int .i64 y6, .int .i64 y7, .bool c, .int .i64 y9, .int .i64 y10, .int .i64 y11] 23)).cell? ⟨w.heap.size + 1, 0, none⟩ = some (.int .i64 y0) := by simp [go_sem]
  have r1 : ((w.alloc (.cells #[.int .i64 x0, .int .i64 x1, .int .i64 x2, .int .i64 x3, .int .i64 x4, .int .i64 x5, .int .i64 x6, .int .i64 x7, .bool b, .int .i64 x9, .int .i64 x10, .int .i64 x11] 23)).alloc (.cells #[.int .i64 y0, .int .i64 y1, .int .i64 y2, .int .i64 y3, .int .i64 y4, .int .i64 y5, .int .i64 y6, .int .i64 y7, .bool c, .int .i64 y9, .int .i64 y10, .int .i64 y11] 23)).cell? ⟨w.heap.size + 1, 1, none⟩ = some (.int .i64 y1) := by simp [go_sem]
  have r2 : ((w.alloc (.cells #[.int .i64 x0, .int .i64 x1, .int .i64 x2, .int .i64 x3, .int .i64 x4, .int .i64 x5, .int .i64 x6, .int .i64 x7, .bool b, .int .i64 x9, .int .i64 x10, .int .i64 x11] 23)).alloc (.cells #[.int .i64 y0, .int .i64 y1, .int .i64 y2, .int .i64 y3, .int .i64 y4, .int .i64 y5, .int .i64 y6, .int .i64 y7, .bool c, .int .i64 y9, .int .i64 y10, .int .i64 y11] 23)).cell? ⟨w.heap.size + 1, 2, none⟩ = some (.int .i64 y2) := by simp [go_sem]
  have r3 : ((w.alloc (.cells #[.int .i64 x0, .int .i64 x1, .int .i64 x2, .int .i64 x3, .int .i64 x4, .int .i64 x5, .int .i64 x6, .int .i64 x7, .bool b, .int .i64 x9, .int .i64 x10, .int .i64 x11] 23)).alloc (.cells #[.int .i64 y0, .int .i64 y1, .int .i64 y2, .int .i64 y3, .int .i64 y4, .int .i64 y5, .int .i64 y6, .int .i64 y7, .bool c, .int .i64 y9, .int .i64 y10, .int .i64 y11] 23)).cell? ⟨w.heap.size + 1, 3, none⟩ = some (.int .i64 y3) := by simp [go_sem]
  have r4 : ((w.alloc (.cells #[.int .i64 x0, .int .i64 x1, .int .i64 x2, .int .i64 x3, .int .i64 x4, .int .i64 x5, .int .i64 x6, .int .i64 x7, .bool b, .int .i64 x9, .int .i64 x10, .int .i64 x11] 23)).alloc (.cells #[.int .i64 y0, .int .i64 y1, .int .i64 y2, .int .i64 y3, .int .i64 y4, .int .i64 y5, .int .i64 y6, .int .i64 y7, .bool c, .int .i64 y9, .int .i64 y10, .int .i64 y11] 23)).cell? ⟨w.heap.size + 1, 4, none⟩ = some (.int .i64 y4) := by simp [go_sem]
  have r5 : ((w.alloc (.cells #[.int .i64 x0, .int .i64 x1, .int .i64 x2, .int .i64 x3, .int .i64 x4, .int .i64 x5, .int .i64 x6, .int .i64 x7, .bool b, .int .i64 x9, .int .i64 x10, .int .i64 x11] 23)).alloc (.cells #[.int .i64 y0, .int .i64 y1, .int .i64 y2, .int .i64 y3, .int .i64 y4, .int .i64 y5, .int .i64 y6, .int .i64 y7, .bool c, .int .i64 y9, .int .i64 y10, .int .i64 y11] 23)).cell? ⟨w.heap.size + 1, 5, none⟩ = some (.int .i64 y5) := by simp [go_sem]
  have r6 : ((w.alloc (.cells #[.int .i64 x0, .int .i64 x1, .int .i64 x2, .int .i64 x3, .int .i64 x4, .int .i64 x5, .int .i64 x6, .int .i64 x7, .bool b, .int .i64 x9, .int .i64 x10, .int .i64 x11] 23)).alloc (.cells #[.int .i64 y0, .int .i64 y1, .int .i64 y2, .int .i64 y3, .int .i64 y4, .int .i64 y5, .int .i64 y6, .int .i64 y7, .bool c, .int .i64 y9, .int .i64 y10, .int .i64 y11] 23)).cell? ⟨w.heap.size + 1, 6, none⟩ = some (.int .i64 y6) := by simp [go_sem]
  have r7 : ((w.alloc (.cells #[.int .i64 x0, .int .i64 x1, .int .i64 x2, .int .i64 x3, .int .i64 x4, .int .i64 x5, .int .i64 x6, .int .i64 x7, .bool b, .int .i64 x9, .int .i64 x10, .int .i64 x11] 23)).alloc (.cells #[.int .i64 y0, .int .i64 y1, .int .i64 y2, .int .i64 y3, .int .i64 y4, .int .i64 y5, .int .i64 y6, .int .i64 y7, .bool c, .int .i64 y9, .int .i64 y10, .int .i64 y11] 23)).cell? ⟨w.heap.size + 1, 7, none⟩ = some (.int .i64 y7) := by simp [go_sem]
  have r8 : ((w.alloc (.cells #[.int .i64 x0, .int .i64 x1, .int .i64 x2, .int .i64 x3, .int .i64 x4, .int .i64 x5, .int .i64 x6, .int .i64 x7, .bool b, .int .i64 x9, .int .i64 x10, .int .i64 x11] 23)).alloc (.cells #[.int .i64 y0, .int .i64 y1, .int .i64 y2, .int .i64 y3, .int .i64 y4, .int .i64 y5, .int .i64 y6, .int .i64 y7, .bool c, .int .i64 y9, .int .i64 y10, .int .i64 y11] 23)).cell? ⟨w.heap.size + 1, 8, none⟩ = some (.bool c) := by simp [go_sem]
  have r9 : ((w.alloc (.cells #[.int .i64 x0, .int .i64 x1, .int .i64 x2, .int .i64 x3, .int .i64 x4, .int .i64 x5, .int .i64 x6, .int .i64 x7, .bool b, .int .i64 x9, .int .i64 x10, .int .i64 x11] 23)).alloc (.cells #[.int .i64 y0, .int .i64 y1, .int .i64 y2, .int .i64 y3, .int .i64 y4, .int .i64 y5, .int .i64 y6, .int .i64 y7, .bool c, .int .i64 y9, .int .i64 y10, .int .i64 y11] 23)).cell? ⟨w.heap.size + 1, 9, none⟩ = some (.int .i64 y9) := by simp [go_sem]
  have r10 : ((w.alloc (.cells #[.int .i64 x0, .int .i64 x1, .int .i64 x2, .int .i64 x3, .int .i64 x4, .int .i64 x5, .int .i64 x6, .int .i64 x7, .bool b, .int .i64 x9, .int .i64 x10, .int .i64 x11] 23)).alloc (.cells #[.int .i64 y0, .int .i64 y1, .int .i64 y2, .int .i64 y3, .int .i64 y4, .int .i64 y5, .int .i64 y6, .int .i64 y7, .bool c, .int .i64 y9, .int .i64 y10, .int .i64 y11] 23)).cell? ⟨w.heap.size + 1, 10, none⟩ = some (.int .i64 y10) := by simp [go_sem]
  have r11 : ((w.alloc (.cells #[.int .i64 x0, .int .i64 x1, .int .i64 x2, .int .i64 x3, .int .i64 x4, .int .i64 x5, .int .i64 x6, .int .i64 x7, .bool b, .int .i64 x9, .int .i64 x10, .int .i64 x11] 23)).alloc (.cells #[.int .i64 y0, .int .i64 y1, .int .i64 y2, .int .i64 y3, .int .i64 y4, .int .i64 y5, .int .i64 y6, .int .i64 y7, .bool c, .int .i64 y9, .int .i64 y10, .int .i64 y11] 23)).cell? ⟨w.heap.size + 1, 11, none⟩ = some (.int .i64 y11) := by simp [go_sem]
  obtain ⟨e, he⟩ : ∃ e, ckV x0 x1 x2 x3 x4 x5 x6 x7 b x9 x10 x11 = e := ⟨_, rfl⟩
  have KC := hide (check_any x0 x1 x2 x3 x4 x5 x6 x7 b x9 x10 x11)
  have KR := hide (rcheck_any x0 x1 x2 x3 x4 x5 x6 x7 b x9 x10 x11)
  rw [he] at KC KR
  have HO := hide (ck_ok x0 x1 x2 x3 x4 x5 x6 x7 b x9 x10 x11)
  rw [he] at HO
  clear he
  obtain ⟨f, hf⟩ : ∃ f, ckV y0 y1 y2 y3 y4 y5 y6 y7 c y9 y10 y11 = f := ⟨_, rfl⟩
  have KC2 := hide (check_any y0 y1 y2 y3 y4 y5 y6 y7 c y9 y10 y11)
  have KR2 := hide (rcheck_any y0 y1 y2 y3 y4 y5 y6 y7 c y9 y10 y11)
  rw [hf] at KC2 KR2
  have HO2 := hide (ck_ok y0 y1 y2 y3 y4 y5 y6 y7 c y9 y10 y11)
  rw [hf] at HO2
  clear hf
  by_cases h0 : e = 0
  · subst h0
    by_cases h1 : f = 0
    · subst h1
      have OK := hide (HO.out.1 rfl)
      have OK2 := hide (HO2.out.1 rfl)
      clear HO HO2
      have KS := hide (fun z => steps_any x0 x1 x2 x3 x4 x5 x6 x7 b x9 x10 x11 z OK.out.h3 OK.out.h4 OK.out.h6)
      have KS2 := hide (fun z => steps_any y0 y1 y2 y3 y4 y5 y6 y7 c y9 y10 y11 z OK2.out.h3 OK2.out.h4 OK2.out.h6)
      have HM : Hid (x3 ≤ y3 → x4 ≤ y4 → x6 ≤ y6 → spV x3 x4 x6 ≤ spV y3 y4 y6) := hide (fun g1 g2 g3 => sp_mono g1 g2 g3 OK.out.h4 OK2.out.h4 OK.out.h6.1)
      have hge : 20 ≤ spV x3 x4 x6 := sp_least OK.out.h3.1 OK.out.h4 OK.out.h6.1
      obtain ⟨s1, hs1⟩ : ∃ s, spV x3 x4 x6 = s := ⟨_, rfl⟩
      obtain ⟨s2, hs2⟩ : ∃ s, spV y3 y4 y6 = s := ⟨_, rfl⟩
      rw [hs1] at KS HM hge
      rw [hs2] at KS2 HM
      clear hs1 hs2 OK OK2
      go_enter Try.func7, Try.ntmps7
      go_wp2_with fail
      refine (KC.out _).mono ?_
      rintro x w1 ⟨rfl, hb⟩
      replace q0 := cell_keep q0 hb
      replace q1 := cell_keep q1 hb
      replace q2 := cell_keep q2 hb
      replace q3 := cell_keep q3 hb
      replace q4 := cell_keep q4 hb
      replace q5 := cell_keep q5 hb
      replace q6 := cell_keep q6 hb
      replace q7 := cell_keep q7 hb
      replace q8 := cell_keep q8 hb
      replace q9 := cell_keep q9 hb
      replace q10 := cell_keep q10 hb
      replace q11 := cell_keep q11 hb
      replace r0 := cell_keep r0 hb
      replace r1 := cell_keep r1 hb
      replace r2 := cell_keep r2 hb
      replace r3 := cell_keep r3 hb
      replace r4 := cell_keep r4 hb
      replace r5 := cell_keep r5 hb
      replace r6 := cell_keep r6 hb
      replace r7 := cell_keep r7 hb
      replace r8 := cell_keep r8 hb
      replace r9 := cell_keep r9 hb
      replace r10 := cell_keep r10 hb
      replace r11 := cell_keep r11 hb
      replace hB := below_next hB hB.size hb
      clear hb
      go_wp2_with fail
      refine (KC2.out _).mono ?_
      rintro x w2 ⟨rfl, hb⟩
      replace q0 := cell_keep q0 hb
      replace q1 := cell_keep q1 hb
      replace q2 := cell_keep q2 hb
      replace q3 := cell_keep q3 hb
      replace q4 := cell_keep q4 hb
      replace q5 := cell_keep q5 hb
      replace q6 := cell_keep q6 hb
      replace q7 := cell_keep q7 hb
      replace q8 := cell_keep q8 hb
      replace q9 := cell_keep q9 hb
      replace q10 := cell_keep q10 hb
      replace q11 := cell_keep q11 hb
      replace r0 := cell_keep r0 hb
      replace r1 := cell_keep r1 hb
      replace r2 := cell_keep r2 hb
      replace r3 := cell_keep r3 hb
      replace r4 := cell_keep r4 hb
      replace r5 := cell_keep r5 hb
      replace r6 := cell_keep r6 hb
      replace r7 := cell_keep r7 hb
      replace r8 := cell_keep r8 hb
      replace r9 := cell_keep r9 hb
      replace r10 := cell_keep r10 hb
      replace r11 := cell_keep r11 hb
      replace hB := below_next hB hB.size hb
      clear hb
      go_wp2_with fail
      refine (KR.out _).mono ?_
      rintro x w3 ⟨rfl, hb⟩
      replace q0 := cell_keep q0 hb
      replace q1 := cell_keep q1 hb
      replace q2 := cell_keep q2 hb
      replace q3 := cell_keep q3 hb
      replace q4 := cell_keep q4 hb
      replace q5 := cell_keep q5 hb
      replace q6 := cell_keep q6 hb
      replace q7 := cell_keep q7 hb
      replace q8 := cell_keep q8 hb
      replace q9 := cell_keep q9 hb
      replace q10 := cell_keep q10 hb
      replace q11 := cell_keep q11 hb
      replace r0 := cell_keep r0 hb
      replace r1 := cell_keep r1 hb
      replace r2 := cell_keep r2 hb
      replace r3 := cell_keep r3 hb
      replace r4 := cell_keep r4 hb
      replace r5 := cell_keep r5 hb
      replace r6 := cell_keep r6 hb
      replace r7 := cell_keep r7 hb
      replace r8 := cell_keep r8 hb
      replace r9 := cell_keep r9 hb
      replace r10 := cell_keep r10 hb
      replace r11 := cell_keep r11 hb
      replace hB := below_next hB hB.size hb
      clear hb
      go_wp2_with fail
      refine (KR2.out _).mono ?_
      rintro x w4 ⟨rfl, hb⟩
      replace q0 := cell_keep q0 hb
      replace q1 := cell_keep q1 hb
      replace q2 := cell_keep q2 hb
      replace q3 := cell_keep q3 hb
      replace q4 := cell_keep q4 hb
      replace q5 := cell_keep q5 hb
      replace q6 := cell_keep q6 hb
      replace q7 := cell_keep q7 hb
      replace q8 := cell_keep q8 hb
      replace q9 := cell_keep q9 hb
      replace q10 := cell_keep q10 hb
      replace q11 := cell_keep q11 hb
      replace r0 := cell_keep r0 hb
      replace r1 := cell_keep r1 hb
      replace r2 := cell_keep r2 hb
      replace r3 := cell_keep r3 hb
      replace r4 := cell_keep r4 hb
      replace r5 := cell_keep r5 hb
      replace r6 := cell_keep r6 hb
      replace r7 := cell_keep r7 hb
      replace r8 := cell_keep r8 hb
      replace r9 := cell_keep r9 hb
      replace r10 := cell_keep r10 hb
      replace r11 := cell_keep r11 hb
      replace hB := below_next hB hB.size hb
      clear hb
      go_wp2_with fail
      refine (shown5_any _).mono ?_
      rintro x w5 ⟨rfl, hb⟩
      replace q0 := cell_keep q0 hb
      replace q1 := cell_keep q1 hb
      replace q2 := cell_keep q2 hb
      replace q3 := cell_keep q3 hb
      replace q4 := cell_keep q4 hb
      replace q5 := cell_keep q5 hb
      replace q6 := cell_keep q6 hb
      replace q7 := cell_keep q7 hb
      replace q8 := cell_keep q8 hb
      replace q9 := cell_keep q9 hb
      replace q10 := cell_keep q10 hb
      replace q11 := cell_keep q11 hb
      replace r0 := cell_keep r0 hb
      replace r1 := cell_keep r1 hb
      replace r2 := cell_keep r2 hb
      replace r3 := cell_keep r3 hb
      replace r4 := cell_keep r4 hb
      replace r5 := cell_keep r5 hb
      replace r6 := cell_keep r6 hb
      replace r7 := cell_keep r7 hb
      replace r8 := cell_keep r8 hb
      replace r9 := cell_keep r9 hb
      replace r10 := cell_keep r10 hb
      replace r11 := cell_keep r11 hb
      replace hB := below_next hB hB.size hb
      clear hb
      go_wp2_with fail
      refine (KS.out _).mono ?_
      rintro x w6 ⟨rfl, hb⟩
      replace q0 := cell_keep q0 hb
      replace q1 := cell_keep q1 hb
      replace q2 := cell_keep q2 hb
      replace q3 := cell_keep q3 hb
      replace q4 := cell_keep q4 hb
      replace q5 := cell_keep q5 hb
      replace q6 := cell_keep q6 hb
      replace q7 := cell_keep q7 hb
      replace q8 := cell_keep q8 hb
      replace q9 := cell_keep q9 hb
      replace q10 := cell_keep q10 hb
      replace q11 := cell_keep q11 hb
      replace r0 := cell_keep r0 hb
      replace r1 := cell_keep r1 hb
      replace r2 := cell_keep r2 hb
      replace r3 := cell_keep r3 hb
      replace r4 := cell_keep r4 hb
      replace r5 := cell_keep r5 hb
      replace r6 := cell_keep r6 hb
      replace r7 := cell_keep r7 hb
      replace r8 := cell_keep r8 hb
      replace r9 := cell_keep r9 hb
      replace r10 := cell_keep r10 hb
      replace r11 := cell_keep r11 hb
      replace hB := below_next hB hB.size hb
      clear hb
      go_wp2_with fail
      refine (KS2.out _).mono ?_
      rintro x w7 ⟨rfl, hb⟩
      replace q0 := cell_keep q0 hb
      replace q1 := cell_keep q1 hb
      replace q2 := cell_keep q2 hb
      replace q3 := cell_keep q3 hb
      replace q4 := cell_keep q4 hb
      replace q5 := cell_keep q5 hb
      replace q6 := cell_keep q6 hb
      replace q7 := cell_keep q7 hb
      replace q8 := cell_keep q8 hb
      replace q9 := cell_keep q9 hb
      replace q10 := cell_keep q10 hb
      replace q11 := cell_keep q11 hb
      replace r0 := cell_keep r0 hb
      replace r1 := cell_keep r1 hb
      replace r2 := cell_keep r2 hb
      replace r3 := cell_keep r3 hb
      replace r4 := cell_keep r4 hb
      replace r5 := cell_keep r5 hb
      replace r6 := cell_keep r6 hb
      replace r7 := cell_keep r7 hb
      replace r8 := cell_keep r8 hb
      replace r9 := cell_keep r9 hb
      replace r10 := cell_keep r10 hb
      replace r11 := cell_keep r11 hb
      replace hB := below_next hB hB.size hb
      clear hb
      clear KC KC2 KR KR2 KS KS2
      by_cases g1 : y3 < x3
      · go_wp2
        go_ret
        exact ⟨rfl, hB⟩
      have g1' : x3 ≤ y3 := by omega
      clear g1
      by_cases g2 : y4 < x4
      · go_wp2
        go_ret
        exact ⟨rfl, hB⟩
      have g2' : x4 ≤ y4 := by omega
      clear g2
      by_cases g3 : y6 < x6
      · go_wp2
        go_ret
        exact ⟨rfl, hB⟩
      have g3' : x6 ≤ y6 := by omega
      clear g3
      have g4 := HM.out g1' g2' g3'
      clear HM
      go_wp2
      go_ret
      exact ⟨rfl, hB⟩
    · have h2 : (f == 0) = false := by simpa using h1
      clear HO HO2 KR2
      go_enter Try.func7, Try.ntmps7
      go_wp2_with fail
      refine (KC.out _).mono ?_
      rintro x w1 ⟨rfl, hb⟩
      replace q0 := cell_keep q0 hb
      replace q1 := cell_keep q1 hb
      replace q2 := cell_keep q2 hb
      replace q3 := cell_keep q3 hb
      replace q4 := cell_keep q4 hb
      replace q5 := cell_keep q5 hb
      replace q6 := cell_keep q6 hb
      replace q7 := cell_keep q7 hb
      replace q8 := cell_keep q8 hb
      replace q9 := cell_keep q9 hb
      replace q10 := cell_keep q10 hb
      replace q11 := cell_keep q11 hb
      replace r0 := cell_keep r0 hb
      replace r1 := cell_keep r1 hb
      replace r2 := cell_keep r2 hb
      replace r3 := cell_keep r3 hb
      replace r4 := cell_keep r4 hb
      replace r5 := cell_keep r5 hb
      replace r6 := cell_keep r6 hb
      replace r7 := cell_keep r7 hb
      replace r8 := cell_keep r8 hb
      replace r9 := cell_keep r9 hb
      replace r10 := cell_keep r10 hb
      replace r11 := cell_keep r11 hb
      replace hB := below_next hB hB.size hb
      clear hb
      go_wp2_with fail
      refine (KC2.out _).mono ?_
      rintro x w2 ⟨rfl, hb⟩
      replace q0 := cell_keep q0 hb
      replace q1 := cell_keep q1 hb
      replace q2 := cell_keep q2 hb
      replace q3 := cell_keep q3 hb
      replace q4 := cell_keep q4 hb
      replace q5 := cell_keep q5 hb
      replace q6 := cell_keep q6 hb
      replace q7 := cell_keep q7 hb
      replace q8 := cell_keep q8 hb
      replace q9 := cell_keep q9 hb
      replace q10 := cell_keep q10 hb
      replace q11 := cell_keep q11 hb
      replace r0 := cell_keep r0 hb
      replace r1 := cell_keep r1 hb
      replace r2 := cell_keep r2 hb
      replace r3 := cell_keep r3 hb
      replace r4 := cell_keep r4 hb
      replace r5 := cell_keep r5 hb
      replace r6 := cell_keep r6 hb
      replace r7 := cell_keep r7 hb
      replace r8 := cell_keep r8 hb
      replace r9 := cell_keep r9 hb
      replace r10 := cell_keep r10 hb
      replace r11 := cell_keep r11 hb
      replace hB := below_next hB hB.size hb
      clear hb
      clear KC2 r0 r1 r2 r3 r4 r5 r6 r7 r8 r9 r10 r11
      go_wp2_with fail
      have Q1 := hide (fun d os => Calls.regrown_of (w := w2) (shown5_any (grow (redrawn w2 d) os)))
      have Q2 := hide (fun d os => Calls.regrown_of (w := w2) (KC.out (grow (redrawn w2 d) os)))
      have Q3 := hide (fun d os => Calls.regrown_of (w := w2) (KR.out (grow (redrawn w2 d) os)))
      clear KC KR
      have q0 := cell_regrown q0
      have q1 := cell_regrown q1
      have q2 := cell_regrown q2
      have q3 := cell_regrown q3
      have q4 := cell_regrown q4
      have q5 := cell_regrown q5
      have q6 := cell_regrown q6
      have q7 := cell_regrown q7
      have q8 := cell_regrown q8
      have q9 := cell_regrown q9
      have q10 := cell_regrown q10
      have q11 := cell_regrown q11
      refine wp_region_quiet_below (by kernel_rfl) (by kernel_rfl) ?_
      repeat (quiet_step (first | (go_at_call 12; exact Q1.out _ _) | (go_at_call 8; exact Q2.out _ _) | (go_at_call 9; exact Q3.out _ _)))
      refine wpQuiet_nil ?_
      intro _ hw'
      obtain ⟨⟨dq, osq⟩, hw''⟩ := hw'
      subst hw''
      go_wp2
      go_ret
      exact ⟨rfl, hB.trans ((below_regrown w2 dq osq).mono hB.size)⟩
  · have h2 : (e == 0) = false := by simpa using h0
    clear HO HO2 KC2 KR2
    go_enter Try.func7, Try.ntmps7
    go_wp2_with fail
    refine (KC.out _).mono ?_
    rintro x w1 ⟨rfl, hb⟩
    replace q0 := cell_keep q0 hb
    replace q1 := cell_keep q1 hb
    replace q2 := cell_keep q2 hb
    replace q3 := cell_keep q3 hb
    replace q4 := cell_keep q4 hb
    replace q5 := cell_keep q5 hb
    replace q6 := cell_keep q6 hb
    replace q7 := cell_keep q7 hb
    replace q8 := cell_keep q8 hb
    replace q9 := cell_keep q9 hb
    replace q10 := cell_keep q10 hb
    replace q11 := cell_keep q11 hb
    replace r0 := cell_keep r0 hb
    replace r1 := cell_keep r1 hb
    replace r2 := cell_keep r2 hb
    replace r3 := cell_keep r3 hb
    replace r4 := cell_keep r4 hb
    replace r5 := cell_keep r5 hb
    replace r6 := cell_keep r6 hb
    replace r7 := cell_keep r7 hb
    replace r8 := cell_keep r8 hb
    replace r9 := cell_keep r9 hb
    replace r10 := cell_keep r10 hb
    replace r11 := cell_keep r11 hb
    replace hB := below_next hB hB.size hb
    clear hb
    clear r0 r1 r2 r3 r4 r5 r6 r7 r8 r9 r10 r11
    go_wp2_with fail
    have Q1 := hide (fun d os => Calls.regrown_of (w := w1) (shown5_any (grow (redrawn w1 d) os)))
    have Q2 := hide (fun d os => Calls.regrown_of (w := w1) (KC.out (grow (redrawn w1 d) os)))
    have Q3 := hide (fun d os => Calls.regrown_of (w := w1) (KR.out (grow (redrawn w1 d) os)))
    clear KC KR
    have q0 := cell_regrown q0
    have q1 := cell_regrown q1
    have q2 := cell_regrown q2
    have q3 := cell_regrown q3
    have q4 := cell_regrown q4
    have q5 := cell_regrown q5
    have q6 := cell_regrown q6
    have q7 := cell_regrown q7
    have q8 := cell_regrown q8
    have q9 := cell_regrown q9
    have q10 := cell_regrown q10
    have q11 := cell_regrown q11
    refine wp_region_quiet_below (by kernel_rfl) (by kernel_rfl) ?_
    repeat (quiet_step (first | (go_at_call 12; exact Q1.out _ _) | (go_at_call 8; exact Q2.out _ _) | (go_at_call 9; exact Q3.out _ _)))
    refine wpQuiet_nil ?_
    intro _ hw'
    obtain ⟨⟨dq, osq⟩, hw''⟩ := hw'
    subst hw''
    go_wp2
    go_ret
    exact ⟨rfl, hB.trans ((below_regrown w1 dq osq).mono hB.size)⟩

end Go.Proofs.Ytcnmgojllgepbaa
