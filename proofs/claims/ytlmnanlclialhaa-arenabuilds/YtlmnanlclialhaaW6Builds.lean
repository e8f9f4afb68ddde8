/- The walk of ArenaBuilds. -/
import Derived.Test.YtlmnanlclialhaaW6Base
import Derived.Test.YtlmnanlclialhaaArBr
import Derived.Test.YtlmnanlclialhaaW6Its
import Derived.Lib.QuietBelow
import Derived.Deep.QuietTactic
namespace Go.Proofs.Ytlmnanlclialhaa
open Go.RowKit Go.Sort
set_option linter.unusedVariables false

theorem same6_true (A B A2 B2 : Option Addr) (c d c2 d2 : Nat) (ws : List Int) (bs bs2 : List Bt) (w : World) (m : MemOk w A ws B bs) (m2 : MemOk w A2 ws B2 bs2) (hb : boxes bs = boxes bs2) :
    Calls Try.prog 25 #[.agg #[.slice A ws.length c, .slice B bs.length d], .agg #[.slice A2 ws.length c2, .slice B2 bs2.length d2]] w (BoolPost true w) := by
  have := sameM_any A B A2 B2 c d c2 d2 ws ws bs bs2 w m m2
  rwa [decide_eq_true rfl, decide_eq_true hb] at this
theorem size_few {x0 x1 x2 x3 x4 x5 x6 x7 : Int} {b : Bool} {x9 x10 x11 : Int} (ok : CfOk x0 x1 x2 x3 x4 x5 x6 x7 b x9 x10 x11) : cntV (sizeV x1 (bkV x3 x4 x5) x0) ≤ 1000 := by
  have h1 := bk_le ok.h3 ok.h4 ok.h5
  have h2 := mul_le (a := x1) (b := bkV x3 x4 x5) (p := 4) (q := 40) (by have := ok.h1; omega) (by omega)
  have h0 := ok.h0
  unfold cntV sizeV
  split <;> omega
set_option maxRecDepth 100000 in
set_option maxHeartbeats 4000000 in
theorem walkBuildsOk (x0 x1 x2 x3 x4 x5 x6 x7 : Int) (b : Bool) (x9 x10 x11 : Int)  (hok : CfOk x0 x1 x2 x3 x4 x5 x6 x7 b x9 x10 x11) (w : World) : Calls Try.prog 4 #[.agg #[.int .i64 x0, .int .i64 x1, .int .i64 x2, .int .i64 x3, .int .i64 x4, .int .i64 x5, .int .i64 x6, .int .i64 x7, .bool b, .int .i64 x9, .int .i64 x10, .int .i64 x11]] w (BoolPost true w) := by
  have hB : Below w.heap.size w (w.alloc (.cells #[.int .i64 x0, .int .i64 x1, .int .i64 x2, .int .i64 x3, .int .i64 x4, .int .i64 x5, .int .i64 x6, .int .i64 x7, .bool b, .int .i64 x9, .int .i64 x10, .int .i64 x11] 23)) := (Below.refl _ w).alloc (Nat.le_refl _) _
  have q0 : (w.alloc (.cells #[.int .i64 x0, .int .i64 x1, .int .i64 x2, .int .i64 x3, .int .i64 x4, .int .i64 x5, .int .i64 x6, .int .i64 x7, .bool b, .int .i64 x9, .int .i64 x10, .int .i64 x11] 23)).cell? ⟨w.heap.size, 0, none⟩ = some (.int .i64 x0) := by simp [go_sem]
  have q1 : (w.alloc (.cells #[.int .i64 x0, .int .i64 x1, .int .i64 x2, .int .i64 x3, .int .i64 x4, .int .i64 x5, .int .i64 x6, .int .i64 x7, .bool b, .int .i64 x9, .int .i64 x10, .int .i64 x11] 23)).cell? ⟨w.heap.size, 1, none⟩ = some (.int .i64 x1) := by simp [go_sem]
  have q2 : (w.alloc (.cells #[.int .i64 x0, .int .i64 x1, .int .i64 x2, .int .i64 x3, .int .i64 x4, .int .i64 x5, .int .i64 x6, .int .i64 x7, .bool b, .int .i64 x9, .int .i64 x10, .int .i64 x11] 23)).cell? ⟨w.heap.size, 2, none⟩ = some (.int .i64 x2) := by simp [go_sem]
  have q3 : (w.alloc (.cells #[.int .i64 x0, .int .i64 x1, .int .i64 x2, .int .i64 x3, .int .i64 x4, .int .i64 x5, .int .i64 x6, .int .i64 x7, .bool b, .int .i64 x9, .int .i64 x10, .int .i64 x11] 23)).cell? ⟨w.heap.size, 3, none⟩ = some (.int .i64 x3) := by simp [go_sem]
  have q4 : (w.alloc (.cells #[.int .i64 x0, .int .i64 x1, .int .i64 x2, .int .i64 x3, .int .i64 x4, .int .i64 x5, .int .i64 x6, .int .i64 x7, .bool b, .int .i64 x9, .int .i64 x10, .int .i64 x11] 23)).cell? ⟨w.heap.size, 4, none⟩ = some (.int .i64 x4) := by simp [go_sem]
  have q5 : (w.alloc (.cells #[.int .i64 x0, .int .i64 x1, .int .i64 x2, .int .i64 x3, .int .i64 x4, .int .i64 x5, .int .i64 x6, .int .i64 x7, .bool b, .int .i64 x9, .int .i64 x10, .int .i64 x11] 23)).cell? ⟨w.heap.size, 5, none⟩ = some (.int .i64 x5) := by simp [go_sem]
  have q6 : (w.alloc (.cells #[.int .i64 x0, .int .i64 x1, .int .i64 x2, .int .i64 x3, .int .i64 x4, .int .i64 x5, .int .i64 x6, .int .i64 x7, .bool b, .int .i64 x9, .int .i64 x10, .int .i64 x11] 23)).cell? ⟨w.heap.size, 6, none⟩ = some (.int .i64 x6) := by simp [go_sem]
  have q7 : (w.alloc (.cells #[.int .i64 x0, .int .i64 x1, .int .i64 x2, .int .i64 x3, .int .i64 x4, .int .i64 x5, .int .i64 x6, .int .i64 x7, .bool b, .int .i64 x9, .int .i64 x10, .int .i64 x11] 23)).cell? ⟨w.heap.size, 7, none⟩ = some (.int .i64 x7) := by simp [go_sem]
  have q8 : (w.alloc (.cells #[.int .i64 x0, .int .i64 x1, .int .i64 x2, .int .i64 x3, .int .i64 x4, .int .i64 x5, .int .i64 x6, .int .i64 x7, .bool b, .int .i64 x9, .int .i64 x10, .int .i64 x11] 23)).cell? ⟨w.heap.size, 8, none⟩ = some (.bool b) := by simp [go_sem]
  have q9 : (w.alloc (.cells #[.int .i64 x0, .int .i64 x1, .int .i64 x2, .int .i64 x3, .int .i64 x4, .int .i64 x5, .int .i64 x6, .int .i64 x7, .bool b, .int .i64 x9, .int .i64 x10, .int .i64 x11] 23)).cell? ⟨w.heap.size, 9, none⟩ = some (.int .i64 x9) := by simp [go_sem]
  have q10 : (w.alloc (.cells #[.int .i64 x0, .int .i64 x1, .int .i64 x2, .int .i64 x3, .int .i64 x4, .int .i64 x5, .int .i64 x6, .int .i64 x7, .bool b, .int .i64 x9, .int .i64 x10, .int .i64 x11] 23)).cell? ⟨w.heap.size, 10, none⟩ = some (.int .i64 x10) := by simp [go_sem]
  have q11 : (w.alloc (.cells #[.int .i64 x0, .int .i64 x1, .int .i64 x2, .int .i64 x3, .int .i64 x4, .int .i64 x5, .int .i64 x6, .int .i64 x7, .bool b, .int .i64 x9, .int .i64 x10, .int .i64 x11] 23)).cell? ⟨w.heap.size, 11, none⟩ = some (.int .i64 x11) := by simp [go_sem]
  have KM := hide (may_yes x0 x1 x2 x3 x4 x5 x6 x7 b x9 x10 x11 hok)
  have KB := hide (build_any x0 x1 x2 x3 x4 x5 x6 x7 b x9 x10 x11 hok)
  have KR := hide (rbuild_any x0 x1 x2 x3 x4 x5 x6 x7 b x9 x10 x11 hok)
  have HL := bdW_length (List.replicate (cntV (sizeV x1 (bkV x3 x4 x5) x0)) 0) x1 (bkV x3 x4 x5) x11 x1.toNat
  rw [List.length_replicate] at HL
  have hn0 : cntV (sizeV x1 (bkV x3 x4 x5) x0) ≤ 1000 := size_few hok
  have hb0 : cntV x0 ≤ 50 := by have := hok.h0; unfold cntV; split <;> omega
  obtain ⟨ws, hws⟩ : ∃ l, bdW (List.replicate (cntV (sizeV x1 (bkV x3 x4 x5) x0)) 0) x1 (bkV x3 x4 x5) x11 x1.toNat = l := ⟨_, rfl⟩
  rw [hws] at KB KR HL
  rw [← HL] at hn0
  clear hws HL hok
  go_enter Try.func4, Try.ntmps4
  go_wp2_with fail
  refine (KM.out _).mono ?_
  rintro x w1 ⟨rfl, hb⟩
  replace q0 := cell_keep q0 hb
  replace q1 := cell_keep q1 hb
  replace q2 := cell_keep q2 hb
  replace q3 := cell_keep q3 hb
  replace q4 := cell_keep q4 hb
  replace q5 := cell_keep q5 hb
  replace q6 := cell_keep q6 hb
  replace q7 := cell_keep q7 hb
  replace q8 := cell_keep q8 hb
  replace q9 := cell_keep q9 hb
  replace q10 := cell_keep q10 hb
  replace q11 := cell_keep q11 hb
  replace hB := below_next hB hB.size hb
  clear hb
  go_wp2_with fail
  refine (shown6_any _).mono ?_
  rintro x w2 ⟨rfl, hb⟩
  replace q0 := cell_keep q0 hb
  replace q1 := cell_keep q1 hb
  replace q2 := cell_keep q2 hb
  replace q3 := cell_keep q3 hb
  replace q4 := cell_keep q4 hb
  replace q5 := cell_keep q5 hb
  replace q6 := cell_keep q6 hb
  replace q7 := cell_keep q7 hb
  replace q8 := cell_keep q8 hb
  replace q9 := cell_keep q9 hb
  replace q10 := cell_keep q10 hb
  replace q11 := cell_keep q11 hb
  replace hB := below_next hB hB.size hb
  clear hb
  go_wp2_with fail
  refine (KB.out _).mono ?_
  rintro x w3 ⟨A, c, B, d, bs, rfl, hbx, mem, _, _, hb⟩
  replace q0 := cell_keep q0 hb
  replace q1 := cell_keep q1 hb
  replace q2 := cell_keep q2 hb
  replace q3 := cell_keep q3 hb
  replace q4 := cell_keep q4 hb
  replace q5 := cell_keep q5 hb
  replace q6 := cell_keep q6 hb
  replace q7 := cell_keep q7 hb
  replace q8 := cell_keep q8 hb
  replace q9 := cell_keep q9 hb
  replace q10 := cell_keep q10 hb
  replace q11 := cell_keep q11 hb
  replace hB := below_next hB hB.size hb
  clear hb
  have hb : Below w3.heap.size w3 (w3.alloc (.cells #[.slice A ws.length c, .slice B bs.length d] 39)) := (Below.refl _ _).alloc (Nat.le_refl _) _
  have m0 : (w3.alloc (.cells #[.slice A ws.length c, .slice B bs.length d] 39)).cell? ⟨w3.heap.size, 0, none⟩ = some (.slice A ws.length c) := by simp [go_sem]
  have m1 : (w3.alloc (.cells #[.slice A ws.length c, .slice B bs.length d] 39)).cell? ⟨w3.heap.size, 1, none⟩ = some (.slice B bs.length d) := by simp [go_sem]
  replace mem := mem.later hb
  replace q0 := cell_keep q0 hb
  replace q1 := cell_keep q1 hb
  replace q2 := cell_keep q2 hb
  replace q3 := cell_keep q3 hb
  replace q4 := cell_keep q4 hb
  replace q5 := cell_keep q5 hb
  replace q6 := cell_keep q6 hb
  replace q7 := cell_keep q7 hb
  replace q8 := cell_keep q8 hb
  replace q9 := cell_keep q9 hb
  replace q10 := cell_keep q10 hb
  replace q11 := cell_keep q11 hb
  replace hB := below_next hB hB.size hb
  clear hb
  have hbl : bs.length ≤ 50 := by rw [← boxes_length, hbx, List.length_replicate]; exact hb0
  have l1 : (ws.length : Int) ≤ 1000 := by omega
  have l2 : (bs.length : Int) ≤ 50 := by omega
  have KI := hide (fun (v : World) m => its6_any A B c d ws bs v m (emp_of hbx) hbl)
  have HBX := hide hbx
  have HM := hide mem
  go_wp2_with fail
  generalize (w3.alloc (.cells #[.slice A ws.length c, .slice B bs.length d] 39)) = w4 at *
  have hd : Below w4.heap.size w4 w4.drew := (Below.refl _ _).drew
  replace HM := hide (HM.out.later hd)
  have H0 := keep12 (⟨q0, q1, q2, q3, q4, q5, q6, q7, q8, q9, q10, q11⟩ : w4.cell? ⟨w.heap.size, 0, none⟩ = some (.int .i64 x0) ∧ w4.cell? ⟨w.heap.size, 1, none⟩ = some (.int .i64 x1) ∧ w4.cell? ⟨w.heap.size, 2, none⟩ = some (.int .i64 x2) ∧ w4.cell? ⟨w.heap.size, 3, none⟩ = some (.int .i64 x3) ∧ w4.cell? ⟨w.heap.size, 4, none⟩ = some (.int .i64 x4) ∧ w4.cell? ⟨w.heap.size, 5, none⟩ = some (.int .i64 x5) ∧ w4.cell? ⟨w.heap.size, 6, none⟩ = some (.int .i64 x6) ∧ w4.cell? ⟨w.heap.size, 7, none⟩ = some (.int .i64 x7) ∧ w4.cell? ⟨w.heap.size, 8, none⟩ = some (.bool b) ∧ w4.cell? ⟨w.heap.size, 9, none⟩ = some (.int .i64 x9) ∧ w4.cell? ⟨w.heap.size, 10, none⟩ = some (.int .i64 x10) ∧ w4.cell? ⟨w.heap.size, 11, none⟩ = some (.int .i64 x11)) hd
  replace m0 := cell_keep m0 hd
  replace m1 := cell_keep m1 hd
  replace hB := hB.drew
  clear hbx mem hbl hb0 hn0 hd KM KB q0 q1 q2 q3 q4 q5 q6 q7 q8 q9 q10 q11
  go_region_held3 (fun w' => (w'.cell? ⟨w.heap.size, 0, none⟩ = some (.int .i64 x0) ∧ w'.cell? ⟨w.heap.size, 1, none⟩ = some (.int .i64 x1) ∧ w'.cell? ⟨w.heap.size, 2, none⟩ = some (.int .i64 x2) ∧ w'.cell? ⟨w.heap.size, 3, none⟩ = some (.int .i64 x3) ∧ w'.cell? ⟨w.heap.size, 4, none⟩ = some (.int .i64 x4) ∧ w'.cell? ⟨w.heap.size, 5, none⟩ = some (.int .i64 x5) ∧ w'.cell? ⟨w.heap.size, 6, none⟩ = some (.int .i64 x6) ∧ w'.cell? ⟨w.heap.size, 7, none⟩ = some (.int .i64 x7) ∧ w'.cell? ⟨w.heap.size, 8, none⟩ = some (.bool b) ∧ w'.cell? ⟨w.heap.size, 9, none⟩ = some (.int .i64 x9) ∧ w'.cell? ⟨w.heap.size, 10, none⟩ = some (.int .i64 x10) ∧ w'.cell? ⟨w.heap.size, 11, none⟩ = some (.int .i64 x11)) ∧ w'.cell? ⟨w3.heap.size, 0, none⟩ = some (.slice A ws.length c) ∧ w'.cell? ⟨w3.heap.size, 1, none⟩ = some (.slice B bs.length d))
    (exact ⟨H0, m0, m1⟩)
    (first
      | (go_at_call 26; refine (KI.out _ HM.out).mono ?_; rintro x v ⟨A4, c4, B4, d4, bs4, rfl, hx4, r4, hv⟩; have X4 := hide hx4; have R4 := hide r4; clear hx4 r4; replace H0 := keep12 H0 hv; replace m0 := cell_keep m0 hv; replace m1 := cell_keep m1 hv; replace hB := below_next hB hB.size hv; clear hv)
      | (go_at_call 27; refine (KR.out _).mono ?_; rintro x v ⟨A5, c5, B5, d5, bs5, rfl, hx5, r5, _, _, hv⟩; have X5 := hide hx5; have R5 := hide r5; clear hx5 r5; replace R4 := hide (R4.out.later hv); replace H0 := keep12 H0 hv; replace m0 := cell_keep m0 hv; replace m1 := cell_keep m1 hv; replace hB := below_next hB hB.size hv; clear hv)
      | (go_at_call 25; refine (same6_true A4 B4 A5 B5 c4 d4 c5 d5 ws bs4 bs5 _ R4.out R5.out (X4.out.trans (HBX.out.trans X5.out.symm))).mono ?_; rintro x v ⟨rfl, hv⟩; replace H0 := keep12 H0 hv; replace m0 := cell_keep m0 hv; replace m1 := cell_keep m1 hv; replace hB := below_next hB hB.size hv; clear hv))
  go_wp2
  go_ret
  exact ⟨rfl, hB⟩
set_option maxRecDepth 100000 in
set_option maxHeartbeats 4000000 in
theorem walkBuildsNo (x0 x1 x2 x3 x4 x5 x6 x7 : Int) (b : Bool) (x9 x10 x11 : Int)  (hok : ¬ CfOk x0 x1 x2 x3 x4 x5 x6 x7 b x9 x10 x11) (w : World) : Calls Try.prog 4 #[.agg #[.int .i64 x0, .int .i64 x1, .int .i64 x2, .int .i64 x3, .int .i64 x4, .int .i64 x5, .int .i64 x6, .int .i64 x7, .bool b, .int .i64 x9, .int .i64 x10, .int .i64 x11]] w (BoolPost true w) := by
  have hB : Below w.heap.size w (w.alloc (.cells #[.int .i64 x0, .int .i64 x1, .int .i64 x2, .int .i64 x3, .int .i64 x4, .int .i64 x5, .int .i64 x6, .int .i64 x7, .bool b, .int .i64 x9, .int .i64 x10, .int .i64 x11] 23)) := (Below.refl _ w).alloc (Nat.le_refl _) _
  have q0 : (w.alloc (.cells #[.int .i64 x0, .int .i64 x1, .int .i64 x2, .int .i64 x3, .int .i64 x4, .int .i64 x5, .int .i64 x6, .int .i64 x7, .bool b, .int .i64 x9, .int .i64 x10, .int .i64 x11] 23)).cell? ⟨w.heap.size, 0, none⟩ = some (.int .i64 x0) := by simp [go_sem]
  have q1 : (w.alloc (.cells #[.int .i64 x0, .int .i64 x1, .int .i64 x2, .int .i64 x3, .int .i64 x4, .int .i64 x5, .int .i64 x6, .int .i64 x7, .bool b, .int .i64 x9, .int .i64 x10, .int .i64 x11] 23)).cell? ⟨w.heap.size, 1, none⟩ = some (.int .i64 x1) := by simp [go_sem]
  have q2 : (w.alloc (.cells #[.int .i64 x0, .int .i64 x1, .int .i64 x2, .int .i64 x3, .int .i64 x4, .int .i64 x5, .int .i64 x6, .int .i64 x7, .bool b, .int .i64 x9, .int .i64 x10, .int .i64 x11] 23)).cell? ⟨w.heap.size, 2, none⟩ = some (.int .i64 x2) := by simp [go_sem]
  have q3 : (w.alloc (.cells #[.int .i64 x0, .int .i64 x1, .int .i64 x2, .int .i64 x3, .int .i64 x4, .int .i64 x5, .int .i64 x6, .int .i64 x7, .bool b, .int .i64 x9, .int .i64 x10, .int .i64 x11] 23)).cell? ⟨w.heap.size, 3, none⟩ = some (.int .i64 x3) := by simp [go_sem]
  have q4 : (w.alloc (.cells #[.int .i64 x0, .int .i64 x1, .int .i64 x2, .int .i64 x3, .int .i64 x4, .int .i64 x5, .int .i64 x6, .int .i64 x7, .bool b, .int .i64 x9, .int .i64 x10, .int .i64 x11] 23)).cell? ⟨w.heap.size, 4, none⟩ = some (.int .i64 x4) := by simp [go_sem]
  have q5 : (w.alloc (.cells #[.int .i64 x0, .int .i64 x1, .int .i64 x2, .int .i64 x3, .int .i64 x4, .int .i64 x5, .int .i64 x6, .int .i64 x7, .bool b, .int .i64 x9, .int .i64 x10, .int .i64 x11] 23)).cell? ⟨w.heap.size, 5, none⟩ = some (.int .i64 x5) := by simp [go_sem]
  have q6 : (w.alloc (.cells #[.int .i64 x0, .int .i64 x1, .int .i64 x2, .int .i64 x3, .int .i64 x4, .int .i64 x5, .int .i64 x6, .int .i64 x7, .bool b, .int .i64 x9, .int .i64 x10, .int .i64 x11] 23)).cell? ⟨w.heap.size, 6, none⟩ = some (.int .i64 x6) := by simp [go_sem]
  have q7 : (w.alloc (.cells #[.int .i64 x0, .int .i64 x1, .int .i64 x2, .int .i64 x3, .int .i64 x4, .int .i64 x5, .int .i64 x6, .int .i64 x7, .bool b, .int .i64 x9, .int .i64 x10, .int .i64 x11] 23)).cell? ⟨w.heap.size, 7, none⟩ = some (.int .i64 x7) := by simp [go_sem]
  have q8 : (w.alloc (.cells #[.int .i64 x0, .int .i64 x1, .int .i64 x2, .int .i64 x3, .int .i64 x4, .int .i64 x5, .int .i64 x6, .int .i64 x7, .bool b, .int .i64 x9, .int .i64 x10, .int .i64 x11] 23)).cell? ⟨w.heap.size, 8, none⟩ = some (.bool b) := by simp [go_sem]
  have q9 : (w.alloc (.cells #[.int .i64 x0, .int .i64 x1, .int .i64 x2, .int .i64 x3, .int .i64 x4, .int .i64 x5, .int .i64 x6, .int .i64 x7, .bool b, .int .i64 x9, .int .i64 x10, .int .i64 x11] 23)).cell? ⟨w.heap.size, 9, none⟩ = some (.int .i64 x9) := by simp [go_sem]
  have q10 : (w.alloc (.cells #[.int .i64 x0, .int .i64 x1, .int .i64 x2, .int .i64 x3, .int .i64 x4, .int .i64 x5, .int .i64 x6, .int .i64 x7, .bool b, .int .i64 x9, .int .i64 x10, .int .i64 x11] 23)).cell? ⟨w.heap.size, 10, none⟩ = some (.int .i64 x10) := by simp [go_sem]
  have q11 : (w.alloc (.cells #[.int .i64 x0, .int .i64 x1, .int .i64 x2, .int .i64 x3, .int .i64 x4, .int .i64 x5, .int .i64 x6, .int .i64 x7, .bool b, .int .i64 x9, .int .i64 x10, .int .i64 x11] 23)).cell? ⟨w.heap.size, 11, none⟩ = some (.int .i64 x11) := by simp [go_sem]
  have KM := hide (may_no x0 x1 x2 x3 x4 x5 x6 x7 b x9 x10 x11 hok)
  clear hok
  go_enter Try.func4, Try.ntmps4
  go_wp2_with fail
  refine (KM.out _).mono ?_
  rintro x w1 ⟨rfl, hb⟩
  replace q0 := cell_keep q0 hb
  replace q1 := cell_keep q1 hb
  replace q2 := cell_keep q2 hb
  replace q3 := cell_keep q3 hb
  replace q4 := cell_keep q4 hb
  replace q5 := cell_keep q5 hb
  replace q6 := cell_keep q6 hb
  replace q7 := cell_keep q7 hb
  replace q8 := cell_keep q8 hb
  replace q9 := cell_keep q9 hb
  replace q10 := cell_keep q10 hb
  replace q11 := cell_keep q11 hb
  replace hB := below_next hB hB.size hb
  clear hb
  go_wp2_with fail
  refine (shown6_any _).mono ?_
  rintro x w2 ⟨rfl, hb⟩
  replace q0 := cell_keep q0 hb
  replace q1 := cell_keep q1 hb
  replace q2 := cell_keep q2 hb
  replace q3 := cell_keep q3 hb
  replace q4 := cell_keep q4 hb
  replace q5 := cell_keep q5 hb
  replace q6 := cell_keep q6 hb
  replace q7 := cell_keep q7 hb
  replace q8 := cell_keep q8 hb
  replace q9 := cell_keep q9 hb
  replace q10 := cell_keep q10 hb
  replace q11 := cell_keep q11 hb
  replace hB := below_next hB hB.size hb
  clear hb
  go_wp2
  go_ret
  exact ⟨rfl, hB⟩
theorem walkBuilds (x0 x1 x2 x3 x4 x5 x6 x7 : Int) (b : Bool) (x9 x10 x11 : Int)  (w : World) : Calls Try.prog 4 #[.agg #[.int .i64 x0, .int .i64 x1, .int .i64 x2, .int .i64 x3, .int .i64 x4, .int .i64 x5, .int .i64 x6, .int .i64 x7, .bool b, .int .i64 x9, .int .i64 x10, .int .i64 x11]] w (BoolPost true w) := by
  by_cases hok : CfOk x0 x1 x2 x3 x4 x5 x6 x7 b x9 x10 x11
  · exact walkBuildsOk x0 x1 x2 x3 x4 x5 x6 x7 b x9 x10 x11  hok w
  · exact walkBuildsNo x0 x1 x2 x3 x4 x5 x6 x7 b x9 x10 x11  hok w

end Go.Proofs.Ytlmnanlclialhaa
