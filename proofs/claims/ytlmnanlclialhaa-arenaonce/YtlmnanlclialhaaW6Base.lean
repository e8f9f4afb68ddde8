/- The law's 'may' and 'shown' for layer 6. -/
import Derived.Test.YtlmnanlclialhaaArBp
import Derived.Lib.QuietBelow
import Derived.Deep.QuietTactic
namespace Go.Proofs.Ytlmnanlclialhaa
open Go.RowKit Go.Sort
set_option linter.unusedVariables false

set_option maxRecDepth 100000 in
set_option maxHeartbeats 4000000 in
theorem may_yes (x0 x1 x2 x3 x4 x5 x6 x7 : Int) (b : Bool) (x9 x10 x11 : Int) (ok : CfOk x0 x1 x2 x3 x4 x5 x6 x7 b x9 x10 x11) (w : World) : Calls Try.prog 8 #[.agg #[.int .i64 x0, .int .i64 x1, .int .i64 x2, .int .i64 x3, .int .i64 x4, .int .i64 x5, .int .i64 x6, .int .i64 x7, .bool b, .int .i64 x9, .int .i64 x10, .int .i64 x11]] w (BoolPost true w) := by
  have hB : Below w.heap.size w (w.alloc (.cells #[.int .i64 x0, .int .i64 x1, .int .i64 x2, .int .i64 x3, .int .i64 x4, .int .i64 x5, .int .i64 x6, .int .i64 x7, .bool b, .int .i64 x9, .int .i64 x10, .int .i64 x11] 23)) := (Below.refl _ w).alloc (Nat.le_refl _) _
  have K := hide (rcheck_any x0 x1 x2 x3 x4 x5 x6 x7 b x9 x10 x11)
  rw [(ck_ok x0 x1 x2 x3 x4 x5 x6 x7 b x9 x10 x11).2 ok] at K
  clear ok
  go_enter Try.func8, Try.ntmps8
  go_wp2_with fail
  refine (K.out _).mono ?_
  rintro x w1 ⟨rfl, hb⟩
  replace hB := below_next hB hB.size hb
  go_wp2
  go_ret
  exact ⟨rfl, hB⟩
set_option maxRecDepth 100000 in
set_option maxHeartbeats 4000000 in
theorem may_no (x0 x1 x2 x3 x4 x5 x6 x7 : Int) (b : Bool) (x9 x10 x11 : Int) (h : ¬ CfOk x0 x1 x2 x3 x4 x5 x6 x7 b x9 x10 x11) (w : World) : Calls Try.prog 8 #[.agg #[.int .i64 x0, .int .i64 x1, .int .i64 x2, .int .i64 x3, .int .i64 x4, .int .i64 x5, .int .i64 x6, .int .i64 x7, .bool b, .int .i64 x9, .int .i64 x10, .int .i64 x11]] w (BoolPost false w) := by
  have hB : Below w.heap.size w (w.alloc (.cells #[.int .i64 x0, .int .i64 x1, .int .i64 x2, .int .i64 x3, .int .i64 x4, .int .i64 x5, .int .i64 x6, .int .i64 x7, .bool b, .int .i64 x9, .int .i64 x10, .int .i64 x11] 23)) := (Below.refl _ w).alloc (Nat.le_refl _) _
  have K := hide (rcheck_any x0 x1 x2 x3 x4 x5 x6 x7 b x9 x10 x11)
  have hne : ¬ ckV x0 x1 x2 x3 x4 x5 x6 x7 b x9 x10 x11 = 0 := fun e => h ((ck_ok x0 x1 x2 x3 x4 x5 x6 x7 b x9 x10 x11).1 e)
  obtain ⟨e, he⟩ : ∃ e, ckV x0 x1 x2 x3 x4 x5 x6 x7 b x9 x10 x11 = e := ⟨_, rfl⟩
  rw [he] at K hne
  have h1 : (e == 0) = false := by simpa using hne
  clear h he hne
  go_enter Try.func8, Try.ntmps8
  go_wp2_with fail
  refine (K.out _).mono ?_
  rintro x w1 ⟨rfl, hb⟩
  replace hB := below_next hB hB.size hb
  go_wp2
  go_ret
  exact ⟨rfl, hB⟩
theorem shownB_any (w : World) : Calls Try.prog 24 #[.agg #[.int .i64 2, .int .i64 2, .int .i64 2, .int .i64 1, .int .i64 1, .int .i64 2, .int .i64 0, .int .i64 0, .bool false, .int .i64 0, .int .i64 0, .int .i64 5]] w (fun x w' => ∃ b off B c d, x = .returned (.agg #[.slice (some ⟨b, off, none⟩) 12 c, .slice B 2 d]) ∧ w'.cell? ⟨b, off + 4, none⟩ = some (.int .i64 5) ∧ w'.cell? ⟨b, off + 5, none⟩ = some (.int .i64 0) ∧ Below w.heap.size w w') := by
  have ok : CfOk 2 2 2 1 1 2 0 0 false 0 0 5 := (ck_ok 2 2 2 1 1 2 0 0 false 0 0 5).1 (by decide)
  have K := build_any 2 2 2 1 1 2 0 0 false 0 0 5 ok w
  rw [show bdW (List.replicate (cntV (sizeV 2 (bkV 1 1 2) 2)) 0) 2 (bkV 1 1 2) 5 (2 : Int).toNat = [5, 0, 0, 0, 5, 0, 0, 0, 0, 0, 0, 0] by decide, show List.replicate (cntV 2) ([] : List E3) = [[], []] by decide] at K
  refine K.mono ?_
  rintro x w' ⟨A, c, B, d, bs, rfl, hbx, mem, _, _, hb⟩
  have hl : bs.length = 2 := by rw [← boxes_length, hbx]; rfl
  obtain ⟨b, off, e, hb', hc⟩ := mem.words.2 (by decide)
  subst e
  exact ⟨b, off, B, c, d, by rw [hl]; rfl, hc 4 _ rfl, hc 5 _ rfl, hb⟩
set_option maxRecDepth 100000 in
set_option maxHeartbeats 4000000 in
theorem shown6_any (w : World) : Calls Try.prog 9 #[] w (BoolPost true w) := by
  have ok : CfOk 2 2 2 1 1 2 0 0 false 0 0 5 := (ck_ok 2 2 2 1 1 2 0 0 false 0 0 5).1 (by decide)
  have e1 : bkV 1 1 2 = 4 := by decide
  have e2 : ndV 1 = 1 := by decide
  have hB : Below w.heap.size w (w.alloc (.cells #[.int .i64 2, .int .i64 2, .int .i64 2, .int .i64 1, .int .i64 1, .int .i64 2, .int .i64 0, .int .i64 0, .bool false, .int .i64 0, .int .i64 0, .int .i64 5] 23)) := (Below.refl _ w).alloc (Nat.le_refl _) _
  have q0 : (w.alloc (.cells #[.int .i64 2, .int .i64 2, .int .i64 2, .int .i64 1, .int .i64 1, .int .i64 2, .int .i64 0, .int .i64 0, .bool false, .int .i64 0, .int .i64 0, .int .i64 5] 23)).cell? ⟨w.heap.size, 0, none⟩ = some (.int .i64 2) := by simp [go_sem]
  have q1 : (w.alloc (.cells #[.int .i64 2, .int .i64 2, .int .i64 2, .int .i64 1, .int .i64 1, .int .i64 2, .int .i64 0, .int .i64 0, .bool false, .int .i64 0, .int .i64 0, .int .i64 5] 23)).cell? ⟨w.heap.size, 1, none⟩ = some (.int .i64 2) := by simp [go_sem]
  have q2 : (w.alloc (.cells #[.int .i64 2, .int .i64 2, .int .i64 2, .int .i64 1, .int .i64 1, .int .i64 2, .int .i64 0, .int .i64 0, .bool false, .int .i64 0, .int .i64 0, .int .i64 5] 23)).cell? ⟨w.heap.size, 2, none⟩ = some (.int .i64 2) := by simp [go_sem]
  have q3 : (w.alloc (.cells #[.int .i64 2, .int .i64 2, .int .i64 2, .int .i64 1, .int .i64 1, .int .i64 2, .int .i64 0, .int .i64 0, .bool false, .int .i64 0, .int .i64 0, .int .i64 5] 23)).cell? ⟨w.heap.size, 3, none⟩ = some (.int .i64 1) := by simp [go_sem]
  have q4 : (w.alloc (.cells #[.int .i64 2, .int .i64 2, .int .i64 2, .int .i64 1, .int .i64 1, .int .i64 2, .int .i64 0, .int .i64 0, .bool false, .int .i64 0, .int .i64 0, .int .i64 5] 23)).cell? ⟨w.heap.size, 4, none⟩ = some (.int .i64 1) := by simp [go_sem]
  have q5 : (w.alloc (.cells #[.int .i64 2, .int .i64 2, .int .i64 2, .int .i64 1, .int .i64 1, .int .i64 2, .int .i64 0, .int .i64 0, .bool false, .int .i64 0, .int .i64 0, .int .i64 5] 23)).cell? ⟨w.heap.size, 5, none⟩ = some (.int .i64 2) := by simp [go_sem]
  have q6 : (w.alloc (.cells #[.int .i64 2, .int .i64 2, .int .i64 2, .int .i64 1, .int .i64 1, .int .i64 2, .int .i64 0, .int .i64 0, .bool false, .int .i64 0, .int .i64 0, .int .i64 5] 23)).cell? ⟨w.heap.size, 6, none⟩ = some (.int .i64 0) := by simp [go_sem]
  have q7 : (w.alloc (.cells #[.int .i64 2, .int .i64 2, .int .i64 2, .int .i64 1, .int .i64 1, .int .i64 2, .int .i64 0, .int .i64 0, .bool false, .int .i64 0, .int .i64 0, .int .i64 5] 23)).cell? ⟨w.heap.size, 7, none⟩ = some (.int .i64 0) := by simp [go_sem]
  have q8 : (w.alloc (.cells #[.int .i64 2, .int .i64 2, .int .i64 2, .int .i64 1, .int .i64 1, .int .i64 2, .int .i64 0, .int .i64 0, .bool false, .int .i64 0, .int .i64 0, .int .i64 5] 23)).cell? ⟨w.heap.size, 8, none⟩ = some (.bool false) := by simp [go_sem]
  have q9 : (w.alloc (.cells #[.int .i64 2, .int .i64 2, .int .i64 2, .int .i64 1, .int .i64 1, .int .i64 2, .int .i64 0, .int .i64 0, .bool false, .int .i64 0, .int .i64 0, .int .i64 5] 23)).cell? ⟨w.heap.size, 9, none⟩ = some (.int .i64 0) := by simp [go_sem]
  have q10 : (w.alloc (.cells #[.int .i64 2, .int .i64 2, .int .i64 2, .int .i64 1, .int .i64 1, .int .i64 2, .int .i64 0, .int .i64 0, .bool false, .int .i64 0, .int .i64 0, .int .i64 5] 23)).cell? ⟨w.heap.size, 10, none⟩ = some (.int .i64 0) := by simp [go_sem]
  have q11 : (w.alloc (.cells #[.int .i64 2, .int .i64 2, .int .i64 2, .int .i64 1, .int .i64 1, .int .i64 2, .int .i64 0, .int .i64 0, .bool false, .int .i64 0, .int .i64 0, .int .i64 5] 23)).cell? ⟨w.heap.size, 11, none⟩ = some (.int .i64 5) := by simp [go_sem]
  have K1 := hide (size_any 2 2 2 1 1 2 0 0 false 0 0 5 ok)
  rw [show sizeV 2 (bkV 1 1 2) 2 = 12 by decide] at K1
  have K2 := hide (cell_any 2 2 2 1 1 2 0 0 false 0 0 5 ok 1 (by unfold I64; omega))
  rw [show cellV 2 (bkV 1 1 2) 1 = 4 by decide] at K2
  have K3 := hide (node_any 2 2 2 1 1 2 0 0 false 0 0 5 ok 1 (by unfold I64; omega) 1 (by unfold I64; omega))
  rw [show nodeV 2 (bkV 1 1 2) (ndV 1) 1 1 = 5 by decide] at K3
  have K4 := hide (slot_any 2 2 2 1 1 2 0 0 false 0 0 5 ok 1 (by unfold I64; omega) 1 (by unfold I64; omega) 1 (by unfold I64; omega))
  rw [show slotV 2 (bkV 1 1 2) (ndV 1) 1 2 1 1 1 = 7 by decide] at K4
  have K5 := hide (line_any 2 2 2 1 1 2 0 0 false 0 0 5 ok 1 (by unfold I64; omega))
  rw [show lineV 2 (bkV 1 1 2) 2 1 = 10 by decide] at K5
  have K6 := hide (result_any 2 2 2 1 1 2 0 0 false 0 0 5 ok 1 (by unfold I64; omega))
  rw [show resV 2 (bkV 1 1 2) 2 1 = 11 by decide] at K6
  have K7 := hide (cell_any 2 2 2 1 1 2 0 0 false 0 0 5 ok 2 (by unfold I64; omega))
  rw [show cellV 2 (bkV 1 1 2) 2 = -1 by decide] at K7
  clear ok e1 e2
  go_enter Try.func9, Try.ntmps9
  go_wp2_with fail
  refine (shownB_any _).mono ?_
  rintro x w1 ⟨bw, ow, B, c, d, rfl, c4, c5, hb⟩
  replace q0 := cell_keep q0 hb
  replace q1 := cell_keep q1 hb
  replace q2 := cell_keep q2 hb
  replace q3 := cell_keep q3 hb
  replace q4 := cell_keep q4 hb
  replace q5 := cell_keep q5 hb
  replace q6 := cell_keep q6 hb
  replace q7 := cell_keep q7 hb
  replace q8 := cell_keep q8 hb
  replace q9 := cell_keep q9 hb
  replace q10 := cell_keep q10 hb
  replace q11 := cell_keep q11 hb
  replace hB := below_next hB hB.size hb
  clear hb
  have hb : Below w1.heap.size w1 (w1.alloc (.cells #[.slice (some ⟨bw, ow, none⟩) 12 c, .slice B 2 d] 39)) := (Below.refl _ _).alloc (Nat.le_refl _) _
  have m0 : (w1.alloc (.cells #[.slice (some ⟨bw, ow, none⟩) 12 c, .slice B 2 d] 39)).cell? ⟨w1.heap.size, 0, none⟩ = some (.slice (some ⟨bw, ow, none⟩) 12 c) := by simp [go_sem]
  have m1 : (w1.alloc (.cells #[.slice (some ⟨bw, ow, none⟩) 12 c, .slice B 2 d] 39)).cell? ⟨w1.heap.size, 1, none⟩ = some (.slice B 2 d) := by simp [go_sem]
  replace q0 := cell_keep q0 hb
  replace q1 := cell_keep q1 hb
  replace q2 := cell_keep q2 hb
  replace q3 := cell_keep q3 hb
  replace q4 := cell_keep q4 hb
  replace q5 := cell_keep q5 hb
  replace q6 := cell_keep q6 hb
  replace q7 := cell_keep q7 hb
  replace q8 := cell_keep q8 hb
  replace q9 := cell_keep q9 hb
  replace q10 := cell_keep q10 hb
  replace q11 := cell_keep q11 hb
  replace c4 := cell_keep c4 hb
  replace c5 := cell_keep c5 hb
  replace hB := below_next hB hB.size hb
  clear hb
  go_wp2_with fail
  refine (K1.out _).mono ?_
  rintro x w2 ⟨rfl, hb⟩
  replace q0 := cell_keep q0 hb
  replace q1 := cell_keep q1 hb
  replace q2 := cell_keep q2 hb
  replace q3 := cell_keep q3 hb
  replace q4 := cell_keep q4 hb
  replace q5 := cell_keep q5 hb
  replace q6 := cell_keep q6 hb
  replace q7 := cell_keep q7 hb
  replace q8 := cell_keep q8 hb
  replace q9 := cell_keep q9 hb
  replace q10 := cell_keep q10 hb
  replace q11 := cell_keep q11 hb
  replace c4 := cell_keep c4 hb
  replace c5 := cell_keep c5 hb
  replace m0 := cell_keep m0 hb
  replace m1 := cell_keep m1 hb
  replace hB := below_next hB hB.size hb
  clear hb
  go_wp2_with fail
  refine (K2.out _).mono ?_
  rintro x w3 ⟨rfl, hb⟩
  replace q0 := cell_keep q0 hb
  replace q1 := cell_keep q1 hb
  replace q2 := cell_keep q2 hb
  replace q3 := cell_keep q3 hb
  replace q4 := cell_keep q4 hb
  replace q5 := cell_keep q5 hb
  replace q6 := cell_keep q6 hb
  replace q7 := cell_keep q7 hb
  replace q8 := cell_keep q8 hb
  replace q9 := cell_keep q9 hb
  replace q10 := cell_keep q10 hb
  replace q11 := cell_keep q11 hb
  replace c4 := cell_keep c4 hb
  replace c5 := cell_keep c5 hb
  replace m0 := cell_keep m0 hb
  replace m1 := cell_keep m1 hb
  replace hB := below_next hB hB.size hb
  clear hb
  go_wp2_with fail
  refine (K3.out _).mono ?_
  rintro x w4 ⟨rfl, hb⟩
  replace q0 := cell_keep q0 hb
  replace q1 := cell_keep q1 hb
  replace q2 := cell_keep q2 hb
  replace q3 := cell_keep q3 hb
  replace q4 := cell_keep q4 hb
  replace q5 := cell_keep q5 hb
  replace q6 := cell_keep q6 hb
  replace q7 := cell_keep q7 hb
  replace q8 := cell_keep q8 hb
  replace q9 := cell_keep q9 hb
  replace q10 := cell_keep q10 hb
  replace q11 := cell_keep q11 hb
  replace c4 := cell_keep c4 hb
  replace c5 := cell_keep c5 hb
  replace m0 := cell_keep m0 hb
  replace m1 := cell_keep m1 hb
  replace hB := below_next hB hB.size hb
  clear hb
  go_wp2_with fail
  refine (K4.out _).mono ?_
  rintro x w5 ⟨rfl, hb⟩
  replace q0 := cell_keep q0 hb
  replace q1 := cell_keep q1 hb
  replace q2 := cell_keep q2 hb
  replace q3 := cell_keep q3 hb
  replace q4 := cell_keep q4 hb
  replace q5 := cell_keep q5 hb
  replace q6 := cell_keep q6 hb
  replace q7 := cell_keep q7 hb
  replace q8 := cell_keep q8 hb
  replace q9 := cell_keep q9 hb
  replace q10 := cell_keep q10 hb
  replace q11 := cell_keep q11 hb
  replace c4 := cell_keep c4 hb
  replace c5 := cell_keep c5 hb
  replace m0 := cell_keep m0 hb
  replace m1 := cell_keep m1 hb
  replace hB := below_next hB hB.size hb
  clear hb
  go_wp2_with fail
  refine (K5.out _).mono ?_
  rintro x w6 ⟨rfl, hb⟩
  replace q0 := cell_keep q0 hb
  replace q1 := cell_keep q1 hb
  replace q2 := cell_keep q2 hb
  replace q3 := cell_keep q3 hb
  replace q4 := cell_keep q4 hb
  replace q5 := cell_keep q5 hb
  replace q6 := cell_keep q6 hb
  replace q7 := cell_keep q7 hb
  replace q8 := cell_keep q8 hb
  replace q9 := cell_keep q9 hb
  replace q10 := cell_keep q10 hb
  replace q11 := cell_keep q11 hb
  replace c4 := cell_keep c4 hb
  replace c5 := cell_keep c5 hb
  replace m0 := cell_keep m0 hb
  replace m1 := cell_keep m1 hb
  replace hB := below_next hB hB.size hb
  clear hb
  go_wp2_with fail
  refine (K6.out _).mono ?_
  rintro x w7 ⟨rfl, hb⟩
  replace q0 := cell_keep q0 hb
  replace q1 := cell_keep q1 hb
  replace q2 := cell_keep q2 hb
  replace q3 := cell_keep q3 hb
  replace q4 := cell_keep q4 hb
  replace q5 := cell_keep q5 hb
  replace q6 := cell_keep q6 hb
  replace q7 := cell_keep q7 hb
  replace q8 := cell_keep q8 hb
  replace q9 := cell_keep q9 hb
  replace q10 := cell_keep q10 hb
  replace q11 := cell_keep q11 hb
  replace c4 := cell_keep c4 hb
  replace c5 := cell_keep c5 hb
  replace m0 := cell_keep m0 hb
  replace m1 := cell_keep m1 hb
  replace hB := below_next hB hB.size hb
  clear hb
  go_wp2_with fail
  refine (K7.out _).mono ?_
  rintro x w8 ⟨rfl, hb⟩
  replace q0 := cell_keep q0 hb
  replace q1 := cell_keep q1 hb
  replace q2 := cell_keep q2 hb
  replace q3 := cell_keep q3 hb
  replace q4 := cell_keep q4 hb
  replace q5 := cell_keep q5 hb
  replace q6 := cell_keep q6 hb
  replace q7 := cell_keep q7 hb
  replace q8 := cell_keep q8 hb
  replace q9 := cell_keep q9 hb
  replace q10 := cell_keep q10 hb
  replace q11 := cell_keep q11 hb
  replace c4 := cell_keep c4 hb
  replace c5 := cell_keep c5 hb
  replace m0 := cell_keep m0 hb
  replace m1 := cell_keep m1 hb
  replace hB := below_next hB hB.size hb
  clear hb
  go_wp2
  go_ret
  exact ⟨rfl, hB⟩

end Go.Proofs.Ytlmnanlclialhaa
