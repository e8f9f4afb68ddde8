/- Contracts of the program's Node and Slot. -/
import Derived.Test.YtlmnanlclialhaaArD
namespace Go.Proofs.Ytlmnanlclialhaa
open Go.RowKit

set_option linter.unusedVariables false
theorem sees_lit (w : World) (xs : List Int) : Sees (w.alloc (.cells (xs.map (Value.int .i64)).toArray 3)) (w.alloc (.cells (xs.map (Value.int .i64)).toArray 3)).heap.size 1 (some ⟨w.heap.size, 0, none⟩) xs.length (xs.map (Value.int .i64)) := by
  refine ⟨by simp, fun _ => ⟨w.heap.size, 0, rfl, by simp, fun j u hu => ?_⟩⟩
  rw [Nat.zero_add]
  have hj : j < xs.length := by have := (List.getElem?_eq_some_iff.1 hu).1; simpa using this
  simp [go_sem]
  simpa using hu

set_option maxRecDepth 100000 in
set_option maxHeartbeats 4000000 in
theorem node_any (x0 x1 x2 x3 x4 x5 x6 x7 : Int) (b : Bool) (x9 x10 x11 : Int) (ok : CfOk x0 x1 x2 x3 x4 x5 x6 x7 b x9 x10 x11) (i : Int) (hi : I64 i) (n : Int) (hn : I64 n) (w : World) : Calls Try.prog 16 #[.agg #[.int .i64 x0, .int .i64 x1, .int .i64 x2, .int .i64 x3, .int .i64 x4, .int .i64 x5, .int .i64 x6, .int .i64 x7, .bool b, .int .i64 x9, .int .i64 x10, .int .i64 x11], .int .i64 i, .int .i64 n] w (IntPost (nodeV x1 (bkV x3 x4 x5) (ndV x3) i n) w) := by
  have hB : Below w.heap.size w (w.alloc (.cells #[.int .i64 x0, .int .i64 x1, .int .i64 x2, .int .i64 x3, .int .i64 x4, .int .i64 x5, .int .i64 x6, .int .i64 x7, .bool b, .int .i64 x9, .int .i64 x10, .int .i64 x11] 23)) := (Below.refl _ _).alloc (Nat.le_refl _) _
  have H0 : (w.alloc (.cells #[.int .i64 x0, .int .i64 x1, .int .i64 x2, .int .i64 x3, .int .i64 x4, .int .i64 x5, .int .i64 x6, .int .i64 x7, .bool b, .int .i64 x9, .int .i64 x10, .int .i64 x11] 23)).cell? ⟨w.heap.size, 0, none⟩ = some (.int .i64 x0) ∧ (w.alloc (.cells #[.int .i64 x0, .int .i64 x1, .int .i64 x2, .int .i64 x3, .int .i64 x4, .int .i64 x5, .int .i64 x6, .int .i64 x7, .bool b, .int .i64 x9, .int .i64 x10, .int .i64 x11] 23)).cell? ⟨w.heap.size, 1, none⟩ = some (.int .i64 x1) ∧ (w.alloc (.cells #[.int .i64 x0, .int .i64 x1, .int .i64 x2, .int .i64 x3, .int .i64 x4, .int .i64 x5, .int .i64 x6, .int .i64 x7, .bool b, .int .i64 x9, .int .i64 x10, .int .i64 x11] 23)).cell? ⟨w.heap.size, 2, none⟩ = some (.int .i64 x2) ∧ (w.alloc (.cells #[.int .i64 x0, .int .i64 x1, .int .i64 x2, .int .i64 x3, .int .i64 x4, .int .i64 x5, .int .i64 x6, .int .i64 x7, .bool b, .int .i64 x9, .int .i64 x10, .int .i64 x11] 23)).cell? ⟨w.heap.size, 3, none⟩ = some (.int .i64 x3) ∧ (w.alloc (.cells #[.int .i64 x0, .int .i64 x1, .int .i64 x2, .int .i64 x3, .int .i64 x4, .int .i64 x5, .int .i64 x6, .int .i64 x7, .bool b, .int .i64 x9, .int .i64 x10, .int .i64 x11] 23)).cell? ⟨w.heap.size, 4, none⟩ = some (.int .i64 x4) ∧ (w.alloc (.cells #[.int .i64 x0, .int .i64 x1, .int .i64 x2, .int .i64 x3, .int .i64 x4, .int .i64 x5, .int .i64 x6, .int .i64 x7, .bool b, .int .i64 x9, .int .i64 x10, .int .i64 x11] 23)).cell? ⟨w.heap.size, 5, none⟩ = some (.int .i64 x5) ∧ (w.alloc (.cells #[.int .i64 x0, .int .i64 x1, .int .i64 x2, .int .i64 x3, .int .i64 x4, .int .i64 x5, .int .i64 x6, .int .i64 x7, .bool b, .int .i64 x9, .int .i64 x10, .int .i64 x11] 23)).cell? ⟨w.heap.size, 6, none⟩ = some (.int .i64 x6) ∧ (w.alloc (.cells #[.int .i64 x0, .int .i64 x1, .int .i64 x2, .int .i64 x3, .int .i64 x4, .int .i64 x5, .int .i64 x6, .int .i64 x7, .bool b, .int .i64 x9, .int .i64 x10, .int .i64 x11] 23)).cell? ⟨w.heap.size, 7, none⟩ = some (.int .i64 x7) ∧ (w.alloc (.cells #[.int .i64 x0, .int .i64 x1, .int .i64 x2, .int .i64 x3, .int .i64 x4, .int .i64 x5, .int .i64 x6, .int .i64 x7, .bool b, .int .i64 x9, .int .i64 x10, .int .i64 x11] 23)).cell? ⟨w.heap.size, 8, none⟩ = some (.bool b) ∧ (w.alloc (.cells #[.int .i64 x0, .int .i64 x1, .int .i64 x2, .int .i64 x3, .int .i64 x4, .int .i64 x5, .int .i64 x6, .int .i64 x7, .bool b, .int .i64 x9, .int .i64 x10, .int .i64 x11] 23)).cell? ⟨w.heap.size, 9, none⟩ = some (.int .i64 x9) ∧ (w.alloc (.cells #[.int .i64 x0, .int .i64 x1, .int .i64 x2, .int .i64 x3, .int .i64 x4, .int .i64 x5, .int .i64 x6, .int .i64 x7, .bool b, .int .i64 x9, .int .i64 x10, .int .i64 x11] 23)).cell? ⟨w.heap.size, 10, none⟩ = some (.int .i64 x10) ∧ (w.alloc (.cells #[.int .i64 x0, .int .i64 x1, .int .i64 x2, .int .i64 x3, .int .i64 x4, .int .i64 x5, .int .i64 x6, .int .i64 x7, .bool b, .int .i64 x9, .int .i64 x10, .int .i64 x11] 23)).cell? ⟨w.heap.size, 11, none⟩ = some (.int .i64 x11) := by simp [go_sem]
  have h1 := bk_le ok.h3 ok.h4 ok.h5
  have h2 := nd_le ok.h3
  have I1 := hide (items_any x0 x1 x2 x3 x4 x5 x6 x7 b x9 x10 x11 ok)
  have R1 := hide (fun a b c d (v : World) => row1_any a b c d (0) 0 (x1) (bkV x3 x4 x5) i (by omega) (by have := ok.h1; have := ok.h4; have := ok.h5; omega) (by have := ok.h5; omega) (by omega) hi v)
  have B1 := row_le (s := 0) (f := 0) (m := x1) (k := bkV x3 x4 x5) (n := i) (by omega) (by have := ok.h1; have := ok.h4; have := ok.h5; omega) (by have := ok.h5; omega)
  have I2 := hide (nodesP_any x0 x1 x2 x3 x4 x5 x6 x7 b x9 x10 x11 ok)
  have R2 := hide (fun a b c d (v : World) => row1_any a b c d (1) 1 (ndV x3) (1) n (by omega) (by have := ok.h1; have := ok.h4; have := ok.h5; omega) (by have := ok.h5; omega) (by omega) hn v)
  have B2 := row_le (s := 1) (f := 1) (m := ndV x3) (k := 1) (n := n) (by omega) (by have := ok.h1; have := ok.h4; have := ok.h5; omega) (by have := ok.h5; omega)
  have HV := hide (node_eq (nd := ndV x3) (i := i) (n := n) ok.h1 h1)
  rw [← cell_eq] at HV
  obtain ⟨p1, hp1⟩ : ∃ p, rowV (0) 0 (x1) (bkV x3 x4 x5) i = p := ⟨_, rfl⟩
  rw [hp1] at R1 B1 HV
  clear hp1
  obtain ⟨p2, hp2⟩ : ∃ p, rowV (1) 1 (ndV x3) (1) n = p := ⟨_, rfl⟩
  rw [hp2] at R2 B2 HV
  clear hp2
  have KW := hide (fun A c (v : World) hs => within_any A c [p1, p2] (by simp) (by intro x hx; simp only [List.mem_cons, List.not_mem_nil, or_false] at hx; rcases hx with rfl | rfl <;> assumption) v hs)
  clear ok h1 h2 B1 B2 hi hn
  go_enter Try.func16, Try.ntmps16
  go_upto_region 1 with fail
  generalize (w.alloc (.cells #[.int .i64 x0, .int .i64 x1, .int .i64 x2, .int .i64 x3, .int .i64 x4, .int .i64 x5, .int .i64 x6, .int .i64 x7, .bool b, .int .i64 x9, .int .i64 x10, .int .i64 x11] 23)) = wz at *
  replace H0 := keep12 H0 ((Below.refl _ wz).drew)
  replace hB := hB.drew
  go_region_held3 (fun w' => w'.cell? ⟨w.heap.size, 0, none⟩ = some (.int .i64 x0) ∧ w'.cell? ⟨w.heap.size, 1, none⟩ = some (.int .i64 x1) ∧ w'.cell? ⟨w.heap.size, 2, none⟩ = some (.int .i64 x2) ∧ w'.cell? ⟨w.heap.size, 3, none⟩ = some (.int .i64 x3) ∧ w'.cell? ⟨w.heap.size, 4, none⟩ = some (.int .i64 x4) ∧ w'.cell? ⟨w.heap.size, 5, none⟩ = some (.int .i64 x5) ∧ w'.cell? ⟨w.heap.size, 6, none⟩ = some (.int .i64 x6) ∧ w'.cell? ⟨w.heap.size, 7, none⟩ = some (.int .i64 x7) ∧ w'.cell? ⟨w.heap.size, 8, none⟩ = some (.bool b) ∧ w'.cell? ⟨w.heap.size, 9, none⟩ = some (.int .i64 x9) ∧ w'.cell? ⟨w.heap.size, 10, none⟩ = some (.int .i64 x10) ∧ w'.cell? ⟨w.heap.size, 11, none⟩ = some (.int .i64 x11))
    (first | (with_reducible exact H0) | (exact keep12 H0 ((Below.refl _ _).alloc (Nat.le_refl _) _)))
    (first
      | (go_at_call 31; refine (I1.out _).mono ?_; rintro x v1 ⟨a1, b1, c1, d1, rfl, hp1, hv⟩; replace H0 := keep12 H0 hv; replace hB := below_next hB hB.size hv; clear hv)
      | (go_at_call_of 50 a1; refine (R1.out a1 b1 c1 d1 _ hp1).mono ?_; rintro x vv ⟨rfl, rfl⟩)
      | (go_at_call 33; refine (I2.out _).mono ?_; rintro x v2 ⟨a2, b2, c2, d2, rfl, hp2, hv⟩; replace H0 := keep12 H0 hv; replace hB := below_next hB hB.size hv; clear hv)
      | (go_at_call_of 50 a2; refine (R2.out a2 b2 c2 d2 _ hp2).mono ?_; rintro x vv ⟨rfl, rfl⟩)
      | (go_at_call 32; refine (KW.out _ _ _ (sees_lit _ [p1, p2])).mono ?_; rintro x vz ⟨rfl, hv⟩; replace H0 := keep12 (keep12 H0 ((Below.refl _ _).alloc (Nat.le_refl _) (.cells #[.int .i64 p1, .int .i64 p2] 3))) hv; replace hB := below_next (hB.alloc hB.size (.cells #[.int .i64 p1, .int .i64 p2] 3)) (by simpa using Nat.le_succ_of_le hB.size) hv))
  go_wp2
  go_ret
  exact ⟨ret_i HV.out.symm, hB⟩

set_option maxRecDepth 100000 in
set_option maxHeartbeats 4000000 in
theorem slot_any (x0 x1 x2 x3 x4 x5 x6 x7 : Int) (b : Bool) (x9 x10 x11 : Int) (ok : CfOk x0 x1 x2 x3 x4 x5 x6 x7 b x9 x10 x11) (i : Int) (hi : I64 i) (l : Int) (hl : I64 l) (s : Int) (hs : I64 s) (w : World) : Calls Try.prog 18 #[.agg #[.int .i64 x0, .int .i64 x1, .int .i64 x2, .int .i64 x3, .int .i64 x4, .int .i64 x5, .int .i64 x6, .int .i64 x7, .bool b, .int .i64 x9, .int .i64 x10, .int .i64 x11], .int .i64 i, .int .i64 l, .int .i64 s] w (IntPost (slotV x1 (bkV x3 x4 x5) (ndV x3) x4 x5 i l s) w) := by
  have hB : Below w.heap.size w (w.alloc (.cells #[.int .i64 x0, .int .i64 x1, .int .i64 x2, .int .i64 x3, .int .i64 x4, .int .i64 x5, .int .i64 x6, .int .i64 x7, .bool b, .int .i64 x9, .int .i64 x10, .int .i64 x11] 23)) := (Below.refl _ _).alloc (Nat.le_refl _) _
  have H0 : (w.alloc (.cells #[.int .i64 x0, .int .i64 x1, .int .i64 x2, .int .i64 x3, .int .i64 x4, .int .i64 x5, .int .i64 x6, .int .i64 x7, .bool b, .int .i64 x9, .int .i64 x10, .int .i64 x11] 23)).cell? ⟨w.heap.size, 0, none⟩ = some (.int .i64 x0) ∧ (w.alloc (.cells #[.int .i64 x0, .int .i64 x1, .int .i64 x2, .int .i64 x3, .int .i64 x4, .int .i64 x5, .int .i64 x6, .int .i64 x7, .bool b, .int .i64 x9, .int .i64 x10, .int .i64 x11] 23)).cell? ⟨w.heap.size, 1, none⟩ = some (.int .i64 x1) ∧ (w.alloc (.cells #[.int .i64 x0, .int .i64 x1, .int .i64 x2, .int .i64 x3, .int .i64 x4, .int .i64 x5, .int .i64 x6, .int .i64 x7, .bool b, .int .i64 x9, .int .i64 x10, .int .i64 x11] 23)).cell? ⟨w.heap.size, 2, none⟩ = some (.int .i64 x2) ∧ (w.alloc (.cells #[.int .i64 x0, .int .i64 x1, .int .i64 x2, .int .i64 x3, .int .i64 x4, .int .i64 x5, .int .i64 x6, .int .i64 x7, .bool b, .int .i64 x9, .int .i64 x10, .int .i64 x11] 23)).cell? ⟨w.heap.size, 3, none⟩ = some (.int .i64 x3) ∧ (w.alloc (.cells #[.int .i64 x0, .int .i64 x1, .int .i64 x2, .int .i64 x3, .int .i64 x4, .int .i64 x5, .int .i64 x6, .int .i64 x7, .bool b, .int .i64 x9, .int .i64 x10, .int .i64 x11] 23)).cell? ⟨w.heap.size, 4, none⟩ = some (.int .i64 x4) ∧ (w.alloc (.cells #[.int .i64 x0, .int .i64 x1, .int .i64 x2, .int .i64 x3, .int .i64 x4, .int .i64 x5, .int .i64 x6, .int .i64 x7, .bool b, .int .i64 x9, .int .i64 x10, .int .i64 x11] 23)).cell? ⟨w.heap.size, 5, none⟩ = some (.int .i64 x5) ∧ (w.alloc (.cells #[.int .i64 x0, .int .i64 x1, .int .i64 x2, .int .i64 x3, .int .i64 x4, .int .i64 x5, .int .i64 x6, .int .i64 x7, .bool b, .int .i64 x9, .int .i64 x10, .int .i64 x11] 23)).cell? ⟨w.heap.size, 6, none⟩ = some (.int .i64 x6) ∧ (w.alloc (.cells #[.int .i64 x0, .int .i64 x1, .int .i64 x2, .int .i64 x3, .int .i64 x4, .int .i64 x5, .int .i64 x6, .int .i64 x7, .bool b, .int .i64 x9, .int .i64 x10, .int .i64 x11] 23)).cell? ⟨w.heap.size, 7, none⟩ = some (.int .i64 x7) ∧ (w.alloc (.cells #[.int .i64 x0, .int .i64 x1, .int .i64 x2, .int .i64 x3, .int .i64 x4, .int .i64 x5, .int .i64 x6, .int .i64 x7, .bool b, .int .i64 x9, .int .i64 x10, .int .i64 x11] 23)).cell? ⟨w.heap.size, 8, none⟩ = some (.bool b) ∧ (w.alloc (.cells #[.int .i64 x0, .int .i64 x1, .int .i64 x2, .int .i64 x3, .int .i64 x4, .int .i64 x5, .int .i64 x6, .int .i64 x7, .bool b, .int .i64 x9, .int .i64 x10, .int .i64 x11] 23)).cell? ⟨w.heap.size, 9, none⟩ = some (.int .i64 x9) ∧ (w.alloc (.cells #[.int .i64 x0, .int .i64 x1, .int .i64 x2, .int .i64 x3, .int .i64 x4, .int .i64 x5, .int .i64 x6, .int .i64 x7, .bool b, .int .i64 x9, .int .i64 x10, .int .i64 x11] 23)).cell? ⟨w.heap.size, 10, none⟩ = some (.int .i64 x10) ∧ (w.alloc (.cells #[.int .i64 x0, .int .i64 x1, .int .i64 x2, .int .i64 x3, .int .i64 x4, .int .i64 x5, .int .i64 x6, .int .i64 x7, .bool b, .int .i64 x9, .int .i64 x10, .int .i64 x11] 23)).cell? ⟨w.heap.size, 11, none⟩ = some (.int .i64 x11) := by simp [go_sem]
  have h1 := bk_le ok.h3 ok.h4 ok.h5
  have h2 := nd_le ok.h3
  have I1 := hide (items_any x0 x1 x2 x3 x4 x5 x6 x7 b x9 x10 x11 ok)
  have R1 := hide (fun a b c d (v : World) => row1_any a b c d (0) 0 (x1) (bkV x3 x4 x5) i (by omega) (by have := ok.h1; have := ok.h4; have := ok.h5; omega) (by have := ok.h5; omega) (by omega) hi v)
  have B1 := row_le (s := 0) (f := 0) (m := x1) (k := bkV x3 x4 x5) (n := i) (by omega) (by have := ok.h1; have := ok.h4; have := ok.h5; omega) (by have := ok.h5; omega)
  have I2 := hide (layers_any x0 x1 x2 x3 x4 x5 x6 x7 b x9 x10 x11 ok)
  have R2 := hide (fun a b c d (v : World) => row1_any a b c d (1 + ndV x3) 1 (x4) (x5) l (by omega) (by have := ok.h1; have := ok.h4; have := ok.h5; omega) (by have := ok.h5; omega) (by omega) hl v)
  have B2 := row_le (s := 1 + ndV x3) (f := 1) (m := x4) (k := x5) (n := l) (by omega) (by have := ok.h1; have := ok.h4; have := ok.h5; omega) (by have := ok.h5; omega)
  have I3 := hide (slots_any x0 x1 x2 x3 x4 x5 x6 x7 b x9 x10 x11)
  have R3 := hide (fun a b c d (v : World) => row1_any a b c d (0) 0 (x5) (1) s (by omega) (by have := ok.h1; have := ok.h4; have := ok.h5; omega) (by have := ok.h5; omega) (by omega) hs v)
  have B3 := row_le (s := 0) (f := 0) (m := x5) (k := 1) (n := s) (by omega) (by have := ok.h1; have := ok.h4; have := ok.h5; omega) (by have := ok.h5; omega)
  have HV := hide (slot_eq (ly := x4) (i := i) (l := l) (s := s) ok.h1 h1 h2.1 (show 0 ≤ x5 by have := ok.h5; omega))
  rw [← cell_eq] at HV
  obtain ⟨p1, hp1⟩ : ∃ p, rowV (0) 0 (x1) (bkV x3 x4 x5) i = p := ⟨_, rfl⟩
  rw [hp1] at R1 B1 HV
  clear hp1
  obtain ⟨p2, hp2⟩ : ∃ p, rowV (1 + ndV x3) 1 (x4) (x5) l = p := ⟨_, rfl⟩
  rw [hp2] at R2 B2 HV
  clear hp2
  obtain ⟨p3, hp3⟩ : ∃ p, rowV (0) 0 (x5) (1) s = p := ⟨_, rfl⟩
  rw [hp3] at R3 B3 HV
  clear hp3
  have KW := hide (fun A c (v : World) hs => within_any A c [p1, p2, p3] (by simp) (by intro x hx; simp only [List.mem_cons, List.not_mem_nil, or_false] at hx; rcases hx with rfl | rfl | rfl <;> assumption) v hs)
  clear ok h1 h2 B1 B2 B3 hi hl hs
  go_enter Try.func18, Try.ntmps18
  go_upto_region 1 with fail
  generalize (w.alloc (.cells #[.int .i64 x0, .int .i64 x1, .int .i64 x2, .int .i64 x3, .int .i64 x4, .int .i64 x5, .int .i64 x6, .int .i64 x7, .bool b, .int .i64 x9, .int .i64 x10, .int .i64 x11] 23)) = wz at *
  replace H0 := keep12 H0 ((Below.refl _ wz).drew)
  replace hB := hB.drew
  go_region_held3 (fun w' => w'.cell? ⟨w.heap.size, 0, none⟩ = some (.int .i64 x0) ∧ w'.cell? ⟨w.heap.size, 1, none⟩ = some (.int .i64 x1) ∧ w'.cell? ⟨w.heap.size, 2, none⟩ = some (.int .i64 x2) ∧ w'.cell? ⟨w.heap.size, 3, none⟩ = some (.int .i64 x3) ∧ w'.cell? ⟨w.heap.size, 4, none⟩ = some (.int .i64 x4) ∧ w'.cell? ⟨w.heap.size, 5, none⟩ = some (.int .i64 x5) ∧ w'.cell? ⟨w.heap.size, 6, none⟩ = some (.int .i64 x6) ∧ w'.cell? ⟨w.heap.size, 7, none⟩ = some (.int .i64 x7) ∧ w'.cell? ⟨w.heap.size, 8, none⟩ = some (.bool b) ∧ w'.cell? ⟨w.heap.size, 9, none⟩ = some (.int .i64 x9) ∧ w'.cell? ⟨w.heap.size, 10, none⟩ = some (.int .i64 x10) ∧ w'.cell? ⟨w.heap.size, 11, none⟩ = some (.int .i64 x11))
    (first | (with_reducible exact H0) | (exact keep12 H0 ((Below.refl _ _).alloc (Nat.le_refl _) _)))
    (first
      | (go_at_call 31; refine (I1.out _).mono ?_; rintro x v1 ⟨a1, b1, c1, d1, rfl, hp1, hv⟩; replace H0 := keep12 H0 hv; replace hB := below_next hB hB.size hv; clear hv)
      | (go_at_call_of 50 a1; refine (R1.out a1 b1 c1 d1 _ hp1).mono ?_; rintro x vv ⟨rfl, rfl⟩)
      | (go_at_call 34; refine (I2.out _).mono ?_; rintro x v2 ⟨a2, b2, c2, d2, rfl, hp2, hv⟩; replace H0 := keep12 H0 hv; replace hB := below_next hB hB.size hv; clear hv)
      | (go_at_call_of 50 a2; refine (R2.out a2 b2 c2 d2 _ hp2).mono ?_; rintro x vv ⟨rfl, rfl⟩)
      | (go_at_call 35; refine (I3.out _).mono ?_; rintro x v3 ⟨a3, b3, c3, d3, rfl, hp3, hv⟩; replace H0 := keep12 H0 hv; replace hB := below_next hB hB.size hv; clear hv)
      | (go_at_call_of 50 a3; refine (R3.out a3 b3 c3 d3 _ hp3).mono ?_; rintro x vv ⟨rfl, rfl⟩)
      | (go_at_call 32; refine (KW.out _ _ _ (sees_lit _ [p1, p2, p3])).mono ?_; rintro x vz ⟨rfl, hv⟩; replace H0 := keep12 (keep12 H0 ((Below.refl _ _).alloc (Nat.le_refl _) (.cells #[.int .i64 p1, .int .i64 p2, .int .i64 p3] 3))) hv; replace hB := below_next (hB.alloc hB.size (.cells #[.int .i64 p1, .int .i64 p2, .int .i64 p3] 3)) (by simpa using Nat.le_succ_of_le hB.size) hv))
  go_wp2
  go_ret
  exact ⟨ret_i HV.out.symm, hB⟩

end Go.Proofs.Ytlmnanlclialhaa
