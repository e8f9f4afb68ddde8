/- The law's 'shown' for layer 4: two draws, and none. -/
import Derived.Test.YtneidedipgchiaaTapeS
namespace Go.Proofs.Ytneidedipgchiaa
open Go.RowKit Go.Conc

theorem wrapI {v u : Int} (e : v = u) (h1 : -1000000000 ≤ u) (h2 : u ≤ 1000000000) : IntKind.i64.wrap v = u := by rw [e, IntKind.wrap_i64]; omega
theorem wrapW {v u : Int} (e : v = u) (h1 : -1000000000 ≤ u) (h2 : u ≤ 1000000000) : wrap64 v = u := by rw [e]; exact wrap64_id (by unfold I64; omega)
theorem fieldT (A : Option Addr) (n c : Nat) (a : Int) (w : World) : (Instr.field 24 (.agg #[.slice A n c, .int .i64 a]) 1).run Try.prog w = .ok (.int .i64 a) w := by kernel_rfl

set_option maxRecDepth 100000 in
set_option maxHeartbeats 4000000 in
theorem shownT_any (w : World) : Calls Try.prog 9 #[] w (BoolPost true w) := by
  have hB : Below w.heap.size w ((w.alloc (.cells #[.int .i64 7, .int .i64 (-1)] 3)).alloc (.cells #[.slice (some ⟨w.heap.size, 0, none⟩) 2 2, .int .i64 0] 24)) := ((Below.refl _ w).alloc (Nat.le_refl _) _).alloc (by simp) _
  have S0 : Hid (Sees ((w.alloc (.cells #[.int .i64 7, .int .i64 (-1)] 3)).alloc (.cells #[.slice (some ⟨w.heap.size, 0, none⟩) 2 2, .int .i64 0] 24)) ((w.alloc (.cells #[.int .i64 7, .int .i64 (-1)] 3)).alloc (.cells #[.slice (some ⟨w.heap.size, 0, none⟩) 2 2, .int .i64 0] 24)).heap.size 1 (some ⟨w.heap.size, 0, none⟩) 2 (([7, -1] : List Int).map (Value.int .i64))) :=
    hide ((sees_new w [.int .i64 7, .int .i64 (-1)] 3 1 2 rfl).later ((Below.refl _ _).alloc (Nat.le_refl _) _))
  have x00 : ((w.alloc (.cells #[.int .i64 7, .int .i64 (-1)] 3)).alloc (.cells #[.slice (some ⟨w.heap.size, 0, none⟩) 2 2, .int .i64 0] 24)).cell? ⟨w.heap.size + 1, 0, none⟩ = some (.slice (some ⟨w.heap.size, 0, none⟩) 2 2) := by simp [go_sem]
  have x01 : ((w.alloc (.cells #[.int .i64 7, .int .i64 (-1)] 3)).alloc (.cells #[.slice (some ⟨w.heap.size, 0, none⟩) 2 2, .int .i64 0] 24)).cell? ⟨w.heap.size + 1, 1, none⟩ = some (.int .i64 0) := by simp [go_sem]
  have K1 : Hid (∀ (A : Option Addr) (c : Nat) (y : World), Sees y y.heap.size 1 A 2 (([7, -1] : List Int).map (Value.int .i64)) → Calls Try.prog 10 #[.agg #[.slice A 2 c, .int .i64 0]] y (fun e y' => ∃ A' c', e = .returned (.tuple #[.int .i64 7, .agg #[.slice A' 2 c', .int .i64 1]]) ∧ Sees y' y'.heap.size 1 A' 2 (([7, -1] : List Int).map (Value.int .i64)) ∧ Fresh y A' ∧ Below y.heap.size y y')) := hide (fun A c y hy => by
    have := next_any A c [7, -1] 0 y (by simp) hy (by unfold I64; omega)
    exact this)
  have K2 : Hid (∀ (A : Option Addr) (c : Nat) (y : World), Sees y y.heap.size 1 A 2 (([7, -1] : List Int).map (Value.int .i64)) → Calls Try.prog 13 #[.agg #[.slice A 2 c, .int .i64 1], .int .i64 5] y (fun e y' => ∃ A' c', e = .returned (.tuple #[.int .i64 4, .agg #[.slice A' 2 c', .int .i64 2]]) ∧ Sees y' y'.heap.size 1 A' 2 (([7, -1] : List Int).map (Value.int .i64)) ∧ Fresh y A' ∧ Below y.heap.size y y')) := hide (fun A c y hy => by
    have := below_any A c [7, -1] 1 5 y (by simp) hy (by unfold I64; omega) (by unfold I64; omega)
    exact this)
  have K3 : Hid (∀ (A : Option Addr) (c : Nat) (y : World), Sees y y.heap.size 1 A 2 (([7, -1] : List Int).map (Value.int .i64)) → Calls Try.prog 10 #[.agg #[.slice A 2 c, .int .i64 2]] y (fun e y' => ∃ A' c', e = .returned (.tuple #[.int .i64 0, .agg #[.slice A' 2 c', .int .i64 2]]) ∧ Sees y' y'.heap.size 1 A' 2 (([7, -1] : List Int).map (Value.int .i64)) ∧ Fresh y A' ∧ Below y.heap.size y y')) := hide (fun A c y hy => by
    have := next_any A c [7, -1] 2 y (by simp) hy (by unfold I64; omega)
    exact this)
  have K4 : Hid (∀ (A : Option Addr) (c : Nat) (y : World), Sees y y.heap.size 1 A 2 (([7, -1] : List Int).map (Value.int .i64)) → Calls Try.prog 18 #[.agg #[.slice A 2 c, .int .i64 0], .int .i64 1] y (fun e y' => ∃ A' c', e = .returned (.agg #[.slice A' 2 c', .int .i64 1]) ∧ Sees y' y'.heap.size 1 A' 2 (([7, -1] : List Int).map (Value.int .i64)) ∧ Fresh y A' ∧ Below y.heap.size y y')) := hide (fun A c y hy => by
    have := skip_any A c [7, -1] 0 1 y (by simp) hy (by unfold I64; omega)
    exact this)
  have L0 : Hid (∀ (A : Option Addr) (c : Nat) (y : World), Calls Try.prog 16 #[.agg #[.slice A 2 c, .int .i64 0]] y (IntPost 2 y)) := hide (fun A c y => by
    have := left_any A c [7, -1] 0 y (by simp)
    exact this)
  have L2 : Hid (∀ (A : Option Addr) (c : Nat) (y : World), Calls Try.prog 16 #[.agg #[.slice A 2 c, .int .i64 2]] y (IntPost 0 y)) := hide (fun A c y => by
    have := left_any A c [7, -1] 2 y (by simp)
    exact this)
  have hfd := fieldT
  go_enter Try.func9, Try.ntmps9
  go_wp2_with fail
  refine (K1.out _ _ _ S0.out).mono ?_
  rintro x w1 ⟨A1, c1, rfl, t1, _, hb⟩
  replace x00 := cell_keep x00 hb
  replace x01 := cell_keep x01 hb
  replace S0 := hide (S0.out.later hb)
  replace hB := below_next hB hB.size hb
  clear hb
  have S1 := hide t1
  clear t1
  have hb : Below w1.heap.size w1 (w1.alloc (.cells #[.slice A1 2 c1, .int .i64 1] 24)) := (Below.refl _ _).alloc (Nat.le_refl _) _
  have x10 : (w1.alloc (.cells #[.slice A1 2 c1, .int .i64 1] 24)).cell? ⟨w1.heap.size, 0, none⟩ = some (.slice A1 2 c1) := by simp [go_sem]
  have x11 : (w1.alloc (.cells #[.slice A1 2 c1, .int .i64 1] 24)).cell? ⟨w1.heap.size, 1, none⟩ = some (.int .i64 1) := by simp [go_sem]
  replace x00 := cell_keep x00 hb
  replace x01 := cell_keep x01 hb
  replace S0 := hide (S0.out.later hb)
  replace S1 := hide (S1.out.later hb)
  replace hB := below_next hB hB.size hb
  clear hb
  go_wp2_with fail
  refine (K2.out _ _ _ S1.out).mono ?_
  rintro x w2 ⟨A2, c2, rfl, t2, _, hb⟩
  replace x00 := cell_keep x00 hb
  replace x01 := cell_keep x01 hb
  replace x10 := cell_keep x10 hb
  replace x11 := cell_keep x11 hb
  replace S0 := hide (S0.out.later hb)
  replace S1 := hide (S1.out.later hb)
  replace hB := below_next hB hB.size hb
  clear hb
  have S2 := hide t2
  clear t2
  have hb : Below w2.heap.size w2 (w2.alloc (.cells #[.slice A2 2 c2, .int .i64 2] 24)) := (Below.refl _ _).alloc (Nat.le_refl _) _
  have x20 : (w2.alloc (.cells #[.slice A2 2 c2, .int .i64 2] 24)).cell? ⟨w2.heap.size, 0, none⟩ = some (.slice A2 2 c2) := by simp [go_sem]
  have x21 : (w2.alloc (.cells #[.slice A2 2 c2, .int .i64 2] 24)).cell? ⟨w2.heap.size, 1, none⟩ = some (.int .i64 2) := by simp [go_sem]
  replace x00 := cell_keep x00 hb
  replace x01 := cell_keep x01 hb
  replace x10 := cell_keep x10 hb
  replace x11 := cell_keep x11 hb
  replace S0 := hide (S0.out.later hb)
  replace S1 := hide (S1.out.later hb)
  replace S2 := hide (S2.out.later hb)
  replace hB := below_next hB hB.size hb
  clear hb
  go_wp2_with fail
  refine (K3.out _ _ _ S2.out).mono ?_
  rintro x w3 ⟨A3, c3, rfl, t3, _, hb⟩
  replace x00 := cell_keep x00 hb
  replace x01 := cell_keep x01 hb
  replace x10 := cell_keep x10 hb
  replace x11 := cell_keep x11 hb
  replace x20 := cell_keep x20 hb
  replace x21 := cell_keep x21 hb
  replace S0 := hide (S0.out.later hb)
  replace S1 := hide (S1.out.later hb)
  replace S2 := hide (S2.out.later hb)
  replace hB := below_next hB hB.size hb
  clear hb
  have S3 := hide t3
  clear t3
  have hb : Below w3.heap.size w3 (w3.alloc (.cells #[.slice A3 2 c3, .int .i64 2] 24)) := (Below.refl _ _).alloc (Nat.le_refl _) _
  have x30 : (w3.alloc (.cells #[.slice A3 2 c3, .int .i64 2] 24)).cell? ⟨w3.heap.size, 0, none⟩ = some (.slice A3 2 c3) := by simp [go_sem]
  have x31 : (w3.alloc (.cells #[.slice A3 2 c3, .int .i64 2] 24)).cell? ⟨w3.heap.size, 1, none⟩ = some (.int .i64 2) := by simp [go_sem]
  replace x00 := cell_keep x00 hb
  replace x01 := cell_keep x01 hb
  replace x10 := cell_keep x10 hb
  replace x11 := cell_keep x11 hb
  replace x20 := cell_keep x20 hb
  replace x21 := cell_keep x21 hb
  replace S0 := hide (S0.out.later hb)
  replace S1 := hide (S1.out.later hb)
  replace S2 := hide (S2.out.later hb)
  replace S3 := hide (S3.out.later hb)
  replace hB := below_next hB hB.size hb
  clear hb
  go_wp2_with fail
  refine (L0.out _ _ _).mono ?_
  rintro x w4 ⟨rfl, hb⟩
  replace x00 := cell_keep x00 hb
  replace x01 := cell_keep x01 hb
  replace x10 := cell_keep x10 hb
  replace x11 := cell_keep x11 hb
  replace x20 := cell_keep x20 hb
  replace x21 := cell_keep x21 hb
  replace x30 := cell_keep x30 hb
  replace x31 := cell_keep x31 hb
  replace S0 := hide (S0.out.later hb)
  replace S1 := hide (S1.out.later hb)
  replace S2 := hide (S2.out.later hb)
  replace S3 := hide (S3.out.later hb)
  replace hB := below_next hB hB.size hb
  clear hb
  go_wp2_with fail
  refine (L2.out _ _ _).mono ?_
  rintro x w5 ⟨rfl, hb⟩
  replace x00 := cell_keep x00 hb
  replace x01 := cell_keep x01 hb
  replace x10 := cell_keep x10 hb
  replace x11 := cell_keep x11 hb
  replace x20 := cell_keep x20 hb
  replace x21 := cell_keep x21 hb
  replace x30 := cell_keep x30 hb
  replace x31 := cell_keep x31 hb
  replace S0 := hide (S0.out.later hb)
  replace S1 := hide (S1.out.later hb)
  replace S2 := hide (S2.out.later hb)
  replace S3 := hide (S3.out.later hb)
  replace hB := below_next hB hB.size hb
  clear hb
  go_wp2_with fail
  refine (K4.out _ _ _ S0.out).mono ?_
  rintro x w6 ⟨A9, c9, rfl, _, _, hb⟩
  replace x00 := cell_keep x00 hb
  replace x01 := cell_keep x01 hb
  replace x10 := cell_keep x10 hb
  replace x11 := cell_keep x11 hb
  replace x20 := cell_keep x20 hb
  replace x21 := cell_keep x21 hb
  replace x30 := cell_keep x30 hb
  replace x31 := cell_keep x31 hb
  replace S0 := hide (S0.out.later hb)
  replace S1 := hide (S1.out.later hb)
  replace S2 := hide (S2.out.later hb)
  replace S3 := hide (S3.out.later hb)
  replace hB := below_next hB hB.size hb
  clear hb
  go_wp2
  go_ret
  exact ⟨rfl, hB⟩
end Go.Proofs.Ytneidedipgchiaa
