/- The walk of CodeBack. -/
import Derived.Test.YtcbjkpblailfpaaW8Base
namespace Go.Proofs.Ytcbjkpblailfpaa
open Go.RowKit Go.Sort

theorem fr_i64 {k t : Int} (hk : 1 ≤ k ∧ k ≤ 3) (ht : 0 ≤ t ∧ t ≤ 15) : I64 (frV k t) := by unfold frV; exact i64_little (by omega) (by omega)
theorem op_i64 {i l : Int} (hi : 0 ≤ i ∧ i ≤ 3) (hl : 1 ≤ l ∧ l ≤ 3) : I64 (opV i l) := by unfold opV; exact i64_little (by omega) (by omega)

set_option maxRecDepth 100000 in
set_option maxHeartbeats 1000000 in
theorem walkBack (t it ly : Int) (ht : 0 ≤ t ∧ t ≤ 255) (hi : 0 ≤ it ∧ it ≤ 255) (hl : 0 ≤ ly ∧ ly ≤ 255) (w : World) :
    Calls Try.prog 6 #[.int .u8 t, .int .u8 it, .int .u8 ly] w (BoolPost true w) := by
  obtain ⟨k, hk, hk0, hk1⟩ := mod16 ht
  obtain ⟨i, hi', hi0, hi1⟩ := mod4 hi
  obtain ⟨d, l, hd, hdl, hd0, hd1, hl0, hl1⟩ := mod3 hl
  have hk2 : 0 ≤ k ∧ k ≤ 15 := ⟨hk0, hk1⟩
  have hi2 : 0 ≤ i ∧ i ≤ 3 := ⟨hi0, hi1⟩
  have hl2 : 1 ≤ l ∧ l ≤ 3 := ⟨hl0, hl1⟩
  have c1 := fun w => hide (first_any k hk2 w)
  have c2 := fun w => hide (joined_any k hk2 w)
  have c3 := fun w => hide (deposited_any k hk2 w)
  have c4 := fun w => hide (open_any i l hi2 hl2 w)
  have ck1 := fun w => hide (kind_any (frV 1 k) (fr_i64 (by omega) hk2) w)
  have cw1 := fun w => hide (who_any (frV 1 k) (fr_i64 (by omega) hk2) w)
  rw [(kd_fr (k := 1) (by omega) hk2).1] at ck1
  rw [(kd_fr (k := 1) (by omega) hk2).2] at cw1
  have ck2 := fun w => hide (kind_any (frV 2 k) (fr_i64 (by omega) hk2) w)
  have cw2 := fun w => hide (who_any (frV 2 k) (fr_i64 (by omega) hk2) w)
  rw [(kd_fr (k := 2) (by omega) hk2).1] at ck2
  rw [(kd_fr (k := 2) (by omega) hk2).2] at cw2
  have ck3 := fun w => hide (kind_any (frV 3 k) (fr_i64 (by omega) hk2) w)
  have cw3 := fun w => hide (who_any (frV 3 k) (fr_i64 (by omega) hk2) w)
  rw [(kd_fr (k := 3) (by omega) hk2).1] at ck3
  rw [(kd_fr (k := 3) (by omega) hk2).2] at cw3
  have ck4 := fun w => hide (kind_any (opV i l) (op_i64 hi2 hl2) w)
  have cw4 := fun w => hide (who_any (opV i l) (op_i64 hi2 hl2) w)
  have cp4 := fun w => hide (where_any (opV i l) (op_i64 hi2 hl2) w)
  obtain ⟨e1, e2, e3, e4⟩ := kd_op hi2 hl2
  rw [e1] at ck4
  rw [e2] at cw4
  rw [e3, e4] at cp4
  clear e1 e2 e3 e4 hk2 hi2 hl2
  generalize frV 1 k = y1 at *
  generalize frV 2 k = y2 at *
  generalize frV 3 k = y3 at *
  generalize opV i l = y4 at *
  go_enter Try.func6, Try.ntmps6
  go_wp2_with (first
    | (go_at_call 8; refine ((cp4 _).out).mono ?_; clear cp4; rintro e w2 ⟨rfl, hb2⟩; have hB := below_next hB hB.size hb2; clear hb2)
    | (go_at_call 15; refine ((c1 _).out).mono ?_; rintro e w3 ⟨rfl, hb2⟩; have hB := below_next hB hB.size hb2; clear hb2)
    | (go_at_call 17; refine ((c2 _).out).mono ?_; rintro e w3 ⟨rfl, hb2⟩; have hB := below_next hB hB.size hb2; clear hb2)
    | (go_at_call 19; refine ((c3 _).out).mono ?_; rintro e w3 ⟨rfl, hb2⟩; have hB := below_next hB hB.size hb2; clear hb2)
    | (go_at_call 21; refine ((c4 _).out).mono ?_; rintro e w1 ⟨rfl, hb2⟩; have hB := below_next hB hB.size hb2; clear hb2)
    | (go_at_call 21; refine ((c4 _).out).mono ?_; rintro e w1 ⟨rfl, hB⟩)
    | (go_at_call 10; refine ((ck1 _).out).mono ?_; clear ck1; rintro e w3 ⟨rfl, hb2⟩; have hB := below_next hB hB.size hb2; clear hb2)
    | (go_at_call 12; refine ((cw1 _).out).mono ?_; clear cw1; rintro e w3 ⟨rfl, hb2⟩; have hB := below_next hB hB.size hb2; clear hb2)
    | (go_at_call 10; refine ((ck2 _).out).mono ?_; clear ck2; rintro e w3 ⟨rfl, hb2⟩; have hB := below_next hB hB.size hb2; clear hb2)
    | (go_at_call 12; refine ((cw2 _).out).mono ?_; clear cw2; rintro e w3 ⟨rfl, hb2⟩; have hB := below_next hB hB.size hb2; clear hb2)
    | (go_at_call 10; refine ((ck3 _).out).mono ?_; clear ck3; rintro e w3 ⟨rfl, hb2⟩; have hB := below_next hB hB.size hb2; clear hb2)
    | (go_at_call 12; refine ((cw3 _).out).mono ?_; clear cw3; rintro e w3 ⟨rfl, hb2⟩; have hB := below_next hB hB.size hb2; clear hb2)
    | (go_at_call 10; refine ((ck4 _).out).mono ?_; clear ck4; rintro e w3 ⟨rfl, hb2⟩; have hB := below_next hB hB.size hb2; clear hb2)
    | (go_at_call 12; refine ((cw4 _).out).mono ?_; clear cw4; rintro e w3 ⟨rfl, hb2⟩; have hB := below_next hB hB.size hb2; clear hb2)
    | (go_at_call 14; refine (shown8_any _).mono ?_; rintro e w3 ⟨rfl, hb2⟩; have hB := below_next hB hB.size hb2; clear hb2))
  go_ret
  exact ⟨rfl, hB⟩
end Go.Proofs.Ytcbjkpblailfpaa
