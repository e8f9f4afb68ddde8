/- The anchor of layer 7's statements. -/
import Derived.Test.YtagbngilgjmjiaaShM
import Derived.Test.YtagbngilgjmjiaaShR
import Derived.Test.YtagbngilgjmjiaaShF
namespace Go.Proofs.Ytagbngilgjmjiaa
open Go.RowKit

theorem path35 : pathV 3 5 = [6, 3, 1] := by decide +kernel
theorem meet356 : meetV 3 5 6 = 3 := by decide +kernel
theorem lev6 : levV 6 = 2 := by decide +kernel
theorem leaf05 : leafV 0 5 = 0 := by decide +kernel
theorem i64_small {x : Int} (h1 : -1000000000 ≤ x) (h2 : x ≤ 1000000000) : I64 x := by unfold I64; omega
theorem Sees.at3 {w : World} {B : Nat} {A : Option Addr} {x y z : Int} (h : Sees w B 1 A 3 ([x, y, z].map (Value.int .i64))) :
    ∃ b off, A = some ⟨b, off, none⟩ ∧ w.cell? ⟨b, off, none⟩ = some (.int .i64 x) ∧ w.cell? ⟨b, off + 1, none⟩ = some (.int .i64 y) ∧ w.cell? ⟨b, off + 2, none⟩ = some (.int .i64 z) := by
  obtain ⟨b, off, e, hb, hc⟩ := h.2 (by omega)
  exact ⟨b, off, e, hc 0 _ rfl, hc 1 _ rfl, hc 2 _ rfl⟩

set_option maxRecDepth 100000 in
set_option maxHeartbeats 1000000 in
theorem shown7_any (w : World) : Calls Try.prog 20 #[] w (BoolPost true w) := by
  go_enter Try.func20, Try.ntmps20
  go_wp2_with (first
    | (go_at_call 16; refine (path_any 3 5 (by omega) (by omega) (i64_small (by omega) (by omega)) _).mono ?_; rw [path35]; rintro e w1 ⟨A, c, rfl, hcc, hs1, hb1⟩; obtain ⟨b, off, rfl, c0, c1, c2⟩ := hs1.at3)
    | (go_at_call 18; refine (meet_any 3 5 6 (by omega) (by omega) (i64_small (by omega) (by omega)) (by omega) (i64_small (by omega) (by omega)) _).mono ?_; rw [meet356]; rintro e w2 ⟨rfl, hb2⟩)
    | (go_at_call 13; refine (level_any 6 (i64_small (by omega) (by omega)) _).mono ?_; rw [lev6]; rintro e w3 ⟨rfl, hb3⟩)
    | (go_at_call 9; refine (leaf_any 0 5 (by omega) (by omega) (i64_small (by omega) (by omega)) _).mono ?_; rw [leaf05]; rintro e w4 ⟨rfl, hb4⟩))
  go_ret
  exact ⟨rfl, below_next (below_next (below_next hb1 hb1.size hb2) (Nat.le_trans hb1.size hb2.size) hb3) (Nat.le_trans hb1.size (Nat.le_trans hb2.size hb3.size)) hb4⟩
end Go.Proofs.Ytagbngilgjmjiaa
