/- The walk of ShapeTells. -/
import Derived.Test.YtagbngilgjmjiaaW7Base
import Derived.Test.YtagbngilgjmjiaaW7Math
namespace Go.Proofs.Ytagbngilgjmjiaa
open Go.RowKit

set_option maxRecDepth 100000 in
set_option maxHeartbeats 2000000 in
theorem walkTells (dp t u n : Int) (hdp : 0 ≤ dp ∧ dp ≤ 255) (ht : 0 ≤ t ∧ t ≤ 65535) (hu : 0 ≤ u ∧ u ≤ 65535) (hn : I64 n) (w : World) :
    Calls Try.prog 3 #[.int .u8 dp, .int .u16 t, .int .u16 u, .int .i64 n] w (BoolPost true w) := by
  have hmod : 0 ≤ dp.tmod 5 ∧ dp.tmod 5 ≤ 4 := by rw [Int.tmod_eq_emod_of_nonneg hdp.1]; omega
  obtain ⟨D, hDe⟩ : ∃ D, dp.tmod 5 = D := ⟨_, rfl⟩
  rw [hDe] at hmod
  have t64 : I64 t := i64_small (by omega) (by omega)
  have u64 : I64 u := i64_small (by omega) (by omega)
  have HLL : Hid ((pathV D t).length = (pathV D u).length) := hide (by have := path_len D t hmod; have := path_len D u hmod; omega)
  have hlen := upV_length (leaf_i64 D t hmod ht.1)
  have hlen' : (pathV D t).length ≤ 100000 := by have : (pathV D t).length ≤ 63 := hlen; omega
  clear hlen
  have HR := hide (meet_is_ref D t u hmod)
  go_enter Try.func3, Try.ntmps3
  go_wp2_with (first
    | (go_at_call 9; refine (leaf_any D t hmod ht.1 t64 _).mono ?_; rintro e w1 ⟨rfl, hb1⟩)
    | (go_at_call 10; refine (rleaf_any D t hmod ht.1 t64 _).mono ?_; rintro e w2 ⟨rfl, hb2⟩)
    | (go_at_call 11; refine (parent_any n hn _).mono ?_; rintro e w3 ⟨rfl, hb3⟩)
    | (go_at_call 12; refine (rparent_any n hn _).mono ?_; rintro e w4 ⟨rfl, hb4⟩)
    | (go_at_call 13; refine (level_any n hn _).mono ?_; rintro e w5 ⟨rfl, hb5⟩)
    | (go_at_call 14; refine (rlevel_any n hn _).mono ?_; rintro e w6 ⟨rfl, hb6⟩)
    | (go_at_call 16; refine (path_any D t hmod ht.1 t64 _).mono ?_; rintro e w7 ⟨A, c, rfl, hcc, hs7, hb7⟩)
    | (go_at_call 17; refine (rpath_any D t hmod ht.1 t64 _).mono ?_; rintro e w8 ⟨B, c', rfl, hcc', hs8, hb8⟩)
    | (go_at_call 15; refine (ints_any A B c c' _ _ (pathV D t) (pathV D t) hlen' _ (hs7.later hb8) hs8).mono ?_; rw [decide_eq_true rfl]; rintro e w9 ⟨rfl, hb9⟩)
    | (go_at_call 18; refine (meet_any D t u hmod ht.1 t64 hu.1 u64 _).mono ?_; rw [HR.out]; rintro e w10 ⟨rfl, hb10⟩)
    | (go_at_call 19; refine (rmeet_any D t u hmod ht.1 t64 hu.1 u64 HLL.out _).mono ?_; rintro e w11 ⟨rfl, hb11⟩)
    | (go_at_call 20; refine (shown7_any _).mono ?_; rintro e w12 ⟨rfl, hb12⟩))
  go_ret
  have k2 := below_next hb1 hb1.size hb2
  have k3 := below_next k2 k2.size hb3
  have k4 := below_next k3 k3.size hb4
  have k5 := below_next k4 k4.size hb5
  have k6 := below_next k5 k5.size hb6
  have k7 := below_next k6 k6.size hb7
  have k8 := below_next k7 k7.size hb8
  have k9 := below_next k8 k8.size hb9
  have k10 := below_next k9 k9.size hb10
  have k11 := below_next k10 k10.size hb11
  exact ⟨rfl, below_next k11 k11.size hb12⟩
end Go.Proofs.Ytagbngilgjmjiaa
