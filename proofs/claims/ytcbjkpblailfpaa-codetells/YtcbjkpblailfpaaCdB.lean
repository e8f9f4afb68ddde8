/- Contracts of nearest and read. -/
import Derived.Test.YtcbjkpblailfpaaCdA
import Derived.Lib.QuietBelow
import Derived.Deep.QuietTactic
import Derived.Deep.RegionWith
namespace Go.Proofs.Ytcbjkpblailfpaa
open Go.RowKit

theorem below_box2 (w : World) (a b c d a' b' c' d' : Int) (t t' : TypeId) : Below w.heap.size w ((w.alloc (.cells #[.int .i64 a, .int .i64 b, .int .i64 c, .int .i64 d] t)).alloc (.cells #[.int .i64 a', .int .i64 b', .int .i64 c', .int .i64 d'] t')) := (below_box w a b c d t).alloc (by simp) _

theorem nearest_0 (t i l : Int) (w : World) : Calls Try.prog 29 #[.agg #[.int .i64 0, .int .i64 t, .int .i64 i, .int .i64 l]] w (SayPost 0 (-1) i l w) := by
  go_enter Try.func29, Try.ntmps29
  go_wp2
  exact bodyPost_ret (v := .agg #[.int .i64 0, .int .i64 (-1), .int .i64 i, .int .i64 l]) (by simp [results, Try.results29, go_sem]) rfl ⟨rfl, below_box2 _ _ _ _ _ _ _ _ _ _ _⟩

theorem nearest_5 (t i l : Int) (w : World) : Calls Try.prog 29 #[.agg #[.int .i64 5, .int .i64 t, .int .i64 i, .int .i64 l]] w (SayPost 5 (-1) i l w) := by
  go_enter Try.func29, Try.ntmps29
  go_wp2
  exact bodyPost_ret (v := .agg #[.int .i64 5, .int .i64 (-1), .int .i64 i, .int .i64 l]) (by simp [results, Try.results29, go_sem]) rfl ⟨rfl, below_box2 _ _ _ _ _ _ _ _ _ _ _⟩

theorem nearest_1 (t i l : Int) (w : World) : Calls Try.prog 29 #[.agg #[.int .i64 1, .int .i64 t, .int .i64 i, .int .i64 l]] w (SayPost 1 (clV t 0 15) i l w) := by
  go_enter Try.func29, Try.ntmps29
  go_wp2_with (first
    | (go_at_call 31; refine (within_any _ _ _ (by decide) _).mono ?_; rintro e w1 ⟨rfl, rfl⟩))
  exact bodyPost_ret (v := .agg #[.int .i64 1, .int .i64 (clV t 0 15), .int .i64 i, .int .i64 l]) (by simp [results, Try.results29, go_sem]) rfl ⟨rfl, below_box2 _ _ _ _ _ _ _ _ _ _ _⟩

theorem nearest_2 (t i l : Int) (w : World) : Calls Try.prog 29 #[.agg #[.int .i64 2, .int .i64 t, .int .i64 i, .int .i64 l]] w (SayPost 2 (clV t 0 15) i l w) := by
  go_enter Try.func29, Try.ntmps29
  go_wp2_with (first
    | (go_at_call 31; refine (within_any _ _ _ (by decide) _).mono ?_; rintro e w1 ⟨rfl, rfl⟩))
  exact bodyPost_ret (v := .agg #[.int .i64 2, .int .i64 (clV t 0 15), .int .i64 i, .int .i64 l]) (by simp [results, Try.results29, go_sem]) rfl ⟨rfl, below_box2 _ _ _ _ _ _ _ _ _ _ _⟩

theorem nearest_3 (t i l : Int) (w : World) : Calls Try.prog 29 #[.agg #[.int .i64 3, .int .i64 t, .int .i64 i, .int .i64 l]] w (SayPost 3 (clV t 0 15) i l w) := by
  go_enter Try.func29, Try.ntmps29
  go_wp2_with (first
    | (go_at_call 31; refine (within_any _ _ _ (by decide) _).mono ?_; rintro e w1 ⟨rfl, rfl⟩))
  exact bodyPost_ret (v := .agg #[.int .i64 3, .int .i64 (clV t 0 15), .int .i64 i, .int .i64 l]) (by simp [results, Try.results29, go_sem]) rfl ⟨rfl, below_box2 _ _ _ _ _ _ _ _ _ _ _⟩

theorem nearest_4 (t i l : Int) (w : World) : Calls Try.prog 29 #[.agg #[.int .i64 4, .int .i64 t, .int .i64 i, .int .i64 l]] w (SayPost 4 t (clV i 0 3) (clV l 1 3) w) := by
  go_enter Try.func29, Try.ntmps29
  go_wp2_with (first
    | (go_at_call 31; refine (within_any _ _ _ (by decide) _).mono ?_; rintro e w1 ⟨rfl, rfl⟩))
  exact bodyPost_ret (v := .agg #[.int .i64 4, .int .i64 t, .int .i64 (clV i 0 3), .int .i64 (clV l 1 3)]) (by simp [results, Try.results29, go_sem]) rfl ⟨rfl, below_box2 _ _ _ _ _ _ _ _ _ _ _⟩

theorem nearest_6 (t i l : Int) (w : World) : Calls Try.prog 29 #[.agg #[.int .i64 6, .int .i64 t, .int .i64 i, .int .i64 l]] w (SayPost (-1) (-1) (-1) 0 w) := by
  have HS := hide (Say.new (w.alloc (.cells #[.int .i64 6, .int .i64 t, .int .i64 i, .int .i64 l] 33)) 0 0 0 0 33)
  have HB := hide (below_box2 w 6 t i l 0 0 0 0 33 33)
  go_enter Try.func29, Try.ntmps29
  go_wp2_with (first
    | (go_at_call 30; refine (nothing_any _).mono ?_; rintro e w1 ⟨rfl, hb1⟩; obtain ⟨hlt, c0, c1, c2, c3, f0, f1, f2, f3⟩ := HS.out.keep hb1; simp at c0 c1 c2 c3 f0 f1 f2 f3))
  refine bodyPost_ret (v := .agg #[.int .i64 (-1), .int .i64 (-1), .int .i64 (-1), .int .i64 0]) (by simp [results, Try.results29, go_sem, c0, c1, c2, c3]) rfl ⟨rfl, ?_⟩
  exact below_set4 (by simp) (below_next HB.out HB.out.size hb1) _ _ _ _

theorem nearest_7 (t i l : Int) (w : World) : Calls Try.prog 29 #[.agg #[.int .i64 7, .int .i64 t, .int .i64 i, .int .i64 l]] w (SayPost (-1) (-1) (-1) 0 w) := by
  have HS := hide (Say.new (w.alloc (.cells #[.int .i64 7, .int .i64 t, .int .i64 i, .int .i64 l] 33)) 0 0 0 0 33)
  have HB := hide (below_box2 w 7 t i l 0 0 0 0 33 33)
  go_enter Try.func29, Try.ntmps29
  go_wp2_with (first
    | (go_at_call 30; refine (nothing_any _).mono ?_; rintro e w1 ⟨rfl, hb1⟩; obtain ⟨hlt, c0, c1, c2, c3, f0, f1, f2, f3⟩ := HS.out.keep hb1; simp at c0 c1 c2 c3 f0 f1 f2 f3))
  refine bodyPost_ret (v := .agg #[.int .i64 (-1), .int .i64 (-1), .int .i64 (-1), .int .i64 0]) (by simp [results, Try.results29, go_sem, c0, c1, c2, c3]) rfl ⟨rfl, ?_⟩
  exact below_set4 (by simp) (below_next HB.out HB.out.size hb1) _ _ _ _

end Go.Proofs.Ytcbjkpblailfpaa
