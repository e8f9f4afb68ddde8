/- The walks of OperOrder, OperTwice, OperBack: each returns true, and turns nothing that was there. -/
import Derived.Test.YtncemiifbknnnaaShown
import Derived.Test.YtncemiifbknnnaaFacts
namespace Go.Proofs.Ytncemiifbknnnaa
open Go.RowKit

theorem zero_i64 : I64 0 := lit_i64 0 (by omega)

set_option maxHeartbeats 400000 in
theorem walkOrder (a0 a1 a2 a3 : Int) (h0 : 0 ≤ a0) (h0' : a0 ≤ 255) (w1 : I64 a1) (w2 : I64 a2) (w3 : I64 a3) (w : World) :
    Calls Try.prog 7 #[.int .u8 a0, .int .i64 a1, .int .i64 a2, .int .i64 a3] w (ShownPost w) := by
  obtain ⟨y1, hy1⟩ : ∃ y, apV (1 + a0 % 6) a1 a3 0 0 = y := ⟨_, rfl⟩
  obtain ⟨y2, hy2⟩ : ∃ y, apV (1 + a0 % 6) a2 a3 0 0 = y := ⟨_, rfl⟩
  obtain ⟨z, hz⟩ : ∃ y, apV (1 + a0 % 6) a2 y1 0 0 = y := ⟨_, rfl⟩
  have hz' : apV (1 + a0 % 6) a1 y2 0 0 = z := by rw [← hy2, ap_order _ _ _ _ (by omega), hy1, hz]
  have i1 : I64 y1 := by rw [← hy1]; exact ap_i64 w1 w3 zero_i64 zero_i64
  have i2 : I64 y2 := by rw [← hy2]; exact ap_i64 w2 w3 zero_i64 zero_i64
  have Y1 := hide hy1; have Y2 := hide hy2; have Z := hide hz; have Z' := hide hz'
  clear hy1 hy2 hz hz'
  go_enter Try.func7, Try.ntmps7
  go_wp2_with fail
  refine (apply_is _ _ _ _ _ _ true _ w3 w1 zero_i64 zero_i64 Y1.out (ap_true _ _ _ _ _ (by omega))).mono ?_
  rintro e u1 ⟨rfl, hb1⟩
  go_wp2_with fail
  refine (apply_is _ _ _ _ _ _ true _ i1 w2 zero_i64 zero_i64 Z.out (ap_true _ _ _ _ _ (by omega))).mono ?_
  rintro e u2 ⟨rfl, hb2⟩
  go_wp2_with fail
  refine (apply_is _ _ _ _ _ _ true _ w3 w2 zero_i64 zero_i64 Y2.out (ap_true _ _ _ _ _ (by omega))).mono ?_
  rintro e u3 ⟨rfl, hb3⟩
  go_wp2_with fail
  refine (apply_is _ _ _ _ _ _ true _ i2 w1 zero_i64 zero_i64 Z'.out (ap_true _ _ _ _ _ (by omega))).mono ?_
  rintro e u4 ⟨rfl, hb4⟩
  go_wp2_with fail
  refine (shown_any _).mono ?_
  rintro e u5 ⟨rfl, hb5⟩
  go_wp2
  go_ret
  have s1 := hb1.size; have s2 := hb2.size; have s3 := hb3.size; have s4 := hb4.size
  exact ⟨rfl, (((hb1.trans (hb2.mono (by omega))).trans (hb3.mono (by omega))).trans (hb4.mono (by omega))).trans (hb5.mono (by omega))⟩

theorem wrap_raw (n : Int) : I64 (wrap64 n) := i64_wrap n

set_option maxHeartbeats 400000 in
theorem walkTwice (a0 a1 a2 a3 : Int) (h0 : 0 ≤ a0) (h0' : a0 ≤ 255) (w1 : I64 a1) (w2 : I64 a2) (w3 : I64 a3) (w : World) :
    Calls Try.prog 6 #[.int .u8 a0, .int .i64 a1, .int .i64 a2, .int .i64 a3] w (ShownPost w) := by
  obtain ⟨y1, hy1⟩ : ∃ y, apV (3 + a0 % 5) a1 a3 0 0 = y := ⟨_, rfl⟩
  have hy2 : apV (3 + a0 % 5) a1 y1 0 0 = y1 := by rw [← hy1, ap_twice _ _ _ (by omega)]
  obtain ⟨c, hc⟩ : ∃ y, apV 1 a1 a3 0 0 = y := ⟨_, rfl⟩
  obtain ⟨d, hd⟩ : ∃ y, apV 1 a2 c 0 0 = y := ⟨_, rfl⟩
  have he : apV 1 (wrap64 (a1 + a2)) a3 0 0 = d := by rw [← ap_adds, hc, hd]
  have i1 : I64 y1 := by rw [← hy1]; exact ap_i64 w1 w3 zero_i64 zero_i64
  have i2 : I64 c := by rw [← hc]; exact ap_i64 w1 w3 zero_i64 zero_i64
  have Y1 := hide hy1; have Y2 := hide hy2; have C := hide hc; have D := hide hd; have E := hide he
  clear hy1 hy2 hc hd he
  go_enter Try.func6, Try.ntmps6
  go_wp2_with fail
  refine (apply_is _ _ _ _ _ _ true _ w3 w1 zero_i64 zero_i64 Y1.out (ap_true _ _ _ _ _ (by omega))).mono ?_
  rintro e u1 ⟨rfl, hb1⟩
  have hc1 := hb1.cell (p := ⟨w.heap.size, 0, none⟩) (by simp)
  have hc2 := hb1.cell (p := ⟨w.heap.size, 1, none⟩) (by simp)
  go_wp2_with fail
  refine (apply_is _ _ _ _ _ _ true _ i1 w1 zero_i64 zero_i64 Y2.out (ap_true _ _ _ _ _ (by omega))).mono ?_
  rintro e u2 ⟨rfl, hb2⟩
  clear hc1 hc2
  go_wp2_with fail
  refine (apply_is _ _ _ _ _ _ true _ w3 w1 zero_i64 zero_i64 C.out (ap_true _ _ _ _ _ (by omega))).mono ?_
  rintro e u3 ⟨rfl, hb3⟩
  go_wp2_with fail
  refine (apply_is _ _ _ _ _ _ true _ i2 w2 zero_i64 zero_i64 D.out (ap_true _ _ _ _ _ (by omega))).mono ?_
  rintro e u4 ⟨rfl, hb4⟩
  go_wp2_with fail
  refine (apply_is _ _ _ _ _ _ true _ w3 (i64_wrap _) zero_i64 zero_i64 E.out (ap_true _ _ _ _ _ (by omega))).mono ?_
  rintro e u5 ⟨rfl, hb5⟩
  go_wp2_with fail
  refine (shown_any _).mono ?_
  rintro e u6 ⟨rfl, hb6⟩
  go_wp2
  go_ret
  have s1 := hb1.size; have s2 := hb2.size; have s3 := hb3.size; have s4 := hb4.size; have s5 := hb5.size
  simp at s1
  exact ⟨rfl, ((((((Below.refl _ _).alloc (Nat.le_refl _) _).trans (hb1.mono (by simp))).trans (hb2.mono (by omega))).trans (hb3.mono (by omega))).trans (hb4.mono (by omega))).trans ((hb5.mono (by omega)).trans (hb6.mono (by omega)))⟩

end Go.Proofs.Ytncemiifbknnnaa
