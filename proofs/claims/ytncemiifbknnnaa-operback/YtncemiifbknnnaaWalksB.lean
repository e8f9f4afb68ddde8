/- The walks of OperBack and OperWider: each returns true, and turns nothing that was there. -/
import Derived.Test.YtncemiifbknnnaaWalksA
namespace Go.Proofs.Ytncemiifbknnnaa
open Go.RowKit

theorem ap8_i64 {v x lo hi : Int} (hv : I64 v) (hx : I64 x) (hl : I64 lo) (hh : I64 hi) : I64 (putV x v lo hi) := by
  have := ap_i64 (t := 8) hv hx hl hh
  rwa [(apV8 v x lo hi).1] at this
theorem back8 (v x lo hi : Int) (hv : I64 v) (h0 : ¬ v = -9223372036854775808) (h1 : lo ≤ x) (h2 : x ≤ hi) (h : putB x v lo hi = true) :
    apV 8 (wrap64 (-v)) (putV x v lo hi) lo hi = x ∧ apB 8 (wrap64 (-v)) (putV x v lo hi) lo hi = true := by
  have e : wrap64 (-v) = -v := wrap64_id (by unfold I64 at *; omega)
  rw [e, (apV8 _ _ _ _).1, (apV8 _ _ _ _).2]
  exact ⟨(put_back v x lo hi h1 h2 h).2, (put_back v x lo hi h1 h2 h).1⟩

set_option maxHeartbeats 400000 in
theorem walkBack (a0 a1 a2 a3 : Int) (w0 : I64 a0) (w1 : I64 a1) (w2 : I64 a2) (w3 : I64 a3) (w : World) :
    Calls Try.prog 5 #[.int .i64 a0, .int .i64 a1, .int .i64 a2, .int .i64 a3] w (ShownPost w) := by
  obtain ⟨y1, hy1⟩ : ∃ y, apV 1 a0 a1 a2 a3 = y := ⟨_, rfl⟩
  have hy2 : apV 2 a0 y1 a2 a3 = a1 := by rw [← hy1, ap_back _ _ _ _ _ _ w1]
  have i1 : I64 y1 := by rw [← hy1]; exact ap_i64 w0 w1 w2 w3
  have Y1 := hide hy1; have Y2 := hide hy2
  clear hy1 hy2
  go_enter Try.func5, Try.ntmps5
  go_wp2_with fail
  refine (apply_is _ _ _ _ _ _ true _ w1 w0 w2 w3 Y1.out (ap_true _ _ _ _ _ (by omega))).mono ?_
  rintro e u1 ⟨rfl, hb1⟩
  go_wp2_with fail
  refine (apply_is _ _ _ _ _ _ true _ i1 w0 w2 w3 Y2.out (ap_true _ _ _ _ _ (by omega))).mono ?_
  rintro e u2 ⟨rfl, hb2⟩
  go_wp2_with fail
  refine (shown_any _).mono ?_
  rintro e u3 ⟨rfl, hb3⟩
  have s1 := hb1.size; have s2 := hb2.size
  have hB : Below w.heap.size w u3 := (hb1.trans (hb2.mono (by omega))).trans (hb3.mono (by omega))
  clear hb1 hb2 hb3 s1 s2
  go_wp2_with fail
  · go_ret; exact ⟨rfl, hB⟩
  · go_ret; exact ⟨rfl, hB⟩
  · have hn : ¬a0 = -9223372036854775808 := ‹_›
    have hh : ((a0 == -9223372036854775808) = false ∧ a2 ≤ a1) ∧ a1 ≤ a3 := ‹_›
    have s3 := hB.size
    cases hp : putB a1 a0 a2 a3
    · have P := hide hp
      clear hn hh hp
      refine (apply_is _ _ _ _ _ _ _ _ w1 w0 w2 w3 (apV8 _ _ _ _).1 ((apV8 _ _ _ _).2.trans P.out)).mono ?_
      have i8 := ap8_i64 w0 w1 w2 w3
      generalize putV a1 a0 a2 a3 = c at *
      rintro e u4 ⟨rfl, hb4⟩
      go_wp2_with fail
      refine (apply_any _ _ _ _ _ _ i8 (i64_wrap _) w2 w3).mono ?_
      rintro e u5 ⟨rfl, hb5⟩
      go_wp2
      go_ret
      have s4 := hb4.size
      exact ⟨rfl, (hB.trans (hb4.mono (by omega))).trans (hb5.mono (by omega))⟩
    · obtain ⟨e1, e2⟩ := back8 a0 a1 a2 a3 w0 hn hh.1.2 hh.2 hp
      have P := hide hp; have E1 := hide e1; have E2 := hide e2
      clear hn hh hp e1 e2
      refine (apply_is _ _ _ _ _ _ _ _ w1 w0 w2 w3 (apV8 _ _ _ _).1 ((apV8 _ _ _ _).2.trans P.out)).mono ?_
      have i8 := ap8_i64 w0 w1 w2 w3
      generalize putV a1 a0 a2 a3 = c at *
      rintro e u4 ⟨rfl, hb4⟩
      go_wp2_with fail
      refine (apply_is _ _ _ _ _ _ _ _ i8 (i64_wrap _) w2 w3 E1.out E2.out).mono ?_
      rintro e u5 ⟨rfl, hb5⟩
      go_wp2
      go_ret
      have s4 := hb4.size
      exact ⟨rfl, (hB.trans (hb4.mono (by omega))).trans (hb5.mono (by omega))⟩
  · go_ret; exact ⟨rfl, hB⟩

theorem wider_put (v x lo hi l h : Int) (hl : l ≤ lo) (hh : hi ≤ h) : apB 8 v x lo hi = true → apB 8 v x l h = true ∧ apV 8 v x l h = apV 8 v x lo hi := by
  rw [(apV8 _ _ _ _).1, (apV8 _ _ _ _).2, (apV8 _ _ _ _).1, (apV8 _ _ _ _).2]
  intro hp
  have hq : putB x v l h = true := by simp [putB] at hp ⊢; omega
  exact ⟨hq, by simp [putV, hp, hq]⟩
theorem wider_take (v x lo hi l h : Int) (hl : l ≤ lo) : apB 9 v x lo hi = true → apB 9 v x l h = true ∧ apV 9 v x l h ≤ apV 9 v x lo hi := by
  rw [(apV9 _ _ _ _).1, (apV9 _ _ _ _).2, (apV9 _ _ _ _).1, (apV9 _ _ _ _).2]
  intro hp
  have hq : takeB x v l = true := by simp [takeB] at hp ⊢; omega
  refine ⟨hq, ?_⟩
  simp only [takeV, hp, hq, if_true]
  simp [takeB] at hp
  repeat' split
  all_goals omega

set_option maxHeartbeats 1000000 in
theorem walkWider (v x lo hi more : Int) (w0 : I64 v) (w1 : I64 x) (w2 : I64 lo) (w3 : I64 hi) (w : World) :
    Calls Try.prog 9 #[.int .i64 v, .int .i64 x, .int .i64 lo, .int .i64 hi, .int .i64 more] w (ShownPost w) := by
  go_enter Try.func9, Try.ntmps9
  go_wp2_with (go_at_call 16; refine (shown_any _).mono ?_; rintro e u ⟨rfl, hb⟩)
  · have hh : (((lo ≤ hi ∧ 0 ≤ more) ∧ -4611686018427387904 ≤ lo) ∧ hi ≤ 4611686018427387903) ∧ more ≤ 4611686018427387904 := ‹_›
    have il : I64 (lo - more) := by unfold I64; omega
    have ih : I64 (hi + more) := by unfold I64; omega
    have hP := wider_put v x lo hi (lo - more) (hi + more) (by omega) (by omega)
    have hT := wider_take v x lo hi (lo - more) (hi + more) (by omega)
    clear hh
    obtain ⟨a, ha⟩ : ∃ y, apV 8 v x lo hi = y := ⟨_, rfl⟩
    obtain ⟨is, hi1⟩ : ∃ y, apB 8 v x lo hi = y := ⟨_, rfl⟩
    obtain ⟨b, hb0⟩ : ∃ y, apV 8 v x (lo - more) (hi + more) = y := ⟨_, rfl⟩
    obtain ⟨was, hi2⟩ : ∃ y, apB 8 v x (lo - more) (hi + more) = y := ⟨_, rfl⟩
    obtain ⟨c, hc⟩ : ∃ y, apV 9 v x lo hi = y := ⟨_, rfl⟩
    obtain ⟨does, hi3⟩ : ∃ y, apB 9 v x lo hi = y := ⟨_, rfl⟩
    obtain ⟨d, hd⟩ : ∃ y, apV 9 v x (lo - more) (hi + more) = y := ⟨_, rfl⟩
    obtain ⟨did, hi4⟩ : ∃ y, apB 9 v x (lo - more) (hi + more) = y := ⟨_, rfl⟩
    rw [ha, hi1, hb0, hi2] at hP
    rw [hc, hi3, hd, hi4] at hT
    have A := hide ha; have B := hide hb0; have C := hide hc; have D := hide hd
    have I1 := hide hi1; have I2 := hide hi2; have I3 := hide hi3; have I4 := hide hi4
    clear ha hb0 hc hd hi1 hi2 hi3 hi4
    have hP' : is = false ∨ (is = true ∧ was = true ∧ b = a) := by
      cases is
      · exact .inl rfl
      · exact .inr ⟨rfl, hP rfl⟩
    have hT' : does = false ∨ (does = true ∧ did = true ∧ d ≤ c) := by
      cases does
      · exact .inl rfl
      · exact .inr ⟨rfl, hT rfl⟩
    clear hP hT
    refine (apply_is _ _ _ _ _ _ _ _ w1 w0 w2 w3 A.out I1.out).mono ?_
    rintro e u1 ⟨rfl, hb1⟩
    go_wp2_with fail
    refine (apply_is _ _ _ _ _ _ _ _ w1 w0 il ih B.out I2.out).mono ?_
    rintro e u2 ⟨rfl, hb2⟩
    go_wp2_with fail
    refine (apply_is _ _ _ _ _ _ _ _ w1 w0 w2 w3 C.out I3.out).mono ?_
    rintro e u3 ⟨rfl, hb3⟩
    go_wp2_with fail
    refine (apply_is _ _ _ _ _ _ _ _ w1 w0 il ih D.out I4.out).mono ?_
    rintro e u4 ⟨rfl, hb4⟩
    have s := hb.size; have s1 := hb1.size; have s2 := hb2.size; have s3 := hb3.size
    have hB : Below w.heap.size w u4 := (((hb.trans (hb1.mono (by omega))).trans (hb2.mono (by omega))).trans (hb3.mono (by omega))).trans (hb4.mono (by omega))
    clear A B C D I1 I2 I3 I4 hb hb1 hb2 hb3 hb4 s s1 s2 s3
    rcases hP' with rfl | ⟨rfl, rfl, rfl⟩ <;> rcases hT' with rfl | ⟨rfl, rfl, hdc⟩
    all_goals
      go_wp2
      go_ret
      exact ⟨rfl, hB⟩
  all_goals (go_ret; exact ⟨rfl, hb⟩)
end Go.Proofs.Ytncemiifbknnnaa
