/- The walk of ShapeEnds. -/
import Derived.Test.YtagbngilgjmjiaaW7Meets
import Derived.BigQuiet
namespace Go.Proofs.Ytagbngilgjmjiaa
open Go.RowKit Go.Sort
set_option linter.unusedVariables false

theorem path_here (n : Nat) (hn : n ≤ 4) (t : Int) (i : Nat) (x : Int) (hx : (pathV n t)[i]? = some x) : levV x = (n : Int) - 1 - (i : Int) ∧ (i = 0 → x = leafV n t) ∧ (i + 1 = n → x = 1) ∧ 1 ≤ x ∧ x < 16 := by
  have hl0 := path_len n t (by omega)
  have hin := (List.getElem?_eq_some_iff.1 hx).1
  have hi : i < n := by omega
  obtain ⟨d, a, e, hd, _, ha, hl, hlf, hp⟩ := path_leaf n t (by omega)
  obtain rfl : n = d := by omega
  rw [hp] at hx
  have h1 := ups_lev n hd a ha i (by omega) (by simp [hl, hi])
  have h2 := ups_first n hd a ha hl
  have h3 := ups_last n hd a ha hl
  have h4 := ups_lo n hd a ha i (by omega) (by simp [hl, hi])
  rw [at2_of hx] at h1 h4
  refine ⟨h1, ?_, ?_, h4⟩
  · rintro rfl
    rw [at2_of hx] at h2
    rw [h2, hlf]
  · intro h
    rw [show n - 1 = i by omega, at2_of hx] at h3
    exact h3
theorem wrapN {v : Int} (h1 : -1000000000 ≤ v) (h2 : v ≤ 1000000000) : IntKind.i64.wrap v = v := by rw [IntKind.wrap_i64]; omega
theorem path_next (n : Nat) (hn : n ≤ 4) (t : Int) (i : Nat) (x y : Int) (hx : (pathV n t)[i]? = some x) (hy : (pathV n t)[i + 1]? = some y) : parV x = y := by
  have hl0 := path_len n t (by omega)
  have hin := (List.getElem?_eq_some_iff.1 hy).1
  obtain ⟨d, a, e, hd, _, ha, hl, hlf, hp⟩ := path_leaf n t (by omega)
  obtain rfl : n = d := by omega
  rw [hp] at hx hy
  have h := ups_next n hd a ha (i + 1) (by omega) (by simp [hl]; omega) (by omega)
  rwa [show i + 1 - 1 = i by omega, at2_of hx, at2_of hy] at h

set_option maxRecDepth 100000 in
set_option maxHeartbeats 1000000 in
theorem walkEnds (dp t : Int) (hdp : 0 ≤ dp ∧ dp ≤ 255) (ht : 0 ≤ t ∧ t ≤ 65535) (w : World) :
    Calls Try.prog 4 #[.int .u8 dp, .int .u16 t] w (BoolPost true w) := by
  obtain ⟨n, hd, hn⟩ : ∃ n : Nat, dp.tmod 5 = (n : Int) ∧ n ≤ 4 := ⟨(dp % 5).toNat, by rw [Int.tmod_eq_emod_of_nonneg hdp.1]; omega, by omega⟩
  have hD : 0 ≤ (n : Int) ∧ (n : Int) ≤ 4 := by omega
  have ht64 : I64 t := i64_small (by omega) (by omega)
  have HLa : Hid ((pathV n t).length = n) := hide (by have := path_len n t hD; omega)
  have c1 := fun w => hide (path_any n t hD ht.1 ht64 w)
  rw [HLa.out] at c1
  have c2 := fun w => hide (leaf_any n t hD ht.1 ht64 w)
  have HH := hide (path_here n hn t)
  have HN := hide (path_next n hn t)
  obtain ⟨xs, hxs⟩ : ∃ xs, pathV n t = xs := ⟨_, rfl⟩
  rw [hxs] at c1 HH HN
  clear hxs HLa
  go_enter Try.func4, Try.ntmps4
  go_wp2_with (first
    | (go_at_call 16; refine ((c1 _).out).mono ?_; clear c1; rintro e w1 ⟨A, ca, rfl, hca, hs1, hb1⟩)
    | (go_at_call 20; refine (shown7_any _).mono ?_; rintro e w2 ⟨rfl, hb2⟩))
  have sa := hs1.later hb2
  have hB2 : Below w.heap.size w w2 := below_next hb1 hb1.size hb2
  clear hs1 hb1 hb2
  go_loopw [7] (fun i wr => ∃ j : Nat, j ≤ n ∧ i = .int .i64 j ∧ Below w2.heap.size w2 wr) (fun i _ => n - (intOf i).toNat)
  case atStart => exact ⟨0, Nat.zero_le _, rfl, Below.refl _ _⟩
  case round =>
    obtain ⟨j, hj, rfl, hB⟩ := hrel
    by_cases hlt : j < n
    · obtain ⟨b, off, x, rfl, hk, hx, hc⟩ := (sa.later hB).num hlt
      obtain ⟨h1, h2, h3, h4, h5⟩ := HH.out j x hx
      have q1 := cell_regrown hc
      have Q1 := hide (fun d os => Calls.regrown_of (w := wr) (level_any x (i64_small (by omega) (by omega)) (grow (redrawn wr d) os)))
      rw [h1] at Q1
      have hj0 : (0 : Int) ≤ (j : Int) := Int.natCast_nonneg _
      have hj1 : (j : Int) < (n : Int) := by omega
      clear h1
      have v1 : IntKind.i64.wrap ((n : Int) - 1) = (n : Int) - 1 := wrapN (by omega) (by omega)
      have v2 : IntKind.i64.wrap ((n : Int) - 1 - (j : Int)) = (n : Int) - 1 - (j : Int) := wrapN (by omega) (by omega)
      have v4 : IntKind.i64.wrap t = t := wrapN (by omega) (by omega)
      by_cases hz : j = 0
      · have h2 := h2 hz
        have Q2 := hide (fun d os => Calls.regrown_of (w := wr) ((c2 (grow (redrawn wr d) os)).out))
        rw [← h2] at Q2
        have z1 : ((j : Int) == 0) = true := beq_iff_eq.2 (by omega)
        have z2 : decide (0 < j) = false := decide_eq_false (by omega)
        clear h2 hx c2 HH HN hc sa hz
        by_cases hl : j + 1 = n
        · have h3 := h3 hl
          have z3 : ((j : Int) == (n : Int) - 1) = true := beq_iff_eq.2 (by omega)
          have z4 : (x != 1) = false := by rw [h3]; rfl
          clear h3 hl
          go_wp2_with fail
          refine wp_region_quiet_below (by kernel_rfl) (by kernel_rfl) ?_
          repeat (go_big_quiet_step (first | (go_at_call_of 13 x; exact Q1.out _ _) | (go_at_call_of 9 t; exact Q2.out _ _)))
          refine wpQuiet_nil ?_
          intro _ hw'
          obtain ⟨⟨dq, osq⟩, hw''⟩ := hw'
          subst hw''
          have hBn := below_next hB hB.size (below_regrown wr dq osq)
          go_wp2
          go_roundw
          case rel => exact ⟨j + 1, by omega, by go_num, hBn⟩
          case measure => simp [intOf]; omega
        · have z3 : ((j : Int) == (n : Int) - 1) = false := beq_eq_false_iff_ne.2 (by omega)
          clear h3 hl
          go_wp2_with fail
          refine wp_region_quiet_below (by kernel_rfl) (by kernel_rfl) ?_
          repeat (go_big_quiet_step (first | (go_at_call_of 13 x; exact Q1.out _ _) | (go_at_call_of 9 t; exact Q2.out _ _)))
          refine wpQuiet_nil ?_
          intro _ hw'
          obtain ⟨⟨dq, osq⟩, hw''⟩ := hw'
          subst hw''
          have hBn := below_next hB hB.size (below_regrown wr dq osq)
          go_wp2
          go_roundw
          case rel => exact ⟨j + 1, by omega, by go_num, hBn⟩
          case measure => simp [intOf]; omega
      · obtain ⟨i, hi⟩ : ∃ i, j = i + 1 := ⟨j - 1, by omega⟩
        obtain ⟨b2, off2, y, e2, hk2, hy, hc2⟩ := (sa.later hB).num (k := i) (by omega)
        have e3 : b = b2 ∧ off = off2 := by simpa using e2
        obtain ⟨rfl, rfl⟩ := e3
        obtain ⟨_, _, _, h4', h5'⟩ := HH.out i y hy
        have hp := HN.out i y x hy (by rw [← hi]; exact hx)
        have q2 := cell_regrown hc2
        have Q3 := hide (fun d os => Calls.regrown_of (w := wr) (parent_any y (i64_small (by omega) (by omega)) (grow (redrawn wr d) os)))
        rw [hp] at Q3
        have z1 : ((j : Int) == 0) = false := beq_eq_false_iff_ne.2 (by omega)
        have z2 : 0 < j := by omega
        have z5 : (j : Int) - 1 = (i : Int) := by omega
        have v3 : IntKind.i64.wrap ((i : Int)) = (i : Int) := wrapN (by omega) (by omega)
        have z6 : (i : Int) < (n : Int) := by omega
        have z7 : (0 : Int) ≤ (i : Int) := by omega
        clear h2 hx hy hp c2 HH HN hc hc2 sa e2 hz
        by_cases hl : j + 1 = n
        · have h3 := h3 hl
          have z3 : ((j : Int) == (n : Int) - 1) = true := beq_iff_eq.2 (by omega)
          have z4 : (x != 1) = false := by rw [h3]; rfl
          clear h3 hl hi
          go_wp2_with fail
          refine wp_region_quiet_below (by kernel_rfl) (by kernel_rfl) ?_
          repeat (go_big_quiet_step (first | (go_at_call_of 13 x; exact Q1.out _ _) | (go_at_call_of 11 y; exact Q3.out _ _)))
          refine wpQuiet_nil ?_
          intro _ hw'
          obtain ⟨⟨dq, osq⟩, hw''⟩ := hw'
          subst hw''
          have hBn := below_next hB hB.size (below_regrown wr dq osq)
          go_wp2
          go_roundw
          case rel => exact ⟨j + 1, by omega, by go_num, hBn⟩
          case measure => simp [intOf]; omega
        · have z3 : ((j : Int) == (n : Int) - 1) = false := beq_eq_false_iff_ne.2 (by omega)
          clear h3 hl hi
          go_wp2_with fail
          refine wp_region_quiet_below (by kernel_rfl) (by kernel_rfl) ?_
          repeat (go_big_quiet_step (first | (go_at_call_of 13 x; exact Q1.out _ _) | (go_at_call_of 11 y; exact Q3.out _ _)))
          refine wpQuiet_nil ?_
          intro _ hw'
          obtain ⟨⟨dq, osq⟩, hw''⟩ := hw'
          subst hw''
          have hBn := below_next hB hB.size (below_regrown wr dq osq)
          go_wp2
          go_roundw
          case rel => exact ⟨j + 1, by omega, by go_num, hBn⟩
          case measure => simp [intOf]; omega
    · obtain rfl : j = n := by omega
      have hBw := below_next hB2 hB2.size hB
      go_wp2
      go_ret
      exact ⟨rfl, hBw⟩
end Go.Proofs.Ytagbngilgjmjiaa
