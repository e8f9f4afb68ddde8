/- The walk of ShapeMeets. -/
import Derived.Test.YtagbngilgjmjiaaW7Base
import Derived.Test.YtagbngilgjmjiaaW7Math
import Derived.Lib.QuietBelow
import Derived.Deep.QuietTactic
import Derived.Deep.RegionWith
namespace Go.Proofs.Ytagbngilgjmjiaa
open Go.RowKit Go.Sort
set_option linter.unusedVariables false

theorem leaf_half (D t u : Int) (h : t / 2 = u / 2) : leafV D t = leafV D u := by unfold leafV; rw [h]
theorem path_at (n : Nat) (hn : 1 ≤ n ∧ n ≤ 4) (t : Int) (i : Nat) (x : Int) (hx : (pathV n t)[i]? = some x) : 1 ≤ x ∧ x < 16 := by
  obtain ⟨d, a, e, hd, _, ha, hl, _, hp⟩ := path_leaf n t (by omega)
  obtain rfl : n = d := by omega
  rw [hp] at hx
  have hi : i < n := by
    have := (List.getElem?_eq_some_iff.1 hx).1
    rwa [ups_len n hd a ha hl] at this
  have := ups_lo n hd a ha i (by omega) (by simp [hl, hi])
  rwa [at2_of hx] at this
theorem meet_above (n : Nat) (hn : 1 ≤ n ∧ n ≤ 4) (t u : Int) (i : Nat) (x y : Int) (hx : (pathV n t)[i]? = some x) (hy : (pathV n u)[i]? = some y) : decide (x = y) = decide (levV x ≤ levV (meetV n t u)) := by
  obtain ⟨d, a, b, e, hd, _, ha, hb, hl, hl', _, _, hp, hp'⟩ := meet_two n t u (by omega)
  obtain rfl : n = d := by omega
  unfold meetV
  rw [hp] at hx ⊢
  rw [hp'] at hy ⊢
  have hi : i < n := by
    have := (List.getElem?_eq_some_iff.1 hx).1
    rwa [ups_len n hd a ha hl] at this
  have := meet_up n hd a ha b hb i (by omega) (by simp [hl, hl', hi])
  rwa [at2_of hx, at2_of hy] at this

set_option maxRecDepth 100000 in
set_option maxHeartbeats 4000000 in
theorem walkMeets (dp t u : Int) (hdp : 0 ≤ dp ∧ dp ≤ 255) (ht : 0 ≤ t ∧ t ≤ 65535) (hu : 0 ≤ u ∧ u ≤ 65535) (w : World) :
    Calls Try.prog 5 #[.int .u8 dp, .int .u16 t, .int .u16 u] w (BoolPost true w) := by
  obtain ⟨d, hd, hdl⟩ : ∃ d : Nat, dp.tmod 4 = (d : Int) ∧ d ≤ 3 := ⟨(dp % 4).toNat, by rw [Int.tmod_eq_emod_of_nonneg hdp.1]; omega, by omega⟩
  obtain ⟨n, hd1, hn⟩ : ∃ n : Nat, (1 : Int) + (d : Int) = (n : Int) ∧ (1 ≤ n ∧ n ≤ 4) := ⟨d + 1, by omega, by omega⟩
  have hD : 0 ≤ (n : Int) ∧ (n : Int) ≤ 4 := by omega
  have hD1 : 1 ≤ (n : Int) ∧ (n : Int) ≤ 4 := by omega
  have ht64 : I64 t := i64_small (by omega) (by omega)
  have hu64 : I64 u := i64_small (by omega) (by omega)
  have HLa : Hid ((pathV n t).length = n) := hide (by have := path_len n t hD; omega)
  have HLb : Hid ((pathV n u).length = n) := hide (by have := path_len n u hD; omega)
  have HMt := hide (meet_turn n t u hD1)
  obtain ⟨hm1, hm2⟩ := meet_low n t u hD1
  have HAb := hide (meet_above n hn t u)
  have HPa := hide (path_at n hn t)
  have HLf : Hid (t / 2 = u / 2 → meetV n t u = leafV n t) := hide (fun h => meet_leaf n t u hD1 (leaf_half n t u h))
  have c1 := fun w => hide (meet_any n t u hD ht.1 ht64 hu.1 hu64 w)
  have c2 := fun w => hide (meet_any n u t hD hu.1 hu64 ht.1 ht64 w)
  obtain ⟨mv, hmv⟩ : ∃ mv, meetV n t u = mv := ⟨_, rfl⟩
  rw [← HMt.out] at c2
  rw [hmv] at c1 c2 hm1 hm2 HAb HLf
  clear hmv HMt
  have c3 := fun w => hide (path_any n t hD ht.1 ht64 w)
  have c4 := fun w => hide (path_any n u hD hu.1 hu64 w)
  rw [HLa.out] at c3
  rw [HLb.out] at c4
  have c5 := fun w => hide (leaf_any n t hD ht.1 ht64 w)
  obtain ⟨xs, hxs⟩ : ∃ xs, pathV n t = xs := ⟨_, rfl⟩
  obtain ⟨ys, hys⟩ : ∃ ys, pathV n u = ys := ⟨_, rfl⟩
  rw [hxs] at c3 HAb HPa
  rw [hys] at c4 HAb
  clear hxs hys HLa HLb
  go_enter Try.func5, Try.ntmps5
  go_wp2_with (first
    | (go_at_call 18; refine ((c1 _).out).mono ?_; clear c1; rintro e w1 ⟨rfl, hb1⟩)
    | (go_at_call 16; refine ((c3 _).out).mono ?_; clear c3; rintro e w2 ⟨A, ca, rfl, hca, hs2, hb2⟩)
    | (go_at_call 16; refine ((c4 _).out).mono ?_; clear c4; rintro e w3 ⟨B, cb, rfl, hcb, hs3, hb3⟩)
    | (go_at_call 18; refine ((c2 _).out).mono ?_; clear c2; rintro e w4 ⟨rfl, hb4⟩)
    | (go_at_call 20; refine (shown7_any _).mono ?_; rintro e w5 ⟨rfl, hb5⟩))
  have sa := ((hs2.later hb3).later hb4).later hb5
  have sb := (hs3.later hb4).later hb5
  have hB5 : Below w.heap.size w w5 := by
    have k2 := below_next hb1 hb1.size hb2
    have k3 := below_next k2 k2.size hb3
    have k4 := below_next k3 k3.size hb4
    exact below_next k4 k4.size hb5
  clear hs2 hs3 hb1 hb2 hb3 hb4 hb5
  go_loopw [11] (fun i wr => ∃ j : Nat, j ≤ n ∧ i = .int .i64 j ∧ Below w5.heap.size w5 wr) (fun i _ => n - (intOf i).toNat)
  case atStart => exact ⟨0, Nat.zero_le _, rfl, Below.refl _ _⟩
  case round =>
    obtain ⟨j, hj, rfl, hB⟩ := hrel
    by_cases hlt : j < n
    · obtain ⟨b, off, xa, rfl, hk, hx, hc⟩ := (sa.later hB).num hlt
      obtain ⟨b', off', xb, rfl, hk', hy, hc'⟩ := (sb.later hB).num hlt
      have hdec := HAb.out j xa xb hx hy
      have hxa := HPa.out j xa hx
      have q1 := cell_regrown hc
      have q2 := cell_regrown hc'
      have Q1 := hide (fun d os => Calls.regrown_of (w := wr) (level_any xa (i64_small (by omega) (by omega)) (grow (redrawn wr d) os)))
      have Q2 := hide (fun d os => Calls.regrown_of (w := wr) (level_any mv (i64_small (by omega) (by omega)) (grow (redrawn wr d) os)))
      have hj0 : (0 : Int) ≤ (j : Int) := Int.natCast_nonneg _
      have hj1 : (j : Int) < (n : Int) := by omega
      obtain ⟨la, hla⟩ : ∃ la, levV xa = la := ⟨_, rfl⟩
      obtain ⟨lm, hlm⟩ : ∃ lm, levV mv = lm := ⟨_, rfl⟩
      rw [hla] at Q1 hdec
      rw [hlm] at Q2 hdec
      clear hla hlm hx hy c5 HAb HPa HLf hc hc' sa sb hxa
      by_cases he : xa = xb
      · have hle : la ≤ lm := by rw [decide_eq_true he] at hdec; exact of_decide_eq_true hdec.symm
        clear hdec
        have he1 : (xa == xb) = true := beq_iff_eq.2 he
        clear he
        go_wp2_with fail
        refine wp_region_quiet_below (by kernel_rfl) (by kernel_rfl) ?_
        repeat (quiet_step (first | (go_at_call_of 13 xa; exact Q1.out _ _) | (go_at_call_of 13 mv; exact Q2.out _ _)))
        refine wpQuiet_nil ?_
        intro _ hw'
        obtain ⟨⟨dq, osq⟩, hw''⟩ := hw'
        subst hw''
        have hBn := below_next hB hB.size (below_regrown wr dq osq)
        go_wp2
        go_roundw
        case rel => exact ⟨j + 1, by omega, by go_num, hBn⟩
        case measure => simp [intOf]; omega
      · have hle : lm < la := by
          rw [decide_eq_false he] at hdec
          have := of_decide_eq_false hdec.symm
          omega
        clear hdec
        have he1 : (xa == xb) = false := beq_eq_false_iff_ne.2 he
        have hle1 : decide (la ≤ lm) = false := decide_eq_false (by omega)
        clear he
        go_wp2_with fail
        refine wp_region_quiet_below (by kernel_rfl) (by kernel_rfl) ?_
        repeat (quiet_step (first | (go_at_call_of 13 xa; exact Q1.out _ _) | (go_at_call_of 13 mv; exact Q2.out _ _)))
        refine wpQuiet_nil ?_
        intro _ hw'
        obtain ⟨⟨dq, osq⟩, hw''⟩ := hw'
        subst hw''
        have hBn := below_next hB hB.size (below_regrown wr dq osq)
        go_wp2
        go_roundw
        case rel => exact ⟨j + 1, by omega, by go_num, hBn⟩
        case measure => simp [intOf]; omega
    · obtain rfl : j = n := by omega
      have kt := half_wrap ht64 ht.1
      have ku := half_wrap hu64 hu.1
      have hBw := below_next hB5 hB5.size hB
      by_cases he : t / 2 = u / 2
      · have hm := HLf.out he
        obtain ⟨lf, hlf⟩ : ∃ lf, leafV j t = lf := ⟨_, rfl⟩
        rw [hlf] at c5 hm
        clear hlf HLf HAb HPa
        subst hm
        go_wp2_with (go_at_call 9; refine ((c5 _).out).mono ?_; clear c5; rintro e w6 ⟨rfl, hb6⟩)
        go_ret
        exact ⟨rfl, below_next hBw hBw.size hb6⟩
      · have he1 : (t / 2 != u / 2) = true := bne_iff_ne.2 he
        clear HLf HAb HPa
        go_wp2
        go_ret
        exact ⟨rfl, hBw⟩
end Go.Proofs.Ytagbngilgjmjiaa
