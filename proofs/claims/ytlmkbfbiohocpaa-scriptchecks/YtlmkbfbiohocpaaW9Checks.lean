/- The walk of ScriptChecks. -/
import Derived.Test.YtlmkbfbiohocpaaW9Base
namespace Go.Proofs.Ytlmkbfbiohocpaa
open Go.RowKit Go.Sort

set_option maxRecDepth 100000 in
set_option maxHeartbeats 4000000 in
theorem walkChecks (x0 x1 x2 x3 x4 x5 x6 x7 : Int) (b : Bool) (x9 x10 x11 : Int) (A : Option Addr) (cap : Nat) (l : List E5) (len : Nat) (hlen : len = l.length) (w : World) (hs : Sees w w.heap.size 5 A len (ec5 l)) : Calls Try.prog 3 #[.agg #[.int .i64 x0, .int .i64 x1, .int .i64 x2, .int .i64 x3, .int .i64 x4, .int .i64 x5, .int .i64 x6, .int .i64 x7, .bool b, .int .i64 x9, .int .i64 x10, .int .i64 x11], .slice A len cap] w (BoolPost true w) := by
  have HL := hide hlen
  clear hlen
  have hB : Below w.heap.size w (w.alloc (.cells #[.int .i64 x0, .int .i64 x1, .int .i64 x2, .int .i64 x3, .int .i64 x4, .int .i64 x5, .int .i64 x6, .int .i64 x7, .bool b, .int .i64 x9, .int .i64 x10, .int .i64 x11] 23)) := (Below.refl _ _).alloc (Nat.le_refl _) _
  have Q : (w.alloc (.cells #[.int .i64 x0, .int .i64 x1, .int .i64 x2, .int .i64 x3, .int .i64 x4, .int .i64 x5, .int .i64 x6, .int .i64 x7, .bool b, .int .i64 x9, .int .i64 x10, .int .i64 x11] 23)).cell? ⟨w.heap.size, 0, none⟩ = some (.int .i64 x0) ∧ (w.alloc (.cells #[.int .i64 x0, .int .i64 x1, .int .i64 x2, .int .i64 x3, .int .i64 x4, .int .i64 x5, .int .i64 x6, .int .i64 x7, .bool b, .int .i64 x9, .int .i64 x10, .int .i64 x11] 23)).cell? ⟨w.heap.size, 1, none⟩ = some (.int .i64 x1) ∧ (w.alloc (.cells #[.int .i64 x0, .int .i64 x1, .int .i64 x2, .int .i64 x3, .int .i64 x4, .int .i64 x5, .int .i64 x6, .int .i64 x7, .bool b, .int .i64 x9, .int .i64 x10, .int .i64 x11] 23)).cell? ⟨w.heap.size, 2, none⟩ = some (.int .i64 x2) ∧ (w.alloc (.cells #[.int .i64 x0, .int .i64 x1, .int .i64 x2, .int .i64 x3, .int .i64 x4, .int .i64 x5, .int .i64 x6, .int .i64 x7, .bool b, .int .i64 x9, .int .i64 x10, .int .i64 x11] 23)).cell? ⟨w.heap.size, 3, none⟩ = some (.int .i64 x3) ∧ (w.alloc (.cells #[.int .i64 x0, .int .i64 x1, .int .i64 x2, .int .i64 x3, .int .i64 x4, .int .i64 x5, .int .i64 x6, .int .i64 x7, .bool b, .int .i64 x9, .int .i64 x10, .int .i64 x11] 23)).cell? ⟨w.heap.size, 4, none⟩ = some (.int .i64 x4) ∧ (w.alloc (.cells #[.int .i64 x0, .int .i64 x1, .int .i64 x2, .int .i64 x3, .int .i64 x4, .int .i64 x5, .int .i64 x6, .int .i64 x7, .bool b, .int .i64 x9, .int .i64 x10, .int .i64 x11] 23)).cell? ⟨w.heap.size, 5, none⟩ = some (.int .i64 x5) ∧ (w.alloc (.cells #[.int .i64 x0, .int .i64 x1, .int .i64 x2, .int .i64 x3, .int .i64 x4, .int .i64 x5, .int .i64 x6, .int .i64 x7, .bool b, .int .i64 x9, .int .i64 x10, .int .i64 x11] 23)).cell? ⟨w.heap.size, 6, none⟩ = some (.int .i64 x6) ∧ (w.alloc (.cells #[.int .i64 x0, .int .i64 x1, .int .i64 x2, .int .i64 x3, .int .i64 x4, .int .i64 x5, .int .i64 x6, .int .i64 x7, .bool b, .int .i64 x9, .int .i64 x10, .int .i64 x11] 23)).cell? ⟨w.heap.size, 7, none⟩ = some (.int .i64 x7) ∧ (w.alloc (.cells #[.int .i64 x0, .int .i64 x1, .int .i64 x2, .int .i64 x3, .int .i64 x4, .int .i64 x5, .int .i64 x6, .int .i64 x7, .bool b, .int .i64 x9, .int .i64 x10, .int .i64 x11] 23)).cell? ⟨w.heap.size, 8, none⟩ = some (.bool b) ∧ (w.alloc (.cells #[.int .i64 x0, .int .i64 x1, .int .i64 x2, .int .i64 x3, .int .i64 x4, .int .i64 x5, .int .i64 x6, .int .i64 x7, .bool b, .int .i64 x9, .int .i64 x10, .int .i64 x11] 23)).cell? ⟨w.heap.size, 9, none⟩ = some (.int .i64 x9) ∧ (w.alloc (.cells #[.int .i64 x0, .int .i64 x1, .int .i64 x2, .int .i64 x3, .int .i64 x4, .int .i64 x5, .int .i64 x6, .int .i64 x7, .bool b, .int .i64 x9, .int .i64 x10, .int .i64 x11] 23)).cell? ⟨w.heap.size, 10, none⟩ = some (.int .i64 x10) ∧ (w.alloc (.cells #[.int .i64 x0, .int .i64 x1, .int .i64 x2, .int .i64 x3, .int .i64 x4, .int .i64 x5, .int .i64 x6, .int .i64 x7, .bool b, .int .i64 x9, .int .i64 x10, .int .i64 x11] 23)).cell? ⟨w.heap.size, 11, none⟩ = some (.int .i64 x11) := by simp [go_sem]
  by_cases hbig : 70000 < len
  · clear Q
    go_enter Try.func3, Try.ntmps3
    go_wp2_with (go_at_call 9; refine (shown9_any _).mono ?_; rintro x w1 ⟨rfl, hb1⟩)
    go_ret
    exact ⟨rfl, below_next hB hB.size hb1⟩
  · have hd : decide (70000 < (len : Int)) = false := decide_eq_false (by omega)
    have hmax : len ≤ 100000 := by omega
    obtain ⟨⟨ri, re⟩, hr⟩ : ∃ r, alV (ckV x0 x1 x2 x3 x4 x5 x6 x7 b x9 x10 x11) x0 x1 b l = r := ⟨_, rfl⟩
    have K1 := hide (all9_any x0 x1 x2 x3 x4 x5 x6 x7 b x9 x10 x11 A cap l len HL.out hmax)
    have K2 := hide (fun A c => rall9_any x0 x1 x2 x3 x4 x5 x6 x7 b x9 x10 x11 A c l len HL.out hmax)
    rw [hr] at K1
    simp only [hr] at K2
    clear hr
    obtain ⟨ck, hck⟩ : ∃ n, ckV x0 x1 x2 x3 x4 x5 x6 x7 b x9 x10 x11 = n := ⟨_, rfl⟩
    have K3 := hide (rcheck_any x0 x1 x2 x3 x4 x5 x6 x7 b x9 x10 x11)
    rw [hck] at K3
    clear hck
    have K4 := hide (check9_any x0 x1 x2 x3 x4 x5 x6 x7 b x9 x10 x11)
    have K5 := hide (rcheck9_any x0 x1 x2 x3 x4 x5 x6 x7 b x9 x10 x11)
    go_enter Try.func3, Try.ntmps3
    replace hs := hs.later hB
    go_wp2_with fail
    refine (shown9_any _).mono ?_
    rintro x w1 ⟨rfl, hb⟩
    replace hs := hs.later hb
    replace Q := keep12 Q hb
    replace hB := below_next hB hB.size hb
    clear hb
    have hb : Below w1.heap.size w1 (w1.alloc (.cells #[.int .i64 x0, .int .i64 x1, .int .i64 x2, .int .i64 x3, .int .i64 x4, .int .i64 x5, .int .i64 x6, .int .i64 x7, .bool b, .int .i64 x9, .int .i64 x10, .int .i64 x11] 26)) := (Below.refl _ _).alloc (Nat.le_refl _) _
    have R : (w1.alloc (.cells #[.int .i64 x0, .int .i64 x1, .int .i64 x2, .int .i64 x3, .int .i64 x4, .int .i64 x5, .int .i64 x6, .int .i64 x7, .bool b, .int .i64 x9, .int .i64 x10, .int .i64 x11] 26)).cell? ⟨w1.heap.size, 0, none⟩ = some (.int .i64 x0) ∧ (w1.alloc (.cells #[.int .i64 x0, .int .i64 x1, .int .i64 x2, .int .i64 x3, .int .i64 x4, .int .i64 x5, .int .i64 x6, .int .i64 x7, .bool b, .int .i64 x9, .int .i64 x10, .int .i64 x11] 26)).cell? ⟨w1.heap.size, 1, none⟩ = some (.int .i64 x1) ∧ (w1.alloc (.cells #[.int .i64 x0, .int .i64 x1, .int .i64 x2, .int .i64 x3, .int .i64 x4, .int .i64 x5, .int .i64 x6, .int .i64 x7, .bool b, .int .i64 x9, .int .i64 x10, .int .i64 x11] 26)).cell? ⟨w1.heap.size, 2, none⟩ = some (.int .i64 x2) ∧ (w1.alloc (.cells #[.int .i64 x0, .int .i64 x1, .int .i64 x2, .int .i64 x3, .int .i64 x4, .int .i64 x5, .int .i64 x6, .int .i64 x7, .bool b, .int .i64 x9, .int .i64 x10, .int .i64 x11] 26)).cell? ⟨w1.heap.size, 3, none⟩ = some (.int .i64 x3) ∧ (w1.alloc (.cells #[.int .i64 x0, .int .i64 x1, .int .i64 x2, .int .i64 x3, .int .i64 x4, .int .i64 x5, .int .i64 x6, .int .i64 x7, .bool b, .int .i64 x9, .int .i64 x10, .int .i64 x11] 26)).cell? ⟨w1.heap.size, 4, none⟩ = some (.int .i64 x4) ∧ (w1.alloc (.cells #[.int .i64 x0, .int .i64 x1, .int .i64 x2, .int .i64 x3, .int .i64 x4, .int .i64 x5, .int .i64 x6, .int .i64 x7, .bool b, .int .i64 x9, .int .i64 x10, .int .i64 x11] 26)).cell? ⟨w1.heap.size, 5, none⟩ = some (.int .i64 x5) ∧ (w1.alloc (.cells #[.int .i64 x0, .int .i64 x1, .int .i64 x2, .int .i64 x3, .int .i64 x4, .int .i64 x5, .int .i64 x6, .int .i64 x7, .bool b, .int .i64 x9, .int .i64 x10, .int .i64 x11] 26)).cell? ⟨w1.heap.size, 6, none⟩ = some (.int .i64 x6) ∧ (w1.alloc (.cells #[.int .i64 x0, .int .i64 x1, .int .i64 x2, .int .i64 x3, .int .i64 x4, .int .i64 x5, .int .i64 x6, .int .i64 x7, .bool b, .int .i64 x9, .int .i64 x10, .int .i64 x11] 26)).cell? ⟨w1.heap.size, 7, none⟩ = some (.int .i64 x7) ∧ (w1.alloc (.cells #[.int .i64 x0, .int .i64 x1, .int .i64 x2, .int .i64 x3, .int .i64 x4, .int .i64 x5, .int .i64 x6, .int .i64 x7, .bool b, .int .i64 x9, .int .i64 x10, .int .i64 x11] 26)).cell? ⟨w1.heap.size, 8, none⟩ = some (.bool b) ∧ (w1.alloc (.cells #[.int .i64 x0, .int .i64 x1, .int .i64 x2, .int .i64 x3, .int .i64 x4, .int .i64 x5, .int .i64 x6, .int .i64 x7, .bool b, .int .i64 x9, .int .i64 x10, .int .i64 x11] 26)).cell? ⟨w1.heap.size, 9, none⟩ = some (.int .i64 x9) ∧ (w1.alloc (.cells #[.int .i64 x0, .int .i64 x1, .int .i64 x2, .int .i64 x3, .int .i64 x4, .int .i64 x5, .int .i64 x6, .int .i64 x7, .bool b, .int .i64 x9, .int .i64 x10, .int .i64 x11] 26)).cell? ⟨w1.heap.size, 10, none⟩ = some (.int .i64 x10) ∧ (w1.alloc (.cells #[.int .i64 x0, .int .i64 x1, .int .i64 x2, .int .i64 x3, .int .i64 x4, .int .i64 x5, .int .i64 x6, .int .i64 x7, .bool b, .int .i64 x9, .int .i64 x10, .int .i64 x11] 26)).cell? ⟨w1.heap.size, 11, none⟩ = some (.int .i64 x11) := by simp [go_sem]
    have Q2 := keep12 Q hb
    replace hs := hs.later hb
    replace hB := below_next hB hB.size hb
    clear hb
    go_wp2_with fail
    refine (its9_any A cap l len HL.out hmax _ hs).mono ?_
    rintro x w3 ⟨A3, c3, rfl, hc3, hs3, hb⟩
    clear Q
    have Q := Q2
    clear Q2
    replace hs := hs.later hb
    replace Q := keep12 Q hb
    replace R := keep12 R hb
    replace hB := below_next hB hB.size hb
    clear hb
    go_wp2_with fail
    refine (K1.out _ hs).mono ?_
    rintro x w4 ⟨rfl, hb⟩
    replace hs := hs.later hb
    replace hs3 := hs3.later hb
    replace Q := keep12 Q hb
    replace R := keep12 R hb
    replace hB := below_next hB hB.size hb
    clear hb
    go_wp2_with fail
    refine (K2.out A3 c3 _ hs3).mono ?_
    rintro x w5 ⟨rfl, hb⟩
    replace hs := hs.later hb
    replace hs3 := hs3.later hb
    replace Q := keep12 Q hb
    replace R := keep12 R hb
    replace hB := below_next hB hB.size hb
    clear hb
    clear K1 K2
    go_wp2
    go_loopw [11] (fun q wr => ∃ j : Nat, j ≤ len ∧ q = .int .i64 j ∧ Below w5.heap.size w5 wr) (fun q _ => len - (intOf q).toNat)
    case atStart => exact ⟨0, Nat.zero_le _, rfl, Below.refl _ _⟩
    case round =>
      obtain ⟨j, hj, rfl, hb⟩ := hrel
      have hr1 : Below w5.heap.size w5 wr := hb
      replace hs := hs.later hb
      replace hs3 := hs3.later hb
      replace Q := keep12 Q hb
      replace R := keep12 R hb
      replace hB := below_next hB hB.size hb
      clear hb
      by_cases hlt : j < len
      · by_cases h50 : j < 50
        · go_wp2_with fail
          refine (K3.out _).mono ?_
          rintro x w6 ⟨rfl, hb⟩
          replace hr1 := below_next hr1 hr1.size hb
          replace hs := hs.later hb
          replace hs3 := hs3.later hb
          replace Q := keep12 Q hb
          replace R := keep12 R hb
          replace hB := below_next hB hB.size hb
          clear hb
          by_cases h0 : ck = 0
          · subst h0
            have h1 := hs
            rw [HL.out] at h1
            obtain ⟨b1, o1, k, t, i, v1, v, rfl, lt1, he, c0, c1, c2, c3, c4⟩ := h1.ent5 (k := j) (by have := HL.out; omega)
            have h2 := hs3
            rw [HL.out] at h2
            obtain ⟨b2, o2, k2, t2, i2, v2, v3, rfl, lt2, he2, d0, d1, d2, d3, d4⟩ := h2.ent5 (k := j) (by have := HL.out; omega)
            rw [he] at he2
            simp only [Option.some.injEq, Prod.mk.injEq] at he2
            obtain ⟨rfl, rfl, rfl, rfl, rfl⟩ := he2
            have K6 := hide (K4.out k t i v1 v)
            have K7 := hide (K5.out k t i v1 v)
            obtain ⟨u, hu⟩ : ∃ u, chV x0 x1 b (k, t, i, v1, v) = u := ⟨_, rfl⟩
            rw [hu] at K6 K7
            have Q1 := hide (fun d os => Calls.regrown_of (w := w6) (K6.out (grow (redrawn w6 d) os)))
            have Q2 := hide (fun d os => Calls.regrown_of (w := w6) (K7.out (grow (redrawn w6 d) os)))
            have HB := hide hB
            have zr := hide hr1
            obtain ⟨q0, q1, q2, q3, q4, q5, q6, q7, q8, q9, q10, q11⟩ := Q
            obtain ⟨r0, r1, r2, r3, r4, r5, r6, r7, r8, r9, r10, r11⟩ := R
            clear h1 h2 hs hs3 he hu K6 K7 hB hr1
            have q0 := cell_regrown q0
            have q1 := cell_regrown q1
            have q2 := cell_regrown q2
            have q3 := cell_regrown q3
            have q4 := cell_regrown q4
            have q5 := cell_regrown q5
            have q6 := cell_regrown q6
            have q7 := cell_regrown q7
            have q8 := cell_regrown q8
            have q9 := cell_regrown q9
            have q10 := cell_regrown q10
            have q11 := cell_regrown q11
            have r0 := cell_regrown r0
            have r1 := cell_regrown r1
            have r2 := cell_regrown r2
            have r3 := cell_regrown r3
            have r4 := cell_regrown r4
            have r5 := cell_regrown r5
            have r6 := cell_regrown r6
            have r7 := cell_regrown r7
            have r8 := cell_regrown r8
            have r9 := cell_regrown r9
            have r10 := cell_regrown r10
            have r11 := cell_regrown r11
            have c0 := cell_regrown c0
            have c1 := cell_regrown c1
            have c2 := cell_regrown c2
            have c3 := cell_regrown c3
            have c4 := cell_regrown c4
            have d0 := cell_regrown d0
            have d1 := cell_regrown d1
            have d2 := cell_regrown d2
            have d3 := cell_regrown d3
            have d4 := cell_regrown d4
            have hj0 : (0 : Int) ≤ (j : Int) := Int.natCast_nonneg _
            have hj1 : (j : Int) < (len : Int) := by omega
            go_wp2_with fail
            refine wp_region_quiet_below (by kernel_rfl) (by kernel_rfl) ?_
            repeat (go_big_quiet_step ((first | (go_at_call 14; exact Q1.out _ _) | (go_at_call 15; exact Q2.out _ _))))
            refine wpQuiet_nil ?_
            intro _ hw'
            obtain ⟨⟨dq, osq⟩, hw''⟩ := hw'
            subst hw''
            go_wp2
            go_roundw
            case rel => exact ⟨j + 1, by omega, by go_num, zr.out.trans ((below_regrown w6 dq osq).mono zr.out.size)⟩
            case measure => simp [intOf]; omega
          · have u1 : (ck == 0) = false := beq_eq_false_iff_ne.2 h0
            clear h0
            go_wp2
            go_ret
            exact ⟨rfl, hB⟩
        · go_wp2
          go_ret
          exact ⟨rfl, hB⟩
      · go_wp2
        go_ret
        exact ⟨rfl, hB⟩
end Go.Proofs.Ytlmkbfbiohocpaa
