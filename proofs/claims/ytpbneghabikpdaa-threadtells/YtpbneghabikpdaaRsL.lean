/- The document's Same of threads that differ in a list. -/
import Derived.Test.YtpbneghabikpdaaRsT
import Derived.Test.YtpbneghabikpdaaThC
import Derived.Lib.QuietBelow
import Derived.Deep.QuietTactic
import Derived.BigQuiet
namespace Go.Proofs.Ytpbneghabikpdaa
open Go.RowKit Go.Sort
set_option linter.unusedVariables false

theorem eql_opR (t v t' v' : Int) (u : World) : (binOp .eql 37 (.agg #[.int .i64 t, .int .i64 v]) (.agg #[.int .i64 t', .int .i64 v'])).run Try.prog u = .ok (.bool (decide (t = t' ∧ v = v'))) u := by
  by_cases h : t = t'
  · by_cases h' : v = v'
    · simp [go_sem, h, h']
    · simp [go_sem, h, h']
  · simp [go_sem, h]
theorem same_no {a b : Dt} (h : a ≠ b) : sameB a b = false := by rw [Bool.eq_false_iff, Ne, sameB_iff]; exact h

set_option maxRecDepth 100000 in
set_option maxHeartbeats 4000000 in
theorem rs_lists (a b : Dt) (p q : Ad) (o : DtOk a) (w : World) (ha : ThAt w a p) (hb : ThAt w b q) (hne : ¬(a.bl = b.bl ∧ a.hl = b.hl ∧ a.kl = b.kl)) : Calls Try.prog 12 #[.agg #[.int .i64 a.ph, .int .i64 a.it, .int .i64 a.tg, .int .i64 a.v, .slice p.bA a.bl.length p.bc, .slice p.kA a.kl.length p.kc, .slice p.hA a.hl.length p.hc, .int .i64 a.st, .int .i64 a.nd, .int .i64 a.pl, .int .i64 a.ly, .int .i64 a.lf, .int .i64 a.wd, .int .i64 a.who, .int .i64 a.x, .int .i64 a.y, .int .i64 a.un], .agg #[.int .i64 b.ph, .int .i64 b.it, .int .i64 b.tg, .int .i64 b.v, .slice q.bA b.bl.length q.bc, .slice q.kA b.kl.length q.kc, .slice q.hA b.hl.length q.hc, .int .i64 b.st, .int .i64 b.nd, .int .i64 b.pl, .int .i64 b.ly, .int .i64 b.lf, .int .i64 b.wd, .int .i64 b.who, .int .i64 b.x, .int .i64 b.y, .int .i64 b.un]] w (BoolPost false w) := by
  have hB : Below w.heap.size w ((w.alloc (.cells #[.int .i64 a.ph, .int .i64 a.it, .int .i64 a.tg, .int .i64 a.v, .slice p.bA a.bl.length p.bc, .slice p.kA a.kl.length p.kc, .slice p.hA a.hl.length p.hc, .int .i64 a.st, .int .i64 a.nd, .int .i64 a.pl, .int .i64 a.ly, .int .i64 a.lf, .int .i64 a.wd, .int .i64 a.who, .int .i64 a.x, .int .i64 a.y, .int .i64 a.un] 41)).alloc (.cells #[.int .i64 b.ph, .int .i64 b.it, .int .i64 b.tg, .int .i64 b.v, .slice q.bA b.bl.length q.bc, .slice q.kA b.kl.length q.kc, .slice q.hA b.hl.length q.hc, .int .i64 b.st, .int .i64 b.nd, .int .i64 b.pl, .int .i64 b.ly, .int .i64 b.lf, .int .i64 b.wd, .int .i64 b.who, .int .i64 b.x, .int .i64 b.y, .int .i64 b.un] 41)) := (belowA' w _).alloc (by simp) _
  have R1 : ((w.alloc (.cells #[.int .i64 a.ph, .int .i64 a.it, .int .i64 a.tg, .int .i64 a.v, .slice p.bA a.bl.length p.bc, .slice p.kA a.kl.length p.kc, .slice p.hA a.hl.length p.hc, .int .i64 a.st, .int .i64 a.nd, .int .i64 a.pl, .int .i64 a.ly, .int .i64 a.lf, .int .i64 a.wd, .int .i64 a.who, .int .i64 a.x, .int .i64 a.y, .int .i64 a.un] 41)).alloc (.cells #[.int .i64 b.ph, .int .i64 b.it, .int .i64 b.tg, .int .i64 b.v, .slice q.bA b.bl.length q.bc, .slice q.kA b.kl.length q.kc, .slice q.hA b.hl.length q.hc, .int .i64 b.st, .int .i64 b.nd, .int .i64 b.pl, .int .i64 b.ly, .int .i64 b.lf, .int .i64 b.wd, .int .i64 b.who, .int .i64 b.x, .int .i64 b.y, .int .i64 b.un] 41)).rangeAt w.heap.size 0 [.int .i64 a.ph, .int .i64 a.it, .int .i64 a.tg, .int .i64 a.v, .slice p.bA a.bl.length p.bc, .slice p.kA a.kl.length p.kc, .slice p.hA a.hl.length p.hc, .int .i64 a.st, .int .i64 a.nd, .int .i64 a.pl, .int .i64 a.ly, .int .i64 a.lf, .int .i64 a.wd, .int .i64 a.who, .int .i64 a.x, .int .i64 a.y, .int .i64 a.un] := range_keep (range_new w [.int .i64 a.ph, .int .i64 a.it, .int .i64 a.tg, .int .i64 a.v, .slice p.bA a.bl.length p.bc, .slice p.kA a.kl.length p.kc, .slice p.hA a.hl.length p.hc, .int .i64 a.st, .int .i64 a.nd, .int .i64 a.pl, .int .i64 a.ly, .int .i64 a.lf, .int .i64 a.wd, .int .i64 a.who, .int .i64 a.x, .int .i64 a.y, .int .i64 a.un] 41) (belowA' _ _)
  have R2 : ((w.alloc (.cells #[.int .i64 a.ph, .int .i64 a.it, .int .i64 a.tg, .int .i64 a.v, .slice p.bA a.bl.length p.bc, .slice p.kA a.kl.length p.kc, .slice p.hA a.hl.length p.hc, .int .i64 a.st, .int .i64 a.nd, .int .i64 a.pl, .int .i64 a.ly, .int .i64 a.lf, .int .i64 a.wd, .int .i64 a.who, .int .i64 a.x, .int .i64 a.y, .int .i64 a.un] 41)).alloc (.cells #[.int .i64 b.ph, .int .i64 b.it, .int .i64 b.tg, .int .i64 b.v, .slice q.bA b.bl.length q.bc, .slice q.kA b.kl.length q.kc, .slice q.hA b.hl.length q.hc, .int .i64 b.st, .int .i64 b.nd, .int .i64 b.pl, .int .i64 b.ly, .int .i64 b.lf, .int .i64 b.wd, .int .i64 b.who, .int .i64 b.x, .int .i64 b.y, .int .i64 b.un] 41)).rangeAt (w.heap.size + 1) 0 [.int .i64 b.ph, .int .i64 b.it, .int .i64 b.tg, .int .i64 b.v, .slice q.bA b.bl.length q.bc, .slice q.kA b.kl.length q.kc, .slice q.hA b.hl.length q.hc, .int .i64 b.st, .int .i64 b.nd, .int .i64 b.pl, .int .i64 b.ly, .int .i64 b.lf, .int .i64 b.wd, .int .i64 b.who, .int .i64 b.x, .int .i64 b.y, .int .i64 b.un] := (show (w.alloc (.cells #[.int .i64 a.ph, .int .i64 a.it, .int .i64 a.tg, .int .i64 a.v, .slice p.bA a.bl.length p.bc, .slice p.kA a.kl.length p.kc, .slice p.hA a.hl.length p.hc, .int .i64 a.st, .int .i64 a.nd, .int .i64 a.pl, .int .i64 a.ly, .int .i64 a.lf, .int .i64 a.wd, .int .i64 a.who, .int .i64 a.x, .int .i64 a.y, .int .i64 a.un] 41)).heap.size = w.heap.size + 1 by simp) ▸ range_new (w.alloc (.cells #[.int .i64 a.ph, .int .i64 a.it, .int .i64 a.tg, .int .i64 a.v, .slice p.bA a.bl.length p.bc, .slice p.kA a.kl.length p.kc, .slice p.hA a.hl.length p.hc, .int .i64 a.st, .int .i64 a.nd, .int .i64 a.pl, .int .i64 a.ly, .int .i64 a.lf, .int .i64 a.wd, .int .i64 a.who, .int .i64 a.x, .int .i64 a.y, .int .i64 a.un] 41)) [.int .i64 b.ph, .int .i64 b.it, .int .i64 b.tg, .int .i64 b.v, .slice q.bA b.bl.length q.bc, .slice q.kA b.kl.length q.kc, .slice q.hA b.hl.length q.hc, .int .i64 b.st, .int .i64 b.nd, .int .i64 b.pl, .int .i64 b.ly, .int .i64 b.lf, .int .i64 b.wd, .int .i64 b.who, .int .i64 b.x, .int .i64 b.y, .int .i64 b.un] 41
  have na := ha.later hB
  have nb := hb.later hB
  have K1 := hide (same_any p.bA q.bA p.bc q.bc a.bl.length b.bl.length a.bl b.bl rfl rfl (by have := o.b; omega) ((w.alloc (.cells #[.int .i64 a.ph, .int .i64 a.it, .int .i64 a.tg, .int .i64 a.v, .slice p.bA a.bl.length p.bc, .slice p.kA a.kl.length p.kc, .slice p.hA a.hl.length p.hc, .int .i64 a.st, .int .i64 a.nd, .int .i64 a.pl, .int .i64 a.ly, .int .i64 a.lf, .int .i64 a.wd, .int .i64 a.who, .int .i64 a.x, .int .i64 a.y, .int .i64 a.un] 41)).alloc (.cells #[.int .i64 b.ph, .int .i64 b.it, .int .i64 b.tg, .int .i64 b.v, .slice q.bA b.bl.length q.bc, .slice q.kA b.kl.length q.kc, .slice q.hA b.hl.length q.hc, .int .i64 b.st, .int .i64 b.nd, .int .i64 b.pl, .int .i64 b.ly, .int .i64 b.lf, .int .i64 b.wd, .int .i64 b.who, .int .i64 b.x, .int .i64 b.y, .int .i64 b.un] 41)) na.b nb.b)
  have HNE := hide hne
  clear hne
  have hk := o.k
  have hh := o.h
  obtain ⟨q0, q1, q2, q3, q4, q5, q6, q7, q8, q9, q10, q11, q12, q13, q14, q15, q16⟩ := box17 R1
  obtain ⟨r0, r1, r2, r3, r4, r5, r6, r7, r8, r9, r10, r11, r12, r13, r14, r15, r16⟩ := box17 R2
  go_enter Try.func12, Try.ntmps12
  go_wp2_with fail
  generalize ((w.alloc (.cells #[.int .i64 a.ph, .int .i64 a.it, .int .i64 a.tg, .int .i64 a.v, .slice p.bA a.bl.length p.bc, .slice p.kA a.kl.length p.kc, .slice p.hA a.hl.length p.hc, .int .i64 a.st, .int .i64 a.nd, .int .i64 a.pl, .int .i64 a.ly, .int .i64 a.lf, .int .i64 a.wd, .int .i64 a.who, .int .i64 a.x, .int .i64 a.y, .int .i64 a.un] 41)).alloc (.cells #[.int .i64 b.ph, .int .i64 b.it, .int .i64 b.tg, .int .i64 b.v, .slice q.bA b.bl.length q.bc, .slice q.kA b.kl.length q.kc, .slice q.hA b.hl.length q.hc, .int .i64 b.st, .int .i64 b.nd, .int .i64 b.pl, .int .i64 b.ly, .int .i64 b.lf, .int .i64 b.wd, .int .i64 b.who, .int .i64 b.x, .int .i64 b.y, .int .i64 b.un] 41)) = wz at *
  refine K1.out.mono ?_
  rintro x w1 ⟨rfl, hb1⟩
  clear K1 q0 q1 q2 q3 q4 q5 q6 q7 q8 q9 q10 q11 q12 q13 q14 q15 q16 r0 r1 r2 r3 r4 r5 r6 r7 r8 r9 r10 r11 r12 r13 r14 r15 r16
  replace R1 := range_keep R1 hb1
  replace R2 := range_keep R2 hb1
  replace na := na.later hb1
  replace nb := nb.later hb1
  replace hB := below_next hB hB.size hb1
  clear hb1
  by_cases e1 : a.bl = b.bl
  case neg =>
    have HN : Hid (false = false ∧ sameB a b = false) := hide ⟨rfl, same_no (fun h => e1 (by rw [h]))⟩
    rw [decide_eq_false e1]
    go_wp2
    go_ret
    exact ⟨ret_b rfl, hB⟩
  rw [decide_eq_true e1]
  have H1 := hide e1
  clear e1
  have K2 := hide (ints_any p.hA q.hA p.hc q.hc a.hl.length b.hl.length a.hl b.hl (by omega) w1 na.h nb.h)
  obtain ⟨q0, q1, q2, q3, q4, q5, q6, q7, q8, q9, q10, q11, q12, q13, q14, q15, q16⟩ := box17 R1
  obtain ⟨r0, r1, r2, r3, r4, r5, r6, r7, r8, r9, r10, r11, r12, r13, r14, r15, r16⟩ := box17 R2
  go_wp2_with fail
  refine K2.out.mono ?_
  rintro x w2 ⟨rfl, hb1⟩
  clear K2 q0 q1 q2 q3 q4 q5 q6 q7 q8 q9 q10 q11 q12 q13 q14 q15 q16 r0 r1 r2 r3 r4 r5 r6 r7 r8 r9 r10 r11 r12 r13 r14 r15 r16
  replace R1 := range_keep R1 hb1
  replace R2 := range_keep R2 hb1
  replace na := na.later hb1
  replace nb := nb.later hb1
  replace hB := below_next hB hB.size hb1
  clear hb1
  by_cases e2 : a.hl = b.hl
  case neg =>
    have HN : Hid (false = false ∧ sameB a b = false) := hide ⟨rfl, same_no (fun h => e2 (by rw [h]))⟩
    rw [decide_eq_false e2]
    go_wp2
    go_ret
    exact ⟨ret_b rfl, hB⟩
  rw [decide_eq_true e2]
  have H2 := hide e2
  clear e2
  obtain ⟨q0, q1, q2, q3, q4, q5, q6, q7, q8, q9, q10, q11, q12, q13, q14, q15, q16⟩ := box17 R1
  obtain ⟨r0, r1, r2, r3, r4, r5, r6, r7, r8, r9, r10, r11, r12, r13, r14, r15, r16⟩ := box17 R2
  by_cases e3 : a.kl.length = b.kl.length
  case neg =>
    have HN : Hid (false = false ∧ sameB a b = false) := hide ⟨rfl, same_no (fun h => e3 (by rw [h]))⟩
    have b1 : ((a.kl.length : Int) == (b.kl.length : Int)) = false := beq_eq_false_iff_ne.2 (by omega)
    have b2 : ((a.kl.length : Int) != (b.kl.length : Int)) = true := bne_iff_ne.2 (by omega)
    clear e3
    go_wp2
    go_ret
    exact ⟨ret_b rfl, hB⟩
  have H3 := hide e3
  have b1 : ((a.kl.length : Int) == (b.kl.length : Int)) = true := beq_iff_eq.2 (by omega)
  have b2 : ((a.kl.length : Int) != (b.kl.length : Int)) = false := by rw [bne, b1]; rfl
  clear e3
  go_wp2
  clear b1 b2
  go_loopw [5] (fun i wr => ∃ j : Nat, j ≤ a.kl.length ∧ i = .int .i64 j ∧ a.kl.take j = b.kl.take j ∧ ∃ q, wr = w2.drewN q) (fun i _ => a.kl.length - (intOf i).toNat)
  case atStart => exact ⟨0, Nat.zero_le _, rfl, rfl, 0, rfl⟩
  case round =>
    obtain ⟨j, hj, rfl, htk, qn, rfl⟩ := hrel
    have HTK := hide htk
    clear htk
    by_cases hlt : j < a.kl.length
    · have hlt2 : j < b.kl.length := by have := H3.out; omega
      obtain ⟨bb, boff, t, g, e1, hb', ha1, c1, c2⟩ := na.k.kid (k := j) hlt
      obtain ⟨b2, boff2, t2, g2, e2, hb2, ha2, c3, c4⟩ := nb.k.kid (k := j) hlt2
      rw [e1] at q5
      rw [e2] at r5
      have HA := hide ha1
      have HA2 := hide ha2
      have j0 : (0 : Int) ≤ (j : Int) := Int.natCast_nonneg _
      have j1 : (j : Int) < (a.kl.length : Int) := by omega
      have j2 : (j : Int) < (b.kl.length : Int) := by omega
      clear ha1 ha2 hb' hb2
      by_cases hne : (t, g) = (t2, g2)
      · simp only [Prod.mk.injEq] at hne
        obtain ⟨rfl, rfl⟩ := hne
        go_wp2_with fail
        go_quiet (fail)
        go_wp2
        go_roundw
        case rel => exact ⟨j + 1, by omega, by go_num, take_eq_step HTK.out HA.out HA2.out rfl, _, rfl⟩
        case measure => simp [intOf]; omega
      · have HN : Hid (false = false ∧ sameB a b = false) := hide ⟨rfl, same_no (fun h => ne_at HA.out HA2.out hne (by rw [h]))⟩
        by_cases hv : t = t2
        · subst hv
          have hg : g ≠ g2 := fun e => hne (by rw [e])
          have z1 : (g == g2) = false := beq_eq_false_iff_ne.2 hg
          have z2 : (g != g2) = true := bne_iff_ne.2 hg
          clear hne hg
          go_wp2_with fail
          go_quiet (fail)
          go_wp2
          go_ret
          exact ⟨ret_b rfl, below_drewN (below_drewN hB _) _⟩
        · have z1 : (t == t2) = false := beq_eq_false_iff_ne.2 hv
          have z2 : (t != t2) = true := bne_iff_ne.2 hv
          clear hne hv
          go_wp2_with fail
          go_quiet (fail)
          go_wp2
          go_ret
          exact ⟨ret_b rfl, below_drewN (below_drewN hB _) _⟩
    · obtain rfl : j = a.kl.length := by omega
      have H4 : Hid (a.kl = b.kl) := hide (by have h := HTK.out; rw [List.take_length] at h; rw [h, H3.out, List.take_length])
      exact absurd ⟨H1.out, H2.out, H4.out⟩ HNE.out
end Go.Proofs.Ytpbneghabikpdaa
