/- The document's Same of threads. -/
import Derived.Test.YtpbneghabikpdaaThN
import Derived.Test.YtpbneghabikpdaaSame
import Derived.Lib.QuietBelow
import Derived.Deep.QuietTactic
import Derived.BigQuiet
namespace Go.Proofs.Ytpbneghabikpdaa
open Go.RowKit Go.Sort
set_option linter.unusedVariables false

theorem belowA' (W : World) (o : Obj) : Below W.heap.size W (W.alloc o) := (Below.refl _ _).alloc (Nat.le_refl _) _
set_option maxRecDepth 100000 in
set_option maxHeartbeats 4000000 in
theorem rsame_yes (d : Dt) (p q : Ad) (o : DtOk d) (w : World) (ha : ThAt w d p) (hb : ThAt w d q) : Calls Try.prog 12 #[.agg #[.int .i64 d.ph, .int .i64 d.it, .int .i64 d.tg, .int .i64 d.v, .slice p.bA d.bl.length p.bc, .slice p.kA d.kl.length p.kc, .slice p.hA d.hl.length p.hc, .int .i64 d.st, .int .i64 d.nd, .int .i64 d.pl, .int .i64 d.ly, .int .i64 d.lf, .int .i64 d.wd, .int .i64 d.who, .int .i64 d.x, .int .i64 d.y, .int .i64 d.un], .agg #[.int .i64 d.ph, .int .i64 d.it, .int .i64 d.tg, .int .i64 d.v, .slice q.bA d.bl.length q.bc, .slice q.kA d.kl.length q.kc, .slice q.hA d.hl.length q.hc, .int .i64 d.st, .int .i64 d.nd, .int .i64 d.pl, .int .i64 d.ly, .int .i64 d.lf, .int .i64 d.wd, .int .i64 d.who, .int .i64 d.x, .int .i64 d.y, .int .i64 d.un]] w (BoolPost true w) := by
  have hB : Below w.heap.size w ((w.alloc (.cells #[.int .i64 d.ph, .int .i64 d.it, .int .i64 d.tg, .int .i64 d.v, .slice p.bA d.bl.length p.bc, .slice p.kA d.kl.length p.kc, .slice p.hA d.hl.length p.hc, .int .i64 d.st, .int .i64 d.nd, .int .i64 d.pl, .int .i64 d.ly, .int .i64 d.lf, .int .i64 d.wd, .int .i64 d.who, .int .i64 d.x, .int .i64 d.y, .int .i64 d.un] 41)).alloc (.cells #[.int .i64 d.ph, .int .i64 d.it, .int .i64 d.tg, .int .i64 d.v, .slice q.bA d.bl.length q.bc, .slice q.kA d.kl.length q.kc, .slice q.hA d.hl.length q.hc, .int .i64 d.st, .int .i64 d.nd, .int .i64 d.pl, .int .i64 d.ly, .int .i64 d.lf, .int .i64 d.wd, .int .i64 d.who, .int .i64 d.x, .int .i64 d.y, .int .i64 d.un] 41)) := (belowA' w _).alloc (by simp) _
  have R1 : ((w.alloc (.cells #[.int .i64 d.ph, .int .i64 d.it, .int .i64 d.tg, .int .i64 d.v, .slice p.bA d.bl.length p.bc, .slice p.kA d.kl.length p.kc, .slice p.hA d.hl.length p.hc, .int .i64 d.st, .int .i64 d.nd, .int .i64 d.pl, .int .i64 d.ly, .int .i64 d.lf, .int .i64 d.wd, .int .i64 d.who, .int .i64 d.x, .int .i64 d.y, .int .i64 d.un] 41)).alloc (.cells #[.int .i64 d.ph, .int .i64 d.it, .int .i64 d.tg, .int .i64 d.v, .slice q.bA d.bl.length q.bc, .slice q.kA d.kl.length q.kc, .slice q.hA d.hl.length q.hc, .int .i64 d.st, .int .i64 d.nd, .int .i64 d.pl, .int .i64 d.ly, .int .i64 d.lf, .int .i64 d.wd, .int .i64 d.who, .int .i64 d.x, .int .i64 d.y, .int .i64 d.un] 41)).rangeAt w.heap.size 0 [.int .i64 d.ph, .int .i64 d.it, .int .i64 d.tg, .int .i64 d.v, .slice p.bA d.bl.length p.bc, .slice p.kA d.kl.length p.kc, .slice p.hA d.hl.length p.hc, .int .i64 d.st, .int .i64 d.nd, .int .i64 d.pl, .int .i64 d.ly, .int .i64 d.lf, .int .i64 d.wd, .int .i64 d.who, .int .i64 d.x, .int .i64 d.y, .int .i64 d.un] := range_keep (range_new w [.int .i64 d.ph, .int .i64 d.it, .int .i64 d.tg, .int .i64 d.v, .slice p.bA d.bl.length p.bc, .slice p.kA d.kl.length p.kc, .slice p.hA d.hl.length p.hc, .int .i64 d.st, .int .i64 d.nd, .int .i64 d.pl, .int .i64 d.ly, .int .i64 d.lf, .int .i64 d.wd, .int .i64 d.who, .int .i64 d.x, .int .i64 d.y, .int .i64 d.un] 41) (belowA' _ _)
  have R2 : ((w.alloc (.cells #[.int .i64 d.ph, .int .i64 d.it, .int .i64 d.tg, .int .i64 d.v, .slice p.bA d.bl.length p.bc, .slice p.kA d.kl.length p.kc, .slice p.hA d.hl.length p.hc, .int .i64 d.st, .int .i64 d.nd, .int .i64 d.pl, .int .i64 d.ly, .int .i64 d.lf, .int .i64 d.wd, .int .i64 d.who, .int .i64 d.x, .int .i64 d.y, .int .i64 d.un] 41)).alloc (.cells #[.int .i64 d.ph, .int .i64 d.it, .int .i64 d.tg, .int .i64 d.v, .slice q.bA d.bl.length q.bc, .slice q.kA d.kl.length q.kc, .slice q.hA d.hl.length q.hc, .int .i64 d.st, .int .i64 d.nd, .int .i64 d.pl, .int .i64 d.ly, .int .i64 d.lf, .int .i64 d.wd, .int .i64 d.who, .int .i64 d.x, .int .i64 d.y, .int .i64 d.un] 41)).rangeAt (w.heap.size + 1) 0 [.int .i64 d.ph, .int .i64 d.it, .int .i64 d.tg, .int .i64 d.v, .slice q.bA d.bl.length q.bc, .slice q.kA d.kl.length q.kc, .slice q.hA d.hl.length q.hc, .int .i64 d.st, .int .i64 d.nd, .int .i64 d.pl, .int .i64 d.ly, .int .i64 d.lf, .int .i64 d.wd, .int .i64 d.who, .int .i64 d.x, .int .i64 d.y, .int .i64 d.un] := (show (w.alloc (.cells #[.int .i64 d.ph, .int .i64 d.it, .int .i64 d.tg, .int .i64 d.v, .slice p.bA d.bl.length p.bc, .slice p.kA d.kl.length p.kc, .slice p.hA d.hl.length p.hc, .int .i64 d.st, .int .i64 d.nd, .int .i64 d.pl, .int .i64 d.ly, .int .i64 d.lf, .int .i64 d.wd, .int .i64 d.who, .int .i64 d.x, .int .i64 d.y, .int .i64 d.un] 41)).heap.size = w.heap.size + 1 by simp) ▸ range_new (w.alloc (.cells #[.int .i64 d.ph, .int .i64 d.it, .int .i64 d.tg, .int .i64 d.v, .slice p.bA d.bl.length p.bc, .slice p.kA d.kl.length p.kc, .slice p.hA d.hl.length p.hc, .int .i64 d.st, .int .i64 d.nd, .int .i64 d.pl, .int .i64 d.ly, .int .i64 d.lf, .int .i64 d.wd, .int .i64 d.who, .int .i64 d.x, .int .i64 d.y, .int .i64 d.un] 41)) [.int .i64 d.ph, .int .i64 d.it, .int .i64 d.tg, .int .i64 d.v, .slice q.bA d.bl.length q.bc, .slice q.kA d.kl.length q.kc, .slice q.hA d.hl.length q.hc, .int .i64 d.st, .int .i64 d.nd, .int .i64 d.pl, .int .i64 d.ly, .int .i64 d.lf, .int .i64 d.wd, .int .i64 d.who, .int .i64 d.x, .int .i64 d.y, .int .i64 d.un] 41
  have na := ha.later hB
  have nb := hb.later hB
  have K1 := hide (same_any p.bA q.bA p.bc q.bc d.bl.length d.bl.length d.bl d.bl rfl rfl (by have := o.b; omega) ((w.alloc (.cells #[.int .i64 d.ph, .int .i64 d.it, .int .i64 d.tg, .int .i64 d.v, .slice p.bA d.bl.length p.bc, .slice p.kA d.kl.length p.kc, .slice p.hA d.hl.length p.hc, .int .i64 d.st, .int .i64 d.nd, .int .i64 d.pl, .int .i64 d.ly, .int .i64 d.lf, .int .i64 d.wd, .int .i64 d.who, .int .i64 d.x, .int .i64 d.y, .int .i64 d.un] 41)).alloc (.cells #[.int .i64 d.ph, .int .i64 d.it, .int .i64 d.tg, .int .i64 d.v, .slice q.bA d.bl.length q.bc, .slice q.kA d.kl.length q.kc, .slice q.hA d.hl.length q.hc, .int .i64 d.st, .int .i64 d.nd, .int .i64 d.pl, .int .i64 d.ly, .int .i64 d.lf, .int .i64 d.wd, .int .i64 d.who, .int .i64 d.x, .int .i64 d.y, .int .i64 d.un] 41)) na.b nb.b)
  rw [decide_eq_true rfl] at K1
  have hk := o.k
  have hh := o.h
  obtain ⟨q0, q1, q2, q3, q4, q5, q6, q7, q8, q9, q10, q11, q12, q13, q14, q15, q16⟩ := box17 R1
  obtain ⟨r0, r1, r2, r3, r4, r5, r6, r7, r8, r9, r10, r11, r12, r13, r14, r15, r16⟩ := box17 R2
  go_enter Try.func12, Try.ntmps12
  go_wp2_with fail
  generalize ((w.alloc (.cells #[.int .i64 d.ph, .int .i64 d.it, .int .i64 d.tg, .int .i64 d.v, .slice p.bA d.bl.length p.bc, .slice p.kA d.kl.length p.kc, .slice p.hA d.hl.length p.hc, .int .i64 d.st, .int .i64 d.nd, .int .i64 d.pl, .int .i64 d.ly, .int .i64 d.lf, .int .i64 d.wd, .int .i64 d.who, .int .i64 d.x, .int .i64 d.y, .int .i64 d.un] 41)).alloc (.cells #[.int .i64 d.ph, .int .i64 d.it, .int .i64 d.tg, .int .i64 d.v, .slice q.bA d.bl.length q.bc, .slice q.kA d.kl.length q.kc, .slice q.hA d.hl.length q.hc, .int .i64 d.st, .int .i64 d.nd, .int .i64 d.pl, .int .i64 d.ly, .int .i64 d.lf, .int .i64 d.wd, .int .i64 d.who, .int .i64 d.x, .int .i64 d.y, .int .i64 d.un] 41)) = wz at *
  refine K1.out.mono ?_
  rintro x w1 ⟨rfl, hb1⟩
  clear K1 q0 q1 q2 q3 q4 q5 q6 q7 q8 q9 q10 q11 q12 q13 q14 q15 q16 r0 r1 r2 r3 r4 r5 r6 r7 r8 r9 r10 r11 r12 r13 r14 r15 r16
  replace R1 := range_keep R1 hb1
  replace R2 := range_keep R2 hb1
  replace na := na.later hb1
  replace nb := nb.later hb1
  replace hB := below_next hB hB.size hb1
  clear hb1
  have K2 := hide (ints_any p.hA q.hA p.hc q.hc d.hl.length d.hl.length d.hl d.hl (by omega) w1 na.h nb.h)
  rw [decide_eq_true rfl] at K2
  obtain ⟨q0, q1, q2, q3, q4, q5, q6, q7, q8, q9, q10, q11, q12, q13, q14, q15, q16⟩ := box17 R1
  obtain ⟨r0, r1, r2, r3, r4, r5, r6, r7, r8, r9, r10, r11, r12, r13, r14, r15, r16⟩ := box17 R2
  go_wp2_with fail
  refine K2.out.mono ?_
  rintro x w2 ⟨rfl, hb1⟩
  clear K2 q0 q1 q2 q3 q4 q5 q6 q7 q8 q9 q10 q11 q12 q13 q14 q15 q16 r0 r1 r2 r3 r4 r5 r6 r7 r8 r9 r10 r11 r12 r13 r14 r15 r16
  replace R1 := range_keep R1 hb1
  replace R2 := range_keep R2 hb1
  replace na := na.later hb1
  replace nb := nb.later hb1
  replace hB := below_next hB hB.size hb1
  clear hb1
  obtain ⟨q0, q1, q2, q3, q4, q5, q6, q7, q8, q9, q10, q11, q12, q13, q14, q15, q16⟩ := box17 R1
  obtain ⟨r0, r1, r2, r3, r4, r5, r6, r7, r8, r9, r10, r11, r12, r13, r14, r15, r16⟩ := box17 R2
  go_wp2
  go_loopw [5] (fun i wr => ∃ j : Nat, j ≤ d.kl.length ∧ i = .int .i64 j ∧ ∃ q, wr = w2.drewN q) (fun i _ => d.kl.length - (intOf i).toNat)
  case atStart => exact ⟨0, Nat.zero_le _, rfl, 0, rfl⟩
  case round =>
    obtain ⟨j, hj, rfl, qn, rfl⟩ := hrel
    by_cases hlt : j < d.kl.length
    · obtain ⟨b, boff, t, g, e1, hb', ha', c1, c2⟩ := na.k.kid (k := j) hlt
      obtain ⟨b2, boff2, t2, g2, e2, hb2, ha2, c3, c4⟩ := nb.k.kid (k := j) hlt
      rw [ha'] at ha2
      simp only [Option.some.injEq, Prod.mk.injEq] at ha2
      obtain ⟨rfl, rfl⟩ := ha2
      rw [e1] at q5
      rw [e2] at r5
      have j0 : (0 : Int) ≤ (j : Int) := Int.natCast_nonneg _
      have j1 : (j : Int) < (d.kl.length : Int) := by omega
      clear ha' hb' hb2
      go_wp2_with fail
      go_quiet (fail)
      go_wp2
      go_roundw
      case rel => exact ⟨j + 1, by omega, by go_num, _, rfl⟩
      case measure => simp [intOf]; omega
    · obtain rfl : j = d.kl.length := by omega
      go_wp2
      go_ret
      exact ⟨ret_b (by simp), below_drewN hB _⟩

end Go.Proofs.Ytpbneghabikpdaa
