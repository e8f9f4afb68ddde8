/- The walk of ThreadLater. -/
import Derived.Test.YtpbneghabikpdaaW10Waits
import Derived.Test.YtpbneghabikpdaaThR
import Derived.Lib.QuietBelow
import Derived.Deep.QuietTactic
import Derived.BigQuiet
namespace Go.Proofs.Ytpbneghabikpdaa
open Go.RowKit Go.Sort
set_option linter.unusedVariables false

attribute [local go_sem ↓] ldTn_is
attribute [local go_sem] run_ldTn

attribute [local go_sem ↓] stTn_is
attribute [local go_sem] run_stTn
attribute [local go_sem] one_int one_slice one_bool

theorem box37 {w : World} {g : Nat} {c0 c1 c2 c3 c4 c5 c6 c7 c8 c9 c10 c11 c12 c13 c14 c15 c16 c17 c18 c19 c20 c21 c22 c23 c24 c25 c26 c27 c28 c29 c30 c31 c32 c33 c34 c35 c36 : Value} (h : w.rangeAt g 0 (c0 :: c1 :: c2 :: c3 :: c4 :: c5 :: c6 :: c7 :: c8 :: c9 :: c10 :: c11 :: c12 :: c13 :: c14 :: c15 :: c16 :: c17 :: c18 :: c19 :: c20 :: c21 :: c22 :: c23 :: c24 :: c25 :: c26 :: c27 :: c28 :: c29 :: c30 :: c31 :: c32 :: c33 :: c34 :: c35 :: c36 :: [])) : w.cell? ⟨g, 0, none⟩ = some (c0) ∧ w.cell? ⟨g, 1, none⟩ = some (c1) ∧ w.cell? ⟨g, 2, none⟩ = some (c2) ∧ w.cell? ⟨g, 3, none⟩ = some (c3) ∧ w.cell? ⟨g, 4, none⟩ = some (c4) ∧ w.cell? ⟨g, 5, none⟩ = some (c5) ∧ w.cell? ⟨g, 6, none⟩ = some (c6) ∧ w.cell? ⟨g, 7, none⟩ = some (c7) ∧ w.cell? ⟨g, 8, none⟩ = some (c8) ∧ w.cell? ⟨g, 9, none⟩ = some (c9) ∧ w.cell? ⟨g, 10, none⟩ = some (c10) ∧ w.cell? ⟨g, 11, none⟩ = some (c11) ∧ w.cell? ⟨g, 12, none⟩ = some (c12) ∧ w.cell? ⟨g, 13, none⟩ = some (c13) ∧ w.cell? ⟨g, 14, none⟩ = some (c14) ∧ w.cell? ⟨g, 15, none⟩ = some (c15) ∧ w.cell? ⟨g, 16, none⟩ = some (c16) ∧ w.cell? ⟨g, 17, none⟩ = some (c17) ∧ w.cell? ⟨g, 18, none⟩ = some (c18) ∧ w.cell? ⟨g, 19, none⟩ = some (c19) ∧ w.cell? ⟨g, 20, none⟩ = some (c20) ∧ w.cell? ⟨g, 21, none⟩ = some (c21) ∧ w.cell? ⟨g, 22, none⟩ = some (c22) ∧ w.cell? ⟨g, 23, none⟩ = some (c23) ∧ w.cell? ⟨g, 24, none⟩ = some (c24) ∧ w.cell? ⟨g, 25, none⟩ = some (c25) ∧ w.cell? ⟨g, 26, none⟩ = some (c26) ∧ w.cell? ⟨g, 27, none⟩ = some (c27) ∧ w.cell? ⟨g, 28, none⟩ = some (c28) ∧ w.cell? ⟨g, 29, none⟩ = some (c29) ∧ w.cell? ⟨g, 30, none⟩ = some (c30) ∧ w.cell? ⟨g, 31, none⟩ = some (c31) ∧ w.cell? ⟨g, 32, none⟩ = some (c32) ∧ w.cell? ⟨g, 33, none⟩ = some (c33) ∧ w.cell? ⟨g, 34, none⟩ = some (c34) ∧ w.cell? ⟨g, 35, none⟩ = some (c35) ∧ w.cell? ⟨g, 36, none⟩ = some (c36) :=
  ⟨rg h 0 rfl, rg h 1 rfl, rg h 2 rfl, rg h 3 rfl, rg h 4 rfl, rg h 5 rfl, rg h 6 rfl, rg h 7 rfl, rg h 8 rfl, rg h 9 rfl, rg h 10 rfl, rg h 11 rfl, rg h 12 rfl, rg h 13 rfl, rg h 14 rfl, rg h 15 rfl, rg h 16 rfl, rg h 17 rfl, rg h 18 rfl, rg h 19 rfl, rg h 20 rfl, rg h 21 rfl, rg h 22 rfl, rg h 23 rfl, rg h 24 rfl, rg h 25 rfl, rg h 26 rfl, rg h 27 rfl, rg h 28 rfl, rg h 29 rfl, rg h 30 rfl, rg h 31 rfl, rg h 32 rfl, rg h 33 rfl, rg h 34 rfl, rg h 35 rfl, rg h 36 rfl⟩
theorem range13 {w : World} {k : Nat} {c0 c1 c2 c3 c4 c5 c6 c7 c8 c9 c10 c11 c12 c13 c14 c15 c16 c17 c18 c19 c20 c21 c22 c23 c24 c25 c26 c27 c28 c29 c30 c31 c32 c33 c34 c35 c36 x : Value} (h : w.rangeAt k 0 (c0 :: c1 :: c2 :: c3 :: c4 :: c5 :: c6 :: c7 :: c8 :: c9 :: c10 :: c11 :: c12 :: c13 :: c14 :: c15 :: c16 :: c17 :: c18 :: c19 :: c20 :: c21 :: c22 :: c23 :: c24 :: c25 :: c26 :: c27 :: c28 :: c29 :: c30 :: c31 :: c32 :: c33 :: c34 :: c35 :: c36 :: [])) : (w.setCell ⟨k, 13, none⟩ x).rangeAt k 0 (c0 :: c1 :: c2 :: c3 :: c4 :: c5 :: c6 :: c7 :: c8 :: c9 :: c10 :: c11 :: c12 :: x :: c14 :: c15 :: c16 :: c17 :: c18 :: c19 :: c20 :: c21 :: c22 :: c23 :: c24 :: c25 :: c26 :: c27 :: c28 :: c29 :: c30 :: c31 :: c32 :: c33 :: c34 :: c35 :: c36 :: []) := rangeSet (i := 13) h (by simp)
theorem range32 {w : World} {k : Nat} {c0 c1 c2 c3 c4 c5 c6 c7 c8 c9 c10 c11 c12 c13 c14 c15 c16 c17 c18 c19 c20 c21 c22 c23 c24 c25 c26 c27 c28 c29 c30 c31 c32 c33 c34 c35 c36 x : Value} (h : w.rangeAt k 0 (c0 :: c1 :: c2 :: c3 :: c4 :: c5 :: c6 :: c7 :: c8 :: c9 :: c10 :: c11 :: c12 :: c13 :: c14 :: c15 :: c16 :: c17 :: c18 :: c19 :: c20 :: c21 :: c22 :: c23 :: c24 :: c25 :: c26 :: c27 :: c28 :: c29 :: c30 :: c31 :: c32 :: c33 :: c34 :: c35 :: c36 :: [])) : (w.setCell ⟨k, 32, none⟩ x).rangeAt k 0 (c0 :: c1 :: c2 :: c3 :: c4 :: c5 :: c6 :: c7 :: c8 :: c9 :: c10 :: c11 :: c12 :: c13 :: c14 :: c15 :: c16 :: c17 :: c18 :: c19 :: c20 :: c21 :: c22 :: c23 :: c24 :: c25 :: c26 :: c27 :: c28 :: c29 :: c30 :: c31 :: x :: c33 :: c34 :: c35 :: c36 :: []) := rangeSet (i := 32) h (by simp)
theorem frozen_new (w : World) (cs : Array Value) (t : TypeId) (j : Nat) : (w.alloc (.cells cs t)).frozen? ⟨w.heap.size, j, none⟩ = false := by simp [go_sem]

set_option maxRecDepth 100000 in
set_option maxHeartbeats 4000000 in
theorem walkLater (x0 x1 x2 x3 x4 x5 x6 x7 : Int) (b : Bool) (x9 x10 x11 : Int) (tt now : Int) (m1 : Option Addr) (m2 m3 : Nat) (m4 : Option Addr) (m5 m6 : Nat) (d : Dt) (p : Ad) (l1 : Option Addr) (l2 l3 : Nat) (ta : Int) (g1 : Option Addr) (g2 g3 : Nat) (dn : Bool) (n : Nat) (hn : n < 65536) (w : World) :
    Calls Try.prog 7 #[.agg (List.toArray (.int .i64 x0 :: .int .i64 x1 :: .int .i64 x2 :: .int .i64 x3 :: .int .i64 x4 :: .int .i64 x5 :: .int .i64 x6 :: .int .i64 x7 :: .bool b :: .int .i64 x9 :: .int .i64 x10 :: .int .i64 x11 :: .int .i64 tt :: .int .i64 now :: .slice m1 m2 m3 :: .slice m4 m5 m6 :: .int .i64 d.ph :: .int .i64 d.it :: .int .i64 d.tg :: .int .i64 d.v :: .slice p.bA d.bl.length p.bc :: .slice p.kA d.kl.length p.kc :: .slice p.hA d.hl.length p.hc :: .int .i64 d.st :: .int .i64 d.nd :: .int .i64 d.pl :: .int .i64 d.ly :: .int .i64 d.lf :: .int .i64 d.wd :: .int .i64 d.who :: .int .i64 d.x :: .int .i64 d.y :: .int .i64 d.un :: .slice l1 l2 l3 :: .int .i64 ta :: .slice g1 g2 g3 :: .bool dn :: [])), .int .u16 (n : Int)] w (BoolPost true w) := by
  have hB : Below w.heap.size w (w.alloc (.cells (List.toArray (.int .i64 x0 :: .int .i64 x1 :: .int .i64 x2 :: .int .i64 x3 :: .int .i64 x4 :: .int .i64 x5 :: .int .i64 x6 :: .int .i64 x7 :: .bool b :: .int .i64 x9 :: .int .i64 x10 :: .int .i64 x11 :: .int .i64 tt :: .int .i64 now :: .slice m1 m2 m3 :: .slice m4 m5 m6 :: .int .i64 d.ph :: .int .i64 d.it :: .int .i64 d.tg :: .int .i64 d.v :: .slice p.bA d.bl.length p.bc :: .slice p.kA d.kl.length p.kc :: .slice p.hA d.hl.length p.hc :: .int .i64 d.st :: .int .i64 d.nd :: .int .i64 d.pl :: .int .i64 d.ly :: .int .i64 d.lf :: .int .i64 d.wd :: .int .i64 d.who :: .int .i64 d.x :: .int .i64 d.y :: .int .i64 d.un :: .slice l1 l2 l3 :: .int .i64 ta :: .slice g1 g2 g3 :: .bool dn :: [])) 55)) := belowA _ _
  have Ru : (w.alloc (.cells (List.toArray (.int .i64 x0 :: .int .i64 x1 :: .int .i64 x2 :: .int .i64 x3 :: .int .i64 x4 :: .int .i64 x5 :: .int .i64 x6 :: .int .i64 x7 :: .bool b :: .int .i64 x9 :: .int .i64 x10 :: .int .i64 x11 :: .int .i64 tt :: .int .i64 now :: .slice m1 m2 m3 :: .slice m4 m5 m6 :: .int .i64 d.ph :: .int .i64 d.it :: .int .i64 d.tg :: .int .i64 d.v :: .slice p.bA d.bl.length p.bc :: .slice p.kA d.kl.length p.kc :: .slice p.hA d.hl.length p.hc :: .int .i64 d.st :: .int .i64 d.nd :: .int .i64 d.pl :: .int .i64 d.ly :: .int .i64 d.lf :: .int .i64 d.wd :: .int .i64 d.who :: .int .i64 d.x :: .int .i64 d.y :: .int .i64 d.un :: .slice l1 l2 l3 :: .int .i64 ta :: .slice g1 g2 g3 :: .bool dn :: [])) 55)).rangeAt w.heap.size 0 (.int .i64 x0 :: .int .i64 x1 :: .int .i64 x2 :: .int .i64 x3 :: .int .i64 x4 :: .int .i64 x5 :: .int .i64 x6 :: .int .i64 x7 :: .bool b :: .int .i64 x9 :: .int .i64 x10 :: .int .i64 x11 :: .int .i64 tt :: .int .i64 now :: .slice m1 m2 m3 :: .slice m4 m5 m6 :: .int .i64 d.ph :: .int .i64 d.it :: .int .i64 d.tg :: .int .i64 d.v :: .slice p.bA d.bl.length p.bc :: .slice p.kA d.kl.length p.kc :: .slice p.hA d.hl.length p.hc :: .int .i64 d.st :: .int .i64 d.nd :: .int .i64 d.pl :: .int .i64 d.ly :: .int .i64 d.lf :: .int .i64 d.wd :: .int .i64 d.who :: .int .i64 d.x :: .int .i64 d.y :: .int .i64 d.un :: .slice l1 l2 l3 :: .int .i64 ta :: .slice g1 g2 g3 :: .bool dn :: []) := range_new w (.int .i64 x0 :: .int .i64 x1 :: .int .i64 x2 :: .int .i64 x3 :: .int .i64 x4 :: .int .i64 x5 :: .int .i64 x6 :: .int .i64 x7 :: .bool b :: .int .i64 x9 :: .int .i64 x10 :: .int .i64 x11 :: .int .i64 tt :: .int .i64 now :: .slice m1 m2 m3 :: .slice m4 m5 m6 :: .int .i64 d.ph :: .int .i64 d.it :: .int .i64 d.tg :: .int .i64 d.v :: .slice p.bA d.bl.length p.bc :: .slice p.kA d.kl.length p.kc :: .slice p.hA d.hl.length p.hc :: .int .i64 d.st :: .int .i64 d.nd :: .int .i64 d.pl :: .int .i64 d.ly :: .int .i64 d.lf :: .int .i64 d.wd :: .int .i64 d.who :: .int .i64 d.x :: .int .i64 d.y :: .int .i64 d.un :: .slice l1 l2 l3 :: .int .i64 ta :: .slice g1 g2 g3 :: .bool dn :: []) 55
  have p13 := rg Ru 13 rfl
  by_cases hbig : 1000000 < now ∨ now < -1000000
  · have hl : w.heap.size < w.heap.size + 1 := by omega
    rcases hbig with h | h
    · go_enter Try.func7, Try.ntmps7
      go_wp2_with (go_at_call 10; refine (shown10_any _).mono ?_; rintro x w1 ⟨rfl, hb⟩)
      go_ret
      exact ⟨rfl, below_next hB hB.size hb⟩
    · have h' : ¬ 1000000 < now := by omega
      go_enter Try.func7, Try.ntmps7
      go_wp2_with (go_at_call 10; refine (shown10_any _).mono ?_; rintro x w1 ⟨rfl, hb⟩)
      go_ret
      exact ⟨rfl, below_next hB hB.size hb⟩
  have h1 : ¬ 1000000 < now := fun h => hbig (Or.inl h)
  have h2 : ¬ now < -1000000 := fun h => hbig (Or.inr h)
  have ct := fun w => conv_u16 n hn w
  obtain ⟨np, e1, e2, e3⟩ : ∃ np : Int, wrap64 (now + (n : Int)) = np ∧ IntKind.i64.wrap (now + (n : Int)) = np ∧ Hid (np = now + (n : Int)) := ⟨now + n, wrap64_id (by unfold I64; omega), IntWalk.i64_in _ (by omega), rfl⟩
  obtain ⟨nm, f1, f2, f3⟩ : ∃ nm : Int, wrap64 (now - (n : Int)) = nm ∧ IntKind.i64.wrap (now - (n : Int)) = nm ∧ Hid (nm = now - (n : Int)) := ⟨now - n, wrap64_id (by unfold I64; omega), IntWalk.i64_in _ (by omega), rfl⟩
  have KX := hide (fun w => late_any np 0 (.int .i64 x0) (.int .i64 x1) (.int .i64 x2) (.int .i64 x3) (.int .i64 x4) (.int .i64 x5) (.int .i64 x6) (.int .i64 x7) (.bool b) (.int .i64 x9) (.int .i64 x10) (.int .i64 x11) (.int .i64 tt) (.slice m1 m2 m3) (.slice m4 m5 m6) (.int .i64 d.ph) (.int .i64 d.it) (.int .i64 d.tg) (.int .i64 d.v) (.slice p.bA d.bl.length p.bc) (.slice p.kA d.kl.length p.kc) (.slice p.hA d.hl.length p.hc) (.int .i64 d.st) (.int .i64 d.nd) (.int .i64 d.pl) (.int .i64 d.ly) (.int .i64 d.lf) (.int .i64 d.wd) (.int .i64 d.who) (.int .i64 d.x) (.int .i64 d.y) (.slice l1 l2 l3) (.int .i64 ta) (.slice g1 g2 g3) (.bool dn) w)
  rw [show lateB 0 np = false by simp [lateB]] at KX
  have KU := hide (fun w => late_any now d.un (.int .i64 x0) (.int .i64 x1) (.int .i64 x2) (.int .i64 x3) (.int .i64 x4) (.int .i64 x5) (.int .i64 x6) (.int .i64 x7) (.bool b) (.int .i64 x9) (.int .i64 x10) (.int .i64 x11) (.int .i64 tt) (.slice m1 m2 m3) (.slice m4 m5 m6) (.int .i64 d.ph) (.int .i64 d.it) (.int .i64 d.tg) (.int .i64 d.v) (.slice p.bA d.bl.length p.bc) (.slice p.kA d.kl.length p.kc) (.slice p.hA d.hl.length p.hc) (.int .i64 d.st) (.int .i64 d.nd) (.int .i64 d.pl) (.int .i64 d.ly) (.int .i64 d.lf) (.int .i64 d.wd) (.int .i64 d.who) (.int .i64 d.x) (.int .i64 d.y) (.slice l1 l2 l3) (.int .i64 ta) (.slice g1 g2 g3) (.bool dn) w)
  have KV := hide (fun w => late_any np d.un (.int .i64 x0) (.int .i64 x1) (.int .i64 x2) (.int .i64 x3) (.int .i64 x4) (.int .i64 x5) (.int .i64 x6) (.int .i64 x7) (.bool b) (.int .i64 x9) (.int .i64 x10) (.int .i64 x11) (.int .i64 tt) (.slice m1 m2 m3) (.slice m4 m5 m6) (.int .i64 d.ph) (.int .i64 d.it) (.int .i64 d.tg) (.int .i64 d.v) (.slice p.bA d.bl.length p.bc) (.slice p.kA d.kl.length p.kc) (.slice p.hA d.hl.length p.hc) (.int .i64 d.st) (.int .i64 d.nd) (.int .i64 d.pl) (.int .i64 d.ly) (.int .i64 d.lf) (.int .i64 d.wd) (.int .i64 d.who) (.int .i64 d.x) (.int .i64 d.y) (.slice l1 l2 l3) (.int .i64 ta) (.slice g1 g2 g3) (.bool dn) w)
  have KW := hide (fun w => late_any nm d.un (.int .i64 x0) (.int .i64 x1) (.int .i64 x2) (.int .i64 x3) (.int .i64 x4) (.int .i64 x5) (.int .i64 x6) (.int .i64 x7) (.bool b) (.int .i64 x9) (.int .i64 x10) (.int .i64 x11) (.int .i64 tt) (.slice m1 m2 m3) (.slice m4 m5 m6) (.int .i64 d.ph) (.int .i64 d.it) (.int .i64 d.tg) (.int .i64 d.v) (.slice p.bA d.bl.length p.bc) (.slice p.kA d.kl.length p.kc) (.slice p.hA d.hl.length p.hc) (.int .i64 d.st) (.int .i64 d.nd) (.int .i64 d.pl) (.int .i64 d.ly) (.int .i64 d.lf) (.int .i64 d.wd) (.int .i64 d.who) (.int .i64 d.x) (.int .i64 d.y) (.slice l1 l2 l3) (.int .i64 ta) (.slice g1 g2 g3) (.bool dn) w)
  have hv : Hid (lateB d.un now = true → lateB d.un np = true) := hide (by rw [e3.out]; unfold lateB; simp; omega)
  have hw : Hid (lateB d.un now = false → lateB d.un nm = false) := hide (by rw [f3.out]; unfold lateB; simp; omega)
  clear hn hbig e3 f3
  go_enter Try.func7, Try.ntmps7
  go_wp2_with fail
  refine (shown10_any _).mono ?_
  rintro x w1 ⟨rfl, hb⟩
  replace Ru := range_keep Ru hb
  replace hB := below_next hB hB.size hb
  clear hb p13 h1 h2
  have lu : w.heap.size < w1.heap.size := World.block_lt_of_cell? w1 _ (rg Ru 0 rfl)
  go_upto_region 3 with fail
  obtain ⟨p0, p1, p2, p3, p4, p5, p6, p7, p8, p9, p10, p11, p12, p13, p14, p15, p16, p17, p18, p19, p20, p21, p22, p23, p24, p25, p26, p27, p28, p29, p30, p31, p32, p33, p34, p35, p36⟩ := box37 Ru
  go_upto_region 4 with fail
  clear p0 p1 p2 p3 p4 p5 p6 p7 p8 p9 p10 p11 p12 p13 p14 p15 p16 p17 p18 p19 p20 p21 p22 p23 p24 p25 p26 p27 p28 p29 p30 p31 p32 p33 p34 p35 p36
  have Ra : (w1.alloc (.cells (List.toArray (.int .i64 x0 :: .int .i64 x1 :: .int .i64 x2 :: .int .i64 x3 :: .int .i64 x4 :: .int .i64 x5 :: .int .i64 x6 :: .int .i64 x7 :: .bool b :: .int .i64 x9 :: .int .i64 x10 :: .int .i64 x11 :: .int .i64 tt :: .int .i64 now :: .slice m1 m2 m3 :: .slice m4 m5 m6 :: .int .i64 d.ph :: .int .i64 d.it :: .int .i64 d.tg :: .int .i64 d.v :: .slice p.bA d.bl.length p.bc :: .slice p.kA d.kl.length p.kc :: .slice p.hA d.hl.length p.hc :: .int .i64 d.st :: .int .i64 d.nd :: .int .i64 d.pl :: .int .i64 d.ly :: .int .i64 d.lf :: .int .i64 d.wd :: .int .i64 d.who :: .int .i64 d.x :: .int .i64 d.y :: .int .i64 d.un :: .slice l1 l2 l3 :: .int .i64 ta :: .slice g1 g2 g3 :: .bool dn :: [])) 55)).rangeAt w1.heap.size 0 (.int .i64 x0 :: .int .i64 x1 :: .int .i64 x2 :: .int .i64 x3 :: .int .i64 x4 :: .int .i64 x5 :: .int .i64 x6 :: .int .i64 x7 :: .bool b :: .int .i64 x9 :: .int .i64 x10 :: .int .i64 x11 :: .int .i64 tt :: .int .i64 now :: .slice m1 m2 m3 :: .slice m4 m5 m6 :: .int .i64 d.ph :: .int .i64 d.it :: .int .i64 d.tg :: .int .i64 d.v :: .slice p.bA d.bl.length p.bc :: .slice p.kA d.kl.length p.kc :: .slice p.hA d.hl.length p.hc :: .int .i64 d.st :: .int .i64 d.nd :: .int .i64 d.pl :: .int .i64 d.ly :: .int .i64 d.lf :: .int .i64 d.wd :: .int .i64 d.who :: .int .i64 d.x :: .int .i64 d.y :: .int .i64 d.un :: .slice l1 l2 l3 :: .int .i64 ta :: .slice g1 g2 g3 :: .bool dn :: []) := range_new w1 (.int .i64 x0 :: .int .i64 x1 :: .int .i64 x2 :: .int .i64 x3 :: .int .i64 x4 :: .int .i64 x5 :: .int .i64 x6 :: .int .i64 x7 :: .bool b :: .int .i64 x9 :: .int .i64 x10 :: .int .i64 x11 :: .int .i64 tt :: .int .i64 now :: .slice m1 m2 m3 :: .slice m4 m5 m6 :: .int .i64 d.ph :: .int .i64 d.it :: .int .i64 d.tg :: .int .i64 d.v :: .slice p.bA d.bl.length p.bc :: .slice p.kA d.kl.length p.kc :: .slice p.hA d.hl.length p.hc :: .int .i64 d.st :: .int .i64 d.nd :: .int .i64 d.pl :: .int .i64 d.ly :: .int .i64 d.lf :: .int .i64 d.wd :: .int .i64 d.who :: .int .i64 d.x :: .int .i64 d.y :: .int .i64 d.un :: .slice l1 l2 l3 :: .int .i64 ta :: .slice g1 g2 g3 :: .bool dn :: []) 55
  have zaa := frozen_new w1 (List.toArray (.int .i64 x0 :: .int .i64 x1 :: .int .i64 x2 :: .int .i64 x3 :: .int .i64 x4 :: .int .i64 x5 :: .int .i64 x6 :: .int .i64 x7 :: .bool b :: .int .i64 x9 :: .int .i64 x10 :: .int .i64 x11 :: .int .i64 tt :: .int .i64 now :: .slice m1 m2 m3 :: .slice m4 m5 m6 :: .int .i64 d.ph :: .int .i64 d.it :: .int .i64 d.tg :: .int .i64 d.v :: .slice p.bA d.bl.length p.bc :: .slice p.kA d.kl.length p.kc :: .slice p.hA d.hl.length p.hc :: .int .i64 d.st :: .int .i64 d.nd :: .int .i64 d.pl :: .int .i64 d.ly :: .int .i64 d.lf :: .int .i64 d.wd :: .int .i64 d.who :: .int .i64 d.x :: .int .i64 d.y :: .int .i64 d.un :: .slice l1 l2 l3 :: .int .i64 ta :: .slice g1 g2 g3 :: .bool dn :: [])) 55 13
  have zab := frozen_new w1 (List.toArray (.int .i64 x0 :: .int .i64 x1 :: .int .i64 x2 :: .int .i64 x3 :: .int .i64 x4 :: .int .i64 x5 :: .int .i64 x6 :: .int .i64 x7 :: .bool b :: .int .i64 x9 :: .int .i64 x10 :: .int .i64 x11 :: .int .i64 tt :: .int .i64 now :: .slice m1 m2 m3 :: .slice m4 m5 m6 :: .int .i64 d.ph :: .int .i64 d.it :: .int .i64 d.tg :: .int .i64 d.v :: .slice p.bA d.bl.length p.bc :: .slice p.kA d.kl.length p.kc :: .slice p.hA d.hl.length p.hc :: .int .i64 d.st :: .int .i64 d.nd :: .int .i64 d.pl :: .int .i64 d.ly :: .int .i64 d.lf :: .int .i64 d.wd :: .int .i64 d.who :: .int .i64 d.x :: .int .i64 d.y :: .int .i64 d.un :: .slice l1 l2 l3 :: .int .i64 ta :: .slice g1 g2 g3 :: .bool dn :: [])) 55 32
  replace Ru := range_keep Ru (belowA w1 (.cells (List.toArray (.int .i64 x0 :: .int .i64 x1 :: .int .i64 x2 :: .int .i64 x3 :: .int .i64 x4 :: .int .i64 x5 :: .int .i64 x6 :: .int .i64 x7 :: .bool b :: .int .i64 x9 :: .int .i64 x10 :: .int .i64 x11 :: .int .i64 tt :: .int .i64 now :: .slice m1 m2 m3 :: .slice m4 m5 m6 :: .int .i64 d.ph :: .int .i64 d.it :: .int .i64 d.tg :: .int .i64 d.v :: .slice p.bA d.bl.length p.bc :: .slice p.kA d.kl.length p.kc :: .slice p.hA d.hl.length p.hc :: .int .i64 d.st :: .int .i64 d.nd :: .int .i64 d.pl :: .int .i64 d.ly :: .int .i64 d.lf :: .int .i64 d.wd :: .int .i64 d.who :: .int .i64 d.x :: .int .i64 d.y :: .int .i64 d.un :: .slice l1 l2 l3 :: .int .i64 ta :: .slice g1 g2 g3 :: .bool dn :: [])) 55))
  replace hB := below_next hB hB.size (belowA w1 (.cells (List.toArray (.int .i64 x0 :: .int .i64 x1 :: .int .i64 x2 :: .int .i64 x3 :: .int .i64 x4 :: .int .i64 x5 :: .int .i64 x6 :: .int .i64 x7 :: .bool b :: .int .i64 x9 :: .int .i64 x10 :: .int .i64 x11 :: .int .i64 tt :: .int .i64 now :: .slice m1 m2 m3 :: .slice m4 m5 m6 :: .int .i64 d.ph :: .int .i64 d.it :: .int .i64 d.tg :: .int .i64 d.v :: .slice p.bA d.bl.length p.bc :: .slice p.kA d.kl.length p.kc :: .slice p.hA d.hl.length p.hc :: .int .i64 d.st :: .int .i64 d.nd :: .int .i64 d.pl :: .int .i64 d.ly :: .int .i64 d.lf :: .int .i64 d.wd :: .int .i64 d.who :: .int .i64 d.x :: .int .i64 d.y :: .int .i64 d.un :: .slice l1 l2 l3 :: .int .i64 ta :: .slice g1 g2 g3 :: .bool dn :: [])) 55))
  have la : w1.heap.size < (w1.alloc (.cells (List.toArray (.int .i64 x0 :: .int .i64 x1 :: .int .i64 x2 :: .int .i64 x3 :: .int .i64 x4 :: .int .i64 x5 :: .int .i64 x6 :: .int .i64 x7 :: .bool b :: .int .i64 x9 :: .int .i64 x10 :: .int .i64 x11 :: .int .i64 tt :: .int .i64 now :: .slice m1 m2 m3 :: .slice m4 m5 m6 :: .int .i64 d.ph :: .int .i64 d.it :: .int .i64 d.tg :: .int .i64 d.v :: .slice p.bA d.bl.length p.bc :: .slice p.kA d.kl.length p.kc :: .slice p.hA d.hl.length p.hc :: .int .i64 d.st :: .int .i64 d.nd :: .int .i64 d.pl :: .int .i64 d.ly :: .int .i64 d.lf :: .int .i64 d.wd :: .int .i64 d.who :: .int .i64 d.x :: .int .i64 d.y :: .int .i64 d.un :: .slice l1 l2 l3 :: .int .i64 ta :: .slice g1 g2 g3 :: .bool dn :: [])) 55)).heap.size := by simp
  obtain ⟨ya, ea⟩ : ∃ y, w1.heap.size = y := ⟨_, rfl⟩
  rw [ea] at Ra zaa zab la lu ⊢
  generalize (w1.alloc (.cells (List.toArray (.int .i64 x0 :: .int .i64 x1 :: .int .i64 x2 :: .int .i64 x3 :: .int .i64 x4 :: .int .i64 x5 :: .int .i64 x6 :: .int .i64 x7 :: .bool b :: .int .i64 x9 :: .int .i64 x10 :: .int .i64 x11 :: .int .i64 tt :: .int .i64 now :: .slice m1 m2 m3 :: .slice m4 m5 m6 :: .int .i64 d.ph :: .int .i64 d.it :: .int .i64 d.tg :: .int .i64 d.v :: .slice p.bA d.bl.length p.bc :: .slice p.kA d.kl.length p.kc :: .slice p.hA d.hl.length p.hc :: .int .i64 d.st :: .int .i64 d.nd :: .int .i64 d.pl :: .int .i64 d.ly :: .int .i64 d.lf :: .int .i64 d.wd :: .int .i64 d.who :: .int .i64 d.x :: .int .i64 d.y :: .int .i64 d.un :: .slice l1 l2 l3 :: .int .i64 ta :: .slice g1 g2 g3 :: .bool dn :: [])) 55)) = v1 at *
  clear ea
  have p13 := rg Ru 13 rfl
  have o13 := rg Ra 13 rfl
  replace Ra := range13 (x := .int .i64 np) Ra
  replace Ru := rangeFar (x := .int .i64 np) Ru (b := ya) (o := 13) (by omega)
  replace hB := hB.setCell (p := ⟨ya, 13, none⟩) (by show w.heap.size ≤ ya; omega) (.int .i64 np)
  have sz : (v1.setCell ⟨ya, 13, none⟩ (.int .i64 np)).heap.size = v1.heap.size := by simp
  go_upto_region 5 with fail
  clear p13 o13 zaa zab
  rw [← sz] at la
  generalize (v1.setCell ⟨ya, 13, none⟩ (.int .i64 np)) = v2 at *
  clear sz
  obtain ⟨p0, p1, p2, p3, p4, p5, p6, p7, p8, p9, p10, p11, p12, p13, p14, p15, p16, p17, p18, p19, p20, p21, p22, p23, p24, p25, p26, p27, p28, p29, p30, p31, p32, p33, p34, p35, p36⟩ := box37 Ru
  go_upto_region 6 with fail
  clear p0 p1 p2 p3 p4 p5 p6 p7 p8 p9 p10 p11 p12 p13 p14 p15 p16 p17 p18 p19 p20 p21 p22 p23 p24 p25 p26 p27 p28 p29 p30 p31 p32 p33 p34 p35 p36
  have Rb : (v2.alloc (.cells (List.toArray (.int .i64 x0 :: .int .i64 x1 :: .int .i64 x2 :: .int .i64 x3 :: .int .i64 x4 :: .int .i64 x5 :: .int .i64 x6 :: .int .i64 x7 :: .bool b :: .int .i64 x9 :: .int .i64 x10 :: .int .i64 x11 :: .int .i64 tt :: .int .i64 now :: .slice m1 m2 m3 :: .slice m4 m5 m6 :: .int .i64 d.ph :: .int .i64 d.it :: .int .i64 d.tg :: .int .i64 d.v :: .slice p.bA d.bl.length p.bc :: .slice p.kA d.kl.length p.kc :: .slice p.hA d.hl.length p.hc :: .int .i64 d.st :: .int .i64 d.nd :: .int .i64 d.pl :: .int .i64 d.ly :: .int .i64 d.lf :: .int .i64 d.wd :: .int .i64 d.who :: .int .i64 d.x :: .int .i64 d.y :: .int .i64 d.un :: .slice l1 l2 l3 :: .int .i64 ta :: .slice g1 g2 g3 :: .bool dn :: [])) 55)).rangeAt v2.heap.size 0 (.int .i64 x0 :: .int .i64 x1 :: .int .i64 x2 :: .int .i64 x3 :: .int .i64 x4 :: .int .i64 x5 :: .int .i64 x6 :: .int .i64 x7 :: .bool b :: .int .i64 x9 :: .int .i64 x10 :: .int .i64 x11 :: .int .i64 tt :: .int .i64 now :: .slice m1 m2 m3 :: .slice m4 m5 m6 :: .int .i64 d.ph :: .int .i64 d.it :: .int .i64 d.tg :: .int .i64 d.v :: .slice p.bA d.bl.length p.bc :: .slice p.kA d.kl.length p.kc :: .slice p.hA d.hl.length p.hc :: .int .i64 d.st :: .int .i64 d.nd :: .int .i64 d.pl :: .int .i64 d.ly :: .int .i64 d.lf :: .int .i64 d.wd :: .int .i64 d.who :: .int .i64 d.x :: .int .i64 d.y :: .int .i64 d.un :: .slice l1 l2 l3 :: .int .i64 ta :: .slice g1 g2 g3 :: .bool dn :: []) := range_new v2 (.int .i64 x0 :: .int .i64 x1 :: .int .i64 x2 :: .int .i64 x3 :: .int .i64 x4 :: .int .i64 x5 :: .int .i64 x6 :: .int .i64 x7 :: .bool b :: .int .i64 x9 :: .int .i64 x10 :: .int .i64 x11 :: .int .i64 tt :: .int .i64 now :: .slice m1 m2 m3 :: .slice m4 m5 m6 :: .int .i64 d.ph :: .int .i64 d.it :: .int .i64 d.tg :: .int .i64 d.v :: .slice p.bA d.bl.length p.bc :: .slice p.kA d.kl.length p.kc :: .slice p.hA d.hl.length p.hc :: .int .i64 d.st :: .int .i64 d.nd :: .int .i64 d.pl :: .int .i64 d.ly :: .int .i64 d.lf :: .int .i64 d.wd :: .int .i64 d.who :: .int .i64 d.x :: .int .i64 d.y :: .int .i64 d.un :: .slice l1 l2 l3 :: .int .i64 ta :: .slice g1 g2 g3 :: .bool dn :: []) 55
  have zba := frozen_new v2 (List.toArray (.int .i64 x0 :: .int .i64 x1 :: .int .i64 x2 :: .int .i64 x3 :: .int .i64 x4 :: .int .i64 x5 :: .int .i64 x6 :: .int .i64 x7 :: .bool b :: .int .i64 x9 :: .int .i64 x10 :: .int .i64 x11 :: .int .i64 tt :: .int .i64 now :: .slice m1 m2 m3 :: .slice m4 m5 m6 :: .int .i64 d.ph :: .int .i64 d.it :: .int .i64 d.tg :: .int .i64 d.v :: .slice p.bA d.bl.length p.bc :: .slice p.kA d.kl.length p.kc :: .slice p.hA d.hl.length p.hc :: .int .i64 d.st :: .int .i64 d.nd :: .int .i64 d.pl :: .int .i64 d.ly :: .int .i64 d.lf :: .int .i64 d.wd :: .int .i64 d.who :: .int .i64 d.x :: .int .i64 d.y :: .int .i64 d.un :: .slice l1 l2 l3 :: .int .i64 ta :: .slice g1 g2 g3 :: .bool dn :: [])) 55 13
  have zbb := frozen_new v2 (List.toArray (.int .i64 x0 :: .int .i64 x1 :: .int .i64 x2 :: .int .i64 x3 :: .int .i64 x4 :: .int .i64 x5 :: .int .i64 x6 :: .int .i64 x7 :: .bool b :: .int .i64 x9 :: .int .i64 x10 :: .int .i64 x11 :: .int .i64 tt :: .int .i64 now :: .slice m1 m2 m3 :: .slice m4 m5 m6 :: .int .i64 d.ph :: .int .i64 d.it :: .int .i64 d.tg :: .int .i64 d.v :: .slice p.bA d.bl.length p.bc :: .slice p.kA d.kl.length p.kc :: .slice p.hA d.hl.length p.hc :: .int .i64 d.st :: .int .i64 d.nd :: .int .i64 d.pl :: .int .i64 d.ly :: .int .i64 d.lf :: .int .i64 d.wd :: .int .i64 d.who :: .int .i64 d.x :: .int .i64 d.y :: .int .i64 d.un :: .slice l1 l2 l3 :: .int .i64 ta :: .slice g1 g2 g3 :: .bool dn :: [])) 55 32
  replace Ru := range_keep Ru (belowA v2 (.cells (List.toArray (.int .i64 x0 :: .int .i64 x1 :: .int .i64 x2 :: .int .i64 x3 :: .int .i64 x4 :: .int .i64 x5 :: .int .i64 x6 :: .int .i64 x7 :: .bool b :: .int .i64 x9 :: .int .i64 x10 :: .int .i64 x11 :: .int .i64 tt :: .int .i64 now :: .slice m1 m2 m3 :: .slice m4 m5 m6 :: .int .i64 d.ph :: .int .i64 d.it :: .int .i64 d.tg :: .int .i64 d.v :: .slice p.bA d.bl.length p.bc :: .slice p.kA d.kl.length p.kc :: .slice p.hA d.hl.length p.hc :: .int .i64 d.st :: .int .i64 d.nd :: .int .i64 d.pl :: .int .i64 d.ly :: .int .i64 d.lf :: .int .i64 d.wd :: .int .i64 d.who :: .int .i64 d.x :: .int .i64 d.y :: .int .i64 d.un :: .slice l1 l2 l3 :: .int .i64 ta :: .slice g1 g2 g3 :: .bool dn :: [])) 55))
  replace Ra := range_keep Ra (belowA v2 (.cells (List.toArray (.int .i64 x0 :: .int .i64 x1 :: .int .i64 x2 :: .int .i64 x3 :: .int .i64 x4 :: .int .i64 x5 :: .int .i64 x6 :: .int .i64 x7 :: .bool b :: .int .i64 x9 :: .int .i64 x10 :: .int .i64 x11 :: .int .i64 tt :: .int .i64 now :: .slice m1 m2 m3 :: .slice m4 m5 m6 :: .int .i64 d.ph :: .int .i64 d.it :: .int .i64 d.tg :: .int .i64 d.v :: .slice p.bA d.bl.length p.bc :: .slice p.kA d.kl.length p.kc :: .slice p.hA d.hl.length p.hc :: .int .i64 d.st :: .int .i64 d.nd :: .int .i64 d.pl :: .int .i64 d.ly :: .int .i64 d.lf :: .int .i64 d.wd :: .int .i64 d.who :: .int .i64 d.x :: .int .i64 d.y :: .int .i64 d.un :: .slice l1 l2 l3 :: .int .i64 ta :: .slice g1 g2 g3 :: .bool dn :: [])) 55))
  replace hB := below_next hB hB.size (belowA v2 (.cells (List.toArray (.int .i64 x0 :: .int .i64 x1 :: .int .i64 x2 :: .int .i64 x3 :: .int .i64 x4 :: .int .i64 x5 :: .int .i64 x6 :: .int .i64 x7 :: .bool b :: .int .i64 x9 :: .int .i64 x10 :: .int .i64 x11 :: .int .i64 tt :: .int .i64 now :: .slice m1 m2 m3 :: .slice m4 m5 m6 :: .int .i64 d.ph :: .int .i64 d.it :: .int .i64 d.tg :: .int .i64 d.v :: .slice p.bA d.bl.length p.bc :: .slice p.kA d.kl.length p.kc :: .slice p.hA d.hl.length p.hc :: .int .i64 d.st :: .int .i64 d.nd :: .int .i64 d.pl :: .int .i64 d.ly :: .int .i64 d.lf :: .int .i64 d.wd :: .int .i64 d.who :: .int .i64 d.x :: .int .i64 d.y :: .int .i64 d.un :: .slice l1 l2 l3 :: .int .i64 ta :: .slice g1 g2 g3 :: .bool dn :: [])) 55))
  have lb : v2.heap.size < (v2.alloc (.cells (List.toArray (.int .i64 x0 :: .int .i64 x1 :: .int .i64 x2 :: .int .i64 x3 :: .int .i64 x4 :: .int .i64 x5 :: .int .i64 x6 :: .int .i64 x7 :: .bool b :: .int .i64 x9 :: .int .i64 x10 :: .int .i64 x11 :: .int .i64 tt :: .int .i64 now :: .slice m1 m2 m3 :: .slice m4 m5 m6 :: .int .i64 d.ph :: .int .i64 d.it :: .int .i64 d.tg :: .int .i64 d.v :: .slice p.bA d.bl.length p.bc :: .slice p.kA d.kl.length p.kc :: .slice p.hA d.hl.length p.hc :: .int .i64 d.st :: .int .i64 d.nd :: .int .i64 d.pl :: .int .i64 d.ly :: .int .i64 d.lf :: .int .i64 d.wd :: .int .i64 d.who :: .int .i64 d.x :: .int .i64 d.y :: .int .i64 d.un :: .slice l1 l2 l3 :: .int .i64 ta :: .slice g1 g2 g3 :: .bool dn :: [])) 55)).heap.size := by simp
  obtain ⟨yb, eb⟩ : ∃ y, v2.heap.size = y := ⟨_, rfl⟩
  rw [eb] at Rb zba zbb lb la ⊢
  generalize (v2.alloc (.cells (List.toArray (.int .i64 x0 :: .int .i64 x1 :: .int .i64 x2 :: .int .i64 x3 :: .int .i64 x4 :: .int .i64 x5 :: .int .i64 x6 :: .int .i64 x7 :: .bool b :: .int .i64 x9 :: .int .i64 x10 :: .int .i64 x11 :: .int .i64 tt :: .int .i64 now :: .slice m1 m2 m3 :: .slice m4 m5 m6 :: .int .i64 d.ph :: .int .i64 d.it :: .int .i64 d.tg :: .int .i64 d.v :: .slice p.bA d.bl.length p.bc :: .slice p.kA d.kl.length p.kc :: .slice p.hA d.hl.length p.hc :: .int .i64 d.st :: .int .i64 d.nd :: .int .i64 d.pl :: .int .i64 d.ly :: .int .i64 d.lf :: .int .i64 d.wd :: .int .i64 d.who :: .int .i64 d.x :: .int .i64 d.y :: .int .i64 d.un :: .slice l1 l2 l3 :: .int .i64 ta :: .slice g1 g2 g3 :: .bool dn :: [])) 55)) = v3 at *
  clear eb
  have p13 := rg Ru 13 rfl
  have o13 := rg Rb 13 rfl
  replace Rb := range13 (x := .int .i64 nm) Rb
  replace Ru := rangeFar (x := .int .i64 nm) Ru (b := yb) (o := 13) (by omega)
  replace Ra := rangeFar (x := .int .i64 nm) Ra (b := yb) (o := 13) (by omega)
  replace hB := hB.setCell (p := ⟨yb, 13, none⟩) (by show w.heap.size ≤ yb; omega) (.int .i64 nm)
  have sz : (v3.setCell ⟨yb, 13, none⟩ (.int .i64 nm)).heap.size = v3.heap.size := by simp
  go_upto_region 7 with fail
  clear p13 o13 zba zbb
  rw [← sz] at lb
  generalize (v3.setCell ⟨yb, 13, none⟩ (.int .i64 nm)) = v4 at *
  clear sz
  obtain ⟨p0, p1, p2, p3, p4, p5, p6, p7, p8, p9, p10, p11, p12, p13, p14, p15, p16, p17, p18, p19, p20, p21, p22, p23, p24, p25, p26, p27, p28, p29, p30, p31, p32, p33, p34, p35, p36⟩ := box37 Ra
  go_upto_region 8 with fail
  clear p0 p1 p2 p3 p4 p5 p6 p7 p8 p9 p10 p11 p12 p13 p14 p15 p16 p17 p18 p19 p20 p21 p22 p23 p24 p25 p26 p27 p28 p29 p30 p31 p32 p33 p34 p35 p36
  have Rc : (v4.alloc (.cells (List.toArray (.int .i64 x0 :: .int .i64 x1 :: .int .i64 x2 :: .int .i64 x3 :: .int .i64 x4 :: .int .i64 x5 :: .int .i64 x6 :: .int .i64 x7 :: .bool b :: .int .i64 x9 :: .int .i64 x10 :: .int .i64 x11 :: .int .i64 tt :: .int .i64 np :: .slice m1 m2 m3 :: .slice m4 m5 m6 :: .int .i64 d.ph :: .int .i64 d.it :: .int .i64 d.tg :: .int .i64 d.v :: .slice p.bA d.bl.length p.bc :: .slice p.kA d.kl.length p.kc :: .slice p.hA d.hl.length p.hc :: .int .i64 d.st :: .int .i64 d.nd :: .int .i64 d.pl :: .int .i64 d.ly :: .int .i64 d.lf :: .int .i64 d.wd :: .int .i64 d.who :: .int .i64 d.x :: .int .i64 d.y :: .int .i64 d.un :: .slice l1 l2 l3 :: .int .i64 ta :: .slice g1 g2 g3 :: .bool dn :: [])) 55)).rangeAt v4.heap.size 0 (.int .i64 x0 :: .int .i64 x1 :: .int .i64 x2 :: .int .i64 x3 :: .int .i64 x4 :: .int .i64 x5 :: .int .i64 x6 :: .int .i64 x7 :: .bool b :: .int .i64 x9 :: .int .i64 x10 :: .int .i64 x11 :: .int .i64 tt :: .int .i64 np :: .slice m1 m2 m3 :: .slice m4 m5 m6 :: .int .i64 d.ph :: .int .i64 d.it :: .int .i64 d.tg :: .int .i64 d.v :: .slice p.bA d.bl.length p.bc :: .slice p.kA d.kl.length p.kc :: .slice p.hA d.hl.length p.hc :: .int .i64 d.st :: .int .i64 d.nd :: .int .i64 d.pl :: .int .i64 d.ly :: .int .i64 d.lf :: .int .i64 d.wd :: .int .i64 d.who :: .int .i64 d.x :: .int .i64 d.y :: .int .i64 d.un :: .slice l1 l2 l3 :: .int .i64 ta :: .slice g1 g2 g3 :: .bool dn :: []) := range_new v4 (.int .i64 x0 :: .int .i64 x1 :: .int .i64 x2 :: .int .i64 x3 :: .int .i64 x4 :: .int .i64 x5 :: .int .i64 x6 :: .int .i64 x7 :: .bool b :: .int .i64 x9 :: .int .i64 x10 :: .int .i64 x11 :: .int .i64 tt :: .int .i64 np :: .slice m1 m2 m3 :: .slice m4 m5 m6 :: .int .i64 d.ph :: .int .i64 d.it :: .int .i64 d.tg :: .int .i64 d.v :: .slice p.bA d.bl.length p.bc :: .slice p.kA d.kl.length p.kc :: .slice p.hA d.hl.length p.hc :: .int .i64 d.st :: .int .i64 d.nd :: .int .i64 d.pl :: .int .i64 d.ly :: .int .i64 d.lf :: .int .i64 d.wd :: .int .i64 d.who :: .int .i64 d.x :: .int .i64 d.y :: .int .i64 d.un :: .slice l1 l2 l3 :: .int .i64 ta :: .slice g1 g2 g3 :: .bool dn :: []) 55
  have zca := frozen_new v4 (List.toArray (.int .i64 x0 :: .int .i64 x1 :: .int .i64 x2 :: .int .i64 x3 :: .int .i64 x4 :: .int .i64 x5 :: .int .i64 x6 :: .int .i64 x7 :: .bool b :: .int .i64 x9 :: .int .i64 x10 :: .int .i64 x11 :: .int .i64 tt :: .int .i64 np :: .slice m1 m2 m3 :: .slice m4 m5 m6 :: .int .i64 d.ph :: .int .i64 d.it :: .int .i64 d.tg :: .int .i64 d.v :: .slice p.bA d.bl.length p.bc :: .slice p.kA d.kl.length p.kc :: .slice p.hA d.hl.length p.hc :: .int .i64 d.st :: .int .i64 d.nd :: .int .i64 d.pl :: .int .i64 d.ly :: .int .i64 d.lf :: .int .i64 d.wd :: .int .i64 d.who :: .int .i64 d.x :: .int .i64 d.y :: .int .i64 d.un :: .slice l1 l2 l3 :: .int .i64 ta :: .slice g1 g2 g3 :: .bool dn :: [])) 55 13
  have zcb := frozen_new v4 (List.toArray (.int .i64 x0 :: .int .i64 x1 :: .int .i64 x2 :: .int .i64 x3 :: .int .i64 x4 :: .int .i64 x5 :: .int .i64 x6 :: .int .i64 x7 :: .bool b :: .int .i64 x9 :: .int .i64 x10 :: .int .i64 x11 :: .int .i64 tt :: .int .i64 np :: .slice m1 m2 m3 :: .slice m4 m5 m6 :: .int .i64 d.ph :: .int .i64 d.it :: .int .i64 d.tg :: .int .i64 d.v :: .slice p.bA d.bl.length p.bc :: .slice p.kA d.kl.length p.kc :: .slice p.hA d.hl.length p.hc :: .int .i64 d.st :: .int .i64 d.nd :: .int .i64 d.pl :: .int .i64 d.ly :: .int .i64 d.lf :: .int .i64 d.wd :: .int .i64 d.who :: .int .i64 d.x :: .int .i64 d.y :: .int .i64 d.un :: .slice l1 l2 l3 :: .int .i64 ta :: .slice g1 g2 g3 :: .bool dn :: [])) 55 32
  replace Ru := range_keep Ru (belowA v4 (.cells (List.toArray (.int .i64 x0 :: .int .i64 x1 :: .int .i64 x2 :: .int .i64 x3 :: .int .i64 x4 :: .int .i64 x5 :: .int .i64 x6 :: .int .i64 x7 :: .bool b :: .int .i64 x9 :: .int .i64 x10 :: .int .i64 x11 :: .int .i64 tt :: .int .i64 np :: .slice m1 m2 m3 :: .slice m4 m5 m6 :: .int .i64 d.ph :: .int .i64 d.it :: .int .i64 d.tg :: .int .i64 d.v :: .slice p.bA d.bl.length p.bc :: .slice p.kA d.kl.length p.kc :: .slice p.hA d.hl.length p.hc :: .int .i64 d.st :: .int .i64 d.nd :: .int .i64 d.pl :: .int .i64 d.ly :: .int .i64 d.lf :: .int .i64 d.wd :: .int .i64 d.who :: .int .i64 d.x :: .int .i64 d.y :: .int .i64 d.un :: .slice l1 l2 l3 :: .int .i64 ta :: .slice g1 g2 g3 :: .bool dn :: [])) 55))
  replace Ra := range_keep Ra (belowA v4 (.cells (List.toArray (.int .i64 x0 :: .int .i64 x1 :: .int .i64 x2 :: .int .i64 x3 :: .int .i64 x4 :: .int .i64 x5 :: .int .i64 x6 :: .int .i64 x7 :: .bool b :: .int .i64 x9 :: .int .i64 x10 :: .int .i64 x11 :: .int .i64 tt :: .int .i64 np :: .slice m1 m2 m3 :: .slice m4 m5 m6 :: .int .i64 d.ph :: .int .i64 d.it :: .int .i64 d.tg :: .int .i64 d.v :: .slice p.bA d.bl.length p.bc :: .slice p.kA d.kl.length p.kc :: .slice p.hA d.hl.length p.hc :: .int .i64 d.st :: .int .i64 d.nd :: .int .i64 d.pl :: .int .i64 d.ly :: .int .i64 d.lf :: .int .i64 d.wd :: .int .i64 d.who :: .int .i64 d.x :: .int .i64 d.y :: .int .i64 d.un :: .slice l1 l2 l3 :: .int .i64 ta :: .slice g1 g2 g3 :: .bool dn :: [])) 55))
  replace Rb := range_keep Rb (belowA v4 (.cells (List.toArray (.int .i64 x0 :: .int .i64 x1 :: .int .i64 x2 :: .int .i64 x3 :: .int .i64 x4 :: .int .i64 x5 :: .int .i64 x6 :: .int .i64 x7 :: .bool b :: .int .i64 x9 :: .int .i64 x10 :: .int .i64 x11 :: .int .i64 tt :: .int .i64 np :: .slice m1 m2 m3 :: .slice m4 m5 m6 :: .int .i64 d.ph :: .int .i64 d.it :: .int .i64 d.tg :: .int .i64 d.v :: .slice p.bA d.bl.length p.bc :: .slice p.kA d.kl.length p.kc :: .slice p.hA d.hl.length p.hc :: .int .i64 d.st :: .int .i64 d.nd :: .int .i64 d.pl :: .int .i64 d.ly :: .int .i64 d.lf :: .int .i64 d.wd :: .int .i64 d.who :: .int .i64 d.x :: .int .i64 d.y :: .int .i64 d.un :: .slice l1 l2 l3 :: .int .i64 ta :: .slice g1 g2 g3 :: .bool dn :: [])) 55))
  replace hB := below_next hB hB.size (belowA v4 (.cells (List.toArray (.int .i64 x0 :: .int .i64 x1 :: .int .i64 x2 :: .int .i64 x3 :: .int .i64 x4 :: .int .i64 x5 :: .int .i64 x6 :: .int .i64 x7 :: .bool b :: .int .i64 x9 :: .int .i64 x10 :: .int .i64 x11 :: .int .i64 tt :: .int .i64 np :: .slice m1 m2 m3 :: .slice m4 m5 m6 :: .int .i64 d.ph :: .int .i64 d.it :: .int .i64 d.tg :: .int .i64 d.v :: .slice p.bA d.bl.length p.bc :: .slice p.kA d.kl.length p.kc :: .slice p.hA d.hl.length p.hc :: .int .i64 d.st :: .int .i64 d.nd :: .int .i64 d.pl :: .int .i64 d.ly :: .int .i64 d.lf :: .int .i64 d.wd :: .int .i64 d.who :: .int .i64 d.x :: .int .i64 d.y :: .int .i64 d.un :: .slice l1 l2 l3 :: .int .i64 ta :: .slice g1 g2 g3 :: .bool dn :: [])) 55))
  have lc : v4.heap.size < (v4.alloc (.cells (List.toArray (.int .i64 x0 :: .int .i64 x1 :: .int .i64 x2 :: .int .i64 x3 :: .int .i64 x4 :: .int .i64 x5 :: .int .i64 x6 :: .int .i64 x7 :: .bool b :: .int .i64 x9 :: .int .i64 x10 :: .int .i64 x11 :: .int .i64 tt :: .int .i64 np :: .slice m1 m2 m3 :: .slice m4 m5 m6 :: .int .i64 d.ph :: .int .i64 d.it :: .int .i64 d.tg :: .int .i64 d.v :: .slice p.bA d.bl.length p.bc :: .slice p.kA d.kl.length p.kc :: .slice p.hA d.hl.length p.hc :: .int .i64 d.st :: .int .i64 d.nd :: .int .i64 d.pl :: .int .i64 d.ly :: .int .i64 d.lf :: .int .i64 d.wd :: .int .i64 d.who :: .int .i64 d.x :: .int .i64 d.y :: .int .i64 d.un :: .slice l1 l2 l3 :: .int .i64 ta :: .slice g1 g2 g3 :: .bool dn :: [])) 55)).heap.size := by simp
  obtain ⟨yc, ec⟩ : ∃ y, v4.heap.size = y := ⟨_, rfl⟩
  rw [ec] at Rc zca zcb lc lb ⊢
  generalize (v4.alloc (.cells (List.toArray (.int .i64 x0 :: .int .i64 x1 :: .int .i64 x2 :: .int .i64 x3 :: .int .i64 x4 :: .int .i64 x5 :: .int .i64 x6 :: .int .i64 x7 :: .bool b :: .int .i64 x9 :: .int .i64 x10 :: .int .i64 x11 :: .int .i64 tt :: .int .i64 np :: .slice m1 m2 m3 :: .slice m4 m5 m6 :: .int .i64 d.ph :: .int .i64 d.it :: .int .i64 d.tg :: .int .i64 d.v :: .slice p.bA d.bl.length p.bc :: .slice p.kA d.kl.length p.kc :: .slice p.hA d.hl.length p.hc :: .int .i64 d.st :: .int .i64 d.nd :: .int .i64 d.pl :: .int .i64 d.ly :: .int .i64 d.lf :: .int .i64 d.wd :: .int .i64 d.who :: .int .i64 d.x :: .int .i64 d.y :: .int .i64 d.un :: .slice l1 l2 l3 :: .int .i64 ta :: .slice g1 g2 g3 :: .bool dn :: [])) 55)) = v5 at *
  clear ec
  have p13 := rg Ru 13 rfl
  have o32 := rg Rc 32 rfl
  replace Rc := range32 (x := .int .i64 0) Rc
  replace Ru := rangeFar (x := .int .i64 0) Ru (b := yc) (o := 32) (by omega)
  replace Ra := rangeFar (x := .int .i64 0) Ra (b := yc) (o := 32) (by omega)
  replace Rb := rangeFar (x := .int .i64 0) Rb (b := yc) (o := 32) (by omega)
  replace hB := hB.setCell (p := ⟨yc, 32, none⟩) (by show w.heap.size ≤ yc; omega) (.int .i64 0)
  have sz : (v5.setCell ⟨yc, 32, none⟩ (.int .i64 0)).heap.size = v5.heap.size := by simp
  go_upto_region 9 with fail
  clear p13 o32 zca zcb
  rw [← sz] at lc
  generalize (v5.setCell ⟨yc, 32, none⟩ (.int .i64 0)) = v6 at *
  clear sz
  cases hL : lateB d.un now
  · rw [hL] at KU
    have hq := hw.out hL
    rw [hq] at KW
    clear hq hv hw
    obtain ⟨p0, p1, p2, p3, p4, p5, p6, p7, p8, p9, p10, p11, p12, p13, p14, p15, p16, p17, p18, p19, p20, p21, p22, p23, p24, p25, p26, p27, p28, p29, p30, p31, p32, p33, p34, p35, p36⟩ := box37 Ru
    go_wp2_with fail
    refine (KU.out _).mono ?_
    rintro x y1 ⟨rfl, hb⟩
    clear p0 p1 p2 p3 p4 p5 p6 p7 p8 p9 p10 p11 p12 p13 p14 p15 p16 p17 p18 p19 p20 p21 p22 p23 p24 p25 p26 p27 p28 p29 p30 p31 p32 p33 p34 p35 p36
    replace Ru := range_keep Ru hb
    replace Ra := range_keep Ra hb
    replace Rb := range_keep Rb hb
    replace Rc := range_keep Rc hb
    replace hB := below_next hB hB.size hb
    clear hb
    obtain ⟨p0, p1, p2, p3, p4, p5, p6, p7, p8, p9, p10, p11, p12, p13, p14, p15, p16, p17, p18, p19, p20, p21, p22, p23, p24, p25, p26, p27, p28, p29, p30, p31, p32, p33, p34, p35, p36⟩ := box37 Ru
    go_wp2_with fail
    refine (KU.out _).mono ?_
    rintro x y2 ⟨rfl, hb⟩
    clear p0 p1 p2 p3 p4 p5 p6 p7 p8 p9 p10 p11 p12 p13 p14 p15 p16 p17 p18 p19 p20 p21 p22 p23 p24 p25 p26 p27 p28 p29 p30 p31 p32 p33 p34 p35 p36
    replace Ru := range_keep Ru hb
    replace Ra := range_keep Ra hb
    replace Rb := range_keep Rb hb
    replace Rc := range_keep Rc hb
    replace hB := below_next hB hB.size hb
    clear hb
    obtain ⟨p0, p1, p2, p3, p4, p5, p6, p7, p8, p9, p10, p11, p12, p13, p14, p15, p16, p17, p18, p19, p20, p21, p22, p23, p24, p25, p26, p27, p28, p29, p30, p31, p32, p33, p34, p35, p36⟩ := box37 Rb
    go_wp2_with fail
    refine (KW.out _).mono ?_
    rintro x y3 ⟨rfl, hb⟩
    clear p0 p1 p2 p3 p4 p5 p6 p7 p8 p9 p10 p11 p12 p13 p14 p15 p16 p17 p18 p19 p20 p21 p22 p23 p24 p25 p26 p27 p28 p29 p30 p31 p32 p33 p34 p35 p36
    replace Ru := range_keep Ru hb
    replace Ra := range_keep Ra hb
    replace Rb := range_keep Rb hb
    replace Rc := range_keep Rc hb
    replace hB := below_next hB hB.size hb
    clear hb
    obtain ⟨p0, p1, p2, p3, p4, p5, p6, p7, p8, p9, p10, p11, p12, p13, p14, p15, p16, p17, p18, p19, p20, p21, p22, p23, p24, p25, p26, p27, p28, p29, p30, p31, p32, p33, p34, p35, p36⟩ := box37 Rc
    go_wp2_with fail
    refine (KX.out _).mono ?_
    rintro x y4 ⟨rfl, hb⟩
    clear p0 p1 p2 p3 p4 p5 p6 p7 p8 p9 p10 p11 p12 p13 p14 p15 p16 p17 p18 p19 p20 p21 p22 p23 p24 p25 p26 p27 p28 p29 p30 p31 p32 p33 p34 p35 p36
    replace Ru := range_keep Ru hb
    replace Ra := range_keep Ra hb
    replace Rb := range_keep Rb hb
    replace Rc := range_keep Rc hb
    replace hB := below_next hB hB.size hb
    clear hb
    go_wp2
    go_ret
    exact ⟨rfl, hB⟩
  · rw [hL] at KU
    have hq := hv.out hL
    rw [hq] at KV
    clear hq hv hw
    obtain ⟨p0, p1, p2, p3, p4, p5, p6, p7, p8, p9, p10, p11, p12, p13, p14, p15, p16, p17, p18, p19, p20, p21, p22, p23, p24, p25, p26, p27, p28, p29, p30, p31, p32, p33, p34, p35, p36⟩ := box37 Ru
    go_wp2_with fail
    refine (KU.out _).mono ?_
    rintro x y1 ⟨rfl, hb⟩
    clear p0 p1 p2 p3 p4 p5 p6 p7 p8 p9 p10 p11 p12 p13 p14 p15 p16 p17 p18 p19 p20 p21 p22 p23 p24 p25 p26 p27 p28 p29 p30 p31 p32 p33 p34 p35 p36
    replace Ru := range_keep Ru hb
    replace Ra := range_keep Ra hb
    replace Rb := range_keep Rb hb
    replace Rc := range_keep Rc hb
    replace hB := below_next hB hB.size hb
    clear hb
    obtain ⟨p0, p1, p2, p3, p4, p5, p6, p7, p8, p9, p10, p11, p12, p13, p14, p15, p16, p17, p18, p19, p20, p21, p22, p23, p24, p25, p26, p27, p28, p29, p30, p31, p32, p33, p34, p35, p36⟩ := box37 Ra
    go_wp2_with fail
    refine (KV.out _).mono ?_
    rintro x y2 ⟨rfl, hb⟩
    clear p0 p1 p2 p3 p4 p5 p6 p7 p8 p9 p10 p11 p12 p13 p14 p15 p16 p17 p18 p19 p20 p21 p22 p23 p24 p25 p26 p27 p28 p29 p30 p31 p32 p33 p34 p35 p36
    replace Ru := range_keep Ru hb
    replace Ra := range_keep Ra hb
    replace Rb := range_keep Rb hb
    replace Rc := range_keep Rc hb
    replace hB := below_next hB hB.size hb
    clear hb
    obtain ⟨p0, p1, p2, p3, p4, p5, p6, p7, p8, p9, p10, p11, p12, p13, p14, p15, p16, p17, p18, p19, p20, p21, p22, p23, p24, p25, p26, p27, p28, p29, p30, p31, p32, p33, p34, p35, p36⟩ := box37 Ru
    go_wp2_with fail
    refine (KU.out _).mono ?_
    rintro x y3 ⟨rfl, hb⟩
    clear p0 p1 p2 p3 p4 p5 p6 p7 p8 p9 p10 p11 p12 p13 p14 p15 p16 p17 p18 p19 p20 p21 p22 p23 p24 p25 p26 p27 p28 p29 p30 p31 p32 p33 p34 p35 p36
    replace Ru := range_keep Ru hb
    replace Ra := range_keep Ra hb
    replace Rb := range_keep Rb hb
    replace Rc := range_keep Rc hb
    replace hB := below_next hB hB.size hb
    clear hb
    obtain ⟨p0, p1, p2, p3, p4, p5, p6, p7, p8, p9, p10, p11, p12, p13, p14, p15, p16, p17, p18, p19, p20, p21, p22, p23, p24, p25, p26, p27, p28, p29, p30, p31, p32, p33, p34, p35, p36⟩ := box37 Rc
    go_wp2_with fail
    refine (KX.out _).mono ?_
    rintro x y4 ⟨rfl, hb⟩
    clear p0 p1 p2 p3 p4 p5 p6 p7 p8 p9 p10 p11 p12 p13 p14 p15 p16 p17 p18 p19 p20 p21 p22 p23 p24 p25 p26 p27 p28 p29 p30 p31 p32 p33 p34 p35 p36
    replace Ru := range_keep Ru hb
    replace Ra := range_keep Ra hb
    replace Rb := range_keep Rb hb
    replace Rc := range_keep Rc hb
    replace hB := below_next hB hB.size hb
    clear hb
    go_wp2
    go_ret
    exact ⟨rfl, hB⟩
end Go.Proofs.Ytpbneghabikpdaa
