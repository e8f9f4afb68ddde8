/- The walk of ThreadSame. -/
import Derived.Test.YtpbneghabikpdaaW10Base
import Derived.Test.YtpbneghabikpdaaThR
import Derived.Test.YtpbneghabikpdaaWords2
import Derived.OwnWalk
import Derived.Lib.QuietBelow
import Derived.Deep.QuietTactic
import Derived.BigQuiet
namespace Go.Proofs.Ytpbneghabikpdaa
open Go.RowKit Go.Sort
set_option linter.unusedVariables false

attribute [local go_sem ↓] ldTh_is
attribute [local go_sem] run_ldTh

attribute [local go_sem ↓] stTh_is
attribute [local go_sem] run_stTh
attribute [local go_sem] one_int one_slice one_bool

/-- A slice literal of 14 pointers, as one step. -/
def bsPt (n : Nat) (parts : Array (Nat × Value)) : Sem Value := Instr.buildSlice 74 n parts
theorem bsPt_is (n : Nat) (parts : Array (Nat × Value)) : Instr.buildSlice 74 n parts = bsPt n parts := rfl
theorem run_bsPt (k o0 o1 o2 o3 o4 o5 o6 o7 o8 o9 o10 o11 o12 o13 : Nat) (w : World) : (bsPt 14 #[(0, .pointer (some ⟨k, o0, none⟩)), (1, .pointer (some ⟨k, o1, none⟩)), (2, .pointer (some ⟨k, o2, none⟩)), (3, .pointer (some ⟨k, o3, none⟩)), (4, .pointer (some ⟨k, o4, none⟩)), (5, .pointer (some ⟨k, o5, none⟩)), (6, .pointer (some ⟨k, o6, none⟩)), (7, .pointer (some ⟨k, o7, none⟩)), (8, .pointer (some ⟨k, o8, none⟩)), (9, .pointer (some ⟨k, o9, none⟩)), (10, .pointer (some ⟨k, o10, none⟩)), (11, .pointer (some ⟨k, o11, none⟩)), (12, .pointer (some ⟨k, o12, none⟩)), (13, .pointer (some ⟨k, o13, none⟩))]).run Try.prog w = .ok (.slice (some ⟨w.heap.size, 0, none⟩) 14 14) (w.alloc (.cells #[.pointer (some ⟨k, o0, none⟩), .pointer (some ⟨k, o1, none⟩), .pointer (some ⟨k, o2, none⟩), .pointer (some ⟨k, o3, none⟩), .pointer (some ⟨k, o4, none⟩), .pointer (some ⟨k, o5, none⟩), .pointer (some ⟨k, o6, none⟩), .pointer (some ⟨k, o7, none⟩), .pointer (some ⟨k, o8, none⟩), .pointer (some ⟨k, o9, none⟩), .pointer (some ⟨k, o10, none⟩), .pointer (some ⟨k, o11, none⟩), .pointer (some ⟨k, o12, none⟩), .pointer (some ⟨k, o13, none⟩)] 73)) := by kernel_rfl
attribute [local go_sem ↓] bsPt_is
attribute [local go_sem] run_bsPt

/-- Which cell of a thread the k-th pointer leads to. -/
def ofs (k : Nat) : Nat := if k < 4 then k else k + 3
theorem set_field (d : Dt) (p : Ad) (k : Nat) (hk : k < 14) (v : Int) : ∃ (was : Int) (e : Dt), ([.int .i64 d.ph, .int .i64 d.it, .int .i64 d.tg, .int .i64 d.v, .slice p.bA d.bl.length p.bc, .slice p.kA d.kl.length p.kc, .slice p.hA d.hl.length p.hc, .int .i64 d.st, .int .i64 d.nd, .int .i64 d.pl, .int .i64 d.ly, .int .i64 d.lf, .int .i64 d.wd, .int .i64 d.who, .int .i64 d.x, .int .i64 d.y, .int .i64 d.un] : List Value)[ofs k]? = some (.int .i64 was) ∧ ([.int .i64 d.ph, .int .i64 d.it, .int .i64 d.tg, .int .i64 d.v, .slice p.bA d.bl.length p.bc, .slice p.kA d.kl.length p.kc, .slice p.hA d.hl.length p.hc, .int .i64 d.st, .int .i64 d.nd, .int .i64 d.pl, .int .i64 d.ly, .int .i64 d.lf, .int .i64 d.wd, .int .i64 d.who, .int .i64 d.x, .int .i64 d.y, .int .i64 d.un] : List Value).set (ofs k) (.int .i64 v) = [.int .i64 e.ph, .int .i64 e.it, .int .i64 e.tg, .int .i64 e.v, .slice p.bA e.bl.length p.bc, .slice p.kA e.kl.length p.kc, .slice p.hA e.hl.length p.hc, .int .i64 e.st, .int .i64 e.nd, .int .i64 e.pl, .int .i64 e.ly, .int .i64 e.lf, .int .i64 e.wd, .int .i64 e.who, .int .i64 e.x, .int .i64 e.y, .int .i64 e.un] ∧
    sameB d e = decide (was = v) ∧ sameB e d = decide (was = v) ∧ e.bl = d.bl ∧ e.kl = d.kl ∧ e.hl = d.hl := by
  have key : ∀ (was : Int) (e : Dt), (e = d ↔ was = v) → sameB d e = decide (was = v) ∧ sameB e d = decide (was = v) := fun was e h =>
    ⟨Bool.eq_iff_iff.2 (by rw [sameB_iff, decide_eq_true_eq, eq_comm, h]), Bool.eq_iff_iff.2 (by rw [sameB_iff, decide_eq_true_eq, h])⟩
  match k, hk with
  | 0, _ =>
    obtain ⟨h1, h2⟩ := key d.ph { d with ph := v } ⟨fun h => (congrArg Dt.ph h).symm, fun h => by subst h; rfl⟩
    exact ⟨d.ph, { d with ph := v }, rfl, rfl, h1, h2, rfl, rfl, rfl⟩
  | 1, _ =>
    obtain ⟨h1, h2⟩ := key d.it { d with it := v } ⟨fun h => (congrArg Dt.it h).symm, fun h => by subst h; rfl⟩
    exact ⟨d.it, { d with it := v }, rfl, rfl, h1, h2, rfl, rfl, rfl⟩
  | 2, _ =>
    obtain ⟨h1, h2⟩ := key d.tg { d with tg := v } ⟨fun h => (congrArg Dt.tg h).symm, fun h => by subst h; rfl⟩
    exact ⟨d.tg, { d with tg := v }, rfl, rfl, h1, h2, rfl, rfl, rfl⟩
  | 3, _ =>
    obtain ⟨h1, h2⟩ := key d.v { d with v := v } ⟨fun h => (congrArg Dt.v h).symm, fun h => by subst h; rfl⟩
    exact ⟨d.v, { d with v := v }, rfl, rfl, h1, h2, rfl, rfl, rfl⟩
  | 4, _ =>
    obtain ⟨h1, h2⟩ := key d.st { d with st := v } ⟨fun h => (congrArg Dt.st h).symm, fun h => by subst h; rfl⟩
    exact ⟨d.st, { d with st := v }, rfl, rfl, h1, h2, rfl, rfl, rfl⟩
  | 5, _ =>
    obtain ⟨h1, h2⟩ := key d.nd { d with nd := v } ⟨fun h => (congrArg Dt.nd h).symm, fun h => by subst h; rfl⟩
    exact ⟨d.nd, { d with nd := v }, rfl, rfl, h1, h2, rfl, rfl, rfl⟩
  | 6, _ =>
    obtain ⟨h1, h2⟩ := key d.pl { d with pl := v } ⟨fun h => (congrArg Dt.pl h).symm, fun h => by subst h; rfl⟩
    exact ⟨d.pl, { d with pl := v }, rfl, rfl, h1, h2, rfl, rfl, rfl⟩
  | 7, _ =>
    obtain ⟨h1, h2⟩ := key d.ly { d with ly := v } ⟨fun h => (congrArg Dt.ly h).symm, fun h => by subst h; rfl⟩
    exact ⟨d.ly, { d with ly := v }, rfl, rfl, h1, h2, rfl, rfl, rfl⟩
  | 8, _ =>
    obtain ⟨h1, h2⟩ := key d.lf { d with lf := v } ⟨fun h => (congrArg Dt.lf h).symm, fun h => by subst h; rfl⟩
    exact ⟨d.lf, { d with lf := v }, rfl, rfl, h1, h2, rfl, rfl, rfl⟩
  | 9, _ =>
    obtain ⟨h1, h2⟩ := key d.wd { d with wd := v } ⟨fun h => (congrArg Dt.wd h).symm, fun h => by subst h; rfl⟩
    exact ⟨d.wd, { d with wd := v }, rfl, rfl, h1, h2, rfl, rfl, rfl⟩
  | 10, _ =>
    obtain ⟨h1, h2⟩ := key d.who { d with who := v } ⟨fun h => (congrArg Dt.who h).symm, fun h => by subst h; rfl⟩
    exact ⟨d.who, { d with who := v }, rfl, rfl, h1, h2, rfl, rfl, rfl⟩
  | 11, _ =>
    obtain ⟨h1, h2⟩ := key d.x { d with x := v } ⟨fun h => (congrArg Dt.x h).symm, fun h => by subst h; rfl⟩
    exact ⟨d.x, { d with x := v }, rfl, rfl, h1, h2, rfl, rfl, rfl⟩
  | 12, _ =>
    obtain ⟨h1, h2⟩ := key d.y { d with y := v } ⟨fun h => (congrArg Dt.y h).symm, fun h => by subst h; rfl⟩
    exact ⟨d.y, { d with y := v }, rfl, rfl, h1, h2, rfl, rfl, rfl⟩
  | 13, _ =>
    obtain ⟨h1, h2⟩ := key d.un { d with un := v } ⟨fun h => (congrArg Dt.un h).symm, fun h => by subst h; rfl⟩
    exact ⟨d.un, { d with un := v }, rfl, rfl, h1, h2, rfl, rfl, rfl⟩
  | k + 14, hk => exact absurd hk (by omega)
theorem held_other (d : Dt) (v : Int) : sameB d { d with hl := d.hl ++ [v] } = false := by
  rw [Bool.eq_false_iff, Ne, sameB_iff]
  intro h
  have := congrArg (fun x : Dt => x.hl.length) h
  simp at this
theorem ofs_lt {k : Nat} (hk : k < 14) : ofs k < 17 := by unfold ofs; split <;> omega
/-- What the k-th pointer is. -/
theorem ptr_at (X : Nat) (k : Nat) (hk : k < 14) : ([.pointer (some ⟨X, 0, none⟩), .pointer (some ⟨X, 1, none⟩), .pointer (some ⟨X, 2, none⟩), .pointer (some ⟨X, 3, none⟩), .pointer (some ⟨X, 7, none⟩), .pointer (some ⟨X, 8, none⟩), .pointer (some ⟨X, 9, none⟩), .pointer (some ⟨X, 10, none⟩), .pointer (some ⟨X, 11, none⟩), .pointer (some ⟨X, 12, none⟩), .pointer (some ⟨X, 13, none⟩), .pointer (some ⟨X, 14, none⟩), .pointer (some ⟨X, 15, none⟩), .pointer (some ⟨X, 16, none⟩)] : List Value)[k]? = some (.pointer (some ⟨X, ofs k, none⟩)) := by
  match k, hk with
  | 0, _ => rfl
  | 1, _ => rfl
  | 2, _ => rfl
  | 3, _ => rfl
  | 4, _ => rfl
  | 5, _ => rfl
  | 6, _ => rfl
  | 7, _ => rfl
  | 8, _ => rfl
  | 9, _ => rfl
  | 10, _ => rfl
  | 11, _ => rfl
  | 12, _ => rfl
  | 13, _ => rfl
  | k + 14, hk => exact absurd hk (by omega)

theorem same_more (d : Dt) (p : Ad) (hA : Option Addr) (hc : Nat) (v : Int) (o : DtOk d) (y : World) (h : ThAt y d p) (hs : Sees y y.heap.size 1 hA (d.hl.length + 1) ((d.hl ++ [v]).map (Value.int .i64))) :
    Calls Try.prog 23 #[.agg #[.int .i64 d.ph, .int .i64 d.it, .int .i64 d.tg, .int .i64 d.v, .slice p.bA d.bl.length p.bc, .slice p.kA d.kl.length p.kc, .slice p.hA d.hl.length p.hc, .int .i64 d.st, .int .i64 d.nd, .int .i64 d.pl, .int .i64 d.ly, .int .i64 d.lf, .int .i64 d.wd, .int .i64 d.who, .int .i64 d.x, .int .i64 d.y, .int .i64 d.un], .agg #[.int .i64 d.ph, .int .i64 d.it, .int .i64 d.tg, .int .i64 d.v, .slice p.bA d.bl.length p.bc, .slice p.kA d.kl.length p.kc, .slice hA (d.hl.length + 1) hc, .int .i64 d.st, .int .i64 d.nd, .int .i64 d.pl, .int .i64 d.ly, .int .i64 d.lf, .int .i64 d.wd, .int .i64 d.who, .int .i64 d.x, .int .i64 d.y, .int .i64 d.un]] y (BoolPost false y) := by
  have e : (d.hl ++ [v]).length = d.hl.length + 1 := by simp
  have c := sameT_any d { d with hl := d.hl ++ [v] } p ⟨p.bA, p.bc, p.kA, p.kc, hA, hc⟩ o y h ⟨h.b, h.k, by show Sees y y.heap.size 1 hA (d.hl ++ [v]).length _; rw [e]; exact hs⟩
  rw [held_other] at c
  simp only [e] at c
  exact c

set_option maxRecDepth 100000 in
set_option maxHeartbeats 4000000 in
theorem walkSame (d : Dt) (p : Ad) (a : Int) (ha : 0 ≤ a ∧ a ≤ 255) (v : Int) (w : World) (ht : ThAt w d p) :
    Calls Try.prog 8 #[.agg #[.int .i64 d.ph, .int .i64 d.it, .int .i64 d.tg, .int .i64 d.v, .slice p.bA d.bl.length p.bc, .slice p.kA d.kl.length p.kc, .slice p.hA d.hl.length p.hc, .int .i64 d.st, .int .i64 d.nd, .int .i64 d.pl, .int .i64 d.ly, .int .i64 d.lf, .int .i64 d.wd, .int .i64 d.who, .int .i64 d.x, .int .i64 d.y, .int .i64 d.un], .int .u8 a, .int .i64 v] w (BoolPost true w) := by
  have hB : Below w.heap.size w (w.alloc (.cells #[.int .i64 d.ph, .int .i64 d.it, .int .i64 d.tg, .int .i64 d.v, .slice p.bA d.bl.length p.bc, .slice p.kA d.kl.length p.kc, .slice p.hA d.hl.length p.hc, .int .i64 d.st, .int .i64 d.nd, .int .i64 d.pl, .int .i64 d.ly, .int .i64 d.lf, .int .i64 d.wd, .int .i64 d.who, .int .i64 d.x, .int .i64 d.y, .int .i64 d.un] 30)) := belowA _ _
  have R0 : (w.alloc (.cells #[.int .i64 d.ph, .int .i64 d.it, .int .i64 d.tg, .int .i64 d.v, .slice p.bA d.bl.length p.bc, .slice p.kA d.kl.length p.kc, .slice p.hA d.hl.length p.hc, .int .i64 d.st, .int .i64 d.nd, .int .i64 d.pl, .int .i64 d.ly, .int .i64 d.lf, .int .i64 d.wd, .int .i64 d.who, .int .i64 d.x, .int .i64 d.y, .int .i64 d.un] 30)).rangeAt w.heap.size 0 [.int .i64 d.ph, .int .i64 d.it, .int .i64 d.tg, .int .i64 d.v, .slice p.bA d.bl.length p.bc, .slice p.kA d.kl.length p.kc, .slice p.hA d.hl.length p.hc, .int .i64 d.st, .int .i64 d.nd, .int .i64 d.pl, .int .i64 d.ly, .int .i64 d.lf, .int .i64 d.wd, .int .i64 d.who, .int .i64 d.x, .int .i64 d.y, .int .i64 d.un] := range_new w [.int .i64 d.ph, .int .i64 d.it, .int .i64 d.tg, .int .i64 d.v, .slice p.bA d.bl.length p.bc, .slice p.kA d.kl.length p.kc, .slice p.hA d.hl.length p.hc, .int .i64 d.st, .int .i64 d.nd, .int .i64 d.pl, .int .i64 d.ly, .int .i64 d.lf, .int .i64 d.wd, .int .i64 d.who, .int .i64 d.x, .int .i64 d.y, .int .i64 d.un] 30
  have f4 := rg R0 4 rfl
  have f5 := rg R0 5 rfl
  have f6 := rg R0 6 rfl
  by_cases hbig : 20 < d.bl.length ∨ 20 < d.kl.length ∨ 20 < d.hl.length
  · rcases Nat.lt_or_ge 20 d.bl.length with h | h
    · have ibl : (20 : Int) < (d.bl.length : Int) := by omega
      go_enter Try.func8, Try.ntmps8
      go_wp2_with (go_at_call 10; refine (shown10_any _).mono ?_; rintro x w1 ⟨rfl, hb⟩)
      go_ret
      exact ⟨rfl, below_next hB hB.size hb⟩
    · rcases Nat.lt_or_ge 20 d.kl.length with h2 | h2
      · have ibl : ¬ (20 : Int) < (d.bl.length : Int) := by omega
        have ikl : (20 : Int) < (d.kl.length : Int) := by omega
        go_enter Try.func8, Try.ntmps8
        go_wp2_with (go_at_call 10; refine (shown10_any _).mono ?_; rintro x w1 ⟨rfl, hb⟩)
        go_ret
        exact ⟨rfl, below_next hB hB.size hb⟩
      · have ibl : ¬ (20 : Int) < (d.bl.length : Int) := by omega
        have ikl : ¬ (20 : Int) < (d.kl.length : Int) := by omega
        have ihl : (20 : Int) < (d.hl.length : Int) := by omega
        go_enter Try.func8, Try.ntmps8
        go_wp2_with (go_at_call 10; refine (shown10_any _).mono ?_; rintro x w1 ⟨rfl, hb⟩)
        go_ret
        exact ⟨rfl, below_next hB hB.size hb⟩
  have o1 : d.bl.length ≤ 20 := Nat.not_lt.1 fun h => hbig (Or.inl h)
  have o2 : d.kl.length ≤ 20 := Nat.not_lt.1 fun h => hbig (Or.inr (Or.inl h))
  have o3 : d.hl.length ≤ 20 := Nat.not_lt.1 fun h => hbig (Or.inr (Or.inr h))
  have ibl : ¬ (20 : Int) < (d.bl.length : Int) := by omega
  have ikl : ¬ (20 : Int) < (d.kl.length : Int) := by omega
  have ihl : ¬ (20 : Int) < (d.hl.length : Int) := by omega
  have HO : Hid (d.hl.length ≤ 20) := hide o3
  have OK : Hid (DtOk d) := hide ⟨by omega, by omega, by omega⟩
  obtain ⟨k, hk, hk14⟩ : ∃ k : Nat, a.tmod 14 = (k : Int) ∧ k < 14 := ⟨(a.tmod 14).toNat, by rw [Int.tmod_eq_emod_of_nonneg ha.1]; omega, by rw [Int.tmod_eq_emod_of_nonneg ha.1]; omega⟩
  have wa1 : IntKind.i64.wrap a = a := IntWalk.i64_in _ (by omega)
  obtain ⟨was, e, s1, s2, s3, s4, s5, s6, s7⟩ := set_field d p k hk14 v
  have S3 := hide s3
  have S4 := hide s4
  have OE : Hid (DtOk e) := hide ⟨by rw [s5]; omega, by rw [s6]; omega, by rw [s7]; omega⟩
  have EA : Hid (∀ w, ThAt w d p → ThAt w e p) := hide fun w h => ⟨by rw [s5]; exact h.b, by rw [s6]; exact h.k, by rw [s7]; exact h.h⟩
  have S1 := hide s1
  have S2 := hide s2
  clear hbig o1 o2 o3 s1 s2 s3 s4 s5 s6 s7 ha
  go_enter Try.func8, Try.ntmps8
  go_wp2_with fail
  refine (shown10_any _).mono ?_
  rintro x w1 ⟨rfl, hb⟩
  replace R0 := range_keep R0 hb
  replace hB := below_next hB hB.size hb
  have HT := hide (ht.later hB)
  clear hb f4 f5 f6 ibl ikl ihl
  have l0 : w.heap.size < w1.heap.size := World.block_lt_of_cell? w1 _ (rg R0 0 rfl)
  obtain ⟨q0, q1, q2, q3, q4, q5, q6, q7, q8, q9, q10, q11, q12, q13, q14, q15, q16⟩ := box17 R0
  go_upto_region 4 with fail
  clear q0 q1 q2 q3 q4 q5 q6 q7 q8 q9 q10 q11 q12 q13 q14 q15 q16
  have Rx : (w1.alloc (.cells #[.int .i64 d.ph, .int .i64 d.it, .int .i64 d.tg, .int .i64 d.v, .slice p.bA d.bl.length p.bc, .slice p.kA d.kl.length p.kc, .slice p.hA d.hl.length p.hc, .int .i64 d.st, .int .i64 d.nd, .int .i64 d.pl, .int .i64 d.ly, .int .i64 d.lf, .int .i64 d.wd, .int .i64 d.who, .int .i64 d.x, .int .i64 d.y, .int .i64 d.un] 30)).rangeAt w1.heap.size 0 [.int .i64 d.ph, .int .i64 d.it, .int .i64 d.tg, .int .i64 d.v, .slice p.bA d.bl.length p.bc, .slice p.kA d.kl.length p.kc, .slice p.hA d.hl.length p.hc, .int .i64 d.st, .int .i64 d.nd, .int .i64 d.pl, .int .i64 d.ly, .int .i64 d.lf, .int .i64 d.wd, .int .i64 d.who, .int .i64 d.x, .int .i64 d.y, .int .i64 d.un] := range_new w1 [.int .i64 d.ph, .int .i64 d.it, .int .i64 d.tg, .int .i64 d.v, .slice p.bA d.bl.length p.bc, .slice p.kA d.kl.length p.kc, .slice p.hA d.hl.length p.hc, .int .i64 d.st, .int .i64 d.nd, .int .i64 d.pl, .int .i64 d.ly, .int .i64 d.lf, .int .i64 d.wd, .int .i64 d.who, .int .i64 d.x, .int .i64 d.y, .int .i64 d.un] 30
  have Tx : (w1.alloc (.cells #[.int .i64 d.ph, .int .i64 d.it, .int .i64 d.tg, .int .i64 d.v, .slice p.bA d.bl.length p.bc, .slice p.kA d.kl.length p.kc, .slice p.hA d.hl.length p.hc, .int .i64 d.st, .int .i64 d.nd, .int .i64 d.pl, .int .i64 d.ly, .int .i64 d.lf, .int .i64 d.wd, .int .i64 d.who, .int .i64 d.x, .int .i64 d.y, .int .i64 d.un] 30)).there w1.heap.size 0 17 := there_alloc_new w1 #[.int .i64 d.ph, .int .i64 d.it, .int .i64 d.tg, .int .i64 d.v, .slice p.bA d.bl.length p.bc, .slice p.kA d.kl.length p.kc, .slice p.hA d.hl.length p.hc, .int .i64 d.st, .int .i64 d.nd, .int .i64 d.pl, .int .i64 d.ly, .int .i64 d.lf, .int .i64 d.wd, .int .i64 d.who, .int .i64 d.x, .int .i64 d.y, .int .i64 d.un] 30
  replace R0 := range_keep R0 (belowA w1 (.cells #[.int .i64 d.ph, .int .i64 d.it, .int .i64 d.tg, .int .i64 d.v, .slice p.bA d.bl.length p.bc, .slice p.kA d.kl.length p.kc, .slice p.hA d.hl.length p.hc, .int .i64 d.st, .int .i64 d.nd, .int .i64 d.pl, .int .i64 d.ly, .int .i64 d.lf, .int .i64 d.wd, .int .i64 d.who, .int .i64 d.x, .int .i64 d.y, .int .i64 d.un] 30))
  replace hB := below_next hB hB.size (belowA w1 (.cells #[.int .i64 d.ph, .int .i64 d.it, .int .i64 d.tg, .int .i64 d.v, .slice p.bA d.bl.length p.bc, .slice p.kA d.kl.length p.kc, .slice p.hA d.hl.length p.hc, .int .i64 d.st, .int .i64 d.nd, .int .i64 d.pl, .int .i64 d.ly, .int .i64 d.lf, .int .i64 d.wd, .int .i64 d.who, .int .i64 d.x, .int .i64 d.y, .int .i64 d.un] 30))
  have lx : w1.heap.size < (w1.alloc (.cells #[.int .i64 d.ph, .int .i64 d.it, .int .i64 d.tg, .int .i64 d.v, .slice p.bA d.bl.length p.bc, .slice p.kA d.kl.length p.kc, .slice p.hA d.hl.length p.hc, .int .i64 d.st, .int .i64 d.nd, .int .i64 d.pl, .int .i64 d.ly, .int .i64 d.lf, .int .i64 d.wd, .int .i64 d.who, .int .i64 d.x, .int .i64 d.y, .int .i64 d.un] 30)).heap.size := by simp
  obtain ⟨X, eX⟩ : ∃ y, w1.heap.size = y := ⟨_, rfl⟩
  rw [eX] at Rx Tx lx l0 ⊢
  generalize (w1.alloc (.cells #[.int .i64 d.ph, .int .i64 d.it, .int .i64 d.tg, .int .i64 d.v, .slice p.bA d.bl.length p.bc, .slice p.kA d.kl.length p.kc, .slice p.hA d.hl.length p.hc, .int .i64 d.st, .int .i64 d.nd, .int .i64 d.pl, .int .i64 d.ly, .int .i64 d.lf, .int .i64 d.wd, .int .i64 d.who, .int .i64 d.x, .int .i64 d.y, .int .i64 d.un] 30)) = v1 at *
  clear eX
  go_upto_region 5 with fail
  have Rp : (v1.alloc (.cells #[.pointer (some ⟨X, 0, none⟩), .pointer (some ⟨X, 1, none⟩), .pointer (some ⟨X, 2, none⟩), .pointer (some ⟨X, 3, none⟩), .pointer (some ⟨X, 7, none⟩), .pointer (some ⟨X, 8, none⟩), .pointer (some ⟨X, 9, none⟩), .pointer (some ⟨X, 10, none⟩), .pointer (some ⟨X, 11, none⟩), .pointer (some ⟨X, 12, none⟩), .pointer (some ⟨X, 13, none⟩), .pointer (some ⟨X, 14, none⟩), .pointer (some ⟨X, 15, none⟩), .pointer (some ⟨X, 16, none⟩)] 73)).rangeAt v1.heap.size 0 [.pointer (some ⟨X, 0, none⟩), .pointer (some ⟨X, 1, none⟩), .pointer (some ⟨X, 2, none⟩), .pointer (some ⟨X, 3, none⟩), .pointer (some ⟨X, 7, none⟩), .pointer (some ⟨X, 8, none⟩), .pointer (some ⟨X, 9, none⟩), .pointer (some ⟨X, 10, none⟩), .pointer (some ⟨X, 11, none⟩), .pointer (some ⟨X, 12, none⟩), .pointer (some ⟨X, 13, none⟩), .pointer (some ⟨X, 14, none⟩), .pointer (some ⟨X, 15, none⟩), .pointer (some ⟨X, 16, none⟩)] := range_new v1 [.pointer (some ⟨X, 0, none⟩), .pointer (some ⟨X, 1, none⟩), .pointer (some ⟨X, 2, none⟩), .pointer (some ⟨X, 3, none⟩), .pointer (some ⟨X, 7, none⟩), .pointer (some ⟨X, 8, none⟩), .pointer (some ⟨X, 9, none⟩), .pointer (some ⟨X, 10, none⟩), .pointer (some ⟨X, 11, none⟩), .pointer (some ⟨X, 12, none⟩), .pointer (some ⟨X, 13, none⟩), .pointer (some ⟨X, 14, none⟩), .pointer (some ⟨X, 15, none⟩), .pointer (some ⟨X, 16, none⟩)] 73
  replace R0 := range_keep R0 (belowA v1 (.cells #[.pointer (some ⟨X, 0, none⟩), .pointer (some ⟨X, 1, none⟩), .pointer (some ⟨X, 2, none⟩), .pointer (some ⟨X, 3, none⟩), .pointer (some ⟨X, 7, none⟩), .pointer (some ⟨X, 8, none⟩), .pointer (some ⟨X, 9, none⟩), .pointer (some ⟨X, 10, none⟩), .pointer (some ⟨X, 11, none⟩), .pointer (some ⟨X, 12, none⟩), .pointer (some ⟨X, 13, none⟩), .pointer (some ⟨X, 14, none⟩), .pointer (some ⟨X, 15, none⟩), .pointer (some ⟨X, 16, none⟩)] 73))
  replace Rx := range_keep Rx (belowA v1 (.cells #[.pointer (some ⟨X, 0, none⟩), .pointer (some ⟨X, 1, none⟩), .pointer (some ⟨X, 2, none⟩), .pointer (some ⟨X, 3, none⟩), .pointer (some ⟨X, 7, none⟩), .pointer (some ⟨X, 8, none⟩), .pointer (some ⟨X, 9, none⟩), .pointer (some ⟨X, 10, none⟩), .pointer (some ⟨X, 11, none⟩), .pointer (some ⟨X, 12, none⟩), .pointer (some ⟨X, 13, none⟩), .pointer (some ⟨X, 14, none⟩), .pointer (some ⟨X, 15, none⟩), .pointer (some ⟨X, 16, none⟩)] 73))
  replace Tx := there_keep' Tx (belowA v1 (.cells #[.pointer (some ⟨X, 0, none⟩), .pointer (some ⟨X, 1, none⟩), .pointer (some ⟨X, 2, none⟩), .pointer (some ⟨X, 3, none⟩), .pointer (some ⟨X, 7, none⟩), .pointer (some ⟨X, 8, none⟩), .pointer (some ⟨X, 9, none⟩), .pointer (some ⟨X, 10, none⟩), .pointer (some ⟨X, 11, none⟩), .pointer (some ⟨X, 12, none⟩), .pointer (some ⟨X, 13, none⟩), .pointer (some ⟨X, 14, none⟩), .pointer (some ⟨X, 15, none⟩), .pointer (some ⟨X, 16, none⟩)] 73))
  replace hB := below_next hB hB.size (belowA v1 (.cells #[.pointer (some ⟨X, 0, none⟩), .pointer (some ⟨X, 1, none⟩), .pointer (some ⟨X, 2, none⟩), .pointer (some ⟨X, 3, none⟩), .pointer (some ⟨X, 7, none⟩), .pointer (some ⟨X, 8, none⟩), .pointer (some ⟨X, 9, none⟩), .pointer (some ⟨X, 10, none⟩), .pointer (some ⟨X, 11, none⟩), .pointer (some ⟨X, 12, none⟩), .pointer (some ⟨X, 13, none⟩), .pointer (some ⟨X, 14, none⟩), .pointer (some ⟨X, 15, none⟩), .pointer (some ⟨X, 16, none⟩)] 73))
  have lp : v1.heap.size < (v1.alloc (.cells #[.pointer (some ⟨X, 0, none⟩), .pointer (some ⟨X, 1, none⟩), .pointer (some ⟨X, 2, none⟩), .pointer (some ⟨X, 3, none⟩), .pointer (some ⟨X, 7, none⟩), .pointer (some ⟨X, 8, none⟩), .pointer (some ⟨X, 9, none⟩), .pointer (some ⟨X, 10, none⟩), .pointer (some ⟨X, 11, none⟩), .pointer (some ⟨X, 12, none⟩), .pointer (some ⟨X, 13, none⟩), .pointer (some ⟨X, 14, none⟩), .pointer (some ⟨X, 15, none⟩), .pointer (some ⟨X, 16, none⟩)] 73)).heap.size := by simp
  obtain ⟨Y, eY⟩ : ∃ y, v1.heap.size = y := ⟨_, rfl⟩
  rw [eY] at Rp lp lx ⊢
  generalize (v1.alloc (.cells #[.pointer (some ⟨X, 0, none⟩), .pointer (some ⟨X, 1, none⟩), .pointer (some ⟨X, 2, none⟩), .pointer (some ⟨X, 3, none⟩), .pointer (some ⟨X, 7, none⟩), .pointer (some ⟨X, 8, none⟩), .pointer (some ⟨X, 9, none⟩), .pointer (some ⟨X, 10, none⟩), .pointer (some ⟨X, 11, none⟩), .pointer (some ⟨X, 12, none⟩), .pointer (some ⟨X, 13, none⟩), .pointer (some ⟨X, 14, none⟩), .pointer (some ⟨X, 15, none⟩), .pointer (some ⟨X, 16, none⟩)] 73)) = v2 at *
  clear eY
  have cp := rg Rp k (ptr_at X k hk14)
  have cx := rg Rx (ofs k) S1.out
  have fx := (Tx (ofs k) (ofs_lt hk14)).2
  rw [Nat.zero_add] at fx
  have k0 : (0 : Int) ≤ (k : Int) := Int.natCast_nonneg _
  have k1 : (k : Int) < 14 := by omega
  have Re := rangeSet (x := .int .i64 v) Rx (i := ofs k) (ofs_lt hk14)
  rw [S2.out] at Re
  have R0' := rangeFar (x := .int .i64 v) R0 (b := X) (o := ofs k) (by omega)
  have hB' := hB.setCell (p := ⟨X, ofs k, none⟩) (by show w.heap.size ≤ X; omega) (.int .i64 v)
  have sz : (v2.setCell ⟨X, ofs k, none⟩ (.int .i64 v)).heap.size = v2.heap.size := by simp
  generalize ofs k = j at *
  go_upto_region 8 with fail
  clear cp cx fx k0 k1 Rp Tx Rx R0 hB S1 S2
  rw [← sz] at lp
  generalize (v2.setCell ⟨X, j, none⟩ (.int .i64 v)) = v3 at *
  clear sz
  obtain ⟨q0, q1, q2, q3, q4, q5, q6, q7, q8, q9, q10, q11, q12, q13, q14, q15, q16⟩ := box17 R0'
  go_upto_region 9 with fail
  clear q0 q1 q2 q3 q4 q5 q6 q7 q8 q9 q10 q11 q12 q13 q14 q15 q16
  have Rm : (v3.alloc (.cells #[.int .i64 d.ph, .int .i64 d.it, .int .i64 d.tg, .int .i64 d.v, .slice p.bA d.bl.length p.bc, .slice p.kA d.kl.length p.kc, .slice p.hA d.hl.length p.hc, .int .i64 d.st, .int .i64 d.nd, .int .i64 d.pl, .int .i64 d.ly, .int .i64 d.lf, .int .i64 d.wd, .int .i64 d.who, .int .i64 d.x, .int .i64 d.y, .int .i64 d.un] 30)).rangeAt v3.heap.size 0 [.int .i64 d.ph, .int .i64 d.it, .int .i64 d.tg, .int .i64 d.v, .slice p.bA d.bl.length p.bc, .slice p.kA d.kl.length p.kc, .slice p.hA d.hl.length p.hc, .int .i64 d.st, .int .i64 d.nd, .int .i64 d.pl, .int .i64 d.ly, .int .i64 d.lf, .int .i64 d.wd, .int .i64 d.who, .int .i64 d.x, .int .i64 d.y, .int .i64 d.un] := range_new v3 [.int .i64 d.ph, .int .i64 d.it, .int .i64 d.tg, .int .i64 d.v, .slice p.bA d.bl.length p.bc, .slice p.kA d.kl.length p.kc, .slice p.hA d.hl.length p.hc, .int .i64 d.st, .int .i64 d.nd, .int .i64 d.pl, .int .i64 d.ly, .int .i64 d.lf, .int .i64 d.wd, .int .i64 d.who, .int .i64 d.x, .int .i64 d.y, .int .i64 d.un] 30
  have Tm : (v3.alloc (.cells #[.int .i64 d.ph, .int .i64 d.it, .int .i64 d.tg, .int .i64 d.v, .slice p.bA d.bl.length p.bc, .slice p.kA d.kl.length p.kc, .slice p.hA d.hl.length p.hc, .int .i64 d.st, .int .i64 d.nd, .int .i64 d.pl, .int .i64 d.ly, .int .i64 d.lf, .int .i64 d.wd, .int .i64 d.who, .int .i64 d.x, .int .i64 d.y, .int .i64 d.un] 30)).there v3.heap.size 0 17 := there_alloc_new v3 #[.int .i64 d.ph, .int .i64 d.it, .int .i64 d.tg, .int .i64 d.v, .slice p.bA d.bl.length p.bc, .slice p.kA d.kl.length p.kc, .slice p.hA d.hl.length p.hc, .int .i64 d.st, .int .i64 d.nd, .int .i64 d.pl, .int .i64 d.ly, .int .i64 d.lf, .int .i64 d.wd, .int .i64 d.who, .int .i64 d.x, .int .i64 d.y, .int .i64 d.un] 30
  replace R0' := range_keep R0' (belowA v3 (.cells #[.int .i64 d.ph, .int .i64 d.it, .int .i64 d.tg, .int .i64 d.v, .slice p.bA d.bl.length p.bc, .slice p.kA d.kl.length p.kc, .slice p.hA d.hl.length p.hc, .int .i64 d.st, .int .i64 d.nd, .int .i64 d.pl, .int .i64 d.ly, .int .i64 d.lf, .int .i64 d.wd, .int .i64 d.who, .int .i64 d.x, .int .i64 d.y, .int .i64 d.un] 30))
  replace Re := range_keep Re (belowA v3 (.cells #[.int .i64 d.ph, .int .i64 d.it, .int .i64 d.tg, .int .i64 d.v, .slice p.bA d.bl.length p.bc, .slice p.kA d.kl.length p.kc, .slice p.hA d.hl.length p.hc, .int .i64 d.st, .int .i64 d.nd, .int .i64 d.pl, .int .i64 d.ly, .int .i64 d.lf, .int .i64 d.wd, .int .i64 d.who, .int .i64 d.x, .int .i64 d.y, .int .i64 d.un] 30))
  replace hB' := below_next hB' hB'.size (belowA v3 (.cells #[.int .i64 d.ph, .int .i64 d.it, .int .i64 d.tg, .int .i64 d.v, .slice p.bA d.bl.length p.bc, .slice p.kA d.kl.length p.kc, .slice p.hA d.hl.length p.hc, .int .i64 d.st, .int .i64 d.nd, .int .i64 d.pl, .int .i64 d.ly, .int .i64 d.lf, .int .i64 d.wd, .int .i64 d.who, .int .i64 d.x, .int .i64 d.y, .int .i64 d.un] 30))
  have lm : v3.heap.size < (v3.alloc (.cells #[.int .i64 d.ph, .int .i64 d.it, .int .i64 d.tg, .int .i64 d.v, .slice p.bA d.bl.length p.bc, .slice p.kA d.kl.length p.kc, .slice p.hA d.hl.length p.hc, .int .i64 d.st, .int .i64 d.nd, .int .i64 d.pl, .int .i64 d.ly, .int .i64 d.lf, .int .i64 d.wd, .int .i64 d.who, .int .i64 d.x, .int .i64 d.y, .int .i64 d.un] 30)).heap.size := by simp
  obtain ⟨M, eM⟩ : ∃ y, v3.heap.size = y := ⟨_, rfl⟩
  rw [eM] at Rm Tm lm lp ⊢
  generalize (v3.alloc (.cells #[.int .i64 d.ph, .int .i64 d.it, .int .i64 d.tg, .int .i64 d.v, .slice p.bA d.bl.length p.bc, .slice p.kA d.kl.length p.kc, .slice p.hA d.hl.length p.hc, .int .i64 d.st, .int .i64 d.nd, .int .i64 d.pl, .int .i64 d.ly, .int .i64 d.lf, .int .i64 d.wd, .int .i64 d.who, .int .i64 d.x, .int .i64 d.y, .int .i64 d.un] 30)) = v4 at *
  clear eM
  obtain ⟨i0, hi0, hz0, hz1, hz2⟩ := info_parts info3
  have hth := ht.later hB'
  have sh := hth.h.later (belowA v4 (.cells #[] 3))
  have c6 : (v4.alloc (.cells #[] 3)).cell? ⟨w.heap.size, 6, none⟩ = some (.slice p.hA d.hl.length p.hc) := cell_keep (rg R0' 6 rfl) (belowA _ _)
  have m6 := rg Rm 6 rfl
  have z6 := (Tm 6 (by omega)).2
  rw [Nat.zero_add] at z6
  have hlen := HO.out
  go_upto_region 10 with (first
    | (at_builtin; refine wpList_app _ rfl _ _ 28 rfl v4.heap.size 3 i0 _ 1 8 Try.underlying28 hi0 hz0 hz1 hz2 rfl (by omega) _ _ _ rfl (hownA.alloc _) _ _ 1 1 [.int .i64 v] rfl (sees_new _ [.int .i64 v] 3 1 1 rfl) (by simp [Value.oneCell']) (by unfold maxLen; omega) (by omega) (by have := hBa.size; simp; omega) ?_; intro vb wb hownB hgB; have hBb : Below v4.heap.size v4 wb := (hBa.alloc hBa.size _).grown hgB (by have := hBa.size; simp; omega) (own_at hownA); obtain ⟨hA, hc, rfl, hcc⟩ := own_form hownB; have mb := cell_keep m6 hBb; have zb : wb.frozen? ⟨M, 6, none⟩ = false := frozen_keep hBb (World.block_lt_of_cell? _ _ m6) z6)
    | (at_builtin; refine wpList_app _ rfl _ _ 28 rfl v4.heap.size 3 i0 _ 1 8 Try.underlying28 hi0 hz0 hz1 hz2 rfl (by omega) _ 0 [] rfl (own_empty v4 _ _ _ (Nat.le_refl _)) _ p.hA d.hl.length p.hc (d.hl.map (Value.int .i64)) rfl sh (by intro u hu; simp at hu; obtain ⟨z, _, rfl⟩ := hu; rfl) (by unfold maxLen; omega) (by omega) (by simp) ?_; intro va wa hownA hgA; have hBa : Below v4.heap.size v4 wa := (belowA v4 _).grown hgA (by simp) (own_at (own_empty v4 v4.heap.size 3 1 (Nat.le_refl _)))))
  have ow := ownsRow_setCell_below hownB (a := ⟨M, 6, none⟩) (by show M < v4.heap.size; omega) (.slice hA (d.hl.length + 1) hc)
  have hs5 := Sees.of_own ow
  clear ow hownB hownA hgA hgB mb zb
  rw [show 0 + d.hl.length + 1 = d.hl.length + 1 by omega, show ([] ++ List.map (Value.int .i64) d.hl ++ [Value.int .i64 v] : List Value) = (d.hl ++ [v]).map (Value.int .i64) by simp] at hs5
  have R0f := rangeFar (x := .slice hA (d.hl.length + 1) hc) (range_keep R0' hBb) (b := M) (o := 6) (by omega)
  have Ref := rangeFar (x := .slice hA (d.hl.length + 1) hc) (range_keep Re hBb) (b := M) (o := 6) (by omega)
  have Rmf : (wb.setCell ⟨M, 6, none⟩ (.slice hA (d.hl.length + 1) hc)).rangeAt M 0 [.int .i64 d.ph, .int .i64 d.it, .int .i64 d.tg, .int .i64 d.v, .slice p.bA d.bl.length p.bc, .slice p.kA d.kl.length p.kc, .slice hA (d.hl.length + 1) hc, .int .i64 d.st, .int .i64 d.nd, .int .i64 d.pl, .int .i64 d.ly, .int .i64 d.lf, .int .i64 d.wd, .int .i64 d.who, .int .i64 d.x, .int .i64 d.y, .int .i64 d.un] := rangeSet (i := 6) (x := .slice hA (d.hl.length + 1) hc) (range_keep Rm hBb) (by simp)
  have hBf := (below_next hB' hB'.size hBb).setCell (p := ⟨M, 6, none⟩) (by show w.heap.size ≤ M; omega) (.slice hA (d.hl.length + 1) hc)
  generalize (wb.setCell ⟨M, 6, none⟩ (.slice hA (d.hl.length + 1) hc)) = z5 at *
  have tf := ht.later hBf
  clear R0' Re Rm Tm hB' hBb hBa hth sh c6 m6 z6 HT hi0 hz0 hz1 hz2
  have C1 : Hid (∀ y, ThAt y d p → Calls Try.prog 23 #[.agg #[.int .i64 d.ph, .int .i64 d.it, .int .i64 d.tg, .int .i64 d.v, .slice p.bA d.bl.length p.bc, .slice p.kA d.kl.length p.kc, .slice p.hA d.hl.length p.hc, .int .i64 d.st, .int .i64 d.nd, .int .i64 d.pl, .int .i64 d.ly, .int .i64 d.lf, .int .i64 d.wd, .int .i64 d.who, .int .i64 d.x, .int .i64 d.y, .int .i64 d.un], .agg #[.int .i64 e.ph, .int .i64 e.it, .int .i64 e.tg, .int .i64 e.v, .slice p.bA e.bl.length p.bc, .slice p.kA e.kl.length p.kc, .slice p.hA e.hl.length p.hc, .int .i64 e.st, .int .i64 e.nd, .int .i64 e.pl, .int .i64 e.ly, .int .i64 e.lf, .int .i64 e.wd, .int .i64 e.who, .int .i64 e.x, .int .i64 e.y, .int .i64 e.un]] y (BoolPost (decide (was = v)) y)) := hide fun y h => (by have c := sameT_any d e p p OK.out y h (EA.out y h); rw [S3.out] at c; exact c)
  have C3 : Hid (∀ y, ThAt y d p → Calls Try.prog 23 #[.agg #[.int .i64 e.ph, .int .i64 e.it, .int .i64 e.tg, .int .i64 e.v, .slice p.bA e.bl.length p.bc, .slice p.kA e.kl.length p.kc, .slice p.hA e.hl.length p.hc, .int .i64 e.st, .int .i64 e.nd, .int .i64 e.pl, .int .i64 e.ly, .int .i64 e.lf, .int .i64 e.wd, .int .i64 e.who, .int .i64 e.x, .int .i64 e.y, .int .i64 e.un], .agg #[.int .i64 d.ph, .int .i64 d.it, .int .i64 d.tg, .int .i64 d.v, .slice p.bA d.bl.length p.bc, .slice p.kA d.kl.length p.kc, .slice p.hA d.hl.length p.hc, .int .i64 d.st, .int .i64 d.nd, .int .i64 d.pl, .int .i64 d.ly, .int .i64 d.lf, .int .i64 d.wd, .int .i64 d.who, .int .i64 d.x, .int .i64 d.y, .int .i64 d.un]] y (BoolPost (decide (was = v)) y)) := hide fun y h => (by have c := sameT_any e d p p OE.out y (EA.out y h) h; rw [S4.out] at c; exact c)
  have C2 := hide (same_more d p hA hc v OK.out)
  clear S3 S4 EA OE
  by_cases hwv : was = v
  · have bw : (was == v) = true := beq_iff_eq.2 hwv
    rw [decide_eq_true hwv] at C1 C3
    clear hwv
    obtain ⟨q0, q1, q2, q3, q4, q5, q6, q7, q8, q9, q10, q11, q12, q13, q14, q15, q16⟩ := box17 R0f
    obtain ⟨r0, r1, r2, r3, r4, r5, r6, r7, r8, r9, r10, r11, r12, r13, r14, r15, r16⟩ := box17 Ref
    go_wp2_with fail
    refine (C1.out _ tf).mono ?_
    rintro x y1 ⟨rfl, hb⟩
    clear q0 q1 q2 q3 q4 q5 q6 q7 q8 q9 q10 q11 q12 q13 q14 q15 q16 r0 r1 r2 r3 r4 r5 r6 r7 r8 r9 r10 r11 r12 r13 r14 r15 r16
    replace R0f := range_keep R0f hb
    replace Ref := range_keep Ref hb
    replace Rmf := range_keep Rmf hb
    replace hBf := below_next hBf hBf.size hb
    replace tf := tf.later hb
    replace hs5 := hs5.later hb
    clear hb
    obtain ⟨q0, q1, q2, q3, q4, q5, q6, q7, q8, q9, q10, q11, q12, q13, q14, q15, q16⟩ := box17 R0f
    obtain ⟨r0, r1, r2, r3, r4, r5, r6, r7, r8, r9, r10, r11, r12, r13, r14, r15, r16⟩ := box17 Rmf
    go_wp2_with fail
    refine (C2.out _ tf hs5).mono ?_
    rintro x y2 ⟨rfl, hb⟩
    clear q0 q1 q2 q3 q4 q5 q6 q7 q8 q9 q10 q11 q12 q13 q14 q15 q16 r0 r1 r2 r3 r4 r5 r6 r7 r8 r9 r10 r11 r12 r13 r14 r15 r16
    replace R0f := range_keep R0f hb
    replace Ref := range_keep Ref hb
    replace Rmf := range_keep Rmf hb
    replace hBf := below_next hBf hBf.size hb
    replace tf := tf.later hb
    replace hs5 := hs5.later hb
    clear hb
    obtain ⟨q0, q1, q2, q3, q4, q5, q6, q7, q8, q9, q10, q11, q12, q13, q14, q15, q16⟩ := box17 Ref
    obtain ⟨r0, r1, r2, r3, r4, r5, r6, r7, r8, r9, r10, r11, r12, r13, r14, r15, r16⟩ := box17 R0f
    go_wp2_with fail
    refine (C3.out _ tf).mono ?_
    rintro x y3 ⟨rfl, hb⟩
    clear q0 q1 q2 q3 q4 q5 q6 q7 q8 q9 q10 q11 q12 q13 q14 q15 q16 r0 r1 r2 r3 r4 r5 r6 r7 r8 r9 r10 r11 r12 r13 r14 r15 r16
    replace R0f := range_keep R0f hb
    replace Ref := range_keep Ref hb
    replace Rmf := range_keep Rmf hb
    replace hBf := below_next hBf hBf.size hb
    replace tf := tf.later hb
    replace hs5 := hs5.later hb
    clear hb
    go_wp2
    go_ret
    exact ⟨by simp, hBf⟩
  · have bw : (was == v) = false := beq_eq_false_iff_ne.2 hwv
    rw [decide_eq_false hwv] at C1 C3
    clear hwv
    obtain ⟨q0, q1, q2, q3, q4, q5, q6, q7, q8, q9, q10, q11, q12, q13, q14, q15, q16⟩ := box17 R0f
    obtain ⟨r0, r1, r2, r3, r4, r5, r6, r7, r8, r9, r10, r11, r12, r13, r14, r15, r16⟩ := box17 Ref
    go_wp2_with fail
    refine (C1.out _ tf).mono ?_
    rintro x y1 ⟨rfl, hb⟩
    clear q0 q1 q2 q3 q4 q5 q6 q7 q8 q9 q10 q11 q12 q13 q14 q15 q16 r0 r1 r2 r3 r4 r5 r6 r7 r8 r9 r10 r11 r12 r13 r14 r15 r16
    replace R0f := range_keep R0f hb
    replace Ref := range_keep Ref hb
    replace Rmf := range_keep Rmf hb
    replace hBf := below_next hBf hBf.size hb
    replace tf := tf.later hb
    replace hs5 := hs5.later hb
    clear hb
    obtain ⟨q0, q1, q2, q3, q4, q5, q6, q7, q8, q9, q10, q11, q12, q13, q14, q15, q16⟩ := box17 R0f
    obtain ⟨r0, r1, r2, r3, r4, r5, r6, r7, r8, r9, r10, r11, r12, r13, r14, r15, r16⟩ := box17 Rmf
    go_wp2_with fail
    refine (C2.out _ tf hs5).mono ?_
    rintro x y2 ⟨rfl, hb⟩
    clear q0 q1 q2 q3 q4 q5 q6 q7 q8 q9 q10 q11 q12 q13 q14 q15 q16 r0 r1 r2 r3 r4 r5 r6 r7 r8 r9 r10 r11 r12 r13 r14 r15 r16
    replace R0f := range_keep R0f hb
    replace Ref := range_keep Ref hb
    replace Rmf := range_keep Rmf hb
    replace hBf := below_next hBf hBf.size hb
    replace tf := tf.later hb
    replace hs5 := hs5.later hb
    clear hb
    obtain ⟨q0, q1, q2, q3, q4, q5, q6, q7, q8, q9, q10, q11, q12, q13, q14, q15, q16⟩ := box17 Ref
    obtain ⟨r0, r1, r2, r3, r4, r5, r6, r7, r8, r9, r10, r11, r12, r13, r14, r15, r16⟩ := box17 R0f
    go_wp2_with fail
    refine (C3.out _ tf).mono ?_
    rintro x y3 ⟨rfl, hb⟩
    clear q0 q1 q2 q3 q4 q5 q6 q7 q8 q9 q10 q11 q12 q13 q14 q15 q16 r0 r1 r2 r3 r4 r5 r6 r7 r8 r9 r10 r11 r12 r13 r14 r15 r16
    replace R0f := range_keep R0f hb
    replace Ref := range_keep Ref hb
    replace Rmf := range_keep Rmf hb
    replace hBf := below_next hBf hBf.size hb
    replace tf := tf.later hb
    replace hs5 := hs5.later hb
    clear hb
    go_wp2
    go_ret
    exact ⟨by simp, hBf⟩
end Go.Proofs.Ytpbneghabikpdaa
