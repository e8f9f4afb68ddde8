/- The contracts of cell, still, wider, Onward. -/
import Derived.Test.YtiacgbkaflcbeaaTnI
import Derived.Test.YtiacgbkaflcbeaaArT
import Derived.Test.YtiacgbkaflcbeaaM4
import Derived.Test.YtiacgbkaflcbeaaM5
import Derived.Lib.QuietBelow
import Derived.Deep.QuietTactic
import Derived.BigQuiet
namespace Go.Proofs.Ytiacgbkaflcbeaa
open Go.RowKit Go.Sort
set_option linter.unusedVariables false
set_option linter.unusedSimpArgs false

theorem Sees.setsC {w : World} {sz n : Nat} {A : Option Addr} {xs : List Value} (h : Sees w w.heap.size sz A n xs) (g : Nat) (hA : 0 < n → ∀ p, A = some p → p.block ≠ g) (cs : List Value) (o : Nat) : Sees (w.setCells g o cs) (w.setCells g o cs).heap.size sz A n xs := by
  rw [size_setCells]
  rcases Nat.eq_zero_or_pos n with h0 | h0
  · exact ⟨h.1, fun hn => absurd hn (by omega)⟩
  · exact h.setCells g o (hA h0) cs o
/-- The place of a cell. -/
def clV (c : Cf) (i : Int) : Int := cellV c.x1 (bkV c.x3 c.x4 c.x5) i
theorem cell_tn (c : Cf) (ok : CfK c) (i : Int) (hi : I64 i) (w : World) : Calls Try.prog 28 #[.agg (ccs c).toArray, .int .i64 i] w (IntPost (clV c i) w) := cell_any c.x0 c.x1 c.x2 c.x3 c.x4 c.x5 c.x6 c.x7 c.b c.x9 c.x10 c.x11 ok i hi w
theorem rcell_tn (c : Cf) (ok : CfK c) (i : Int) (hi : I64 i) (w : World) : Calls Try.prog 11 #[.agg (ccs c).toArray, .int .i64 i] w (IntPost (clV c i) w) := rcell_any c.x0 c.x1 c.x2 c.x3 c.x4 c.x5 c.x6 c.x7 c.b c.x9 c.x10 c.x11 ok i hi w
theorem late_tn (u : Tn) (a : TA) (w : World) : Calls Try.prog 48 #[.agg (tcs u a).toArray] w (BoolPost (lateB u.d.un u.now) w) := by
  have := late_any u.now u.d.un (.int .i64 u.c.x0) (.int .i64 u.c.x1) (.int .i64 u.c.x2) (.int .i64 u.c.x3) (.int .i64 u.c.x4) (.int .i64 u.c.x5) (.int .i64 u.c.x6) (.int .i64 u.c.x7) (.bool u.c.b) (.int .i64 u.c.x9) (.int .i64 u.c.x10) (.int .i64 u.c.x11) (.int .i64 u.tt) (.slice a.mA u.ws.length a.mc) (.slice a.mB a.bs.length a.md) (.int .i64 u.d.ph) (.int .i64 u.d.it) (.int .i64 u.d.tg) (.int .i64 u.d.v) (.slice a.p.bA u.d.bl.length a.p.bc) (.slice a.p.kA u.d.kl.length a.p.kc) (.slice a.p.hA u.d.hl.length a.p.hc) (.int .i64 u.d.st) (.int .i64 u.d.nd) (.int .i64 u.d.pl) (.int .i64 u.d.ly) (.int .i64 u.d.lf) (.int .i64 u.d.wd) (.int .i64 u.d.who) (.int .i64 u.d.x) (.int .i64 u.d.y) (.slice a.tA u.tl.length a.tc) (.int .i64 u.ta) (.slice a.lA u.ll.length a.lc) (.bool u.dn) w
  with_unfolding_all exact this
attribute [local irreducible] tcs thc ccs zT
attribute [local go_sem ↓] alTn_is
attribute [local go_sem] run_alTnf run_alTnt zT_length
attribute [local go_sem ↓] lbTn_is lbTh_is lbCf_is lbRc_is sbTn_is sbTh_is sbCf_is sbRc_is
attribute [local go_sem] run_lbTn run_lbTh run_lbCf run_lbRc run_sbTn run_sbTh run_sbCf run_sbRc
attribute [local go_sem 2000] boxOf_old'
attribute [local go_sem] boxOf_at' boxOf_free' boxOf_alloc objBox_cells objBox_cellsA boxOf_drew boxOf_setI boxOf_setsI size_sets tcs_length thc_length ccs_length tcs_one thc_one ccs_one sub_tn sub_th sub_cf sub_thAll sub_cfAll put_turn put_thread
attribute [local go_sem] tc0 tc1 tc2 tc3 tc4 tc5 tc6 tc7 tc8 tc9 tc10 tc11 tc12 tc13 tc14 tc15 tc16 tc17 tc18 tc19 tc20 tc21 tc22 tc23 tc24 tc25 tc26 tc27 tc28 tc29 tc30 tc31 tc32 tc33 tc34 tc35 tc36 hc0 hc1 hc2 hc3 hc4 hc5 hc6 hc7 hc8 hc9 hc10 hc11 hc12 hc13 hc14 hc15 hc16 kc0 kc1 kc2 kc3 kc4 kc5 kc6 kc7 kc8 kc9 kc10 kc11 tg0 tg1 tg2 tg3 tg4 tg5 tg6 tg7 tg8 tg9 tg10 tg11 tg12 tg13 tg14 tg15 tg16 tg17 tg18 tg19 tg20 tg21 tg22 tg23 tg24 tg25 tg26 tg27 tg28 tg29 tg30 tg31 tg32 tg33 tg34 tg35 tg36 hg0 hg1 hg2 hg3 hg4 hg5 hg6 hg7 hg8 hg9 hg10 hg11 hg12 hg13 hg14 hg15 hg16 kg0 kg1 kg2 kg3 kg4 kg5 kg6 kg7 kg8 kg9 kg10 kg11
attribute [local go_sem] ts12 ts13 ts14 ts16 ts17 ts18 ts19 ts20 ts21 ts22 ts23 ts24 ts25 ts26 ts27 ts28 ts29 ts30 ts31 ts32 ts33 ts34 ts35 ts36 ts15 hs0 hs1 hs2 hs3 hs7 hs8 hs9 hs10 hs11 hs12 hs13 hs14 hs15 hs16

set_option maxRecDepth 100000 in
set_option maxHeartbeats 4000000 in
theorem ccell_any (u : Tn) (a : TA) (o : TnOk u) (w : World) : Calls Try.prog 31 #[.agg (tcs u a).toArray] w (IntPost (clV u.c u.d.it) w) := by
  have hB := belowN w (.cells (tcs u a).toArray 38)
  have HC := fun W => hide (cell_tn u.c o.c u.d.it (o.f.n _ (by simp [Dt.nums])) W)
  go_enter Try.func31, Try.ntmps31
  go_wp2_with fail
  refine (HC _).out.mono ?_
  rintro e w1 ⟨rfl, hb1⟩
  go_wp2
  go_ret
  exact ⟨rfl, below_next hB hB.size hb1⟩
def SightPost (x y : Int) (w : World) (e : Ending) (w' : World) : Prop := e = .returned (.agg #[.int .i64 x, .int .i64 y]) ∧ Below w.heap.size w w'
set_option maxRecDepth 100000 in
set_option maxHeartbeats 4000000 in
theorem cstill_any (x : Int) (w : World) : Calls Try.prog 33 #[.int .i64 x] w (SightPost x x w) := by
  go_enter Try.func33, Try.ntmps33
  go_wp2
  refine bodyPost_ret (v := .agg #[.int .i64 x, .int .i64 x]) (by simp [results, Try.results33, go_sem]) rfl ⟨rfl, ?_⟩
  repeat first | exact belowN _ _ | refine Below.setCell ?_ (by first | omega | simp) _
/-- A width that is wider. -/
def widV (n most : Int) : Int := if most < n then most else if wrap64 (2 * n) ≤ most then wrap64 (2 * n) else most
set_option maxRecDepth 100000 in
set_option maxHeartbeats 4000000 in
theorem wider_any (n most : Int) (w : World) : Calls Try.prog 37 #[.int .i64 n, .int .i64 most] w (IntPost (widV n most) w) := by
  obtain ⟨d, hd⟩ : ∃ d, wrap64 (2 * n) = d := ⟨_, rfl⟩
  by_cases h1 : most < n
  · have HV : Hid (most = widV n most) := hide (by rw [widV, if_pos h1])
    go_enter Try.func37, Try.ntmps37
    go_wp2
    go_ret
    exact ⟨by rw [← HV.out]; rfl, Below.refl _ _⟩
  · rcases Int.lt_trichotomy d most with h2 | h2 | h2
    · have HV : Hid (d = widV n most) := hide (by rw [widV, if_neg h1, hd, if_pos (by omega)])
      go_enter Try.func37, Try.ntmps37
      go_wp2
      go_ret
      exact ⟨by rw [← HV.out]; rfl, Below.refl _ _⟩
    · subst h2
      have HV : Hid (d = widV n d) := hide (by rw [widV, if_neg h1, hd, if_pos (by omega)])
      go_enter Try.func37, Try.ntmps37
      go_wp2
      go_ret
      exact ⟨by rw [← HV.out]; rfl, Below.refl _ _⟩
    · have HV : Hid (most = widV n most) := hide (by rw [widV, if_neg h1, hd, if_neg (by omega)])
      go_enter Try.func37, Try.ntmps37
      go_wp2
      go_ret
      exact ⟨by rw [← HV.out]; rfl, Below.refl _ _⟩
/-- What Onward makes of a turn. -/
def onwV (u : Tn) : Tn := if u.d.ly < u.c.x4 ∧ lateB u.d.un u.now = false then { u with d := { u.d with ly := wrap64 (u.d.ly + 1), ph := 17 } } else { u with d := { u.d with ph := 2 } }
set_option maxRecDepth 100000 in
set_option maxHeartbeats 4000000 in
theorem onward_any (u : Tn) (a : TA) (w : World) : Calls Try.prog 35 #[.agg (tcs u a).toArray] w (TPost (onwV u) a w) := by
  have B1 : boxOf ((w.alloc (.cells (tcs u a).toArray 38)).alloc (.cells zT.toArray 38)) w.heap.size = some (tcs u a) := by simp [go_sem]
  have B2 : boxOf ((w.alloc (.cells (tcs u a).toArray 38)).alloc (.cells zT.toArray 38)) (w.heap.size + 1) = some zT := by simp [go_sem]
  have hs : w.heap.size + 1 < ((w.alloc (.cells (tcs u a).toArray 38)).alloc (.cells zT.toArray 38)).heap.size := by simp
  have hB : Below w.heap.size w ((w.alloc (.cells (tcs u a).toArray 38)).alloc (.cells zT.toArray 38)) := (belowN w _).alloc (by simp) _
  by_cases h1 : u.d.ly < u.c.x4
  · have d1 : decide (u.d.ly < u.c.x4) = true := decide_eq_true h1
    rcases Bool.eq_false_or_eq_true (lateB u.d.un u.now) with hl | hl
    · have H : Hid (onwV u = { u with d := { u.d with ph := 2 } }) := hide (by rw [onwV, if_neg (by rw [hl]; simp)])
      have KL := fun W => hide (late_tn u a W)
      rw [hl] at KL
      clear h1 hl
      go_enter Try.func35, Try.ntmps35
      go_wp2_with fail
      generalize ((w.alloc (.cells (tcs u a).toArray 38)).alloc (.cells zT.toArray 38)) = wz at *
      refine (KL _).out.mono ?_
      rintro e w1 ⟨rfl, hb1⟩
      replace B1 := boxOf_keep B1 hb1
      replace B2 := boxOf_keep B2 hb1
      replace hs := Nat.lt_of_lt_of_le hs hb1.size
      replace hB := below_next hB hB.size hb1
      clear hb1 KL
      go_wp2
      refine bodyPost_ret (v := .agg (tcs { u with d := { u.d with ph := 2 } } a).toArray) (results_box Try.results35 _ _ (w.heap.size + 1) _ _ rfl (by simp [go_sem, B1, B2]) Try.underlying38 rfl (by kernel_rfl)) rfl ⟨by rw [H.out], ?_⟩
      repeat first | exact hB | refine below_sets _ (by omega) _ _ _ _ ?_ | refine Below.setCell ?_ (by first | omega | (simp; omega) | simp) _ | refine Below.alloc ?_ (by first | omega | (simp; omega) | simp) _
    · have H : Hid (onwV u = { u with d := { u.d with ly := wrap64 (u.d.ly + 1), ph := 17 } }) := hide (by rw [onwV, if_pos ⟨h1, hl⟩])
      have KL := fun W => hide (late_tn u a W)
      rw [hl] at KL
      clear h1 hl
      go_enter Try.func35, Try.ntmps35
      go_wp2_with fail
      generalize ((w.alloc (.cells (tcs u a).toArray 38)).alloc (.cells zT.toArray 38)) = wz at *
      refine (KL _).out.mono ?_
      rintro e w1 ⟨rfl, hb1⟩
      replace B1 := boxOf_keep B1 hb1
      replace B2 := boxOf_keep B2 hb1
      replace hs := Nat.lt_of_lt_of_le hs hb1.size
      replace hB := below_next hB hB.size hb1
      clear hb1 KL
      go_wp2
      refine bodyPost_ret (v := .agg (tcs { u with d := { u.d with ly := wrap64 (u.d.ly + 1), ph := 17 } } a).toArray) (results_box Try.results35 _ _ (w.heap.size + 1) _ _ rfl (by simp [go_sem, B1, B2]) Try.underlying38 rfl (by kernel_rfl)) rfl ⟨by rw [H.out], ?_⟩
      repeat first | exact hB | refine below_sets _ (by omega) _ _ _ _ ?_ | refine Below.setCell ?_ (by first | omega | (simp; omega) | simp) _ | refine Below.alloc ?_ (by first | omega | (simp; omega) | simp) _
  · have d1 : decide (u.d.ly < u.c.x4) = false := decide_eq_false h1
    have H : Hid (onwV u = { u with d := { u.d with ph := 2 } }) := hide (by rw [onwV, if_neg (fun e => h1 e.1)])
    clear h1
    go_enter Try.func35, Try.ntmps35
    go_wp2_with fail
    refine bodyPost_ret (v := .agg (tcs { u with d := { u.d with ph := 2 } } a).toArray) (results_box Try.results35 _ _ (w.heap.size + 1) _ _ rfl (by simp [go_sem, B1, B2]) Try.underlying38 rfl (by kernel_rfl)) rfl ⟨by rw [H.out], ?_⟩
    repeat first | exact hB | refine below_sets _ (by omega) _ _ _ _ ?_ | refine Below.setCell ?_ (by first | omega | (simp; omega) | simp) _ | refine Below.alloc ?_ (by first | omega | (simp; omega) | simp) _ | exact Below.refl _ _
end Go.Proofs.Ytiacgbkaflcbeaa
