/- The law's may, and big. -/
import Derived.Test.YtjghdbkkjhnpfaaShK
import Derived.Test.YtjghdbkkjhnpfaaTnZ
import Derived.Test.YtjghdbkkjhnpfaaArT
import Derived.Test.YtjghdbkkjhnpfaaBig
import Derived.Lib.QuietBelow
import Derived.Deep.QuietTactic
import Derived.BigQuiet
namespace Go.Proofs.Ytjghdbkkjhnpfaa
open Go.RowKit Go.Sort
set_option linter.unusedVariables false
set_option linter.unusedSimpArgs false

theorem big_tn (u : Tn) (a : TA) (w : World) (m : MemAt w a.mA u.ws a.mB a.bs) : Calls Try.prog 9 #[.agg (tcs u a).toArray] w (BigPost u.ws a.bs u.d u.tl u.ll w) :=
  big_any u.c.x0 u.c.x1 u.c.x2 u.c.x3 u.c.x4 u.c.x5 u.c.x6 u.c.x7 u.c.b u.c.x9 u.c.x10 u.c.x11 u.tt u.now a.mA a.mc u.ws a.mB a.md a.bs u.d a.p a.tA a.tc u.tl u.ta a.lA a.lc u.ll u.dn w m
/-- Its config is one that may be, .. -/
structure MayOk (u : Tn) (n : Nat) : Prop where
  c : ckC u.c = 0
  t0 : 0 ≤ u.tt
  t1 : u.tt < u.c.x0
  w : (u.ws.length : Int) = szV u.c
  b : (n : Int) = u.c.x0
  i0 : 0 ≤ u.d.it
  i1 : u.d.it < u.c.x1
def MayTPost (u : Tn) (n : Nat) (w : World) (e : Ending) (w' : World) : Prop := ∃ r, e = .returned (.bool r) ∧ (r = true → MayOk u n) ∧ Below w.heap.size w w'

attribute [local irreducible] tcs thc ccs zT
attribute [local go_sem ↓] alTn_is alRn_is
attribute [local go_sem] run_alTnf run_alTnt run_alRnf run_alRnt zT_length
attribute [local go_sem ↓] lbTn_is lbRn_is lbTh_is lbRh_is lbCf_is lbRc_is sbTn_is sbRn_is sbTh_is sbRh_is sbCf_is sbRc_is
attribute [local go_sem] run_lbTn run_lbRn run_lbTh run_lbRh run_lbCf run_lbRc run_sbTn run_sbRn run_sbTh run_sbRh run_sbCf run_sbRc
attribute [local go_sem 2000] boxOf_old'
attribute [local go_sem] boxOf_at' boxOf_free' boxOf_alloc objBox_cells objBox_cellsA boxOf_drew boxOf_setI boxOf_setsI size_sets tcs_length thc_length ccs_length tcs_one thc_one ccs_one sub_tn sub_th sub_cf sub_thAll sub_cfAll put_turn put_thread
attribute [local go_sem] tc0 tc1 tc2 tc3 tc4 tc5 tc6 tc7 tc8 tc9 tc10 tc11 tc12 tc13 tc14 tc15 tc16 tc17 tc18 tc19 tc20 tc21 tc22 tc23 tc24 tc25 tc26 tc27 tc28 tc29 tc30 tc31 tc32 tc33 tc34 tc35 tc36 hc0 hc1 hc2 hc3 hc4 hc5 hc6 hc7 hc8 hc9 hc10 hc11 hc12 hc13 hc14 hc15 hc16 kc0 kc1 kc2 kc3 kc4 kc5 kc6 kc7 kc8 kc9 kc10 kc11 tg0 tg1 tg2 tg3 tg4 tg5 tg6 tg7 tg8 tg9 tg10 tg11 tg12 tg13 tg14 tg15 tg16 tg17 tg18 tg19 tg20 tg21 tg22 tg23 tg24 tg25 tg26 tg27 tg28 tg29 tg30 tg31 tg32 tg33 tg34 tg35 tg36 hg0 hg1 hg2 hg3 hg4 hg5 hg6 hg7 hg8 hg9 hg10 hg11 hg12 hg13 hg14 hg15 hg16 kg0 kg1 kg2 kg3 kg4 kg5 kg6 kg7 kg8 kg9 kg10 kg11
attribute [local go_sem] ts12 ts13 ts14 ts16 ts17 ts18 ts19 ts20 ts21 ts22 ts23 ts24 ts25 ts26 ts27 ts28 ts29 ts30 ts31 ts32 ts33 ts34 ts35 ts36 ts15 hs0 hs1 hs2 hs3 hs7 hs8 hs9 hs10 hs11 hs12 hs13 hs14 hs15 hs16

attribute [local irreducible] zC zH
attribute [local go_sem ↓] alCf_is alRc_is alTh_is
attribute [local go_sem] run_alCf run_alRc run_alTh zC_length zH_length put_conf put_thrd
set_option maxRecDepth 100000 in
set_option maxHeartbeats 4000000 in
theorem may_0 (u : Tn) (a : TA) (w : World)  (c0 : ¬ ckC u.c = 0) : Calls Try.prog 21 #[.agg (tcs u a).toArray] w (MayTPost u a.bs.length w) := by
  have HR : Hid (false = true → MayOk u a.bs.length) := hide (fun e => by cases e)
  have B1 : boxOf (((w.alloc (.cells (tcs u a).toArray 38)).alloc (.cells zC.toArray 39)).setCells (w.heap.size + 1) 0 (ccs u.c)) w.heap.size = some (tcs u a) := by simp [go_sem]
  have B2 : boxOf (((w.alloc (.cells (tcs u a).toArray 38)).alloc (.cells zC.toArray 39)).setCells (w.heap.size + 1) 0 (ccs u.c)) (w.heap.size + 1) = some (ccs u.c) := by simp [go_sem]
  have hs : w.heap.size + 1 < (((w.alloc (.cells (tcs u a).toArray 38)).alloc (.cells zC.toArray 39)).setCells (w.heap.size + 1) 0 (ccs u.c)).heap.size := by simp [size_sets]
  have hB : Below w.heap.size w (((w.alloc (.cells (tcs u a).toArray 38)).alloc (.cells zC.toArray 39)).setCells (w.heap.size + 1) 0 (ccs u.c)) := below_sets _ (by omega) _ _ _ _ ((belowN w _).alloc (by simp) _)
  have b0 : (ckC u.c == 0) = false := beq_eq_false_iff_ne.2 c0
  have Q1 := fun W => hide (rcheck_tn u.c W)
  obtain ⟨cv, hcv⟩ : ∃ x, ckC u.c = x := ⟨_, rfl⟩
  obtain ⟨sv, hsv⟩ : ∃ x, szV u.c = x := ⟨_, rfl⟩
  rw [hcv] at Q1 b0
  clear hcv hsv c0
  go_enter Try.func21, Try.ntmps21
  go_wp2_with fail
  generalize (((w.alloc (.cells (tcs u a).toArray 38)).alloc (.cells zC.toArray 39)).setCells (w.heap.size + 1) 0 (ccs u.c)) = wz at *
  have R1 := fun d os => hide (Calls.regrown_of (w := wz) ((Q1 (grow (redrawn wz d) os)).out))
  clear Q1
  have RB1 := fun d os => boxOf_keep B1 (below_regrown wz d os)
  have RB2 := fun d os => boxOf_keep B2 (below_regrown wz d os)
  refine wp_region_quiet_below (by kernel_rfl) (by kernel_rfl) ?_
  repeat (go_big_quiet_step (first | (go_at_call 36; exact (R1 _ _).out)))
  refine wpQuiet_nil ?_
  intro _ hw'
  obtain ⟨⟨dq, osq⟩, hw''⟩ := hw'
  subst hw''
  replace hB := below_next hB hB.size (below_regrown wz dq osq)
  go_wp2
  go_ret
  exact ⟨_, rfl, (by first | exact HR.out | exact fun _ => HR.out trivial), hB⟩
set_option maxRecDepth 100000 in
set_option maxHeartbeats 4000000 in
theorem may_1 (u : Tn) (a : TA) (w : World) (c0 : ckC u.c = 0) (c1 : ¬ 0 ≤ u.tt) : Calls Try.prog 21 #[.agg (tcs u a).toArray] w (MayTPost u a.bs.length w) := by
  have HR : Hid (false = true → MayOk u a.bs.length) := hide (fun e => by cases e)
  have B1 : boxOf (((w.alloc (.cells (tcs u a).toArray 38)).alloc (.cells zC.toArray 39)).setCells (w.heap.size + 1) 0 (ccs u.c)) w.heap.size = some (tcs u a) := by simp [go_sem]
  have B2 : boxOf (((w.alloc (.cells (tcs u a).toArray 38)).alloc (.cells zC.toArray 39)).setCells (w.heap.size + 1) 0 (ccs u.c)) (w.heap.size + 1) = some (ccs u.c) := by simp [go_sem]
  have hs : w.heap.size + 1 < (((w.alloc (.cells (tcs u a).toArray 38)).alloc (.cells zC.toArray 39)).setCells (w.heap.size + 1) 0 (ccs u.c)).heap.size := by simp [size_sets]
  have hB : Below w.heap.size w (((w.alloc (.cells (tcs u a).toArray 38)).alloc (.cells zC.toArray 39)).setCells (w.heap.size + 1) 0 (ccs u.c)) := below_sets _ (by omega) _ _ _ _ ((belowN w _).alloc (by simp) _)
  have b0 : (ckC u.c == 0) = true := beq_iff_eq.2 c0
  have d1 : decide (0 ≤ u.tt) = false := decide_eq_false c1
  have Q1 := fun W => hide (rcheck_tn u.c W)
  obtain ⟨cv, hcv⟩ : ∃ x, ckC u.c = x := ⟨_, rfl⟩
  obtain ⟨sv, hsv⟩ : ∃ x, szV u.c = x := ⟨_, rfl⟩
  rw [hcv] at Q1 b0
  clear hcv hsv c0 c1
  go_enter Try.func21, Try.ntmps21
  go_wp2_with fail
  generalize (((w.alloc (.cells (tcs u a).toArray 38)).alloc (.cells zC.toArray 39)).setCells (w.heap.size + 1) 0 (ccs u.c)) = wz at *
  have R1 := fun d os => hide (Calls.regrown_of (w := wz) ((Q1 (grow (redrawn wz d) os)).out))
  clear Q1
  have RB1 := fun d os => boxOf_keep B1 (below_regrown wz d os)
  have RB2 := fun d os => boxOf_keep B2 (below_regrown wz d os)
  refine wp_region_quiet_below (by kernel_rfl) (by kernel_rfl) ?_
  repeat (go_big_quiet_step (first | (go_at_call 36; exact (R1 _ _).out)))
  refine wpQuiet_nil ?_
  intro _ hw'
  obtain ⟨⟨dq, osq⟩, hw''⟩ := hw'
  subst hw''
  replace hB := below_next hB hB.size (below_regrown wz dq osq)
  go_wp2
  go_ret
  exact ⟨_, rfl, (by first | exact HR.out | exact fun _ => HR.out trivial), hB⟩
set_option maxRecDepth 100000 in
set_option maxHeartbeats 4000000 in
theorem may_2 (u : Tn) (a : TA) (w : World) (c0 : ckC u.c = 0) (c1 : 0 ≤ u.tt) (c2 : ¬ u.tt < u.c.x0) : Calls Try.prog 21 #[.agg (tcs u a).toArray] w (MayTPost u a.bs.length w) := by
  have HR : Hid (false = true → MayOk u a.bs.length) := hide (fun e => by cases e)
  have B1 : boxOf (((w.alloc (.cells (tcs u a).toArray 38)).alloc (.cells zC.toArray 39)).setCells (w.heap.size + 1) 0 (ccs u.c)) w.heap.size = some (tcs u a) := by simp [go_sem]
  have B2 : boxOf (((w.alloc (.cells (tcs u a).toArray 38)).alloc (.cells zC.toArray 39)).setCells (w.heap.size + 1) 0 (ccs u.c)) (w.heap.size + 1) = some (ccs u.c) := by simp [go_sem]
  have hs : w.heap.size + 1 < (((w.alloc (.cells (tcs u a).toArray 38)).alloc (.cells zC.toArray 39)).setCells (w.heap.size + 1) 0 (ccs u.c)).heap.size := by simp [size_sets]
  have hB : Below w.heap.size w (((w.alloc (.cells (tcs u a).toArray 38)).alloc (.cells zC.toArray 39)).setCells (w.heap.size + 1) 0 (ccs u.c)) := below_sets _ (by omega) _ _ _ _ ((belowN w _).alloc (by simp) _)
  have b0 : (ckC u.c == 0) = true := beq_iff_eq.2 c0
  have d1 : decide (0 ≤ u.tt) = true := decide_eq_true c1
  have d2 : decide (u.tt < u.c.x0) = false := decide_eq_false c2
  have Q1 := fun W => hide (rcheck_tn u.c W)
  obtain ⟨cv, hcv⟩ : ∃ x, ckC u.c = x := ⟨_, rfl⟩
  obtain ⟨sv, hsv⟩ : ∃ x, szV u.c = x := ⟨_, rfl⟩
  rw [hcv] at Q1 b0
  clear hcv hsv c0 c1 c2
  go_enter Try.func21, Try.ntmps21
  go_wp2_with fail
  generalize (((w.alloc (.cells (tcs u a).toArray 38)).alloc (.cells zC.toArray 39)).setCells (w.heap.size + 1) 0 (ccs u.c)) = wz at *
  have R1 := fun d os => hide (Calls.regrown_of (w := wz) ((Q1 (grow (redrawn wz d) os)).out))
  clear Q1
  have RB1 := fun d os => boxOf_keep B1 (below_regrown wz d os)
  have RB2 := fun d os => boxOf_keep B2 (below_regrown wz d os)
  refine wp_region_quiet_below (by kernel_rfl) (by kernel_rfl) ?_
  repeat (go_big_quiet_step (first | (go_at_call 36; exact (R1 _ _).out)))
  refine wpQuiet_nil ?_
  intro _ hw'
  obtain ⟨⟨dq, osq⟩, hw''⟩ := hw'
  subst hw''
  replace hB := below_next hB hB.size (below_regrown wz dq osq)
  go_wp2
  go_ret
  exact ⟨_, rfl, (by first | exact HR.out | exact fun _ => HR.out trivial), hB⟩
set_option maxRecDepth 100000 in
set_option maxHeartbeats 4000000 in
theorem may_3 (u : Tn) (a : TA) (w : World) (c0 : ckC u.c = 0) (c1 : 0 ≤ u.tt) (c2 : u.tt < u.c.x0) (c3 : ¬ (u.ws.length : Int) = szV u.c) : Calls Try.prog 21 #[.agg (tcs u a).toArray] w (MayTPost u a.bs.length w) := by
  have HR : Hid (false = true → MayOk u a.bs.length) := hide (fun e => by cases e)
  have B1 : boxOf (((w.alloc (.cells (tcs u a).toArray 38)).alloc (.cells zC.toArray 39)).setCells (w.heap.size + 1) 0 (ccs u.c)) w.heap.size = some (tcs u a) := by simp [go_sem]
  have B2 : boxOf (((w.alloc (.cells (tcs u a).toArray 38)).alloc (.cells zC.toArray 39)).setCells (w.heap.size + 1) 0 (ccs u.c)) (w.heap.size + 1) = some (ccs u.c) := by simp [go_sem]
  have hs : w.heap.size + 1 < (((w.alloc (.cells (tcs u a).toArray 38)).alloc (.cells zC.toArray 39)).setCells (w.heap.size + 1) 0 (ccs u.c)).heap.size := by simp [size_sets]
  have hB : Below w.heap.size w (((w.alloc (.cells (tcs u a).toArray 38)).alloc (.cells zC.toArray 39)).setCells (w.heap.size + 1) 0 (ccs u.c)) := below_sets _ (by omega) _ _ _ _ ((belowN w _).alloc (by simp) _)
  have b0 : (ckC u.c == 0) = true := beq_iff_eq.2 c0
  have d1 : decide (0 ≤ u.tt) = true := decide_eq_true c1
  have d2 : decide (u.tt < u.c.x0) = true := decide_eq_true c2
  have b3 : ((u.ws.length : Int) == szV u.c) = false := beq_eq_false_iff_ne.2 c3
  have Q1 := fun W => hide (rcheck_tn u.c W)
  have Q2 := fun W => hide (rsize_tn u.c ((ck_ok u.c.x0 u.c.x1 u.c.x2 u.c.x3 u.c.x4 u.c.x5 u.c.x6 u.c.x7 u.c.b u.c.x9 u.c.x10 u.c.x11).1 c0) W)
  obtain ⟨cv, hcv⟩ : ∃ x, ckC u.c = x := ⟨_, rfl⟩
  obtain ⟨sv, hsv⟩ : ∃ x, szV u.c = x := ⟨_, rfl⟩
  rw [hcv] at Q1 b0
  rw [hsv] at Q2 b3
  clear hcv hsv c0 c1 c2 c3
  go_enter Try.func21, Try.ntmps21
  go_wp2_with fail
  generalize (((w.alloc (.cells (tcs u a).toArray 38)).alloc (.cells zC.toArray 39)).setCells (w.heap.size + 1) 0 (ccs u.c)) = wz at *
  have R1 := fun d os => hide (Calls.regrown_of (w := wz) ((Q1 (grow (redrawn wz d) os)).out))
  have R2 := fun d os => hide (Calls.regrown_of (w := wz) ((Q2 (grow (redrawn wz d) os)).out))
  clear Q1 Q2
  have RB1 := fun d os => boxOf_keep B1 (below_regrown wz d os)
  have RB2 := fun d os => boxOf_keep B2 (below_regrown wz d os)
  refine wp_region_quiet_below (by kernel_rfl) (by kernel_rfl) ?_
  repeat (go_big_quiet_step (first | (go_at_call 36; exact (R1 _ _).out) | (go_at_call 37; exact (R2 _ _).out)))
  refine wpQuiet_nil ?_
  intro _ hw'
  obtain ⟨⟨dq, osq⟩, hw''⟩ := hw'
  subst hw''
  replace hB := below_next hB hB.size (below_regrown wz dq osq)
  go_wp2
  go_ret
  exact ⟨_, rfl, (by first | exact HR.out | exact fun _ => HR.out trivial), hB⟩
set_option maxRecDepth 100000 in
set_option maxHeartbeats 4000000 in
theorem may_4 (u : Tn) (a : TA) (w : World) (c0 : ckC u.c = 0) (c1 : 0 ≤ u.tt) (c2 : u.tt < u.c.x0) (c3 : (u.ws.length : Int) = szV u.c) (c4 : ¬ (a.bs.length : Int) = u.c.x0) : Calls Try.prog 21 #[.agg (tcs u a).toArray] w (MayTPost u a.bs.length w) := by
  have HR : Hid (false = true → MayOk u a.bs.length) := hide (fun e => by cases e)
  have B1 : boxOf (((w.alloc (.cells (tcs u a).toArray 38)).alloc (.cells zC.toArray 39)).setCells (w.heap.size + 1) 0 (ccs u.c)) w.heap.size = some (tcs u a) := by simp [go_sem]
  have B2 : boxOf (((w.alloc (.cells (tcs u a).toArray 38)).alloc (.cells zC.toArray 39)).setCells (w.heap.size + 1) 0 (ccs u.c)) (w.heap.size + 1) = some (ccs u.c) := by simp [go_sem]
  have hs : w.heap.size + 1 < (((w.alloc (.cells (tcs u a).toArray 38)).alloc (.cells zC.toArray 39)).setCells (w.heap.size + 1) 0 (ccs u.c)).heap.size := by simp [size_sets]
  have hB : Below w.heap.size w (((w.alloc (.cells (tcs u a).toArray 38)).alloc (.cells zC.toArray 39)).setCells (w.heap.size + 1) 0 (ccs u.c)) := below_sets _ (by omega) _ _ _ _ ((belowN w _).alloc (by simp) _)
  have b0 : (ckC u.c == 0) = true := beq_iff_eq.2 c0
  have d1 : decide (0 ≤ u.tt) = true := decide_eq_true c1
  have d2 : decide (u.tt < u.c.x0) = true := decide_eq_true c2
  have b3 : ((u.ws.length : Int) == szV u.c) = true := beq_iff_eq.2 c3
  have b4 : ((a.bs.length : Int) == u.c.x0) = false := beq_eq_false_iff_ne.2 c4
  have Q1 := fun W => hide (rcheck_tn u.c W)
  have Q2 := fun W => hide (rsize_tn u.c ((ck_ok u.c.x0 u.c.x1 u.c.x2 u.c.x3 u.c.x4 u.c.x5 u.c.x6 u.c.x7 u.c.b u.c.x9 u.c.x10 u.c.x11).1 c0) W)
  obtain ⟨cv, hcv⟩ : ∃ x, ckC u.c = x := ⟨_, rfl⟩
  obtain ⟨sv, hsv⟩ : ∃ x, szV u.c = x := ⟨_, rfl⟩
  rw [hcv] at Q1 b0
  rw [hsv] at Q2 b3
  clear hcv hsv c0 c1 c2 c3 c4
  go_enter Try.func21, Try.ntmps21
  go_wp2_with fail
  generalize (((w.alloc (.cells (tcs u a).toArray 38)).alloc (.cells zC.toArray 39)).setCells (w.heap.size + 1) 0 (ccs u.c)) = wz at *
  have R1 := fun d os => hide (Calls.regrown_of (w := wz) ((Q1 (grow (redrawn wz d) os)).out))
  have R2 := fun d os => hide (Calls.regrown_of (w := wz) ((Q2 (grow (redrawn wz d) os)).out))
  clear Q1 Q2
  have RB1 := fun d os => boxOf_keep B1 (below_regrown wz d os)
  have RB2 := fun d os => boxOf_keep B2 (below_regrown wz d os)
  refine wp_region_quiet_below (by kernel_rfl) (by kernel_rfl) ?_
  repeat (go_big_quiet_step (first | (go_at_call 36; exact (R1 _ _).out) | (go_at_call 37; exact (R2 _ _).out)))
  refine wpQuiet_nil ?_
  intro _ hw'
  obtain ⟨⟨dq, osq⟩, hw''⟩ := hw'
  subst hw''
  replace hB := below_next hB hB.size (below_regrown wz dq osq)
  go_wp2
  go_ret
  exact ⟨_, rfl, (by first | exact HR.out | exact fun _ => HR.out trivial), hB⟩
set_option maxRecDepth 100000 in
set_option maxHeartbeats 4000000 in
theorem may_5 (u : Tn) (a : TA) (w : World) (c0 : ckC u.c = 0) (c1 : 0 ≤ u.tt) (c2 : u.tt < u.c.x0) (c3 : (u.ws.length : Int) = szV u.c) (c4 : (a.bs.length : Int) = u.c.x0) (c5 : ¬ 0 ≤ u.d.it) : Calls Try.prog 21 #[.agg (tcs u a).toArray] w (MayTPost u a.bs.length w) := by
  have HR : Hid (false = true → MayOk u a.bs.length) := hide (fun e => by cases e)
  have B1 : boxOf (((w.alloc (.cells (tcs u a).toArray 38)).alloc (.cells zC.toArray 39)).setCells (w.heap.size + 1) 0 (ccs u.c)) w.heap.size = some (tcs u a) := by simp [go_sem]
  have B2 : boxOf (((w.alloc (.cells (tcs u a).toArray 38)).alloc (.cells zC.toArray 39)).setCells (w.heap.size + 1) 0 (ccs u.c)) (w.heap.size + 1) = some (ccs u.c) := by simp [go_sem]
  have hs : w.heap.size + 1 < (((w.alloc (.cells (tcs u a).toArray 38)).alloc (.cells zC.toArray 39)).setCells (w.heap.size + 1) 0 (ccs u.c)).heap.size := by simp [size_sets]
  have hB : Below w.heap.size w (((w.alloc (.cells (tcs u a).toArray 38)).alloc (.cells zC.toArray 39)).setCells (w.heap.size + 1) 0 (ccs u.c)) := below_sets _ (by omega) _ _ _ _ ((belowN w _).alloc (by simp) _)
  have b0 : (ckC u.c == 0) = true := beq_iff_eq.2 c0
  have d1 : decide (0 ≤ u.tt) = true := decide_eq_true c1
  have d2 : decide (u.tt < u.c.x0) = true := decide_eq_true c2
  have b3 : ((u.ws.length : Int) == szV u.c) = true := beq_iff_eq.2 c3
  have b4 : ((a.bs.length : Int) == u.c.x0) = true := beq_iff_eq.2 c4
  have d5 : decide (0 ≤ u.d.it) = false := decide_eq_false c5
  have Q1 := fun W => hide (rcheck_tn u.c W)
  have Q2 := fun W => hide (rsize_tn u.c ((ck_ok u.c.x0 u.c.x1 u.c.x2 u.c.x3 u.c.x4 u.c.x5 u.c.x6 u.c.x7 u.c.b u.c.x9 u.c.x10 u.c.x11).1 c0) W)
  obtain ⟨cv, hcv⟩ : ∃ x, ckC u.c = x := ⟨_, rfl⟩
  obtain ⟨sv, hsv⟩ : ∃ x, szV u.c = x := ⟨_, rfl⟩
  rw [hcv] at Q1 b0
  rw [hsv] at Q2 b3
  clear hcv hsv c0 c1 c2 c3 c4 c5
  go_enter Try.func21, Try.ntmps21
  go_wp2_with fail
  generalize (((w.alloc (.cells (tcs u a).toArray 38)).alloc (.cells zC.toArray 39)).setCells (w.heap.size + 1) 0 (ccs u.c)) = wz at *
  have R1 := fun d os => hide (Calls.regrown_of (w := wz) ((Q1 (grow (redrawn wz d) os)).out))
  have R2 := fun d os => hide (Calls.regrown_of (w := wz) ((Q2 (grow (redrawn wz d) os)).out))
  clear Q1 Q2
  have RB1 := fun d os => boxOf_keep B1 (below_regrown wz d os)
  have RB2 := fun d os => boxOf_keep B2 (below_regrown wz d os)
  refine wp_region_quiet_below (by kernel_rfl) (by kernel_rfl) ?_
  repeat (go_big_quiet_step (first | (go_at_call 36; exact (R1 _ _).out) | (go_at_call 37; exact (R2 _ _).out)))
  refine wpQuiet_nil ?_
  intro _ hw'
  obtain ⟨⟨dq, osq⟩, hw''⟩ := hw'
  subst hw''
  replace hB := below_next hB hB.size (below_regrown wz dq osq)
  go_wp2
  go_ret
  exact ⟨_, rfl, (by first | exact HR.out | exact fun _ => HR.out trivial), hB⟩
set_option maxRecDepth 100000 in
set_option maxHeartbeats 4000000 in
theorem may_6 (u : Tn) (a : TA) (w : World) (c0 : ckC u.c = 0) (c1 : 0 ≤ u.tt) (c2 : u.tt < u.c.x0) (c3 : (u.ws.length : Int) = szV u.c) (c4 : (a.bs.length : Int) = u.c.x0) (c5 : 0 ≤ u.d.it) (c6 : ¬ u.d.it < u.c.x1) : Calls Try.prog 21 #[.agg (tcs u a).toArray] w (MayTPost u a.bs.length w) := by
  have HR : Hid (false = true → MayOk u a.bs.length) := hide (fun e => by cases e)
  have B1 : boxOf (((w.alloc (.cells (tcs u a).toArray 38)).alloc (.cells zC.toArray 39)).setCells (w.heap.size + 1) 0 (ccs u.c)) w.heap.size = some (tcs u a) := by simp [go_sem]
  have B2 : boxOf (((w.alloc (.cells (tcs u a).toArray 38)).alloc (.cells zC.toArray 39)).setCells (w.heap.size + 1) 0 (ccs u.c)) (w.heap.size + 1) = some (ccs u.c) := by simp [go_sem]
  have hs : w.heap.size + 1 < (((w.alloc (.cells (tcs u a).toArray 38)).alloc (.cells zC.toArray 39)).setCells (w.heap.size + 1) 0 (ccs u.c)).heap.size := by simp [size_sets]
  have hB : Below w.heap.size w (((w.alloc (.cells (tcs u a).toArray 38)).alloc (.cells zC.toArray 39)).setCells (w.heap.size + 1) 0 (ccs u.c)) := below_sets _ (by omega) _ _ _ _ ((belowN w _).alloc (by simp) _)
  have b0 : (ckC u.c == 0) = true := beq_iff_eq.2 c0
  have d1 : decide (0 ≤ u.tt) = true := decide_eq_true c1
  have d2 : decide (u.tt < u.c.x0) = true := decide_eq_true c2
  have b3 : ((u.ws.length : Int) == szV u.c) = true := beq_iff_eq.2 c3
  have b4 : ((a.bs.length : Int) == u.c.x0) = true := beq_iff_eq.2 c4
  have d5 : decide (0 ≤ u.d.it) = true := decide_eq_true c5
  have d6 : decide (u.d.it < u.c.x1) = false := decide_eq_false c6
  have Q1 := fun W => hide (rcheck_tn u.c W)
  have Q2 := fun W => hide (rsize_tn u.c ((ck_ok u.c.x0 u.c.x1 u.c.x2 u.c.x3 u.c.x4 u.c.x5 u.c.x6 u.c.x7 u.c.b u.c.x9 u.c.x10 u.c.x11).1 c0) W)
  obtain ⟨cv, hcv⟩ : ∃ x, ckC u.c = x := ⟨_, rfl⟩
  obtain ⟨sv, hsv⟩ : ∃ x, szV u.c = x := ⟨_, rfl⟩
  rw [hcv] at Q1 b0
  rw [hsv] at Q2 b3
  clear hcv hsv c0 c1 c2 c3 c4 c5 c6
  go_enter Try.func21, Try.ntmps21
  go_wp2_with fail
  generalize (((w.alloc (.cells (tcs u a).toArray 38)).alloc (.cells zC.toArray 39)).setCells (w.heap.size + 1) 0 (ccs u.c)) = wz at *
  have R1 := fun d os => hide (Calls.regrown_of (w := wz) ((Q1 (grow (redrawn wz d) os)).out))
  have R2 := fun d os => hide (Calls.regrown_of (w := wz) ((Q2 (grow (redrawn wz d) os)).out))
  clear Q1 Q2
  have RB1 := fun d os => boxOf_keep B1 (below_regrown wz d os)
  have RB2 := fun d os => boxOf_keep B2 (below_regrown wz d os)
  refine wp_region_quiet_below (by kernel_rfl) (by kernel_rfl) ?_
  repeat (go_big_quiet_step (first | (go_at_call 36; exact (R1 _ _).out) | (go_at_call 37; exact (R2 _ _).out)))
  refine wpQuiet_nil ?_
  intro _ hw'
  obtain ⟨⟨dq, osq⟩, hw''⟩ := hw'
  subst hw''
  replace hB := below_next hB hB.size (below_regrown wz dq osq)
  go_wp2
  go_ret
  exact ⟨_, rfl, (by first | exact HR.out | exact fun _ => HR.out trivial), hB⟩
set_option maxRecDepth 100000 in
set_option maxHeartbeats 4000000 in
theorem may_7 (u : Tn) (a : TA) (w : World) (c0 : ckC u.c = 0) (c1 : 0 ≤ u.tt) (c2 : u.tt < u.c.x0) (c3 : (u.ws.length : Int) = szV u.c) (c4 : (a.bs.length : Int) = u.c.x0) (c5 : 0 ≤ u.d.it) (c6 : u.d.it < u.c.x1) : Calls Try.prog 21 #[.agg (tcs u a).toArray] w (MayTPost u a.bs.length w) := by
  have HR : Hid (true = true → MayOk u a.bs.length) := hide (fun _ => ⟨c0, c1, c2, c3, c4, c5, c6⟩)
  have B1 : boxOf (((w.alloc (.cells (tcs u a).toArray 38)).alloc (.cells zC.toArray 39)).setCells (w.heap.size + 1) 0 (ccs u.c)) w.heap.size = some (tcs u a) := by simp [go_sem]
  have B2 : boxOf (((w.alloc (.cells (tcs u a).toArray 38)).alloc (.cells zC.toArray 39)).setCells (w.heap.size + 1) 0 (ccs u.c)) (w.heap.size + 1) = some (ccs u.c) := by simp [go_sem]
  have hs : w.heap.size + 1 < (((w.alloc (.cells (tcs u a).toArray 38)).alloc (.cells zC.toArray 39)).setCells (w.heap.size + 1) 0 (ccs u.c)).heap.size := by simp [size_sets]
  have hB : Below w.heap.size w (((w.alloc (.cells (tcs u a).toArray 38)).alloc (.cells zC.toArray 39)).setCells (w.heap.size + 1) 0 (ccs u.c)) := below_sets _ (by omega) _ _ _ _ ((belowN w _).alloc (by simp) _)
  have b0 : (ckC u.c == 0) = true := beq_iff_eq.2 c0
  have d1 : decide (0 ≤ u.tt) = true := decide_eq_true c1
  have d2 : decide (u.tt < u.c.x0) = true := decide_eq_true c2
  have b3 : ((u.ws.length : Int) == szV u.c) = true := beq_iff_eq.2 c3
  have b4 : ((a.bs.length : Int) == u.c.x0) = true := beq_iff_eq.2 c4
  have d5 : decide (0 ≤ u.d.it) = true := decide_eq_true c5
  have d6 : decide (u.d.it < u.c.x1) = true := decide_eq_true c6
  have Q1 := fun W => hide (rcheck_tn u.c W)
  have Q2 := fun W => hide (rsize_tn u.c ((ck_ok u.c.x0 u.c.x1 u.c.x2 u.c.x3 u.c.x4 u.c.x5 u.c.x6 u.c.x7 u.c.b u.c.x9 u.c.x10 u.c.x11).1 c0) W)
  obtain ⟨cv, hcv⟩ : ∃ x, ckC u.c = x := ⟨_, rfl⟩
  obtain ⟨sv, hsv⟩ : ∃ x, szV u.c = x := ⟨_, rfl⟩
  rw [hcv] at Q1 b0
  rw [hsv] at Q2 b3
  clear hcv hsv c0 c1 c2 c3 c4 c5 c6
  go_enter Try.func21, Try.ntmps21
  go_wp2_with fail
  generalize (((w.alloc (.cells (tcs u a).toArray 38)).alloc (.cells zC.toArray 39)).setCells (w.heap.size + 1) 0 (ccs u.c)) = wz at *
  have R1 := fun d os => hide (Calls.regrown_of (w := wz) ((Q1 (grow (redrawn wz d) os)).out))
  have R2 := fun d os => hide (Calls.regrown_of (w := wz) ((Q2 (grow (redrawn wz d) os)).out))
  clear Q1 Q2
  have RB1 := fun d os => boxOf_keep B1 (below_regrown wz d os)
  have RB2 := fun d os => boxOf_keep B2 (below_regrown wz d os)
  refine wp_region_quiet_below (by kernel_rfl) (by kernel_rfl) ?_
  repeat (go_big_quiet_step (first | (go_at_call 36; exact (R1 _ _).out) | (go_at_call 37; exact (R2 _ _).out)))
  refine wpQuiet_nil ?_
  intro _ hw'
  obtain ⟨⟨dq, osq⟩, hw''⟩ := hw'
  subst hw''
  replace hB := below_next hB hB.size (below_regrown wz dq osq)
  go_wp2
  go_ret
  exact ⟨_, rfl, (by first | exact HR.out | exact fun _ => HR.out trivial), hB⟩
theorem may_any (u : Tn) (a : TA) (w : World) : Calls Try.prog 21 #[.agg (tcs u a).toArray] w (MayTPost u a.bs.length w) := by
  by_cases c0 : ckC u.c = 0
  case neg => exact may_0 u a w c0
  by_cases c1 : 0 ≤ u.tt
  case neg => exact may_1 u a w c0 c1
  by_cases c2 : u.tt < u.c.x0
  case neg => exact may_2 u a w c0 c1 c2
  by_cases c3 : (u.ws.length : Int) = szV u.c
  case neg => exact may_3 u a w c0 c1 c2 c3
  by_cases c4 : (a.bs.length : Int) = u.c.x0
  case neg => exact may_4 u a w c0 c1 c2 c3 c4
  by_cases c5 : 0 ≤ u.d.it
  case neg => exact may_5 u a w c0 c1 c2 c3 c4 c5
  by_cases c6 : u.d.it < u.c.x1
  case neg => exact may_6 u a w c0 c1 c2 c3 c4 c5 c6
  exact may_7 u a w c0 c1 c2 c3 c4 c5 c6
end Go.Proofs.Ytjghdbkkjhnpfaa
