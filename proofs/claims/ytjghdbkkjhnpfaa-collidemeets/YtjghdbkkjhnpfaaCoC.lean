/- Layer 15: what a thread does at each phase. -/
import Derived.Test.YtjghdbkkjhnpfaaCoA
import Derived.Test.YtjghdbkkjhnpfaaM6
import Derived.Lib.QuietBelow
import Derived.Deep.QuietTactic
import Derived.BigQuiet
import Derived.Laws.EntriesVeiled
import Derived.Deep.RegionHeld3
import Derived.Deep.RegionWith
namespace Go.Proofs.Ytjghdbkkjhnpfaa
open Go.RowKit Go.Sort
set_option linter.unusedVariables false
set_option linter.unusedSimpArgs false

attribute [local irreducible] tcs thc ccs zT
attribute [local go_sem ↓] alTn_is alRn_is
attribute [local go_sem] run_alTnf run_alTnt run_alRnf run_alRnt zT_length
attribute [local go_sem ↓] lbTn_is lbRn_is lbTh_is lbRh_is lbCf_is lbRc_is sbTn_is sbRn_is sbTh_is sbRh_is sbCf_is sbRc_is
attribute [local go_sem] run_lbTn run_lbRn run_lbTh run_lbRh run_lbCf run_lbRc run_sbTn run_sbRn run_sbTh run_sbRh run_sbCf run_sbRc
attribute [local go_sem 2000] boxOf_old'
attribute [local go_sem] boxOf_at' boxOf_free' boxOf_alloc objBox_cells objBox_cellsA boxOf_drew boxOf_setI boxOf_setsI size_sets tcs_length thc_length ccs_length tcs_one thc_one ccs_one sub_tn sub_th sub_cf sub_thAll sub_cfAll put_turn put_thread
attribute [local go_sem] tc0 tc1 tc2 tc3 tc4 tc5 tc6 tc7 tc8 tc9 tc10 tc11 tc12 tc13 tc14 tc15 tc16 tc17 tc18 tc19 tc20 tc21 tc22 tc23 tc24 tc25 tc26 tc27 tc28 tc29 tc30 tc31 tc32 tc33 tc34 tc35 tc36 hc0 hc1 hc2 hc3 hc4 hc5 hc6 hc7 hc8 hc9 hc10 hc11 hc12 hc13 hc14 hc15 hc16 kc0 kc1 kc2 kc3 kc4 kc5 kc6 kc7 kc8 kc9 kc10 kc11 tg0 tg1 tg2 tg3 tg4 tg5 tg6 tg7 tg8 tg9 tg10 tg11 tg12 tg13 tg14 tg15 tg16 tg17 tg18 tg19 tg20 tg21 tg22 tg23 tg24 tg25 tg26 tg27 tg28 tg29 tg30 tg31 tg32 tg33 tg34 tg35 tg36 hg0 hg1 hg2 hg3 hg4 hg5 hg6 hg7 hg8 hg9 hg10 hg11 hg12 hg13 hg14 hg15 hg16 kg0 kg1 kg2 kg3 kg4 kg5 kg6 kg7 kg8 kg9 kg10 kg11
attribute [local go_sem] ts12 ts13 ts14 ts16 ts17 ts18 ts19 ts20 ts21 ts22 ts23 ts24 ts25 ts26 ts27 ts28 ts29 ts30 ts31 ts32 ts33 ts34 ts35 ts36 ts15 hs0 hs1 hs2 hs3 hs7 hs8 hs9 hs10 hs11 hs12 hs13 hs14 hs15 hs16

theorem dr_i64 (u : Tn) (o : TnOk u) : I64 (drV u) := by
  have hw : I64 u.d.wd := o.f.n _ (by simp [Dt.nums])
  unfold drV blD
  split
  · exact i64_k 0 (by decide)
  · rename_i h
    have h1 := Int.emod_nonneg (nxD u.tl u.ta) (b := u.d.wd) (by omega)
    have h2 := Int.emod_lt_of_pos (nxD u.tl u.ta) (b := u.d.wd) (by omega)
    unfold I64 at hw ⊢; omega
set_option maxRecDepth 100000 in
set_option maxHeartbeats 4000000 in
theorem step_17 (u : Tn) (a : TA) (o : TnOk u) (ht : 0 ≤ u.tt ∧ u.tt ≤ 15) (hi : 0 ≤ u.d.it ∧ u.d.it ≤ 3) (hl : 1 ≤ u.d.ly ∧ u.d.ly ≤ 3) (hp : u.d.ph = 17) (w : World) : Calls Try.prog 25 #[.agg (tcs u a).toArray] w (fun e w' => e = .returned (.iface 100 (.agg #[.int .i64 u.tt, .slice a.p.bA u.d.bl.length a.p.bc])) ∧ Below w.heap.size w w') := by
  have B1 : boxOf (w.alloc (.cells (tcs u a).toArray 38)) w.heap.size = some (tcs u a) := by simp [go_sem]
  have hs : w.heap.size < (w.alloc (.cells (tcs u a).toArray 38)).heap.size := by simp
  have hB : Below w.heap.size w (w.alloc (.cells (tcs u a).toArray 38)) := belowN w _
  have KO := fun W => hide (open_any u.d.it u.d.ly hi hl W)
  have KL := fun W => hide (line_tn u.c o.c u.tt o.tt W)
  rw [show opV u.d.it u.d.ly = opW u from rfl] at KO
  obtain ⟨ov, hov⟩ : ∃ x, opW u = x := ⟨_, rfl⟩
  obtain ⟨lv, hlv⟩ : ∃ x, lnV u.c u.tt = x := ⟨_, rfl⟩
  rw [hov] at KO
  rw [hlv] at KL
  clear hov hlv
  clear hi hl
  go_enter Try.func25, Try.ntmps25
  go_wp2_with fail
  generalize (w.alloc (.cells (tcs u a).toArray 38)) = wz at *
  refine (KO _).out.mono ?_
  rintro e w1 ⟨rfl, hb1⟩
  replace B1 := boxOf_keep B1 hb1
  replace hs := Nat.lt_of_lt_of_le hs hb1.size
  replace hB := below_next hB hB.size hb1
  clear hb1
  go_wp2_with fail
  refine (KL _).out.mono ?_
  rintro e w2 ⟨rfl, hb1⟩
  replace B1 := boxOf_keep B1 hb1
  replace hs := Nat.lt_of_lt_of_le hs hb1.size
  replace hB := below_next hB hB.size hb1
  clear hb1
  clear KO KL
  go_wp2
  go_ret
  exact ⟨rfl, hB⟩
set_option maxRecDepth 100000 in
set_option maxHeartbeats 4000000 in
theorem step_18 (u : Tn) (a : TA) (o : TnOk u) (ht : 0 ≤ u.tt ∧ u.tt ≤ 15) (hi : 0 ≤ u.d.it ∧ u.d.it ≤ 3) (hl : 1 ≤ u.d.ly ∧ u.d.ly ≤ 3) (hp : u.d.ph = 18) (w : World) : Calls Try.prog 25 #[.agg (tcs u a).toArray] w (fun e w' => e = .returned (.iface 102 (.agg #[.int .i64 (lnV u.c u.tt), .int .i64 (opW u)])) ∧ Below w.heap.size w w') := by
  have B1 : boxOf (w.alloc (.cells (tcs u a).toArray 38)) w.heap.size = some (tcs u a) := by simp [go_sem]
  have hs : w.heap.size < (w.alloc (.cells (tcs u a).toArray 38)).heap.size := by simp
  have hB : Below w.heap.size w (w.alloc (.cells (tcs u a).toArray 38)) := belowN w _
  have KO := fun W => hide (open_any u.d.it u.d.ly hi hl W)
  have KL := fun W => hide (line_tn u.c o.c u.tt o.tt W)
  rw [show opV u.d.it u.d.ly = opW u from rfl] at KO
  obtain ⟨ov, hov⟩ : ∃ x, opW u = x := ⟨_, rfl⟩
  obtain ⟨lv, hlv⟩ : ∃ x, lnV u.c u.tt = x := ⟨_, rfl⟩
  rw [hov] at KO
  rw [hlv] at KL
  rw [hov, hlv]
  clear hov hlv
  clear hi hl
  go_enter Try.func25, Try.ntmps25
  go_wp2_with fail
  generalize (w.alloc (.cells (tcs u a).toArray 38)) = wz at *
  refine (KO _).out.mono ?_
  rintro e w1 ⟨rfl, hb1⟩
  replace B1 := boxOf_keep B1 hb1
  replace hs := Nat.lt_of_lt_of_le hs hb1.size
  replace hB := below_next hB hB.size hb1
  clear hb1
  go_wp2_with fail
  refine (KL _).out.mono ?_
  rintro e w2 ⟨rfl, hb1⟩
  replace B1 := boxOf_keep B1 hb1
  replace hs := Nat.lt_of_lt_of_le hs hb1.size
  replace hB := below_next hB hB.size hb1
  clear hb1
  clear KO KL
  go_wp2
  go_ret
  exact ⟨rfl, hB⟩
set_option maxRecDepth 100000 in
set_option maxHeartbeats 4000000 in
theorem step_20 (u : Tn) (a : TA) (o : TnOk u) (ht : 0 ≤ u.tt ∧ u.tt ≤ 15) (hi : 0 ≤ u.d.it ∧ u.d.it ≤ 3) (hl : 1 ≤ u.d.ly ∧ u.d.ly ≤ 3) (hp : u.d.ph = 20) (w : World) : Calls Try.prog 25 #[.agg (tcs u a).toArray] w (fun e w' => e = .returned (.iface 110 (.agg #[.int .i64 (lnV u.c u.tt), .int .i64 (opW u)])) ∧ Below w.heap.size w w') := by
  have B1 : boxOf (w.alloc (.cells (tcs u a).toArray 38)) w.heap.size = some (tcs u a) := by simp [go_sem]
  have hs : w.heap.size < (w.alloc (.cells (tcs u a).toArray 38)).heap.size := by simp
  have hB : Below w.heap.size w (w.alloc (.cells (tcs u a).toArray 38)) := belowN w _
  have KO := fun W => hide (open_any u.d.it u.d.ly hi hl W)
  have KL := fun W => hide (line_tn u.c o.c u.tt o.tt W)
  rw [show opV u.d.it u.d.ly = opW u from rfl] at KO
  obtain ⟨ov, hov⟩ : ∃ x, opW u = x := ⟨_, rfl⟩
  obtain ⟨lv, hlv⟩ : ∃ x, lnV u.c u.tt = x := ⟨_, rfl⟩
  rw [hov] at KO
  rw [hlv] at KL
  rw [hov, hlv]
  clear hov hlv
  clear hi hl
  go_enter Try.func25, Try.ntmps25
  go_wp2_with fail
  generalize (w.alloc (.cells (tcs u a).toArray 38)) = wz at *
  refine (KO _).out.mono ?_
  rintro e w1 ⟨rfl, hb1⟩
  replace B1 := boxOf_keep B1 hb1
  replace hs := Nat.lt_of_lt_of_le hs hb1.size
  replace hB := below_next hB hB.size hb1
  clear hb1
  go_wp2_with fail
  refine (KL _).out.mono ?_
  rintro e w2 ⟨rfl, hb1⟩
  replace B1 := boxOf_keep B1 hb1
  replace hs := Nat.lt_of_lt_of_le hs hb1.size
  replace hB := below_next hB hB.size hb1
  clear hb1
  clear KO KL
  go_wp2
  go_ret
  exact ⟨rfl, hB⟩
set_option maxRecDepth 100000 in
set_option maxHeartbeats 4000000 in
theorem step_22 (u : Tn) (a : TA) (o : TnOk u) (ht : 0 ≤ u.tt ∧ u.tt ≤ 15) (hi : 0 ≤ u.d.it ∧ u.d.it ≤ 3) (hl : 1 ≤ u.d.ly ∧ u.d.ly ≤ 3) (hp : u.d.ph = 22) (w : World) : Calls Try.prog 25 #[.agg (tcs u a).toArray] w (fun e w' => e = .returned (.iface 112 (.agg #[.int .i64 u.d.who])) ∧ Below w.heap.size w w') := by
  have B1 : boxOf (w.alloc (.cells (tcs u a).toArray 38)) w.heap.size = some (tcs u a) := by simp [go_sem]
  have hs : w.heap.size < (w.alloc (.cells (tcs u a).toArray 38)).heap.size := by simp
  have hB : Below w.heap.size w (w.alloc (.cells (tcs u a).toArray 38)) := belowN w _
  have KO := fun W => hide (open_any u.d.it u.d.ly hi hl W)
  have KL := fun W => hide (line_tn u.c o.c u.tt o.tt W)
  rw [show opV u.d.it u.d.ly = opW u from rfl] at KO
  obtain ⟨ov, hov⟩ : ∃ x, opW u = x := ⟨_, rfl⟩
  obtain ⟨lv, hlv⟩ : ∃ x, lnV u.c u.tt = x := ⟨_, rfl⟩
  rw [hov] at KO
  rw [hlv] at KL
  clear hov hlv
  clear hi hl
  go_enter Try.func25, Try.ntmps25
  go_wp2_with fail
  generalize (w.alloc (.cells (tcs u a).toArray 38)) = wz at *
  refine (KO _).out.mono ?_
  rintro e w1 ⟨rfl, hb1⟩
  replace B1 := boxOf_keep B1 hb1
  replace hs := Nat.lt_of_lt_of_le hs hb1.size
  replace hB := below_next hB hB.size hb1
  clear hb1
  go_wp2_with fail
  refine (KL _).out.mono ?_
  rintro e w2 ⟨rfl, hb1⟩
  replace B1 := boxOf_keep B1 hb1
  replace hs := Nat.lt_of_lt_of_le hs hb1.size
  replace hB := below_next hB hB.size hb1
  clear hb1
  clear KO KL
  go_wp2
  go_ret
  exact ⟨rfl, hB⟩
set_option maxRecDepth 100000 in
set_option maxHeartbeats 4000000 in
theorem step_23 (u : Tn) (a : TA) (o : TnOk u) (ht : 0 ≤ u.tt ∧ u.tt ≤ 15) (hi : 0 ≤ u.d.it ∧ u.d.it ≤ 3) (hl : 1 ≤ u.d.ly ∧ u.d.ly ≤ 3) (hp : u.d.ph = 23) (w : World) : Calls Try.prog 25 #[.agg (tcs u a).toArray] w (fun e w' => e = .returned (.iface 113 (.agg #[.int .i64 (lnV u.c u.tt), .int .i64 (opW u)])) ∧ Below w.heap.size w w') := by
  have B1 : boxOf (w.alloc (.cells (tcs u a).toArray 38)) w.heap.size = some (tcs u a) := by simp [go_sem]
  have hs : w.heap.size < (w.alloc (.cells (tcs u a).toArray 38)).heap.size := by simp
  have hB : Below w.heap.size w (w.alloc (.cells (tcs u a).toArray 38)) := belowN w _
  have KO := fun W => hide (open_any u.d.it u.d.ly hi hl W)
  have KL := fun W => hide (line_tn u.c o.c u.tt o.tt W)
  rw [show opV u.d.it u.d.ly = opW u from rfl] at KO
  obtain ⟨ov, hov⟩ : ∃ x, opW u = x := ⟨_, rfl⟩
  obtain ⟨lv, hlv⟩ : ∃ x, lnV u.c u.tt = x := ⟨_, rfl⟩
  rw [hov] at KO
  rw [hlv] at KL
  rw [hov, hlv]
  clear hov hlv
  clear hi hl
  go_enter Try.func25, Try.ntmps25
  go_wp2_with fail
  generalize (w.alloc (.cells (tcs u a).toArray 38)) = wz at *
  refine (KO _).out.mono ?_
  rintro e w1 ⟨rfl, hb1⟩
  replace B1 := boxOf_keep B1 hb1
  replace hs := Nat.lt_of_lt_of_le hs hb1.size
  replace hB := below_next hB hB.size hb1
  clear hb1
  go_wp2_with fail
  refine (KL _).out.mono ?_
  rintro e w2 ⟨rfl, hb1⟩
  replace B1 := boxOf_keep B1 hb1
  replace hs := Nat.lt_of_lt_of_le hs hb1.size
  replace hB := below_next hB hB.size hb1
  clear hb1
  clear KO KL
  go_wp2
  go_ret
  exact ⟨rfl, hB⟩
set_option maxRecDepth 100000 in
set_option maxHeartbeats 4000000 in
theorem step_24 (u : Tn) (a : TA) (o : TnOk u) (ht : 0 ≤ u.tt ∧ u.tt ≤ 15) (hi : 0 ≤ u.d.it ∧ u.d.it ≤ 3) (hl : 1 ≤ u.d.ly ∧ u.d.ly ≤ 3) (hp : u.d.ph = 24) (w : World) : Calls Try.prog 25 #[.agg (tcs u a).toArray] w (fun e w' => e = .returned (.iface 102 (.agg #[.int .i64 (lnV u.c u.tt), .int .i64 (opW u)])) ∧ Below w.heap.size w w') := by
  have B1 : boxOf (w.alloc (.cells (tcs u a).toArray 38)) w.heap.size = some (tcs u a) := by simp [go_sem]
  have hs : w.heap.size < (w.alloc (.cells (tcs u a).toArray 38)).heap.size := by simp
  have hB : Below w.heap.size w (w.alloc (.cells (tcs u a).toArray 38)) := belowN w _
  have KO := fun W => hide (open_any u.d.it u.d.ly hi hl W)
  have KL := fun W => hide (line_tn u.c o.c u.tt o.tt W)
  rw [show opV u.d.it u.d.ly = opW u from rfl] at KO
  obtain ⟨ov, hov⟩ : ∃ x, opW u = x := ⟨_, rfl⟩
  obtain ⟨lv, hlv⟩ : ∃ x, lnV u.c u.tt = x := ⟨_, rfl⟩
  rw [hov] at KO
  rw [hlv] at KL
  rw [hov, hlv]
  clear hov hlv
  clear hi hl
  go_enter Try.func25, Try.ntmps25
  go_wp2_with fail
  generalize (w.alloc (.cells (tcs u a).toArray 38)) = wz at *
  refine (KO _).out.mono ?_
  rintro e w1 ⟨rfl, hb1⟩
  replace B1 := boxOf_keep B1 hb1
  replace hs := Nat.lt_of_lt_of_le hs hb1.size
  replace hB := below_next hB hB.size hb1
  clear hb1
  go_wp2_with fail
  refine (KL _).out.mono ?_
  rintro e w2 ⟨rfl, hb1⟩
  replace B1 := boxOf_keep B1 hb1
  replace hs := Nat.lt_of_lt_of_le hs hb1.size
  replace hB := below_next hB hB.size hb1
  clear hb1
  clear KO KL
  go_wp2
  go_ret
  exact ⟨rfl, hB⟩
set_option maxRecDepth 100000 in
set_option maxHeartbeats 4000000 in
theorem step_26 (u : Tn) (a : TA) (o : TnOk u) (ht : 0 ≤ u.tt ∧ u.tt ≤ 15) (hi : 0 ≤ u.d.it ∧ u.d.it ≤ 3) (hl : 1 ≤ u.d.ly ∧ u.d.ly ≤ 3) (hp : u.d.ph = 26) (w : World) : Calls Try.prog 25 #[.agg (tcs u a).toArray] w (fun e w' => e = .returned (.iface 110 (.agg #[.int .i64 (lnV u.c u.tt), .int .i64 (opW u)])) ∧ Below w.heap.size w w') := by
  have B1 : boxOf (w.alloc (.cells (tcs u a).toArray 38)) w.heap.size = some (tcs u a) := by simp [go_sem]
  have hs : w.heap.size < (w.alloc (.cells (tcs u a).toArray 38)).heap.size := by simp
  have hB : Below w.heap.size w (w.alloc (.cells (tcs u a).toArray 38)) := belowN w _
  have KO := fun W => hide (open_any u.d.it u.d.ly hi hl W)
  have KL := fun W => hide (line_tn u.c o.c u.tt o.tt W)
  rw [show opV u.d.it u.d.ly = opW u from rfl] at KO
  obtain ⟨ov, hov⟩ : ∃ x, opW u = x := ⟨_, rfl⟩
  obtain ⟨lv, hlv⟩ : ∃ x, lnV u.c u.tt = x := ⟨_, rfl⟩
  rw [hov] at KO
  rw [hlv] at KL
  rw [hov, hlv]
  clear hov hlv
  clear hi hl
  go_enter Try.func25, Try.ntmps25
  go_wp2_with fail
  generalize (w.alloc (.cells (tcs u a).toArray 38)) = wz at *
  refine (KO _).out.mono ?_
  rintro e w1 ⟨rfl, hb1⟩
  replace B1 := boxOf_keep B1 hb1
  replace hs := Nat.lt_of_lt_of_le hs hb1.size
  replace hB := below_next hB hB.size hb1
  clear hb1
  go_wp2_with fail
  refine (KL _).out.mono ?_
  rintro e w2 ⟨rfl, hb1⟩
  replace B1 := boxOf_keep B1 hb1
  replace hs := Nat.lt_of_lt_of_le hs hb1.size
  replace hB := below_next hB hB.size hb1
  clear hb1
  clear KO KL
  go_wp2
  go_ret
  exact ⟨rfl, hB⟩
set_option maxRecDepth 100000 in
set_option maxHeartbeats 4000000 in
theorem step_21 (u : Tn) (a : TA) (o : TnOk u) (ht : 0 ≤ u.tt ∧ u.tt ≤ 15) (hi : 0 ≤ u.d.it ∧ u.d.it ≤ 3) (hl : 1 ≤ u.d.ly ∧ u.d.ly ≤ 3) (hp : u.d.ph = 21) (w : World) : Calls Try.prog 25 #[.agg (tcs u a).toArray] w (fun e w' => e = .returned (.iface 110 (.agg #[.int .i64 (lnV u.c u.d.who), .int .i64 (opW u)])) ∧ Below w.heap.size w w') := by
  have B1 : boxOf (w.alloc (.cells (tcs u a).toArray 38)) w.heap.size = some (tcs u a) := by simp [go_sem]
  have hs : w.heap.size < (w.alloc (.cells (tcs u a).toArray 38)).heap.size := by simp
  have hB : Below w.heap.size w (w.alloc (.cells (tcs u a).toArray 38)) := belowN w _
  have KO := fun W => hide (open_any u.d.it u.d.ly hi hl W)
  have KL := fun W => hide (line_tn u.c o.c u.tt o.tt W)
  rw [show opV u.d.it u.d.ly = opW u from rfl] at KO
  obtain ⟨ov, hov⟩ : ∃ x, opW u = x := ⟨_, rfl⟩
  obtain ⟨lv, hlv⟩ : ∃ x, lnV u.c u.tt = x := ⟨_, rfl⟩
  rw [hov] at KO
  rw [hlv] at KL
  have KW := fun W => hide (line_tn u.c o.c u.d.who o.iwho W)
  obtain ⟨qv, hqv⟩ : ∃ x, lnV u.c u.d.who = x := ⟨_, rfl⟩
  rw [hqv] at KW
  rw [hov, hqv]
  clear hov hlv hqv
  clear hi hl
  go_enter Try.func25, Try.ntmps25
  go_wp2_with fail
  generalize (w.alloc (.cells (tcs u a).toArray 38)) = wz at *
  refine (KO _).out.mono ?_
  rintro e w1 ⟨rfl, hb1⟩
  replace B1 := boxOf_keep B1 hb1
  replace hs := Nat.lt_of_lt_of_le hs hb1.size
  replace hB := below_next hB hB.size hb1
  clear hb1
  go_wp2_with fail
  refine (KL _).out.mono ?_
  rintro e w2 ⟨rfl, hb1⟩
  replace B1 := boxOf_keep B1 hb1
  replace hs := Nat.lt_of_lt_of_le hs hb1.size
  replace hB := below_next hB hB.size hb1
  clear hb1
  clear KO KL
  go_wp2_with fail
  refine (KW _).out.mono ?_
  rintro e w3 ⟨rfl, hb1⟩
  replace B1 := boxOf_keep B1 hb1
  replace hs := Nat.lt_of_lt_of_le hs hb1.size
  replace hB := below_next hB hB.size hb1
  clear hb1
  clear KW
  go_wp2
  go_ret
  exact ⟨rfl, hB⟩
set_option maxRecDepth 100000 in
set_option maxHeartbeats 4000000 in
theorem step_n (u : Tn) (a : TA) (o : TnOk u) (ht : 0 ≤ u.tt ∧ u.tt ≤ 15) (hi : 0 ≤ u.d.it ∧ u.d.it ≤ 3) (hl : 1 ≤ u.d.ly ∧ u.d.ly ≤ 3) (h17 : (u.d.ph == 17) = false) (h18 : (u.d.ph == 18) = false) (h24 : (u.d.ph == 24) = false) (h19 : (u.d.ph == 19) = false) (h20 : (u.d.ph == 20) = false) (h26 : (u.d.ph == 26) = false) (h21 : (u.d.ph == 21) = false) (h22 : (u.d.ph == 22) = false) (h23 : (u.d.ph == 23) = false) (w : World) : Calls Try.prog 25 #[.agg (tcs u a).toArray] w (fun e w' => e = .returned .nilIface ∧ Below w.heap.size w w') := by
  have B1 : boxOf (w.alloc (.cells (tcs u a).toArray 38)) w.heap.size = some (tcs u a) := by simp [go_sem]
  have hs : w.heap.size < (w.alloc (.cells (tcs u a).toArray 38)).heap.size := by simp
  have hB : Below w.heap.size w (w.alloc (.cells (tcs u a).toArray 38)) := belowN w _
  have KO := fun W => hide (open_any u.d.it u.d.ly hi hl W)
  have KL := fun W => hide (line_tn u.c o.c u.tt o.tt W)
  rw [show opV u.d.it u.d.ly = opW u from rfl] at KO
  obtain ⟨ov, hov⟩ : ∃ x, opW u = x := ⟨_, rfl⟩
  obtain ⟨lv, hlv⟩ : ∃ x, lnV u.c u.tt = x := ⟨_, rfl⟩
  rw [hov] at KO
  rw [hlv] at KL
  clear hov hlv
  clear hi hl
  go_enter Try.func25, Try.ntmps25
  go_wp2_with fail
  generalize (w.alloc (.cells (tcs u a).toArray 38)) = wz at *
  refine (KO _).out.mono ?_
  rintro e w1 ⟨rfl, hb1⟩
  replace B1 := boxOf_keep B1 hb1
  replace hs := Nat.lt_of_lt_of_le hs hb1.size
  replace hB := below_next hB hB.size hb1
  clear hb1
  go_wp2_with fail
  refine (KL _).out.mono ?_
  rintro e w2 ⟨rfl, hb1⟩
  replace B1 := boxOf_keep B1 hb1
  replace hs := Nat.lt_of_lt_of_le hs hb1.size
  replace hB := below_next hB hB.size hb1
  clear hb1
  clear KO KL
  go_wp2
  go_ret
  exact ⟨rfl, hB⟩
set_option maxRecDepth 100000 in
set_option maxHeartbeats 4000000 in
theorem step_19 (u : Tn) (a : TA) (o : TnOk u) (ht : 0 ≤ u.tt ∧ u.tt ≤ 15) (hi : 0 ≤ u.d.it ∧ u.d.it ≤ 3) (hl : 1 ≤ u.d.ly ∧ u.d.ly ≤ 3) (hp : u.d.ph = 19) (w : World) (h : TnAt w u a) (hta : I64 u.ta) : Calls Try.prog 25 #[.agg (tcs u a).toArray] w (fun e w' => ∃ A c, e = .returned (.iface 108 (.agg #[.int .i64 (swP u), .int .i64 (u.tt + 1), .slice A u.tl.length c, .int .i64 (blA u.tl u.ta u.d.wd)])) ∧ Sees w' w'.heap.size 1 A u.tl.length (u.tl.map (Value.int .i64)) ∧ Fresh w A ∧ Below w.heap.size w w') := by
  have B1 : boxOf (w.alloc (.cells (tcs u a).toArray 38)) w.heap.size = some (tcs u a) := by simp [go_sem]
  have hs : w.heap.size < (w.alloc (.cells (tcs u a).toArray 38)).heap.size := by simp
  have hB : Below w.heap.size w (w.alloc (.cells (tcs u a).toArray 38)) := belowN w _
  have KO := fun W => hide (open_any u.d.it u.d.ly hi hl W)
  have KL := fun W => hide (line_tn u.c o.c u.tt o.tt W)
  rw [show opV u.d.it u.d.ly = opW u from rfl] at KO
  obtain ⟨ov, hov⟩ : ∃ x, opW u = x := ⟨_, rfl⟩
  obtain ⟨lv, hlv⟩ : ∃ x, lnV u.c u.tt = x := ⟨_, rfl⟩
  rw [hov] at KO
  rw [hlv] at KL
  have h1 := h.later hB
  have iwd : I64 u.d.wd := o.f.n _ (by simp [Dt.nums])
  have KB := fun W hs => hide (below_any a.tA a.tc u.tl u.ta u.d.wd W (by have := o.t; omega) hs hta iwd)
  have KS := fun W => hide (slot_tn u.c o.c u.d.it o.iit u.d.ly (o.f.n _ (by simp [Dt.nums])) (drV u) (dr_i64 u o) W)
  have KN := hide (fun W => number_tn u a ht W)
  rw [show slV u.c u.d.it u.d.ly (drV u) = swP u from rfl] at KS
  rw [show blD u.tl u.ta u.d.wd = drV u from rfl] at KB
  obtain ⟨dv, hdv⟩ : ∃ x, drV u = x := ⟨_, rfl⟩
  obtain ⟨sv, hsv⟩ : ∃ x, swP u = x := ⟨_, rfl⟩
  obtain ⟨av, hav⟩ : ∃ x, blA u.tl u.ta u.d.wd = x := ⟨_, rfl⟩
  rw [hdv] at KB KS
  rw [hsv] at KS
  rw [hav] at KB
  rw [hsv, hav]
  obtain ⟨t1, ht1⟩ : ∃ x, u.tt + 1 = x := ⟨_, rfl⟩
  rw [ht1] at KN ⊢
  clear ht1
  clear hov hlv hdv hsv hav iwd hta
  clear hi hl
  go_enter Try.func25, Try.ntmps25
  go_wp2_with fail
  generalize (w.alloc (.cells (tcs u a).toArray 38)) = wz at *
  refine (KO _).out.mono ?_
  rintro e w1 ⟨rfl, hb1⟩
  replace B1 := boxOf_keep B1 hb1
  replace hs := Nat.lt_of_lt_of_le hs hb1.size
  replace hB := below_next hB hB.size hb1
  clear hb1
  go_wp2_with fail
  refine (KL _).out.mono ?_
  rintro e w2 ⟨rfl, hb1⟩
  replace B1 := boxOf_keep B1 hb1
  replace hs := Nat.lt_of_lt_of_le hs hb1.size
  replace hB := below_next hB hB.size hb1
  clear hb1
  clear KO KL
  have h2 := (h.later hB).tp
  go_wp2_with fail
  refine (KB _ h2).out.mono ?_
  rintro e w3 ⟨A, c, rfl, sT, fT, hb1⟩
  have fT' : Fresh w A := fT.before (by have := hB.size; omega)
  replace B1 := boxOf_keep B1 hb1
  replace hs := Nat.lt_of_lt_of_le hs hb1.size
  replace hB := below_next hB hB.size hb1
  clear hb1
  clear KB h2 fT
  go_wp2_with fail
  refine (KS _).out.mono ?_
  rintro e w4 ⟨rfl, hb1⟩
  have kt := (box_newk hb1).1
  replace B1 := boxOf_keep (boxOf_keep B1 (belowN _ _)) hb1
  replace sT := (sT.later (belowN _ _)).later hb1
  replace hB := below_next (hB.alloc hB.size _) (by have := hB.size; simp; omega) hb1
  clear hb1 KS hs h
  go_upto_region 12 with fail
  have RB1 := fun d os => boxOf_keep B1 (below_regrown w4 d os)
  have Rkt := fun d os => boxOf_keep kt (below_regrown w4 d os)
  have Q1 := hide (fun d os => Calls.regrown_of (w := w4) (KN.out (grow (redrawn w4 d) os)))
  clear KN
  refine wp_region_quiet_below (by kernel_rfl) (by kernel_rfl) ?_
  repeat (go_big_quiet_step (first | (go_at_call 46; exact Q1.out _ _)))
  refine wpQuiet_nil ?_
  intro _ hw'
  obtain ⟨⟨dq, osq⟩, hw''⟩ := hw'
  subst hw''
  go_wp2
  go_ret
  exact ⟨A, c, rfl, sT.later (below_regrown w4 dq osq), fT', below_next hB hB.size (below_regrown w4 dq osq)⟩
end Go.Proofs.Ytjghdbkkjhnpfaa
