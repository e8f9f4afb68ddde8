/- The document's Alike, of turns that are the same. -/
import Derived.Test.YtjghdbkkjhnpfaaGreatTn
import Derived.Test.YtjghdbkkjhnpfaaGreatShK
import Derived.Test.YtjghdbkkjhnpfaaGreatM4
import Derived.Test.YtjghdbkkjhnpfaaGreatM2
import Derived.Test.YtjghdbkkjhnpfaaGreatMk
import Derived.Lib.QuietBelow
import Derived.Deep.QuietTactic
import Derived.BigQuiet
namespace Go.Proofs.YtjghdbkkjhnpfaaGreat
open Go.RowKit Go.Sort
set_option linter.unusedVariables false
set_option linter.unusedSimpArgs false

theorem eql_cf (c : Cf) (w : World) : (binOp .eql 43 (.agg (ccs c).toArray) (.agg (ccs c).toArray)).run Tryz.prog w = .ok (.bool true) w := by
  simp [go_sem, ccs]
theorem neq_mk (a0 a1 a2 a3 a4 a5 : Int) (w : World) : (binOp .neq 155 (.agg #[.int .i64 a0, .int .i64 a1, .int .i64 a2, .int .i64 a3, .int .i64 a4, .int .i64 a5]) (.agg #[.int .i64 a0, .int .i64 a1, .int .i64 a2, .int .i64 a3, .int .i64 a4, .int .i64 a5])).run Tryz.prog w = .ok (.bool false) w := by
  simp [go_sem]
theorem rsame_tn (d : Dt) (p q : Ad) (o : DtOk d) (w : World) (ha : ThAt w d p) (hb : ThAt w d q) : Calls Tryz.prog 30 #[.agg (thc d p).toArray, .agg (thc d q).toArray] w (BoolPost true w) := rsame_yes d p q o w ha hb
theorem sameM_yes (A B A2 B2 : Option Addr) (c d c2 d2 : Nat) (ws : List Int) (bs bs2 : List Bt) (w : World) (m : MemOk w A ws B bs) (m2 : MemOk w A2 ws B2 bs2) (e : boxes bs = boxes bs2) :
    Calls Tryz.prog 29 #[.agg #[.slice A ws.length c, .slice B bs.length d], .agg #[.slice A2 ws.length c2, .slice B2 bs2.length d2]] w (BoolPost true w) := by
  have := sameM_any A B A2 B2 c d c2 d2 ws ws bs bs2 w m m2
  rwa [decide_eq_true rfl, decide_eq_true e] at this
set_option maxRecDepth 100000 in
set_option maxHeartbeats 4000000 in
theorem tape_yes (A A2 : Option Addr) (c c2 : Nat) (l : List Int) (a : Int) (hl : l.length ≤ 100000) (w : World) (h1 : Sees w w.heap.size 1 A l.length (l.map (Value.int .i64))) (h2 : Sees w w.heap.size 1 A2 l.length (l.map (Value.int .i64))) :
    Calls Tryz.prog 31 #[.agg #[.slice A l.length c, .int .i64 a], .agg #[.slice A2 l.length c2, .int .i64 a]] w (BoolPost true w) := by
  have hB : Below w.heap.size w ((w.alloc (.cells #[.slice A l.length c, .int .i64 a] 52)).alloc (.cells #[.slice A2 l.length c2, .int .i64 a] 52)) := (belowN w _).alloc (by simp) _
  have q0 : ((w.alloc (.cells #[.slice A l.length c, .int .i64 a] 52)).alloc (.cells #[.slice A2 l.length c2, .int .i64 a] 52)).cell? ⟨w.heap.size, 0, none⟩ = some (.slice A l.length c) := by simp [go_sem]
  have q1 : ((w.alloc (.cells #[.slice A l.length c, .int .i64 a] 52)).alloc (.cells #[.slice A2 l.length c2, .int .i64 a] 52)).cell? ⟨w.heap.size + 1, 0, none⟩ = some (.slice A2 l.length c2) := by simp [go_sem]
  replace h1 := h1.later hB
  replace h2 := h2.later hB
  have hne : (a != a) = false := by simp
  go_enter Tryz.func31, Tryz.ntmps31
  go_wp2
  generalize ((w.alloc (.cells #[.slice A l.length c, .int .i64 a] 52)).alloc (.cells #[.slice A2 l.length c2, .int .i64 a] 52)) = w2 at *
  go_loopw [5] (fun i wr => ∃ j : Nat, j ≤ l.length ∧ i = .int .i64 j ∧ ∃ q, wr = w2.drewN q) (fun i _ => l.length - (intOf i).toNat)
  case atStart => exact ⟨0, Nat.zero_le _, rfl, 0, rfl⟩
  case round =>
    obtain ⟨j, hj, rfl, qn, rfl⟩ := hrel
    by_cases hlt : j < l.length
    · obtain ⟨b, off, e1, hb1, d1⟩ := h1.2 (by omega)
      obtain ⟨b2, off2, e2, hb2, d2⟩ := h2.2 (by omega)
      obtain ⟨x, hx⟩ : ∃ x, l[j]? = some x := ⟨l[j], List.getElem?_eq_getElem hlt⟩
      have g1 := d1 j (.int .i64 x) (by simp [hx])
      have g2 := d2 j (.int .i64 x) (by simp [hx])
      subst e1 e2
      have j0 : (0 : Int) ≤ (j : Int) := Int.natCast_nonneg _
      have j1 : (j : Int) < (l.length : Int) := by omega
      clear d1 d2 hx h1 h2 hb1 hb2
      go_wp2_with fail
      go_quiet (fail)
      go_wp2
      go_roundw
      case rel => exact ⟨j + 1, by omega, by go_num, _, rfl⟩
      case measure => simp [intOf]; omega
    · obtain rfl : j = l.length := by omega
      go_wp2
      go_ret
      exact ⟨ret_b (by simp), below_drewN hB _⟩
set_option maxRecDepth 100000 in
set_option maxHeartbeats 4000000 in
theorem marks_yes (A A2 : Option Addr) (c c2 : Nat) (l : List M6) (hl : l.length ≤ 100000) (w : World) (h1 : Sees w w.heap.size 6 A l.length (mcells l)) (h2 : Sees w w.heap.size 6 A2 l.length (mcells l)) :
    Calls Tryz.prog 32 #[.slice A l.length c, .slice A2 l.length c2] w (BoolPost true w) := by
  have hB := Below.refl w.heap.size w
  go_enter Tryz.func32, Tryz.ntmps32
  go_wp2
  go_loopw [5] (fun i wr => ∃ j : Nat, j ≤ l.length ∧ i = .int .i64 j ∧ ∃ q, wr = w.drewN q) (fun i _ => l.length - (intOf i).toNat)
  case atStart => exact ⟨0, Nat.zero_le _, rfl, 0, rfl⟩
  case round =>
    obtain ⟨j, hj, rfl, qn, rfl⟩ := hrel
    by_cases hlt : j < l.length
    · obtain ⟨b, off, a0, a1, a2, a3, a4, a5, e1, hb1, ha, c0, c1, c2, c3, c4, c5⟩ := h1.mark hlt
      obtain ⟨b2, off2, z0, z1, z2, z3, z4, z5, e2, hb2, ha2, d0, d1, d2, d3, d4, d5⟩ := h2.mark hlt
      rw [ha] at ha2
      simp only [Option.some.injEq, Prod.mk.injEq] at ha2
      obtain ⟨rfl, rfl, rfl, rfl, rfl, rfl⟩ := ha2
      subst e1 e2
      have NE := neq_mk a0 a1 a2 a3 a4 a5
      have j0 : (0 : Int) ≤ (j : Int) := Int.natCast_nonneg _
      have j1 : (j : Int) < (l.length : Int) := by omega
      clear ha h1 h2 hb1 hb2
      go_wp2_with fail
      go_quiet (fail)
      go_wp2
      go_roundw
      case rel => exact ⟨j + 1, by omega, by go_num, _, rfl⟩
      case measure => simp [intOf]; omega
    · obtain rfl : j = l.length := by omega
      go_wp2
      go_ret
      exact ⟨ret_b (by simp), below_drewN hB _⟩

attribute [local irreducible] tcs thc ccs zT
attribute [local go_sem ↓] alTn_is alRn_is
attribute [local go_sem] run_alTnf run_alTnt run_alRnf run_alRnt zT_length
attribute [local go_sem ↓] lbTn_is lbRn_is lbTh_is lbRh_is lbCf_is lbRc_is sbTn_is sbRn_is sbTh_is sbRh_is sbCf_is sbRc_is
attribute [local go_sem] run_lbTn run_lbRn run_lbTh run_lbRh run_lbCf run_lbRc run_sbTn run_sbRn run_sbTh run_sbRh run_sbCf run_sbRc
attribute [local go_sem 2000] boxOf_old'
attribute [local go_sem] boxOf_at' boxOf_free' boxOf_alloc objBox_cells objBox_cellsA boxOf_drew boxOf_setI boxOf_setsI size_sets tcs_length thc_length ccs_length tcs_one thc_one ccs_one sub_tn sub_th sub_cf sub_thAll sub_cfAll put_turn put_thread
attribute [local go_sem] tc0 tc1 tc2 tc3 tc4 tc5 tc6 tc7 tc8 tc9 tc10 tc11 tc12 tc13 tc14 tc15 tc16 tc17 tc18 tc19 tc20 tc21 tc22 tc23 tc24 tc25 tc26 tc27 tc28 tc29 tc30 tc31 tc32 tc33 tc34 tc35 tc36 hc0 hc1 hc2 hc3 hc4 hc5 hc6 hc7 hc8 hc9 hc10 hc11 hc12 hc13 hc14 hc15 hc16 kc0 kc1 kc2 kc3 kc4 kc5 kc6 kc7 kc8 kc9 kc10 kc11 tg0 tg1 tg2 tg3 tg4 tg5 tg6 tg7 tg8 tg9 tg10 tg11 tg12 tg13 tg14 tg15 tg16 tg17 tg18 tg19 tg20 tg21 tg22 tg23 tg24 tg25 tg26 tg27 tg28 tg29 tg30 tg31 tg32 tg33 tg34 tg35 tg36 hg0 hg1 hg2 hg3 hg4 hg5 hg6 hg7 hg8 hg9 hg10 hg11 hg12 hg13 hg14 hg15 hg16 kg0 kg1 kg2 kg3 kg4 kg5 kg6 kg7 kg8 kg9 kg10 kg11
attribute [local go_sem] ts12 ts13 ts14 ts16 ts17 ts18 ts19 ts20 ts21 ts22 ts23 ts24 ts25 ts26 ts27 ts28 ts29 ts30 ts31 ts32 ts33 ts34 ts35 ts36 ts15 hs0 hs1 hs2 hs3 hs7 hs8 hs9 hs10 hs11 hs12 hs13 hs14 hs15 hs16

set_option maxRecDepth 100000 in
set_option maxHeartbeats 4000000 in
theorem alike_yes (u : Tn) (a b : TA) (o : TnOk u) (w : World) (ha : TnAt w u a) (hb : TnAt w u b) : Calls Tryz.prog 10 #[.agg (tcs u a).toArray, .agg (tcs u b).toArray] w (BoolPost true w) := by
  have B1 : boxOf ((w.alloc (.cells (tcs u a).toArray 55)).alloc (.cells (tcs u b).toArray 55)) w.heap.size = some (tcs u a) := by simp [go_sem]
  have B2 : boxOf ((w.alloc (.cells (tcs u a).toArray 55)).alloc (.cells (tcs u b).toArray 55)) (w.heap.size + 1) = some (tcs u b) := by simp [go_sem]
  have hB : Below w.heap.size w ((w.alloc (.cells (tcs u a).toArray 55)).alloc (.cells (tcs u b).toArray 55)) := (belowN w _).alloc (by simp) _
  have E1 := eql_cf u.c
  go_enter Tryz.func10, Tryz.ntmps10
  go_wp2_with fail
  generalize ((w.alloc (.cells (tcs u a).toArray 55)).alloc (.cells (tcs u b).toArray 55)) = wz at *
  refine (sameM_yes a.mA a.mB b.mA b.mB a.mc a.md b.mc b.md u.ws a.bs b.bs _ (ha.m.later hB) (hb.m.later hB) (ha.bx.trans hb.bx.symm)).mono ?_
  rintro e w1 ⟨rfl, hb1⟩
  replace B1 := boxOf_keep B1 hb1
  replace B2 := boxOf_keep B2 hb1
  replace hB := below_next hB hB.size hb1
  clear hb1
  go_wp2_with fail
  refine (rsame_tn u.d a.p b.p o.d _ (ha.th.later hB) (hb.th.later hB)).mono ?_
  rintro e w2 ⟨rfl, hb1⟩
  replace B1 := boxOf_keep B1 hb1
  replace B2 := boxOf_keep B2 hb1
  replace hB := below_next hB hB.size hb1
  clear hb1
  go_wp2_with fail
  refine (tape_yes a.tA b.tA a.tc b.tc u.tl u.ta (by have := o.t; omega) _ (ha.tp.later hB) (hb.tp.later hB)).mono ?_
  rintro e w3 ⟨rfl, hb1⟩
  replace B1 := boxOf_keep B1 hb1
  replace B2 := boxOf_keep B2 hb1
  replace hB := below_next hB hB.size hb1
  clear hb1
  go_wp2_with fail
  refine (marks_yes a.lA b.lA a.lc b.lc u.ll (by have := o.l; omega) _ (ha.lg.later hB) (hb.lg.later hB)).mono ?_
  rintro e w4 ⟨rfl, hb1⟩
  replace B1 := boxOf_keep B1 hb1
  replace B2 := boxOf_keep B2 hb1
  replace hB := below_next hB hB.size hb1
  clear hb1
  go_wp2
  go_ret
  exact ⟨ret_b (by simp), hB⟩
end Go.Proofs.YtjghdbkkjhnpfaaGreat
