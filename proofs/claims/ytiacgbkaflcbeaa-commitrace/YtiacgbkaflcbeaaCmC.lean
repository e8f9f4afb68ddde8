/- The contract of commit. -/
import Derived.Test.YtiacgbkaflcbeaaCmA
import Derived.Test.YtiacgbkaflcbeaaCmB
import Derived.Test.YtiacgbkaflcbeaaCmG
import Derived.Lib.QuietBelow
import Derived.Deep.QuietTactic
import Derived.BigQuiet
import Derived.Deep.RegionHeld3
import Derived.Deep.RegionLaw
namespace Go.Proofs.Ytiacgbkaflcbeaa
open Go.RowKit Go.Sort
set_option linter.unusedVariables false
set_option linter.unusedSimpArgs false

attribute [local irreducible] tcs thc ccs zT
attribute [local go_sem ↓] alTn_is
attribute [local go_sem] run_alTnf run_alTnt zT_length
attribute [local go_sem ↓] lbTn_is lbTh_is lbCf_is lbRc_is sbTn_is sbTh_is sbCf_is sbRc_is
attribute [local go_sem] run_lbTn run_lbTh run_lbCf run_lbRc run_sbTn run_sbTh run_sbCf run_sbRc
attribute [local go_sem 2000] boxOf_old'
attribute [local go_sem] boxOf_at' boxOf_free' boxOf_alloc objBox_cells objBox_cellsA boxOf_drew boxOf_setI boxOf_setsI size_sets tcs_length thc_length ccs_length tcs_one thc_one ccs_one sub_tn sub_th sub_cf sub_thAll sub_cfAll put_turn put_thread
attribute [local go_sem] tc0 tc1 tc2 tc3 tc4 tc5 tc6 tc7 tc8 tc9 tc10 tc11 tc12 tc13 tc14 tc15 tc16 tc17 tc18 tc19 tc20 tc21 tc22 tc23 tc24 tc25 tc26 tc27 tc28 tc29 tc30 tc31 tc32 tc33 tc34 tc35 tc36 hc0 hc1 hc2 hc3 hc4 hc5 hc6 hc7 hc8 hc9 hc10 hc11 hc12 hc13 hc14 hc15 hc16 kc0 kc1 kc2 kc3 kc4 kc5 kc6 kc7 kc8 kc9 kc10 kc11 tg0 tg1 tg2 tg3 tg4 tg5 tg6 tg7 tg8 tg9 tg10 tg11 tg12 tg13 tg14 tg15 tg16 tg17 tg18 tg19 tg20 tg21 tg22 tg23 tg24 tg25 tg26 tg27 tg28 tg29 tg30 tg31 tg32 tg33 tg34 tg35 tg36 hg0 hg1 hg2 hg3 hg4 hg5 hg6 hg7 hg8 hg9 hg10 hg11 hg12 hg13 hg14 hg15 hg16 kg0 kg1 kg2 kg3 kg4 kg5 kg6 kg7 kg8 kg9 kg10 kg11
attribute [local go_sem] ts12 ts13 ts14 ts16 ts17 ts18 ts19 ts20 ts21 ts22 ts23 ts24 ts25 ts26 ts27 ts28 ts29 ts30 ts31 ts32 ts33 ts34 ts35 ts36 ts15 hs0 hs1 hs2 hs3 hs7 hs8 hs9 hs10 hs11 hs12 hs13 hs14 hs15 hs16

/-- A turn whose batch was done to a cell of x. -/
def comV (u : Tn) (x : Int) : Tn := setlV ({ u with ll := u.ll ++ mkL u.d.bl u.d.it x u.c.x9 u.c.x10, d := { u.d with x := x, pl := 0 } } : Tn)
/-- A turn whose log lies in a new row. -/
def LPost (u : Tn) (a : TA) (w : World) (e : Ending) (w' : World) : Prop := ∃ A c, e = .returned (.agg (tcs u { a with lA := A, lc := c }).toArray) ∧ Sees w' w'.heap.size 6 A u.ll.length (mcells u.ll) ∧ Fresh w A ∧ Below w.heap.size w w'
theorem setl_ll (u : Tn) : (setlV u).ll = u.ll := by unfold setlV; split <;> rfl
set_option maxRecDepth 100000 in
set_option maxHeartbeats 4000000 in
theorem commit_any (u : Tn) (a : TA) (o : TnOk u) (x : Int) (hx : I64 x) (w : World) (h : TnAt w u a) : Calls Try.prog 34 #[.agg (tcs u a).toArray, .int .i64 x] w (LPost (comV u x) a w) := by
  have B1 : boxOf ((w.alloc (.cells (tcs u a).toArray 38)).alloc (.cells zT.toArray 38)) w.heap.size = some (tcs u a) := by simp [go_sem]
  have B2 : boxOf ((w.alloc (.cells (tcs u a).toArray 38)).alloc (.cells zT.toArray 38)) (w.heap.size + 1) = some zT := by simp [go_sem]
  have hs : w.heap.size + 1 < ((w.alloc (.cells (tcs u a).toArray 38)).alloc (.cells zT.toArray 38)).heap.size := by simp
  have hB : Below w.heap.size w ((w.alloc (.cells (tcs u a).toArray 38)).alloc (.cells zT.toArray 38)) := (belowN w _).alloc (by simp) _
  have nl := o.l
  have nb := o.b
  have KM := hide (fun W t => marks_any u a o x hx W t)
  have HL := hide (mkL_length u.d.bl u.d.it x u.c.x9 u.c.x10)
  obtain ⟨L, hL⟩ : ∃ L, mkL u.d.bl u.d.it x u.c.x9 u.c.x10 = L := ⟨_, rfl⟩
  rw [hL] at KM HL
  have nL : L.length ≤ 20 := by have := HL.out; omega
  have KC := hide (fun A1 c1 b W h1 h2 h3 h4 h5 => concat_any u.ll L a.lA A1 a.lc c1 b 2 (by omega) W h1 h2 h3 h4 h5)
  rw [← List.length_append] at KC
  obtain ⟨NL, hNL⟩ : ∃ N, u.ll ++ L = N := ⟨_, rfl⟩
  rw [hNL] at KC
  have HC : Hid (comV u x = setlV ({ u with ll := NL, d := { u.d with x := x, pl := 0 } } : Tn)) := hide (by rw [comV, hL, hNL])
  clear hL hNL
  rw [← HL.out] at KM
  clear nb
  go_enter Try.func34, Try.ntmps34
  go_wp2_with fail
  generalize ((w.alloc (.cells (tcs u a).toArray 38)).alloc (.cells zT.toArray 38)) = wz at *
  go_region_law (first
    | (go_simp; go_at_call 46; refine (KM.out _ (h.later (by first | exact hB | exact hB.drew))).mono ?_; rintro e w1 ⟨A1, c1, rfl, hc1, s1, f1, hb1⟩; replace B1 := boxOf_keep (w := wz.drew) B1 hb1; replace B2 := boxOf_keep (w := wz.drew) B2 hb1; replace hs : w.heap.size + 1 < w1.heap.size := Nat.lt_of_lt_of_le hs hb1.size; replace hB : Below w.heap.size w w1 := below_next hB.drew hB.size hb1; clear hb1)
    | (go_simp; go_at_call 45; refine (KC.out A1 c1 w1.heap.size _ (h.lg.later (hB.alloc hB.size _)) (s1.later (belowN w1 _)) (by simp) (by simp [go_sem]) (by simp [go_sem])).mono ?_; rintro e w2 ⟨A2, c2, rfl, hc2, s2, f2, hb2⟩; have f3 : ∀ p, A2 = some p → w.heap.size + 1 < p.block := fun p hp => Nat.lt_of_lt_of_le (by simp; omega) (f2 p hp); replace B1 := boxOf_keep (boxOf_keep B1 (belowN w1 _)) hb2; replace B2 := boxOf_keep (boxOf_keep B2 (belowN w1 _)) hb2; replace hB : Below w.heap.size w w2 := below_next (hB.alloc hB.size _) (by simp; have := hB.size; omega) hb2; replace hs : w.heap.size + 1 < w2.heap.size := Nat.lt_of_lt_of_le hs (Nat.le_trans (by simp) hb2.size); clear hb2 f2 f1 s1))
  all_goals
    go_wp2_with fail
    have hBf : Below w.heap.size w (((w2.setCell ⟨w.heap.size, 35, none⟩ (.slice A2 NL.length c2)).setCell ⟨w.heap.size, 30, none⟩ (.int .i64 x)).setCell ⟨w.heap.size, 25, none⟩ (.int .i64 0)) := by repeat first | exact hB | refine below_sets _ (by omega) _ _ _ _ ?_ | refine Below.setCell ?_ (by first | omega | (simp; omega) | simp) _ | refine Below.alloc ?_ (by first | omega | (simp; omega) | simp) _
    have sf : Sees (((w2.setCell ⟨w.heap.size, 35, none⟩ (.slice A2 NL.length c2)).setCell ⟨w.heap.size, 30, none⟩ (.int .i64 x)).setCell ⟨w.heap.size, 25, none⟩ (.int .i64 0)) (((w2.setCell ⟨w.heap.size, 35, none⟩ (.slice A2 NL.length c2)).setCell ⟨w.heap.size, 30, none⟩ (.int .i64 x)).setCell ⟨w.heap.size, 25, none⟩ (.int .i64 0)).heap.size 6 A2 NL.length (mcells NL) := by
      have e := fun p hp => Nat.ne_of_gt (Nat.lt_trans (Nat.lt_succ_self _) (f3 p hp))
      simpa using ((s2.far w.heap.size 35 (.slice A2 NL.length c2) e).far w.heap.size 30 (.int .i64 x) e).far w.heap.size 25 (.int .i64 0) e
    have hT := h.later hBf
    refine (settle_any ({ u with ll := NL, d := { u.d with x := x, pl := 0 } } : Tn) ({ a with lA := A2, lc := c2 } : TA) _ ⟨hT.m, hT.bx, ⟨hT.th.b, hT.th.k, hT.th.h⟩, hT.tp, sf⟩).mono ?_
    rintro e w3 ⟨rfl, hb3⟩
    have B2n := boxOf_keep (g := w.heap.size + 1) (cs := zT) (by simp [go_sem, B1, B2]) hb3
    replace hB : Below w.heap.size w w3 := below_next hBf (by simp; omega) hb3
    have hs3 : w.heap.size + 1 < w3.heap.size := Nat.lt_of_lt_of_le (by simpa using hs) hb3.size
    have sg := sf.later hb3
    have HLL := hide (setl_ll ({ u with ll := NL, d := { u.d with x := x, pl := 0 } } : Tn))
    obtain ⟨v, hv⟩ : ∃ v, setlV ({ u with ll := NL, d := { u.d with x := x, pl := 0 } } : Tn) = v := ⟨_, rfl⟩
    rw [hv] at HC HLL ⊢
    clear hb3 hBf sf hT B1 B2 hv s2
    go_wp2
    have hBf : Below w.heap.size w (w3.setCells (w.heap.size + 1) 0 (tcs v ({ a with lA := A2, lc := c2 } : TA))) := by repeat first | exact hB | refine below_sets _ (by omega) _ _ _ _ ?_ | refine Below.setCell ?_ (by first | omega | (simp; omega) | simp) _ | refine Below.alloc ?_ (by first | omega | (simp; omega) | simp) _
    refine bodyPost_ret (v := .agg (tcs v ({ a with lA := A2, lc := c2 } : TA)).toArray) (results_box Try.results34 _ _ (w.heap.size + 1) _ _ rfl (by simp [go_sem, B2n]) Try.underlying38 rfl (by kernel_rfl)) rfl ?_
    rw [HC.out]
    refine ⟨A2, c2, rfl, ?_, fun p hp => by have := f3 p hp; omega, hBf⟩
    rw [HLL.out]
    exact sg.setsC _ (fun _ p hp => by have := f3 p hp; omega) _ _
end Go.Proofs.Ytiacgbkaflcbeaa
