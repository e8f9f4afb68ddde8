/- The contract of hold. -/
import Derived.Test.YtlmlmmkichkkhaaClB
import Derived.Test.YtlmlmmkichkkhaaClA
import Derived.Test.YtlmlmmkichkkhaaM3
import Derived.Lib.QuietBelow
import Derived.Deep.QuietTactic
import Derived.BigQuiet
namespace Go.Proofs.Ytlmlmmkichkkhaa
open Go.RowKit Go.Sort
set_option linter.unusedVariables false
set_option linter.unusedSimpArgs false

/-- A turn of a thread that took its node. -/
def holdV (u : Tn) : Tn := if parV u.d.nd = 0 then overV { u with d := { u.d with hl := u.d.hl ++ [u.d.nd], nd := parV u.d.nd } } else { u with d := { u.d with hl := u.d.hl ++ [u.d.nd], nd := parV u.d.nd, ph := 4 } }
/-- A turn whose held nodes lie in a new row. -/
def HPost (u : Tn) (a : TA) (w : World) (e : Ending) (w' : World) : Prop := ∃ A c, e = .returned (.agg (tcs u { a with p := { a.p with hA := A, hc := c } }).toArray) ∧ Sees w' w'.heap.size 1 A u.d.hl.length (u.d.hl.map (Value.int .i64)) ∧ Fresh w A ∧ Below w.heap.size w w'
theorem down_hl (u : Tn) : (downV u).d.hl = u.d.hl := by unfold downV; split; rfl; split <;> rfl
theorem over_hl (u : Tn) : (overV u).d.hl = u.d.hl := by unfold overV; rw [down_hl]
theorem won_hl (u : Tn) : (wonV u).d.hl = u.d.hl := by unfold wonV; rw [over_hl]
theorem hold_hl (u : Tn) : (holdV u).d.hl = u.d.hl ++ [u.d.nd] := by unfold holdV; split; rw [over_hl]; rfl
attribute [local irreducible] tcs thc ccs zT
attribute [local go_sem ↓] alTn_is alRn_is
attribute [local go_sem] run_alTnf run_alTnt run_alRnf run_alRnt zT_length
attribute [local go_sem ↓] lbTn_is lbRn_is lbTh_is lbRh_is lbCf_is lbRc_is sbTn_is sbRn_is sbTh_is sbRh_is sbCf_is sbRc_is
attribute [local go_sem] run_lbTn run_lbRn run_lbTh run_lbRh run_lbCf run_lbRc run_sbTn run_sbRn run_sbTh run_sbRh run_sbCf run_sbRc
attribute [local go_sem 2000] boxOf_old'
attribute [local go_sem] boxOf_at' boxOf_free' boxOf_alloc objBox_cells objBox_cellsA boxOf_drew boxOf_setI boxOf_setsI size_sets tcs_length thc_length ccs_length tcs_one thc_one ccs_one sub_tn sub_th sub_cf sub_thAll sub_cfAll put_turn put_thread
attribute [local go_sem] tc0 tc1 tc2 tc3 tc4 tc5 tc6 tc7 tc8 tc9 tc10 tc11 tc12 tc13 tc14 tc15 tc16 tc17 tc18 tc19 tc20 tc21 tc22 tc23 tc24 tc25 tc26 tc27 tc28 tc29 tc30 tc31 tc32 tc33 tc34 tc35 tc36 hc0 hc1 hc2 hc3 hc4 hc5 hc6 hc7 hc8 hc9 hc10 hc11 hc12 hc13 hc14 hc15 hc16 kc0 kc1 kc2 kc3 kc4 kc5 kc6 kc7 kc8 kc9 kc10 kc11 tg0 tg1 tg2 tg3 tg4 tg5 tg6 tg7 tg8 tg9 tg10 tg11 tg12 tg13 tg14 tg15 tg16 tg17 tg18 tg19 tg20 tg21 tg22 tg23 tg24 tg25 tg26 tg27 tg28 tg29 tg30 tg31 tg32 tg33 tg34 tg35 tg36 hg0 hg1 hg2 hg3 hg4 hg5 hg6 hg7 hg8 hg9 hg10 hg11 hg12 hg13 hg14 hg15 hg16 kg0 kg1 kg2 kg3 kg4 kg5 kg6 kg7 kg8 kg9 kg10 kg11
attribute [local go_sem] ts12 ts13 ts14 ts16 ts17 ts18 ts19 ts20 ts21 ts22 ts23 ts24 ts25 ts26 ts27 ts28 ts29 ts30 ts31 ts32 ts33 ts34 ts35 ts36 ts15 hs0 hs1 hs2 hs3 hs7 hs8 hs9 hs10 hs11 hs12 hs13 hs14 hs15 hs16

set_option maxRecDepth 100000 in
set_option maxHeartbeats 4000000 in
theorem hold_any (u : Tn) (a : TA) (o : TnOk u) (w : World) (h : TnAt w u a) : Calls Try.prog 33 #[.agg (tcs u a).toArray] w (HPost (holdV u) a w) := by
  have hnd : I64 u.d.nd := o.f.n _ (by simp [Dt.nums])
  have hl20 := o.h
  have KC := hide (fun A1 c1 b W h1 h2 h3 h4 h5 => concatI_any u.d.hl [u.d.nd] a.p.hA A1 a.p.hc c1 b 2 (by simp; omega) W h1 h2 h3 h4 h5)
  rw [← List.length_append] at KC
  have KP := fun W => hide (parent_any u.d.nd hnd W)
  obtain ⟨n, hn⟩ : ∃ n, parV u.d.nd = n := ⟨_, rfl⟩
  obtain ⟨NL, hNL⟩ : ∃ N, u.d.hl ++ [u.d.nd] = N := ⟨_, rfl⟩
  rw [hNL] at KC
  rw [hn] at KP
  have HH : (n = 0 ∧ Hid (holdV u = overV ({ u with d := { u.d with hl := NL, nd := n } } : Tn))) ∨ ((n == 0) = false ∧ Hid (holdV u = ({ u with d := { u.d with hl := NL, nd := n, ph := 4 } } : Tn))) := by
    by_cases h1 : n = 0
    · exact .inl ⟨h1, hide (by rw [holdV, hn, hNL, if_pos h1])⟩
    · exact .inr ⟨beq_eq_false_iff_ne.2 h1, hide (by rw [holdV, hn, hNL, if_neg h1])⟩
  clear hn hNL
  have B1 : boxOf ((w.alloc (.cells (tcs u a).toArray 38)).alloc (.cells zT.toArray 38)) w.heap.size = some (tcs u a) := by simp [go_sem]
  have B2 : boxOf ((w.alloc (.cells (tcs u a).toArray 38)).alloc (.cells zT.toArray 38)) (w.heap.size + 1) = some zT := by simp [go_sem]
  have hs : w.heap.size + 1 < ((w.alloc (.cells (tcs u a).toArray 38)).alloc (.cells zT.toArray 38)).heap.size := by simp
  have hB : Below w.heap.size w ((w.alloc (.cells (tcs u a).toArray 38)).alloc (.cells zT.toArray 38)) := (belowN w _).alloc (by simp) _
  go_enter Try.func33, Try.ntmps33
  go_wp2_with fail
  have hz : ((w.alloc (.cells (tcs u a).toArray 38)).alloc (.cells zT.toArray 38)).heap.size = w.heap.size + 1 + 1 := by simp
  generalize ((w.alloc (.cells (tcs u a).toArray 38)).alloc (.cells zT.toArray 38)) = wz at *
  have hW : Below w.heap.size w ((wz.alloc (.cells #[.int .i64 u.d.nd] 3)).alloc (.cells #[.slice a.p.hA u.d.hl.length a.p.hc, .slice (some ⟨w.heap.size + 1 + 1, 0, none⟩) 1 1] 24)) := (hB.alloc hB.size _).alloc (by simp; have := hB.size; omega) _
  have k1 : boxOf ((wz.alloc (.cells #[.int .i64 u.d.nd] 3)).alloc (.cells #[.slice a.p.hA u.d.hl.length a.p.hc, .slice (some ⟨w.heap.size + 1 + 1, 0, none⟩) 1 1] 24)) w.heap.size = some (tcs u a) := by simp [go_sem, B1]
  have k2 : boxOf ((wz.alloc (.cells #[.int .i64 u.d.nd] 3)).alloc (.cells #[.slice a.p.hA u.d.hl.length a.p.hc, .slice (some ⟨w.heap.size + 1 + 1, 0, none⟩) 1 1] 24)) (w.heap.size + 1) = some zT := by simp [go_sem, B2]
  have k5 : boxOf ((wz.alloc (.cells #[.int .i64 u.d.nd] 3)).alloc (.cells #[.slice a.p.hA u.d.hl.length a.p.hc, .slice (some ⟨w.heap.size + 1 + 1, 0, none⟩) 1 1] 24)) (w.heap.size + 1 + 1 + 1) = some [.slice a.p.hA u.d.hl.length a.p.hc, .slice (some ⟨w.heap.size + 1 + 1, 0, none⟩) 1 1] := boxOf_newA _ _ _ _ (by simp; omega)
  have k3 : ((wz.alloc (.cells #[.int .i64 u.d.nd] 3)).alloc (.cells #[.slice a.p.hA u.d.hl.length a.p.hc, .slice (some ⟨w.heap.size + 1 + 1, 0, none⟩) 1 1] 24)).cell? ⟨w.heap.size + 1 + 1 + 1, 0, none⟩ = some (.slice a.p.hA u.d.hl.length a.p.hc) := by rw [boxOf_at _ _ _ k5]; rfl
  have k4 : ((wz.alloc (.cells #[.int .i64 u.d.nd] 3)).alloc (.cells #[.slice a.p.hA u.d.hl.length a.p.hc, .slice (some ⟨w.heap.size + 1 + 1, 0, none⟩) 1 1] 24)).cell? ⟨w.heap.size + 1 + 1 + 1, 1, none⟩ = some (.slice (some ⟨w.heap.size + 1 + 1, 0, none⟩) 1 1) := by rw [boxOf_at _ _ _ k5]; rfl
  have ks : w.heap.size + 1 < ((wz.alloc (.cells #[.int .i64 u.d.nd] 3)).alloc (.cells #[.slice a.p.hA u.d.hl.length a.p.hc, .slice (some ⟨w.heap.size + 1 + 1, 0, none⟩) 1 1] 24)).heap.size := by simp; omega
  have sx : Sees ((wz.alloc (.cells #[.int .i64 u.d.nd] 3)).alloc (.cells #[.slice a.p.hA u.d.hl.length a.p.hc, .slice (some ⟨w.heap.size + 1 + 1, 0, none⟩) 1 1] 24)) ((wz.alloc (.cells #[.int .i64 u.d.nd] 3)).alloc (.cells #[.slice a.p.hA u.d.hl.length a.p.hc, .slice (some ⟨w.heap.size + 1 + 1, 0, none⟩) 1 1] 24)).heap.size 1 (some ⟨w.heap.size + 1 + 1, 0, none⟩) 1 ([u.d.nd].map (Value.int .i64)) := ⟨rfl, fun _ => ⟨_, 0, rfl, by simp; omega, fun j v hv => by
    have : boxOf ((wz.alloc (.cells #[.int .i64 u.d.nd] 3)).alloc (.cells #[.slice a.p.hA u.d.hl.length a.p.hc, .slice (some ⟨w.heap.size + 1 + 1, 0, none⟩) 1 1] 24)) (w.heap.size + 1 + 1) = some [.int .i64 u.d.nd] := by rw [← hz]; simp [go_sem]
    rw [Nat.zero_add, boxOf_at _ _ j this]; exact hv⟩⟩
  refine (KC.out (some ⟨w.heap.size + 1 + 1, 0, none⟩) 1 (w.heap.size + 1 + 1 + 1) _ (h.th.h.later hW) sx (by simp; omega) k3 k4).mono ?_
  rintro e w2 ⟨A2, c2, rfl, hc2, s2, f2, hb2⟩
  have f3 : ∀ p, A2 = some p → w.heap.size + 1 < p.block := fun p hp => Nat.lt_of_lt_of_le (by simp; omega) (f2 p hp)
  replace B1 := boxOf_keep k1 hb2
  replace B2 := boxOf_keep k2 hb2
  replace hs := Nat.lt_of_lt_of_le ks hb2.size
  replace hB := below_next hW hW.size hb2
  clear KC hW k1 k2 k3 k4 k5 ks sx f2 hb2
  go_wp2_with fail
  have Z1 : boxOf (w2.setCell ⟨w.heap.size, 22, none⟩ (.slice A2 NL.length c2)) w.heap.size = some (tcs { u with d := { u.d with hl := NL } } ({ a with p := { a.p with hA := A2, hc := c2 } } : TA)) := by simp [go_sem, B1]
  have Z2 : boxOf (w2.setCell ⟨w.heap.size, 22, none⟩ (.slice A2 NL.length c2)) (w.heap.size + 1) = some zT := by simp [go_sem, B2]
  have zs : w.heap.size + 1 < (w2.setCell ⟨w.heap.size, 22, none⟩ (.slice A2 NL.length c2)).heap.size := by simpa using hs
  have zB : Below w.heap.size w (w2.setCell ⟨w.heap.size, 22, none⟩ (.slice A2 NL.length c2)) := hB.setCell (by simp) _
  have z2 : Sees (w2.setCell ⟨w.heap.size, 22, none⟩ (.slice A2 NL.length c2)) (w2.setCell ⟨w.heap.size, 22, none⟩ (.slice A2 NL.length c2)).heap.size 1 A2 NL.length (NL.map (Value.int .i64)) := s2.own1 _ _ _ (fun _ p hp => by have := f3 p hp; omega)
  generalize (w2.setCell ⟨w.heap.size, 22, none⟩ (.slice A2 NL.length c2)) = w3 at *
  refine (KP _).out.mono ?_
  rintro e w4 ⟨rfl, hb4⟩
  replace B1 := boxOf_keep Z1 hb4
  replace B2 := boxOf_keep Z2 hb4
  replace hs := Nat.lt_of_lt_of_le zs hb4.size
  replace hB := below_next zB zB.size hb4
  replace s2 := z2.later hb4
  clear KP Z1 Z2 zs zB z2 hb4
  rcases HH with ⟨h1, H⟩ | ⟨h1, H⟩
  · subst h1
    go_wp2_with fail
    refine (end_any _ _ _).mono ?_
    rintro e w5 ⟨rfl, hb5⟩
    have B2n := boxOf_keep (g := w.heap.size + 1) (cs := zT) (by simp [go_sem, B2]) hb5
    have hBm : Below w.heap.size w (w4.setCell ⟨w.heap.size, 24, none⟩ (.int .i64 0)) := hB.setCell (by simp) _
    replace s2 := (show Sees (w4.setCell ⟨w.heap.size, 24, none⟩ (.int .i64 0)) (w4.setCell ⟨w.heap.size, 24, none⟩ (.int .i64 0)).heap.size 1 A2 NL.length (NL.map (Value.int .i64)) from s2.own1 _ _ _ (fun _ p hp => by have := f3 p hp; omega)).later hb5
    replace hB := below_next hBm hBm.size hb5
    have HV : (overV ({ u with d := { u.d with hl := NL, nd := 0 } } : Tn)).d.hl = NL := by rw [over_hl]
    obtain ⟨v, hv⟩ : ∃ v, overV ({ u with d := { u.d with hl := NL, nd := 0 } } : Tn) = v := ⟨_, rfl⟩
    rw [hv] at H HV ⊢
    have HV' := hide HV
    clear hb5 hv B1 B2 hBm HV
    go_wp2
    have hBf : Below w.heap.size w (w5.setCells (w.heap.size + 1) 0 (tcs v ({ a with p := { a.p with hA := A2, hc := c2 } } : TA))) := by repeat first | exact hB | refine below_sets _ (by omega) _ _ _ _ ?_ | refine Below.setCell ?_ (by first | omega | (simp; omega) | simp) _ | refine Below.alloc ?_ (by first | omega | (simp; omega) | simp) _
    refine bodyPost_ret (v := .agg (tcs v ({ a with p := { a.p with hA := A2, hc := c2 } } : TA)).toArray) (results_box Try.results33 _ _ (w.heap.size + 1) _ _ rfl (by simp [go_sem, B2n]) Try.underlying38 rfl (by kernel_rfl)) rfl ?_
    rw [H.out]
    exact ⟨A2, c2, rfl, by rw [HV'.out]; exact s2.setsC _ (fun _ p hp => by have := f3 p hp; omega) _ _, fun p hp => by have := f3 p hp; omega, hBf⟩
  · have WE : ∀ W', Below w.heap.size w W' → Sees W' W'.heap.size 1 A2 NL.length (NL.map (Value.int .i64)) → HPost ({ u with d := { u.d with hl := NL, nd := n, ph := 4 } } : Tn) a w (.returned (.agg (tcs ({ u with d := { u.d with hl := NL, nd := n, ph := 4 } } : Tn) ({ a with p := { a.p with hA := A2, hc := c2 } } : TA)).toArray)) W' := fun W' hBf sW => ⟨A2, c2, rfl, sW, fun p hp => by have := f3 p hp; omega, hBf⟩
    go_wp2
    refine bodyPost_ret (v := .agg (tcs ({ u with d := { u.d with hl := NL, nd := n, ph := 4 } } : Tn) ({ a with p := { a.p with hA := A2, hc := c2 } } : TA)).toArray) (results_box Try.results33 _ _ (w.heap.size + 1) _ _ rfl (by simp [go_sem, B1, B2]) Try.underlying38 rfl (by kernel_rfl)) rfl ?_
    rw [H.out]
    exact WE _ (by repeat first | exact hB | refine below_sets _ (by omega) _ _ _ _ ?_ | refine Below.setCell ?_ (by first | omega | (simp; omega) | simp) _ | refine Below.alloc ?_ (by first | omega | (simp; omega) | simp) _) (((s2.own1 _ _ _ (fun _ p hp => by have := f3 p hp; omega)).own1 _ _ _ (fun _ p hp => by have := f3 p hp; omega)).setsC _ (fun _ p hp => by have := f3 p hp; omega) _ _)
end Go.Proofs.Ytlmlmmkichkkhaa
