/- The contract of the step of layer 13. -/
import Derived.Test.YtlmlmmkichkkhaaClD
import Derived.Test.YtlmlmmkichkkhaaClC
import Derived.Test.YtlmlmmkichkkhaaClA
import Derived.Test.YtlmlmmkichkkhaaM6
import Derived.Lib.QuietBelow
import Derived.Deep.QuietTactic
import Derived.BigQuiet
namespace Go.Proofs.Ytlmlmmkichkkhaa
open Go.RowKit Go.Sort
set_option linter.unusedVariables false
set_option linter.unusedSimpArgs false

attribute [local irreducible] tcs thc ccs zT
attribute [local go_sem ↓] alTn_is alRn_is
attribute [local go_sem] run_alTnf run_alTnt run_alRnf run_alRnt zT_length
attribute [local go_sem ↓] lbTn_is lbRn_is lbTh_is lbRh_is lbCf_is lbRc_is sbTn_is sbRn_is sbTh_is sbRh_is sbCf_is sbRc_is
attribute [local go_sem] run_lbTn run_lbRn run_lbTh run_lbRh run_lbCf run_lbRc run_sbTn run_sbRn run_sbTh run_sbRh run_sbCf run_sbRc
attribute [local go_sem 2000] boxOf_old'
attribute [local go_sem] boxOf_at' boxOf_free' boxOf_alloc objBox_cells objBox_cellsA boxOf_drew boxOf_setI boxOf_setsI size_sets tcs_length thc_length ccs_length tcs_one thc_one ccs_one sub_tn sub_th sub_cf sub_thAll sub_cfAll put_turn put_thread
attribute [local go_sem] tc0 tc1 tc2 tc3 tc4 tc5 tc6 tc7 tc8 tc9 tc10 tc11 tc12 tc13 tc14 tc15 tc16 tc17 tc18 tc19 tc20 tc21 tc22 tc23 tc24 tc25 tc26 tc27 tc28 tc29 tc30 tc31 tc32 tc33 tc34 tc35 tc36 hc0 hc1 hc2 hc3 hc4 hc5 hc6 hc7 hc8 hc9 hc10 hc11 hc12 hc13 hc14 hc15 hc16 kc0 kc1 kc2 kc3 kc4 kc5 kc6 kc7 kc8 kc9 kc10 kc11 tg0 tg1 tg2 tg3 tg4 tg5 tg6 tg7 tg8 tg9 tg10 tg11 tg12 tg13 tg14 tg15 tg16 tg17 tg18 tg19 tg20 tg21 tg22 tg23 tg24 tg25 tg26 tg27 tg28 tg29 tg30 tg31 tg32 tg33 tg34 tg35 tg36 hg0 hg1 hg2 hg3 hg4 hg5 hg6 hg7 hg8 hg9 hg10 hg11 hg12 hg13 hg14 hg15 hg16 kg0 kg1 kg2 kg3 kg4 kg5 kg6 kg7 kg8 kg9 kg10 kg11
attribute [local go_sem] ts12 ts13 ts14 ts16 ts17 ts18 ts19 ts20 ts21 ts22 ts23 ts24 ts25 ts26 ts27 ts28 ts29 ts30 ts31 ts32 ts33 ts34 ts35 ts36 ts15 hs0 hs1 hs2 hs3 hs7 hs8 hs9 hs10 hs11 hs12 hs13 hs14 hs15 hs16

def stepK (u : Tn) : Tn := if u.d.ph = 4 then lookK u else if u.d.ph = 5 then clmV holdV u 0 (frV 1 u.tt) else if u.d.ph = 6 then clmV wonV u u.d.x (frV 2 u.tt) else u
def isK (u : Tn) : Bool := u.d.ph == 4 || u.d.ph == 5 || u.d.ph == 6
def KSPost (u : Tn) (q : Bool) (n : Nat) (a : TA) (w : World) (e : Ending) (w' : World) : Prop := ∃ A c H l, e = .returned (.tuple #[.agg (tcs u ({ a with mA := A, mc := c, p := { a.p with hA := H, hc := l } } : TA)).toArray, .bool q]) ∧ Sees w' w'.heap.size 1 A u.ws.length (u.ws.map (Value.int .i64)) ∧ (A = a.mA ∨ Fresh w A) ∧ Sees w' w'.heap.size 1 H u.d.hl.length (u.d.hl.map (Value.int .i64)) ∧ ((H = a.p.hA ∧ u.d.hl.length = n) ∨ Fresh w H) ∧ Below w.heap.size w w'
theorem lookk_ws (u : Tn) : (lookK u).ws = u.ws := by
  unfold lookK; repeat (first | rfl | exact over_ws u | split)
theorem lookk_hl (u : Tn) : (lookK u).d.hl = u.d.hl := by
  unfold lookK; repeat (first | rfl | exact over_hl u | split)
theorem fr_i64 {k t : Int} (hk : 0 ≤ k ∧ k ≤ 5) (ht : 0 ≤ t ∧ t ≤ 15) : I64 (frV k t) := by unfold frV I64; omega
set_option maxRecDepth 100000 in
set_option maxHeartbeats 4000000 in
theorem kstep_any (u : Tn) (a : TA) (o : TnOk u) (ht : 0 ≤ u.tt ∧ u.tt ≤ 15) (w : World) (h : TnAt w u a) : Calls Try.prog 12 #[.agg (tcs u a).toArray] w (KSPost (stepK u) (isK u) u.d.hl.length a w) := by
  have hc : ((u.d.ph == 4) = true ∧ Hid (stepK u = lookK u ∧ isK u = true)) ∨ ((u.d.ph == 4) = false ∧ (u.d.ph == 5) = true ∧ Hid (stepK u = clmV holdV u 0 (frV 1 u.tt) ∧ isK u = true)) ∨ ((u.d.ph == 4) = false ∧ (u.d.ph == 5) = false ∧ (u.d.ph == 6) = true ∧ Hid (stepK u = clmV wonV u u.d.x (frV 2 u.tt) ∧ isK u = true)) ∨ ((u.d.ph == 4) = false ∧ (u.d.ph == 5) = false ∧ (u.d.ph == 6) = false ∧ Hid (stepK u = u ∧ isK u = false)) := by
    by_cases h1 : u.d.ph = 4
    · exact .inl ⟨by simpa using h1, hide ⟨by simp [stepK, h1], by simp [isK, h1]⟩⟩
    · by_cases h2 : u.d.ph = 5
      · exact .inr (.inl ⟨by simpa using h1, by simpa using h2, hide ⟨by simp [stepK, h2], by simp [isK, h2]⟩⟩)
      · by_cases h3 : u.d.ph = 6
        · exact .inr (.inr (.inl ⟨by simpa using h1, by simpa using h2, by simpa using h3, hide ⟨by simp [stepK, h3], by simp [isK, h3]⟩⟩))
        · exact .inr (.inr (.inr ⟨by simpa using h1, by simpa using h2, by simpa using h3, hide ⟨by simp [stepK, h1, h2, h3], by simp [isK, h1, h2, h3]⟩⟩))
  have KF := fun W => hide (first_any u.tt ht W)
  have i1 := hide (fr_i64 (k := 1) (by decide) ht)
  have i2 := hide (fr_i64 (k := 2) (by decide) ht)
  obtain ⟨f1, hf1⟩ : ∃ x, frV 1 u.tt = x := ⟨_, rfl⟩
  obtain ⟨f2, hf2⟩ : ∃ x, frV 2 u.tt = x := ⟨_, rfl⟩
  have KJ := fun W => joined_any u.tt ht W
  rw [hf1] at KF i1 hc
  rw [hf2] at hc i2
  rw [hf2] at KJ
  clear hf1 hf2
  have B1 : boxOf ((w.alloc (.cells (tcs u a).toArray 38)).alloc (.cells zT.toArray 38)) w.heap.size = some (tcs u a) := by simp [go_sem]
  have B2 : boxOf ((w.alloc (.cells (tcs u a).toArray 38)).alloc (.cells zT.toArray 38)) (w.heap.size + 1) = some zT := by simp [go_sem]
  have hs : w.heap.size + 1 < ((w.alloc (.cells (tcs u a).toArray 38)).alloc (.cells zT.toArray 38)).heap.size := by simp
  have hB : Below w.heap.size w ((w.alloc (.cells (tcs u a).toArray 38)).alloc (.cells zT.toArray 38)) := (belowN w _).alloc (by simp) _
  have h0 := h
  replace h := h.later hB
  go_enter Try.func12, Try.ntmps12
  go_wp2_with fail
  generalize ((w.alloc (.cells (tcs u a).toArray 38)).alloc (.cells zT.toArray 38)) = wz at *
  have Q1 := hide (fun d os => Calls.regrown_of (w := wz) (KJ (grow (redrawn wz d) os)))
  clear KJ
  have RB1 := fun d os => boxOf_keep B1 (below_regrown wz d os)
  have RB2 := fun d os => boxOf_keep B2 (below_regrown wz d os)
  refine wp_region_quiet_below (by kernel_rfl) (by kernel_rfl) ?_
  repeat (go_big_quiet_step (first | (go_at_call 26; exact Q1.out _ _)))
  refine wpQuiet_nil ?_
  intro _ hw'
  obtain ⟨⟨dq, osq⟩, hw''⟩ := hw'
  subst hw''
  replace B1 := RB1 dq osq
  clear RB1
  replace B2 := RB2 dq osq
  clear RB2
  replace h := h.later (below_regrown wz dq osq)
  replace hB := below_next hB hB.size (below_regrown wz dq osq)
  replace hs := Nat.lt_of_lt_of_le hs (below_regrown wz dq osq).size
  generalize grow (redrawn wz dq) osq = wq at *
  clear Q1
  rcases hc with ⟨h1, HV⟩ | ⟨h1, h2, HV⟩ | ⟨h1, h2, h3, HV⟩ | ⟨h1, h2, h3, HV⟩
  · go_wp2_with fail
    refine (klook_any u a o _ h).mono ?_
    rintro e w1 ⟨rfl, hb1⟩
    replace B2 := boxOf_keep B2 hb1
    have LW := hide (lookk_ws u)
    have LH := hide (lookk_hl u)
    obtain ⟨v, hv⟩ : ∃ v, lookK u = v := ⟨_, rfl⟩
    rw [hv] at LW LH HV ⊢
    replace hB := below_next hB hB.size hb1
    replace hs := Nat.lt_of_lt_of_le hs hb1.size
    clear hb1 hv
    have key : ∀ W', Below w.heap.size w W' → KSPost v true u.d.hl.length a w (.returned (.tuple #[.agg (tcs v a).toArray, .bool true])) W' := fun W' hBf => ⟨a.mA, a.mc, a.p.hA, a.p.hc, rfl, by rw [LW.out]; exact h0.m.words.later hBf, .inl rfl, by rw [LH.out]; exact h0.th.h.later hBf, .inl ⟨rfl, by rw [LH.out]⟩, hBf⟩
    go_wp2
    refine bodyPost_ret (v := .tuple #[.agg (tcs v a).toArray, .bool true]) (results_box2 Try.results12 _ _ (w.heap.size + 1) _ _ _ rfl rfl (by simp [go_sem, B2]) Try.underlying38 rfl (by kernel_rfl)) rfl ?_
    rw [HV.out.1, HV.out.2]
    exact key _ (by repeat first | exact hB | refine below_sets _ (by omega) _ _ _ _ ?_ | refine Below.setCell ?_ (by first | omega | (simp; omega) | simp) _ | refine Below.alloc ?_ (by first | omega | (simp; omega) | simp) _)
  · go_wp2_with fail
    refine (KF _).out.mono ?_
    rintro e wf ⟨rfl, hbf⟩
    replace B1 := boxOf_keep B1 hbf
    replace B2 := boxOf_keep B2 hbf
    replace hs := Nat.lt_of_lt_of_le hs hbf.size
    replace hB := below_next hB hB.size hbf
    replace h := h.later hbf
    clear hbf KF
    go_wp2_with fail
    refine (claim_hold u a o 0 f1 i1.out _ h).mono ?_
    rintro e w1 ⟨A, c, H, l, rfl, sA, hA, sH, hH, hb1⟩
    replace B2 := boxOf_keep B2 hb1
    have LEN := hide (clm_len holdV hold_ws u 0 f1)
    obtain ⟨v, hv⟩ : ∃ v, clmV holdV u 0 f1 = v := ⟨_, rfl⟩
    rw [hv] at sA sH hH LEN HV ⊢
    have fA : 0 < v.ws.length → ∀ p, A = some p → p.block ≠ w.heap.size + 1 := fun hn p hp => by
      rcases hA with e | f
      · have := h0.m.words.block_lt (by rw [LEN.out] at hn; exact hn) p (e ▸ hp); omega
      · have := f p hp; omega
    have fH : 0 < v.d.hl.length → ∀ p, H = some p → p.block ≠ w.heap.size + 1 := fun hn p hp => by
      rcases hH with e | f
      · have := h0.th.h.block_lt (by rw [e.2] at hn; exact hn) p (e.1 ▸ hp); omega
      · have := f p hp; omega
    have gA : A = a.mA ∨ Fresh w A := hA.imp_right (fun f p hp => Nat.le_trans hB.size (f p hp))
    have gH : (H = a.p.hA ∧ v.d.hl.length = u.d.hl.length) ∨ Fresh w H := hH.imp_right (fun f p hp => Nat.le_trans hB.size (f p hp))
    replace hB := below_next hB hB.size hb1
    replace hs := Nat.lt_of_lt_of_le hs hb1.size
    clear hb1 hv hA hH
    go_wp2
    have hBf : Below w.heap.size w (w1.setCells (w.heap.size + 1) 0 (tcs v ({ a with mA := A, mc := c, p := { a.p with hA := H, hc := l } } : TA))) := by repeat first | exact hB | refine below_sets _ (by omega) _ _ _ _ ?_ | refine Below.setCell ?_ (by first | omega | (simp; omega) | simp) _ | refine Below.alloc ?_ (by first | omega | (simp; omega) | simp) _
    refine bodyPost_ret (v := .tuple #[.agg (tcs v ({ a with mA := A, mc := c, p := { a.p with hA := H, hc := l } } : TA)).toArray, .bool true]) (results_box2 Try.results12 _ _ (w.heap.size + 1) _ _ _ rfl rfl (by simp [go_sem, B2]) Try.underlying38 rfl (by kernel_rfl)) rfl (by rw [HV.out.1, HV.out.2]; exact ⟨A, c, H, l, rfl, sA.setsC _ fA _ _, gA, sH.setsC _ fH _ _, gH, hBf⟩)
  · go_wp2_with fail
    refine (claim_won u a o u.d.x f2 i2.out _ h).mono ?_
    rintro e w1 ⟨A, c, H, l, rfl, sA, hA, sH, hH, hb1⟩
    replace B2 := boxOf_keep B2 hb1
    have LEN := hide (clm_len wonV won_ws u u.d.x f2)
    obtain ⟨v, hv⟩ : ∃ v, clmV wonV u u.d.x f2 = v := ⟨_, rfl⟩
    rw [hv] at sA sH hH LEN HV ⊢
    have fA : 0 < v.ws.length → ∀ p, A = some p → p.block ≠ w.heap.size + 1 := fun hn p hp => by
      rcases hA with e | f
      · have := h0.m.words.block_lt (by rw [LEN.out] at hn; exact hn) p (e ▸ hp); omega
      · have := f p hp; omega
    have fH : 0 < v.d.hl.length → ∀ p, H = some p → p.block ≠ w.heap.size + 1 := fun hn p hp => by
      rcases hH with e | f
      · have := h0.th.h.block_lt (by rw [e.2] at hn; exact hn) p (e.1 ▸ hp); omega
      · have := f p hp; omega
    have gA : A = a.mA ∨ Fresh w A := hA.imp_right (fun f p hp => Nat.le_trans hB.size (f p hp))
    have gH : (H = a.p.hA ∧ v.d.hl.length = u.d.hl.length) ∨ Fresh w H := hH.imp_right (fun f p hp => Nat.le_trans hB.size (f p hp))
    replace hB := below_next hB hB.size hb1
    replace hs := Nat.lt_of_lt_of_le hs hb1.size
    clear hb1 hv hA hH
    go_wp2
    have hBf : Below w.heap.size w (w1.setCells (w.heap.size + 1) 0 (tcs v ({ a with mA := A, mc := c, p := { a.p with hA := H, hc := l } } : TA))) := by repeat first | exact hB | refine below_sets _ (by omega) _ _ _ _ ?_ | refine Below.setCell ?_ (by first | omega | (simp; omega) | simp) _ | refine Below.alloc ?_ (by first | omega | (simp; omega) | simp) _
    refine bodyPost_ret (v := .tuple #[.agg (tcs v ({ a with mA := A, mc := c, p := { a.p with hA := H, hc := l } } : TA)).toArray, .bool true]) (results_box2 Try.results12 _ _ (w.heap.size + 1) _ _ _ rfl rfl (by simp [go_sem, B2]) Try.underlying38 rfl (by kernel_rfl)) rfl (by rw [HV.out.1, HV.out.2]; exact ⟨A, c, H, l, rfl, sA.setsC _ fA _ _, gA, sH.setsC _ fH _ _, gH, hBf⟩)
  · have key : ∀ W', Below w.heap.size w W' → KSPost u false u.d.hl.length a w (.returned (.tuple #[.agg (tcs u a).toArray, .bool false])) W' := fun W' hBf => ⟨a.mA, a.mc, a.p.hA, a.p.hc, rfl, h0.m.words.later hBf, .inl rfl, h0.th.h.later hBf, .inl ⟨rfl, rfl⟩, hBf⟩
    go_wp2
    refine bodyPost_ret (v := .tuple #[.agg (tcs u a).toArray, .bool false]) (results_box2 Try.results12 _ _ (w.heap.size + 1) _ _ _ rfl rfl (by simp [go_sem, B2]) Try.underlying38 rfl (by kernel_rfl)) rfl ?_
    rw [HV.out.1, HV.out.2]
    exact key _ (by repeat first | exact hB | refine below_sets _ (by omega) _ _ _ _ ?_ | refine Below.setCell ?_ (by first | omega | (simp; omega) | simp) _ | refine Below.alloc ?_ (by first | omega | (simp; omega) | simp) _)
end Go.Proofs.Ytlmlmmkichkkhaa
