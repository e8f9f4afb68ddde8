/- The document's Step, of whatever turn. -/
import Derived.Test.YtnmffjlfdnebnaaShR15
import Derived.Test.YtnmffjlfdnebnaaShR16
import Derived.Lib.QuietBelow
import Derived.Deep.QuietTactic
import Derived.BigQuiet
namespace Go.Proofs.Ytnmffjlfdnebnaa
open Go.RowKit Go.Sort
set_option linter.unusedVariables false
set_option linter.unusedSimpArgs false

attribute [local irreducible] tcs thc ccs zT
attribute [local go_sem ↓] alTn_is alRn_is alMo_is
attribute [local go_sem] run_alTnf run_alTnt run_alRnf run_alRnt run_alMof run_alMot zT_length
attribute [local go_sem ↓] lbTn_is lbRn_is lbMo_is lbTh_is lbRh_is lbCf_is lbRc_is sbTn_is sbRn_is sbMo_is sbTh_is sbRh_is sbCf_is sbRc_is
attribute [local go_sem] run_lbTn run_lbRn run_lbMo run_lbTh run_lbRh run_lbCf run_lbRc run_sbTn run_sbRn run_sbMo run_sbTh run_sbRh run_sbCf run_sbRc
attribute [local go_sem 2000] boxOf_old'
attribute [local go_sem] boxOf_at' boxOf_free' boxOf_alloc objBox_cells objBox_cellsA boxOf_drew boxOf_setI boxOf_setsI size_sets tcs_length thc_length ccs_length tcs_one thc_one ccs_one sub_tn sub_th sub_cf sub_thAll sub_cfAll put_turn put_thread
attribute [local go_sem] tc0 tc1 tc2 tc3 tc4 tc5 tc6 tc7 tc8 tc9 tc10 tc11 tc12 tc13 tc14 tc15 tc16 tc17 tc18 tc19 tc20 tc21 tc22 tc23 tc24 tc25 tc26 tc27 tc28 tc29 tc30 tc31 tc32 tc33 tc34 tc35 tc36 hc0 hc1 hc2 hc3 hc4 hc5 hc6 hc7 hc8 hc9 hc10 hc11 hc12 hc13 hc14 hc15 hc16 kc0 kc1 kc2 kc3 kc4 kc5 kc6 kc7 kc8 kc9 kc10 kc11 tg0 tg1 tg2 tg3 tg4 tg5 tg6 tg7 tg8 tg9 tg10 tg11 tg12 tg13 tg14 tg15 tg16 tg17 tg18 tg19 tg20 tg21 tg22 tg23 tg24 tg25 tg26 tg27 tg28 tg29 tg30 tg31 tg32 tg33 tg34 tg35 tg36 hg0 hg1 hg2 hg3 hg4 hg5 hg6 hg7 hg8 hg9 hg10 hg11 hg12 hg13 hg14 hg15 hg16 kg0 kg1 kg2 kg3 kg4 kg5 kg6 kg7 kg8 kg9 kg10 kg11
attribute [local go_sem] ts12 ts13 ts14 ts16 ts17 ts18 ts19 ts20 ts21 ts22 ts23 ts24 ts25 ts26 ts27 ts28 ts29 ts30 ts31 ts32 ts33 ts34 ts35 ts36 ts15 hs0 hs1 hs2 hs3 hs7 hs8 hs9 hs10 hs11 hs12 hs13 hs14 hs15 hs16

set_option maxRecDepth 100000 in
set_option maxHeartbeats 4000000 in
theorem rstep_15 (u : Tn) (a : TA) (o : TnOk u) (w : World) (h : TnAt w u a) (hph : u.d.ph = 15) : Calls Try.prog 12 #[.agg (tcs u a).toArray] w (StepPost (shrV u) true a w) := by
  obtain ⟨B1, B2, hs, hB⟩ := ent_rf w u a
  have HL := hide (h.m.words.block_lt)
  have HW : Hid ((shrV u).ws.length = u.ws.length) := hide (like_shr u).wl
  have h0 := h
  by_cases hkb : kidB u.d = true
  · have hk : 0 ≤ u.d.pl ∧ u.d.pl < (u.d.kl.length : Int) := by simpa [kidB, inR] using hkb
    have K := hide (fun W (ht : TnAt W u a) => rtold_15 u a o W ht hkb hph)
    obtain ⟨k0, k1⟩ := hk
    have k2 : ¬ u.d.pl < 0 := by omega
    have k3 : ¬ (u.d.kl.length : Int) ≤ u.d.pl := by omega
    obtain ⟨vv, hvv⟩ : ∃ x, shrV u = x := ⟨_, rfl⟩
    rw [hvv] at K HW
    rw [hvv]
    clear hvv hkb
    go_enter Try.func12, Try.ntmps12
    go_wp2_with fail
    generalize ((w.alloc (.cells (tcs u a).toArray 55)).alloc (.cells zT.toArray 55)) = wz at *
    refine (K.out _ (h0.later hB)).mono ?_
    rintro e w2 ⟨A, c, rfl, hsA, hor, hb2⟩
    replace B1 := boxOf_keep B1 hb2
    replace B2 := boxOf_keep B2 hb2
    have hB1 := hB.size
    replace hB := below_next hB hB.size hb2
    have hf : 0 < vv.ws.length → ∀ p, A = some p → p.block ≠ w.heap.size + 1 := fun hn p hp => by
      rcases hor with e | f
      · have := HL.out (by rw [← HW.out]; exact hn) p (e ▸ hp); omega
      · have := f p hp; omega
    have hoo : A = a.mA ∨ Fresh w A := hor.imp_right (fun f p hp => by have := f p hp; omega)
    replace hs := Nat.lt_of_lt_of_le hs hb2.size
    clear hb2 K hor
    go_wp2
    have hBf : Below w.heap.size w (w2.setCells (w.heap.size + 1) 0 (tcs vv { a with mA := A, mc := c })) := by repeat first | exact hB | refine below_sets _ (by omega) _ _ _ _ ?_ | refine Below.setCell ?_ (by first | omega | (simp; omega) | simp) _ | refine Below.alloc ?_ (by first | omega | (simp; omega) | simp) _
    refine bodyPost_ret (v := .tuple #[.agg (tcs vv { a with mA := A, mc := c }).toArray, .bool true]) (results_box2 Try.results12 _ _ (w.heap.size + 1) _ _ _ rfl rfl (by simp [go_sem, B1, B2]) Try.underlying55 rfl (by kernel_rfl)) rfl ?_
    exact ⟨A, c, rfl, hsA.setCells2 _ hf _ _, hoo, hBf⟩
  · have H : Hid (shrV u = u) := hide (by rw [shrV, if_neg (fun e => hkb e.1)])
    have hk : ¬ (0 ≤ u.d.pl ∧ u.d.pl < (u.d.kl.length : Int)) := by simpa [kidB, inR] using hkb
    clear hkb
    go_enter Try.func12, Try.ntmps12
    by_cases k0 : u.d.pl < 0
    · go_wp2_with fail
      generalize ((w.alloc (.cells (tcs u a).toArray 55)).alloc (.cells zT.toArray 55)) = wz at *
      have hBf : Below w.heap.size w (wz.setCells (w.heap.size + 1) 0 (tcs u a)) := by repeat first | exact hB | refine below_sets _ (by omega) _ _ _ _ ?_ | refine Below.setCell ?_ (by first | omega | (simp; omega) | simp) _ | refine Below.alloc ?_ (by first | omega | (simp; omega) | simp) _
      refine bodyPost_ret (v := .tuple #[.agg (tcs u a).toArray, .bool true]) (results_box2 Try.results12 _ _ (w.heap.size + 1) _ _ _ rfl rfl (by simp [go_sem, B1, B2]) Try.underlying55 rfl (by kernel_rfl)) rfl (by rw [H.out]; exact ⟨a.mA, a.mc, rfl, h0.m.words.later hBf, .inl rfl, hBf⟩)
    · have k1 : (u.d.kl.length : Int) ≤ u.d.pl := by omega
      clear hk
      go_wp2_with fail
      generalize ((w.alloc (.cells (tcs u a).toArray 55)).alloc (.cells zT.toArray 55)) = wz at *
      have hBf : Below w.heap.size w (wz.setCells (w.heap.size + 1) 0 (tcs u a)) := by repeat first | exact hB | refine below_sets _ (by omega) _ _ _ _ ?_ | refine Below.setCell ?_ (by first | omega | (simp; omega) | simp) _ | refine Below.alloc ?_ (by first | omega | (simp; omega) | simp) _
      refine bodyPost_ret (v := .tuple #[.agg (tcs u a).toArray, .bool true]) (results_box2 Try.results12 _ _ (w.heap.size + 1) _ _ _ rfl rfl (by simp [go_sem, B1, B2]) Try.underlying55 rfl (by kernel_rfl)) rfl (by rw [H.out]; exact ⟨a.mA, a.mc, rfl, h0.m.words.later hBf, .inl rfl, hBf⟩)
set_option maxRecDepth 100000 in
set_option maxHeartbeats 4000000 in
theorem rstep_16 (u : Tn) (a : TA) (o : TnOk u) (w : World) (h : TnAt w u a) (hph : u.d.ph = 16) : Calls Try.prog 12 #[.agg (tcs u a).toArray] w (StepPost (telV u) true a w) := by
  obtain ⟨B1, B2, hs, hB⟩ := ent_rf w u a
  have HL := hide (h.m.words.block_lt)
  have HW : Hid ((telV u).ws.length = u.ws.length) := hide (like_tel u).wl
  have h0 := h
  by_cases hkb : kidB u.d = true
  · have hk : 0 ≤ u.d.pl ∧ u.d.pl < (u.d.kl.length : Int) := by simpa [kidB, inR] using hkb
    have K := hide (fun W (ht : TnAt W u a) => rtold_16 u a o W ht hkb hph)
    obtain ⟨k0, k1⟩ := hk
    have k2 : ¬ u.d.pl < 0 := by omega
    have k3 : ¬ (u.d.kl.length : Int) ≤ u.d.pl := by omega
    obtain ⟨vv, hvv⟩ : ∃ x, telV u = x := ⟨_, rfl⟩
    rw [hvv] at K HW
    rw [hvv]
    clear hvv hkb
    go_enter Try.func12, Try.ntmps12
    go_wp2_with fail
    generalize ((w.alloc (.cells (tcs u a).toArray 55)).alloc (.cells zT.toArray 55)) = wz at *
    refine (K.out _ (h0.later hB)).mono ?_
    rintro e w2 ⟨A, c, rfl, hsA, hor, hb2⟩
    replace B1 := boxOf_keep B1 hb2
    replace B2 := boxOf_keep B2 hb2
    have hB1 := hB.size
    replace hB := below_next hB hB.size hb2
    have hf : 0 < vv.ws.length → ∀ p, A = some p → p.block ≠ w.heap.size + 1 := fun hn p hp => by
      rcases hor with e | f
      · have := HL.out (by rw [← HW.out]; exact hn) p (e ▸ hp); omega
      · have := f p hp; omega
    have hoo : A = a.mA ∨ Fresh w A := hor.imp_right (fun f p hp => by have := f p hp; omega)
    replace hs := Nat.lt_of_lt_of_le hs hb2.size
    clear hb2 K hor
    go_wp2
    have hBf : Below w.heap.size w (w2.setCells (w.heap.size + 1) 0 (tcs vv { a with mA := A, mc := c })) := by repeat first | exact hB | refine below_sets _ (by omega) _ _ _ _ ?_ | refine Below.setCell ?_ (by first | omega | (simp; omega) | simp) _ | refine Below.alloc ?_ (by first | omega | (simp; omega) | simp) _
    refine bodyPost_ret (v := .tuple #[.agg (tcs vv { a with mA := A, mc := c }).toArray, .bool true]) (results_box2 Try.results12 _ _ (w.heap.size + 1) _ _ _ rfl rfl (by simp [go_sem, B1, B2]) Try.underlying55 rfl (by kernel_rfl)) rfl ?_
    exact ⟨A, c, rfl, hsA.setCells2 _ hf _ _, hoo, hBf⟩
  · have H : Hid (telV u = u) := hide (by rw [telV, if_neg (fun e => hkb e.1)])
    have hk : ¬ (0 ≤ u.d.pl ∧ u.d.pl < (u.d.kl.length : Int)) := by simpa [kidB, inR] using hkb
    clear hkb
    go_enter Try.func12, Try.ntmps12
    by_cases k0 : u.d.pl < 0
    · go_wp2_with fail
      generalize ((w.alloc (.cells (tcs u a).toArray 55)).alloc (.cells zT.toArray 55)) = wz at *
      have hBf : Below w.heap.size w (wz.setCells (w.heap.size + 1) 0 (tcs u a)) := by repeat first | exact hB | refine below_sets _ (by omega) _ _ _ _ ?_ | refine Below.setCell ?_ (by first | omega | (simp; omega) | simp) _ | refine Below.alloc ?_ (by first | omega | (simp; omega) | simp) _
      refine bodyPost_ret (v := .tuple #[.agg (tcs u a).toArray, .bool true]) (results_box2 Try.results12 _ _ (w.heap.size + 1) _ _ _ rfl rfl (by simp [go_sem, B1, B2]) Try.underlying55 rfl (by kernel_rfl)) rfl (by rw [H.out]; exact ⟨a.mA, a.mc, rfl, h0.m.words.later hBf, .inl rfl, hBf⟩)
    · have k1 : (u.d.kl.length : Int) ≤ u.d.pl := by omega
      clear hk
      go_wp2_with fail
      generalize ((w.alloc (.cells (tcs u a).toArray 55)).alloc (.cells zT.toArray 55)) = wz at *
      have hBf : Below w.heap.size w (wz.setCells (w.heap.size + 1) 0 (tcs u a)) := by repeat first | exact hB | refine below_sets _ (by omega) _ _ _ _ ?_ | refine Below.setCell ?_ (by first | omega | (simp; omega) | simp) _ | refine Below.alloc ?_ (by first | omega | (simp; omega) | simp) _
      refine bodyPost_ret (v := .tuple #[.agg (tcs u a).toArray, .bool true]) (results_box2 Try.results12 _ _ (w.heap.size + 1) _ _ _ rfl rfl (by simp [go_sem, B1, B2]) Try.underlying55 rfl (by kernel_rfl)) rfl (by rw [H.out]; exact ⟨a.mA, a.mc, rfl, h0.m.words.later hBf, .inl rfl, hBf⟩)
/-- The document's step of whatever turn. -/
theorem rstep_any (u : Tn) (a : TA) (o : TnOk u) (w : World) (h : TnAt w u a) : Calls Try.prog 12 #[.agg (tcs u a).toArray] w (StepPost (stepV u) (isB u) a w) := by
  by_cases h3 : u.d.ph = 13
  · have e1 : stepV u = waitV u := by rw [stepV, if_pos h3]
    have e2 : isB u = true := by simp [isB, h3]
    rw [e1, e2]
    exact (rstep_13 u a o w h h3).mono fun e w' ⟨he, hb⟩ => ⟨a.mA, a.mc, he, (by obtain ⟨x, e⟩ := wait_is u; rw [e]; exact h.m.words.later hb), .inl rfl, hb⟩
  by_cases h4 : u.d.ph = 14
  · have e1 : stepV u = fetV u := by rw [stepV, if_neg h3, if_pos h4]
    have e2 : isB u = true := by simp [isB, h4]
    rw [e1, e2]
    exact (rstep_14 u a o w h h4).mono fun e w' ⟨he, hb⟩ => ⟨a.mA, a.mc, he, (by obtain ⟨x, y, z, b, e⟩ := fet_is u; rw [e]; exact h.m.words.later hb), .inl rfl, hb⟩
  by_cases h5 : u.d.ph = 15
  · have e1 : stepV u = shrV u := by rw [stepV, if_neg h3, if_neg h4, if_pos h5]
    have e2 : isB u = true := by simp [isB, h5]
    rw [e1, e2]; exact rstep_15 u a o w h h5
  by_cases h6 : u.d.ph = 16
  · have e1 : stepV u = telV u := by rw [stepV, if_neg h3, if_neg h4, if_neg h5, if_pos h6]
    have e2 : isB u = true := by simp [isB, h6]
    rw [e1, e2]; exact rstep_16 u a o w h h6
  have e1 : stepV u = u := by rw [stepV, if_neg h3, if_neg h4, if_neg h5, if_neg h6]
  have e2 : isB u = false := by simp [isB, h3, h4, h5, h6]
  rw [e1, e2]
  exact (rstep_no u a w h3 h4 h5 h6).mono fun e w' ⟨he, hb⟩ => ⟨a.mA, a.mc, he, h.m.words.later hb, .inl rfl, hb⟩
end Go.Proofs.Ytnmffjlfdnebnaa
