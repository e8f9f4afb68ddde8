/- The document's Step: those that share. -/
import Derived.Test.YtnmffjlfdnebnaaShQ
import Derived.Lib.QuietBelow
import Derived.Deep.QuietTactic
import Derived.BigQuiet
import Derived.Deep.RegionHeld3
namespace Go.Proofs.Ytnmffjlfdnebnaa
open Go.RowKit Go.Sort
set_option linter.unusedVariables false
set_option linter.unusedSimpArgs false

attribute [local irreducible] tcs thc ccs zT
attribute [local go_sem ↓] alTn_is alRn_is alMo_is
attribute [local go_sem] run_alTnf run_alTnt run_alRnf run_alRnt run_alMof run_alMot zT_length
attribute [local go_sem ↓] lbTn_is lbRn_is lbMo_is lbTh_is lbRh_is lbCf_is lbRc_is sbTn_is sbRn_is sbMo_is sbTh_is sbRh_is sbCf_is sbRc_is
attribute [local go_sem] run_lbTn run_lbRn run_lbMo run_lbTh run_lbRh run_lbCf run_lbRc run_sbTn run_sbRn run_sbMo run_sbTh run_sbRh run_sbCf run_sbRc
attribute [local go_sem 2000] boxOf_old'
attribute [local go_sem] boxOf_at' boxOf_free' boxOf_alloc objBox_cells objBox_cellsA boxOf_drew boxOf_setI boxOf_setsI size_sets tcs_length thc_length ccs_length tcs_one thc_one ccs_one sub_tn sub_th sub_cf sub_thAll sub_cfAll put_turn put_thread
attribute [local go_sem] tc0 tc1 tc2 tc3 tc4 tc5 tc6 tc7 tc8 tc9 tc10 tc11 tc12 tc13 tc14 tc15 tc16 tc17 tc18 tc19 tc20 tc21 tc22 tc23 tc24 tc25 tc26 tc27 tc28 tc29 tc30 tc31 tc32 tc33 tc34 tc35 tc36 hc0 hc1 hc2 hc3 hc4 hc5 hc6 hc7 hc8 hc9 hc10 hc11 hc12 hc13 hc14 hc15 hc16 kc0 kc1 kc2 kc3 kc4 kc5 kc6 kc7 kc8 kc9 kc10 kc11 tg0 tg1 tg2 tg3 tg4 tg5 tg6 tg7 tg8 tg9 tg10 tg11 tg12 tg13 tg14 tg15 tg16 tg17 tg18 tg19 tg20 tg21 tg22 tg23 tg24 tg25 tg26 tg27 tg28 tg29 tg30 tg31 tg32 tg33 tg34 tg35 tg36 hg0 hg1 hg2 hg3 hg4 hg5 hg6 hg7 hg8 hg9 hg10 hg11 hg12 hg13 hg14 hg15 hg16 kg0 kg1 kg2 kg3 kg4 kg5 kg6 kg7 kg8 kg9 kg10 kg11
attribute [local go_sem] ts12 ts13 ts14 ts16 ts17 ts18 ts19 ts20 ts21 ts22 ts23 ts24 ts25 ts26 ts27 ts28 ts29 ts30 ts31 ts32 ts33 ts34 ts35 ts36 ts15 hs0 hs1 hs2 hs3 hs7 hs8 hs9 hs10 hs11 hs12 hs13 hs14 hs15 hs16

theorem Below.trans_new5 {W w' : World} {o : Obj} (hb : Below (W.alloc o).heap.size (W.alloc o) w') : Below W.heap.size W w' := below_next (belowN W o) (by simp) hb
set_option maxRecDepth 100000 in
set_option maxHeartbeats 4000000 in
theorem rtold_15 (u : Tn) (a : TA) (o : TnOk u) (w : World) (h : TnAt w u a) (hkb : kidB u.d = true) (hph : u.d.ph = 15) : Calls Try.prog 32 #[.agg (tcs u a).toArray] w (TnPost (shrV u) a w) := by
  obtain ⟨k, hk, hkp⟩ : ∃ k : Nat, k < u.d.kl.length ∧ u.d.pl = (k : Int) := by
    simp only [kidB, inR, Bool.and_eq_true, decide_eq_true_eq] at hkb
    exact ⟨u.d.pl.toNat, by omega, by omega⟩
  have h0 := h
  obtain ⟨b, off, kt, kg, e1, hb, he, c1, c2⟩ := (h.th.later ((belowN w (.cells (tcs u a).toArray 55)).alloc (by simp) (.cells zT.toArray 55))).k.kid hk
  have HKV : Hid (kidV u.d = (kt, kg)) := hide (by simp [kidV, hkp, inR_at hk, he])
  have HK : Hid (I64 kt ∧ I64 kg) := hide (by have := kid_i64 o; rwa [HKV.out] at this)
  have HP : Hid (0 ≤ u.d.pl ∧ u.d.pl < 20) := hide (by have := o.k; omega)
  have HKB := hide hkb
  have k0 : (0 : Int) ≤ (k : Int) := Int.natCast_nonneg _
  have k1 : (k : Int) < (u.d.kl.length : Int) := by omega
  clear hkb he hk hb
  go_enter Try.func32, Try.ntmps32
  go_wp2_with fail
  have B1 : boxOf (((w.alloc (.cells (tcs u a).toArray 55)).alloc (.cells zT.toArray 55)).alloc (.cells #[.int .i64 kt, .int .i64 kg] 116)) w.heap.size = some (tcs u a) := by simp [go_sem]
  have B2 : boxOf (((w.alloc (.cells (tcs u a).toArray 55)).alloc (.cells zT.toArray 55)).alloc (.cells #[.int .i64 kt, .int .i64 kg] 116)) (w.heap.size + 1) = some zT := by simp [go_sem]
  have B3 : boxOf (((w.alloc (.cells (tcs u a).toArray 55)).alloc (.cells zT.toArray 55)).alloc (.cells #[.int .i64 kt, .int .i64 kg] 116)) (w.heap.size + 1 + 1) = some [.int .i64 kt, .int .i64 kg] := by simp [go_sem]
  have hs : w.heap.size + 1 + 1 < (((w.alloc (.cells (tcs u a).toArray 55)).alloc (.cells zT.toArray 55)).alloc (.cells #[.int .i64 kt, .int .i64 kg] 116)).heap.size := by simp
  have hB : Below w.heap.size w (((w.alloc (.cells (tcs u a).toArray 55)).alloc (.cells zT.toArray 55)).alloc (.cells #[.int .i64 kt, .int .i64 kg] 116)) := ((belowN w _).alloc (by simp) _).alloc (by simp; omega) _
  clear c1 c2 k0 k1 e1 hkp hph
  generalize (((w.alloc (.cells (tcs u a).toArray 55)).alloc (.cells zT.toArray 55)).alloc (.cells #[.int .i64 kt, .int .i64 kg] 116)) = w4 at *
  obtain ⟨xv, hxv⟩ : ∃ x, allV (u.d.bl.take (upN kg u.d.bl.length)) u.d.x u.c.x9 u.c.x10 = x := ⟨_, rfl⟩
  have HG : Hid (gets u = xv) := hide (by rw [gets, HKV.out]; exact hxv)
  have HL := hide (h0.m.words.block_lt)
  obtain ⟨ev, hev⟩ : ∃ x, erV u.ws.length (rsV u.c kt) = x := ⟨_, rfl⟩
  obtain ⟨nw, hnw⟩ : ∃ x, stV u.ws (rsV u.c kt) xv = x := ⟨_, rfl⟩
  have HN : Hid (nw.length = u.ws.length) := hide (by rw [← hnw]; exact stV_length _ _ _)
  have KS := hide (fun W m => rstore_any a.mA a.mB a.mc a.md u.ws a.bs (rsV u.c kt) xv W m)
  rw [hev, hnw] at KS
  have Z : boxOf w4.drew w.heap.size = some (tcs u a) ∧ boxOf w4.drew (w.heap.size + 1 + 1) = some [.int .i64 kt, .int .i64 kg] ∧ boxOf w4.drew (w.heap.size + 1) = some zT ∧ Below w.heap.size w w4.drew := ⟨by rw [boxOf_drew]; exact B1, by rw [boxOf_drew]; exact B3, by rw [boxOf_drew]; exact B2, hB.drew⟩
  have KU := hide (fun W hs => rupto_any a.p.bA a.p.bc u.d.bl u.d.bl.length rfl (by have := o.b; omega) kg W hs)
  have KA := hide (fun Au cu W hs => rall_any Au cu (u.d.bl.take (upN kg u.d.bl.length)) (upN kg u.d.bl.length) (by have := upN_le kg u.d.bl.length; simp; omega) (by have := o.b; have := upN_le kg u.d.bl.length; omega) u.d.x u.c.x9 u.c.x10 (o.f.n _ (by simp [Dt.nums])) o.lo o.hi (o.f.b.take _) W hs)
  rw [hxv] at KA
  clear hxv
  generalize upN kg u.d.bl.length = nu at *
  go_cut [4, 5] from 6 (fun p e wc => ∃ k A c, p = .pointer (some ⟨k, 0, none⟩) ∧ e = .int .i64 ev ∧ StAt w w.heap.size (w.heap.size + 1) (tcs u a) zT A nw c (.slice a.mB a.bs.length a.md) k a.mA wc)
  case first =>
    go_region_held3 (fun w' => boxOf w' w.heap.size = some (tcs u a) ∧ boxOf w' (w.heap.size + 1 + 1) = some [.int .i64 kt, .int .i64 kg] ∧ boxOf w' (w.heap.size + 1) = some zT ∧ Below w.heap.size w w')
      (first | (with_reducible exact Z) | (with_reducible exact Z4) | (with_reducible exact Z1) | (with_reducible exact Z2) | (with_reducible exact Z3) | (with_reducible exact keepT4 (by assumption) (belowN _ _)) | (with_reducible exact keepT4s Z4 _ _ _ (by omega) (by omega) (by omega) (by omega)) | (with_reducible exact keepT4s (keepT4s Z4 _ _ _ (by omega) (by omega) (by omega) (by omega)) _ _ _ (by omega) (by omega) (by omega) (by omega)))
      (first
        | (go_at_call 25; refine (rresult_tn u.c o.c kt HK.out.1 _).mono ?_; rintro e v1 ⟨rfl, hb1⟩; have Z1 : boxOf v1 w.heap.size = some (tcs u a) ∧ boxOf v1 (w.heap.size + 1 + 1) = some [.int .i64 kt, .int .i64 kg] ∧ boxOf v1 (w.heap.size + 1) = some zT ∧ Below w.heap.size w v1 := keepT4 (by assumption) hb1; (first | (with_reducible have tk := box_keep2 tk hb1) | (with_reducible have tk := box_keep2n tk hb1) | (with_reducible have tk := box_newk hb1) | (with_reducible have tk := box_newd hb1) | skip); have qv1 := hb1.size; (try simp at qv1); (try have hsu := hsu.later hb1); (try have hsu := hsu.later (Below.trans_new5 hb1)))
        | (go_at_call 19; refine (KU.out _ (h0.th.b.later (And.right (And.right (And.right (by assumption)))))).mono ?_; rintro e v2 ⟨Au, cu, rfl, hlu, hsu, hb2⟩; have Z2 : boxOf v2 w.heap.size = some (tcs u a) ∧ boxOf v2 (w.heap.size + 1 + 1) = some [.int .i64 kt, .int .i64 kg] ∧ boxOf v2 (w.heap.size + 1) = some zT ∧ Below w.heap.size w v2 := keepT4 (by assumption) hb2; (first | (with_reducible have tk := box_keep2 tk hb2) | (with_reducible have tk := box_keep2n tk hb2) | (with_reducible have tk := box_newk hb2) | (with_reducible have tk := box_newd hb2) | skip); have qv2 := hb2.size; (try simp at qv2); (try have hsu := hsu.later hb2); (try have hsu := hsu.later (Below.trans_new5 hb2)))
        | (go_at_call 18; refine (KA.out Au cu _ (by first | (with_reducible exact hsu) | (with_reducible exact hsu.later (belowN _ _)))).mono ?_; rintro e v3 ⟨rfl, hb3⟩; have Z3 : boxOf v3 w.heap.size = some (tcs u a) ∧ boxOf v3 (w.heap.size + 1 + 1) = some [.int .i64 kt, .int .i64 kg] ∧ boxOf v3 (w.heap.size + 1) = some zT ∧ Below w.heap.size w v3 := keepT4 (by assumption) hb3; (first | (with_reducible have tk := box_keep2 tk hb3) | (with_reducible have tk := box_keep2n tk hb3) | (with_reducible have tk := box_newk hb3) | (with_reducible have tk := box_newd hb3) | skip); have qv3 := hb3.size; (try simp at qv3); (try have hsu := hsu.later hb3); (try have hsu := hsu.later (Below.trans_new5 hb3)))
        | (go_at_call 58; refine (KS.out _ (h0.m.later (And.right (And.right (And.right (by assumption)))))).mono ?_; rintro e v4 ⟨A, c, rfl, hsA, hor, hb4⟩; have Z4 : boxOf v4 w.heap.size = some (tcs u a) ∧ boxOf v4 (w.heap.size + 1 + 1) = some [.int .i64 kt, .int .i64 kg] ∧ boxOf v4 (w.heap.size + 1) = some zT ∧ Below w.heap.size w v4 := keepT4 (by assumption) hb4; (first | (with_reducible have tk := box_keep2 tk hb4) | (with_reducible have tk := box_keep2n tk hb4) | (with_reducible have tk := box_newk hb4) | (with_reducible have tk := box_newd hb4) | skip); have qv4 := hb4.size; (try simp at qv4); (try have hsu := hsu.later hb4); (try have hsu := hsu.later (Below.trans_new5 hb4))))
    all_goals go_wp2_with fail
    all_goals go_meet
    all_goals
      have hfa : 0 < nw.length → ∀ p, A = some p → p.block ≠ w.heap.size ∧ p.block ≠ w.heap.size + 1 := fun hn p hp => by
        rcases hor with e | f
        · have := HL.out (by rw [← HN.out]; exact hn) p (e ▸ hp); omega
        · have := f p hp; (try simp at this); omega
    all_goals
      have hoo : A = a.mA ∨ Fresh w A := hor.imp_right (fun f p hp => by have := f p hp; (try simp at this); have := hB.size; omega)
    all_goals first
      | exact ⟨_, A, c, rfl, rfl, st_new _ hsA hfa Z4.1 Z4.2.2.1 Z4.2.2.2 hoo⟩
      | exact ⟨_, A, c, rfl, rfl, st_set hsA hfa Z4.1 Z4.2.2.1 Z4.2.2.2 tk.1 rfl (by omega) (by omega) (by omega) (fun hn p hp => by
          rcases hor with e | f
          · have := HL.out (by rw [← HN.out]; exact hn) p (e ▸ hp); omega
          · have := f p hp; (try simp at this); omega) hoo⟩
  case rest =>
    obtain ⟨k, A, c, rfl, rfl, hst⟩ := hcut
    clear B1 B2 B3 hB Z KS
    obtain ⟨bk, sA, fa, B1, B2, hB, hoo⟩ := hst
    have he : ev = 0 ∨ ev = 30 := by rw [← hev]; unfold erV; split <;> simp
    rcases he with he | he
    · subst he
      have H : Hid (shrV u = { u with ws := nw, d := { u.d with ph := 16 } }) := hide (by rw [shrV, if_pos ⟨HKB.out, by rw [HKV.out]; exact hev⟩, HG.out, HKV.out]; exact congrArg (fun z => ({ u with ws := z, d := { u.d with ph := 16 } } : Tn)) hnw)
      go_wp2
      have hBf : Below w.heap.size w ((((wc.setCell ⟨w.heap.size, 14, none⟩ (.slice A nw.length c)).setCell ⟨w.heap.size, 15, none⟩ (.slice a.mB a.bs.length a.md)).setCell ⟨w.heap.size, 16, none⟩ (.int .i64 16)).setCells (w.heap.size + 1) 0 (tcs { u with ws := nw, d := { u.d with ph := 16 } } { a with mA := A, mc := c })) := by repeat first | exact hB | refine below_sets _ (by omega) _ _ _ _ ?_ | refine Below.setCell ?_ (by first | omega | (simp; omega) | simp) _ | refine Below.alloc ?_ (by first | omega | (simp; omega) | simp) _
      refine bodyPost_ret (v := .agg (tcs { u with ws := nw, d := { u.d with ph := 16 } } { a with mA := A, mc := c }).toArray) (results_box Try.results32 _ _ (w.heap.size + 1) _ _ rfl (by simp [go_sem, B1, B2]) Try.underlying55 rfl (by kernel_rfl)) rfl ?_
      rw [H.out]
      exact ⟨A, c, rfl, (((sA.own1 _ _ _ (fun hn p hp => (fa hn p hp).1)).own1 _ _ _ (fun hn p hp => (fa hn p hp).1)).own1 _ _ _ (fun hn p hp => (fa hn p hp).1)).setCells2 _ (fun hn p hp => (fa hn p hp).2) _ _, hoo, hBf⟩
    · subst he
      have H : Hid (shrV u = u) := hide (by rw [shrV, if_neg (fun e => by rw [HKV.out, hev] at e; exact absurd e.2 (by decide))])
      go_wp2
      have hBf : Below w.heap.size w (wc.setCells (w.heap.size + 1) 0 (tcs u a)) := by repeat first | exact hB | refine below_sets _ (by omega) _ _ _ _ ?_ | refine Below.setCell ?_ (by first | omega | (simp; omega) | simp) _ | refine Below.alloc ?_ (by first | omega | (simp; omega) | simp) _
      refine bodyPost_ret (v := .agg (tcs u a).toArray) (results_box Try.results32 _ _ (w.heap.size + 1) _ _ rfl (by simp [go_sem, B1, B2]) Try.underlying55 rfl (by kernel_rfl)) rfl (by rw [H.out]; exact ⟨a.mA, a.mc, rfl, h0.m.words.later hBf, .inl rfl, hBf⟩)
end Go.Proofs.Ytnmffjlfdnebnaa
