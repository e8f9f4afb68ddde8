/- The contract of the step that tells a kid. -/
import Derived.Test.YtnmffjlfdnebnaaShX
import Derived.Lib.QuietBelow
import Derived.Deep.QuietTactic
import Derived.BigQuiet
import Derived.Deep.RegionHeld3
namespace Go.Proofs.Ytnmffjlfdnebnaa
open Go.RowKit Go.Sort
set_option linter.unusedVariables false
set_option linter.unusedSimpArgs false

attribute [local irreducible] tcs thc ccs zT
attribute [local go_sem ↓] alTn_is alRn_is alMo_is
attribute [local go_sem] run_alTnf run_alTnt run_alRnf run_alRnt run_alMof run_alMot zT_length
attribute [local go_sem ↓] lbTn_is lbRn_is lbMo_is lbTh_is lbRh_is lbCf_is lbRc_is sbTn_is sbRn_is sbMo_is sbTh_is sbRh_is sbCf_is sbRc_is
attribute [local go_sem] run_lbTn run_lbRn run_lbMo run_lbTh run_lbRh run_lbCf run_lbRc run_sbTn run_sbRn run_sbMo run_sbTh run_sbRh run_sbCf run_sbRc
attribute [local go_sem 2000] boxOf_old'
attribute [local go_sem] boxOf_at' boxOf_free' boxOf_alloc objBox_cells objBox_cellsA boxOf_drew boxOf_setI boxOf_setsI size_sets tcs_length thc_length ccs_length tcs_one thc_one ccs_one sub_tn sub_th sub_cf sub_thAll sub_cfAll put_turn put_thread
attribute [local go_sem] tc0 tc1 tc2 tc3 tc4 tc5 tc6 tc7 tc8 tc9 tc10 tc11 tc12 tc13 tc14 tc15 tc16 tc17 tc18 tc19 tc20 tc21 tc22 tc23 tc24 tc25 tc26 tc27 tc28 tc29 tc30 tc31 tc32 tc33 tc34 tc35 tc36 hc0 hc1 hc2 hc3 hc4 hc5 hc6 hc7 hc8 hc9 hc10 hc11 hc12 hc13 hc14 hc15 hc16 kc0 kc1 kc2 kc3 kc4 kc5 kc6 kc7 kc8 kc9 kc10 kc11 tg0 tg1 tg2 tg3 tg4 tg5 tg6 tg7 tg8 tg9 tg10 tg11 tg12 tg13 tg14 tg15 tg16 tg17 tg18 tg19 tg20 tg21 tg22 tg23 tg24 tg25 tg26 tg27 tg28 tg29 tg30 tg31 tg32 tg33 tg34 tg35 tg36 hg0 hg1 hg2 hg3 hg4 hg5 hg6 hg7 hg8 hg9 hg10 hg11 hg12 hg13 hg14 hg15 hg16 kg0 kg1 kg2 kg3 kg4 kg5 kg6 kg7 kg8 kg9 kg10 kg11
attribute [local go_sem] ts12 ts13 ts14 ts16 ts17 ts18 ts19 ts20 ts21 ts22 ts23 ts24 ts25 ts26 ts27 ts28 ts29 ts30 ts31 ts32 ts33 ts34 ts35 ts36 ts15 hs0 hs1 hs2 hs3 hs7 hs8 hs9 hs10 hs11 hs12 hs13 hs14 hs15 hs16

def telV (u : Tn) : Tn := if kidB u.d = true ∧ erV u.ws.length (lnV u.c (kidV u.d).1) = 0 then setlV { u with ws := stV u.ws (lnV u.c (kidV u.d).1) 5, d := { u.d with pl := u.d.pl + 1 } } else u
theorem setlV_is (u : Tn) : ∃ x y, setlV u = { u with d := { u.d with ph := x }, dn := y } := by
  unfold setlV; split
  · exact ⟨15, u.dn, rfl⟩
  · exact ⟨0, true, rfl⟩
set_option maxRecDepth 100000 in
set_option maxHeartbeats 4000000 in
theorem tell_any (u : Tn) (a : TA) (o : TnOk u) (w : World) (h : TnAt w u a) (hc : u.d.bl.length ≤ a.p.bc) : Calls Try.prog 57 #[.agg (tcs u a).toArray] w (TnPost (telV u) a w) := by
  obtain ⟨B1, B2, hs, hB⟩ := ent_mo w u a
  have h0 := h
  have HK := hide (kid_i64 o)
  obtain ⟨⟨kt, kg⟩, hkv⟩ : ∃ x, kidV u.d = x := ⟨_, rfl⟩
  rw [hkv] at HK
  go_enter Try.func57, Try.ntmps57
  go_wp2_with fail
  generalize ((((w.alloc (.cells (tcs u a).toArray 115)).alloc (.cells zT.toArray 38)).alloc (.cells zT.toArray 38)).setCells (w.heap.size + 1 + 1) 0 (tcs u a)) = wz at *
  refine (kid_any u.d a.p _ (h0.th.later hB)).mono ?_
  rintro e w1 ⟨rfl, hb1⟩
  replace B1 := boxOf_keep B1 hb1
  replace B2 := boxOf_keep B2 hb1
  replace hB := below_next hB hB.size hb1
  replace hs := Nat.lt_of_lt_of_le hs hb1.size
  clear hb1 h
  rw [hkv]
  by_cases hkb : kidB u.d = true
  case neg =>
    have H : Hid (telV u = u) := hide (by rw [telV, if_neg (fun e => hkb e.1)])
    rw [Bool.not_eq_true] at hkb
    rw [hkb]
    go_wp2
    have hBf : Below w.heap.size w _ := (by repeat first | exact hB | refine below_sets _ (by omega) _ _ _ _ ?_ | refine Below.setCell ?_ (by first | omega | (simp; omega) | simp) _ | refine Below.alloc ?_ (by first | omega | (simp; omega) | simp) _ : Below w.heap.size w ((w1.alloc (.cells #[.int .i64 kt, .int .i64 kg] 63)).setCells (w.heap.size + 1) 0 (tcs u a)))
    refine bodyPost_ret (v := .agg (tcs u a).toArray) (results_box Try.results57 _ _ (w.heap.size + 1) _ _ rfl (by simp [go_sem, B1, B2]) Try.underlying38 rfl (by kernel_rfl)) rfl (by rw [H.out]; exact ⟨a.mA, a.mc, rfl, h0.m.words.later hBf, .inl rfl, hBf⟩)
  have HP : Hid (0 ≤ u.d.pl ∧ u.d.pl < 20) := hide (by have := o.k; simp only [kidB, inR, Bool.and_eq_true, decide_eq_true_eq] at hkb; omega)
  have hkb' := hide hkb
  rw [hkb]
  clear hkb
  go_wp2_with fail
  have B3 := boxOf_newA w1 #[.int .i64 kt, .int .i64 kg] 63 w1.heap.size rfl
  replace B1 := boxOf_keep B1 (belowN w1 (.cells #[.int .i64 kt, .int .i64 kg] 63))
  replace B2 := boxOf_keep B2 (belowN w1 (.cells #[.int .i64 kt, .int .i64 kg] 63))
  replace hB := hB.alloc hB.size (.cells #[.int .i64 kt, .int .i64 kg] 63)
  obtain ⟨gk, hgk⟩ : ∃ x, w1.heap.size = x := ⟨_, rfl⟩
  rw [hgk] at B3 hs ⊢
  have hs2 : gk < (w1.alloc (.cells #[.int .i64 kt, .int .i64 kg] 63)).heap.size := by simp; omega
  clear hgk
  generalize (w1.alloc (.cells #[.int .i64 kt, .int .i64 kg] 63)) = w4 at *
  have HL := hide (h0.m.words.block_lt)
  obtain ⟨ev, hev⟩ : ∃ x, erV u.ws.length (lnV u.c kt) = x := ⟨_, rfl⟩
  obtain ⟨nw, hnw⟩ : ∃ x, stV u.ws (lnV u.c kt) 5 = x := ⟨_, rfl⟩
  have HN : Hid (nw.length = u.ws.length) := hide (by rw [← hnw]; exact stV_length _ _ _)
  have KS := hide (fun W m => store_any a.mA a.mB a.mc a.md u.ws a.bs (lnV u.c kt) 5 W m)
  rw [hev, hnw] at KS
  have Z : boxOf w4.drew (w.heap.size + 1 + 1) = some (tcs u a) ∧ boxOf w4.drew gk = some [.int .i64 kt, .int .i64 kg] ∧ boxOf w4.drew (w.heap.size + 1) = some zT ∧ Below w.heap.size w w4.drew := ⟨by rw [boxOf_drew]; exact B1, by rw [boxOf_drew]; exact B3, by rw [boxOf_drew]; exact B2, hB.drew⟩
  go_cut [6, 7] from 8 (fun p e wc => ∃ k A c, p = .pointer (some ⟨k, 0, none⟩) ∧ e = .int .i64 ev ∧ StAt w (w.heap.size + 1 + 1) (w.heap.size + 1) (tcs u a) zT A nw c (.slice a.mB a.bs.length a.md) k a.mA wc)
  case first =>
    have tok1 := hide True.intro
    have tok2 := hide True.intro
    go_region_held3 (fun w' => boxOf w' (w.heap.size + 1 + 1) = some (tcs u a) ∧ boxOf w' gk = some [.int .i64 kt, .int .i64 kg] ∧ boxOf w' (w.heap.size + 1) = some zT ∧ Below w.heap.size w w')
      (first | (with_reducible exact Z) | (with_reducible exact Z3) | (with_reducible exact Z1) | (with_reducible exact Z2) | (with_reducible exact keepT4 (by assumption) (belowN _ _)) | (with_reducible exact keepT4s Z3 _ _ _ (by omega) (by omega) (by omega) (by omega)) | (with_reducible exact keepT4s (keepT4s Z3 _ _ _ (by omega) (by omega) (by omega) (by omega)) _ _ _ (by omega) (by omega) (by omega) (by omega)))
      (first
        | (go_at_call 68; refine (line_tn u.c o.c kt HK.out.1 _).mono ?_; rintro e v1 ⟨rfl, hb1⟩; have Z1 : boxOf v1 (w.heap.size + 1 + 1) = some (tcs u a) ∧ boxOf v1 gk = some [.int .i64 kt, .int .i64 kg] ∧ boxOf v1 (w.heap.size + 1) = some zT ∧ Below w.heap.size w v1 := keepT4 (by assumption) hb1; (first | (with_reducible have tk := box_keep2 tk hb1) | (with_reducible have tk := box_keep2n tk hb1) | (with_reducible have tk := box_newk hb1) | (with_reducible have tk := box_newd hb1) | skip); have q1 := hb1.size; (try simp at q1))
        | (go_at_call 22; refine (told_any _).mono ?_; rintro e v2 ⟨rfl, hb2⟩; have Z2 : boxOf v2 (w.heap.size + 1 + 1) = some (tcs u a) ∧ boxOf v2 gk = some [.int .i64 kt, .int .i64 kg] ∧ boxOf v2 (w.heap.size + 1) = some zT ∧ Below w.heap.size w v2 := keepT4 (by assumption) hb2; (first | (with_reducible have tk := box_keep2 tk hb2) | (with_reducible have tk := box_keep2n tk hb2) | (with_reducible have tk := box_newk hb2) | (with_reducible have tk := box_newd hb2) | skip); have q2 := hb2.size; (try simp at q2))
        | (go_at_call 52; refine (KS.out _ (h0.m.later (And.right (And.right (And.right (by assumption)))))).mono ?_; rintro e v3 ⟨A, c, rfl, hsA, hor, hb3⟩; have Z3 : boxOf v3 (w.heap.size + 1 + 1) = some (tcs u a) ∧ boxOf v3 gk = some [.int .i64 kt, .int .i64 kg] ∧ boxOf v3 (w.heap.size + 1) = some zT ∧ Below w.heap.size w v3 := keepT4 (by assumption) hb3; (first | (with_reducible have tk := box_keep2 tk hb3) | (with_reducible have tk := box_keep2n tk hb3) | (with_reducible have tk := box_newk hb3) | (with_reducible have tk := box_newd hb3) | skip); have q3 := hb3.size; (try simp at q3)))
    all_goals go_wp2_with fail
    all_goals go_meet
    all_goals
      have hfa : 0 < nw.length → ∀ p, A = some p → p.block ≠ w.heap.size + 1 + 1 ∧ p.block ≠ w.heap.size + 1 := fun hn p hp => by
        rcases hor with e | f
        · have := HL.out (by rw [← HN.out]; exact hn) p (e ▸ hp); omega
        · have := f p hp; (try simp at this); omega
    all_goals
      have hoo : A = a.mA ∨ Fresh w A := hor.imp_right (fun f p hp => by have := f p hp; (try simp at this); have := hB.size; omega)
    all_goals first
      | exact ⟨_, A, c, rfl, rfl, st_new _ hsA hfa Z3.1 Z3.2.2.1 Z3.2.2.2 hoo⟩
      | exact ⟨_, A, c, rfl, rfl, st_set hsA hfa Z3.1 Z3.2.2.1 Z3.2.2.2 tk.1 rfl (by omega) (by omega) (by omega) (fun hn p hp => by
          rcases hor with e | f
          · have := HL.out (by rw [← HN.out]; exact hn) p (e ▸ hp); omega
          · have := f p hp; (try simp at this); omega) hoo⟩
  case rest =>
    obtain ⟨k, A, c, rfl, rfl, hst⟩ := hcut
    clear B1 B2 B3 hB Z KS
    obtain ⟨bk, sA, fa, B1, B2, hB, hoo⟩ := hst
    have he : ev = 0 ∨ ev = 30 := by rw [← hev]; unfold erV; split <;> simp
    rcases he with he | he
    · subst he
      have H : Hid (telV u = setlV { u with ws := nw, d := { u.d with pl := u.d.pl + 1 } }) := hide (by rw [telV, if_pos ⟨hkb'.out, by rw [hkv]; exact hev⟩, hkv]; exact congrArg (fun z => setlV ({ u with ws := z, d := { u.d with pl := u.d.pl + 1 } } : Tn)) hnw)
      have hw1 : IntKind.i64.wrap (u.d.pl + 1) = u.d.pl + 1 := by rw [IntKind.wrap_i64]; have := HP.out; omega
      have hw2 : wrap64 (u.d.pl + 1) = u.d.pl + 1 := wrap64_id (by unfold I64; have := HP.out; omega)
      clear hnw hev
      go_wp2_with fail
      have hBf : Below w.heap.size w (((wc.setCell ⟨w.heap.size + 1 + 1, 14, none⟩ (.slice A nw.length c)).setCell ⟨w.heap.size + 1 + 1, 15, none⟩ (.slice a.mB a.bs.length a.md)).setCell ⟨w.heap.size + 1 + 1, 25, none⟩ (.int .i64 (u.d.pl + 1))) := by repeat first | exact hB | refine below_sets _ (by omega) _ _ _ _ ?_ | refine Below.setCell ?_ (by first | omega | (simp; omega) | simp) _ | refine Below.alloc ?_ (by first | omega | (simp; omega) | simp) _
      have hx : TnAt (((wc.setCell ⟨w.heap.size + 1 + 1, 14, none⟩ (.slice A nw.length c)).setCell ⟨w.heap.size + 1 + 1, 15, none⟩ (.slice a.mB a.bs.length a.md)).setCell ⟨w.heap.size + 1 + 1, 25, none⟩ (.int .i64 (u.d.pl + 1))) { u with ws := nw, d := { u.d with pl := u.d.pl + 1 } } { a with mA := A, mc := c } := ⟨h0.m.words_at hBf (((sA.own1 _ _ _ (fun hn p hp => (fa hn p hp).1)).own1 _ _ _ (fun hn p hp => (fa hn p hp).1)).own1 _ _ _ (fun hn p hp => (fa hn p hp).1)) HN.out, h0.bx, ⟨h0.th.b.later hBf, h0.th.k.later hBf, h0.th.h.later hBf⟩, h0.tp.later hBf, h0.lg.later hBf⟩
      refine (settle_any { u with ws := nw, d := { u.d with pl := u.d.pl + 1 } } { a with mA := A, mc := c } _ hx).mono ?_
      rintro e w5 ⟨rfl, hb5⟩
      have B2n := boxOf_keep (g := w.heap.size + 1) (cs := zT) (by simp [go_sem, B1, B2]) hb5
      have hx5 := hx.later hb5
      replace hB : Below w.heap.size w w5 := below_next hBf hBf.size hb5
      clear B1 B2 hBf
      go_wp2
      have hBf : Below w.heap.size w (w5.setCells (w.heap.size + 1) 0 (tcs (setlV { u with ws := nw, d := { u.d with pl := u.d.pl + 1 } }) { a with mA := A, mc := c })) := by repeat first | exact hB | refine below_sets _ (by omega) _ _ _ _ ?_ | refine Below.setCell ?_ (by first | omega | (simp; omega) | simp) _ | refine Below.alloc ?_ (by first | omega | (simp; omega) | simp) _
      obtain ⟨sx, sy, se⟩ := setlV_is { u with ws := nw, d := { u.d with pl := u.d.pl + 1 } }
      refine bodyPost_ret (v := .agg (tcs (setlV { u with ws := nw, d := { u.d with pl := u.d.pl + 1 } }) { a with mA := A, mc := c }).toArray) (results_box Try.results57 _ _ (w.heap.size + 1) _ _ rfl (by simp [go_sem, B2n]) Try.underlying38 rfl (by kernel_rfl)) rfl ?_
      rw [H.out]
      refine ⟨A, c, rfl, ?_, hoo, hBf⟩
      have hq := hx5.m.words.setCells2 (w.heap.size + 1) (fun hn p hp => (fa hn p hp).2) (tcs (setlV { u with ws := nw, d := { u.d with pl := u.d.pl + 1 } }) { a with mA := A, mc := c }) 0
      generalize (w5.setCells (w.heap.size + 1) 0 (tcs (setlV { u with ws := nw, d := { u.d with pl := u.d.pl + 1 } }) { a with mA := A, mc := c })) = wf at *
      rw [se]
      exact hq
    · subst he
      have H : Hid (telV u = u) := hide (by rw [telV, if_neg (fun e => by rw [hkv, hev] at e; exact absurd e.2 (by decide))])
      go_wp2
      have hBf : Below w.heap.size w (wc.setCells (w.heap.size + 1) 0 (tcs u a)) := by repeat first | exact hB | refine below_sets _ (by omega) _ _ _ _ ?_ | refine Below.setCell ?_ (by first | omega | (simp; omega) | simp) _ | refine Below.alloc ?_ (by first | omega | (simp; omega) | simp) _
      refine bodyPost_ret (v := .agg (tcs u a).toArray) (results_box Try.results57 _ _ (w.heap.size + 1) _ _ rfl (by simp [go_sem, B1, B2]) Try.underlying38 rfl (by kernel_rfl)) rfl (by rw [H.out]; exact ⟨a.mA, a.mc, rfl, h0.m.words.later hBf, .inl rfl, hBf⟩)
end Go.Proofs.Ytnmffjlfdnebnaa
