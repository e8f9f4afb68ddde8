/- The contract of swap. -/
import Derived.Test.YtiacgbkaflcbeaaCmD
import Derived.Test.YtiacgbkaflcbeaaCmC
import Derived.Test.YtiacgbkaflcbeaaCmA
import Derived.Test.YtiacgbkaflcbeaaCmS
import Derived.Lib.QuietBelow
import Derived.Deep.QuietTactic
import Derived.BigQuiet
import Derived.Deep.RegionHeld3
import Derived.Deep.Cut
import Derived.WalkMore
import Derived.ScopeJumps
namespace Go.Proofs.Ytiacgbkaflcbeaa
open Go.RowKit Go.Sort
set_option linter.unusedVariables false
set_option linter.unusedSimpArgs false

attribute [local irreducible] tcs thc ccs zT
attribute [local go_sem ↓] alTn_is
attribute [local go_sem] run_alTnf run_alTnt zT_length
attribute [local go_sem ↓] lbTn_is lbTh_is lbCf_is lbRc_is sbTn_is sbTh_is sbCf_is sbRc_is
attribute [local go_sem] run_lbTn run_lbTh run_lbCf run_lbRc run_sbTn run_sbTh run_sbCf run_sbRc
attribute [local go_sem 2000] boxOf_old'
attribute [local go_sem] boxOf_at' boxOf_free' boxOf_alloc objBox_cells objBox_cellsA boxOf_drew boxOf_setI boxOf_setsI size_sets tcs_length thc_length ccs_length tcs_one thc_one ccs_one sub_tn sub_th sub_cf sub_thAll sub_cfAll put_turn put_thread
attribute [local go_sem] tc0 tc1 tc2 tc3 tc4 tc5 tc6 tc7 tc8 tc9 tc10 tc11 tc12 tc13 tc14 tc15 tc16 tc17 tc18 tc19 tc20 tc21 tc22 tc23 tc24 tc25 tc26 tc27 tc28 tc29 tc30 tc31 tc32 tc33 tc34 tc35 tc36 hc0 hc1 hc2 hc3 hc4 hc5 hc6 hc7 hc8 hc9 hc10 hc11 hc12 hc13 hc14 hc15 hc16 kc0 kc1 kc2 kc3 kc4 kc5 kc6 kc7 kc8 kc9 kc10 kc11 tg0 tg1 tg2 tg3 tg4 tg5 tg6 tg7 tg8 tg9 tg10 tg11 tg12 tg13 tg14 tg15 tg16 tg17 tg18 tg19 tg20 tg21 tg22 tg23 tg24 tg25 tg26 tg27 tg28 tg29 tg30 tg31 tg32 tg33 tg34 tg35 tg36 hg0 hg1 hg2 hg3 hg4 hg5 hg6 hg7 hg8 hg9 hg10 hg11 hg12 hg13 hg14 hg15 hg16 kg0 kg1 kg2 kg3 kg4 kg5 kg6 kg7 kg8 kg9 kg10 kg11
attribute [local go_sem] ts12 ts13 ts14 ts16 ts17 ts18 ts19 ts20 ts21 ts22 ts23 ts24 ts25 ts26 ts27 ts28 ts29 ts30 ts31 ts32 ts33 ts34 ts35 ts36 ts15 hs0 hs1 hs2 hs3 hs7 hs8 hs9 hs10 hs11 hs12 hs13 hs14 hs15 hs16

/-- A turn of a thread that compared its cell. -/
def swapV (u : Tn) : Tn := if erV u.ws.length (clV u.c u.d.it) = 0 then (if casB u.ws (clV u.c u.d.it) u.d.x = true then comV { u with ws := casV u.ws (clV u.c u.d.it) u.d.x u.d.y } u.d.x else { u with d := { u.d with wd := widV u.d.wd u.c.x5, ph := 2 } }) else u
set_option maxRecDepth 100000 in
set_option maxHeartbeats 4000000 in
theorem cswap_any (u : Tn) (a : TA) (o : TnOk u) (w : World) (h : TnAt w u a) : Calls Try.prog 22 #[.agg (tcs u a).toArray] w (CPost (swapV u) u.ll.length a w) := by
  have B1 : boxOf ((w.alloc (.cells (tcs u a).toArray 38)).alloc (.cells zT.toArray 38)) w.heap.size = some (tcs u a) := by simp [go_sem]
  have B2 : boxOf ((w.alloc (.cells (tcs u a).toArray 38)).alloc (.cells zT.toArray 38)) (w.heap.size + 1) = some zT := by simp [go_sem]
  have hs : w.heap.size + 1 < ((w.alloc (.cells (tcs u a).toArray 38)).alloc (.cells zT.toArray 38)).heap.size := by simp
  have hB : Below w.heap.size w ((w.alloc (.cells (tcs u a).toArray 38)).alloc (.cells zT.toArray 38)) := (belowN w _).alloc (by simp) _
  have h0 := h
  replace h := h.later hB
  go_enter Try.func22, Try.ntmps22
  go_wp2_with fail
  generalize ((w.alloc (.cells (tcs u a).toArray 38)).alloc (.cells zT.toArray 38)) = wz at *
  have HL := hide (h0.m.words.block_lt)
  obtain ⟨ev, hev⟩ : ∃ x, erV u.ws.length (clV u.c u.d.it) = x := ⟨_, rfl⟩
  obtain ⟨nw, hnw⟩ : ∃ x, casV u.ws (clV u.c u.d.it) u.d.x u.d.y = x := ⟨_, rfl⟩
  obtain ⟨qv, hqv⟩ : ∃ x, casB u.ws (clV u.c u.d.it) u.d.x = x := ⟨_, rfl⟩
  have HN : Hid (nw.length = u.ws.length) := hide (by rw [← hnw]; exact casV_length _ _ _ _)
  have iws : Hid (∀ x ∈ nw, I64 x) := hide (by rw [← hnw]; exact casV_i64 o.ws _ _ _ o.iy)
  have KS := hide (fun W m => cas_any a.mA a.mB a.mc a.md u.ws a.bs (clV u.c u.d.it) u.d.x u.d.y W m)
  rw [hev, hnw, hqv] at KS
  generalize wz = w4 at *
  refine wp_scope_jumps 0 (fun a' w' => (ev = 0 ∧ qv = false) ∧ ∃ (k : Nat) (A : Option Addr) (c : Nat) (u6 u7 u8 u9 u10 u11 u12 u13 u14 u15 u16 u17 u18 u19 u20 u21 u22 u23 u24 u25 u26 u27 u28 u29 u30 u31 u32 u33 u34 u35 u36 u37 u38 u39 u40 u41 u42 u43 u44 : Value), a' = { tmps := #[.agg (tcs u a).toArray, .pointer (some ⟨w.heap.size, 0, none⟩), .pointer (some ⟨w.heap.size + 1, 0, none⟩), .pointer (some ⟨k, 0, none⟩), .bool false, .int .i64 0, u6, u7, u8, u9, u10, u11, u12, u13, u14, u15, u16, u17, u18, u19, u20, u21, u22, u23, u24, u25, u26, u27, u28, u29, u30, u31, u32, u33, u34, u35, u36, u37, u38, u39, u40, u41, u42, u43, u44], defers := [] } ∧ StAt w w.heap.size (w.heap.size + 1) (tcs u a) zT A nw c (.slice a.mB a.bs.length a.md) k a.mA w') (fun _ _ => 0) rfl ?_ ?_
  case refine_2 =>
    rintro a' w' ⟨⟨rfl, rfl⟩, k, A, c, u6, u7, u8, u9, u10, u11, u12, u13, u14, u15, u16, u17, u18, u19, u20, u21, u22, u23, u24, u25, u26, u27, u28, u29, u30, u31, u32, u33, u34, u35, u36, u37, u38, u39, u40, u41, u42, u43, u44, rfl, hst⟩
    clear B1 B2 hB KS h hs
    obtain ⟨bk, sA, fa, B1, B2, hB, hoo⟩ := hst
    have hs := boxOf_lt B2
    obtain ⟨wv, hwv⟩ : ∃ x, widV u.d.wd u.c.x5 = x := ⟨_, rfl⟩
    have H : Hid (swapV u = { u with d := { u.d with wd := wv, ph := 2 } }) := hide (by rw [swapV, if_pos hev, if_neg (by rw [hqv]; decide), hwv])
    have KW := fun W => hide (wider_any u.d.wd u.c.x5 W)
    rw [hwv] at KW
    clear hev hnw hqv hwv
    go_wp2_with fail
    refine (KW _).out.mono ?_
    rintro e w5 ⟨rfl, hb1⟩
    replace B1 := boxOf_keep B1 hb1
    replace B2 := boxOf_keep B2 hb1
    replace hB := below_next hB hB.size hb1
    clear hb1
    have key : ∀ W', Below w.heap.size w W' → CPost ({ u with d := { u.d with wd := wv, ph := 2 } }) u.ll.length a w (.returned (.agg (tcs ({ u with d := { u.d with wd := wv, ph := 2 } }) a).toArray)) W' := fun W' hBf => ⟨a.mA, a.mc, a.lA, a.lc, rfl, h0.m.words.later hBf, .inl rfl, h0.lg.later hBf, .inl ⟨rfl, rfl⟩, hBf⟩
    go_wp2
    simp only [Exit.jump]
    refine bodyPost_ret (v := .agg (tcs ({ u with d := { u.d with wd := wv, ph := 2 } }) a).toArray) (results_box Try.results22 _ _ (w.heap.size + 1) _ _ rfl (by simp [go_sem, B1, B2]) Try.underlying38 rfl (by kernel_rfl)) rfl ?_
    rw [H.out]
    exact key _ (by repeat first | exact hB | refine below_sets _ (by omega) _ _ _ _ ?_ | refine Below.setCell ?_ (by first | omega | (simp; omega) | simp) _ | refine Below.alloc ?_ (by first | omega | (simp; omega) | simp) _)
  go_wp2_with fail
  have Z : boxOf w4.drew w.heap.size = some (tcs u a) ∧ boxOf w4.drew w.heap.size = some (tcs u a) ∧ boxOf w4.drew (w.heap.size + 1) = some zT ∧ Below w.heap.size w w4.drew := ⟨by rw [boxOf_drew]; exact B1, by rw [boxOf_drew]; exact B1, by rw [boxOf_drew]; exact B2, hB.drew⟩
  go_cut [3, 4, 5] from 6 (fun p q e wc => ∃ k A c, p = .pointer (some ⟨k, 0, none⟩) ∧ q = .bool qv ∧ e = .int .i64 ev ∧ StAt w w.heap.size (w.heap.size + 1) (tcs u a) zT A nw c (.slice a.mB a.bs.length a.md) k a.mA wc)
  case first =>
    go_region_held3 (fun w' => boxOf w' w.heap.size = some (tcs u a) ∧ boxOf w' w.heap.size = some (tcs u a) ∧ boxOf w' (w.heap.size + 1) = some zT ∧ Below w.heap.size w w')
      (first | (with_reducible exact Z) | (with_reducible exact Z1) | (with_reducible exact Z2) | (with_reducible exact keepT4 (by assumption) (belowN _ _)) | (with_reducible exact keepT4s Z2 _ _ _ (by omega) (by omega) (by omega) (by omega)) | (with_reducible exact keepT4s (keepT4s Z2 _ _ _ (by omega) (by omega) (by omega) (by omega)) _ _ _ (by omega) (by omega) (by omega) (by omega)))
      (first
        | (go_at_call 31; refine (ccell_any u a o _).mono ?_; rintro e v1 ⟨rfl, hb1⟩; have Z1 : boxOf v1 w.heap.size = some (tcs u a) ∧ boxOf v1 w.heap.size = some (tcs u a) ∧ boxOf v1 (w.heap.size + 1) = some zT ∧ Below w.heap.size w v1 := keepT4 (by assumption) hb1; (first | (with_reducible have tk := box_newk hb1) | (with_reducible have tk := box_newd hb1) | skip); have q1 : w4.heap.size ≤ v1.heap.size := Nat.le_trans (by simp) hb1.size)
        | (go_at_call 36; refine (KS.out _ (h0.m.later (And.right (And.right (And.right (by assumption)))))).mono ?_; rintro e v2 ⟨A, c, rfl, hsA, hor, hb2⟩; have Z2 : boxOf v2 w.heap.size = some (tcs u a) ∧ boxOf v2 w.heap.size = some (tcs u a) ∧ boxOf v2 (w.heap.size + 1) = some zT ∧ Below w.heap.size w v2 := keepT4 (by assumption) hb2; (first | (with_reducible have tk := box_keep2 tk hb2) | (with_reducible have tk := box_keep2n tk hb2) | (with_reducible have tk := box_newk hb2) | (with_reducible have tk := box_newd hb2) | skip); have q2 : v1.heap.size ≤ v2.heap.size := Nat.le_trans (by simp) hb2.size))
    all_goals go_wp2_with fail
    all_goals go_meet
    all_goals
      have hfa : 0 < nw.length → ∀ p, A = some p → p.block ≠ w.heap.size ∧ p.block ≠ w.heap.size + 1 := fun hn p hp => by
        rcases hor with e | f
        · have := HL.out (by rw [← HN.out]; exact hn) p (e ▸ hp); omega
        · have := f p hp; (try simp at this); omega
    all_goals
      have hoo : A = a.mA ∨ Fresh w A := hor.imp_right (fun f p hp => by have := f p hp; (try simp at this); have := hB.size; omega)
    all_goals first
      | exact ⟨_, A, c, rfl, rfl, rfl, st_new _ hsA hfa Z2.1 Z2.2.2.1 Z2.2.2.2 hoo⟩
      | exact ⟨_, A, c, rfl, rfl, rfl, st_set hsA hfa Z2.1 Z2.2.2.1 Z2.2.2.2 tk.1 rfl (by omega) (by omega) (by omega) (fun hn p hp => by
          rcases hor with e | f
          · have := HL.out (by rw [← HN.out]; exact hn) p (e ▸ hp); omega
          · have := f p hp; (try simp at this); omega) hoo⟩
  case rest =>
    obtain ⟨k, A, c, rfl, rfl, rfl, hst⟩ := hcut
    clear B1 B2 hB Z KS h
    obtain ⟨bk, sA, fa, B1, B2, hB, hoo⟩ := hst
    have hs := boxOf_lt B2
    have he : ev = 0 ∨ ev = 30 := by rw [← hev]; unfold erV; split <;> simp
    rcases he with he | he
    case inr =>
      subst he
      have H : Hid (swapV u = u) := hide (by rw [swapV, if_neg (by rw [hev]; decide)])
      clear hev hnw hqv
      go_wp2
      simp only [Exit.jump]
      have hBf : Below w.heap.size w (wc.setCells (w.heap.size + 1) 0 (tcs u a)) := by repeat first | exact hB | refine below_sets _ (by omega) _ _ _ _ ?_ | refine Below.setCell ?_ (by first | omega | (simp; omega) | simp) _ | refine Below.alloc ?_ (by first | omega | (simp; omega) | simp) _
      refine bodyPost_ret (v := .agg (tcs u a).toArray) (results_box Try.results22 _ _ (w.heap.size + 1) _ _ rfl (by simp [go_sem, B1, B2]) Try.underlying38 rfl (by kernel_rfl)) rfl (by rw [H.out]; exact ⟨a.mA, a.mc, a.lA, a.lc, rfl, h0.m.words.later hBf, .inl rfl, h0.lg.later hBf, .inl ⟨rfl, rfl⟩, hBf⟩)
    subst he
    cases qv with
    | false =>
      go_wp2
      go_step3
      exact ⟨rfl, ⟨rfl, rfl⟩, k, A, c, _, _, _, _, _, _, _, _, _, _, _, _, _, _, _, _, _, _, _, _, _, _, _, _, _, _, _, _, _, _, _, _, _, _, _, _, _, _, _, rfl, bk, sA, fa, B1, B2, hB, hoo⟩
    | true =>
      have H : Hid (swapV u = comV ({ u with ws := nw } : Tn) u.d.x) := hide (by rw [swapV, if_pos hev, if_pos hqv, hnw])
      have O2 : TnOk ({ u with ws := nw } : Tn) := ⟨o.b, o.k, o.h, o.l, o.t, o.f, o.lo, o.hi, o.tt, iws.out, o.c⟩
      clear hev hnw hqv
      go_wp2_with fail
      have hBx : Below w.heap.size w ((wc.setCell ⟨w.heap.size, 14, none⟩ (.slice A nw.length c)).setCell ⟨w.heap.size, 15, none⟩ (.slice a.mB a.bs.length a.md)) := by repeat first | exact hB | refine below_sets _ (by omega) _ _ _ _ ?_ | refine Below.setCell ?_ (by first | omega | (simp; omega) | simp) _ | refine Below.alloc ?_ (by first | omega | (simp; omega) | simp) _
      have sX : Sees ((wc.setCell ⟨w.heap.size, 14, none⟩ (.slice A nw.length c)).setCell ⟨w.heap.size, 15, none⟩ (.slice a.mB a.bs.length a.md)) ((wc.setCell ⟨w.heap.size, 14, none⟩ (.slice A nw.length c)).setCell ⟨w.heap.size, 15, none⟩ (.slice a.mB a.bs.length a.md)).heap.size 1 A nw.length (nw.map (Value.int .i64)) := (sA.own1 _ _ _ (fun hn p hp => (fa hn p hp).1)).own1 _ _ _ (fun hn p hp => (fa hn p hp).1)
      have hl := h0.later hBx
      have B2x : boxOf ((wc.setCell ⟨w.heap.size, 14, none⟩ (.slice A nw.length c)).setCell ⟨w.heap.size, 15, none⟩ (.slice a.mB a.bs.length a.md)) (w.heap.size + 1) = some zT := by simp [go_sem, B2]
      have hsx : w.heap.size + 1 < ((wc.setCell ⟨w.heap.size, 14, none⟩ (.slice A nw.length c)).setCell ⟨w.heap.size, 15, none⟩ (.slice a.mB a.bs.length a.md)).heap.size := by simpa using hs
      have hT : TnAt ((wc.setCell ⟨w.heap.size, 14, none⟩ (.slice A nw.length c)).setCell ⟨w.heap.size, 15, none⟩ (.slice a.mB a.bs.length a.md)) ({ u with ws := nw } : Tn) ({ a with mA := A, mc := c } : TA) := ⟨h0.m.words_at hBx sX HN.out, hl.bx, ⟨hl.th.b, hl.th.k, hl.th.h⟩, hl.tp, hl.lg⟩
      have HW := hide (com_ws ({ u with ws := nw } : Tn) u.d.x)
      clear B1 B2 hB hs bk sA hl
      generalize ((wc.setCell ⟨w.heap.size, 14, none⟩ (.slice A nw.length c)).setCell ⟨w.heap.size, 15, none⟩ (.slice a.mB a.bs.length a.md)) = w5 at *
      refine (commit_any ({ u with ws := nw } : Tn) ({ a with mA := A, mc := c } : TA) O2 u.d.x o.ix _ hT).mono ?_
      rintro e w6 ⟨L, l, rfl, sL, fL, hb1⟩
      have B2 := boxOf_keep B2x hb1
      have fM : ∀ p, L = some p → p.block ≠ w.heap.size + 1 := fun p hp => by have := fL p hp; omega
      replace fL : Fresh w L := fun p hp => Nat.le_trans hBx.size (fL p hp)
      have hB := below_next hBx hBx.size hb1
      have hs := Nat.lt_of_lt_of_le hsx hb1.size
      replace sX := sX.later hb1
      obtain ⟨v, hv⟩ : ∃ v, comV ({ u with ws := nw } : Tn) u.d.x = v := ⟨_, rfl⟩
      rw [hv] at H HW sL ⊢
      clear hb1 hv B2x hsx hT hBx
      go_wp2
      simp only [Exit.jump]
      have hBf : Below w.heap.size w (w6.setCells (w.heap.size + 1) 0 (tcs v ({ a with mA := A, mc := c, lA := L, lc := l }))) := by repeat first | exact hB | refine below_sets _ (by omega) _ _ _ _ ?_ | refine Below.setCell ?_ (by first | omega | (simp; omega) | simp) _ | refine Below.alloc ?_ (by first | omega | (simp; omega) | simp) _
      refine bodyPost_ret (v := .agg (tcs v ({ a with mA := A, mc := c, lA := L, lc := l })).toArray) (results_box Try.results22 _ _ (w.heap.size + 1) _ _ rfl (by simp [go_sem, B2]) Try.underlying38 rfl (by kernel_rfl)) rfl (by rw [H.out]; exact ⟨A, c, L, l, rfl, by rw [HW.out]; exact sX.setsC _ (fun hn p hp => (fa hn p hp).2) _ _, hoo, sL.setsC _ (fun _ p hp => fM p hp) _ _, .inr fL, hBf⟩)
end Go.Proofs.Ytiacgbkaflcbeaa
