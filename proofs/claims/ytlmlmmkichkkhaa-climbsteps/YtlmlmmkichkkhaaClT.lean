/- The document's Step: those that take a node; of whatever turn. -/
import Derived.Test.YtlmlmmkichkkhaaClS
import Derived.Test.YtlmlmmkichkkhaaClR
import Derived.Test.YtlmlmmkichkkhaaClE
import Derived.Test.YtlmlmmkichkkhaaClF
import Derived.Test.YtlmlmmkichkkhaaM2
import Derived.Test.YtlmlmmkichkkhaaM3
import Derived.Test.YtlmlmmkichkkhaaM6
import Derived.Lib.QuietBelow
import Derived.Deep.QuietTactic
import Derived.BigQuiet
import Derived.Deep.RegionHeld3
import Derived.Deep.RegionLaw
import Derived.Deep.Cut
namespace Go.Proofs.Ytlmlmmkichkkhaa
open Go.RowKit Go.Sort
set_option linter.unusedVariables false
set_option linter.unusedSimpArgs false

attribute [local irreducible] tcs thc ccs zT
attribute [local go_sem ↓] alTn_is alRn_is
attribute [local go_sem] run_alTnf run_alTnt run_alRnf run_alRnt zT_length
attribute [local go_sem ↓] lbTn_is lbRn_is lbTh_is lbRh_is lbCf_is lbRc_is sbTn_is sbRn_is sbTh_is sbRh_is sbCf_is sbRc_is
attribute [local go_sem] run_lbTn run_lbRn run_lbTh run_lbRh run_lbCf run_lbRc run_sbTn run_sbRn run_sbTh run_sbRh run_sbCf run_sbRc
attribute [local go_sem 2000] boxOf_old'
attribute [local go_sem] boxOf_at' boxOf_free' boxOf_alloc objBox_cells objBox_cellsA boxOf_drew boxOf_setI boxOf_setsI size_sets tcs_length thc_length ccs_length tcs_one thc_one ccs_one sub_tn sub_th sub_cf sub_thAll sub_cfAll put_turn put_thread
attribute [local go_sem] tc0 tc1 tc2 tc3 tc4 tc5 tc6 tc7 tc8 tc9 tc10 tc11 tc12 tc13 tc14 tc15 tc16 tc17 tc18 tc19 tc20 tc21 tc22 tc23 tc24 tc25 tc26 tc27 tc28 tc29 tc30 tc31 tc32 tc33 tc34 tc35 tc36 hc0 hc1 hc2 hc3 hc4 hc5 hc6 hc7 hc8 hc9 hc10 hc11 hc12 hc13 hc14 hc15 hc16 kc0 kc1 kc2 kc3 kc4 kc5 kc6 kc7 kc8 kc9 kc10 kc11 tg0 tg1 tg2 tg3 tg4 tg5 tg6 tg7 tg8 tg9 tg10 tg11 tg12 tg13 tg14 tg15 tg16 tg17 tg18 tg19 tg20 tg21 tg22 tg23 tg24 tg25 tg26 tg27 tg28 tg29 tg30 tg31 tg32 tg33 tg34 tg35 tg36 hg0 hg1 hg2 hg3 hg4 hg5 hg6 hg7 hg8 hg9 hg10 hg11 hg12 hg13 hg14 hg15 hg16 kg0 kg1 kg2 kg3 kg4 kg5 kg6 kg7 kg8 kg9 kg10 kg11
attribute [local go_sem] ts12 ts13 ts14 ts16 ts17 ts18 ts19 ts20 ts21 ts22 ts23 ts24 ts25 ts26 ts27 ts28 ts29 ts30 ts31 ts32 ts33 ts34 ts35 ts36 ts15 hs0 hs1 hs2 hs3 hs7 hs8 hs9 hs10 hs11 hs12 hs13 hs14 hs15 hs16

theorem sees_box {W : World} {b sz n : Nat} {cs : List Value} (h : boxOf W b = some cs) (hl : cs.length = n * sz) : Sees W W.heap.size sz (some ⟨b, 0, none⟩) n cs := ⟨hl, fun _ => ⟨b, 0, rfl, boxOf_lt h, fun j v hv => by rw [Nat.zero_add, boxOf_at W b j h]; exact hv⟩⟩
section
open Go
theorem at_w {P : Program} {ops : Array Oper} {o : Oper} {a : Act} {K : Act → World → Prop} {Q : Exit → Act → World → Prop} {E : Prop} (w : World) (h : if Region.wanted o (yielded ops a.tmps) = true then Oper.wp P o a w K Q else E) : if Region.wanted o (yielded ops a.tmps) = true then Oper.wp P o a w K Q else E := h
end
theorem boxOf_grown {w w' : World} {row : Option Nat} {g : Nat} {cs : List Value} (hg : w.grownBy w' row) (h : boxOf w g = some cs) (hr : some g ≠ row) : boxOf w' g = some cs := by
  have hl := boxOf_lt h
  obtain ⟨t, h⟩ := boxOf_iff.1 h
  exact boxOf_iff.2 ⟨t, (hg.block g hl hr).trans h⟩
set_option maxRecDepth 100000 in
set_option maxHeartbeats 4000000 in
theorem rstep_5 (u : Tn) (a : TA) (o : TnOk u) (ht : 0 ≤ u.tt ∧ u.tt ≤ 15) (w : World) (h : TnAt w u a) (p4 : (u.d.ph == 4) = false) (p5 : (u.d.ph == 5) = true) : Calls Try.prog 13 #[.agg (tcs u a).toArray] w (KSPost (clmV holdV u 0 (frV 1 u.tt)) true u.d.hl.length a w) := by
  have im : I64 (frV 1 u.tt) := fr_i64 (by decide) ht
  have KF := fun W => hide (rfirst_any u.tt ht W)
  obtain ⟨mine, hmine⟩ : ∃ x, frV 1 u.tt = x := ⟨_, rfl⟩
  rw [hmine] at KF im ⊢
  clear hmine
  have B1 : boxOf ((w.alloc (.cells (tcs u a).toArray 55)).alloc (.cells zT.toArray 55)) w.heap.size = some (tcs u a) := by simp [go_sem]
  have B2 : boxOf ((w.alloc (.cells (tcs u a).toArray 55)).alloc (.cells zT.toArray 55)) (w.heap.size + 1) = some zT := by simp [go_sem]
  have hs : w.heap.size + 1 < ((w.alloc (.cells (tcs u a).toArray 55)).alloc (.cells zT.toArray 55)).heap.size := by simp
  have hB : Below w.heap.size w ((w.alloc (.cells (tcs u a).toArray 55)).alloc (.cells zT.toArray 55)) := (belowN w _).alloc (by simp) _
  have h0 := h
  replace h := h.later hB
  go_enter Try.func13, Try.ntmps13
  go_wp2_with fail
  generalize ((w.alloc (.cells (tcs u a).toArray 55)).alloc (.cells zT.toArray 55)) = wz at *
  refine (rnode_u u o _).mono ?_
  rintro e wz1 ⟨rfl, hb1⟩
  replace B1 := boxOf_keep B1 hb1
  replace B2 := boxOf_keep B2 hb1
  replace hs := Nat.lt_of_lt_of_le hs hb1.size
  replace hB := below_next hB hB.size hb1
  replace h := h.later hb1
  clear hb1
  go_wp2_with fail
  generalize wz1 = wz at *
  have HL := hide (h0.m.words.block_lt)
  obtain ⟨ev, hev⟩ : ∃ x, erV u.ws.length (ndP u) = x := ⟨_, rfl⟩
  obtain ⟨nw, hnw⟩ : ∃ x, casV u.ws (ndP u) 0 mine = x := ⟨_, rfl⟩
  obtain ⟨qv, hqv⟩ : ∃ x, casB u.ws (ndP u) 0 = x := ⟨_, rfl⟩
  have HN : Hid (nw.length = u.ws.length) := hide (by rw [← hnw]; exact casV_length _ _ _ _)
  have iws : Hid (∀ x ∈ nw, I64 x) := hide (by rw [← hnw]; exact casV_i64 o.ws _ _ _ im)
  have KS := hide (fun W m => rcas_any a.mA a.mB a.mc a.md u.ws a.bs (ndP u) 0 mine W m)
  rw [hev, hnw, hqv] at KS
  generalize wz = w4 at *
  have Z : boxOf w4.drew w.heap.size = some (tcs u a) ∧ boxOf w4.drew w.heap.size = some (tcs u a) ∧ boxOf w4.drew (w.heap.size + 1) = some zT ∧ Below w.heap.size w w4.drew := ⟨by rw [boxOf_drew]; exact B1, by rw [boxOf_drew]; exact B1, by rw [boxOf_drew]; exact B2, hB.drew⟩
  go_cut [7, 8, 9] from 10 (fun p q e wc => ∃ k A c, p = .pointer (some ⟨k, 0, none⟩) ∧ q = .bool qv ∧ e = .int .i64 ev ∧ StAt w w.heap.size (w.heap.size + 1) (tcs u a) zT A nw c (.slice a.mB a.bs.length a.md) k a.mA wc)
  case first =>
    go_region_held3 (fun w' => boxOf w' w.heap.size = some (tcs u a) ∧ boxOf w' w.heap.size = some (tcs u a) ∧ boxOf w' (w.heap.size + 1) = some zT ∧ Below w.heap.size w w')
      (first | (with_reducible exact Z) | (with_reducible exact Z1) | (with_reducible exact Z2) | (with_reducible exact keepT4 (by assumption) (belowN _ _)) | (with_reducible exact keepT4s Z2 _ _ _ (by omega) (by omega) (by omega) (by omega)) | (with_reducible exact keepT4s (keepT4s Z2 _ _ _ (by omega) (by omega) (by omega) (by omega)) _ _ _ (by omega) (by omega) (by omega) (by omega)))
      (first
        | (go_at_call 40; refine ((KF _).out.mono (fun e w' ⟨h1, h2⟩ => (show IntPost mine _ e w' from ⟨h1, by rw [h2]; exact Below.refl _ _⟩))).mono ?_; rintro e v1 ⟨rfl, hb1⟩; have Z1 : boxOf v1 w.heap.size = some (tcs u a) ∧ boxOf v1 w.heap.size = some (tcs u a) ∧ boxOf v1 (w.heap.size + 1) = some zT ∧ Below w.heap.size w v1 := keepT4 (by assumption) hb1; (first | (with_reducible have tk := box_newk hb1) | (with_reducible have tk := box_newd hb1) | skip); have q1 : w4.heap.size ≤ v1.heap.size := Nat.le_trans (by simp) hb1.size)
        | (go_at_call 39; refine (KS.out _ (h0.m.later (And.right (And.right (And.right (by assumption)))))).mono ?_; rintro e v2 ⟨A, c, rfl, hsA, hor, hb2⟩; have Z2 : boxOf v2 w.heap.size = some (tcs u a) ∧ boxOf v2 w.heap.size = some (tcs u a) ∧ boxOf v2 (w.heap.size + 1) = some zT ∧ Below w.heap.size w v2 := keepT4 (by assumption) hb2; (first | (with_reducible have tk := box_keep2 tk hb2) | (with_reducible have tk := box_keep2n tk hb2) | (with_reducible have tk := box_newk hb2) | (with_reducible have tk := box_newd hb2) | skip); have q2 : v1.heap.size ≤ v2.heap.size := Nat.le_trans (by simp) hb2.size))
    all_goals go_wp2_with fail
    all_goals go_meet
    all_goals
      have hfa : 0 < nw.length → ∀ p, A = some p → p.block ≠ w.heap.size ∧ p.block ≠ w.heap.size + 1 := fun hn p hp => by
        rcases hor with e | f
        · have := HL.out (by rw [← HN.out]; exact hn) p (e ▸ hp); omega
        · have := f p hp; (try simp at this); omega
    all_goals
      have hoo : A = a.mA ∨ Fresh w A := hor.imp_right (fun f p hp => by have := f p hp; (try simp at this); have := hB.size; omega)
    all_goals first
      | exact ⟨_, A, c, rfl, rfl, rfl, st_new _ hsA hfa Z2.1 Z2.2.2.1 Z2.2.2.2 hoo⟩
      | exact ⟨_, A, c, rfl, rfl, rfl, st_set hsA hfa Z2.1 Z2.2.2.1 Z2.2.2.2 tk.1 rfl (by omega) (by omega) (by omega) (fun hn p hp => by
          rcases hor with e | f
          · have := HL.out (by rw [← HN.out]; exact hn) p (e ▸ hp); omega
          · have := f p hp; (try simp at this); omega) hoo⟩
  case rest =>
    obtain ⟨k, A, c, rfl, rfl, rfl, hst⟩ := hcut
    clear B1 B2 hB Z KS h hs
    obtain ⟨bk, sA, fa, B1, B2, hB, hoo⟩ := hst
    have hs := boxOf_lt B2
    have he : ev = 0 ∨ ev = 30 := by rw [← hev]; unfold erV; split <;> simp
    rcases he with he | he
    case inr =>
      subst he
      have HV : Hid (clmV holdV u 0 mine = u) := hide (by rw [clmV, if_neg (by rw [hev]; decide)])
      clear hev hnw hqv
      go_wp2
      have hBf : Below w.heap.size w (wc.setCells (w.heap.size + 1) 0 (tcs u a)) := by repeat first | exact hB | refine below_sets _ (by omega) _ _ _ _ ?_ | refine Below.setCell ?_ (by first | omega | (simp; omega) | simp) _ | refine Below.alloc ?_ (by first | omega | (simp; omega) | simp) _
      refine bodyPost_ret (v := .tuple #[.agg (tcs u a).toArray, .bool true]) (results_box2 Try.results13 _ _ (w.heap.size + 1) _ _ _ rfl rfl (by simp [go_sem, B1, B2]) Try.underlying55 rfl (by kernel_rfl)) rfl (by rw [HV.out]; exact ⟨a.mA, a.mc, a.p.hA, a.p.hc, rfl, h0.m.words.later hBf, .inl rfl, h0.th.h.later hBf, .inl ⟨rfl, rfl⟩, hBf⟩)
    subst he
    cases qv with
    | false =>
      have HV : Hid (clmV holdV u 0 mine = ({ u with d := { u.d with ph := 4 } } : Tn)) := hide (by rw [clmV, if_pos hev, if_neg (by rw [hqv]; decide)])
      have key : ∀ W', Below w.heap.size w W' → KSPost ({ u with d := { u.d with ph := 4 } } : Tn) true u.d.hl.length a w (.returned (.tuple #[.agg (tcs ({ u with d := { u.d with ph := 4 } } : Tn) a).toArray, .bool true])) W' := fun W' hBf => ⟨a.mA, a.mc, a.p.hA, a.p.hc, rfl, h0.m.words.later hBf, .inl rfl, h0.th.h.later hBf, .inl ⟨rfl, rfl⟩, hBf⟩
      clear hev hnw hqv
      go_wp2
      refine bodyPost_ret (v := .tuple #[.agg (tcs ({ u with d := { u.d with ph := 4 } } : Tn) a).toArray, .bool true]) (results_box2 Try.results13 _ _ (w.heap.size + 1) _ _ _ rfl rfl (by simp [go_sem, B1, B2]) Try.underlying55 rfl (by kernel_rfl)) rfl ?_
      rw [HV.out]
      exact key _ (by repeat first | exact hB | refine below_sets _ (by omega) _ _ _ _ ?_ | refine Below.setCell ?_ (by first | omega | (simp; omega) | simp) _ | refine Below.alloc ?_ (by first | omega | (simp; omega) | simp) _)
    | true =>
      obtain ⟨i0, hi0, hz0, hz1, hz2⟩ := info_parts info3
      have hnd : I64 u.d.nd := o.ind
      have hl20 := o.h
      have KP := fun W => hide (rparent_any u.d.nd hnd W)
      obtain ⟨n, hn⟩ : ∃ n, parV u.d.nd = n := ⟨_, rfl⟩
      obtain ⟨NL, hNL⟩ : ∃ N, u.d.hl ++ [u.d.nd] = N := ⟨_, rfl⟩
      have HNL := hide (show u.d.hl.length + 1 = NL.length by rw [← hNL]; simp)
      have HNC := hide (show u.d.hl.map (Value.int .i64) ++ [.int .i64 u.d.nd] = NL.map (Value.int .i64) by rw [← hNL]; simp)
      rw [hn] at KP
      have HV : (n = 0 ∧ Hid (clmV holdV u 0 mine = overV ({ u with ws := nw, d := { u.d with ph := 4, hl := NL, nd := 0 } } : Tn))) ∨ ((n == 0) = false ∧ Hid (clmV holdV u 0 mine = ({ u with ws := nw, d := { u.d with ph := 4, hl := NL, nd := n } } : Tn))) := by
        have e : clmV holdV u 0 mine = holdV ({ u with ws := nw } : Tn) := by rw [clmV, if_pos hev, if_pos hqv, hnw]
        by_cases h1 : n = 0
        · refine .inl ⟨h1, hide ?_⟩
          rw [e, holdV, if_pos (by rw [← h1]; exact hn)]
          show overV _ = _
          rw [show parV (({ u with ws := nw } : Tn)).d.nd = 0 from hn.trans h1, show (({ u with ws := nw } : Tn)).d.hl ++ [(({ u with ws := nw } : Tn)).d.nd] = NL from hNL]
          unfold overV downV; rfl
        · refine .inr ⟨beq_eq_false_iff_ne.2 h1, hide ?_⟩
          rw [e, holdV, if_neg (by rw [show parV (({ u with ws := nw } : Tn)).d.nd = n from hn]; exact h1)]
          rw [show parV (({ u with ws := nw } : Tn)).d.nd = n from hn, show (({ u with ws := nw } : Tn)).d.hl ++ [(({ u with ws := nw } : Tn)).d.nd] = NL from hNL]
      clear hev hnw hqv hn hNL
      go_wp2_with fail
      have X1 : boxOf (((wc.setCell ⟨w.heap.size, 16, none⟩ (.int .i64 4)).setCell ⟨w.heap.size, 14, none⟩ (.slice A nw.length c)).setCell ⟨w.heap.size, 15, none⟩ (.slice a.mB a.bs.length a.md)) w.heap.size = some (tcs ({ u with ws := nw, d := { u.d with ph := 4 } } : Tn) ({ a with mA := A, mc := c } : TA)) := by simp [go_sem, B1]
      have X2 : boxOf (((wc.setCell ⟨w.heap.size, 16, none⟩ (.int .i64 4)).setCell ⟨w.heap.size, 14, none⟩ (.slice A nw.length c)).setCell ⟨w.heap.size, 15, none⟩ (.slice a.mB a.bs.length a.md)) (w.heap.size + 1) = some zT := by simp [go_sem, B2]
      have hBx : Below w.heap.size w (((wc.setCell ⟨w.heap.size, 16, none⟩ (.int .i64 4)).setCell ⟨w.heap.size, 14, none⟩ (.slice A nw.length c)).setCell ⟨w.heap.size, 15, none⟩ (.slice a.mB a.bs.length a.md)) := by repeat first | exact hB | refine below_sets _ (by omega) _ _ _ _ ?_ | refine Below.setCell ?_ (by first | omega | (simp; omega) | simp) _ | refine Below.alloc ?_ (by first | omega | (simp; omega) | simp) _
      have sX : Sees (((wc.setCell ⟨w.heap.size, 16, none⟩ (.int .i64 4)).setCell ⟨w.heap.size, 14, none⟩ (.slice A nw.length c)).setCell ⟨w.heap.size, 15, none⟩ (.slice a.mB a.bs.length a.md)) (((wc.setCell ⟨w.heap.size, 16, none⟩ (.int .i64 4)).setCell ⟨w.heap.size, 14, none⟩ (.slice A nw.length c)).setCell ⟨w.heap.size, 15, none⟩ (.slice a.mB a.bs.length a.md)).heap.size 1 A nw.length (nw.map (Value.int .i64)) := ((sA.own1 _ _ _ (fun hn p hp => (fa hn p hp).1)).own1 _ _ _ (fun hn p hp => (fa hn p hp).1)).own1 _ _ _ (fun hn p hp => (fa hn p hp).1)
      have lw1 : w.heap.size + 1 < (((wc.setCell ⟨w.heap.size, 16, none⟩ (.int .i64 4)).setCell ⟨w.heap.size, 14, none⟩ (.slice A nw.length c)).setCell ⟨w.heap.size, 15, none⟩ (.slice a.mB a.bs.length a.md)).heap.size := by simpa using hs
      clear B1 B2 hB hs bk sA
      generalize (((wc.setCell ⟨w.heap.size, 16, none⟩ (.int .i64 4)).setCell ⟨w.heap.size, 14, none⟩ (.slice A nw.length c)).setCell ⟨w.heap.size, 15, none⟩ (.slice a.mB a.bs.length a.md)) = w5 at *
      have lw : w.heap.size < w5.heap.size := by omega
      have hS := h0.th.h.later hBx
      have oa : ((w5.alloc (.cells #[] 3)).drew).ownsRow w5.heap.size 3 1 (.slice (some ⟨w5.heap.size, 0, none⟩) 0 0) 0 [] := (own_empty w5 _ _ _ (Nat.le_refl _)).drew
      have ob : (((w5.alloc (.cells #[] 3)).alloc (.cells #[.int .i64 u.d.nd] 3)).drew).ownsRow w5.heap.size 3 1 (.slice (some ⟨w5.heap.size, 0, none⟩) 0 0) 0 [] := ((own_empty w5 _ _ _ (Nat.le_refl _)).alloc _).drew
      have oc : (((w5.alloc (.cells #[.int .i64 u.d.nd] 3)).alloc (.cells #[] 3)).drew).ownsRow w5.heap.size 3 1 (.slice (some ⟨w5.heap.size + 1, 0, none⟩) 0 0) 0 [] := by
        have t := (own_empty (w5.alloc (.cells #[.int .i64 u.d.nd] 3)) w5.heap.size 3 1 (by simp)).drew
        simpa using t
      have ba : Below w5.heap.size w5 ((w5.alloc (.cells #[] 3)).drew) := ((Below.refl _ w5).alloc (Nat.le_refl _) _).drew
      have bb : Below w5.heap.size w5 (((w5.alloc (.cells #[] 3)).alloc (.cells #[.int .i64 u.d.nd] 3)).drew) := (((Below.refl _ w5).alloc (Nat.le_refl _) _).alloc (by simp) _).drew
      have bc : Below w5.heap.size w5 (((w5.alloc (.cells #[.int .i64 u.d.nd] 3)).alloc (.cells #[] 3)).drew) := (((Below.refl _ w5).alloc (Nat.le_refl _) _).alloc (by simp) _).drew
      have eb : boxOf (((w5.alloc (.cells #[] 3)).alloc (.cells #[.int .i64 u.d.nd] 3)).drew) (w5.heap.size + 1) = some [.int .i64 u.d.nd] := by rw [boxOf_drew]; exact boxOf_newA _ _ _ _ (by simp)
      have ec : boxOf (((w5.alloc (.cells #[.int .i64 u.d.nd] 3)).alloc (.cells #[] 3)).drew) w5.heap.size = some [.int .i64 u.d.nd] := by rw [boxOf_drew]; exact boxOf_keep (boxOf_newA w5 #[.int .i64 u.d.nd] 3 w5.heap.size rfl) (belowN _ _)
      go_cut [8] from 82 (fun q wd => q = .bool true ∧ ∃ H l, boxOf wd w.heap.size = some (tcs ({ u with ws := nw, d := { u.d with ph := 4, hl := NL } } : Tn) ({ a with mA := A, mc := c, p := { a.p with hA := H, hc := l } } : TA)) ∧ boxOf wd (w.heap.size + 1) = some zT ∧ Sees wd wd.heap.size 1 A nw.length (nw.map (Value.int .i64)) ∧ Sees wd wd.heap.size 1 H NL.length (NL.map (Value.int .i64)) ∧ (∀ p, H = some p → w.heap.size + 1 < p.block) ∧ Below w.heap.size w wd)
      case first =>
        go_region_law (first
          | ((with_reducible refine at_w ((w5.alloc (.cells #[] 3)).drew) ?_); refine step_app (by rfl) _ _ _ (by rfl) w5.heap.size 3 i0 _ 1 8 Try.underlying24 hi0 hz0 hz1 hz2 rfl (by omega) (.slice (some ⟨w5.heap.size, 0, none⟩) 0 0) 0 [] (by rfl) oa _ a.p.hA u.d.hl.length a.p.hc _ (by rfl) (hS.later ba) (by simp [Value.oneCell']) (by unfold maxLen; omega) (by omega) ba.size ?_; intro v1 W1 hown1 hgrow1; rw [Nat.zero_add, List.nil_append] at hown1; have C1 : boxOf W1 w.heap.size = some (tcs ({ u with ws := nw, d := { u.d with ph := 4 } } : Tn) ({ a with mA := A, mc := c } : TA)) := boxOf_grown hgrow1 (boxOf_keep X1 ba) (Ne.symm (own_ne oa lw)); have C2 : boxOf W1 (w.heap.size + 1) = some zT := boxOf_grown hgrow1 (boxOf_keep X2 ba) (Ne.symm (own_ne oa lw1)); have hbw : Below w5.heap.size w5 W1 := ba.grown hgrow1 ba.size (fun k e => own_at oa k e))
          | ((with_reducible refine at_w (((w5.alloc (.cells #[] 3)).alloc (.cells #[.int .i64 u.d.nd] 3)).drew) ?_); refine step_app (by rfl) _ _ _ (by rfl) w5.heap.size 3 i0 _ 1 8 Try.underlying24 hi0 hz0 hz1 hz2 rfl (by omega) (.slice (some ⟨w5.heap.size, 0, none⟩) 0 0) 0 [] (by rfl) ob _ a.p.hA u.d.hl.length a.p.hc _ (by rfl) (hS.later bb) (by simp [Value.oneCell']) (by unfold maxLen; omega) (by omega) bb.size ?_; intro v1 W1 hown1 hgrow1; rw [Nat.zero_add, List.nil_append] at hown1; have C1 : boxOf W1 w.heap.size = some (tcs ({ u with ws := nw, d := { u.d with ph := 4 } } : Tn) ({ a with mA := A, mc := c } : TA)) := boxOf_grown hgrow1 (boxOf_keep X1 bb) (Ne.symm (own_ne ob lw)); have C2 : boxOf W1 (w.heap.size + 1) = some zT := boxOf_grown hgrow1 (boxOf_keep X2 bb) (Ne.symm (own_ne ob lw1)); have hbw : Below w5.heap.size w5 W1 := bb.grown hgrow1 bb.size (fun k e => own_at ob k e); have tk : boxOf W1 (w5.heap.size + 1) = some [.int .i64 u.d.nd] := boxOf_grown hgrow1 eb (by simp [Value.ownBlock]))
          | ((with_reducible refine at_w (((w5.alloc (.cells #[.int .i64 u.d.nd] 3)).alloc (.cells #[] 3)).drew) ?_); refine step_app (by rfl) _ _ _ (by rfl) w5.heap.size 3 i0 _ 1 8 Try.underlying24 hi0 hz0 hz1 hz2 rfl (by omega) (.slice (some ⟨w5.heap.size + 1, 0, none⟩) 0 0) 0 [] (by rfl) oc _ a.p.hA u.d.hl.length a.p.hc _ (by rfl) (hS.later bc) (by simp [Value.oneCell']) (by unfold maxLen; omega) (by omega) bc.size ?_; intro v1 W1 hown1 hgrow1; rw [Nat.zero_add, List.nil_append] at hown1; have C1 : boxOf W1 w.heap.size = some (tcs ({ u with ws := nw, d := { u.d with ph := 4 } } : Tn) ({ a with mA := A, mc := c } : TA)) := boxOf_grown hgrow1 (boxOf_keep X1 bc) (Ne.symm (own_ne oc lw)); have C2 : boxOf W1 (w.heap.size + 1) = some zT := boxOf_grown hgrow1 (boxOf_keep X2 bc) (Ne.symm (own_ne oc lw1)); have hbw : Below w5.heap.size w5 W1 := bc.grown hgrow1 bc.size (fun k e => own_at oc k e); have tk : boxOf W1 (w5.heap.size) = some [.int .i64 u.d.nd] := boxOf_grown hgrow1 ec (by simp [Value.ownBlock]))
          | ((with_reducible refine at_w (W1) ?_); refine step_app (by rfl) _ _ _ (by rfl) w5.heap.size 3 i0 _ 1 8 Try.underlying24 hi0 hz0 hz1 hz2 rfl (by omega) v1 u.d.hl.length _ (by rfl) hown1 _ _ 1 1 _ (by rfl) (sees_box tk rfl) (by simp [Value.oneCell']) (by unfold maxLen; omega) (by omega) hbw.size ?_; intro v2 W2 hown2 hgrow2; have D1 : boxOf W2 w.heap.size = some (tcs ({ u with ws := nw, d := { u.d with ph := 4 } } : Tn) ({ a with mA := A, mc := c } : TA)) := boxOf_grown hgrow2 C1 (Ne.symm (own_ne hown1 lw)); have D2 : boxOf W2 (w.heap.size + 1) = some zT := boxOf_grown hgrow2 C2 (Ne.symm (own_ne hown1 lw1)); have hbx : Below w5.heap.size w5 W2 := hbw.grown hgrow2 hbw.size (fun k e => own_at hown1 k e); obtain ⟨A', c', rfl, hc'⟩ := own_form hown2; rw [HNL.out] at hown2 hc' ⊢)
          | ((with_reducible refine at_w ((W1.alloc (.cells #[.int .i64 u.d.nd] 3))) ?_); refine step_app (by rfl) _ _ _ (by rfl) w5.heap.size 3 i0 _ 1 8 Try.underlying24 hi0 hz0 hz1 hz2 rfl (by omega) v1 u.d.hl.length _ (by rfl) (hown1.alloc _) _ _ 1 1 _ (by rfl) (sees_box (boxOf_newA W1 #[.int .i64 u.d.nd] 3 W1.heap.size rfl) rfl) (by simp [Value.oneCell']) (by unfold maxLen; omega) (by omega) (hbw.alloc hbw.size _).size ?_; intro v2 W2 hown2 hgrow2; have D1 : boxOf W2 w.heap.size = some (tcs ({ u with ws := nw, d := { u.d with ph := 4 } } : Tn) ({ a with mA := A, mc := c } : TA)) := boxOf_grown hgrow2 (boxOf_keep C1 (belowN _ _)) (Ne.symm (own_ne hown1 lw)); have D2 : boxOf W2 (w.heap.size + 1) = some zT := boxOf_grown hgrow2 (boxOf_keep C2 (belowN _ _)) (Ne.symm (own_ne hown1 lw1)); have hbx : Below w5.heap.size w5 W2 := (hbw.alloc hbw.size _).grown hgrow2 (hbw.alloc hbw.size _).size (fun k e => own_at hown1 k e); obtain ⟨A', c', rfl, hc'⟩ := own_form hown2; rw [HNL.out] at hown2 hc' ⊢))
        all_goals
          go_wp2_with fail
          go_meet
          have fH : ∀ p, A' = some p → w.heap.size + 1 < p.block := fun p hp => by have := fresh_own hown2 p hp; omega
          have hbf := below_next hBx hBx.size hbx
          have s2 := Sees.of_own hown2
          rw [HNC.out] at s2
          exact ⟨rfl, A', c', (boxOf_set _ _ 22 _ D1).trans (congrArg some (ts22 _ _ _ _ _)), by rw [boxOf_far _ _ _ _ (by simp)]; exact D2, (sX.later hbx).own1 _ _ _ (fun hn p hp => (fa hn p hp).1), s2.own1 _ _ _ (fun _ p hp => by have := fH p hp; omega), fH, hbf.setCell (by simp) _⟩
      case rest =>
        obtain ⟨rfl, H, l, D1, D2, sN, sH, fH, hB⟩ := hcut
        have hs := boxOf_lt D2
        clear oa ob oc ba bb bc eb ec X1 X2 sX lw lw1 hS hBx
        go_wp2_with fail
        refine (KP _).out.mono ?_
        rintro e w6 ⟨rfl, hb1⟩
        replace D1 := boxOf_keep D1 hb1
        replace D2 := boxOf_keep D2 hb1
        replace hB := below_next hB hB.size hb1
        replace hs := Nat.lt_of_lt_of_le hs hb1.size
        replace sN := sN.later hb1
        replace sH := sH.later hb1
        clear hb1 KP
        rcases HV with ⟨h1, HV⟩ | ⟨h1, HV⟩
        · subst h1
          go_wp2_with fail
          have HW := hide (over_ws ({ u with ws := nw, d := { u.d with ph := 4, hl := NL, nd := 0 } } : Tn))
          have HH := hide (over_hl ({ u with ws := nw, d := { u.d with ph := 4, hl := NL, nd := 0 } } : Tn))
          have hBm : Below w.heap.size w (w6.setCell ⟨w.heap.size, 24, none⟩ (.int .i64 0)) := hB.setCell (by simp) _
          have sNm : Sees (w6.setCell ⟨w.heap.size, 24, none⟩ (.int .i64 0)) (w6.setCell ⟨w.heap.size, 24, none⟩ (.int .i64 0)).heap.size 1 A nw.length (nw.map (Value.int .i64)) := sN.own1 _ _ _ (fun hn p hp => (fa hn p hp).1)
          have sHm : Sees (w6.setCell ⟨w.heap.size, 24, none⟩ (.int .i64 0)) (w6.setCell ⟨w.heap.size, 24, none⟩ (.int .i64 0)).heap.size 1 H NL.length (NL.map (Value.int .i64)) := sH.own1 _ _ _ (fun _ p hp => by have := fH p hp; omega)
          have D2m : boxOf (w6.setCell ⟨w.heap.size, 24, none⟩ (.int .i64 0)) (w.heap.size + 1) = some zT := by simp [go_sem, D2]
          have hsm : w.heap.size + 1 < (w6.setCell ⟨w.heap.size, 24, none⟩ (.int .i64 0)).heap.size := by simpa using hs
          clear D1 D2 hB hs sN sH
          generalize (w6.setCell ⟨w.heap.size, 24, none⟩ (.int .i64 0)) = w7 at *
          refine (rover_any ({ u with ws := nw, d := { u.d with ph := 4, hl := NL, nd := 0 } } : Tn) ({ a with mA := A, mc := c, p := { a.p with hA := H, hc := l } } : TA) _).mono ?_
          rintro e w8 ⟨rfl, hb1⟩
          have B2 := boxOf_keep D2m hb1
          have hB := below_next hBm hBm.size hb1
          have hs := Nat.lt_of_lt_of_le hsm hb1.size
          replace sNm := sNm.later hb1
          replace sHm := sHm.later hb1
          obtain ⟨v, hv⟩ : ∃ v, overV ({ u with ws := nw, d := { u.d with ph := 4, hl := NL, nd := 0 } } : Tn) = v := ⟨_, rfl⟩
          rw [hv] at HV HW HH ⊢
          clear hb1 hv D2m hsm hBm
          go_wp2
          have hBf : Below w.heap.size w (w8.setCells (w.heap.size + 1) 0 (tcs v ({ a with mA := A, mc := c, p := { a.p with hA := H, hc := l } } : TA))) := by repeat first | exact hB | refine below_sets _ (by omega) _ _ _ _ ?_ | refine Below.setCell ?_ (by first | omega | (simp; omega) | simp) _ | refine Below.alloc ?_ (by first | omega | (simp; omega) | simp) _
          refine bodyPost_ret (v := .tuple #[.agg (tcs v ({ a with mA := A, mc := c, p := { a.p with hA := H, hc := l } } : TA)).toArray, .bool true]) (results_box2 Try.results13 _ _ (w.heap.size + 1) _ _ _ rfl rfl (by simp [go_sem, B2]) Try.underlying55 rfl (by kernel_rfl)) rfl ?_
          rw [HV.out]
          exact ⟨A, c, H, l, rfl, by rw [HW.out]; exact sNm.setsC _ (fun hn p hp => (fa hn p hp).2) _ _, hoo, by rw [HH.out]; exact sHm.setsC _ (fun _ p hp => by have := fH p hp; omega) _ _, .inr (fun p hp => by have := fH p hp; omega), hBf⟩
        · have key : ∀ W', Below w.heap.size w W' → Sees W' W'.heap.size 1 A nw.length (nw.map (Value.int .i64)) → Sees W' W'.heap.size 1 H NL.length (NL.map (Value.int .i64)) → KSPost ({ u with ws := nw, d := { u.d with ph := 4, hl := NL, nd := n } } : Tn) true u.d.hl.length a w (.returned (.tuple #[.agg (tcs ({ u with ws := nw, d := { u.d with ph := 4, hl := NL, nd := n } } : Tn) ({ a with mA := A, mc := c, p := { a.p with hA := H, hc := l } } : TA)).toArray, .bool true])) W' := fun W' hBf s1 s2 => ⟨A, c, H, l, rfl, s1, hoo, s2, .inr (fun p hp => by have := fH p hp; omega), hBf⟩
          go_wp2
          refine bodyPost_ret (v := .tuple #[.agg (tcs ({ u with ws := nw, d := { u.d with ph := 4, hl := NL, nd := n } } : Tn) ({ a with mA := A, mc := c, p := { a.p with hA := H, hc := l } } : TA)).toArray, .bool true]) (results_box2 Try.results13 _ _ (w.heap.size + 1) _ _ _ rfl rfl (by simp [go_sem, D2]) Try.underlying55 rfl (by kernel_rfl)) rfl ?_
          rw [HV.out]
          exact key _ (by repeat first | exact hB | refine below_sets _ (by omega) _ _ _ _ ?_ | refine Below.setCell ?_ (by first | omega | (simp; omega) | simp) _ | refine Below.alloc ?_ (by first | omega | (simp; omega) | simp) _) ((sN.own1 _ _ _ (fun hn p hp => (fa hn p hp).1)).setsC _ (fun hn p hp => (fa hn p hp).2) _ _) ((sH.own1 _ _ _ (fun _ p hp => by have := fH p hp; omega)).setsC _ (fun _ p hp => by have := fH p hp; omega) _ _)
/-- The document's step of whatever turn. -/
theorem rstep_any (u : Tn) (a : TA) (o : TnOk u) (ht : 0 ≤ u.tt ∧ u.tt ≤ 15) (w : World) (h : TnAt w u a) : Calls Try.prog 13 #[.agg (tcs u a).toArray] w (KSPost (stepK u) (isK u) u.d.hl.length a w) := by
  by_cases h1 : u.d.ph = 4
  · have e1 : stepK u = lookK u := by rw [stepK, if_pos h1]
    have e2 : isK u = true := by simp [isK, h1]
    rw [e1, e2]
    exact (rstep_4 u a o w h (by simpa using h1)).mono fun e w' ⟨he, hb⟩ => ⟨a.mA, a.mc, a.p.hA, a.p.hc, he, by rw [lookk_ws]; exact h.m.words.later hb, .inl rfl, by rw [lookk_hl]; exact h.th.h.later hb, .inl ⟨rfl, by rw [lookk_hl]⟩, hb⟩
  by_cases h2 : u.d.ph = 5
  · have e1 : stepK u = clmV holdV u 0 (frV 1 u.tt) := by rw [stepK, if_neg h1, if_pos h2]
    have e2 : isK u = true := by simp [isK, h2]
    rw [e1, e2]
    exact rstep_5 u a o ht w h (by simpa using h1) (by simpa using h2)
  by_cases h3 : u.d.ph = 6
  · have e1 : stepK u = clmV wonV u u.d.x (frV 2 u.tt) := by rw [stepK, if_neg h1, if_neg h2, if_pos h3]
    have e2 : isK u = true := by simp [isK, h3]
    rw [e1, e2]
    exact rstep_6 u a o ht w h (by simpa using h1) (by simpa using h2) (by simpa using h3)
  have e1 : stepK u = u := by rw [stepK, if_neg h1, if_neg h2, if_neg h3]
  have e2 : isK u = false := by simp [isK, h1, h2, h3]
  rw [e1, e2]
  exact (rstep_n u a o w h (by simpa using h1) (by simpa using h2) (by simpa using h3)).mono fun e w' ⟨he, hb⟩ => ⟨a.mA, a.mc, a.p.hA, a.p.hc, he, h.m.words.later hb, .inl rfl, h.th.h.later hb, .inl ⟨rfl, rfl⟩, hb⟩
theorem rstep_at (u : Tn) (a : TA) (o : TnOk u) (ht : 0 ≤ u.tt ∧ u.tt ≤ 15) (w : World) (h : TnAt w u a) : Calls Try.prog 13 #[.agg (tcs u a).toArray] w (KsPost (stepK u) (isK u) u.d.hl.length a w) :=
  (rstep_any u a o ht w h).mono fun _ _ p => ks_of (step_like u) h p
end Go.Proofs.Ytlmlmmkichkkhaa
