/- The document's steps: what is stored, compared, swapped; spins; Onward. -/
import Derived.Test.YtjghdbkkjhnpfaaGreatCoF
import Derived.Test.YtjghdbkkjhnpfaaGreatClA
import Derived.Test.YtjghdbkkjhnpfaaGreatArT
import Derived.Test.YtjghdbkkjhnpfaaGreatM2
import Derived.Test.YtjghdbkkjhnpfaaGreatM6
import Derived.Test.YtjghdbkkjhnpfaaGreatTapeS
import Derived.Lib.QuietBelow
import Derived.Deep.QuietTactic
import Derived.BigQuiet
import Derived.Deep.RegionHeld3
import Derived.Deep.Cut
namespace Go.Proofs.YtjghdbkkjhnpfaaGreat
open Go.RowKit Go.Sort
set_option linter.unusedVariables false
set_option linter.unusedSimpArgs false

/-- A turn whose words may lie elsewhere. -/
def WtPost (v : Tn) (a : TA) (w : World) (e : Ending) (w' : World) : Prop := ∃ A c, e = .returned (.agg (tcs v ({ a with mA := A, mc := c } : TA)).toArray) ∧ Sees w' w'.heap.size 1 A v.ws.length (v.ws.map (Value.int .i64)) ∧ (A = a.mA ∨ Fresh w A) ∧ Below w.heap.size w w'
attribute [local irreducible] tcs thc ccs zT
attribute [local go_sem ↓] alTn_is alRn_is
attribute [local go_sem] run_alTnf run_alTnt run_alRnf run_alRnt zT_length
attribute [local go_sem ↓] lbTn_is lbRn_is lbTh_is lbRh_is lbCf_is lbRc_is sbTn_is sbRn_is sbTh_is sbRh_is sbCf_is sbRc_is
attribute [local go_sem] run_lbTn run_lbRn run_lbTh run_lbRh run_lbCf run_lbRc run_sbTn run_sbRn run_sbTh run_sbRh run_sbCf run_sbRc
attribute [local go_sem 2000] boxOf_old'
attribute [local go_sem] boxOf_at' boxOf_free' boxOf_alloc objBox_cells objBox_cellsA boxOf_drew boxOf_setI boxOf_setsI size_sets tcs_length thc_length ccs_length tcs_one thc_one ccs_one sub_tn sub_th sub_cf sub_thAll sub_cfAll put_turn put_thread
attribute [local go_sem] tc0 tc1 tc2 tc3 tc4 tc5 tc6 tc7 tc8 tc9 tc10 tc11 tc12 tc13 tc14 tc15 tc16 tc17 tc18 tc19 tc20 tc21 tc22 tc23 tc24 tc25 tc26 tc27 tc28 tc29 tc30 tc31 tc32 tc33 tc34 tc35 tc36 hc0 hc1 hc2 hc3 hc4 hc5 hc6 hc7 hc8 hc9 hc10 hc11 hc12 hc13 hc14 hc15 hc16 kc0 kc1 kc2 kc3 kc4 kc5 kc6 kc7 kc8 kc9 kc10 kc11 tg0 tg1 tg2 tg3 tg4 tg5 tg6 tg7 tg8 tg9 tg10 tg11 tg12 tg13 tg14 tg15 tg16 tg17 tg18 tg19 tg20 tg21 tg22 tg23 tg24 tg25 tg26 tg27 tg28 tg29 tg30 tg31 tg32 tg33 tg34 tg35 tg36 hg0 hg1 hg2 hg3 hg4 hg5 hg6 hg7 hg8 hg9 hg10 hg11 hg12 hg13 hg14 hg15 hg16 kg0 kg1 kg2 kg3 kg4 kg5 kg6 kg7 kg8 kg9 kg10 kg11
attribute [local go_sem] ts12 ts13 ts14 ts16 ts17 ts18 ts19 ts20 ts21 ts22 ts23 ts24 ts25 ts26 ts27 ts28 ts29 ts30 ts31 ts32 ts33 ts34 ts35 ts36 ts15 hs0 hs1 hs2 hs3 hs7 hs8 hs9 hs10 hs11 hs12 hs13 hs14 hs15 hs16

set_option maxRecDepth 100000 in
set_option maxHeartbeats 4000000 in
theorem rstored_19 (u : Tn) (a : TA) (o : TnOk u) (ht : 0 ≤ u.tt ∧ u.tt ≤ 15) (hi : 0 ≤ u.d.it ∧ u.d.it ≤ 3) (hl : 1 ≤ u.d.ly ∧ u.d.ly ≤ 3) (w : World) (h : TnAt w u a) : Calls Tryz.prog 18 #[.agg (tcs u a).toArray, .int .i64 19] w (WtPost (opnC u) a w) := by
  have B1 : boxOf ((w.alloc (.cells (tcs u a).toArray 55)).alloc (.cells zT.toArray 55)) w.heap.size = some (tcs u a) := by simp [go_sem]
  have B2 : boxOf ((w.alloc (.cells (tcs u a).toArray 55)).alloc (.cells zT.toArray 55)) (w.heap.size + 1) = some zT := by simp [go_sem]
  have hs : w.heap.size + 1 < ((w.alloc (.cells (tcs u a).toArray 55)).alloc (.cells zT.toArray 55)).heap.size := by simp
  have hB : Below w.heap.size w ((w.alloc (.cells (tcs u a).toArray 55)).alloc (.cells zT.toArray 55)) := (belowN w _).alloc (by simp) _
  have h0 := h
  replace h := h.later hB
  go_enter Tryz.func18, Tryz.ntmps18
  go_wp2_with fail
  generalize ((w.alloc (.cells (tcs u a).toArray 55)).alloc (.cells zT.toArray 55)) = wz at *
  generalize wz = w4 at *
  have HL := hide (h0.m.words.block_lt)
  have KO := fun W => hide (ropen_any u.d.it u.d.ly hi hl W)
  rw [show opV u.d.it u.d.ly = opW u from rfl] at KO
  obtain ⟨ov, hov⟩ : ∃ x, opW u = x := ⟨_, rfl⟩
  rw [hov] at KO
  have KL := hide (fun W => rline_tn u.c o.c u.tt o.tt W)
  obtain ⟨lv, hlv⟩ : ∃ x, lnV u.c u.tt = x := ⟨_, rfl⟩
  rw [hlv] at KL
  obtain ⟨ev, hev⟩ : ∃ x, erV u.ws.length lv = x := ⟨_, rfl⟩
  obtain ⟨nw, hnw⟩ : ∃ x, stV u.ws lv ov = x := ⟨_, rfl⟩
  have HN : Hid (nw.length = u.ws.length) := hide (by rw [← hnw]; exact stV_length _ _ _)
  have KS := hide (fun W m => rstore_any a.mA a.mB a.mc a.md u.ws a.bs lv ov W m)
  rw [hev, hnw] at KS
  have HV : (ev = 0 ∧ Hid (opnC u = ({ u with ws := nw, d := { u.d with ph := 19 } } : Tn))) ∨ (ev = 30 ∧ Hid (opnC u = u)) := by
    have he : ev = 0 ∨ ev = 30 := by rw [← hev]; unfold erV; split <;> simp
    rcases he with he | he
    · exact .inl ⟨he, hide (by rw [opnC, hlv, if_pos (by rw [hev]; exact he)]; simp only [stW, hlv, hov, hnw])⟩
    · exact .inr ⟨he, hide (by rw [opnC, hlv, if_neg (by rw [hev, he]; decide)])⟩
  clear hev hnw hlv hov
  have Z : boxOf w4.drew w.heap.size = some (tcs u a) ∧ boxOf w4.drew w.heap.size = some (tcs u a) ∧ boxOf w4.drew (w.heap.size + 1) = some zT ∧ Below w.heap.size w w4.drew := ⟨by rw [boxOf_drew]; exact B1, by rw [boxOf_drew]; exact B1, by rw [boxOf_drew]; exact B2, hB.drew⟩
  go_cut [5, 6] from 7 (fun p e wc => ∃ k A c, p = .pointer (some ⟨k, 0, none⟩) ∧ e = .int .i64 ev ∧ StAt w w.heap.size (w.heap.size + 1) (tcs u a) zT A nw c (.slice a.mB a.bs.length a.md) k a.mA wc)
  case first =>
    go_region_held3 (fun w' => boxOf w' w.heap.size = some (tcs u a) ∧ boxOf w' w.heap.size = some (tcs u a) ∧ boxOf w' (w.heap.size + 1) = some zT ∧ Below w.heap.size w w')
      (first | (with_reducible exact Z) | (with_reducible exact Z1) | (with_reducible exact Z2) | (with_reducible exact keepT4 (by assumption) (belowN _ _)) | (with_reducible exact keepT4s Z2 _ _ _ (by omega) (by omega) (by omega) (by omega)) | (with_reducible exact keepT4s (keepT4s Z2 _ _ _ (by omega) (by omega) (by omega) (by omega)) _ _ _ (by omega) (by omega) (by omega) (by omega)))
      (first
        | (go_at_call 52; refine (KL.out _).mono ?_; rintro e v1 ⟨rfl, hb1⟩; have Z1 : boxOf v1 w.heap.size = some (tcs u a) ∧ boxOf v1 w.heap.size = some (tcs u a) ∧ boxOf v1 (w.heap.size + 1) = some zT ∧ Below w.heap.size w v1 := keepT4 (by assumption) hb1; (first | (with_reducible have tk := box_newk hb1) | (with_reducible have tk := box_newd hb1) | skip); have q1 : w4.heap.size ≤ v1.heap.size := Nat.le_trans (by simp) hb1.size)
        | (go_at_call 53; refine (KO _).out.mono ?_; rintro e v9 ⟨rfl, rfl⟩)
        | (go_at_call 51; refine (KS.out _ (h0.m.later (And.right (And.right (And.right (by assumption)))))).mono ?_; rintro e v2 ⟨A, c, rfl, hsA, hor, hb2⟩; have Z2 : boxOf v2 w.heap.size = some (tcs u a) ∧ boxOf v2 w.heap.size = some (tcs u a) ∧ boxOf v2 (w.heap.size + 1) = some zT ∧ Below w.heap.size w v2 := keepT4 (by assumption) hb2; (first | (with_reducible have tk := box_keep2 tk hb2) | (with_reducible have tk := box_keep2n tk hb2) | (with_reducible have tk := box_newk hb2) | (with_reducible have tk := box_newd hb2) | skip); have q2 : w4.heap.size ≤ v2.heap.size := Nat.le_trans q1 (Nat.le_trans (by simp) hb2.size)))
    all_goals go_wp2_with fail
    all_goals go_meet
    all_goals
      have hfa : 0 < nw.length → ∀ p, A = some p → p.block ≠ w.heap.size ∧ p.block ≠ w.heap.size + 1 := fun hn p hp => by
        rcases hor with e | f
        · have := HL.out (by rw [← HN.out]; exact hn) p (e ▸ hp); omega
        · have := f p hp; (try simp at this); omega
    all_goals
      have hoo : A = a.mA ∨ Fresh w A := hor.imp_right (fun f p hp => by have := f p hp; (try simp at this); have := hB.size; omega)
    all_goals first
      | exact ⟨_, A, c, rfl, rfl, st_new _ hsA hfa Z2.1 Z2.2.2.1 Z2.2.2.2 hoo⟩
      | exact ⟨_, A, c, rfl, rfl, st_set hsA hfa Z2.1 Z2.2.2.1 Z2.2.2.2 tk.1 rfl (by omega) (by omega) (by omega) (fun hn p hp => by
          rcases hor with e | f
          · have := HL.out (by rw [← HN.out]; exact hn) p (e ▸ hp); omega
          · have := f p hp; (try simp at this); omega) hoo⟩
  case rest =>
    obtain ⟨k, A, c, rfl, rfl, hst⟩ := hcut
    clear B1 B2 hB Z KS h hs
    obtain ⟨bk, sA, fa, B1, B2, hB, hoo⟩ := hst
    have hs := boxOf_lt B2
    rcases HV with ⟨rfl, HV⟩ | ⟨rfl, HV⟩
    · have key : ∀ W', Below w.heap.size w W' → Sees W' W'.heap.size 1 A nw.length (nw.map (Value.int .i64)) → WtPost ({ u with ws := nw, d := { u.d with ph := 19 } } : Tn) a w (.returned (.agg (tcs ({ u with ws := nw, d := { u.d with ph := 19 } } : Tn) ({ a with mA := A, mc := c } : TA)).toArray)) W' := fun W' hb s => ⟨A, c, rfl, s, hoo, hb⟩
      go_wp2
      refine bodyPost_ret (v := .agg (tcs ({ u with ws := nw, d := { u.d with ph := 19 } } : Tn) ({ a with mA := A, mc := c } : TA)).toArray) (results_box Tryz.results18 _ _ (w.heap.size + 1) _ _ rfl (by simp [go_sem, B1, B2]) Tryz.underlying55 rfl (by kernel_rfl)) rfl ?_
      rw [HV.out]
      exact key _ (by repeat first | exact hB | refine below_sets _ (by omega) _ _ _ _ ?_ | refine Below.setCell ?_ (by first | omega | (simp; omega) | simp) _ | refine Below.alloc ?_ (by first | omega | (simp; omega) | simp) _) (by repeat first | exact sA | refine Sees.own1 ?_ _ _ _ (fun hn p hp => by first | exact (fa hn p hp).1 | exact (fa hn p hp).2) | refine Sees.setsC ?_ _ (fun hn p hp => by first | exact (fa hn p hp).2 | exact (fa hn p hp).1) _ _)
    · have key : ∀ W', Below w.heap.size w W' → WtPost u a w (.returned (.agg (tcs u a).toArray)) W' := fun W' hBf => ⟨a.mA, a.mc, rfl, h0.m.words.later hBf, .inl rfl, hBf⟩
      go_wp2
      refine bodyPost_ret (v := .agg (tcs u a).toArray) (results_box Tryz.results18 _ _ (w.heap.size + 1) _ _ rfl (by simp [go_sem, B1, B2]) Tryz.underlying55 rfl (by kernel_rfl)) rfl ?_
      rw [HV.out]
      exact key _ (by repeat first | exact hB | refine below_sets _ (by omega) _ _ _ _ ?_ | refine Below.setCell ?_ (by first | omega | (simp; omega) | simp) _ | refine Below.alloc ?_ (by first | omega | (simp; omega) | simp) _)
set_option maxRecDepth 100000 in
set_option maxHeartbeats 4000000 in
theorem rstored_23 (u : Tn) (a : TA) (o : TnOk u) (ht : 0 ≤ u.tt ∧ u.tt ≤ 15) (hi : 0 ≤ u.d.it ∧ u.d.it ≤ 3) (hl : 1 ≤ u.d.ly ∧ u.d.ly ≤ 3) (w : World) (h : TnAt w u a) : Calls Tryz.prog 18 #[.agg (tcs u a).toArray, .int .i64 23] w (WtPost (reoC u) a w) := by
  have B1 : boxOf ((w.alloc (.cells (tcs u a).toArray 55)).alloc (.cells zT.toArray 55)) w.heap.size = some (tcs u a) := by simp [go_sem]
  have B2 : boxOf ((w.alloc (.cells (tcs u a).toArray 55)).alloc (.cells zT.toArray 55)) (w.heap.size + 1) = some zT := by simp [go_sem]
  have hs : w.heap.size + 1 < ((w.alloc (.cells (tcs u a).toArray 55)).alloc (.cells zT.toArray 55)).heap.size := by simp
  have hB : Below w.heap.size w ((w.alloc (.cells (tcs u a).toArray 55)).alloc (.cells zT.toArray 55)) := (belowN w _).alloc (by simp) _
  have h0 := h
  replace h := h.later hB
  go_enter Tryz.func18, Tryz.ntmps18
  go_wp2_with fail
  generalize ((w.alloc (.cells (tcs u a).toArray 55)).alloc (.cells zT.toArray 55)) = wz at *
  generalize wz = w4 at *
  have HL := hide (h0.m.words.block_lt)
  have KO := fun W => hide (ropen_any u.d.it u.d.ly hi hl W)
  rw [show opV u.d.it u.d.ly = opW u from rfl] at KO
  obtain ⟨ov, hov⟩ : ∃ x, opW u = x := ⟨_, rfl⟩
  rw [hov] at KO
  have KL := hide (fun W => rline_tn u.c o.c u.tt o.tt W)
  obtain ⟨lv, hlv⟩ : ∃ x, lnV u.c u.tt = x := ⟨_, rfl⟩
  rw [hlv] at KL
  obtain ⟨ev, hev⟩ : ∃ x, erV u.ws.length lv = x := ⟨_, rfl⟩
  obtain ⟨nw, hnw⟩ : ∃ x, stV u.ws lv ov = x := ⟨_, rfl⟩
  have HN : Hid (nw.length = u.ws.length) := hide (by rw [← hnw]; exact stV_length _ _ _)
  have KS := hide (fun W m => rstore_any a.mA a.mB a.mc a.md u.ws a.bs lv ov W m)
  rw [hev, hnw] at KS
  have HV : (ev = 0 ∧ Hid (reoC u = ({ u with ws := nw, d := { u.d with lf := u.c.x6, ph := 23 } } : Tn))) ∨ (ev = 30 ∧ Hid (reoC u = u)) := by
    have he : ev = 0 ∨ ev = 30 := by rw [← hev]; unfold erV; split <;> simp
    rcases he with he | he
    · exact .inl ⟨he, hide (by rw [reoC, hlv, if_pos (by rw [hev]; exact he)]; simp only [spnV, stW, hlv, hov, hnw])⟩
    · exact .inr ⟨he, hide (by rw [reoC, hlv, if_neg (by rw [hev, he]; decide)])⟩
  clear hev hnw hlv hov
  have Z : boxOf w4.drew w.heap.size = some (tcs u a) ∧ boxOf w4.drew w.heap.size = some (tcs u a) ∧ boxOf w4.drew (w.heap.size + 1) = some zT ∧ Below w.heap.size w w4.drew := ⟨by rw [boxOf_drew]; exact B1, by rw [boxOf_drew]; exact B1, by rw [boxOf_drew]; exact B2, hB.drew⟩
  go_cut [5, 6] from 7 (fun p e wc => ∃ k A c, p = .pointer (some ⟨k, 0, none⟩) ∧ e = .int .i64 ev ∧ StAt w w.heap.size (w.heap.size + 1) (tcs u a) zT A nw c (.slice a.mB a.bs.length a.md) k a.mA wc)
  case first =>
    go_region_held3 (fun w' => boxOf w' w.heap.size = some (tcs u a) ∧ boxOf w' w.heap.size = some (tcs u a) ∧ boxOf w' (w.heap.size + 1) = some zT ∧ Below w.heap.size w w')
      (first | (with_reducible exact Z) | (with_reducible exact Z1) | (with_reducible exact Z2) | (with_reducible exact keepT4 (by assumption) (belowN _ _)) | (with_reducible exact keepT4s Z2 _ _ _ (by omega) (by omega) (by omega) (by omega)) | (with_reducible exact keepT4s (keepT4s Z2 _ _ _ (by omega) (by omega) (by omega) (by omega)) _ _ _ (by omega) (by omega) (by omega) (by omega)))
      (first
        | (go_at_call 52; refine (KL.out _).mono ?_; rintro e v1 ⟨rfl, hb1⟩; have Z1 : boxOf v1 w.heap.size = some (tcs u a) ∧ boxOf v1 w.heap.size = some (tcs u a) ∧ boxOf v1 (w.heap.size + 1) = some zT ∧ Below w.heap.size w v1 := keepT4 (by assumption) hb1; (first | (with_reducible have tk := box_newk hb1) | (with_reducible have tk := box_newd hb1) | skip); have q1 : w4.heap.size ≤ v1.heap.size := Nat.le_trans (by simp) hb1.size)
        | (go_at_call 53; refine (KO _).out.mono ?_; rintro e v9 ⟨rfl, rfl⟩)
        | (go_at_call 51; refine (KS.out _ (h0.m.later (And.right (And.right (And.right (by assumption)))))).mono ?_; rintro e v2 ⟨A, c, rfl, hsA, hor, hb2⟩; have Z2 : boxOf v2 w.heap.size = some (tcs u a) ∧ boxOf v2 w.heap.size = some (tcs u a) ∧ boxOf v2 (w.heap.size + 1) = some zT ∧ Below w.heap.size w v2 := keepT4 (by assumption) hb2; (first | (with_reducible have tk := box_keep2 tk hb2) | (with_reducible have tk := box_keep2n tk hb2) | (with_reducible have tk := box_newk hb2) | (with_reducible have tk := box_newd hb2) | skip); have q2 : w4.heap.size ≤ v2.heap.size := Nat.le_trans q1 (Nat.le_trans (by simp) hb2.size)))
    all_goals go_wp2_with fail
    all_goals go_meet
    all_goals
      have hfa : 0 < nw.length → ∀ p, A = some p → p.block ≠ w.heap.size ∧ p.block ≠ w.heap.size + 1 := fun hn p hp => by
        rcases hor with e | f
        · have := HL.out (by rw [← HN.out]; exact hn) p (e ▸ hp); omega
        · have := f p hp; (try simp at this); omega
    all_goals
      have hoo : A = a.mA ∨ Fresh w A := hor.imp_right (fun f p hp => by have := f p hp; (try simp at this); have := hB.size; omega)
    all_goals first
      | exact ⟨_, A, c, rfl, rfl, st_new _ hsA hfa Z2.1 Z2.2.2.1 Z2.2.2.2 hoo⟩
      | exact ⟨_, A, c, rfl, rfl, st_set hsA hfa Z2.1 Z2.2.2.1 Z2.2.2.2 tk.1 rfl (by omega) (by omega) (by omega) (fun hn p hp => by
          rcases hor with e | f
          · have := HL.out (by rw [← HN.out]; exact hn) p (e ▸ hp); omega
          · have := f p hp; (try simp at this); omega) hoo⟩
  case rest =>
    obtain ⟨k, A, c, rfl, rfl, hst⟩ := hcut
    clear B1 B2 hB Z KS h hs
    obtain ⟨bk, sA, fa, B1, B2, hB, hoo⟩ := hst
    have hs := boxOf_lt B2
    rcases HV with ⟨rfl, HV⟩ | ⟨rfl, HV⟩
    · have key : ∀ W', Below w.heap.size w W' → Sees W' W'.heap.size 1 A nw.length (nw.map (Value.int .i64)) → WtPost ({ u with ws := nw, d := { u.d with lf := u.c.x6, ph := 23 } } : Tn) a w (.returned (.agg (tcs ({ u with ws := nw, d := { u.d with lf := u.c.x6, ph := 23 } } : Tn) ({ a with mA := A, mc := c } : TA)).toArray)) W' := fun W' hb s => ⟨A, c, rfl, s, hoo, hb⟩
      go_wp2
      refine bodyPost_ret (v := .agg (tcs ({ u with ws := nw, d := { u.d with lf := u.c.x6, ph := 23 } } : Tn) ({ a with mA := A, mc := c } : TA)).toArray) (results_box Tryz.results18 _ _ (w.heap.size + 1) _ _ rfl (by simp [go_sem, B1, B2]) Tryz.underlying55 rfl (by kernel_rfl)) rfl ?_
      rw [HV.out]
      exact key _ (by repeat first | exact hB | refine below_sets _ (by omega) _ _ _ _ ?_ | refine Below.setCell ?_ (by first | omega | (simp; omega) | simp) _ | refine Below.alloc ?_ (by first | omega | (simp; omega) | simp) _) (by repeat first | exact sA | refine Sees.own1 ?_ _ _ _ (fun hn p hp => by first | exact (fa hn p hp).1 | exact (fa hn p hp).2) | refine Sees.setsC ?_ _ (fun hn p hp => by first | exact (fa hn p hp).2 | exact (fa hn p hp).1) _ _)
    · have key : ∀ W', Below w.heap.size w W' → WtPost u a w (.returned (.agg (tcs u a).toArray)) W' := fun W' hBf => ⟨a.mA, a.mc, rfl, h0.m.words.later hBf, .inl rfl, hBf⟩
      go_wp2
      refine bodyPost_ret (v := .agg (tcs u a).toArray) (results_box Tryz.results18 _ _ (w.heap.size + 1) _ _ rfl (by simp [go_sem, B1, B2]) Tryz.underlying55 rfl (by kernel_rfl)) rfl ?_
      rw [HV.out]
      exact key _ (by repeat first | exact hB | refine below_sets _ (by omega) _ _ _ _ ?_ | refine Below.setCell ?_ (by first | omega | (simp; omega) | simp) _ | refine Below.alloc ?_ (by first | omega | (simp; omega) | simp) _)
end Go.Proofs.YtjghdbkkjhnpfaaGreat
