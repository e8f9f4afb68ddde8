/- The document's steps: what is compared; spins; Onward. -/
import Derived.Test.YtjghdbkkjhnpfaaGreatRfA
import Derived.Test.YtjghdbkkjhnpfaaGreatCoF
import Derived.Test.YtjghdbkkjhnpfaaGreatClA
import Derived.Test.YtjghdbkkjhnpfaaGreatArT
import Derived.Test.YtjghdbkkjhnpfaaGreatM2
import Derived.Test.YtjghdbkkjhnpfaaGreatM6
import Derived.Lib.QuietBelow
import Derived.Deep.QuietTactic
import Derived.BigQuiet
import Derived.Deep.RegionHeld3
import Derived.Deep.Cut
namespace Go.Proofs.YtjghdbkkjhnpfaaGreat
open Go.RowKit Go.Sort
set_option linter.unusedVariables false
set_option linter.unusedSimpArgs false

attribute [local irreducible] tcs thc ccs zT
attribute [local go_sem ↓] alTn_is alRn_is
attribute [local go_sem] run_alTnf run_alTnt run_alRnf run_alRnt zT_length
attribute [local go_sem ↓] lbTn_is lbRn_is lbTh_is lbRh_is lbCf_is lbRc_is sbTn_is sbRn_is sbTh_is sbRh_is sbCf_is sbRc_is
attribute [local go_sem] run_lbTn run_lbRn run_lbTh run_lbRh run_lbCf run_lbRc run_sbTn run_sbRn run_sbTh run_sbRh run_sbCf run_sbRc
attribute [local go_sem 2000] boxOf_old'
attribute [local go_sem] boxOf_at' boxOf_free' boxOf_alloc objBox_cells objBox_cellsA boxOf_drew boxOf_setI boxOf_setsI size_sets tcs_length thc_length ccs_length tcs_one thc_one ccs_one sub_tn sub_th sub_cf sub_thAll sub_cfAll put_turn put_thread
attribute [local go_sem] tc0 tc1 tc2 tc3 tc4 tc5 tc6 tc7 tc8 tc9 tc10 tc11 tc12 tc13 tc14 tc15 tc16 tc17 tc18 tc19 tc20 tc21 tc22 tc23 tc24 tc25 tc26 tc27 tc28 tc29 tc30 tc31 tc32 tc33 tc34 tc35 tc36 hc0 hc1 hc2 hc3 hc4 hc5 hc6 hc7 hc8 hc9 hc10 hc11 hc12 hc13 hc14 hc15 hc16 kc0 kc1 kc2 kc3 kc4 kc5 kc6 kc7 kc8 kc9 kc10 kc11 tg0 tg1 tg2 tg3 tg4 tg5 tg6 tg7 tg8 tg9 tg10 tg11 tg12 tg13 tg14 tg15 tg16 tg17 tg18 tg19 tg20 tg21 tg22 tg23 tg24 tg25 tg26 tg27 tg28 tg29 tg30 tg31 tg32 tg33 tg34 tg35 tg36 hg0 hg1 hg2 hg3 hg4 hg5 hg6 hg7 hg8 hg9 hg10 hg11 hg12 hg13 hg14 hg15 hg16 kg0 kg1 kg2 kg3 kg4 kg5 kg6 kg7 kg8 kg9 kg10 kg11
attribute [local go_sem] ts12 ts13 ts14 ts16 ts17 ts18 ts19 ts20 ts21 ts22 ts23 ts24 ts25 ts26 ts27 ts28 ts29 ts30 ts31 ts32 ts33 ts34 ts35 ts36 ts15 hs0 hs1 hs2 hs3 hs7 hs8 hs9 hs10 hs11 hs12 hs13 hs14 hs15 hs16

set_option maxRecDepth 100000 in
set_option maxHeartbeats 4000000 in
theorem rcompared_any (u : Tn) (a : TA) (o : TnOk u) (ht : 0 ≤ u.tt ∧ u.tt ≤ 15) (hi : 0 ≤ u.d.it ∧ u.d.it ≤ 3) (hl : 1 ≤ u.d.ly ∧ u.d.ly ≤ 3) (w : World) (h : TnAt w u a) (t so no : Int) (it : I64 t) : Calls Tryz.prog 20 #[.agg (tcs u a).toArray, .int .i64 t, .int .i64 so, .int .i64 no] w (WtPost (cmpC u t so no) a w) := by
  have B1 : boxOf ((w.alloc (.cells (tcs u a).toArray 55)).alloc (.cells zT.toArray 55)) w.heap.size = some (tcs u a) := by simp [go_sem]
  have B2 : boxOf ((w.alloc (.cells (tcs u a).toArray 55)).alloc (.cells zT.toArray 55)) (w.heap.size + 1) = some zT := by simp [go_sem]
  have hs : w.heap.size + 1 < ((w.alloc (.cells (tcs u a).toArray 55)).alloc (.cells zT.toArray 55)).heap.size := by simp
  have hB : Below w.heap.size w ((w.alloc (.cells (tcs u a).toArray 55)).alloc (.cells zT.toArray 55)) := (belowN w _).alloc (by simp) _
  have h0 := h
  replace h := h.later hB
  go_enter Tryz.func20, Tryz.ntmps20
  go_wp2_with fail
  generalize ((w.alloc (.cells (tcs u a).toArray 55)).alloc (.cells zT.toArray 55)) = wz at *
  generalize wz = w4 at *
  have HL := hide (h0.m.words.block_lt)
  have KO := fun W => hide (ropen_any u.d.it u.d.ly hi hl W)
  rw [show opV u.d.it u.d.ly = opW u from rfl] at KO
  obtain ⟨ov, hov⟩ : ∃ x, opW u = x := ⟨_, rfl⟩
  rw [hov] at KO
  have KL := hide (fun W => rline_tn u.c o.c t it W)
  obtain ⟨lv, hlv⟩ : ∃ x, lnV u.c t = x := ⟨_, rfl⟩
  rw [hlv] at KL
  obtain ⟨ev, hev⟩ : ∃ x, erV u.ws.length lv = x := ⟨_, rfl⟩
  obtain ⟨nw, hnw⟩ : ∃ x, casV u.ws lv ov 0 = x := ⟨_, rfl⟩
  obtain ⟨qv, hqv⟩ : ∃ x, casB u.ws lv ov = x := ⟨_, rfl⟩
  have HN : Hid (nw.length = u.ws.length) := hide (by rw [← hnw]; exact casV_length _ _ _ _)
  have KS := hide (fun W m => rcas_any a.mA a.mB a.mc a.md u.ws a.bs lv ov 0 W m)
  rw [hev, hnw, hqv] at KS
  have HV : (ev = 0 ∧ qv = true ∧ Hid (cmpC u t so no = ({ u with ws := nw, d := { u.d with ph := so } } : Tn))) ∨ (ev = 0 ∧ qv = false ∧ Hid (cmpC u t so no = ({ u with ws := nw, d := { u.d with ph := no } } : Tn))) ∨ (ev = 30 ∧ Hid (cmpC u t so no = u)) := by
    have he : ev = 0 ∨ ev = 30 := by rw [← hev]; unfold erV; split <;> simp
    rcases he with he | he
    · cases hb : qv with
      | true => exact .inl ⟨he, rfl, hide (by rw [cmpC, hlv, if_pos (by rw [hev]; exact he), if_pos (by unfold cmB; rw [hlv, hov, hqv]; exact hb)]; simp only [cmW, hlv, hov, hnw])⟩
      | false => exact .inr (.inl ⟨he, rfl, hide (by rw [cmpC, hlv, if_pos (by rw [hev]; exact he), if_neg (by unfold cmB; rw [hlv, hov, hqv, hb]; decide)]; simp only [cmW, hlv, hov, hnw])⟩)
    · exact .inr (.inr ⟨he, hide (by rw [cmpC, hlv, if_neg (by rw [hev, he]; decide)])⟩)
  clear hev hnw hlv hov hqv
  have Z : boxOf w4.drew w.heap.size = some (tcs u a) ∧ boxOf w4.drew w.heap.size = some (tcs u a) ∧ boxOf w4.drew (w.heap.size + 1) = some zT ∧ Below w.heap.size w w4.drew := ⟨by rw [boxOf_drew]; exact B1, by rw [boxOf_drew]; exact B1, by rw [boxOf_drew]; exact B2, hB.drew⟩
  go_cut [9, 10, 11] from 12 (fun p q e wc => ∃ k A c, p = .pointer (some ⟨k, 0, none⟩) ∧ q = .bool qv ∧ e = .int .i64 ev ∧ StAt w w.heap.size (w.heap.size + 1) (tcs u a) zT A nw c (.slice a.mB a.bs.length a.md) k a.mA wc)
  case first =>
    go_region_held3 (fun w' => boxOf w' w.heap.size = some (tcs u a) ∧ boxOf w' w.heap.size = some (tcs u a) ∧ boxOf w' (w.heap.size + 1) = some zT ∧ Below w.heap.size w w')
      (first | (with_reducible exact Z) | (with_reducible exact Z1) | (with_reducible exact Z2) | (with_reducible exact keepT4 (by assumption) (belowN _ _)) | (with_reducible exact keepT4s Z2 _ _ _ (by omega) (by omega) (by omega) (by omega)) | (with_reducible exact keepT4s (keepT4s Z2 _ _ _ (by omega) (by omega) (by omega) (by omega)) _ _ _ (by omega) (by omega) (by omega) (by omega)))
      (first
        | (go_at_call 52; refine (KL.out _).mono ?_; rintro e v1 ⟨rfl, hb1⟩; have Z1 : boxOf v1 w.heap.size = some (tcs u a) ∧ boxOf v1 w.heap.size = some (tcs u a) ∧ boxOf v1 (w.heap.size + 1) = some zT ∧ Below w.heap.size w v1 := keepT4 (by assumption) hb1; (first | (with_reducible have tk := box_newk hb1) | (with_reducible have tk := box_newd hb1) | skip); have q1 : w4.heap.size ≤ v1.heap.size := Nat.le_trans (by simp) hb1.size)
        | (go_at_call 53; refine (KO _).out.mono ?_; rintro e v9 ⟨rfl, rfl⟩)
        | (go_at_call 57; refine (KS.out _ (h0.m.later (And.right (And.right (And.right (by assumption)))))).mono ?_; rintro e v2 ⟨A, c, rfl, hsA, hor, hb2⟩; have Z2 : boxOf v2 w.heap.size = some (tcs u a) ∧ boxOf v2 w.heap.size = some (tcs u a) ∧ boxOf v2 (w.heap.size + 1) = some zT ∧ Below w.heap.size w v2 := keepT4 (by assumption) hb2; (first | (with_reducible have tk := box_keep2 tk hb2) | (with_reducible have tk := box_keep2n tk hb2) | (with_reducible have tk := box_newk hb2) | (with_reducible have tk := box_newd hb2) | skip); have q2 : w4.heap.size ≤ v2.heap.size := Nat.le_trans q1 (Nat.le_trans (by simp) hb2.size)))
    all_goals go_wp2_with fail
    all_goals go_meet
    all_goals
      have hfa : 0 < nw.length → ∀ p, A = some p → p.block ≠ w.heap.size ∧ p.block ≠ w.heap.size + 1 := fun hn p hp => by
        rcases hor with e | f
        · have := HL.out (by rw [← HN.out]; exact hn) p (e ▸ hp); omega
        · have := f p hp; (try simp at this); omega
    all_goals
      have hoo : A = a.mA ∨ Fresh w A := hor.imp_right (fun f p hp => by have := f p hp; (try simp at this); have := hB.size; omega)
    all_goals first
      | exact ⟨_, A, c, rfl, rfl, rfl, st_new _ hsA hfa Z2.1 Z2.2.2.1 Z2.2.2.2 hoo⟩
      | exact ⟨_, A, c, rfl, rfl, rfl, st_set hsA hfa Z2.1 Z2.2.2.1 Z2.2.2.2 tk.1 rfl (by omega) (by omega) (by omega) (fun hn p hp => by
          rcases hor with e | f
          · have := HL.out (by rw [← HN.out]; exact hn) p (e ▸ hp); omega
          · have := f p hp; (try simp at this); omega) hoo⟩
  case rest =>
    obtain ⟨k, A, c, rfl, rfl, rfl, hst⟩ := hcut
    clear B1 B2 hB Z KS h hs
    obtain ⟨bk, sA, fa, B1, B2, hB, hoo⟩ := hst
    have hs := boxOf_lt B2
    rcases HV with ⟨rfl, rfl, HV⟩ | ⟨rfl, rfl, HV⟩ | ⟨rfl, HV⟩
    · have key : ∀ W', Below w.heap.size w W' → Sees W' W'.heap.size 1 A nw.length (nw.map (Value.int .i64)) → WtPost ({ u with ws := nw, d := { u.d with ph := so } } : Tn) a w (.returned (.agg (tcs ({ u with ws := nw, d := { u.d with ph := so } } : Tn) ({ a with mA := A, mc := c } : TA)).toArray)) W' := fun W' hb s => ⟨A, c, rfl, s, hoo, hb⟩
      go_wp2
      refine bodyPost_ret (v := .agg (tcs ({ u with ws := nw, d := { u.d with ph := so } } : Tn) ({ a with mA := A, mc := c } : TA)).toArray) (results_box Tryz.results20 _ _ (w.heap.size + 1) _ _ rfl (by simp [go_sem, B1, B2]) Tryz.underlying55 rfl (by kernel_rfl)) rfl ?_
      rw [HV.out]
      exact key _ (by repeat first | exact hB | refine below_sets _ (by omega) _ _ _ _ ?_ | refine Below.setCell ?_ (by first | omega | (simp; omega) | simp) _ | refine Below.alloc ?_ (by first | omega | (simp; omega) | simp) _) (by repeat first | exact sA | refine Sees.own1 ?_ _ _ _ (fun hn p hp => by first | exact (fa hn p hp).1 | exact (fa hn p hp).2) | refine Sees.setsC ?_ _ (fun hn p hp => by first | exact (fa hn p hp).2 | exact (fa hn p hp).1) _ _)
    · have key : ∀ W', Below w.heap.size w W' → Sees W' W'.heap.size 1 A nw.length (nw.map (Value.int .i64)) → WtPost ({ u with ws := nw, d := { u.d with ph := no } } : Tn) a w (.returned (.agg (tcs ({ u with ws := nw, d := { u.d with ph := no } } : Tn) ({ a with mA := A, mc := c } : TA)).toArray)) W' := fun W' hb s => ⟨A, c, rfl, s, hoo, hb⟩
      go_wp2
      refine bodyPost_ret (v := .agg (tcs ({ u with ws := nw, d := { u.d with ph := no } } : Tn) ({ a with mA := A, mc := c } : TA)).toArray) (results_box Tryz.results20 _ _ (w.heap.size + 1) _ _ rfl (by simp [go_sem, B1, B2]) Tryz.underlying55 rfl (by kernel_rfl)) rfl ?_
      rw [HV.out]
      exact key _ (by repeat first | exact hB | refine below_sets _ (by omega) _ _ _ _ ?_ | refine Below.setCell ?_ (by first | omega | (simp; omega) | simp) _ | refine Below.alloc ?_ (by first | omega | (simp; omega) | simp) _) (by repeat first | exact sA | refine Sees.own1 ?_ _ _ _ (fun hn p hp => by first | exact (fa hn p hp).1 | exact (fa hn p hp).2) | refine Sees.setsC ?_ _ (fun hn p hp => by first | exact (fa hn p hp).2 | exact (fa hn p hp).1) _ _)
    · have key : ∀ W', Below w.heap.size w W' → WtPost u a w (.returned (.agg (tcs u a).toArray)) W' := fun W' hBf => ⟨a.mA, a.mc, rfl, h0.m.words.later hBf, .inl rfl, hBf⟩
      go_wp2
      refine bodyPost_ret (v := .agg (tcs u a).toArray) (results_box Tryz.results20 _ _ (w.heap.size + 1) _ _ rfl (by simp [go_sem, B1, B2]) Tryz.underlying55 rfl (by kernel_rfl)) rfl ?_
      rw [HV.out]
      exact key _ (by repeat first | exact hB | refine below_sets _ (by omega) _ _ _ _ ?_ | refine Below.setCell ?_ (by first | omega | (simp; omega) | simp) _ | refine Below.alloc ?_ (by first | omega | (simp; omega) | simp) _)
set_option maxRecDepth 100000 in
set_option maxHeartbeats 4000000 in
theorem rspin_any (u : Tn) (a : TA) (o : TnOk u) (ht : 0 ≤ u.tt ∧ u.tt ≤ 15) (hi : 0 ≤ u.d.it ∧ u.d.it ≤ 3) (hl : 1 ≤ u.d.ly ∧ u.d.ly ≤ 3) (w : World) (h : TnAt w u a) : Calls Tryz.prog 23 #[.agg (tcs u a).toArray] w (WtPost (spiC u) a w) := by
  have B1 : boxOf ((w.alloc (.cells (tcs u a).toArray 55)).alloc (.cells zT.toArray 55)) w.heap.size = some (tcs u a) := by simp [go_sem]
  have B2 : boxOf ((w.alloc (.cells (tcs u a).toArray 55)).alloc (.cells zT.toArray 55)) (w.heap.size + 1) = some zT := by simp [go_sem]
  have hs : w.heap.size + 1 < ((w.alloc (.cells (tcs u a).toArray 55)).alloc (.cells zT.toArray 55)).heap.size := by simp
  have hB : Below w.heap.size w ((w.alloc (.cells (tcs u a).toArray 55)).alloc (.cells zT.toArray 55)) := (belowN w _).alloc (by simp) _
  have h0 := h
  replace h := h.later hB
  go_enter Tryz.func23, Tryz.ntmps23
  go_wp2_with fail
  generalize ((w.alloc (.cells (tcs u a).toArray 55)).alloc (.cells zT.toArray 55)) = wz at *
  have HL := hide (h0.m.words.block_lt)
  have KO := fun W => hide (ropen_any u.d.it u.d.ly hi hl W)
  rw [show opV u.d.it u.d.ly = opW u from rfl] at KO
  obtain ⟨ov, hov⟩ : ∃ x, opW u = x := ⟨_, rfl⟩
  rw [hov] at KO
  obtain ⟨lv, hlv⟩ : ∃ x, lnV u.c u.tt = x := ⟨_, rfl⟩
  obtain ⟨ev, hev⟩ : ∃ x, erV u.ws.length lv = x := ⟨_, rfl⟩
  obtain ⟨xv, hxv⟩ : ∃ x, ldV u.ws lv = x := ⟨_, rfl⟩
  have Q1 := hide (fun d os => Calls.regrown_of (w := wz) (rline_tn u.c o.c u.tt o.tt (grow (redrawn wz d) os)))
  have Q2 := hide (fun d os => Calls.regrown_of (w := wz) (rload_any a.mA a.mB a.mc a.md u.ws a.bs lv (grow (redrawn wz d) os) (h.m.later (below_regrown wz d os))))
  have KT := fun W => hide (rlate_tn u a W)
  obtain ⟨lb, hlb⟩ : ∃ x, lateB u.d.un u.now = x := ⟨_, rfl⟩
  rw [hlv] at Q1
  rw [hev, hxv] at Q2
  rw [hlb] at KT
  have HV : (ev = 30 ∧ Hid (spiC u = u)) ∨ (ev = 0 ∧ ((xv == ov) = false ∧ (xv != ov) = true) ∧ Hid (spiC u = ({ u with d := { u.d with ph := 13 } } : Tn))) ∨ (ev = 0 ∧ ((xv == ov) = true ∧ (xv != ov) = false) ∧ u.d.lf < 1 ∧ Hid (spiC u = ({ u with d := { u.d with ph := 26 } } : Tn))) ∨ (ev = 0 ∧ ((xv == ov) = true ∧ (xv != ov) = false) ∧ ¬ u.d.lf < 1 ∧ lb = true ∧ Hid (spiC u = ({ u with d := { u.d with ph := 26 } } : Tn))) ∨ (ev = 0 ∧ ((xv == ov) = true ∧ (xv != ov) = false) ∧ ¬ u.d.lf < 1 ∧ lb = false ∧ Hid (spiC u = ({ u with d := { u.d with lf := wrap64 (u.d.lf - 1) } } : Tn))) := by
    have he : ev = 0 ∨ ev = 30 := by rw [← hev]; unfold erV; split <;> simp
    rcases he with he | he
    · by_cases h1 : xv = ov
      · have h1' : (xv == ov) = true ∧ (xv != ov) = false := by subst h1; simp
        by_cases h2 : u.d.lf < 1
        · exact .inr (.inr (.inl ⟨he, h1', h2, hide (by rw [spiC, hlv, if_pos (by rw [hev]; exact he), hxv, hov, if_pos h1, if_neg (fun e => by have := e.1; omega)])⟩))
        · cases hb : lb with
          | true => exact .inr (.inr (.inr (.inl ⟨he, h1', h2, rfl, hide (by rw [spiC, hlv, if_pos (by rw [hev]; exact he), hxv, hov, if_pos h1, if_neg (fun e => by have := e.2; rw [hlb, hb] at this; cases this)])⟩)))
          | false => exact .inr (.inr (.inr (.inr ⟨he, h1', h2, rfl, hide (by rw [spiC, hlv, if_pos (by rw [hev]; exact he), hxv, hov, if_pos h1, if_pos ⟨by omega, by rw [hlb, hb]⟩]; rfl)⟩)))
      · exact .inr (.inl ⟨he, by simpa using h1, hide (by rw [spiC, hlv, if_pos (by rw [hev]; exact he), hxv, hov, if_neg h1])⟩)
    · exact .inl ⟨he, hide (by rw [spiC, hlv, if_neg (by rw [hev, he]; decide)])⟩
  clear hlv hev hxv hov hlb HL
  go_upto_region 1 with fail
  have RB1 := fun d os => boxOf_keep B1 (below_regrown wz d os)
  have RB2 := fun d os => boxOf_keep B2 (below_regrown wz d os)
  refine wp_region_quiet_below (by kernel_rfl) (by kernel_rfl) ?_
  repeat (go_big_quiet_step (first | (go_at_call 52; exact Q1.out _ _) | (go_at_call 59; exact Q2.out _ _)))
  refine wpQuiet_nil ?_
  intro _ hw'
  obtain ⟨⟨dq, osq⟩, hw''⟩ := hw'
  subst hw''
  replace B1 := RB1 dq osq
  clear RB1
  replace B2 := RB2 dq osq
  clear RB2
  replace h := h.later (below_regrown wz dq osq)
  replace hB := below_next hB hB.size (below_regrown wz dq osq)
  replace hs := Nat.lt_of_lt_of_le hs (below_regrown wz dq osq).size
  generalize grow (redrawn wz dq) osq = wq at *
  clear Q1 Q2 h
  rcases HV with ⟨rfl, HV⟩ | ⟨rfl, ⟨h1, h1'⟩, HV⟩ | ⟨rfl, ⟨h1, h1'⟩, h2, HV⟩ | ⟨rfl, ⟨h1, h1'⟩, h2, rfl, HV⟩ | ⟨rfl, ⟨h1, h1'⟩, h2, rfl, HV⟩
  · clear KO KT
    have key : ∀ W', Below w.heap.size w W' → WtPost u a w (.returned (.agg (tcs u a).toArray)) W' := fun W' hBf => ⟨a.mA, a.mc, rfl, h0.m.words.later hBf, .inl rfl, hBf⟩
    go_wp2
    refine bodyPost_ret (v := .agg (tcs u a).toArray) (results_box Tryz.results23 _ _ (w.heap.size + 1) _ _ rfl (by simp [go_sem, B1, B2]) Tryz.underlying55 rfl (by kernel_rfl)) rfl ?_
    rw [HV.out]
    exact key _ (by repeat first | exact hB | refine below_sets _ (by omega) _ _ _ _ ?_ | refine Below.setCell ?_ (by first | omega | (simp; omega) | simp) _ | refine Below.alloc ?_ (by first | omega | (simp; omega) | simp) _)
  · have key : ∀ W', Below w.heap.size w W' → WtPost ({ u with d := { u.d with ph := 13 } } : Tn) a w (.returned (.agg (tcs ({ u with d := { u.d with ph := 13 } } : Tn) a).toArray)) W' := fun W' hBf => ⟨a.mA, a.mc, rfl, h0.m.words.later hBf, .inl rfl, hBf⟩
    go_wp2_with fail
    refine (KO _).out.mono ?_
    rintro e wk ⟨rfl, rfl⟩
    clear KO
    go_wp2
    refine bodyPost_ret (v := .agg (tcs ({ u with d := { u.d with ph := 13 } } : Tn) a).toArray) (results_box Tryz.results23 _ _ (w.heap.size + 1) _ _ rfl (by simp [go_sem, B1, B2]) Tryz.underlying55 rfl (by kernel_rfl)) rfl ?_
    rw [HV.out]
    exact key _ (by repeat first | exact hB | refine below_sets _ (by omega) _ _ _ _ ?_ | refine Below.setCell ?_ (by first | omega | (simp; omega) | simp) _ | refine Below.alloc ?_ (by first | omega | (simp; omega) | simp) _)
  · have key : ∀ W', Below w.heap.size w W' → WtPost ({ u with d := { u.d with ph := 26 } } : Tn) a w (.returned (.agg (tcs ({ u with d := { u.d with ph := 26 } } : Tn) a).toArray)) W' := fun W' hBf => ⟨a.mA, a.mc, rfl, h0.m.words.later hBf, .inl rfl, hBf⟩
    have d2 : decide (u.d.lf < 1) = true := decide_eq_true h2
    clear h2
    go_wp2_with fail
    refine (KO _).out.mono ?_
    rintro e wk ⟨rfl, rfl⟩
    clear KO
    go_wp2
    refine bodyPost_ret (v := .agg (tcs ({ u with d := { u.d with ph := 26 } } : Tn) a).toArray) (results_box Tryz.results23 _ _ (w.heap.size + 1) _ _ rfl (by simp [go_sem, B1, B2]) Tryz.underlying55 rfl (by kernel_rfl)) rfl ?_
    rw [HV.out]
    exact key _ (by repeat first | exact hB | refine below_sets _ (by omega) _ _ _ _ ?_ | refine Below.setCell ?_ (by first | omega | (simp; omega) | simp) _ | refine Below.alloc ?_ (by first | omega | (simp; omega) | simp) _)
  · have key : ∀ W', Below w.heap.size w W' → WtPost ({ u with d := { u.d with ph := 26 } } : Tn) a w (.returned (.agg (tcs ({ u with d := { u.d with ph := 26 } } : Tn) a).toArray)) W' := fun W' hBf => ⟨a.mA, a.mc, rfl, h0.m.words.later hBf, .inl rfl, hBf⟩
    have d2 : decide (u.d.lf < 1) = false := decide_eq_false h2
    clear h2
    go_wp2_with fail
    refine (KO _).out.mono ?_
    rintro e wk ⟨rfl, rfl⟩
    clear KO
    go_wp2_with fail
    refine (KT _).out.mono ?_
    rintro e w5 ⟨rfl, hb1⟩
    replace B1 := boxOf_keep B1 hb1
    replace B2 := boxOf_keep B2 hb1
    replace hs := Nat.lt_of_lt_of_le hs hb1.size
    replace hB := below_next hB hB.size hb1
    clear hb1
    clear KT
    go_wp2
    refine bodyPost_ret (v := .agg (tcs ({ u with d := { u.d with ph := 26 } } : Tn) a).toArray) (results_box Tryz.results23 _ _ (w.heap.size + 1) _ _ rfl (by simp [go_sem, B1, B2]) Tryz.underlying55 rfl (by kernel_rfl)) rfl ?_
    rw [HV.out]
    exact key _ (by repeat first | exact hB | refine below_sets _ (by omega) _ _ _ _ ?_ | refine Below.setCell ?_ (by first | omega | (simp; omega) | simp) _ | refine Below.alloc ?_ (by first | omega | (simp; omega) | simp) _)
  · have key : ∀ W', Below w.heap.size w W' → WtPost ({ u with d := { u.d with lf := wrap64 (u.d.lf - 1) } } : Tn) a w (.returned (.agg (tcs ({ u with d := { u.d with lf := wrap64 (u.d.lf - 1) } } : Tn) a).toArray)) W' := fun W' hBf => ⟨a.mA, a.mc, rfl, h0.m.words.later hBf, .inl rfl, hBf⟩
    have d2 : decide (u.d.lf < 1) = false := decide_eq_false h2
    clear h2
    go_wp2_with fail
    refine (KO _).out.mono ?_
    rintro e wk ⟨rfl, rfl⟩
    clear KO
    go_wp2_with fail
    refine (KT _).out.mono ?_
    rintro e w5 ⟨rfl, hb1⟩
    replace B1 := boxOf_keep B1 hb1
    replace B2 := boxOf_keep B2 hb1
    replace hs := Nat.lt_of_lt_of_le hs hb1.size
    replace hB := below_next hB hB.size hb1
    clear hb1
    clear KT
    go_wp2
    refine bodyPost_ret (v := .agg (tcs ({ u with d := { u.d with lf := wrap64 (u.d.lf - 1) } } : Tn) a).toArray) (results_box Tryz.results23 _ _ (w.heap.size + 1) _ _ rfl (by simp [go_sem, B1, B2]) Tryz.underlying55 rfl (by kernel_rfl)) rfl ?_
    rw [HV.out]
    exact key _ (by repeat first | exact hB | refine below_sets _ (by omega) _ _ _ _ ?_ | refine Below.setCell ?_ (by first | omega | (simp; omega) | simp) _ | refine Below.alloc ?_ (by first | omega | (simp; omega) | simp) _)
set_option maxRecDepth 100000 in
set_option maxHeartbeats 4000000 in
theorem ronward_any (u : Tn) (a : TA) (w : World) : Calls Tryz.prog 25 #[.agg (tcs u a).toArray] w (TPost (onwV u) a w) := by
  have B1 : boxOf ((w.alloc (.cells (tcs u a).toArray 55)).alloc (.cells zT.toArray 55)) w.heap.size = some (tcs u a) := by simp [go_sem]
  have B2 : boxOf ((w.alloc (.cells (tcs u a).toArray 55)).alloc (.cells zT.toArray 55)) (w.heap.size + 1) = some zT := by simp [go_sem]
  have hs : w.heap.size + 1 < ((w.alloc (.cells (tcs u a).toArray 55)).alloc (.cells zT.toArray 55)).heap.size := by simp
  have hB : Below w.heap.size w ((w.alloc (.cells (tcs u a).toArray 55)).alloc (.cells zT.toArray 55)) := (belowN w _).alloc (by simp) _
  by_cases h1 : u.d.ly < u.c.x4
  · have d1 : decide (u.d.ly < u.c.x4) = true := decide_eq_true h1
    rcases Bool.eq_false_or_eq_true (lateB u.d.un u.now) with hl | hl
    · have H : Hid (onwV u = { u with d := { u.d with ph := 2 } }) := hide (by rw [onwV, if_neg (by rw [hl]; simp)])
      have KL := fun W => hide (rlate_tn u a W)
      rw [hl] at KL
      clear h1 hl
      go_enter Tryz.func25, Tryz.ntmps25
      go_wp2_with fail
      generalize ((w.alloc (.cells (tcs u a).toArray 55)).alloc (.cells zT.toArray 55)) = wz at *
      refine (KL _).out.mono ?_
      rintro e w1 ⟨rfl, hb1⟩
      replace B1 := boxOf_keep B1 hb1
      replace B2 := boxOf_keep B2 hb1
      replace hs := Nat.lt_of_lt_of_le hs hb1.size
      replace hB := below_next hB hB.size hb1
      clear hb1 KL
      go_wp2
      refine bodyPost_ret (v := .agg (tcs { u with d := { u.d with ph := 2 } } a).toArray) (results_box Tryz.results25 _ _ (w.heap.size + 1) _ _ rfl (by simp [go_sem, B1, B2]) Tryz.underlying55 rfl (by kernel_rfl)) rfl ⟨by rw [H.out], ?_⟩
      repeat first | exact hB | refine below_sets _ (by omega) _ _ _ _ ?_ | refine Below.setCell ?_ (by first | omega | (simp; omega) | simp) _ | refine Below.alloc ?_ (by first | omega | (simp; omega) | simp) _
    · have H : Hid (onwV u = { u with d := { u.d with ly := wrap64 (u.d.ly + 1), ph := 17 } }) := hide (by rw [onwV, if_pos ⟨h1, hl⟩])
      have KL := fun W => hide (rlate_tn u a W)
      rw [hl] at KL
      clear h1 hl
      go_enter Tryz.func25, Tryz.ntmps25
      go_wp2_with fail
      generalize ((w.alloc (.cells (tcs u a).toArray 55)).alloc (.cells zT.toArray 55)) = wz at *
      refine (KL _).out.mono ?_
      rintro e w1 ⟨rfl, hb1⟩
      replace B1 := boxOf_keep B1 hb1
      replace B2 := boxOf_keep B2 hb1
      replace hs := Nat.lt_of_lt_of_le hs hb1.size
      replace hB := below_next hB hB.size hb1
      clear hb1 KL
      go_wp2
      refine bodyPost_ret (v := .agg (tcs { u with d := { u.d with ly := wrap64 (u.d.ly + 1), ph := 17 } } a).toArray) (results_box Tryz.results25 _ _ (w.heap.size + 1) _ _ rfl (by simp [go_sem, B1, B2]) Tryz.underlying55 rfl (by kernel_rfl)) rfl ⟨by rw [H.out], ?_⟩
      repeat first | exact hB | refine below_sets _ (by omega) _ _ _ _ ?_ | refine Below.setCell ?_ (by first | omega | (simp; omega) | simp) _ | refine Below.alloc ?_ (by first | omega | (simp; omega) | simp) _
  · have d1 : decide (u.d.ly < u.c.x4) = false := decide_eq_false h1
    have H : Hid (onwV u = { u with d := { u.d with ph := 2 } }) := hide (by rw [onwV, if_neg (fun e => h1 e.1)])
    clear h1
    go_enter Tryz.func25, Tryz.ntmps25
    go_wp2_with fail
    refine bodyPost_ret (v := .agg (tcs { u with d := { u.d with ph := 2 } } a).toArray) (results_box Tryz.results25 _ _ (w.heap.size + 1) _ _ rfl (by simp [go_sem, B1, B2]) Tryz.underlying55 rfl (by kernel_rfl)) rfl ⟨by rw [H.out], ?_⟩
    repeat first | exact hB | refine below_sets _ (by omega) _ _ _ _ ?_ | refine Below.setCell ?_ (by first | omega | (simp; omega) | simp) _ | refine Below.alloc ?_ (by first | omega | (simp; omega) | simp) _ | exact Below.refl _ _
def hfV (n : Int) : Int := if n < 0 then -1 else n.tdiv 2
set_option maxRecDepth 100000 in
set_option maxHeartbeats 4000000 in
theorem rhalf_any (n : Int) (hn : I64 n) (w : World) : Calls Tryz.prog 24 #[.int .i64 n] w (IntPost (hfV n) w) := by
  by_cases h1 : n < 0
  · rw [show hfV n = -1 by rw [hfV, if_pos h1]]
    clear hn
    go_enter Tryz.func24, Tryz.ntmps24
    go_wp2
    go_ret
    exact ⟨rfl, Below.refl _ _⟩
  · rw [show hfV n = n.tdiv 2 by rw [hfV, if_neg h1]]
    have hw : wrap64 (n.tdiv 2) = n.tdiv 2 := wrap64_id (by rw [Int.tdiv_eq_ediv_of_nonneg (by omega)]; unfold I64 at hn ⊢; omega)
    obtain ⟨q, hq⟩ : ∃ q, n.tdiv 2 = q := ⟨_, rfl⟩
    rw [hq] at hw ⊢
    clear hn
    go_enter Tryz.func24, Tryz.ntmps24
    go_wp2
    go_ret
    exact ⟨by first | rfl | (rw [hw]; rfl) | simp [hw], Below.refl _ _⟩
end Go.Proofs.YtjghdbkkjhnpfaaGreat
