/- The walk of ClimbAlone. -/
import Derived.Test.YtlmlmmkichkkhaaW13AloneL
import Derived.Test.YtlmlmmkichkkhaaW13AloneM
import Derived.Test.YtlmlmmkichkkhaaW13Base
import Derived.Test.YtlmlmmkichkkhaaShR
import Derived.Test.YtlmlmmkichkkhaaM4
import Derived.Test.YtlmlmmkichkkhaaM1
import Derived.Lib.QuietBelow
import Derived.Deep.QuietTactic
import Derived.BigQuiet
import Derived.Deep.RegionHeld3
import Derived.Deep.Cut
namespace Go.Proofs.Ytlmlmmkichkkhaa
open Go.RowKit Go.Sort
set_option linter.unusedVariables false
set_option linter.unusedSimpArgs false

attribute [local irreducible] tcs thc ccs zT
attribute [local go_sem ↓] alTn_is alRn_is
attribute [local go_sem] run_alTnf run_alTnt run_alRnf run_alRnt zT_length
attribute [local go_sem ↓] lbTn_is lbRn_is lbTh_is lbRh_is lbCf_is lbRc_is sbTn_is sbRn_is sbTh_is sbRh_is sbCf_is sbRc_is
attribute [local go_sem] run_lbTn run_lbRn run_lbTh run_lbRh run_lbCf run_lbRc run_sbTn run_sbRn run_sbTh run_sbRh run_sbCf run_sbRc
attribute [local go_sem 2000] boxOf_old'
attribute [local go_sem] boxOf_at' boxOf_free' boxOf_alloc objBox_cells objBox_cellsA boxOf_drew boxOf_setI boxOf_setsI size_sets tcs_length thc_length ccs_length tcs_one thc_one ccs_one sub_tn sub_th sub_cf sub_thAll sub_cfAll put_turn put_thread
attribute [local go_sem] tc0 tc1 tc2 tc3 tc4 tc5 tc6 tc7 tc8 tc9 tc10 tc11 tc12 tc13 tc14 tc15 tc16 tc17 tc18 tc19 tc20 tc21 tc22 tc23 tc24 tc25 tc26 tc27 tc28 tc29 tc30 tc31 tc32 tc33 tc34 tc35 tc36 hc0 hc1 hc2 hc3 hc4 hc5 hc6 hc7 hc8 hc9 hc10 hc11 hc12 hc13 hc14 hc15 hc16 kc0 kc1 kc2 kc3 kc4 kc5 kc6 kc7 kc8 kc9 kc10 kc11 tg0 tg1 tg2 tg3 tg4 tg5 tg6 tg7 tg8 tg9 tg10 tg11 tg12 tg13 tg14 tg15 tg16 tg17 tg18 tg19 tg20 tg21 tg22 tg23 tg24 tg25 tg26 tg27 tg28 tg29 tg30 tg31 tg32 tg33 tg34 tg35 tg36 hg0 hg1 hg2 hg3 hg4 hg5 hg6 hg7 hg8 hg9 hg10 hg11 hg12 hg13 hg14 hg15 hg16 kg0 kg1 kg2 kg3 kg4 kg5 kg6 kg7 kg8 kg9 kg10 kg11
attribute [local go_sem] ts12 ts13 ts14 ts16 ts17 ts18 ts19 ts20 ts21 ts22 ts23 ts24 ts25 ts26 ts27 ts28 ts29 ts30 ts31 ts32 ts33 ts34 ts35 ts36 ts15 hs0 hs1 hs2 hs3 hs7 hs8 hs9 hs10 hs11 hs12 hs13 hs14 hs15 hs16

attribute [local irreducible] zC zH
attribute [local go_sem ↓] alCf_is alRc_is alTh_is
attribute [local go_sem] run_alCf run_alRc run_alTh zC_length zH_length put_conf put_thrd
attribute [local go_sem ↓] bdU'_is bdH'_is
attribute [local go_sem] run_bdU' run_bdH'
theorem keep4 {w W W' : World} {g gk gz : Nat} {cs ds es : List Value} (h : boxOf W g = some cs ∧ boxOf W gk = some ds ∧ boxOf W gz = some es ∧ Below w.heap.size w W) (hb : Below W.heap.size W W') : boxOf W' g = some cs ∧ boxOf W' gk = some ds ∧ boxOf W' gz = some es ∧ Below w.heap.size w W' := ⟨boxOf_keep h.1 hb, boxOf_keep h.2.1 hb, boxOf_keep h.2.2.1 hb, below_next h.2.2.2 h.2.2.2.size hb⟩
theorem keep4s {w W : World} {g gk gz : Nat} {cs ds es : List Value} (h : boxOf W g = some cs ∧ boxOf W gk = some ds ∧ boxOf W gz = some es ∧ Below w.heap.size w W) (k o : Nat) (vs : List Value) (h1 : k ≠ g) (h2 : k ≠ gk) (h3 : k ≠ gz) (h0 : w.heap.size ≤ k) : boxOf (W.setCells k o vs) g = some cs ∧ boxOf (W.setCells k o vs) gk = some ds ∧ boxOf (W.setCells k o vs) gz = some es ∧ Below w.heap.size w (W.setCells k o vs) := ⟨by rw [boxOf_sets_far _ _ h1]; exact h.1, by rw [boxOf_sets_far _ _ h2]; exact h.2.1, by rw [boxOf_sets_far _ _ h3]; exact h.2.2.1, below_sets _ h0 _ _ _ _ h.2.2.2⟩
/-- The turn that climbs, as it was just made. -/
theorem lp_new {c : Cf} (ok : CfK c) (hD : 1 ≤ c.x3) {t it : Int} (h0 : 0 ≤ t) {A B : Option Addr} {cA d k9 : Nat} {bs : List Bt} {w X : World} (hbx : boxes bs = List.replicate (cntV c.x0) []) (mo : MemOk X A (newW c) B bs)
    (gA : ∀ p, A = some p → p.block ≠ k9) (gB : ∀ p, B = some p → p.block ≠ k9) {zs : List Value} (bk : boxOf X k9 = some zs) (hz : zs.length = 37) (hk : w.heap.size + 1 < k9)
    (z : boxOf X w.heap.size = some (ccs c) ∧ boxOf X (w.heap.size + 1) = some (ccs c) ∧ boxOf X w.heap.size = some (ccs c) ∧ Below w.heap.size w X) :
    LpA c w.heap.size k9 (stA c t it (List.replicate (cntV c.x0) []) 0) (⟨A, cA, B, d, bs, ⟨none, 0, none, 0, none, 0⟩, none, 0, none, 0⟩ : TA) w (X.setCells k9 0 (tcs (⟨c, t, 0, newW c, List.replicate (cntV c.x0) [], ⟨4, it, 0, 0, [], [], [], 0, leafV c.x3 t, 0, 0, 0, 0, 0, 0, 0, 0⟩, [], 0, [], false⟩ : Tn) (⟨A, cA, B, d, bs, ⟨none, 0, none, 0, none, 0⟩, none, 0, none, 0⟩ : TA))) := by
  have he : ∀ q ∈ bs, q.l = [] := emp_of hbx
  have z' := keep4s z k9 0 (tcs (⟨c, t, 0, newW c, List.replicate (cntV c.x0) [], ⟨4, it, 0, 0, [], [], [], 0, leafV c.x3 t, 0, 0, 0, 0, 0, 0, 0, 0⟩, [], 0, [], false⟩ : Tn) (⟨A, cA, B, d, bs, ⟨none, 0, none, 0, none, 0⟩, none, 0, none, 0⟩ : TA)) (by omega) (by omega) (by omega) (by omega)
  rw [stA_0 ok _ hD h0]
  exact ⟨boxOf_whole _ _ _ bk ((tcs_length _ _).trans hz.symm), ⟨mo.own' k9 gA gB he _ _, hbx, ⟨Sees.empty, Sees.empty, Sees.empty⟩, Sees.empty, Sees.empty⟩, gA, gB, fun h => absurd h (by simp), z'.1, z'.2.1, z'.2.2.2, hk, ⟨rfl, rfl, rfl, rfl, he⟩⟩
set_option maxRecDepth 100000 in
set_option maxHeartbeats 4000000 in
theorem alone_walk (c : Cf) (hlo : I64 c.x9) (hhi : I64 c.x10) (hin : I64 c.x11) (z z' : Int) (z0 : 0 ≤ z) (z1 : z ≤ 255) (z0' : 0 ≤ z') (z1' : z' ≤ 255) (w : World) : Calls Try.prog 4 #[.agg (ccs c).toArray, .int .u8 z, .int .u8 z'] w (BoolPost true w) := by
  have B1 : boxOf (((w.alloc (.cells (ccs c).toArray 23)).alloc (.cells zC.toArray 43)).setCells (w.heap.size + 1) 0 (ccs c)) w.heap.size = some (ccs c) := by simp [go_sem]
  have B2 : boxOf (((w.alloc (.cells (ccs c).toArray 23)).alloc (.cells zC.toArray 43)).setCells (w.heap.size + 1) 0 (ccs c)) (w.heap.size + 1) = some (ccs c) := by simp [go_sem]
  have hs : w.heap.size + 1 < (((w.alloc (.cells (ccs c).toArray 23)).alloc (.cells zC.toArray 43)).setCells (w.heap.size + 1) 0 (ccs c)).heap.size := by simp [size_sets]
  have hB : Below w.heap.size w (((w.alloc (.cells (ccs c).toArray 23)).alloc (.cells zC.toArray 43)).setCells (w.heap.size + 1) 0 (ccs c)) := below_sets _ (by omega) _ _ _ _ ((belowN w _).alloc (by simp) _)
  go_enter Try.func4, Try.ntmps4
  go_wp2_with fail
  generalize (((w.alloc (.cells (ccs c).toArray 23)).alloc (.cells zC.toArray 43)).setCells (w.heap.size + 1) 0 (ccs c)) = wz at *
  refine (rcheck_tn c _).mono ?_
  rintro e w1 ⟨rfl, hb1⟩
  replace B1 := boxOf_keep B1 hb1
  replace B2 := boxOf_keep B2 hb1
  replace hs := Nat.lt_of_lt_of_le hs hb1.size
  replace hB := below_next hB hB.size hb1
  clear hb1
  by_cases hck : ckC c = 0
  case neg =>
    have hck' : (ckC c != 0) = true := bne_iff_ne.2 hck
    go_wp2_with (go_at_call 11; refine (shown_any _).mono ?_; rintro e ws ⟨rfl, hbs⟩; replace hB := below_next hB hB.size hbs; clear hbs)
    go_ret
    exact ⟨ret_b (by simp), hB⟩
  have ok := (ck_ok c.x0 c.x1 c.x2 c.x3 c.x4 c.x5 c.x6 c.x7 c.b c.x9 c.x10 c.x11).1 hck
  rw [hck]
  by_cases hD' : c.x3 < 1
  · have d3 : decide (c.x3 < 1) = true := decide_eq_true hD'
    go_wp2_with (go_at_call 11; refine (shown_any _).mono ?_; rintro e ws ⟨rfl, hbs⟩; replace hB := below_next hB hB.size hbs; clear hbs)
    go_ret
    exact ⟨ret_b (by simp), hB⟩
  have hD : 1 ≤ c.x3 := by omega
  have hx0 := ok.h0
  have hx1 := ok.h1
  have hx3 := ok.h3
  clear hck hD'
  go_wp2_with fail
  refine (shown_any _).mono ?_
  rintro e w2 ⟨rfl, hb1⟩
  replace B1 := boxOf_keep B1 hb1
  replace B2 := boxOf_keep B2 hb1
  replace hs := Nat.lt_of_lt_of_le hs hb1.size
  replace hB := below_next hB hB.size hb1
  clear hb1
  have nz0 : ¬ c.x0 = 0 := by omega
  have nz1 : ¬ c.x1 = 0 := by omega
  go_upto_region 4 with fail
  go_cut [8] from 28 (fun q wc => ∃ t, q = .int .i64 t ∧ (0 ≤ t ∧ t ≤ 15) ∧ boxOf wc w.heap.size = some (ccs c) ∧ boxOf wc (w.heap.size + 1) = some (ccs c) ∧ boxOf wc w.heap.size = some (ccs c) ∧ Below w.heap.size w wc)
  case first =>
    go_wp2_with fail
    go_meet
    exact ⟨_, rfl, rem_15 _ _ (by omega) hx0, B1, B2, B1, hB⟩
  case rest =>
  clear B1 B2 hB hs
  obtain ⟨t, rfl, ht, B1, B2, _, hB⟩ := hcut
  have hs := boxOf_lt B2
  have it64 : I64 t := by unfold I64; omega
  have KB := hide (fun W => build_cf c ok W)
  have KL := hide (fun W => rleaf_any c.x3 t hx3 ht.1 it64 W)
  have Z : boxOf wc.drew w.heap.size = some (ccs c) ∧ boxOf wc.drew (w.heap.size + 1) = some (ccs c) ∧ boxOf wc.drew w.heap.size = some (ccs c) ∧ Below w.heap.size w wc.drew := ⟨by rw [boxOf_drew]; exact B1, by rw [boxOf_drew]; exact B2, by rw [boxOf_drew]; exact B1, hB.drew⟩
  have hsz := sz_pos ok
  have hnl := newW_length ok
  go_wp2_with fail
  go_cut [9] from 33 (fun x wd => ∃ k9 it a, x = .pointer (some ⟨k9, 0, none⟩) ∧ (0 ≤ it ∧ it < c.x1) ∧ LpA c w.heap.size k9 (stA c t it (List.replicate (cntV c.x0) []) 0) a w wd)
  case first =>
    go_region_held3 (fun w' => boxOf w' w.heap.size = some (ccs c) ∧ boxOf w' (w.heap.size + 1) = some (ccs c) ∧ boxOf w' w.heap.size = some (ccs c) ∧ Below w.heap.size w w')
      (first | (with_reducible exact Z) | (with_reducible exact Z1) | (with_reducible exact Z2) | (with_reducible exact keep4 (by assumption) (belowN _ _)) | (with_reducible exact keep4s Z2 _ _ _ (by omega) (by omega) (by omega) (by omega)) | (with_reducible exact keep4s (keep4 Z2 (belowN _ _)) _ _ _ (by omega) (by omega) (by omega) (by omega)))
      (first
        | (go_at_call 19; refine (KB.out _).mono ?_; rintro e v1 ⟨A, cA, B, d, bs, rfl, hbx, mo, fA, fB, hb1⟩; have Z1 : boxOf v1 w.heap.size = some (ccs c) ∧ boxOf v1 (w.heap.size + 1) = some (ccs c) ∧ boxOf v1 w.heap.size = some (ccs c) ∧ Below w.heap.size w v1 := keep4 (by assumption) hb1; (first | (with_reducible have tk := box_keep2 tk hb1) | (with_reducible have tk := box_keep2n tk hb1) | (with_reducible have tk := box_newk hb1) | (with_reducible have tk := box_newd hb1) | skip); have q1 := hb1.size; (try simp at q1))
        | (go_at_call 20; refine (KL.out _).mono ?_; rintro e v2 ⟨rfl, hb2⟩; have Z2 : boxOf v2 w.heap.size = some (ccs c) ∧ boxOf v2 (w.heap.size + 1) = some (ccs c) ∧ boxOf v2 w.heap.size = some (ccs c) ∧ Below w.heap.size w v2 := keep4 (by assumption) hb2; (first | (with_reducible have tk := box_keep2 tk hb2) | (with_reducible have tk := box_keep2n tk hb2) | (with_reducible have tk := box_newk hb2) | (with_reducible have tk := box_newd hb2) | skip); (first | (with_reducible have mo2 := mo.later hb2) | (with_reducible have mo2 := (mo.later (belowN _ _)).later hb2)); have q2 := hb2.size; (try simp at q2)))
    all_goals go_wp2_with fail
    all_goals go_meet
    all_goals
      have hit : 0 ≤ (IntKind.i64.wrap z').tmod c.x1 ∧ (IntKind.i64.wrap z').tmod c.x1 < c.x1 := trem_lt _ _ (by rw [w64 (by omega)]; omega) hx1.1
      have hbl : 0 < bs.length := by have := congrArg List.length hbx; rw [boxes_length, List.length_replicate] at this; have := cnt_pos (x := c.x0) ⟨hx0.1, by omega⟩; omega
      have hnp : 0 < (newW c).length := by omega
    · exact ⟨_, _, _, rfl, hit, lp_new ok hD ht.1 hbx (mo2.later (belowN _ _)) (fun p hp => by have := mo2.words.block_lt hnp p hp; omega) (fun p hp => by have := mo2.bxs.block_lt hbl p hp; omega) (boxOf_new _ _ _ _ rfl) zT_length (by omega) (keep4 Z2 (belowN _ _))⟩
    · exact ⟨_, _, _, rfl, hit, lp_new ok hD ht.1 hbx mo2 (fun p hp => by have := mo.words.block_lt hnp p hp; omega) (fun p hp => by have := mo.bxs.block_lt hbl p hp; omega) tk.1 zT_length (by omega) Z2⟩
    · exact ⟨_, _, _, rfl, hit, lp_new ok hD ht.1 hbx mo2 (fun p hp => by have := fA p hp; simp at this; omega) (fun p hp => by have := fB p hp; simp at this; omega) tk.1 zT_length (by omega) Z2⟩
  case rest =>
  clear B1 B2 hB hs Z KB KL
  obtain ⟨k9, it, a0, rfl, hit, L0⟩ := hcut
  have hok := hide (fun n => stA_ok ok hlo hhi hin (List.replicate (cntV c.x0) []) hD ht hit n)
  have hnx := hide (fun n hn => stA_next ok (List.replicate (cntV c.x0) []) hD ht.1 hit (n := n) hn)
  have hend := hide (stA_end ok (it := it) (List.replicate (cntV c.x0) []) hD ht.1)
  have hheld := hide (fun j x hj => onW_held ok hD ht.1 hit (t := t) (j := j) (x := x) hj c.x3.toNat)
  have hway := way_of (D := c.x3) (t := t) ⟨hD, hx3.2⟩ ht.1
  have hwl := way_len hway
  have hWL : ((onW c it (frV 1 t) (pathV c.x3 t) (newW c) c.x3.toNat).length : Int) = szV c := by rw [onW_length]; exact hnl
  have KF := fun W => first_any t ht W
  have KP := fun W => rpath_any c.x3 t hx3 ht.1 it64 W
  obtain ⟨BX, hBX⟩ : ∃ l, (List.replicate (cntV c.x0) [] : List (List E3)) = l := ⟨_, rfl⟩
  obtain ⟨WS, hWS⟩ : ∃ l, onW c it (frV 1 t) (pathV c.x3 t) (newW c) c.x3.toNat = l := ⟨_, rfl⟩
  rw [hBX] at hok hnx hend L0
  rw [hWS] at hend hheld hWL
  have HNode := hide (fun j x (hj : (pathV c.x3 t)[j]? = some x) => (show ∃ k : Nat, npV c it x = (k : Int) ∧ k < WS.length ∧ WS[k]? = some (frV 1 t) ∧ I64 x by
    have hjl : j < c.x3.toNat := by have := (List.getElem?_eq_some_iff.1 hj).1; omega
    obtain ⟨x', e', h1, h2, _⟩ := way_at hway hjl
    obtain rfl : x' = x := Option.some.inj (e'.symm.trans hj)
    rw [show ((c.x3.toNat : Nat) : Int) = c.x3 by omega] at h2
    have lx := np_lt ok hit ⟨h1, h2⟩
    have hn15 := nd_le hx3
    exact ⟨(npV c it x').toNat, by omega, by omega, hheld.out j x' hj hjl (Nat.le_refl _), by unfold I64; omega⟩))
  obtain ⟨f1, hf1⟩ : ∃ x, frV 1 t = x := ⟨_, rfl⟩
  obtain ⟨P, hP⟩ : ∃ l, pathV c.x3 t = l := ⟨_, rfl⟩
  rw [hf1] at KF HNode
  rw [hP] at KP hend hwl HNode
  replace KF := hide KF
  replace KP := hide KP
  have HWL := hide hWL
  have HPL := hide hwl
  have HOK := hide ok
  have hwx := hide (show wrap64 (2 * c.x3) = 2 * c.x3 from wrap64_id (by unfold I64; omega))
  have hxd := hide (show ((2 * c.x3.toNat : Nat) : Int) = 2 * c.x3 by omega)
  clear hheld hway hBX hWS hf1 hP hWL hwl hnl hsz
  go_wp2
  go_loopw [10] (fun i wr => ∃ n : Nat, n ≤ 2 * c.x3.toNat ∧ i = .int .i64 n ∧ ∃ a, LpA c w.heap.size k9 (stA c t it BX n) a w wr) (fun i _ => 2 * c.x3.toNat - (intOf i).toNat)
  case atStart => exact ⟨0, Nat.zero_le _, rfl, a0, L0⟩
  case round =>
    obtain ⟨n, hn, rfl, a, L⟩ := hrel
    have C1 := L.c1
    have C2 := L.c2
    have C9 := L.b
    have hw2 := hwx.out
    by_cases hlt : n < 2 * c.x3.toNat
    · have j1 : (n : Int) < 2 * c.x3 := by have := hxd.out; omega
      have S0 := kstep_at (stA c t it BX n) a (hok.out n) (by rw [stA_tt]; exact ht) _ L.t
      have hl := step_like (stA c t it BX n)
      rw [(hnx.out n hlt).1] at S0 hl
      rw [(hnx.out n hlt).2] at S0
      obtain ⟨v, hv⟩ : ∃ v, stA c t it BX (n + 1) = v := ⟨_, rfl⟩
      rw [hv] at S0 hl
      have HVV := hide hv
      obtain ⟨u, hu⟩ : ∃ u, stA c t it BX n = u := ⟨_, rfl⟩
      rw [hu] at S0 hl L C9
      have HL := hide L
      have HLK := hide hl
      clear L hl hv hu
      go_wp2_with fail
      refine S0.mono ?_
      rintro e z1 ⟨b, rfl, T2, M2, hb1⟩
      have LN := hide (HL.out.next (Nat.le_refl _) HLK.out T2 M2 hb1 38)
      have D9 := boxOf_keep C9 hb1
      have lk := Nat.lt_of_lt_of_le (boxOf_lt C9) hb1.size
      have ne1 : ¬ z1.heap.size = k9 := by omega
      have ne2 : ¬ k9 = z1.heap.size := by omega
      clear C1 C2 C9 hb1 T2 M2 S0 HL HLK
      go_wp2
      go_roundw
      case rel => exact ⟨n + 1, by omega, by go_num, b, by rw [HVV.out]; exact LN.out⟩
      case measure => simp [intOf]; omega
    · have hE : stA c t it BX n = (⟨c, t, 0, WS, BX, ⟨7, it, 0, 0, [], [], P, 0, 0, 0, 0, 0, 0, 0, 0, 0, 0⟩, [], 0, [], false⟩ : Tn) := by rw [show n = 2 * c.x3.toNat by omega]; exact hend.out
      have j1 : ¬ (n : Int) < 2 * c.x3 := by have := hxd.out; omega
      rw [hE] at L C9
      have HL := hide L
      have hpl : 0 < P.length := by have := HPL.out; omega
      have hws : 0 < WS.length := by obtain ⟨k, _, h, _⟩ := HNode.out 0 P[0] (List.getElem?_eq_getElem hpl); omega
      obtain ⟨mA, mc, mB, md, bs, ⟨bA, bc, kA, kc, hA, hc⟩, tA, tc, lA, lc⟩ := a
      obtain ⟨wb, wo, eW, _⟩ := HL.out.t.m.words.some_of hws
      obtain ⟨hb, ho, eH, _⟩ := HL.out.t.th.h.some_of hpl
      change mA = _ at eW
      change hA = _ at eH
      subst eW eH
      clear L hE hn hlt hnx hok hend
      have bsz : ((WS.length : Int) != szV c) = false := by rw [HWL.out]; simp
      go_wp2_with fail
      have Z : boxOf wr.drew k9 = some (tcs (⟨c, t, 0, WS, BX, ⟨7, it, 0, 0, [], [], P, 0, 0, 0, 0, 0, 0, 0, 0, 0, 0⟩, [], 0, [], false⟩ : Tn) (⟨some ⟨wb, wo, none⟩, mc, mB, md, bs, ⟨bA, bc, kA, kc, some ⟨hb, ho, none⟩, hc⟩, tA, tc, lA, lc⟩ : TA)) ∧ boxOf wr.drew (w.heap.size + 1) = some (ccs c) ∧ boxOf wr.drew w.heap.size = some (ccs c) ∧ Below wr.heap.size wr wr.drew := ⟨by rw [boxOf_drew]; exact C9, by rw [boxOf_drew]; exact C2, by rw [boxOf_drew]; exact C1, (Below.refl _ _).drew⟩
      go_region_held3 (fun w' => boxOf w' k9 = some (tcs (⟨c, t, 0, WS, BX, ⟨7, it, 0, 0, [], [], P, 0, 0, 0, 0, 0, 0, 0, 0, 0, 0⟩, [], 0, [], false⟩ : Tn) (⟨some ⟨wb, wo, none⟩, mc, mB, md, bs, ⟨bA, bc, kA, kc, some ⟨hb, ho, none⟩, hc⟩, tA, tc, lA, lc⟩ : TA)) ∧ boxOf w' (w.heap.size + 1) = some (ccs c) ∧ boxOf w' w.heap.size = some (ccs c) ∧ Below wr.heap.size wr w')
        (first | (with_reducible exact Z) | (with_reducible exact Z1) | (with_reducible exact Z2) | (with_reducible exact Z3))
        (first
          | (go_at_call 21; refine (rsize_tn c HOK.out _).mono ?_; rintro e v1 ⟨rfl, hb1⟩; have Z1 : boxOf v1 k9 = some (tcs (⟨c, t, 0, WS, BX, ⟨7, it, 0, 0, [], [], P, 0, 0, 0, 0, 0, 0, 0, 0, 0, 0⟩, [], 0, [], false⟩ : Tn) (⟨some ⟨wb, wo, none⟩, mc, mB, md, bs, ⟨bA, bc, kA, kc, some ⟨hb, ho, none⟩, hc⟩, tA, tc, lA, lc⟩ : TA)) ∧ boxOf v1 (w.heap.size + 1) = some (ccs c) ∧ boxOf v1 w.heap.size = some (ccs c) ∧ Below wr.heap.size wr v1 := keep4 Z hb1)
          | (go_at_call 23; refine (KP.out _).mono ?_; rintro e v2 ⟨A2, c2, rfl, _, s2, hb2⟩; have Z2 : boxOf v2 k9 = some (tcs (⟨c, t, 0, WS, BX, ⟨7, it, 0, 0, [], [], P, 0, 0, 0, 0, 0, 0, 0, 0, 0, 0⟩, [], 0, [], false⟩ : Tn) (⟨some ⟨wb, wo, none⟩, mc, mB, md, bs, ⟨bA, bc, kA, kc, some ⟨hb, ho, none⟩, hc⟩, tA, tc, lA, lc⟩ : TA)) ∧ boxOf v2 (w.heap.size + 1) = some (ccs c) ∧ boxOf v2 w.heap.size = some (ccs c) ∧ Below wr.heap.size wr v2 := keep4 Z1 hb2)
          | (go_at_call 22; refine (ints_any _ A2 hc c2 P.length P.length P P (by have := HPL.out; omega) _ (HL.out.t.th.h.later Z2.2.2.2) s2).mono ?_; rintro e v3 ⟨rfl, hb3⟩; have Z3 : boxOf v3 k9 = some (tcs (⟨c, t, 0, WS, BX, ⟨7, it, 0, 0, [], [], P, 0, 0, 0, 0, 0, 0, 0, 0, 0, 0⟩, [], 0, [], false⟩ : Tn) (⟨some ⟨wb, wo, none⟩, mc, mB, md, bs, ⟨bA, bc, kA, kc, some ⟨hb, ho, none⟩, hc⟩, tA, tc, lA, lc⟩ : TA)) ∧ boxOf v3 (w.heap.size + 1) = some (ccs c) ∧ boxOf v3 w.heap.size = some (ccs c) ∧ Below wr.heap.size wr v3 := keep4 Z2 hb3; rw [decide_eq_true rfl]))
      have HB3 := hide (below_next HL.out.lo HL.out.lo.size Z3.2.2.2)
      have F9 := Z3.1
      have F2 := Z3.2.1
      have sH := hide (HL.out.t.th.h.later Z3.2.2.2)
      have sW := hide (HL.out.t.m.words.later Z3.2.2.2)
      have hfew : P.length ≤ 4 := by have := HPL.out; omega
      generalize wr = wo1 at *
      clear Z Z1 Z2 Z3 hb1 hb2 hb3 s2 C1 C2 C9 HL
      go_wp2
      go_loopw [13] (fun i wr => ∃ j : Nat, j ≤ P.length ∧ i = .int .i64 j ∧ Below v3.heap.size v3 wr) (fun i _ => P.length - (intOf i).toNat)
      case atStart => exact ⟨0, Nat.zero_le _, rfl, Below.refl _ _⟩
      case round =>
        obtain ⟨j, hj, rfl, hbr⟩ := hrel
        have G9 := boxOf_keep F9 hbr
        have G2 := boxOf_keep F2 hbr
        by_cases hlt : j < P.length
        · obtain ⟨x, hx⟩ : ∃ x, P[j]? = some x := ⟨P[j], List.getElem?_eq_getElem hlt⟩
          obtain ⟨k, hk, hkl, hkv, ix⟩ := HNode.out j x hx
          have g1 := word_cell (sH.out.later hbr) hx
          have g2 := word_cell (sW.out.later hbr) hkv
          have j0 : (0 : Int) ≤ (j : Int) := Int.natCast_nonneg _
          have j1 : (j : Int) < (P.length : Int) := by omega
          have kk0 : (0 : Int) ≤ (k : Int) := Int.natCast_nonneg _
          have kk1 : (k : Int) < (WS.length : Int) := by omega
          have KN := fun W => rnode_tn c HOK.out it (by have := HOK.out.h1; unfold I64; omega) x ix W
          rw [hk] at KN
          replace KN := hide KN
          clear hx hkv hk hkl
          go_wp2_with fail
          have R9 := fun d os => boxOf_keep G9 (below_regrown wr d os)
          have R2 := fun d os => boxOf_keep G2 (below_regrown wr d os)
          have r1 := cell_regrown g1
          have r2 := cell_regrown g2
          have Q1 := hide (fun d os => Calls.regrown_of (w := wr) (KN.out (grow (redrawn wr d) os)))
          have Q2 := hide (fun d os => Calls.regrown_of (w := wr) (KF.out (grow (redrawn wr d) os)))
          refine wp_region_quiet_below (by kernel_rfl) (by kernel_rfl) ?_
          repeat (go_big_quiet_step (first | (go_at_call 24; exact Q1.out _ _) | (go_at_call 25; exact Q2.out _ _)))
          refine wpQuiet_nil ?_
          intro _ hw'
          obtain ⟨⟨dq, osq⟩, hw''⟩ := hw'
          subst hw''
          go_wp2
          go_roundw
          case rel => exact ⟨j + 1, by omega, by go_num, below_next hbr hbr.size (below_regrown wr dq osq)⟩
          case measure => simp [intOf]; omega
        · obtain rfl : j = P.length := by omega
          go_wp2
          go_ret
          exact ⟨ret_b (by simp), below_next HB3.out HB3.out.size hbr⟩
end Go.Proofs.Ytlmlmmkichkkhaa
