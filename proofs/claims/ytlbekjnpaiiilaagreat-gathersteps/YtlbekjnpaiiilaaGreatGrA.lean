/- The document's Down, next, held. -/
import Derived.Test.YtlbekjnpaiiilaaGreatGaR
import Derived.Test.YtlbekjnpaiiilaaGreatGaA
import Derived.Test.YtlbekjnpaiiilaaGreatM1
import Derived.Test.YtlbekjnpaiiilaaGreatM2
import Derived.Test.YtlbekjnpaiiilaaGreatM6
import Derived.Lib.QuietBelow
import Derived.Deep.QuietTactic
import Derived.BigQuiet
import Derived.Deep.RegionHeld3
namespace Go.Proofs.YtlbekjnpaiiilaaGreat
open Go.RowKit Go.Sort
set_option linter.unusedVariables false
set_option linter.unusedSimpArgs false

set_option maxRecDepth 100000 in
set_option maxHeartbeats 4000000 in
theorem rjoinF_any (A : Option Addr) (cap : Nat) (bs : List Bt) (len : Nat) (hlen : len = bs.length) (hmax : len ≤ 100000) (hf : (flat bs).length ≤ 100000) (w : World)
    (hs : Sees w w.heap.size 1 A len (bs.map Bt.val)) (hq : ∀ q ∈ bs, q.Ok w) :
    Calls Tryz.prog 39 #[.slice A len cap] w (FRowPost 3 (flat bs).length (ecells (flat bs)) w) := by
  obtain ⟨i0, hi0, hz0, hz1, hz2⟩ := info_parts info52
  have HL := hide hlen
  clear hlen
  go_enter Tryz.func39, Tryz.ntmps39
  go_wp2
  go_loopw [3, 4] (fun a i wr => ∃ j : Nat, j ≤ len ∧ i = .int .i64 j ∧ wr.ownsRow w.heap.size 99 3 a (flat (bs.take j)).length (ecells (flat (bs.take j))) ∧ Below w.heap.size w wr)
    (fun _ i _ => len - (intOf i).toNat)
  case atStart => exact ⟨0, Nat.zero_le _, rfl, own_empty w _ _ _ (Nat.le_refl _), (Below.refl _ _).alloc (Nat.le_refl _) _⟩
  case round =>
    obtain ⟨j, hj, rfl, hown, hB⟩ := hrel
    by_cases hlt : j < len
    · obtain ⟨b, off, rfl, hb, hc⟩ := hs.2 (by omega)
      obtain ⟨q, hqj⟩ : ∃ q, bs[j]? = some q := ⟨bs[j]'(by have := HL.out; omega), List.getElem?_eq_getElem _⟩
      have hcq := hc j q.val (by simp [hqj])
      have hcr : wr.cell? ⟨b, off + j, none⟩ = some q.val := (hB.cell (p := ⟨b, off + j, none⟩) hb).trans hcq
      have hok : Sees wr w.heap.size 3 q.A q.l.length (ecells q.l) := (hq q (List.mem_of_getElem? hqj)).below hB
      have HT := hide (take_snoc bs j q hqj)
      have hle : (flat (bs.take j)).length + q.l.length ≤ 100000 := by
        have := flat_take_le bs (j + 1)
        rw [HT.out, flat_snoc, List.length_append] at this
        omega
      obtain ⟨qA, qc, ql⟩ := q
      simp only [Bt.val] at hcr hok hle
      clear hc hcq hqj
      go_wp2_with (at_builtin; refine wpList_app _ rfl _ _ 48 rfl w.heap.size 99 i0 _ 3 24 Tryz.underlying48 hi0 hz0 hz1 hz2 rfl (by omega) _ _ _ rfl hown w.heap.size qA ql.length qc (ecells ql) rfl hok (ecells_one ql) (by unfold maxLen; omega) (by omega) hB.size ?_; intro v1 w1 hown1 hg1)
      go_roundw
      case rel => exact ⟨j + 1, by omega, by go_num, by rw [HT.out, flat_snoc, List.length_append, ecells_append]; exact hown1, hB.grown hg1 hB.size (own_at hown)⟩
      case measure => simp [intOf]; omega
    · obtain rfl : j = len := by omega
      have HT := hide (show bs.take j = bs by rw [HL.out, List.take_length])
      go_wp2
      go_ret
      rw [HT.out] at hown
      obtain ⟨A', c', rfl, hc'⟩ := own_form hown
      exact ⟨A', c', rfl, hc', Sees.of_own hown, fresh_own hown, hB⟩

attribute [local irreducible] tcs thc ccs zT
attribute [local go_sem ↓] alTn_is alRn_is
attribute [local go_sem] run_alTnf run_alTnt run_alRnf run_alRnt zT_length
attribute [local go_sem ↓] lbTn_is lbRn_is lbTh_is lbRh_is lbCf_is lbRc_is sbTn_is sbRn_is sbTh_is sbRh_is sbCf_is sbRc_is
attribute [local go_sem] run_lbTn run_lbRn run_lbTh run_lbRh run_lbCf run_lbRc run_sbTn run_sbRn run_sbTh run_sbRh run_sbCf run_sbRc
attribute [local go_sem 2000] boxOf_old'
attribute [local go_sem] boxOf_at' boxOf_free' boxOf_alloc objBox_cells objBox_cellsA boxOf_drew boxOf_setI boxOf_setsI size_sets tcs_length thc_length ccs_length tcs_one thc_one ccs_one sub_tn sub_th sub_cf sub_thAll sub_cfAll put_turn put_thread
attribute [local go_sem] tc0 tc1 tc2 tc3 tc4 tc5 tc6 tc7 tc8 tc9 tc10 tc11 tc12 tc13 tc14 tc15 tc16 tc17 tc18 tc19 tc20 tc21 tc22 tc23 tc24 tc25 tc26 tc27 tc28 tc29 tc30 tc31 tc32 tc33 tc34 tc35 tc36 hc0 hc1 hc2 hc3 hc4 hc5 hc6 hc7 hc8 hc9 hc10 hc11 hc12 hc13 hc14 hc15 hc16 kc0 kc1 kc2 kc3 kc4 kc5 kc6 kc7 kc8 kc9 kc10 kc11 tg0 tg1 tg2 tg3 tg4 tg5 tg6 tg7 tg8 tg9 tg10 tg11 tg12 tg13 tg14 tg15 tg16 tg17 tg18 tg19 tg20 tg21 tg22 tg23 tg24 tg25 tg26 tg27 tg28 tg29 tg30 tg31 tg32 tg33 tg34 tg35 tg36 hg0 hg1 hg2 hg3 hg4 hg5 hg6 hg7 hg8 hg9 hg10 hg11 hg12 hg13 hg14 hg15 hg16 kg0 kg1 kg2 kg3 kg4 kg5 kg6 kg7 kg8 kg9 kg10 kg11
attribute [local go_sem] ts12 ts13 ts14 ts16 ts17 ts18 ts19 ts20 ts21 ts22 ts23 ts24 ts25 ts26 ts27 ts28 ts29 ts30 ts31 ts32 ts33 ts34 ts35 ts36 ts15 hs0 hs1 hs2 hs3 hs7 hs8 hs9 hs10 hs11 hs12 hs13 hs14 hs15 hs16

set_option maxRecDepth 100000 in
set_option maxHeartbeats 4000000 in
theorem rdown_any (u : Tn) (a : TA) (w : World) : Calls Tryz.prog 63 #[.agg (tcs u a).toArray] w (TPost (downV u) a w) := by
  have B1 : boxOf ((w.alloc (.cells (tcs u a).toArray 55)).alloc (.cells zT.toArray 55)) w.heap.size = some (tcs u a) := by simp [go_sem]
  have B2 : boxOf ((w.alloc (.cells (tcs u a).toArray 55)).alloc (.cells zT.toArray 55)) (w.heap.size + 1) = some zT := by simp [go_sem]
  have hs : w.heap.size + 1 < ((w.alloc (.cells (tcs u a).toArray 55)).alloc (.cells zT.toArray 55)).heap.size := by simp
  have hB : Below w.heap.size w ((w.alloc (.cells (tcs u a).toArray 55)).alloc (.cells zT.toArray 55)) := (belowN w _).alloc (by simp) _
  have hc : ((0 ≤ u.d.pl ∧ u.d.pl < (u.d.hl.length : Int)) ∧ Hid (downV u = { u with d := { u.d with ph := 7 } })) ∨ (u.d.pl < 0 ∧ 0 < u.d.st ∧ Hid (downV u = { u with d := { u.d with ph := 11 } })) ∨ (u.d.pl < 0 ∧ ¬ 0 < u.d.st ∧ Hid (downV u = { u with d := { u.d with ph := 2 } })) ∨ ((0 ≤ u.d.pl ∧ (u.d.hl.length : Int) ≤ u.d.pl) ∧ 0 < u.d.st ∧ Hid (downV u = { u with d := { u.d with ph := 11 } })) ∨ ((0 ≤ u.d.pl ∧ (u.d.hl.length : Int) ≤ u.d.pl) ∧ ¬ 0 < u.d.st ∧ Hid (downV u = { u with d := { u.d with ph := 2 } })) := by
    by_cases h1 : 0 ≤ u.d.pl
    · by_cases h2 : u.d.pl < (u.d.hl.length : Int)
      · exact .inl ⟨⟨h1, h2⟩, hide (by rw [downV, if_pos ⟨h1, h2⟩])⟩
      · by_cases h3 : 0 < u.d.st
        · exact .inr (.inr (.inr (.inl ⟨⟨h1, by omega⟩, h3, hide (by rw [downV, if_neg (fun e => h2 e.2), if_pos h3])⟩)))
        · exact .inr (.inr (.inr (.inr ⟨⟨h1, by omega⟩, h3, hide (by rw [downV, if_neg (fun e => h2 e.2), if_neg h3])⟩)))
    · by_cases h3 : 0 < u.d.st
      · exact .inr (.inl ⟨by omega, h3, hide (by rw [downV, if_neg (fun e => h1 e.1), if_pos h3])⟩)
      · exact .inr (.inr (.inl ⟨by omega, h3, hide (by rw [downV, if_neg (fun e => h1 e.1), if_neg h3])⟩))
  go_enter Tryz.func63, Tryz.ntmps63
  rcases hc with ⟨⟨h1, h2⟩, H⟩ | ⟨h1, h3, H⟩ | ⟨h1, h3, H⟩ | ⟨⟨h1, h2⟩, h3, H⟩ | ⟨⟨h1, h2⟩, h3, H⟩
  · go_wp2
    refine bodyPost_ret (v := .agg (tcs ({ u with d := { u.d with ph := 7 } } : Tn) a).toArray) (results_box Tryz.results63 _ _ (w.heap.size + 1) _ _ rfl (by simp [go_sem, B1, B2]) Tryz.underlying55 rfl (by kernel_rfl)) rfl ⟨by rw [H.out], ?_⟩
    repeat first | exact hB | refine below_sets _ (by omega) _ _ _ _ ?_ | refine Below.setCell ?_ (by first | omega | (simp; omega) | simp) _ | refine Below.alloc ?_ (by first | omega | (simp; omega) | simp) _ | exact Below.refl _ _
  · go_wp2
    refine bodyPost_ret (v := .agg (tcs ({ u with d := { u.d with ph := 11 } } : Tn) a).toArray) (results_box Tryz.results63 _ _ (w.heap.size + 1) _ _ rfl (by simp [go_sem, B1, B2]) Tryz.underlying55 rfl (by kernel_rfl)) rfl ⟨by rw [H.out], ?_⟩
    repeat first | exact hB | refine below_sets _ (by omega) _ _ _ _ ?_ | refine Below.setCell ?_ (by first | omega | (simp; omega) | simp) _ | refine Below.alloc ?_ (by first | omega | (simp; omega) | simp) _ | exact Below.refl _ _
  · go_wp2
    refine bodyPost_ret (v := .agg (tcs ({ u with d := { u.d with ph := 2 } } : Tn) a).toArray) (results_box Tryz.results63 _ _ (w.heap.size + 1) _ _ rfl (by simp [go_sem, B1, B2]) Tryz.underlying55 rfl (by kernel_rfl)) rfl ⟨by rw [H.out], ?_⟩
    repeat first | exact hB | refine below_sets _ (by omega) _ _ _ _ ?_ | refine Below.setCell ?_ (by first | omega | (simp; omega) | simp) _ | refine Below.alloc ?_ (by first | omega | (simp; omega) | simp) _ | exact Below.refl _ _
  · go_wp2
    refine bodyPost_ret (v := .agg (tcs ({ u with d := { u.d with ph := 11 } } : Tn) a).toArray) (results_box Tryz.results63 _ _ (w.heap.size + 1) _ _ rfl (by simp [go_sem, B1, B2]) Tryz.underlying55 rfl (by kernel_rfl)) rfl ⟨by rw [H.out], ?_⟩
    repeat first | exact hB | refine below_sets _ (by omega) _ _ _ _ ?_ | refine Below.setCell ?_ (by first | omega | (simp; omega) | simp) _ | refine Below.alloc ?_ (by first | omega | (simp; omega) | simp) _ | exact Below.refl _ _
  · go_wp2
    refine bodyPost_ret (v := .agg (tcs ({ u with d := { u.d with ph := 2 } } : Tn) a).toArray) (results_box Tryz.results63 _ _ (w.heap.size + 1) _ _ rfl (by simp [go_sem, B1, B2]) Tryz.underlying55 rfl (by kernel_rfl)) rfl ⟨by rw [H.out], ?_⟩
    repeat first | exact hB | refine below_sets _ (by omega) _ _ _ _ ?_ | refine Below.setCell ?_ (by first | omega | (simp; omega) | simp) _ | refine Below.alloc ?_ (by first | omega | (simp; omega) | simp) _ | exact Below.refl _ _
set_option maxRecDepth 100000 in
set_option maxHeartbeats 4000000 in
theorem rheld_any (u : Tn) (a : TA) (o : TnOk u) (w : World) (h : TnAt w u a) : Calls Tryz.prog 19 #[.agg (tcs u a).toArray] w (IntPost (hdP u) w) := by
  have hB := belowN w (.cells (tcs u a).toArray 55)
  rcases inR_cases u.d.hl.length u.d.pl with ⟨k, hk, hkp⟩ | hno
  · obtain ⟨b, off, e1, hb, hc⟩ := (h.th.h.later hB).2 (by omega)
    obtain ⟨x, hx⟩ : ∃ x, u.d.hl[k]? = some x := ⟨u.d.hl[k], List.getElem?_eq_getElem hk⟩
    have hcx := hc k (.int .i64 x) (by simp [hx])
    have e2 : hdN u = x := by unfold hdN; rw [hkp]; simp [hx]
    have e3 : hdP u = npV u.c u.d.it x := by unfold hdP; rw [hkp, inR_at hk, if_pos rfl, e2]
    have HC := fun W => hide (rnode_tn u.c o.c u.d.it o.iit x (e2 ▸ hdN_i64 o) W)
    rw [e3]
    obtain ⟨np, hnp⟩ : ∃ y, npV u.c u.d.it x = y := ⟨_, rfl⟩
    rw [hnp] at HC ⊢
    have k0 : (0 : Int) ≤ (k : Int) := Int.natCast_nonneg _
    have k1 : (k : Int) < (u.d.hl.length : Int) := by omega
    have k2 : ¬ (u.d.hl.length : Int) ≤ (k : Int) := by omega
    have k3 : ¬ (k : Int) < 0 := by omega
    have B1 : boxOf (w.alloc (.cells (tcs u a).toArray 55)) w.heap.size = some (tcs u a) := boxOf_new _ _ _ _ rfl
    clear hc hx e2 e3 hnp h hk hb
    go_enter Tryz.func19, Tryz.ntmps19
    go_upto_region 3 with fail
    generalize (w.alloc (.cells (tcs u a).toArray 55)) = wz at *
    have R1 := fun d os => boxOf_keep B1 (below_regrown wz d os)
    have r1 := cell_regrown hcx
    have Q1 := hide (fun d os => Calls.regrown_of (w := wz) ((HC (grow (redrawn wz d) os)).out))
    clear HC
    refine wp_region_quiet_below (by kernel_rfl) (by kernel_rfl) ?_
    repeat (go_big_quiet_step (first | (go_at_call 29; exact Q1.out _ _)))
    refine wpQuiet_nil ?_
    intro _ hw'
    obtain ⟨⟨dq, osq⟩, hw''⟩ := hw'
    subst hw''
    go_wp2
    go_ret
    exact ⟨rfl, below_next hB hB.size (below_regrown wz dq osq)⟩
  · have e3 : hdP u = -1 := by unfold hdP; rw [inR_no hno, if_neg (by decide)]
    rw [e3]
    clear e3
    go_enter Tryz.func19, Tryz.ntmps19
    by_cases h0 : u.d.pl < 0
    · go_wp2
      go_ret
      exact ⟨rfl, hB⟩
    · have h1 : (u.d.hl.length : Int) ≤ u.d.pl := by omega
      clear hno
      go_wp2
      go_ret
      exact ⟨rfl, hB⟩
set_option maxRecDepth 100000 in
set_option maxHeartbeats 4000000 in
theorem rnext_any (u : Tn) (a : TA) (w : World) : Calls Tryz.prog 25 #[.agg (tcs u a).toArray] w (TPost (nxG u) a w) := by
  have H : Hid (nxG u = downV ({ u with d := { u.d with pl := wrap64 (u.d.pl + 1) } } : Tn)) := hide rfl
  have B1 : boxOf ((w.alloc (.cells (tcs u a).toArray 55)).alloc (.cells zT.toArray 55)) w.heap.size = some (tcs u a) := by simp [go_sem]
  have B2 : boxOf ((w.alloc (.cells (tcs u a).toArray 55)).alloc (.cells zT.toArray 55)) (w.heap.size + 1) = some zT := by simp [go_sem]
  have hs : w.heap.size + 1 < ((w.alloc (.cells (tcs u a).toArray 55)).alloc (.cells zT.toArray 55)).heap.size := by simp
  have hB : Below w.heap.size w ((w.alloc (.cells (tcs u a).toArray 55)).alloc (.cells zT.toArray 55)) := (belowN w _).alloc (by simp) _
  go_enter Tryz.func25, Tryz.ntmps25
  go_wp2_with fail
  generalize ((w.alloc (.cells (tcs u a).toArray 55)).alloc (.cells zT.toArray 55)) = wz at *
  refine (rdown_any ({ u with d := { u.d with pl := wrap64 (u.d.pl + 1) } } : Tn) a _).mono ?_
  rintro e w1 ⟨rfl, hb1⟩
  have B2n := boxOf_keep (g := w.heap.size + 1) (cs := zT) (by simp [go_sem, B1, B2]) hb1
  replace hB : Below w.heap.size w w1 := below_next (by repeat first | exact hB | refine below_sets _ (by omega) _ _ _ _ ?_ | refine Below.setCell ?_ (by first | omega | (simp; omega) | simp) _ | refine Below.alloc ?_ (by first | omega | (simp; omega) | simp) _ | exact Below.refl _ _) (by simp; omega) hb1
  rw [← H.out]
  obtain ⟨v, hv⟩ : ∃ v, nxG u = v := ⟨_, rfl⟩
  rw [hv]
  replace H := hide hv
  clear hb1 B1 B2 hv
  go_wp2
  refine bodyPost_ret (v := .agg (tcs v a).toArray) (results_box Tryz.results25 _ _ (w.heap.size + 1) _ _ rfl (by simp [go_sem, B2n]) Tryz.underlying55 rfl (by kernel_rfl)) rfl ⟨by rw [H.out], ?_⟩
  repeat first | exact hB | refine below_sets _ (by omega) _ _ _ _ ?_ | refine Below.setCell ?_ (by first | omega | (simp; omega) | simp) _ | refine Below.alloc ?_ (by first | omega | (simp; omega) | simp) _
end Go.Proofs.YtlbekjnpaiiilaaGreat
