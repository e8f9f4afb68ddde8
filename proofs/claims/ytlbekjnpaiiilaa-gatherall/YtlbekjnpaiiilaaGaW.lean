/- The contracts of the steps that write, and of to. -/
import Derived.Test.YtlbekjnpaiiilaaGaR
import Derived.Test.YtlbekjnpaiiilaaGaA
import Derived.Test.YtlbekjnpaiiilaaM2
import Derived.Test.YtlbekjnpaiiilaaM6
import Derived.Lib.QuietBelow
import Derived.Deep.QuietTactic
import Derived.BigQuiet
import Derived.Deep.RegionHeld3
namespace Go.Proofs.Ytlbekjnpaiiilaa
open Go.RowKit Go.Sort
set_option linter.unusedVariables false
set_option linter.unusedSimpArgs false

theorem keepG3 {w W W' : World} {g gz : Nat} {cs es : List Value} (h : boxOf W g = some cs ∧ boxOf W gz = some es ∧ Below w.heap.size w W) (hb : Below W.heap.size W W') : boxOf W' g = some cs ∧ boxOf W' gz = some es ∧ Below w.heap.size w W' := ⟨boxOf_keep h.1 hb, boxOf_keep h.2.1 hb, below_next h.2.2 h.2.2.size hb⟩
theorem farG {w W : World} {g k : Nat} {cs : List Value} (h : boxOf W g = some cs ∧ Below w.heap.size w W) (i : Nat) (v : Value) (h1 : k ≠ g) (h0 : w.heap.size ≤ k) : boxOf (W.setCell ⟨k, i, none⟩ v) g = some cs ∧ Below w.heap.size w (W.setCell ⟨k, i, none⟩ v) := ⟨by rw [boxOf_far _ _ _ _ h1]; exact h.1, h.2.setCell h0 _⟩
attribute [local irreducible] tcs thc ccs zT
attribute [local go_sem ↓] alTn_is alRn_is
attribute [local go_sem] run_alTnf run_alTnt run_alRnf run_alRnt zT_length
attribute [local go_sem ↓] lbTn_is lbRn_is lbTh_is lbRh_is lbCf_is lbRc_is sbTn_is sbRn_is sbTh_is sbRh_is sbCf_is sbRc_is
attribute [local go_sem] run_lbTn run_lbRn run_lbTh run_lbRh run_lbCf run_lbRc run_sbTn run_sbRn run_sbTh run_sbRh run_sbCf run_sbRc
attribute [local go_sem 2000] boxOf_old'
attribute [local go_sem] boxOf_at' boxOf_free' boxOf_alloc objBox_cells objBox_cellsA boxOf_drew boxOf_setI boxOf_setsI size_sets tcs_length thc_length ccs_length tcs_one thc_one ccs_one sub_tn sub_th sub_cf sub_thAll sub_cfAll put_turn put_thread
attribute [local go_sem] tc0 tc1 tc2 tc3 tc4 tc5 tc6 tc7 tc8 tc9 tc10 tc11 tc12 tc13 tc14 tc15 tc16 tc17 tc18 tc19 tc20 tc21 tc22 tc23 tc24 tc25 tc26 tc27 tc28 tc29 tc30 tc31 tc32 tc33 tc34 tc35 tc36 hc0 hc1 hc2 hc3 hc4 hc5 hc6 hc7 hc8 hc9 hc10 hc11 hc12 hc13 hc14 hc15 hc16 kc0 kc1 kc2 kc3 kc4 kc5 kc6 kc7 kc8 kc9 kc10 kc11 tg0 tg1 tg2 tg3 tg4 tg5 tg6 tg7 tg8 tg9 tg10 tg11 tg12 tg13 tg14 tg15 tg16 tg17 tg18 tg19 tg20 tg21 tg22 tg23 tg24 tg25 tg26 tg27 tg28 tg29 tg30 tg31 tg32 tg33 tg34 tg35 tg36 hg0 hg1 hg2 hg3 hg4 hg5 hg6 hg7 hg8 hg9 hg10 hg11 hg12 hg13 hg14 hg15 hg16 kg0 kg1 kg2 kg3 kg4 kg5 kg6 kg7 kg8 kg9 kg10 kg11
attribute [local go_sem] ts12 ts13 ts14 ts16 ts17 ts18 ts19 ts20 ts21 ts22 ts23 ts24 ts25 ts26 ts27 ts28 ts29 ts30 ts31 ts32 ts33 ts34 ts35 ts36 ts15 hs0 hs1 hs2 hs3 hs7 hs8 hs9 hs10 hs11 hs12 hs13 hs14 hs15 hs16

set_option maxRecDepth 100000 in
set_option maxHeartbeats 4000000 in
theorem st1_any (u : Tn) (a : TA) (o : TnOk u) (w : World) (h : TnAt w u a) : Calls Try.prog 43 #[.agg (tcs u a).toArray] w (MEPost a.mA (stV u.ws (hdP u) 0) a.mB a.bs.length a.md (erV u.ws.length (hdP u)) w) := by
  obtain ⟨nw, hnw⟩ : ∃ x, stV u.ws (hdP u) 0 = x := ⟨_, rfl⟩
  obtain ⟨ev, hev⟩ : ∃ x, erV u.ws.length (hdP u) = x := ⟨_, rfl⟩
  have HN : Hid (nw.length = u.ws.length) := hide (by rw [← hnw]; exact stV_length _ _ _)
  have KS := hide (fun W m => store_any a.mA a.mB a.mc a.md u.ws a.bs (hdP u) 0 W m)
  rw [hnw, hev] at KS
  rw [hnw, hev]
  clear hnw hev
  have B1 : boxOf ((w.alloc (.cells (tcs u a).toArray 38)).alloc (.cells #[.slice none 0 0, .slice none 0 0] 27)) w.heap.size = some (tcs u a) := by simp [go_sem]
  have B2 : boxOf ((w.alloc (.cells (tcs u a).toArray 38)).alloc (.cells #[.slice none 0 0, .slice none 0 0] 27)) (w.heap.size + 1) = some [.slice none 0 0, .slice none 0 0] := boxOf_newA _ _ _ _ (by simp)
  have hs : w.heap.size + 1 < ((w.alloc (.cells (tcs u a).toArray 38)).alloc (.cells #[.slice none 0 0, .slice none 0 0] 27)).heap.size := by simp
  have hB : Below w.heap.size w ((w.alloc (.cells (tcs u a).toArray 38)).alloc (.cells #[.slice none 0 0, .slice none 0 0] 27)) := (belowN w _).alloc (by simp) _
  have h0 := h
  replace h := h.later hB
  go_enter Try.func43, Try.ntmps43
  go_wp2_with fail
  generalize ((w.alloc (.cells (tcs u a).toArray 38)).alloc (.cells #[.slice none 0 0, .slice none 0 0] 27)) = wz at *
  have Z : boxOf wz.drew w.heap.size = some (tcs u a) ∧ boxOf wz.drew (w.heap.size + 1) = some [.slice none 0 0, .slice none 0 0] ∧ Below w.heap.size w wz.drew := ⟨by rw [boxOf_drew]; exact B1, by rw [boxOf_drew]; exact B2, hB.drew⟩
  have HA := hide (h0.m.words.block_lt)
  go_region_held3 (fun w' => boxOf w' w.heap.size = some (tcs u a) ∧ Below w.heap.size w w')
    (first | (with_reducible exact ⟨Z.1, Z.2.2⟩) | (with_reducible exact ⟨Z1.1, Z1.2.2⟩) | (with_reducible exact ⟨Z2.1, Z2.2.2⟩) | (with_reducible exact farG ⟨Z2.1, Z2.2.2⟩ _ _ (by omega) (by omega)) | (with_reducible exact farG (farG ⟨Z2.1, Z2.2.2⟩ _ _ (by omega) (by omega)) _ _ (by omega) (by omega)))
    (first
      | (go_at_call 44; refine (held_any u a o _ (h0.later Z.2.2)).mono ?_; rintro e v1 ⟨rfl, hb1⟩; have Z1 : boxOf v1 w.heap.size = some (tcs u a) ∧ boxOf v1 (w.heap.size + 1) = some [.slice none 0 0, .slice none 0 0] ∧ Below w.heap.size w v1 := keepG3 Z hb1; have q1 : w.heap.size + 1 < v1.heap.size := boxOf_lt Z1.2.1)
      | (go_at_call 37; refine (KS.out _ (h0.m.later Z1.2.2)).mono ?_; rintro e v2 ⟨A, c, rfl, hsA, hor, hb2⟩; have Z2 : boxOf v2 w.heap.size = some (tcs u a) ∧ boxOf v2 (w.heap.size + 1) = some [.slice none 0 0, .slice none 0 0] ∧ Below w.heap.size w v2 := keepG3 Z1 hb2; have b2 := Z2.2.1))
  all_goals
    go_wp2
    refine bodyPost_ret (v := .tuple #[.agg #[.slice A nw.length c, .slice a.mB a.bs.length a.md], .int .i64 ev]) (by simp [results, Try.results43, go_sem, b2]) rfl ?_
    have fA : 0 < nw.length → ∀ p, A = some p → p.block ≠ w.heap.size + 1 := fun hn p hp => by
      rcases hor with e | f
      · have := HA.out (by rw [← HN.out]; exact hn) p (e ▸ hp); omega
      · have := f p hp; omega
    exact ⟨A, c, rfl, (hsA.own1 _ _ _ fA).own1 _ _ _ fA, hor.imp_right (fun f p hp => by have := f p hp; omega), (Z2.2.2.setCell (by simp) _).setCell (by simp) _⟩
set_option maxRecDepth 100000 in
set_option maxHeartbeats 4000000 in
theorem st3_any (u : Tn) (a : TA) (o : TnOk u) (ht : 0 ≤ u.tt ∧ u.tt ≤ 15) (w : World) (h : TnAt w u a) : Calls Try.prog 49 #[.agg (tcs u a).toArray] w (MEPost a.mA (stV u.ws (stP u) (frV 3 u.tt)) a.mB a.bs.length a.md (erV u.ws.length (stP u)) w) := by
  have KD := fun W => hide (deposited_any u.tt ht W)
  obtain ⟨dv, hdv⟩ : ∃ x, frV 3 u.tt = x := ⟨_, rfl⟩
  rw [hdv] at KD ⊢
  have KN := fun W => hide (gnode_any u a o u.d.st o.ist W)
  rw [show npV u.c u.d.it u.d.st = stP u from rfl] at KN
  obtain ⟨nw, hnw⟩ : ∃ x, stV u.ws (stP u) dv = x := ⟨_, rfl⟩
  obtain ⟨ev, hev⟩ : ∃ x, erV u.ws.length (stP u) = x := ⟨_, rfl⟩
  have HN : Hid (nw.length = u.ws.length) := hide (by rw [← hnw]; exact stV_length _ _ _)
  have KS := hide (fun W m => store_any a.mA a.mB a.mc a.md u.ws a.bs (stP u) dv W m)
  rw [hnw, hev] at KS
  rw [hnw, hev]
  obtain ⟨np, hnp⟩ : ∃ x, stP u = x := ⟨_, rfl⟩
  rw [hnp] at KS KN
  clear hnw hev hdv hnp
  have B1 : boxOf ((w.alloc (.cells (tcs u a).toArray 38)).alloc (.cells #[.slice none 0 0, .slice none 0 0] 27)) w.heap.size = some (tcs u a) := by simp [go_sem]
  have B2 : boxOf ((w.alloc (.cells (tcs u a).toArray 38)).alloc (.cells #[.slice none 0 0, .slice none 0 0] 27)) (w.heap.size + 1) = some [.slice none 0 0, .slice none 0 0] := boxOf_newA _ _ _ _ (by simp)
  have hs : w.heap.size + 1 < ((w.alloc (.cells (tcs u a).toArray 38)).alloc (.cells #[.slice none 0 0, .slice none 0 0] 27)).heap.size := by simp
  have hB : Below w.heap.size w ((w.alloc (.cells (tcs u a).toArray 38)).alloc (.cells #[.slice none 0 0, .slice none 0 0] 27)) := (belowN w _).alloc (by simp) _
  have h0 := h
  replace h := h.later hB
  go_enter Try.func49, Try.ntmps49
  go_wp2_with fail
  generalize ((w.alloc (.cells (tcs u a).toArray 38)).alloc (.cells #[.slice none 0 0, .slice none 0 0] 27)) = wz at *
  have Z : boxOf wz.drew w.heap.size = some (tcs u a) ∧ boxOf wz.drew (w.heap.size + 1) = some [.slice none 0 0, .slice none 0 0] ∧ Below w.heap.size w wz.drew := ⟨by rw [boxOf_drew]; exact B1, by rw [boxOf_drew]; exact B2, hB.drew⟩
  have HA := hide (h0.m.words.block_lt)
  go_region_held3 (fun w' => boxOf w' w.heap.size = some (tcs u a) ∧ Below w.heap.size w w')
    (first | (with_reducible exact ⟨Z.1, Z.2.2⟩) | (with_reducible exact ⟨Z1.1, Z1.2.2⟩) | (with_reducible exact ⟨Z3.1, Z3.2.2⟩) | (with_reducible exact ⟨Z2.1, Z2.2.2⟩) | (with_reducible exact farG ⟨Z2.1, Z2.2.2⟩ _ _ (by omega) (by omega)) | (with_reducible exact farG (farG ⟨Z2.1, Z2.2.2⟩ _ _ (by omega) (by omega)) _ _ (by omega) (by omega)))
    (first
      | (go_at_call 50; refine (KN _).out.mono ?_; rintro e v1 ⟨rfl, hb1⟩; have Z1 : boxOf v1 w.heap.size = some (tcs u a) ∧ boxOf v1 (w.heap.size + 1) = some [.slice none 0 0, .slice none 0 0] ∧ Below w.heap.size w v1 := keepG3 Z hb1; have q1 : w.heap.size + 1 < v1.heap.size := boxOf_lt Z1.2.1)
      | (go_at_call 13; refine (KD _).out.mono ?_; rintro e v3 ⟨rfl, hb3⟩; have Z3 : boxOf v3 w.heap.size = some (tcs u a) ∧ boxOf v3 (w.heap.size + 1) = some [.slice none 0 0, .slice none 0 0] ∧ Below w.heap.size w v3 := keepG3 Z1 hb3; have q3 : w.heap.size + 1 < v3.heap.size := boxOf_lt Z3.2.1)
      | (go_at_call 37; refine (KS.out _ (h0.m.later Z3.2.2)).mono ?_; rintro e v2 ⟨A, c, rfl, hsA, hor, hb2⟩; have Z2 : boxOf v2 w.heap.size = some (tcs u a) ∧ boxOf v2 (w.heap.size + 1) = some [.slice none 0 0, .slice none 0 0] ∧ Below w.heap.size w v2 := keepG3 Z3 hb2; have b2 := Z2.2.1))
  all_goals
    go_wp2
    refine bodyPost_ret (v := .tuple #[.agg #[.slice A nw.length c, .slice a.mB a.bs.length a.md], .int .i64 ev]) (by simp [results, Try.results49, go_sem, b2]) rfl ?_
    have fA : 0 < nw.length → ∀ p, A = some p → p.block ≠ w.heap.size + 1 := fun hn p hp => by
      rcases hor with e | f
      · have := HA.out (by rw [← HN.out]; exact hn) p (e ▸ hp); omega
      · have := f p hp; omega
    exact ⟨A, c, rfl, (hsA.own1 _ _ _ fA).own1 _ _ _ fA, hor.imp_right (fun f p hp => by have := f p hp; omega), (Z2.2.2.setCell (by simp) _).setCell (by simp) _⟩
set_option maxRecDepth 100000 in
set_option maxHeartbeats 4000000 in
theorem st2_any (u : Tn) (a : TA) (o : TnOk u) (w : World) (h : TnAt w u a) : Calls Try.prog 46 #[.agg (tcs u a).toArray] w (MPPost a.mA u.ws.length a.mc a.mB a.bs (ptV u.bx u.tt u.d.bl) u.d.bl (erV a.bs.length u.tt) w) := by
  obtain ⟨nb, hnb⟩ : ∃ x, ptV u.bx u.tt u.d.bl = x := ⟨_, rfl⟩
  obtain ⟨ev, hev⟩ : ∃ x, erV a.bs.length u.tt = x := ⟨_, rfl⟩
  have KS := hide (fun W m b => put_mem a.mA a.mB a.p.bA a.mc a.md a.p.bc u.ws a.bs u.d.bl u.tt W m (by have := o.b; omega) b)
  rw [h.bx, hnb, hev] at KS
  rw [hnb, hev]
  clear hnb hev
  have B1 : boxOf ((w.alloc (.cells (tcs u a).toArray 38)).alloc (.cells #[.slice none 0 0, .slice none 0 0] 27)) w.heap.size = some (tcs u a) := by simp [go_sem]
  have B2 : boxOf ((w.alloc (.cells (tcs u a).toArray 38)).alloc (.cells #[.slice none 0 0, .slice none 0 0] 27)) (w.heap.size + 1) = some [.slice none 0 0, .slice none 0 0] := boxOf_newA _ _ _ _ (by simp)
  have hs : w.heap.size + 1 < ((w.alloc (.cells (tcs u a).toArray 38)).alloc (.cells #[.slice none 0 0, .slice none 0 0] 27)).heap.size := by simp
  have hB : Below w.heap.size w ((w.alloc (.cells (tcs u a).toArray 38)).alloc (.cells #[.slice none 0 0, .slice none 0 0] 27)) := (belowN w _).alloc (by simp) _
  have h0 := h
  replace h := h.later hB
  go_enter Try.func46, Try.ntmps46
  go_wp2_with fail
  generalize ((w.alloc (.cells (tcs u a).toArray 38)).alloc (.cells #[.slice none 0 0, .slice none 0 0] 27)) = wz at *
  refine (KS.out _ h.m h.th.b).mono ?_
  rintro e w1 ⟨B', d, bs', rfl, HX, hok, hb1⟩
  have hx := hide HX
  replace B1 := boxOf_keep B1 hb1
  replace B2 := boxOf_keep B2 hb1
  have hB1 := below_next hB hB.size hb1
  clear HX KS
  go_wp2
  refine bodyPost_ret (v := .tuple #[.agg #[.slice a.mA u.ws.length a.mc, .slice B' bs'.length d], .int .i64 ev]) (by simp [results, Try.results46, go_sem, B2]) rfl ?_
  exact ⟨B', d, bs', rfl, hx.out, ((hok.far h0.m.toMemAt (w.heap.size + 1) 0 _ (by omega) (by omega)).far h0.m.toMemAt (w.heap.size + 1) 1 _ (by omega) (by omega)).before (by omega), (hB1.setCell (by simp) _).setCell (by simp) _⟩
set_option maxRecDepth 100000 in
set_option maxHeartbeats 4000000 in
theorem to1_any (u : Tn) (a : TA) (k : Int) (g : Nat) (w : World) (hg : boxOf w g = some [.int .i64 k]) : Calls Try.prog 68 #[.agg (tcs u a).toArray, .pointer (some ⟨g, 0, none⟩)] w (TPost { u with d := { u.d with ph := k } } a w) := by
  have B3 : boxOf ((w.alloc (.cells (tcs u a).toArray 38)).alloc (.cells zT.toArray 38)) g = some [.int .i64 k] := boxOf_keep (boxOf_keep hg (belowN _ _)) (belowN _ _)
  have gl := boxOf_lt hg
  have B1 : boxOf ((w.alloc (.cells (tcs u a).toArray 38)).alloc (.cells zT.toArray 38)) w.heap.size = some (tcs u a) := by simp [go_sem]
  have B2 : boxOf ((w.alloc (.cells (tcs u a).toArray 38)).alloc (.cells zT.toArray 38)) (w.heap.size + 1) = some zT := by simp [go_sem]
  have hs : w.heap.size + 1 < ((w.alloc (.cells (tcs u a).toArray 38)).alloc (.cells zT.toArray 38)).heap.size := by simp
  have hB : Below w.heap.size w ((w.alloc (.cells (tcs u a).toArray 38)).alloc (.cells zT.toArray 38)) := (belowN w _).alloc (by simp) _
  have key : ∀ W', Below w.heap.size w W' → TPost { u with d := { u.d with ph := k } } a w (.returned (.agg (tcs ({ u with d := { u.d with ph := k } } : Tn) a).toArray)) W' := fun W' hb => ⟨rfl, hb⟩
  go_enter Try.func68, Try.ntmps68
  go_wp2
  refine bodyPost_ret (v := .agg (tcs ({ u with d := { u.d with ph := k } } : Tn) a).toArray) (results_box Try.results68 _ _ (w.heap.size + 1) _ _ rfl (by simp [go_sem, B1, B2]) Try.underlying38 rfl (by kernel_rfl)) rfl (key _ ?_)
  repeat first | exact hB | refine below_sets _ (by omega) _ _ _ _ ?_ | refine Below.setCell ?_ (by first | omega | (simp; omega) | simp) _ | refine Below.alloc ?_ (by first | omega | (simp; omega) | simp) _ | exact Below.refl _ _
end Go.Proofs.Ytlbekjnpaiiilaa
