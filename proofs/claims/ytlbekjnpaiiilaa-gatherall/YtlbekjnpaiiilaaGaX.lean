/- The contracts of what write answers: free, publish, deposit. -/
import Derived.Test.YtlbekjnpaiiilaaGaW
import Derived.Test.YtlbekjnpaiiilaaGaR
import Derived.Test.YtlbekjnpaiiilaaGaA
import Derived.Test.YtlbekjnpaiiilaaM2
import Derived.Test.YtlbekjnpaiiilaaM6
import Derived.Lib.QuietBelow
import Derived.Deep.QuietTactic
import Derived.BigQuiet
import Derived.Deep.RegionHeld3
import Derived.Deep.Cut
namespace Go.Proofs.Ytlbekjnpaiiilaa
open Go.RowKit Go.Sort
set_option linter.unusedVariables false
set_option linter.unusedSimpArgs false

theorem MemOk.sets {w : World} {A B : Option Addr} {ws : List Int} {bs : List Bt} (m : MemOk w A ws B bs) {g : Nat} (f1 : 0 < ws.length → ∀ p, A = some p → p.block ≠ g) (f2 : 0 < bs.length → ∀ p, B = some p → p.block ≠ g) (f3 : ∀ q ∈ bs, 0 < q.l.length → ∀ p, q.A = some p → p.block ≠ g) (cs : List Value) (o : Nat) : MemOk (w.setCells g o cs) A ws B bs :=
  ⟨⟨m.words.setsC g f1 cs o, m.bxs.setsC g f2 cs o, fun q hq => (show Sees w w.heap.size 3 q.A q.l.length (ecells q.l) from m.each q hq).setsC g (f3 q hq) cs o⟩, m.few, m.fewb, m.short⟩
theorem MemOk.set1 {w : World} {A B : Option Addr} {ws : List Int} {bs : List Bt} (m : MemOk w A ws B bs) {g : Nat} (f1 : 0 < ws.length → ∀ p, A = some p → p.block ≠ g) (f2 : 0 < bs.length → ∀ p, B = some p → p.block ≠ g) (f3 : ∀ q ∈ bs, 0 < q.l.length → ∀ p, q.A = some p → p.block ≠ g) (o : Nat) (v : Value) : MemOk (w.setCell ⟨g, o, none⟩ v) A ws B bs := m.sets f1 f2 f3 [v] o
attribute [local irreducible] tcs thc ccs zT
attribute [local go_sem ↓] alTn_is alRn_is
attribute [local go_sem] run_alTnf run_alTnt run_alRnf run_alRnt zT_length
attribute [local go_sem ↓] lbTn_is lbRn_is lbTh_is lbRh_is lbCf_is lbRc_is sbTn_is sbRn_is sbTh_is sbRh_is sbCf_is sbRc_is
attribute [local go_sem] run_lbTn run_lbRn run_lbTh run_lbRh run_lbCf run_lbRc run_sbTn run_sbRn run_sbTh run_sbRh run_sbCf run_sbRc
attribute [local go_sem 2000] boxOf_old'
attribute [local go_sem] boxOf_at' boxOf_free' boxOf_alloc objBox_cells objBox_cellsA boxOf_drew boxOf_setI boxOf_setsI size_sets tcs_length thc_length ccs_length tcs_one thc_one ccs_one sub_tn sub_th sub_cf sub_thAll sub_cfAll put_turn put_thread
attribute [local go_sem] tc0 tc1 tc2 tc3 tc4 tc5 tc6 tc7 tc8 tc9 tc10 tc11 tc12 tc13 tc14 tc15 tc16 tc17 tc18 tc19 tc20 tc21 tc22 tc23 tc24 tc25 tc26 tc27 tc28 tc29 tc30 tc31 tc32 tc33 tc34 tc35 tc36 hc0 hc1 hc2 hc3 hc4 hc5 hc6 hc7 hc8 hc9 hc10 hc11 hc12 hc13 hc14 hc15 hc16 kc0 kc1 kc2 kc3 kc4 kc5 kc6 kc7 kc8 kc9 kc10 kc11 tg0 tg1 tg2 tg3 tg4 tg5 tg6 tg7 tg8 tg9 tg10 tg11 tg12 tg13 tg14 tg15 tg16 tg17 tg18 tg19 tg20 tg21 tg22 tg23 tg24 tg25 tg26 tg27 tg28 tg29 tg30 tg31 tg32 tg33 tg34 tg35 tg36 hg0 hg1 hg2 hg3 hg4 hg5 hg6 hg7 hg8 hg9 hg10 hg11 hg12 hg13 hg14 hg15 hg16 kg0 kg1 kg2 kg3 kg4 kg5 kg6 kg7 kg8 kg9 kg10 kg11
attribute [local go_sem] ts12 ts13 ts14 ts16 ts17 ts18 ts19 ts20 ts21 ts22 ts23 ts24 ts25 ts26 ts27 ts28 ts29 ts30 ts31 ts32 ts33 ts34 ts35 ts36 ts15 hs0 hs1 hs2 hs3 hs7 hs8 hs9 hs10 hs11 hs12 hs13 hs14 hs15 hs16

/-- A turn whose boxes may lie elsewhere. -/
def PbPost (v : Tn) (a : TA) (w : World) (e : Ending) (w' : World) : Prop := ∃ B d bs, e = .returned (.agg (tcs v ({ a with mB := B, md := d, bs := bs } : TA)).toArray) ∧ MemOk w' a.mA v.ws B bs ∧ boxes bs = v.bx ∧ (∀ g, g < w.heap.size → (0 < a.bs.length → ∀ p, a.mB = some p → p.block ≠ g) → (0 < bs.length → ∀ p, B = some p → p.block ≠ g)) ∧ (∀ g, g < w.heap.size → (∀ q ∈ a.bs, 0 < q.l.length → ∀ p, q.A = some p → p.block ≠ g) → ∀ q ∈ bs, 0 < q.l.length → ∀ p, q.A = some p → p.block ≠ g) ∧ Below w.heap.size w w'
theorem pb_gp {v u : Tn} {a : TA} {w w' : World} {e : Ending} (h : TnAt w u a) (l1 : v.ws = u.ws) (l2 : v.d.bl = u.d.bl) (l3 : v.d.kl = u.d.kl) (l4 : v.d.hl = u.d.hl) (l5 : v.tl = u.tl) (l6 : v.ll = u.ll) (p : PbPost v a w e w') : GPost v u a w e w' := by
  obtain ⟨B, d, bs, rfl, m, hbx, f1, f2, hb⟩ := p
  have h' := h.later hb
  exact ⟨_, rfl, ⟨m, hbx, ⟨by rw [l2]; exact h'.th.b, by rw [l3]; exact h'.th.k, by rw [l4]; exact h'.th.h⟩, by rw [l5]; exact h'.tp, by rw [l6]; exact h'.lg⟩, fun g hg f => ⟨by rw [l1]; exact f.w, f1 g hg f.x, f2 g hg f.e, by rw [l2]; exact f.b, by rw [l3]; exact f.k, by rw [l4]; exact f.h, by rw [l5]; exact f.t, by rw [l6]; exact f.l⟩, hb⟩
set_option maxRecDepth 100000 in
set_option maxHeartbeats 4000000 in
theorem free_any (u : Tn) (a : TA) (o : TnOk u) (ht : 0 ≤ u.tt ∧ u.tt ≤ 15) (g1 g2 : Nat) (w : World) (h : TnAt w u a) (k1 : boxOf w g1 = some [.func (.func 43) #[] #[]]) (k2 : boxOf w g2 = some [.func (.func 45) #[] #[]]) : Calls Try.prog 63 #[.agg (tcs u a).toArray, .pointer (some ⟨g1, 0, none⟩), .pointer (some ⟨g2, 0, none⟩)] w (WPost (freG u) a w) := by
  have l1 := boxOf_lt k1
  have l2 := boxOf_lt k2
  replace k1 : boxOf ((w.alloc (.cells (tcs u a).toArray 38)).alloc (.cells zT.toArray 38)) g1 = some [.func (.func 43) #[] #[]] := boxOf_keep (boxOf_keep k1 (belowN _ _)) (belowN _ _)
  replace k2 : boxOf ((w.alloc (.cells (tcs u a).toArray 38)).alloc (.cells zT.toArray 38)) g2 = some [.func (.func 45) #[] #[]] := boxOf_keep (boxOf_keep k2 (belowN _ _)) (belowN _ _)
  have B1 : boxOf ((w.alloc (.cells (tcs u a).toArray 38)).alloc (.cells zT.toArray 38)) w.heap.size = some (tcs u a) := by simp [go_sem]
  have B2 : boxOf ((w.alloc (.cells (tcs u a).toArray 38)).alloc (.cells zT.toArray 38)) (w.heap.size + 1) = some zT := by simp [go_sem]
  have hs : w.heap.size + 1 < ((w.alloc (.cells (tcs u a).toArray 38)).alloc (.cells zT.toArray 38)).heap.size := by simp
  have hB : Below w.heap.size w ((w.alloc (.cells (tcs u a).toArray 38)).alloc (.cells zT.toArray 38)) := (belowN w _).alloc (by simp) _
  have h0 := h
  replace h := h.later hB
  go_enter Try.func63, Try.ntmps63
  go_wp2_with fail
  generalize ((w.alloc (.cells (tcs u a).toArray 38)).alloc (.cells zT.toArray 38)) = wz at *
  obtain ⟨nw, hnw⟩ : ∃ x, stV u.ws (hdP u) 0 = x := ⟨_, rfl⟩
  obtain ⟨ev, hev⟩ : ∃ x, erV u.ws.length (hdP u) = x := ⟨_, rfl⟩
  have he : ev = 0 ∨ ev = 30 := by rw [← hev]; unfold erV; split <;> simp
  have HN : Hid (nw.length = u.ws.length) := hide (by rw [← hnw]; exact stV_length _ _ _)
  have HC : (ev = 0 ∧ Hid (freG u = nxG ({ u with ws := nw } : Tn))) ∨ (ev = 30 ∧ Hid (freG u = u)) := by
    rcases he with he | he
    · exact .inl ⟨he, hide (by rw [freG, if_pos (by rw [hev]; exact he), hnw])⟩
    · exact .inr ⟨he, hide (by rw [freG, if_neg (by rw [hev, he]; decide)])⟩
  have KS := st1_any u a o wz h
  rw [hnw, hev] at KS
  clear hnw hev he
  refine KS.mono ?_
  rintro e w1 ⟨A, c, rfl, sA, hA, hb1⟩
  have hal := hide (h0.m.words.block_lt)
  have hoo : A = a.mA ∨ Fresh w A := hA.imp_right (fun f p hp => by have := f p hp; have := hB.size; omega)
  have fa : 0 < nw.length → ∀ p, A = some p → p.block ≠ w.heap.size ∧ p.block ≠ w.heap.size + 1 := fun hn p hp => by
    rcases hA with e | f
    · have := hal.out (by rw [← HN.out]; exact hn) p (e ▸ hp); omega
    · have := f p hp; omega
  replace B1 := boxOf_keep B1 hb1
  replace B2 := boxOf_keep B2 hb1
  replace k1 := boxOf_keep k1 hb1
  replace k2 := boxOf_keep k2 hb1
  replace hs := Nat.lt_of_lt_of_le hs hb1.size
  replace hB := below_next hB hB.size hb1
  clear hb1
  clear KS h hA
  rcases HC with ⟨rfl, H⟩ | ⟨rfl, H⟩
  · go_wp2_with fail
    have hBx : Below w.heap.size w (((w1.alloc (.cells #[.slice A nw.length c, .slice a.mB a.bs.length a.md] 27)).setCell ⟨w.heap.size, 14, none⟩ (.slice A nw.length c)).setCell ⟨w.heap.size, 15, none⟩ (.slice a.mB a.bs.length a.md)) := by repeat first | exact hB | refine below_sets _ (by omega) _ _ _ _ ?_ | refine Below.setCell ?_ (by first | omega | (simp; omega) | simp) _ | refine Below.alloc ?_ (by first | omega | (simp; omega) | simp) _
    have sX : Sees (((w1.alloc (.cells #[.slice A nw.length c, .slice a.mB a.bs.length a.md] 27)).setCell ⟨w.heap.size, 14, none⟩ (.slice A nw.length c)).setCell ⟨w.heap.size, 15, none⟩ (.slice a.mB a.bs.length a.md)) (((w1.alloc (.cells #[.slice A nw.length c, .slice a.mB a.bs.length a.md] 27)).setCell ⟨w.heap.size, 14, none⟩ (.slice A nw.length c)).setCell ⟨w.heap.size, 15, none⟩ (.slice a.mB a.bs.length a.md)).heap.size 1 A nw.length (nw.map (Value.int .i64)) := ((sA.later (belowN _ _)).own1 _ _ _ (fun hn p hp => (fa hn p hp).1)).own1 _ _ _ (fun hn p hp => (fa hn p hp).1)
    have B2x : boxOf (((w1.alloc (.cells #[.slice A nw.length c, .slice a.mB a.bs.length a.md] 27)).setCell ⟨w.heap.size, 14, none⟩ (.slice A nw.length c)).setCell ⟨w.heap.size, 15, none⟩ (.slice a.mB a.bs.length a.md)) (w.heap.size + 1) = some zT := by rw [boxOf_far _ _ _ _ (by simp), boxOf_far _ _ _ _ (by simp)]; exact boxOf_keep B2 (belowN _ _)
    have hsx : w.heap.size + 1 < (((w1.alloc (.cells #[.slice A nw.length c, .slice a.mB a.bs.length a.md] 27)).setCell ⟨w.heap.size, 14, none⟩ (.slice A nw.length c)).setCell ⟨w.heap.size, 15, none⟩ (.slice a.mB a.bs.length a.md)).heap.size := by simp; omega
    clear B1 B2 k1 k2 hB hs sA
    generalize (((w1.alloc (.cells #[.slice A nw.length c, .slice a.mB a.bs.length a.md] 27)).setCell ⟨w.heap.size, 14, none⟩ (.slice A nw.length c)).setCell ⟨w.heap.size, 15, none⟩ (.slice a.mB a.bs.length a.md)) = w5 at *
    refine (onward_any ({ u with ws := nw } : Tn) ({ a with mA := A, mc := c } : TA) _).mono ?_
    rintro e w6 ⟨rfl, hb1⟩
    have B2 := boxOf_keep B2x hb1
    have hB := below_next hBx hBx.size hb1
    have hs := Nat.lt_of_lt_of_le hsx hb1.size
    replace sX := sX.later hb1
    have HW := hide ((nx_lk ({ u with ws := nw } : Tn)).ws)
    obtain ⟨v, hv⟩ : ∃ v, nxG ({ u with ws := nw } : Tn) = v := ⟨_, rfl⟩
    rw [hv] at H HW ⊢
    clear hv
    clear hb1 B2x hsx hBx
    have key : ∀ W', Below w.heap.size w W' → Sees W' W'.heap.size 1 A nw.length (nw.map (Value.int .i64)) → WPost v a w (.returned (.agg (tcs v ({ a with mA := A, mc := c } : TA)).toArray)) W' := fun W' hb s => ⟨A, c, rfl, (by rw [HW.out]; exact s), hoo, hb⟩
    go_wp2
    refine bodyPost_ret (v := .agg (tcs v ({ a with mA := A, mc := c } : TA)).toArray) (results_box Try.results63 _ _ (w.heap.size + 1) _ _ rfl (by simp [go_sem, B2]) Try.underlying38 rfl (by kernel_rfl)) rfl ?_
    rw [H.out]
    exact key _ (by repeat first | exact hB | refine below_sets _ (by omega) _ _ _ _ ?_ | refine Below.setCell ?_ (by first | omega | (simp; omega) | simp) _ | refine Below.alloc ?_ (by first | omega | (simp; omega) | simp) _) (sX.setsC _ (fun hn p hp => (fa hn p hp).2) _ _)
  · have key : ∀ W', Below w.heap.size w W' → WPost u a w (.returned (.agg (tcs u a).toArray)) W' := fun W' hBf => ⟨a.mA, a.mc, rfl, h0.m.words.later hBf, .inl rfl, hBf⟩
    go_wp2
    refine bodyPost_ret (v := .agg (tcs u a).toArray) (results_box Try.results63 _ _ (w.heap.size + 1) _ _ rfl (by simp [go_sem, B1, B2]) Try.underlying38 rfl (by kernel_rfl)) rfl ?_
    rw [H.out]
    exact key _ (by repeat first | exact hB | refine below_sets _ (by omega) _ _ _ _ ?_ | refine Below.setCell ?_ (by first | omega | (simp; omega) | simp) _ | refine Below.alloc ?_ (by first | omega | (simp; omega) | simp) _)
set_option maxRecDepth 100000 in
set_option maxHeartbeats 4000000 in
theorem dep_any (u : Tn) (a : TA) (o : TnOk u) (ht : 0 ≤ u.tt ∧ u.tt ≤ 15) (g1 g2 g3 : Nat) (w : World) (h : TnAt w u a) (k1 : boxOf w g1 = some [.func (.func 49) #[] #[]]) (k2 : boxOf w g2 = some [.func (.func 68) #[] #[.pointer (some ⟨g3, 0, none⟩)]]) (k3 : boxOf w g3 = some [.int .i64 13]) : Calls Try.prog 63 #[.agg (tcs u a).toArray, .pointer (some ⟨g1, 0, none⟩), .pointer (some ⟨g2, 0, none⟩)] w (WPost (depG u) a w) := by
  have l1 := boxOf_lt k1
  have l2 := boxOf_lt k2
  replace k1 : boxOf ((w.alloc (.cells (tcs u a).toArray 38)).alloc (.cells zT.toArray 38)) g1 = some [.func (.func 49) #[] #[]] := boxOf_keep (boxOf_keep k1 (belowN _ _)) (belowN _ _)
  replace k2 : boxOf ((w.alloc (.cells (tcs u a).toArray 38)).alloc (.cells zT.toArray 38)) g2 = some [.func (.func 68) #[] #[.pointer (some ⟨g3, 0, none⟩)]] := boxOf_keep (boxOf_keep k2 (belowN _ _)) (belowN _ _)
  have l3 := boxOf_lt k3
  replace k3 : boxOf ((w.alloc (.cells (tcs u a).toArray 38)).alloc (.cells zT.toArray 38)) g3 = some [.int .i64 13] := boxOf_keep (boxOf_keep k3 (belowN _ _)) (belowN _ _)
  have B1 : boxOf ((w.alloc (.cells (tcs u a).toArray 38)).alloc (.cells zT.toArray 38)) w.heap.size = some (tcs u a) := by simp [go_sem]
  have B2 : boxOf ((w.alloc (.cells (tcs u a).toArray 38)).alloc (.cells zT.toArray 38)) (w.heap.size + 1) = some zT := by simp [go_sem]
  have hs : w.heap.size + 1 < ((w.alloc (.cells (tcs u a).toArray 38)).alloc (.cells zT.toArray 38)).heap.size := by simp
  have hB : Below w.heap.size w ((w.alloc (.cells (tcs u a).toArray 38)).alloc (.cells zT.toArray 38)) := (belowN w _).alloc (by simp) _
  have h0 := h
  replace h := h.later hB
  go_enter Try.func63, Try.ntmps63
  go_wp2_with fail
  generalize ((w.alloc (.cells (tcs u a).toArray 38)).alloc (.cells zT.toArray 38)) = wz at *
  obtain ⟨nw, hnw⟩ : ∃ x, stV u.ws (stP u) (frV 3 u.tt) = x := ⟨_, rfl⟩
  obtain ⟨ev, hev⟩ : ∃ x, erV u.ws.length (stP u) = x := ⟨_, rfl⟩
  have he : ev = 0 ∨ ev = 30 := by rw [← hev]; unfold erV; split <;> simp
  have HN : Hid (nw.length = u.ws.length) := hide (by rw [← hnw]; exact stV_length _ _ _)
  have HC : (ev = 0 ∧ Hid (depG u = { ({ u with ws := nw } : Tn) with d := { ({ u with ws := nw } : Tn).d with ph := 13 } })) ∨ (ev = 30 ∧ Hid (depG u = u)) := by
    rcases he with he | he
    · exact .inl ⟨he, hide (by rw [depG, if_pos (by rw [hev]; exact he), hnw])⟩
    · exact .inr ⟨he, hide (by rw [depG, if_neg (by rw [hev, he]; decide)])⟩
  have KS := st3_any u a o ht wz h
  rw [hnw, hev] at KS
  clear hnw hev he
  refine KS.mono ?_
  rintro e w1 ⟨A, c, rfl, sA, hA, hb1⟩
  have hal := hide (h0.m.words.block_lt)
  have hoo : A = a.mA ∨ Fresh w A := hA.imp_right (fun f p hp => by have := f p hp; have := hB.size; omega)
  have fa : 0 < nw.length → ∀ p, A = some p → p.block ≠ w.heap.size ∧ p.block ≠ w.heap.size + 1 := fun hn p hp => by
    rcases hA with e | f
    · have := hal.out (by rw [← HN.out]; exact hn) p (e ▸ hp); omega
    · have := f p hp; omega
  replace B1 := boxOf_keep B1 hb1
  replace B2 := boxOf_keep B2 hb1
  replace k1 := boxOf_keep k1 hb1
  replace k2 := boxOf_keep k2 hb1
  replace k3 := boxOf_keep k3 hb1
  replace hs := Nat.lt_of_lt_of_le hs hb1.size
  replace hB := below_next hB hB.size hb1
  clear hb1
  clear KS h hA
  rcases HC with ⟨rfl, H⟩ | ⟨rfl, H⟩
  · go_wp2_with fail
    have hBx : Below w.heap.size w (((w1.alloc (.cells #[.slice A nw.length c, .slice a.mB a.bs.length a.md] 27)).setCell ⟨w.heap.size, 14, none⟩ (.slice A nw.length c)).setCell ⟨w.heap.size, 15, none⟩ (.slice a.mB a.bs.length a.md)) := by repeat first | exact hB | refine below_sets _ (by omega) _ _ _ _ ?_ | refine Below.setCell ?_ (by first | omega | (simp; omega) | simp) _ | refine Below.alloc ?_ (by first | omega | (simp; omega) | simp) _
    have sX : Sees (((w1.alloc (.cells #[.slice A nw.length c, .slice a.mB a.bs.length a.md] 27)).setCell ⟨w.heap.size, 14, none⟩ (.slice A nw.length c)).setCell ⟨w.heap.size, 15, none⟩ (.slice a.mB a.bs.length a.md)) (((w1.alloc (.cells #[.slice A nw.length c, .slice a.mB a.bs.length a.md] 27)).setCell ⟨w.heap.size, 14, none⟩ (.slice A nw.length c)).setCell ⟨w.heap.size, 15, none⟩ (.slice a.mB a.bs.length a.md)).heap.size 1 A nw.length (nw.map (Value.int .i64)) := ((sA.later (belowN _ _)).own1 _ _ _ (fun hn p hp => (fa hn p hp).1)).own1 _ _ _ (fun hn p hp => (fa hn p hp).1)
    have B2x : boxOf (((w1.alloc (.cells #[.slice A nw.length c, .slice a.mB a.bs.length a.md] 27)).setCell ⟨w.heap.size, 14, none⟩ (.slice A nw.length c)).setCell ⟨w.heap.size, 15, none⟩ (.slice a.mB a.bs.length a.md)) (w.heap.size + 1) = some zT := by rw [boxOf_far _ _ _ _ (by simp), boxOf_far _ _ _ _ (by simp)]; exact boxOf_keep B2 (belowN _ _)
    have K3 : boxOf (((w1.alloc (.cells #[.slice A nw.length c, .slice a.mB a.bs.length a.md] 27)).setCell ⟨w.heap.size, 14, none⟩ (.slice A nw.length c)).setCell ⟨w.heap.size, 15, none⟩ (.slice a.mB a.bs.length a.md)) g3 = some [.int .i64 13] := by rw [boxOf_far _ _ _ _ (by simp; omega), boxOf_far _ _ _ _ (by simp; omega)]; exact boxOf_keep k3 (belowN _ _)
    have hsx : w.heap.size + 1 < (((w1.alloc (.cells #[.slice A nw.length c, .slice a.mB a.bs.length a.md] 27)).setCell ⟨w.heap.size, 14, none⟩ (.slice A nw.length c)).setCell ⟨w.heap.size, 15, none⟩ (.slice a.mB a.bs.length a.md)).heap.size := by simp; omega
    clear B1 B2 k1 k2 k3 hB hs sA
    generalize (((w1.alloc (.cells #[.slice A nw.length c, .slice a.mB a.bs.length a.md] 27)).setCell ⟨w.heap.size, 14, none⟩ (.slice A nw.length c)).setCell ⟨w.heap.size, 15, none⟩ (.slice a.mB a.bs.length a.md)) = w5 at *
    refine (to1_any ({ u with ws := nw } : Tn) ({ a with mA := A, mc := c } : TA) 13 g3 _ K3).mono ?_
    rintro e w6 ⟨rfl, hb1⟩
    have B2 := boxOf_keep B2x hb1
    have hB := below_next hBx hBx.size hb1
    have hs := Nat.lt_of_lt_of_le hsx hb1.size
    replace sX := sX.later hb1
    clear hb1 B2x hsx hBx
    have key : ∀ W', Below w.heap.size w W' → Sees W' W'.heap.size 1 A nw.length (nw.map (Value.int .i64)) → WPost ({ ({ u with ws := nw } : Tn) with d := { ({ u with ws := nw } : Tn).d with ph := 13 } } : Tn) a w (.returned (.agg (tcs ({ ({ u with ws := nw } : Tn) with d := { ({ u with ws := nw } : Tn).d with ph := 13 } } : Tn) ({ a with mA := A, mc := c } : TA)).toArray)) W' := fun W' hb s => ⟨A, c, rfl, (by exact s), hoo, hb⟩
    go_wp2
    refine bodyPost_ret (v := .agg (tcs ({ ({ u with ws := nw } : Tn) with d := { ({ u with ws := nw } : Tn).d with ph := 13 } } : Tn) ({ a with mA := A, mc := c } : TA)).toArray) (results_box Try.results63 _ _ (w.heap.size + 1) _ _ rfl (by simp [go_sem, B2]) Try.underlying38 rfl (by kernel_rfl)) rfl ?_
    rw [H.out]
    exact key _ (by repeat first | exact hB | refine below_sets _ (by omega) _ _ _ _ ?_ | refine Below.setCell ?_ (by first | omega | (simp; omega) | simp) _ | refine Below.alloc ?_ (by first | omega | (simp; omega) | simp) _) (sX.setsC _ (fun hn p hp => (fa hn p hp).2) _ _)
  · have key : ∀ W', Below w.heap.size w W' → WPost u a w (.returned (.agg (tcs u a).toArray)) W' := fun W' hBf => ⟨a.mA, a.mc, rfl, h0.m.words.later hBf, .inl rfl, hBf⟩
    go_wp2
    refine bodyPost_ret (v := .agg (tcs u a).toArray) (results_box Try.results63 _ _ (w.heap.size + 1) _ _ rfl (by simp [go_sem, B1, B2]) Try.underlying38 rfl (by kernel_rfl)) rfl ?_
    rw [H.out]
    exact key _ (by repeat first | exact hB | refine below_sets _ (by omega) _ _ _ _ ?_ | refine Below.setCell ?_ (by first | omega | (simp; omega) | simp) _ | refine Below.alloc ?_ (by first | omega | (simp; omega) | simp) _)
end Go.Proofs.Ytlbekjnpaiiilaa
