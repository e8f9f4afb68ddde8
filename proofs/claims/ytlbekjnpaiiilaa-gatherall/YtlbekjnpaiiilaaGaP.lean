/- The contract of what publishes. -/
import Derived.Test.YtlbekjnpaiiilaaGaX
import Derived.Test.YtlbekjnpaiiilaaGaW
import Derived.Test.YtlbekjnpaiiilaaGaR
import Derived.Test.YtlbekjnpaiiilaaGaA
import Derived.Test.YtlbekjnpaiiilaaM2
import Derived.Test.YtlbekjnpaiiilaaM6
import Derived.Lib.QuietBelow
import Derived.Deep.QuietTactic
import Derived.BigQuiet
import Derived.Deep.RegionHeld3
import Derived.Deep.Cut
namespace Go.Proofs.Ytlbekjnpaiiilaa
open Go.RowKit Go.Sort
set_option linter.unusedVariables false
set_option linter.unusedSimpArgs false

theorem tcs_bx (u : Tn) (nb : List (List E3)) (k : Int) (a : TA) : tcs { u with bx := nb, d := { u.d with ph := k } } a = tcs { u with d := { u.d with ph := k } } a := id rfl
theorem ts15g (u : Tn) (a : TA) (B : Option Addr) (bs : List Bt) (d : Nat) : (tcs u a).set 15 (.slice B bs.length d) = tcs u { a with mB := B, md := d, bs := bs } := id rfl
attribute [local irreducible] tcs thc ccs zT
attribute [local go_sem ↓] alTn_is alRn_is
attribute [local go_sem] run_alTnf run_alTnt run_alRnf run_alRnt zT_length
attribute [local go_sem ↓] lbTn_is lbRn_is lbTh_is lbRh_is lbCf_is lbRc_is sbTn_is sbRn_is sbTh_is sbRh_is sbCf_is sbRc_is
attribute [local go_sem] run_lbTn run_lbRn run_lbTh run_lbRh run_lbCf run_lbRc run_sbTn run_sbRn run_sbTh run_sbRh run_sbCf run_sbRc
attribute [local go_sem 2000] boxOf_old'
attribute [local go_sem] boxOf_at' boxOf_free' boxOf_alloc objBox_cells objBox_cellsA boxOf_drew boxOf_setI boxOf_setsI size_sets tcs_length thc_length ccs_length tcs_one thc_one ccs_one sub_tn sub_th sub_cf sub_thAll sub_cfAll put_turn put_thread
attribute [local go_sem] tc0 tc1 tc2 tc3 tc4 tc5 tc6 tc7 tc8 tc9 tc10 tc11 tc12 tc13 tc14 tc15 tc16 tc17 tc18 tc19 tc20 tc21 tc22 tc23 tc24 tc25 tc26 tc27 tc28 tc29 tc30 tc31 tc32 tc33 tc34 tc35 tc36 hc0 hc1 hc2 hc3 hc4 hc5 hc6 hc7 hc8 hc9 hc10 hc11 hc12 hc13 hc14 hc15 hc16 kc0 kc1 kc2 kc3 kc4 kc5 kc6 kc7 kc8 kc9 kc10 kc11 tg0 tg1 tg2 tg3 tg4 tg5 tg6 tg7 tg8 tg9 tg10 tg11 tg12 tg13 tg14 tg15 tg16 tg17 tg18 tg19 tg20 tg21 tg22 tg23 tg24 tg25 tg26 tg27 tg28 tg29 tg30 tg31 tg32 tg33 tg34 tg35 tg36 hg0 hg1 hg2 hg3 hg4 hg5 hg6 hg7 hg8 hg9 hg10 hg11 hg12 hg13 hg14 hg15 hg16 kg0 kg1 kg2 kg3 kg4 kg5 kg6 kg7 kg8 kg9 kg10 kg11
attribute [local go_sem] ts12 ts13 ts14 ts16 ts17 ts18 ts19 ts20 ts21 ts22 ts23 ts24 ts25 ts26 ts27 ts28 ts29 ts30 ts31 ts32 ts33 ts34 ts35 ts36 ts15 hs0 hs1 hs2 hs3 hs7 hs8 hs9 hs10 hs11 hs12 hs13 hs14 hs15 hs16

attribute [local go_sem] ts15g
set_option maxRecDepth 100000 in
set_option maxHeartbeats 4000000 in
theorem pub_any (u : Tn) (a : TA) (o : TnOk u) (g1 g2 g3 : Nat) (w : World) (h : TnAt w u a) (k1 : boxOf w g1 = some [.func (.func 46) #[] #[]]) (k2 : boxOf w g2 = some [.func (.func 68) #[] #[.pointer (some ⟨g3, 0, none⟩)]]) (k3 : boxOf w g3 = some [.int .i64 12]) : Calls Try.prog 63 #[.agg (tcs u a).toArray, .pointer (some ⟨g1, 0, none⟩), .pointer (some ⟨g2, 0, none⟩)] w (PbPost (pubG u) a w) := by
  have l1 := boxOf_lt k1
  have l2 := boxOf_lt k2
  have l3 := boxOf_lt k3
  replace k1 : boxOf ((w.alloc (.cells (tcs u a).toArray 38)).alloc (.cells zT.toArray 38)) g1 = some [.func (.func 46) #[] #[]] := boxOf_keep (boxOf_keep k1 (belowN _ _)) (belowN _ _)
  replace k2 : boxOf ((w.alloc (.cells (tcs u a).toArray 38)).alloc (.cells zT.toArray 38)) g2 = some [.func (.func 68) #[] #[.pointer (some ⟨g3, 0, none⟩)]] := boxOf_keep (boxOf_keep k2 (belowN _ _)) (belowN _ _)
  replace k3 : boxOf ((w.alloc (.cells (tcs u a).toArray 38)).alloc (.cells zT.toArray 38)) g3 = some [.int .i64 12] := boxOf_keep (boxOf_keep k3 (belowN _ _)) (belowN _ _)
  have hlen : u.bx.length = a.bs.length := by rw [← h.bx, boxes_length]
  have B1 : boxOf ((w.alloc (.cells (tcs u a).toArray 38)).alloc (.cells zT.toArray 38)) w.heap.size = some (tcs u a) := by simp [go_sem]
  have B2 : boxOf ((w.alloc (.cells (tcs u a).toArray 38)).alloc (.cells zT.toArray 38)) (w.heap.size + 1) = some zT := by simp [go_sem]
  have hs : w.heap.size + 1 < ((w.alloc (.cells (tcs u a).toArray 38)).alloc (.cells zT.toArray 38)).heap.size := by simp
  have hB : Below w.heap.size w ((w.alloc (.cells (tcs u a).toArray 38)).alloc (.cells zT.toArray 38)) := (belowN w _).alloc (by simp) _
  have h0 := h
  replace h := h.later hB
  go_enter Try.func63, Try.ntmps63
  go_wp2_with fail
  generalize ((w.alloc (.cells (tcs u a).toArray 38)).alloc (.cells zT.toArray 38)) = wz at *
  obtain ⟨nb, hnb⟩ : ∃ x, ptV u.bx u.tt u.d.bl = x := ⟨_, rfl⟩
  obtain ⟨ev, hev⟩ : ∃ x, erV a.bs.length u.tt = x := ⟨_, rfl⟩
  have he : ev = 0 ∨ ev = 30 := by rw [← hev]; unfold erV; split <;> simp
  have HC : (ev = 0 ∧ Hid (pubG u = ({ u with bx := nb, d := { u.d with ph := 12 } } : Tn))) ∨ (ev = 30 ∧ Hid (pubG u = u)) := by
    rcases he with he | he
    · exact .inl ⟨he, hide (by rw [pubG, hlen, if_pos (by rw [hev]; exact he), hnb])⟩
    · exact .inr ⟨he, hide (by rw [pubG, hlen, if_neg (by rw [hev, he]; decide)])⟩
  have KS := st2_any u a o wz h
  rw [hnb, hev] at KS
  clear hnb hev he hlen
  refine KS.mono ?_
  rintro e w1 ⟨B', d', bs', rfl, HX, hok, hb1⟩
  have hx := hide HX
  have hbl : u.d.bl.length ≤ 20000 := by have := o.b; omega
  have m1 := hok.mem h.m hb1 hbl
  have f1 : ∀ g, w.heap.size ≤ g → 0 < u.ws.length → ∀ p, a.mA = some p → p.block ≠ g := fun g hg => h0.m.words.off hg
  have f2 : ∀ g, g < wz.heap.size → (0 < a.bs.length → ∀ p, a.mB = some p → p.block ≠ g) → (0 < bs'.length → ∀ p, B' = some p → p.block ≠ g) := fun g hg f hn p hp => by
    rcases hok.place with e | q
    · exact f (by rw [← hok.len]; exact hn) p (e ▸ hp)
    · have := q p hp; omega
  have f3 : ∀ g, g < wz.heap.size → (∀ q ∈ a.bs, 0 < q.l.length → ∀ p, q.A = some p → p.block ≠ g) → ∀ q ∈ bs', 0 < q.l.length → ∀ p, q.A = some p → p.block ≠ g := fun g hg f q hq hn p hp => by
    rcases hok.old q hq with e | ⟨e, _⟩
    · exact f q e hn p hp
    · have := e p hp; omega
  have e2 : ∀ g, w.heap.size ≤ g → 0 < a.bs.length → ∀ p, a.mB = some p → p.block ≠ g := fun g hg => h0.m.bxs.off hg
  have e3 : ∀ g, w.heap.size ≤ g → ∀ q ∈ a.bs, 0 < q.l.length → ∀ p, q.A = some p → p.block ≠ g := fun g hg q hq => (show Sees w w.heap.size 3 q.A q.l.length (ecells q.l) from h0.m.each q hq).off hg
  have hz := hide hs
  have hb0 := hide (fun g (hg : g < w.heap.size) => (show g < wz.heap.size by omega))
  replace B1 := boxOf_keep B1 hb1
  replace B2 := boxOf_keep B2 hb1
  replace k1 := boxOf_keep k1 hb1
  replace k2 := boxOf_keep k2 hb1
  replace k3 := boxOf_keep k3 hb1
  replace hs := Nat.lt_of_lt_of_le hs hb1.size
  replace hB := below_next hB hB.size hb1
  clear hb1
  clear KS h hok HX
  rcases HC with ⟨rfl, H⟩ | ⟨rfl, H⟩
  · have key : ∀ W', Below w.heap.size w W' → MemOk W' a.mA u.ws B' bs' → PbPost ({ u with bx := nb, d := { u.d with ph := 12 } } : Tn) a w (.returned (.agg (tcs ({ u with d := { u.d with ph := 12 } } : Tn) ({ a with mB := B', md := d', bs := bs' } : TA)).toArray)) W' := fun W' hb m => ⟨B', d', bs', by rw [tcs_bx u nb], m, hx.out, fun g hg => f2 g (hb0.out g hg), fun g hg => f3 g (hb0.out g hg), hb⟩
    have mS : ∀ W g cs o, w.heap.size ≤ g → g ≤ w.heap.size + 1 → MemOk W a.mA u.ws B' bs' → MemOk (W.setCells g o cs) a.mA u.ws B' bs' := fun W g cs o g0 g1 m => m.sets (f1 g g0) (f2 g (by have := hz.out; omega) (e2 g g0)) (f3 g (by have := hz.out; omega) (e3 g g0)) cs o
    clear f1 f2 f3 e2 e3
    go_wp2_with fail
    have hBx : Below w.heap.size w (((w1.alloc (.cells #[.slice a.mA u.ws.length a.mc, .slice B' bs'.length d'] 27)).setCell ⟨w.heap.size, 14, none⟩ (.slice a.mA u.ws.length a.mc)).setCell ⟨w.heap.size, 15, none⟩ (.slice B' bs'.length d')) := by repeat first | exact hB | refine below_sets _ (by omega) _ _ _ _ ?_ | refine Below.setCell ?_ (by first | omega | (simp; omega) | simp) _ | refine Below.alloc ?_ (by first | omega | (simp; omega) | simp) _
    have sX : MemOk (((w1.alloc (.cells #[.slice a.mA u.ws.length a.mc, .slice B' bs'.length d'] 27)).setCell ⟨w.heap.size, 14, none⟩ (.slice a.mA u.ws.length a.mc)).setCell ⟨w.heap.size, 15, none⟩ (.slice B' bs'.length d')) a.mA u.ws B' bs' := mS _ w.heap.size [_] 15 (Nat.le_refl _) (by omega) (mS _ w.heap.size [_] 14 (Nat.le_refl _) (by omega) (m1.later (belowN _ _)))
    have B2x : boxOf (((w1.alloc (.cells #[.slice a.mA u.ws.length a.mc, .slice B' bs'.length d'] 27)).setCell ⟨w.heap.size, 14, none⟩ (.slice a.mA u.ws.length a.mc)).setCell ⟨w.heap.size, 15, none⟩ (.slice B' bs'.length d')) (w.heap.size + 1) = some zT := by rw [boxOf_far _ _ _ _ (by simp), boxOf_far _ _ _ _ (by simp)]; exact boxOf_keep B2 (belowN _ _)
    have K3 : boxOf (((w1.alloc (.cells #[.slice a.mA u.ws.length a.mc, .slice B' bs'.length d'] 27)).setCell ⟨w.heap.size, 14, none⟩ (.slice a.mA u.ws.length a.mc)).setCell ⟨w.heap.size, 15, none⟩ (.slice B' bs'.length d')) g3 = some [.int .i64 12] := by rw [boxOf_far _ _ _ _ (by simp; omega), boxOf_far _ _ _ _ (by simp; omega)]; exact boxOf_keep k3 (belowN _ _)
    have hsx : w.heap.size + 1 < (((w1.alloc (.cells #[.slice a.mA u.ws.length a.mc, .slice B' bs'.length d'] 27)).setCell ⟨w.heap.size, 14, none⟩ (.slice a.mA u.ws.length a.mc)).setCell ⟨w.heap.size, 15, none⟩ (.slice B' bs'.length d')).heap.size := by simp; omega
    clear B1 B2 k1 k2 k3 hB hs m1
    generalize (((w1.alloc (.cells #[.slice a.mA u.ws.length a.mc, .slice B' bs'.length d'] 27)).setCell ⟨w.heap.size, 14, none⟩ (.slice a.mA u.ws.length a.mc)).setCell ⟨w.heap.size, 15, none⟩ (.slice B' bs'.length d')) = w5 at *
    refine (to1_any u ({ a with mB := B', md := d', bs := bs' } : TA) 12 g3 _ K3).mono ?_
    rintro e w6 ⟨rfl, hb1⟩
    have B2 := boxOf_keep B2x hb1
    have hB := below_next hBx hBx.size hb1
    have hs := Nat.lt_of_lt_of_le hsx hb1.size
    replace sX := sX.later hb1
    clear hb1 B2x hsx hBx
    go_wp2
    refine bodyPost_ret (v := .agg (tcs ({ u with d := { u.d with ph := 12 } } : Tn) ({ a with mB := B', md := d', bs := bs' } : TA)).toArray) (results_box Try.results63 _ _ (w.heap.size + 1) _ _ rfl (by simp [go_sem, B2]) Try.underlying38 rfl (by kernel_rfl)) rfl ?_
    rw [H.out]
    exact key _ (by repeat first | exact hB | refine below_sets _ (by omega) _ _ _ _ ?_ | refine Below.setCell ?_ (by first | omega | (simp; omega) | simp) _ | refine Below.alloc ?_ (by first | omega | (simp; omega) | simp) _) (mS _ (w.heap.size + 1) _ _ (by omega) (by omega) sX)
  · have key : ∀ W', Below w.heap.size w W' → PbPost u a w (.returned (.agg (tcs u a).toArray)) W' := fun W' hBf => ⟨a.mB, a.md, a.bs, rfl, (h0.later hBf).m, h0.bx, fun g _ f => f, fun g _ f => f, hBf⟩
    clear f1 f2 f3 e2 e3 m1
    go_wp2
    refine bodyPost_ret (v := .agg (tcs u a).toArray) (results_box Try.results63 _ _ (w.heap.size + 1) _ _ rfl (by simp [go_sem, B1, B2]) Try.underlying38 rfl (by kernel_rfl)) rfl ?_
    rw [H.out]
    exact key _ (by repeat first | exact hB | refine below_sets _ (by omega) _ _ _ _ ?_ | refine Below.setCell ?_ (by first | omega | (simp; omega) | simp) _ | refine Below.alloc ?_ (by first | omega | (simp; omega) | simp) _)
end Go.Proofs.Ytlbekjnpaiiilaa
