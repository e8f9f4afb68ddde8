/- The document's Step: those that take a node, and those that join. -/
import Derived.Test.YtlmlmmkichkkhaaClR
import Derived.Test.YtlmlmmkichkkhaaClE
import Derived.Test.YtlmlmmkichkkhaaM2
import Derived.Test.YtlmlmmkichkkhaaM6
import Derived.Lib.QuietBelow
import Derived.Deep.QuietTactic
import Derived.BigQuiet
import Derived.Deep.RegionHeld3
import Derived.Deep.RegionLaw
import Derived.Deep.Cut
namespace Go.Proofs.Ytlmlmmkichkkhaa
open Go.RowKit Go.Sort
set_option linter.unusedVariables false
set_option linter.unusedSimpArgs false

attribute [local irreducible] tcs thc ccs zT
attribute [local go_sem ↓] alTn_is alRn_is
attribute [local go_sem] run_alTnf run_alTnt run_alRnf run_alRnt zT_length
attribute [local go_sem ↓] lbTn_is lbRn_is lbTh_is lbRh_is lbCf_is lbRc_is sbTn_is sbRn_is sbTh_is sbRh_is sbCf_is sbRc_is
attribute [local go_sem] run_lbTn run_lbRn run_lbTh run_lbRh run_lbCf run_lbRc run_sbTn run_sbRn run_sbTh run_sbRh run_sbCf run_sbRc
attribute [local go_sem 2000] boxOf_old'
attribute [local go_sem] boxOf_at' boxOf_free' boxOf_alloc objBox_cells objBox_cellsA boxOf_drew boxOf_setI boxOf_setsI size_sets tcs_length thc_length ccs_length tcs_one thc_one ccs_one sub_tn sub_th sub_cf sub_thAll sub_cfAll put_turn put_thread
attribute [local go_sem] tc0 tc1 tc2 tc3 tc4 tc5 tc6 tc7 tc8 tc9 tc10 tc11 tc12 tc13 tc14 tc15 tc16 tc17 tc18 tc19 tc20 tc21 tc22 tc23 tc24 tc25 tc26 tc27 tc28 tc29 tc30 tc31 tc32 tc33 tc34 tc35 tc36 hc0 hc1 hc2 hc3 hc4 hc5 hc6 hc7 hc8 hc9 hc10 hc11 hc12 hc13 hc14 hc15 hc16 kc0 kc1 kc2 kc3 kc4 kc5 kc6 kc7 kc8 kc9 kc10 kc11 tg0 tg1 tg2 tg3 tg4 tg5 tg6 tg7 tg8 tg9 tg10 tg11 tg12 tg13 tg14 tg15 tg16 tg17 tg18 tg19 tg20 tg21 tg22 tg23 tg24 tg25 tg26 tg27 tg28 tg29 tg30 tg31 tg32 tg33 tg34 tg35 tg36 hg0 hg1 hg2 hg3 hg4 hg5 hg6 hg7 hg8 hg9 hg10 hg11 hg12 hg13 hg14 hg15 hg16 kg0 kg1 kg2 kg3 kg4 kg5 kg6 kg7 kg8 kg9 kg10 kg11
attribute [local go_sem] ts12 ts13 ts14 ts16 ts17 ts18 ts19 ts20 ts21 ts22 ts23 ts24 ts25 ts26 ts27 ts28 ts29 ts30 ts31 ts32 ts33 ts34 ts35 ts36 ts15 hs0 hs1 hs2 hs3 hs7 hs8 hs9 hs10 hs11 hs12 hs13 hs14 hs15 hs16

section
open Go
theorem step_app {P : Program} {w : World} {ops : Array Oper} {o : Oper} {a : Act} {K : Act → World → Prop} {Q : Exit → Act → World → Prop} {E : Prop} (hgd : o.guard = none) (s x : Operand) (t : TypeId)
    (ho : o.op = .call { callee := .builtin .append, args := #[s, x], argTypes := #[t, t] })
    (base : Nat) (e : TypeId) (i : TypeInfo) (z : Value) (sz bytes : Nat) (ht : P.underlying t = some (.slice e)) (hi : P.info? e = some i) (hz : i.zero = some z)
    (hsize : i.size = sz) (hby : i.bytes = bytes) (hzs : z.cells.size = sz) (hsz : 0 < sz) (v : Value) (n : Nat) (xs : List Value) (hs : a.eval s = v) (hown : w.ownsRow base e sz v n xs)
    (B : Nat) (A : Option Addr) (m c : Nat) (news : List Value) (hx : a.eval x = .slice A m c) (hr : Sees w B sz A m news) (h1 : ∀ u ∈ news, u.oneCell' = true)
    (h63 : n + m ≤ maxLen) (hbytes : (n + m) * bytes ≤ 140737488355328) (hbase : base ≤ w.heap.size)
    (h : ∀ v' w', w'.ownsRow base e sz v' (n + m) (xs ++ news) → w.grownBy w' v.ownBlock → K (a.put o.dst v') w') :
    if Region.wanted o (yielded ops a.tmps) = true then Oper.wp P o a w K Q else E := by
  have hw : Region.wanted o (yielded ops a.tmps) = true := by simp [Region.wanted, hgd]
  rw [if_pos hw]
  obtain ⟨v', w', hrun, h2, h3⟩ := run_app (P := P) w base t o.type e i z sz bytes ht hi hz hsize hby hzs hsz v n xs hown B A m c news hr h1 h63 hbytes hbase
  unfold Oper.wp execOp
  simp only [ho, resolve, invoke, builtin, Sem.run_bind, Sem.run_pure, Result.andThen_ok, List.map_toArray, List.map_cons, List.map_nil, hs, hx, hrun]
  exact h v' w' h2 h3
end
set_option maxRecDepth 100000 in
set_option maxHeartbeats 4000000 in
theorem rstep_6 (u : Tn) (a : TA) (o : TnOk u) (ht : 0 ≤ u.tt ∧ u.tt ≤ 15) (w : World) (h : TnAt w u a) (p4 : (u.d.ph == 4) = false) (p5 : (u.d.ph == 5) = false) (p6 : (u.d.ph == 6) = true) : Calls Try.prog 13 #[.agg (tcs u a).toArray] w (KSPost (clmV wonV u u.d.x (frV 2 u.tt)) true u.d.hl.length a w) := by
  have im : I64 (frV 2 u.tt) := fr_i64 (by decide) ht
  have KF := fun W => hide (rjoined_any u.tt ht W)
  obtain ⟨mine, hmine⟩ : ∃ x, frV 2 u.tt = x := ⟨_, rfl⟩
  rw [hmine] at KF im ⊢
  clear hmine
  have B1 : boxOf ((w.alloc (.cells (tcs u a).toArray 55)).alloc (.cells zT.toArray 55)) w.heap.size = some (tcs u a) := by simp [go_sem]
  have B2 : boxOf ((w.alloc (.cells (tcs u a).toArray 55)).alloc (.cells zT.toArray 55)) (w.heap.size + 1) = some zT := by simp [go_sem]
  have hs : w.heap.size + 1 < ((w.alloc (.cells (tcs u a).toArray 55)).alloc (.cells zT.toArray 55)).heap.size := by simp
  have hB : Below w.heap.size w ((w.alloc (.cells (tcs u a).toArray 55)).alloc (.cells zT.toArray 55)) := (belowN w _).alloc (by simp) _
  have h0 := h
  replace h := h.later hB
  go_enter Try.func13, Try.ntmps13
  go_wp2_with fail
  generalize ((w.alloc (.cells (tcs u a).toArray 55)).alloc (.cells zT.toArray 55)) = wz at *
  refine (rnode_u u o _).mono ?_
  rintro e wz1 ⟨rfl, hb1⟩
  replace B1 := boxOf_keep B1 hb1
  replace B2 := boxOf_keep B2 hb1
  replace hs := Nat.lt_of_lt_of_le hs hb1.size
  replace hB := below_next hB hB.size hb1
  replace h := h.later hb1
  clear hb1
  go_wp2_with fail
  generalize wz1 = wz at *
  have HL := hide (h0.m.words.block_lt)
  obtain ⟨ev, hev⟩ : ∃ x, erV u.ws.length (ndP u) = x := ⟨_, rfl⟩
  obtain ⟨nw, hnw⟩ : ∃ x, casV u.ws (ndP u) u.d.x mine = x := ⟨_, rfl⟩
  obtain ⟨qv, hqv⟩ : ∃ x, casB u.ws (ndP u) u.d.x = x := ⟨_, rfl⟩
  have HN : Hid (nw.length = u.ws.length) := hide (by rw [← hnw]; exact casV_length _ _ _ _)
  have iws : Hid (∀ x ∈ nw, I64 x) := hide (by rw [← hnw]; exact casV_i64 o.ws _ _ _ im)
  have KS := hide (fun W m => rcas_any a.mA a.mB a.mc a.md u.ws a.bs (ndP u) u.d.x mine W m)
  rw [hev, hnw, hqv] at KS
  generalize wz = w4 at *
  have Z : boxOf w4.drew w.heap.size = some (tcs u a) ∧ boxOf w4.drew w.heap.size = some (tcs u a) ∧ boxOf w4.drew (w.heap.size + 1) = some zT ∧ Below w.heap.size w w4.drew := ⟨by rw [boxOf_drew]; exact B1, by rw [boxOf_drew]; exact B1, by rw [boxOf_drew]; exact B2, hB.drew⟩
  go_cut [10, 11, 12] from 13 (fun p q e wc => ∃ k A c, p = .pointer (some ⟨k, 0, none⟩) ∧ q = .bool qv ∧ e = .int .i64 ev ∧ StAt w w.heap.size (w.heap.size + 1) (tcs u a) zT A nw c (.slice a.mB a.bs.length a.md) k a.mA wc)
  case first =>
    go_region_held3 (fun w' => boxOf w' w.heap.size = some (tcs u a) ∧ boxOf w' w.heap.size = some (tcs u a) ∧ boxOf w' (w.heap.size + 1) = some zT ∧ Below w.heap.size w w')
      (first | (with_reducible exact Z) | (with_reducible exact Z1) | (with_reducible exact Z2) | (with_reducible exact keepT4 (by assumption) (belowN _ _)) | (with_reducible exact keepT4s Z2 _ _ _ (by omega) (by omega) (by omega) (by omega)) | (with_reducible exact keepT4s (keepT4s Z2 _ _ _ (by omega) (by omega) (by omega) (by omega)) _ _ _ (by omega) (by omega) (by omega) (by omega)))
      (first
        | (go_at_call 42; refine ((KF _).out.mono (fun e w' ⟨h1, h2⟩ => (show IntPost mine _ e w' from ⟨h1, by rw [h2]; exact Below.refl _ _⟩))).mono ?_; rintro e v1 ⟨rfl, hb1⟩; have Z1 : boxOf v1 w.heap.size = some (tcs u a) ∧ boxOf v1 w.heap.size = some (tcs u a) ∧ boxOf v1 (w.heap.size + 1) = some zT ∧ Below w.heap.size w v1 := keepT4 (by assumption) hb1; (first | (with_reducible have tk := box_newk hb1) | (with_reducible have tk := box_newd hb1) | skip); have q1 : w4.heap.size ≤ v1.heap.size := Nat.le_trans (by simp) hb1.size)
        | (go_at_call 39; refine (KS.out _ (h0.m.later (And.right (And.right (And.right (by assumption)))))).mono ?_; rintro e v2 ⟨A, c, rfl, hsA, hor, hb2⟩; have Z2 : boxOf v2 w.heap.size = some (tcs u a) ∧ boxOf v2 w.heap.size = some (tcs u a) ∧ boxOf v2 (w.heap.size + 1) = some zT ∧ Below w.heap.size w v2 := keepT4 (by assumption) hb2; (first | (with_reducible have tk := box_keep2 tk hb2) | (with_reducible have tk := box_keep2n tk hb2) | (with_reducible have tk := box_newk hb2) | (with_reducible have tk := box_newd hb2) | skip); have q2 : v1.heap.size ≤ v2.heap.size := Nat.le_trans (by simp) hb2.size))
    all_goals go_wp2_with fail
    all_goals go_meet
    all_goals
      have hfa : 0 < nw.length → ∀ p, A = some p → p.block ≠ w.heap.size ∧ p.block ≠ w.heap.size + 1 := fun hn p hp => by
        rcases hor with e | f
        · have := HL.out (by rw [← HN.out]; exact hn) p (e ▸ hp); omega
        · have := f p hp; (try simp at this); omega
    all_goals
      have hoo : A = a.mA ∨ Fresh w A := hor.imp_right (fun f p hp => by have := f p hp; (try simp at this); have := hB.size; omega)
    all_goals first
      | exact ⟨_, A, c, rfl, rfl, rfl, st_new _ hsA hfa Z2.1 Z2.2.2.1 Z2.2.2.2 hoo⟩
      | exact ⟨_, A, c, rfl, rfl, rfl, st_set hsA hfa Z2.1 Z2.2.2.1 Z2.2.2.2 tk.1 rfl (by omega) (by omega) (by omega) (fun hn p hp => by
          rcases hor with e | f
          · have := HL.out (by rw [← HN.out]; exact hn) p (e ▸ hp); omega
          · have := f p hp; (try simp at this); omega) hoo⟩
  case rest =>
    obtain ⟨k, A, c, rfl, rfl, rfl, hst⟩ := hcut
    clear B1 B2 hB Z KS h hs
    obtain ⟨bk, sA, fa, B1, B2, hB, hoo⟩ := hst
    have hs := boxOf_lt B2
    have he : ev = 0 ∨ ev = 30 := by rw [← hev]; unfold erV; split <;> simp
    rcases he with he | he
    case inr =>
      subst he
      have HV : Hid (clmV wonV u u.d.x mine = u) := hide (by rw [clmV, if_neg (by rw [hev]; decide)])
      clear hev hnw hqv
      go_wp2
      have hBf : Below w.heap.size w (wc.setCells (w.heap.size + 1) 0 (tcs u a)) := by repeat first | exact hB | refine below_sets _ (by omega) _ _ _ _ ?_ | refine Below.setCell ?_ (by first | omega | (simp; omega) | simp) _ | refine Below.alloc ?_ (by first | omega | (simp; omega) | simp) _
      refine bodyPost_ret (v := .tuple #[.agg (tcs u a).toArray, .bool true]) (results_box2 Try.results13 _ _ (w.heap.size + 1) _ _ _ rfl rfl (by simp [go_sem, B1, B2]) Try.underlying55 rfl (by kernel_rfl)) rfl (by rw [HV.out]; exact ⟨a.mA, a.mc, a.p.hA, a.p.hc, rfl, h0.m.words.later hBf, .inl rfl, h0.th.h.later hBf, .inl ⟨rfl, rfl⟩, hBf⟩)
    subst he
    cases qv with
    | false =>
      have HV : Hid (clmV wonV u u.d.x mine = ({ u with d := { u.d with ph := 4 } } : Tn)) := hide (by rw [clmV, if_pos hev, if_neg (by rw [hqv]; decide)])
      have key : ∀ W', Below w.heap.size w W' → KSPost ({ u with d := { u.d with ph := 4 } } : Tn) true u.d.hl.length a w (.returned (.tuple #[.agg (tcs ({ u with d := { u.d with ph := 4 } } : Tn) a).toArray, .bool true])) W' := fun W' hBf => ⟨a.mA, a.mc, a.p.hA, a.p.hc, rfl, h0.m.words.later hBf, .inl rfl, h0.th.h.later hBf, .inl ⟨rfl, rfl⟩, hBf⟩
      clear hev hnw hqv
      go_wp2
      refine bodyPost_ret (v := .tuple #[.agg (tcs ({ u with d := { u.d with ph := 4 } } : Tn) a).toArray, .bool true]) (results_box2 Try.results13 _ _ (w.heap.size + 1) _ _ _ rfl rfl (by simp [go_sem, B1, B2]) Try.underlying55 rfl (by kernel_rfl)) rfl ?_
      rw [HV.out]
      exact key _ (by repeat first | exact hB | refine below_sets _ (by omega) _ _ _ _ ?_ | refine Below.setCell ?_ (by first | omega | (simp; omega) | simp) _ | refine Below.alloc ?_ (by first | omega | (simp; omega) | simp) _)
    | true =>
      have HV : Hid (clmV wonV u u.d.x mine = overV ({ u with ws := nw, d := { u.d with ph := 4, st := u.d.nd } } : Tn)) := hide (by rw [clmV, if_pos hev, if_pos hqv, hnw]; unfold wonV overV downV; rfl)
      clear hev hnw hqv
      go_wp2_with fail
      have hBx : Below w.heap.size w ((((wc.setCell ⟨w.heap.size, 16, none⟩ (.int .i64 4)).setCell ⟨w.heap.size, 14, none⟩ (.slice A nw.length c)).setCell ⟨w.heap.size, 15, none⟩ (.slice a.mB a.bs.length a.md)).setCell ⟨w.heap.size, 23, none⟩ (.int .i64 u.d.nd)) := by repeat first | exact hB | refine below_sets _ (by omega) _ _ _ _ ?_ | refine Below.setCell ?_ (by first | omega | (simp; omega) | simp) _ | refine Below.alloc ?_ (by first | omega | (simp; omega) | simp) _
      have sX : Sees ((((wc.setCell ⟨w.heap.size, 16, none⟩ (.int .i64 4)).setCell ⟨w.heap.size, 14, none⟩ (.slice A nw.length c)).setCell ⟨w.heap.size, 15, none⟩ (.slice a.mB a.bs.length a.md)).setCell ⟨w.heap.size, 23, none⟩ (.int .i64 u.d.nd)) ((((wc.setCell ⟨w.heap.size, 16, none⟩ (.int .i64 4)).setCell ⟨w.heap.size, 14, none⟩ (.slice A nw.length c)).setCell ⟨w.heap.size, 15, none⟩ (.slice a.mB a.bs.length a.md)).setCell ⟨w.heap.size, 23, none⟩ (.int .i64 u.d.nd)).heap.size 1 A nw.length (nw.map (Value.int .i64)) := (((sA.own1 _ _ _ (fun hn p hp => (fa hn p hp).1)).own1 _ _ _ (fun hn p hp => (fa hn p hp).1)).own1 _ _ _ (fun hn p hp => (fa hn p hp).1)).own1 _ _ _ (fun hn p hp => (fa hn p hp).1)
      have B2x : boxOf ((((wc.setCell ⟨w.heap.size, 16, none⟩ (.int .i64 4)).setCell ⟨w.heap.size, 14, none⟩ (.slice A nw.length c)).setCell ⟨w.heap.size, 15, none⟩ (.slice a.mB a.bs.length a.md)).setCell ⟨w.heap.size, 23, none⟩ (.int .i64 u.d.nd)) (w.heap.size + 1) = some zT := by simp [go_sem, B2]
      have hsx : w.heap.size + 1 < ((((wc.setCell ⟨w.heap.size, 16, none⟩ (.int .i64 4)).setCell ⟨w.heap.size, 14, none⟩ (.slice A nw.length c)).setCell ⟨w.heap.size, 15, none⟩ (.slice a.mB a.bs.length a.md)).setCell ⟨w.heap.size, 23, none⟩ (.int .i64 u.d.nd)).heap.size := by simpa using hs
      have HW := hide (over_ws ({ u with ws := nw, d := { u.d with ph := 4, st := u.d.nd } } : Tn))
      have HH := hide (over_hl ({ u with ws := nw, d := { u.d with ph := 4, st := u.d.nd } } : Tn))
      clear B1 B2 hB hs bk sA
      generalize ((((wc.setCell ⟨w.heap.size, 16, none⟩ (.int .i64 4)).setCell ⟨w.heap.size, 14, none⟩ (.slice A nw.length c)).setCell ⟨w.heap.size, 15, none⟩ (.slice a.mB a.bs.length a.md)).setCell ⟨w.heap.size, 23, none⟩ (.int .i64 u.d.nd)) = w5 at *
      refine (rover_any ({ u with ws := nw, d := { u.d with ph := 4, st := u.d.nd } } : Tn) ({ a with mA := A, mc := c } : TA) _).mono ?_
      rintro e w6 ⟨rfl, hb1⟩
      have B2 := boxOf_keep B2x hb1
      have hB := below_next hBx hBx.size hb1
      have hs := Nat.lt_of_lt_of_le hsx hb1.size
      replace sX := sX.later hb1
      obtain ⟨v, hv⟩ : ∃ v, overV ({ u with ws := nw, d := { u.d with ph := 4, st := u.d.nd } } : Tn) = v := ⟨_, rfl⟩
      rw [hv] at HV HW HH ⊢
      clear hb1 hv B2x hsx hBx
      go_wp2
      have hBf : Below w.heap.size w (w6.setCells (w.heap.size + 1) 0 (tcs v ({ a with mA := A, mc := c } : TA))) := by repeat first | exact hB | refine below_sets _ (by omega) _ _ _ _ ?_ | refine Below.setCell ?_ (by first | omega | (simp; omega) | simp) _ | refine Below.alloc ?_ (by first | omega | (simp; omega) | simp) _
      refine bodyPost_ret (v := .tuple #[.agg (tcs v ({ a with mA := A, mc := c } : TA)).toArray, .bool true]) (results_box2 Try.results13 _ _ (w.heap.size + 1) _ _ _ rfl rfl (by simp [go_sem, B2]) Try.underlying55 rfl (by kernel_rfl)) rfl (by rw [HV.out]; exact ⟨A, c, a.p.hA, a.p.hc, rfl, by rw [HW.out]; exact sX.setsC _ (fun hn p hp => (fa hn p hp).2) _ _, hoo, by rw [HH.out]; exact h0.th.h.later hBf, .inl ⟨rfl, by rw [HH.out]⟩, hBf⟩)
end Go.Proofs.Ytlmlmmkichkkhaa
