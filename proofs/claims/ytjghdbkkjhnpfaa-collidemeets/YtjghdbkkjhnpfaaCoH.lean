/- Layer 15: the contract of Step. -/
import Derived.Test.YtjghdbkkjhnpfaaCoC
import Derived.Test.YtjghdbkkjhnpfaaCoE
import Derived.Test.YtjghdbkkjhnpfaaCoF
import Derived.Lib.QuietBelow
import Derived.Deep.QuietTactic
import Derived.BigQuiet
namespace Go.Proofs.Ytjghdbkkjhnpfaa
open Go.RowKit Go.Sort
set_option linter.unusedVariables false
set_option linter.unusedSimpArgs false

theorem TnOk.setw {u : Tn} (o : TnOk u) {nw : List Int} (hw : ∀ x ∈ nw, I64 x) : TnOk { u with ws := nw } := ⟨o.b, o.k, o.h, o.l, o.t, o.f, o.lo, o.hi, o.tt, hw, o.c⟩
theorem opW_i64 {u : Tn} (hi : 0 ≤ u.d.it ∧ u.d.it ≤ 3) (hl : 1 ≤ u.d.ly ∧ u.d.ly ≤ 3) : I64 (opW u) := by unfold opW opV I64; omega
theorem er_or (n : Nat) (i : Int) : erV n i = 0 ∨ erV n i = 30 := by unfold erV; split <;> simp
theorem bx_short {w : World} {u : Tn} {a : TA} (h : TnAt w u a) (i : Int) : (bxV u.bx i).length ≤ 20000 := by
  unfold bxV
  split
  · cases he : u.bx[i.toNat]? with
    | none => simp
    | some b =>
      have hm := List.mem_of_getElem? he
      rw [← h.bx] at hm
      obtain ⟨q, hq, rfl⟩ := List.mem_map.1 hm
      exact h.m.short q hq
  · simp
theorem lk_same {u v : Tn} (h1 : v.ws = u.ws) (h2 : v.bx = u.bx) (h3 : v.d.bl = u.d.bl) (h4 : v.d.kl = u.d.kl) (h5 : v.d.hl = u.d.hl) (h6 : v.tl = u.tl) (h7 : v.ll = u.ll) : Lk u v := ⟨h1, h2, h3, h4, h5, h6, h7⟩
theorem onw_lk (u : Tn) : Lk u (onwV u) := by unfold onwV; split <;> exact ⟨rfl, rfl, rfl, rfl, rfl, rfl, rfl⟩
theorem lea_lk (u : Tn) : Lk u (leaV u) := Lk.trans (v := ({ u with d := { u.d with wd := wdV u.d.wd } } : Tn)) ⟨rfl, rfl, rfl, rfl, rfl, rfl, rfl⟩ (onw_lk _)
theorem ks_17 (u : Tn) (a : TA) (o : TnOk u) (ht : 0 ≤ u.tt ∧ u.tt ≤ 15) (hi : 0 ≤ u.d.it ∧ u.d.it ≤ 3) (hl : 1 ≤ u.d.ly ∧ u.d.ly ≤ 3) (hp : u.d.ph = 17) (w : World) (h : TnAt w u a) : Calls Try.prog 13 #[.agg (tcs u a).toArray] w (GsPost (shwC u) u true a w) := by
  have := step_gen u a ({ u with bx := ptV u.bx u.tt u.d.bl } : Tn) 0 false ([] : List E3) (erV u.bx.length u.tt) ({ u with bx := ptV u.bx u.tt u.d.bl, d := { u.d with ph := 18 } } : Tn) (er_or _ _) w h (fun W t => (step_17 u a o ht hi hl hp W).mono (fun e w' he => ⟨_, _, fun _ => True, he.1, fun W' hb' => do_put u a o u.tt W' ((t.later he.2).later hb'), fun _ _ => trivial, he.2⟩))
    (fun _ W b A c t s => ((goOn_17 ({ u with bx := ptV u.bx u.tt u.d.bl } : Tn) b ⟨o.b, o.k, o.h, o.l, o.t, o.f, o.lo, o.hi, o.tt, o.ws, o.c⟩ ht 0 false A ([] : List E3).length c hp W).mono (fun e w' hq => gp_tp (show Lk ({ u with bx := ptV u.bx u.tt u.d.bl } : Tn) ({ u with bx := ptV u.bx u.tt u.d.bl, d := { u.d with ph := 18 } } : Tn) from ⟨rfl, rfl, rfl, rfl, rfl, rfl, rfl⟩) t hq)))
  exact this
theorem ks_18 (u : Tn) (a : TA) (o : TnOk u) (ht : 0 ≤ u.tt ∧ u.tt ≤ 15) (hi : 0 ≤ u.d.it ∧ u.d.it ≤ 3) (hl : 1 ≤ u.d.ly ∧ u.d.ly ≤ 3) (hp : u.d.ph = 18) (w : World) (h : TnAt w u a) : Calls Try.prog 13 #[.agg (tcs u a).toArray] w (GsPost (opnC u) u true a w) := by
  have := step_gen u a (stW u) 0 false ([] : List E3) (erV u.ws.length (lnV u.c u.tt)) ({ (stW u) with d := { (stW u).d with ph := 19 } } : Tn) (er_or _ _) w h (fun W t => (step_18 u a o ht hi hl hp W).mono (fun e w' he => ⟨_, _, fun _ => True, he.1, fun W' hb' => do_sto u a o _ _ W' ((t.later he.2).later hb'), fun _ _ => trivial, he.2⟩))
    (fun _ W b A c t s => ((goOn_18 (stW u) b (o.setw (stV_i64 o.ws _ _ (opW_i64 hi hl))) ht 0 false A ([] : List E3).length c hp W).mono (fun e w' hq => gp_tp (show Lk (stW u) ({ (stW u) with d := { (stW u).d with ph := 19 } } : Tn) from ⟨rfl, rfl, rfl, rfl, rfl, rfl, rfl⟩) t hq)))
  exact this
theorem ks_24 (u : Tn) (a : TA) (o : TnOk u) (ht : 0 ≤ u.tt ∧ u.tt ≤ 15) (hi : 0 ≤ u.d.it ∧ u.d.it ≤ 3) (hl : 1 ≤ u.d.ly ∧ u.d.ly ≤ 3) (hp : u.d.ph = 24) (w : World) (h : TnAt w u a) : Calls Try.prog 13 #[.agg (tcs u a).toArray] w (GsPost (reoC u) u true a w) := by
  have := step_gen u a (stW u) 0 false ([] : List E3) (erV u.ws.length (lnV u.c u.tt)) (spnV (stW u)) (er_or _ _) w h (fun W t => (step_24 u a o ht hi hl hp W).mono (fun e w' he => ⟨_, _, fun _ => True, he.1, fun W' hb' => do_sto u a o _ _ W' ((t.later he.2).later hb'), fun _ _ => trivial, he.2⟩))
    (fun _ W b A c t s => ((goOn_24 (stW u) b (o.setw (stV_i64 o.ws _ _ (opW_i64 hi hl))) ht 0 false A ([] : List E3).length c hp W).mono (fun e w' hq => gp_tp (show Lk (stW u) (spnV (stW u)) from ⟨rfl, rfl, rfl, rfl, rfl, rfl, rfl⟩) t hq)))
  exact this
theorem ks_20 (u : Tn) (a : TA) (o : TnOk u) (ht : 0 ≤ u.tt ∧ u.tt ≤ 15) (hi : 0 ≤ u.d.it ∧ u.d.it ≤ 3) (hl : 1 ≤ u.d.ly ∧ u.d.ly ≤ 3) (hp : u.d.ph = 20) (w : World) (h : TnAt w u a) : Calls Try.prog 13 #[.agg (tcs u a).toArray] w (GsPost (cmpC u u.tt 21 13) u true a w) := by
  have := step_gen u a (cmW u u.tt) 0 (cmB u u.tt) ([] : List E3) (erV u.ws.length (lnV u.c u.tt)) (if cmB u u.tt = true then ({ (cmW u u.tt) with d := { (cmW u u.tt).d with ph := 21 } } : Tn) else ({ (cmW u u.tt) with d := { (cmW u u.tt).d with ph := 13 } } : Tn)) (er_or _ _) w h (fun W t => (step_20 u a o ht hi hl hp W).mono (fun e w' he => ⟨_, _, fun _ => True, he.1, fun W' hb' => do_shu u a o _ _ W' ((t.later he.2).later hb'), fun _ _ => trivial, he.2⟩))
    (fun _ W b A c t s => by
      cases hb : cmB u u.tt with
      | true => exact ((goOn_20y (cmW u u.tt) b (o.setw (casV_i64 o.ws _ _ _ i64_0)) ht 0 A ([] : List E3).length c hp W).mono (fun e w' hq => gp_tp (show Lk (cmW u u.tt) ({ (cmW u u.tt) with d := { (cmW u u.tt).d with ph := 21 } } : Tn) from ⟨rfl, rfl, rfl, rfl, rfl, rfl, rfl⟩) t hq))
      | false => exact ((goOn_20n (cmW u u.tt) b (o.setw (casV_i64 o.ws _ _ _ i64_0)) ht 0 A ([] : List E3).length c hp W).mono (fun e w' hq => gp_tp (show Lk (cmW u u.tt) ({ (cmW u u.tt) with d := { (cmW u u.tt).d with ph := 13 } } : Tn) from ⟨rfl, rfl, rfl, rfl, rfl, rfl, rfl⟩) t hq)))
  exact this
theorem ks_21 (u : Tn) (a : TA) (o : TnOk u) (ht : 0 ≤ u.tt ∧ u.tt ≤ 15) (hi : 0 ≤ u.d.it ∧ u.d.it ≤ 3) (hl : 1 ≤ u.d.ly ∧ u.d.ly ≤ 3) (hp : u.d.ph = 21) (w : World) (h : TnAt w u a) : Calls Try.prog 13 #[.agg (tcs u a).toArray] w (GsPost (cmpC u u.d.who 22 24) u true a w) := by
  have := step_gen u a (cmW u u.d.who) 0 (cmB u u.d.who) ([] : List E3) (erV u.ws.length (lnV u.c u.d.who)) (if cmB u u.d.who = true then ({ (cmW u u.d.who) with d := { (cmW u u.d.who).d with ph := 22 } } : Tn) else ({ (cmW u u.d.who) with d := { (cmW u u.d.who).d with ph := 24 } } : Tn)) (er_or _ _) w h (fun W t => (step_21 u a o ht hi hl hp W).mono (fun e w' he => ⟨_, _, fun _ => True, he.1, fun W' hb' => do_shu u a o _ _ W' ((t.later he.2).later hb'), fun _ _ => trivial, he.2⟩))
    (fun _ W b A c t s => by
      cases hb : cmB u u.d.who with
      | true => exact ((goOn_21y (cmW u u.d.who) b (o.setw (casV_i64 o.ws _ _ _ i64_0)) ht 0 A ([] : List E3).length c hp W).mono (fun e w' hq => gp_tp (show Lk (cmW u u.d.who) ({ (cmW u u.d.who) with d := { (cmW u u.d.who).d with ph := 22 } } : Tn) from ⟨rfl, rfl, rfl, rfl, rfl, rfl, rfl⟩) t hq))
      | false => exact ((goOn_21n (cmW u u.d.who) b (o.setw (casV_i64 o.ws _ _ _ i64_0)) ht 0 A ([] : List E3).length c hp W).mono (fun e w' hq => gp_tp (show Lk (cmW u u.d.who) ({ (cmW u u.d.who) with d := { (cmW u u.d.who).d with ph := 24 } } : Tn) from ⟨rfl, rfl, rfl, rfl, rfl, rfl, rfl⟩) t hq)))
  exact this
theorem ks_26 (u : Tn) (a : TA) (o : TnOk u) (ht : 0 ≤ u.tt ∧ u.tt ≤ 15) (hi : 0 ≤ u.d.it ∧ u.d.it ≤ 3) (hl : 1 ≤ u.d.ly ∧ u.d.ly ≤ 3) (hp : u.d.ph = 26) (w : World) (h : TnAt w u a) : Calls Try.prog 13 #[.agg (tcs u a).toArray] w (GsPost (leaC u) u true a w) := by
  have := step_gen u a (cmW u u.tt) 0 (cmB u u.tt) ([] : List E3) (erV u.ws.length (lnV u.c u.tt)) (if cmB u u.tt = true then (leaV (cmW u u.tt)) else ({ (cmW u u.tt) with d := { (cmW u u.tt).d with ph := 13 } } : Tn)) (er_or _ _) w h (fun W t => (step_26 u a o ht hi hl hp W).mono (fun e w' he => ⟨_, _, fun _ => True, he.1, fun W' hb' => do_shu u a o _ _ W' ((t.later he.2).later hb'), fun _ _ => trivial, he.2⟩))
    (fun _ W b A c t s => by
      cases hb : cmB u u.tt with
      | true => exact ((goOn_26y (cmW u u.tt) b (o.setw (casV_i64 o.ws _ _ _ i64_0)) ht 0 A ([] : List E3).length c hp W).mono (fun e w' hq => gp_tp (show Lk (cmW u u.tt) (leaV (cmW u u.tt)) from lea_lk _) t hq))
      | false => exact ((goOn_26n (cmW u u.tt) b (o.setw (casV_i64 o.ws _ _ _ i64_0)) ht 0 A ([] : List E3).length c hp W).mono (fun e w' hq => gp_tp (show Lk (cmW u u.tt) ({ (cmW u u.tt) with d := { (cmW u u.tt).d with ph := 13 } } : Tn) from ⟨rfl, rfl, rfl, rfl, rfl, rfl, rfl⟩) t hq)))
  exact this
theorem ks_22 (u : Tn) (a : TA) (o : TnOk u) (ht : 0 ≤ u.tt ∧ u.tt ≤ 15) (hi : 0 ≤ u.d.it ∧ u.d.it ≤ 3) (hl : 1 ≤ u.d.ly ∧ u.d.ly ≤ 3) (hp : u.d.ph = 22) (w : World) (h : TnAt w u a) : Calls Try.prog 13 #[.agg (tcs u a).toArray] w (GsPost (absC u) u true a w) := by
  have hlen := bx_short h u.d.who
  have := step_gen u a u 0 false (bxV u.bx u.d.who) (erV u.bx.length u.d.who) (absV u (bxV u.bx u.d.who)) (er_or _ _) w h (fun W t => (step_22 u a o ht hi hl hp W).mono (fun e w' he => ⟨_, _, fun _ => True, he.1, fun W' hb' => do_rea u a o _ W' ((t.later he.2).later hb'), fun _ _ => trivial, he.2⟩))
    (fun _ W b A c t s => goOn_22 u b o 0 false _ A c hp W t s hlen)
  exact this
theorem ks_23 (u : Tn) (a : TA) (o : TnOk u) (ht : 0 ≤ u.tt ∧ u.tt ≤ 15) (hi : 0 ≤ u.d.it ∧ u.d.it ≤ 3) (hl : 1 ≤ u.d.ly ∧ u.d.ly ≤ 3) (hp : u.d.ph = 23) (w : World) (h : TnAt w u a) : Calls Try.prog 13 #[.agg (tcs u a).toArray] w (GsPost (spiC u) u true a w) := by
  have := step_gen u a u 0 (ldV u.ws (lnV u.c u.tt) == opW u) ([] : List E3) (erV u.ws.length (lnV u.c u.tt)) (if ldV u.ws (lnV u.c u.tt) = opW u then (if 1 ≤ u.d.lf ∧ lateB u.d.un u.now = false then spoV u else ({ u with d := { u.d with ph := 26 } } : Tn)) else ({ u with d := { u.d with ph := 13 } } : Tn)) (er_or _ _) w h (fun W t => (step_23 u a o ht hi hl hp W).mono (fun e w' he => ⟨_, _, fun _ => True, he.1, fun W' hb' => do_loo u a o _ _ W' ((t.later he.2).later hb'), fun _ _ => trivial, he.2⟩))
    (fun _ W b A c t s => by
      by_cases h1 : ldV u.ws (lnV u.c u.tt) = opW u
      · rw [if_pos h1, show (ldV u.ws (lnV u.c u.tt) == opW u) = true by simpa using h1]
        by_cases h2 : 1 ≤ u.d.lf
        · cases h3 : lateB u.d.un u.now with
          | false => rw [if_pos ⟨h2, rfl⟩]; exact ((goOn_23a u b o ht 0 A ([] : List E3).length c hp (by simpa using h2) h3 W).mono (fun e w' hq => gp_tp (show Lk u (spoV u) from ⟨rfl, rfl, rfl, rfl, rfl, rfl, rfl⟩) t hq))
          | true => rw [if_neg (fun e => by cases e.2)]; exact ((goOn_23c u b o ht 0 A ([] : List E3).length c hp (by simpa using h2) h3 W).mono (fun e w' hq => gp_tp (show Lk u ({ u with d := { u.d with ph := 26 } } : Tn) from ⟨rfl, rfl, rfl, rfl, rfl, rfl, rfl⟩) t hq))
        · rw [if_neg (fun e => h2 e.1)]; exact ((goOn_23b u b o ht 0 A ([] : List E3).length c hp (by simpa using h2) W).mono (fun e w' hq => gp_tp (show Lk u ({ u with d := { u.d with ph := 26 } } : Tn) from ⟨rfl, rfl, rfl, rfl, rfl, rfl, rfl⟩) t hq))
      · rw [if_neg h1, show (ldV u.ws (lnV u.c u.tt) == opW u) = false by simpa using h1]
        exact ((goOn_23d u b o ht 0 A ([] : List E3).length c hp  W).mono (fun e w' hq => gp_tp (show Lk u ({ u with d := { u.d with ph := 13 } } : Tn) from ⟨rfl, rfl, rfl, rfl, rfl, rfl, rfl⟩) t hq)))
  exact this
theorem sw_lt {w w' : World} {u : Tn} {A : Option Addr} (s : Sees w' w'.heap.size 1 A u.tl.length (u.tl.map (Value.int .i64))) (f : Fresh w A) (g : Nat) (h : g < w.heap.size ∨ w'.heap.size ≤ g) : 0 < u.tl.length → ∀ p, A = some p → p.block ≠ g := fun hn p hp => by
  have h1 := s.block_lt hn p hp
  have h2 := f p hp
  omega
theorem ks_19 (u : Tn) (a : TA) (o : TnOk u) (ht : 0 ≤ u.tt ∧ u.tt ≤ 15) (hi : 0 ≤ u.d.it ∧ u.d.it ≤ 3) (hl : 1 ≤ u.d.ly ∧ u.d.ly ≤ 3) (hp : u.d.ph = 19) (w : World) (h : TnAt w u a) (hta : I64 u.ta) : Calls Try.prog 13 #[.agg (tcs u a).toArray] w (GsPost (swpC u) u true a w) := by
  have ov : TnOk (swW u) := ⟨o.b, o.k, o.h, o.l, o.t, o.f, o.lo, o.hi, o.tt, stV_i64 o.ws _ _ (by unfold I64; omega), o.c⟩
  have := step_gen u a (swW u) (swQ u) false ([] : List E3) (erV u.ws.length (swP u)) (if metB u (swQ u) = true then aprV (swW u) (swQ u) else spnV (swW u)) (er_or _ _) w h
    (fun W t => (step_19 u a o ht hi hl hp W t hta).mono (fun e w' he => by
      obtain ⟨A, c, rfl, sT, fT, hb⟩ := he
      exact ⟨_, _, _, rfl, fun W' hb' => do_swa u a o _ _ _ A c W' ((t.later hb).later hb') (sT.later hb'), sw_lt sT fT, hb⟩))
    (fun _ W b A c t s => by
      cases h1 : (decide (1 ≤ swQ u) && decide (swQ u ≤ u.c.x0)) with
      | false =>
        rw [if_neg (by unfold metB; rw [h1]; simp)]
        exact ((goOn_19n (swW u) b ov ht (swQ u) false A ([] : List E3).length c hp h1 W).mono (fun e w' hq => gp_tp (show Lk (swW u) (spnV (swW u)) from ⟨rfl, rfl, rfl, rfl, rfl, rfl, rfl⟩) t hq))
      | true =>
        cases h2 : (swQ u == u.tt + 1) with
        | true =>
          rw [if_neg (by unfold metB; rw [h1, h2]; decide)]
          exact ((goOn_19m (swW u) b ov ht (swQ u) false A ([] : List E3).length c hp h1 h2 W).mono (fun e w' hq => gp_tp (show Lk (swW u) (spnV (swW u)) from ⟨rfl, rfl, rfl, rfl, rfl, rfl, rfl⟩) t hq))
        | false =>
          rw [if_pos (by unfold metB; rw [h1, h2]; decide)]
          exact ((goOn_19y (swW u) b ov ht (swQ u) false A ([] : List E3).length c hp h1 h2 W).mono (fun e w' hq => gp_tp (show Lk (swW u) (aprV (swW u) (swQ u)) from ⟨rfl, rfl, rfl, rfl, rfl, rfl, rfl⟩) t hq)))
  exact this
/-- The step of whatever turn. -/
theorem cstep_any (u : Tn) (a : TA) (o : TnOk u) (ht : 0 ≤ u.tt ∧ u.tt ≤ 15) (hi : 0 ≤ u.d.it ∧ u.d.it ≤ 3) (hl : 1 ≤ u.d.ly ∧ u.d.ly ≤ 3) (hta : I64 u.ta) (w : World) (h : TnAt w u a) : Calls Try.prog 13 #[.agg (tcs u a).toArray] w (GsPost (stepC u) u (isC u) a w) := by
  by_cases h17 : u.d.ph = 17
  · rw [show stepC u = shwC u by rw [stepC, if_pos h17], show isC u = true by simp [isC, h17]]; exact ks_17 u a o ht hi hl h17 w h
  by_cases h18 : u.d.ph = 18
  · rw [show stepC u = opnC u by rw [stepC, if_neg h17, if_pos h18], show isC u = true by simp [isC, h18]]; exact ks_18 u a o ht hi hl h18 w h
  by_cases h19 : u.d.ph = 19
  · rw [show stepC u = swpC u by rw [stepC, if_neg h17, if_neg h18, if_pos h19], show isC u = true by simp [isC, h19]]; exact ks_19 u a o ht hi hl h19 w h hta
  by_cases h20 : u.d.ph = 20
  · rw [show stepC u = cmpC u u.tt 21 13 by rw [stepC, if_neg h17, if_neg h18, if_neg h19, if_pos h20], show isC u = true by simp [isC, h20]]; exact ks_20 u a o ht hi hl h20 w h
  by_cases h21 : u.d.ph = 21
  · rw [show stepC u = cmpC u u.d.who 22 24 by rw [stepC, if_neg h17, if_neg h18, if_neg h19, if_neg h20, if_pos h21], show isC u = true by simp [isC, h21]]; exact ks_21 u a o ht hi hl h21 w h
  by_cases h22 : u.d.ph = 22
  · rw [show stepC u = absC u by rw [stepC, if_neg h17, if_neg h18, if_neg h19, if_neg h20, if_neg h21, if_pos h22], show isC u = true by simp [isC, h22]]; exact ks_22 u a o ht hi hl h22 w h
  by_cases h23 : u.d.ph = 23
  · rw [show stepC u = spiC u by rw [stepC, if_neg h17, if_neg h18, if_neg h19, if_neg h20, if_neg h21, if_neg h22, if_pos h23], show isC u = true by simp [isC, h23]]; exact ks_23 u a o ht hi hl h23 w h
  by_cases h24 : u.d.ph = 24
  · rw [show stepC u = reoC u by rw [stepC, if_neg h17, if_neg h18, if_neg h19, if_neg h20, if_neg h21, if_neg h22, if_neg h23, if_pos h24], show isC u = true by simp [isC, h24]]; exact ks_24 u a o ht hi hl h24 w h
  by_cases h26 : u.d.ph = 26
  · rw [show stepC u = leaC u by rw [stepC, if_neg h17, if_neg h18, if_neg h19, if_neg h20, if_neg h21, if_neg h22, if_neg h23, if_neg h24, if_pos h26], show isC u = true by simp [isC, h26]]; exact ks_26 u a o ht hi hl h26 w h
  have e : ∀ k : Int, u.d.ph ≠ k → (u.d.ph == k) = false := fun k hk => beq_eq_false_iff_ne.2 hk
  rw [show stepC u = u by rw [stepC, if_neg h17, if_neg h18, if_neg h19, if_neg h20, if_neg h21, if_neg h22, if_neg h23, if_neg h24, if_neg h26], show isC u = false by simp [isC, h17, h18, h19, h20, h21, h22, h23, h24, h26]]
  exact step_none u a w h (fun W => step_n u a o ht hi hl (e 17 h17) (e 18 h18) (e 24 h24) (e 19 h19) (e 20 h20) (e 26 h26) (e 21 h21) (e 22 h22) (e 23 h23) W)
end Go.Proofs.Ytjghdbkkjhnpfaa
