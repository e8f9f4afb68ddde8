/- The walk of ShareTells. -/
import Derived.Test.YtnmffjlfdnebnaaW11TellM
import Derived.Test.YtnmffjlfdnebnaaM4
import Derived.Test.YtnmffjlfdnebnaaM1
import Derived.Test.YtnmffjlfdnebnaaM6
import Derived.Test.YtnmffjlfdnebnaaTnZ
import Derived.Lib.QuietBelow
import Derived.Deep.QuietTactic
import Derived.BigQuiet
import Derived.Deep.RegionHeld3
namespace Go.Proofs.Ytnmffjlfdnebnaa
open Go.RowKit Go.Sort
set_option linter.unusedVariables false
set_option linter.unusedSimpArgs false

theorem busy_tl (d : Dt) (p : Ad) (w : World) : Calls Try.prog 17 #[.agg (thc d p).toArray] w (BoolPost (d.ph != 0) w) := busy_any d.ph _ _ _ _ _ _ _ _ _ _ _ _ _ _ _ _ w
theorem two_wrap {k n : Nat} (h : n = 2 * k) (hk : k ≤ 20) : wrap64 (2 * (k : Int)) = (n : Int) ∧ IntKind.i64.wrap (2 * (k : Int)) = (n : Int) := by
  have hi : I64 (2 * (k : Int)) := by unfold I64; omega
  have e : wrap64 (2 * (k : Int)) = (n : Int) := (wrap64_id hi).trans (by omega)
  exact ⟨e, by rw [IntKind.wrap_i64]; omega⟩
theorem wrap_small {k : Nat} (h : k ≤ 20000) : wrap64 (k : Int) = (k : Int) ∧ IntKind.i64.wrap (k : Int) = (k : Int) := by
  have hi : I64 (k : Int) := by unfold I64; omega
  exact ⟨wrap64_id hi, by rw [IntKind.wrap_i64]; omega⟩
theorem setl_ws' (u : Tn) : (setlV u).ws = u.ws := by unfold setlV; split <;> rfl
theorem keepE {w W W' : World} {g gk gz : Nat} {cs ds es : List Value} (h : boxOf W g = some cs ∧ boxOf W gk = some ds ∧ boxOf W gz = some es ∧ Below w.heap.size w W) (hb : Below W.heap.size W W') : boxOf W' g = some cs ∧ boxOf W' gk = some ds ∧ boxOf W' gz = some es ∧ Below w.heap.size w W' := ⟨boxOf_keep h.1 hb, boxOf_keep h.2.1 hb, boxOf_keep h.2.2.1 hb, below_next h.2.2.2 h.2.2.2.size hb⟩
/-- How things lie behind n steps. -/
structure LpAt (w : World) (k1 : Nat) (u : Tn) (a : TA) (n : Nat) (A : Option Addr) (c : Nat) (W : World) : Prop where
  n2 : n ≤ 2 * u.d.kl.length
  b0 : boxOf W w.heap.size = some (tcs { u with d := { u.d with pl := 0 }, dn := false } a)
  b1 : boxOf W k1 = some (tcs (stT u n) { a with mA := A, mc := c })
  s : Sees W W.heap.size 1 A (stT u n).ws.length ((stT u n).ws.map (Value.int .i64))
  f : 0 < u.ws.length → ∀ p, A = some p → p.block ≠ k1
  k : w.heap.size < k1
  b : Below w.heap.size w W
theorem LpAt.round {w W : World} {k1 n c : Nat} {u : Tn} {a : TA} {A : Option Addr} (L : LpAt w k1 u a n A c W) (K : KidsIn u) (h : TnAt w u a) (o : TnOk u) (cap : u.d.bl.length ≤ a.p.bc) (hn : n < 2 * u.d.kl.length) :
    ∃ v v', stT u n = v ∧ stT u (n + 1) = v' ∧ v.dn = false ∧ Calls Try.prog 11 #[.agg (tcs v { a with mA := A, mc := c }).toArray] W (StepPost v' true { a with mA := A, mc := c } W) := by
  obtain ⟨e1, e2, e3⟩ := step_stT K hn
  have lk := stT_like K n (by omega)
  have S := step_any (stT u n) { a with mA := A, mc := c } (stT_ok K o n (by omega)) W (lk.at h L.b c L.s) (by rw [lk.bl]; exact cap)
  rw [e1, e2] at S
  exact ⟨_, _, rfl, rfl, e3, S⟩
theorem LpAt.next {w W w6 : World} {k1 n c : Nat} {u v v' : Tn} {a : TA} {A : Option Addr} (L : LpAt w k1 u a n A c W) (K : KidsIn u) (hn : n < 2 * u.d.kl.length) (hv : stT u n = v) (hv' : stT u (n + 1) = v') {A' : Option Addr} {c' : Nat}
    (s : Sees w6 w6.heap.size 1 A' v'.ws.length (v'.ws.map (Value.int .i64))) (hor : A' = ({ a with mA := A, mc := c } : TA).mA ∨ Fresh W A') (hb : Below W.heap.size W w6) :
    LpAt w k1 u a (n + 1) A' c' (((w6.alloc (.cells zT.toArray 38)).setCells w6.heap.size 0 (tcs v' { a with mA := A', mc := c' })).setCells k1 0 (tcs v' { a with mA := A', mc := c' })) := by
  subst hv hv'
  have hk := L.k
  have hl := boxOf_lt L.b1
  have nb := belowY w6 (stT u (n + 1)) { a with mA := A', mc := c' } 38
  have hlen := (stT_like K (n + 1) (by omega)).wl
  have hf : 0 < u.ws.length → ∀ p, A' = some p → p.block ≠ k1 := fun h0 p hp => by
    rcases hor with e | f
    · exact L.f h0 p (by rw [← show A' = A from e]; exact hp)
    · have := f p hp; omega
  refine ⟨by omega, ?_, ?_, ?_, hf, hk, ?_⟩
  · rw [boxOf_sets_far _ _ (by omega)]; exact boxOf_keep (boxOf_keep L.b0 hb) nb
  · exact boxOf_whole _ _ _ (boxOf_keep (boxOf_keep L.b1 hb) nb) (by rw [tcs_length, tcs_length])
  · exact (s.later nb).setCells2 _ (fun h0 p hp => hf (by omega) p hp) _ _
  · exact below_sets _ (by omega) _ _ _ _ (below_next (below_next L.b L.b.size hb) (below_next L.b L.b.size hb).size nb)
theorem LpAt.fin {w W : World} {k1 n c : Nat} {u : Tn} {a : TA} {A : Option Addr} (L : LpAt w k1 u a n A c W) (hn : 2 * u.d.kl.length ≤ n) :
    n = 2 * u.d.kl.length ∧ ∃ tw, toldW u u.d.kl.length = tw ∧ boxOf W w.heap.size = some (tcs { u with d := { u.d with pl := 0 }, dn := false } a) ∧ boxOf W k1 = some (tcs { u with ws := tw, d := { u.d with ph := 0, pl := (u.d.kl.length : Int) }, dn := true } { a with mA := A, mc := c }) ∧ Sees W W.heap.size 1 A tw.length (tw.map (Value.int .i64)) ∧ (0 < u.ws.length → ∀ p, A = some p → p.block ≠ k1) ∧ Below w.heap.size w W := by
  have e : n = 2 * u.d.kl.length := by have := L.n2; omega
  subst e
  have b1 := L.b1
  have s := L.s
  rw [stT_end] at b1 s
  exact ⟨rfl, _, rfl, L.b0, b1, s, L.f, L.b⟩
attribute [local irreducible] tcs thc ccs zT
attribute [local go_sem ↓] alTn_is alRn_is alMo_is
attribute [local go_sem] run_alTnf run_alTnt run_alRnf run_alRnt run_alMof run_alMot zT_length
attribute [local go_sem ↓] lbTn_is lbRn_is lbMo_is lbTh_is lbRh_is lbCf_is lbRc_is sbTn_is sbRn_is sbMo_is sbTh_is sbRh_is sbCf_is sbRc_is
attribute [local go_sem] run_lbTn run_lbRn run_lbMo run_lbTh run_lbRh run_lbCf run_lbRc run_sbTn run_sbRn run_sbMo run_sbTh run_sbRh run_sbCf run_sbRc
attribute [local go_sem 2000] boxOf_old'
attribute [local go_sem] boxOf_at' boxOf_free' boxOf_alloc objBox_cells objBox_cellsA boxOf_drew boxOf_setI boxOf_setsI size_sets tcs_length thc_length ccs_length tcs_one thc_one ccs_one sub_tn sub_th sub_cf sub_thAll sub_cfAll put_turn put_thread
attribute [local go_sem] tc0 tc1 tc2 tc3 tc4 tc5 tc6 tc7 tc8 tc9 tc10 tc11 tc12 tc13 tc14 tc15 tc16 tc17 tc18 tc19 tc20 tc21 tc22 tc23 tc24 tc25 tc26 tc27 tc28 tc29 tc30 tc31 tc32 tc33 tc34 tc35 tc36 hc0 hc1 hc2 hc3 hc4 hc5 hc6 hc7 hc8 hc9 hc10 hc11 hc12 hc13 hc14 hc15 hc16 kc0 kc1 kc2 kc3 kc4 kc5 kc6 kc7 kc8 kc9 kc10 kc11 tg0 tg1 tg2 tg3 tg4 tg5 tg6 tg7 tg8 tg9 tg10 tg11 tg12 tg13 tg14 tg15 tg16 tg17 tg18 tg19 tg20 tg21 tg22 tg23 tg24 tg25 tg26 tg27 tg28 tg29 tg30 tg31 tg32 tg33 tg34 tg35 tg36 hg0 hg1 hg2 hg3 hg4 hg5 hg6 hg7 hg8 hg9 hg10 hg11 hg12 hg13 hg14 hg15 hg16 kg0 kg1 kg2 kg3 kg4 kg5 kg6 kg7 kg8 kg9 kg10 kg11
attribute [local go_sem] ts12 ts13 ts14 ts16 ts17 ts18 ts19 ts20 ts21 ts22 ts23 ts24 ts25 ts26 ts27 ts28 ts29 ts30 ts31 ts32 ts33 ts34 ts35 ts36 ts15 hs0 hs1 hs2 hs3 hs7 hs8 hs9 hs10 hs11 hs12 hs13 hs14 hs15 hs16

attribute [local irreducible] zC zH
attribute [local go_sem ↓] alCf_is alRc_is alTh_is
attribute [local go_sem] run_alCf run_alRc run_alTh zC_length zH_length put_conf put_thrd
set_option maxRecDepth 100000 in
set_option maxHeartbeats 16000000 in
theorem tells_walk (u : Tn) (a : TA) (w : World) (hi : TnIn w u a) : Calls Try.prog 4 #[.agg (tcs u a).toArray] w (BoolPost true w) := by
  have B1 : boxOf (w.alloc (.cells (tcs u a).toArray 38)) w.heap.size = some (tcs u a) := by simp [go_sem]
  have hB : Below w.heap.size w (w.alloc (.cells (tcs u a).toArray 38)) := belowN w _
  have hs : w.heap.size < (w.alloc (.cells (tcs u a).toArray 38)).heap.size := by simp
  go_enter Try.func4, Try.ntmps4
  go_wp2_with fail
  generalize (w.alloc (.cells (tcs u a).toArray 38)) = wz at *
  refine (big_tn u a _ (hi.m.later hB)).mono ?_
  rintro e w1 ⟨r, rfl, hr, hb1⟩
  replace B1 := boxOf_keep B1 hb1
  replace hB := below_next hB hB.size hb1
  replace hs := Nat.lt_of_lt_of_le hs hb1.size
  clear hb1
  cases r with
  | true =>
    go_wp2_with (go_at_call 10; refine (shown_any _).mono ?_; rintro e ws ⟨rfl, hbs⟩; replace hB := below_next hB hB.size hbs; clear hbs)
    go_ret
    exact ⟨ret_b (by simp), hB⟩
  | false =>
  have sm := hide (hr rfl)
  clear hr
  go_wp2_with fail
  refine (may_any u a _).mono ?_
  rintro e w2 ⟨r, rfl, hr, hb1⟩
  replace B1 := boxOf_keep B1 hb1
  replace hB := below_next hB hB.size hb1
  replace hs := Nat.lt_of_lt_of_le hs hb1.size
  clear hb1
  cases r with
  | false =>
    go_wp2_with (go_at_call 10; refine (shown_any _).mono ?_; rintro e ws ⟨rfl, hbs⟩; replace hB := below_next hB hB.size hbs; clear hbs)
    go_ret
    exact ⟨ret_b (by simp), hB⟩
  | true =>
  have my := hide (hr rfl)
  clear hr
  have h := hide (hi.at sm.out)
  have o := hide (hi.ok sm.out my.out)
  have cap := hide hi.cap
  clear hi
  go_wp2_with fail
  refine (shown_any _).mono ?_
  rintro e w3 ⟨rfl, hb1⟩
  replace B1 := boxOf_keep B1 hb1
  replace hB := below_next hB hB.size hb1
  replace hs := Nat.lt_of_lt_of_le hs hb1.size
  clear hb1
  by_cases hK0 : 0 < u.d.kl.length
  · obtain ⟨kb, ko, _, _, e1, _⟩ := h.out.th.k.kid hK0
    obtain ⟨mA, mc, mB, md, bs, ⟨bA, bc, kA, kc, hA, hc⟩, tA, tc, lA, lc⟩ := a
    change kA = some ⟨kb, ko, none⟩ at e1
    subst e1
    have HK0 := hide hK0
    clear hK0
    have hD := hide (h.out.later hB)
    have hk20 := o.out.k
    go_wp2_with fail
    go_loopw [3] (fun i wr => ∃ j : Nat, j ≤ u.d.kl.length ∧ i = .int .i64 j ∧ (∀ q, q < j → 0 ≤ (kidI u q).1 ∧ (kidI u q).1 < u.c.x0) ∧ ∃ q, wr = w3.drewN q) (fun i _ => u.d.kl.length - (intOf i).toNat)
    case atStart => exact ⟨0, Nat.zero_le _, rfl, fun q hq => absurd hq (Nat.not_lt_zero _), 0, rfl⟩
    case round =>
      obtain ⟨j, hj, rfl, hin, qn, rfl⟩ := hrel
      have HIN := hide hin
      clear hin
      have j0 : (0 : Int) ≤ (j : Int) := Int.natCast_nonneg _
      by_cases hlt : j < u.d.kl.length
      · obtain ⟨b, off, kt, kg, e1, _, he, f1, f2⟩ := hD.out.th.k.kid hlt
        change some (⟨kb, ko, none⟩ : Addr) = some ⟨b, off, none⟩ at e1
        cases e1
        have HE : Hid (kidI u j = (kt, kg)) := hide (by simp [kidI, he])
        have j1 : (j : Int) < (u.d.kl.length : Int) := by omega
        clear he f2
        by_cases t0 : kt < 0
        · go_wp2_with fail
          go_quiet (fail)
          go_wp2
          go_ret
          exact ⟨ret_b (by simp), below_drewN (below_drewN hB _) _⟩
        · by_cases t1 : u.c.x0 ≤ kt
          · go_wp2_with fail
            go_quiet (fail)
            go_wp2
            go_ret
            exact ⟨ret_b (by simp), below_drewN (below_drewN hB _) _⟩
          · have t2 : ¬ u.c.x0 ≤ kt := t1
            go_wp2_with fail
            go_quiet (fail)
            go_wp2
            go_roundw
            case rel => exact ⟨j + 1, by omega, by go_num, fun q hq => (by
              rcases Nat.lt_or_ge q j with h | h
              · exact HIN.out q h
              · obtain rfl : q = j := by omega
                rw [HE.out]; exact ⟨by omega, by omega⟩), _, rfl⟩
            case measure => simp [intOf]; omega
      · obtain rfl : j = u.d.kl.length := by omega
        have K := hide (my.out.kids o.out HIN.out)
        have C1 : boxOf (w3.drewN qn) w.heap.size = some (tcs u (⟨mA, mc, mB, md, bs, ⟨bA, bc, some ⟨kb, ko, none⟩, kc, hA, hc⟩, tA, tc, lA, lc⟩ : TA)) := by rw [boxOf_drewN]; exact B1
        have hC := below_drewN hB qn
        have hs3 : w.heap.size < (w3.drewN qn).heap.size := boxOf_lt C1
        clear HIN B1 hB hs hD j0 hlt hj
        generalize w3.drewN qn = wl at *
        go_wp2_with fail
        have D1 : boxOf ((wl.setCell ⟨w.heap.size, 25, none⟩ (.int .i64 0)).setCell ⟨w.heap.size, 36, none⟩ (.bool false)) w.heap.size = some (tcs { u with d := { u.d with pl := 0 }, dn := false } (⟨mA, mc, mB, md, bs, ⟨bA, bc, some ⟨kb, ko, none⟩, kc, hA, hc⟩, tA, tc, lA, lc⟩ : TA)) := by simp [go_sem, C1]
        replace hC : Below w.heap.size w ((wl.setCell ⟨w.heap.size, 25, none⟩ (.int .i64 0)).setCell ⟨w.heap.size, 36, none⟩ (.bool false)) := (hC.setCell (Nat.le_refl _) _).setCell (Nat.le_refl _) _
        clear C1 hs3
        generalize ((wl.setCell ⟨w.heap.size, 25, none⟩ (.int .i64 0)).setCell ⟨w.heap.size, 36, none⟩ (.bool false)) = y0 at *
        have T0 : TnAt y0 { u with d := { u.d with pl := 0 }, dn := false } (⟨mA, mc, mB, md, bs, ⟨bA, bc, some ⟨kb, ko, none⟩, kc, hA, hc⟩, tA, tc, lA, lc⟩ : TA) := ⟨(h.out.later hC).m, (h.out.later hC).bx, ⟨(h.out.later hC).th.b, (h.out.later hC).th.k, (h.out.later hC).th.h⟩, (h.out.later hC).tp, (h.out.later hC).lg⟩
        have hS := settle_any { u with d := { u.d with pl := 0 }, dn := false } (⟨mA, mc, mB, md, bs, ⟨bA, bc, some ⟨kb, ko, none⟩, kc, hA, hc⟩, tA, tc, lA, lc⟩ : TA) y0 T0
        rw [show setlV ({ u with d := { u.d with pl := 0 }, dn := false } : Tn) = stT u 0 from (stT_zero u).symm] at hS
        have S0 : Sees y0 y0.heap.size 1 mA (stT u 0).ws.length ((stT u 0).ws.map (Value.int .i64)) := by rw [show (stT u 0).ws = u.ws from by rw [stT_zero, setl_ws']; rfl]; exact T0.m.words
        have HS := hide hS
        have HS0 := hide S0
        clear T0 hS S0
        obtain ⟨v0, hv0⟩ : ∃ x, stT u 0 = x := ⟨_, rfl⟩
        rw [hv0] at HS HS0
        have HV0 := hide hv0
        clear hv0
        refine HS.out.mono ?_
        rintro e z1 ⟨rfl, hb1⟩
        replace D1 := boxOf_keep D1 hb1
        have E0 := hide (HS0.out.later hb1)
        replace hC := below_next hC hC.size hb1
        clear hb1 HS HS0
        have nb := belowY z1 v0 (⟨mA, mc, mB, md, bs, ⟨bA, bc, some ⟨kb, ko, none⟩, kc, hA, hc⟩, tA, tc, lA, lc⟩ : TA) 38
        have D2 := boxY z1 v0 (⟨mA, mc, mB, md, bs, ⟨bA, bc, some ⟨kb, ko, none⟩, kc, hA, hc⟩, tA, tc, lA, lc⟩ : TA) 38
        have kz := boxOf_lt D1
        replace D1 := boxOf_keep D1 nb
        replace E0 := hide (E0.out.later nb)
        replace hC := below_next hC hC.size nb
        clear nb
        go_wp2_with fail
        generalize ((z1.alloc (.cells zT.toArray 38)).setCells z1.heap.size 0 (tcs v0 (⟨mA, mc, mB, md, bs, ⟨bA, bc, some ⟨kb, ko, none⟩, kc, hA, hc⟩, tA, tc, lA, lc⟩ : TA))) = y2 at *
        generalize z1.heap.size = k1 at *
        rw [← HV0.out] at D2 E0
        have L0 : LpAt w k1 u (⟨mA, mc, mB, md, bs, ⟨bA, bc, some ⟨kb, ko, none⟩, kc, hA, hc⟩, tA, tc, lA, lc⟩ : TA) 0 mA mc y2 := ⟨Nat.zero_le _, D1, D2, E0.out, fun hn p hp => by have := h.out.m.words.block_lt hn p hp; omega, kz, hC⟩
        clear D1 D2 E0 HV0 hC kz
        have HL0 := hide L0
        clear L0
        go_loopw [5] (fun i wr => ∃ (n : Nat) (A : Option Addr) (c : Nat), i = .int .i64 n ∧ Hid (LpAt w k1 u (⟨mA, mc, mB, md, bs, ⟨bA, bc, some ⟨kb, ko, none⟩, kc, hA, hc⟩, tA, tc, lA, lc⟩ : TA) n A c wr)) (fun i _ => 2 * u.d.kl.length - (intOf i).toNat)
        case atStart => exact ⟨0, mA, mc, rfl, HL0⟩
        case round =>
          clear HL0
          obtain ⟨n, A, c, rfl, hL⟩ := hrel
          have C0 := hL.out.b0
          have C1 := hL.out.b1
          by_cases hlt : n < 2 * u.d.kl.length
          · have hX := hL.out.round K.out h.out o.out cap.out hlt
            obtain ⟨v, v', hv, hv', hdn, S1⟩ := hX
            have HS1 := hide S1
            have HV := hide (And.intro hv hv')
            change boxOf wr k1 = some (tcs (stT u n) (⟨A, c, mB, md, bs, ⟨bA, bc, some ⟨kb, ko, none⟩, kc, hA, hc⟩, tA, tc, lA, lc⟩ : TA)) at C1
            rw [hv] at C1
            clear S1 hv hv'
            have n0 : (0 : Int) ≤ (n : Int) := Int.natCast_nonneg _
            have n1 : (n : Int) < 100 := by omega
            go_wp2_with fail
            refine HS1.out.mono ?_
            rintro e w6 ⟨A', c', rfl, s2, hor, hb1⟩
            replace C0 := boxOf_keep C0 hb1
            replace C1 := boxOf_keep C1 hb1
            have HN := hide (hL.out.next (A' := A') (c' := c') K.out hlt HV.out.1 HV.out.2 s2 hor hb1)
            have m1 : ¬ w6.heap.size = k1 := by have := boxOf_lt C1; omega
            have m2 : ¬ k1 = w6.heap.size := by omega
            clear HS1 s2 hor hb1
            go_wp2
            go_roundw
            case rel => exact ⟨n + 1, A', c', by go_num, HN⟩
            case measure => simp [intOf]; omega
          · have hn := hL.out.fin (by omega)
            obtain ⟨hnl, tw, htw, hb0, hb1, hsw, hfw, hcw⟩ := hn
            have HTW := hide htw
            have HTL : Hid (tw.length = u.ws.length) := hide (by rw [← htw]; exact toldW_length u _)
            obtain ⟨b2, o2, eA, hb2, cA⟩ := hsw.2 (by have := K.out.w; have := K.out.z; have := my.out.t0; have := my.out.t1; have := HTL.out; omega)
            subst eA
            have HSW := hide hsw
            have D0 := hb0
            have D1 : boxOf wr k1 = some (tcs { u with ws := tw, d := { u.d with ph := 0, pl := (u.d.kl.length : Int) }, dn := true } (⟨some ⟨b2, o2, none⟩, c, mB, md, bs, ⟨bA, bc, some ⟨kb, ko, none⟩, kc, hA, hc⟩, tA, tc, lA, lc⟩ : TA)) := hb1
            have hbw := hcw
            have nw := (two_wrap hnl hk20).1
            have nw2 := (two_wrap hnl hk20).2
            have bw : ((tw.length : Int) != (u.ws.length : Int)) = false := by rw [HTL.out]; simp
            clear hb0 hb1 hsw hfw hcw hL C0 C1 htw hb2 cA hlt
            have HNL := hide hnl
            clear hnl
            go_wp2_with (go_at_call 17; refine (busy_tl { u.d with ph := 0, pl := (u.d.kl.length : Int) } ⟨bA, bc, some ⟨kb, ko, none⟩, kc, hA, hc⟩ _).mono ?_; rintro e w5 ⟨rfl, hb5⟩; have F0 := boxOf_keep D0 hb5; have F1 := boxOf_keep D1 hb5)
            have HW5 := hide (HSW.out.later hb5)
            have hB5 := below_next hbw hbw.size hb5
            have HD5 := hide (h.out.later hB5)
            clear D0 D1 hbw hb5 HSW nw nw2 bw
            go_loopw [8] (fun i wr => ∃ j : Nat, j ≤ u.d.kl.length ∧ i = .int .i64 j ∧ Below w5.heap.size w5 wr) (fun i _ => u.d.kl.length - (intOf i).toNat)
            case atStart => exact ⟨0, Nat.zero_le _, rfl, Below.refl _ _⟩
            case round =>
              obtain ⟨j, hj, rfl, hbr⟩ := hrel
              have G0 := boxOf_keep F0 hbr
              have G1 := boxOf_keep F1 hbr
              by_cases hlt : j < u.d.kl.length
              · obtain ⟨b, off, kt, kg, e1, _, he, f1, f2⟩ := (HD5.out.later hbr).th.k.kid hlt
                change some (⟨kb, ko, none⟩ : Addr) = some ⟨b, off, none⟩ at e1
                cases e1
                have HE : Hid (kidI u j = (kt, kg)) := hide (by simp [kidI, he])
                have j0 : (0 : Int) ≤ (j : Int) := Int.natCast_nonneg _
                have j1 : (j : Int) < (u.d.kl.length : Int) := by omega
                have hd4 : decide ((j : Int) < (u.d.kl.length : Int)) = true := by simpa using hlt
                obtain ⟨jq, hjq⟩ : ∃ q : Nat, q = j + 1 := ⟨_, rfl⟩
                have jwi : I64 ((j : Int) + 1) := by unfold I64; omega
                have jw : wrap64 ((j : Int) + 1) = (jq : Int) := (wrap64_id jwi).trans (by omega)
                have HJQ := hide hjq
                have HJ := hide (And.intro hj hlt)
                have HBR := hide hbr
                clear he hj hlt hjq hbr jwi
                go_wp2_with fail
                have B9 : boxOf (wr.alloc (.cells #[.int .i64 kt, .int .i64 kg] 63)) wr.heap.size = some [.int .i64 kt, .int .i64 kg] := by simp [go_sem]
                have nb9 : Below wr.heap.size wr (wr.alloc (.cells #[.int .i64 kt, .int .i64 kg] 63)) := belowN wr _
                have H0 := boxOf_keep G0 nb9
                have H1 := boxOf_keep G1 nb9
                have hbk := below_next HBR.out HBR.out.size nb9
                clear G0 G1 nb9 f1 f2 jw
                generalize (wr.alloc (.cells #[.int .i64 kt, .int .i64 kg] 63)) = wk at *
                generalize wr.heap.size = g9 at *
                have HDK := hide (HD5.out.later hbk)
                generalize wr = wo at *
                go_loopw [10, 11] (fun l i wr => ∃ (q : Nat) (lb : Bool), j + 1 ≤ q ∧ q ≤ u.d.kl.length ∧ l = .bool lb ∧ i = .int .i64 q ∧ (lb = true → ∀ x, j < x → x < q → (kidI u x).1 ≠ kt) ∧ ∃ q, wr = wk.drewN q) (fun _ i _ => u.d.kl.length - (intOf i).toNat)
                case atStart => exact ⟨jq, true, by have := HJQ.out; omega, by have := HJQ.out; have := HJ.out; omega, rfl, by rw [show ((jq : Nat) : Int) = (j : Int) + 1 by have := HJQ.out; omega], fun _ x h1 h2 => by have := HJQ.out; omega, 0, rfl⟩
                case round =>
                  obtain ⟨q, lb, hq1, hq2, rfl, rfl, hlb, qm, rfl⟩ := hrel
                  have HLB := hide hlb
                  have q0 : (0 : Int) ≤ (q : Int) := Int.natCast_nonneg _
                  clear hlb
                  by_cases hql : q < u.d.kl.length
                  · obtain ⟨b, off, xt, xg, e1, _, he, f1, f2⟩ := HDK.out.th.k.kid hql
                    change some (⟨kb, ko, none⟩ : Addr) = some ⟨b, off, none⟩ at e1
                    cases e1
                    have HX : Hid ((kidI u q).1 = xt) := hide (by simp [kidI, he])
                    have q1 : (q : Int) < (u.d.kl.length : Int) := by omega
                    clear he f2
                    cases lb with
                    | false =>
                      go_wp2_with fail
                      go_quiet (fail)
                      go_wp2
                      go_roundw
                      case rel => exact ⟨q + 1, false, by omega, by omega, rfl, by go_num, fun h => (by cases h), _, rfl⟩
                      case measure => simp [intOf]; omega
                    | true =>
                      by_cases hx : xt = kt
                      · have bn : (xt != kt) = false := by simp [hx]
                        clear hx
                        go_wp2_with fail
                        go_quiet (fail)
                        go_wp2
                        go_roundw
                        case rel => exact ⟨q + 1, false, by omega, by omega, rfl, by go_num, fun h => (by cases h), _, rfl⟩
                        case measure => simp [intOf]; omega
                      · have bn : (xt != kt) = true := bne_iff_ne.2 hx
                        have HXK := hide hx
                        clear hx
                        go_wp2_with fail
                        go_quiet (fail)
                        go_wp2
                        go_roundw
                        case rel => exact ⟨q + 1, true, by omega, by omega, rfl, by go_num, fun _ x h1 h2 => (by
                          rcases Nat.lt_or_ge x q with h | h
                          · exact HLB.out (by trivial) x h1 h
                          · obtain rfl : x = q := by omega
                            rw [HX.out]; exact HXK.out), _, rfl⟩
                        case measure => simp [intOf]; omega
                  · obtain rfl : q = u.d.kl.length := by omega
                    clear q0 hq1 hq2 hql
                    have I0 : boxOf (wk.drewN qm) w.heap.size = some (tcs { u with d := { u.d with pl := 0 }, dn := false } (⟨mA, mc, mB, md, bs, ⟨bA, bc, some ⟨kb, ko, none⟩, kc, hA, hc⟩, tA, tc, lA, lc⟩ : TA)) := by rw [boxOf_drewN]; exact H0
                    have I1 : boxOf (wk.drewN qm) k1 = some (tcs { u with ws := tw, d := { u.d with ph := 0, pl := (u.d.kl.length : Int) }, dn := true } (⟨some ⟨b2, o2, none⟩, c, mB, md, bs, ⟨bA, bc, some ⟨kb, ko, none⟩, kc, hA, hc⟩, tA, tc, lA, lc⟩ : TA)) := by rw [boxOf_drewN]; exact H1
                    have I9 : boxOf (wk.drewN qm) g9 = some [.int .i64 kt, .int .i64 kg] := by rw [boxOf_drewN]; exact B9
                    have hbm := below_drewN hbk qm
                    clear H0 H1 B9 hbk HDK
                    generalize wk.drewN qm = wk at *
                    have HDM := hide (HD5.out.later hbm)
                    have HWM := hide (HW5.out.later hbm)
                    obtain ⟨xv, hxv⟩ : ∃ x, getI u (kt, kg) = x := ⟨_, rfl⟩
                    have hgx : allV (u.d.bl.take (upN kg u.d.bl.length)) u.d.x u.c.x9 u.c.x10 = xv := hxv
                    have HXV := hide hxv
                    clear hxv
                    have KI := hide (kidI_i64 o.out HJ.out.2)
                    rw [HE.out] at KI
                    have KE := hide (fun W hs => ents_any bA bc u.d.bl u.d.bl.length rfl (by have := o.out.b; omega) W hs)
                    have KU := hide (fun Ae ce W hs => rupto_any Ae ce u.d.bl u.d.bl.length rfl (by have := o.out.b; omega) kg W hs)
                    have KA := hide (fun Au cu W hs => rall_any Au cu (u.d.bl.take (upN kg u.d.bl.length)) (upN kg u.d.bl.length) (by have := upN_le kg u.d.bl.length; simp; omega) (by have := o.out.b; have := upN_le kg u.d.bl.length; omega) u.d.x u.c.x9 u.c.x10 (o.out.f.n _ (by simp [Dt.nums])) o.out.lo o.out.hi (o.out.f.b.take _) W hs)
                    rw [hgx] at KA
                    clear hgx
                    generalize upN kg u.d.bl.length = nu at *
                    have Z : boxOf wk.drew w.heap.size = some (tcs { u with d := { u.d with pl := 0 }, dn := false } (⟨mA, mc, mB, md, bs, ⟨bA, bc, some ⟨kb, ko, none⟩, kc, hA, hc⟩, tA, tc, lA, lc⟩ : TA)) ∧ boxOf wk.drew k1 = some (tcs { u with ws := tw, d := { u.d with ph := 0, pl := (u.d.kl.length : Int) }, dn := true } (⟨some ⟨b2, o2, none⟩, c, mB, md, bs, ⟨bA, bc, some ⟨kb, ko, none⟩, kc, hA, hc⟩, tA, tc, lA, lc⟩ : TA)) ∧ boxOf wk.drew g9 = some [.int .i64 kt, .int .i64 kg] ∧ Below wk.heap.size wk wk.drew := ⟨by rw [boxOf_drew]; exact I0, by rw [boxOf_drew]; exact I1, by rw [boxOf_drew]; exact I9, (Below.refl _ _).drew⟩
                    go_wp2_with fail
                    go_region_held3 (fun w' => boxOf w' w.heap.size = some (tcs { u with d := { u.d with pl := 0 }, dn := false } (⟨mA, mc, mB, md, bs, ⟨bA, bc, some ⟨kb, ko, none⟩, kc, hA, hc⟩, tA, tc, lA, lc⟩ : TA)) ∧ boxOf w' k1 = some (tcs { u with ws := tw, d := { u.d with ph := 0, pl := (u.d.kl.length : Int) }, dn := true } (⟨some ⟨b2, o2, none⟩, c, mB, md, bs, ⟨bA, bc, some ⟨kb, ko, none⟩, kc, hA, hc⟩, tA, tc, lA, lc⟩ : TA)) ∧ boxOf w' g9 = some [.int .i64 kt, .int .i64 kg] ∧ Below wk.heap.size wk w')
                      (first | (with_reducible exact Z) | (with_reducible exact Z3) | (with_reducible exact Z2) | (with_reducible exact Z1))
                      (first
                        | (go_at_call 20; refine (KE.out _ (HDM.out.th.b.later (And.right (And.right (And.right Z))))).mono ?_; rintro e x1 ⟨Ae, ce, rfl, _, hse, _, hx1⟩; have Z1 : boxOf x1 w.heap.size = some (tcs { u with d := { u.d with pl := 0 }, dn := false } (⟨mA, mc, mB, md, bs, ⟨bA, bc, some ⟨kb, ko, none⟩, kc, hA, hc⟩, tA, tc, lA, lc⟩ : TA)) ∧ boxOf x1 k1 = some (tcs { u with ws := tw, d := { u.d with ph := 0, pl := (u.d.kl.length : Int) }, dn := true } (⟨some ⟨b2, o2, none⟩, c, mB, md, bs, ⟨bA, bc, some ⟨kb, ko, none⟩, kc, hA, hc⟩, tA, tc, lA, lc⟩ : TA)) ∧ boxOf x1 g9 = some [.int .i64 kt, .int .i64 kg] ∧ Below wk.heap.size wk x1 := keepE Z hx1)
                        | (go_at_call 19; refine (KU.out Ae ce _ hse).mono ?_; rintro e x2 ⟨Au, cu, rfl, _, hsu, hx2⟩; have Z2 : boxOf x2 w.heap.size = some (tcs { u with d := { u.d with pl := 0 }, dn := false } (⟨mA, mc, mB, md, bs, ⟨bA, bc, some ⟨kb, ko, none⟩, kc, hA, hc⟩, tA, tc, lA, lc⟩ : TA)) ∧ boxOf x2 k1 = some (tcs { u with ws := tw, d := { u.d with ph := 0, pl := (u.d.kl.length : Int) }, dn := true } (⟨some ⟨b2, o2, none⟩, c, mB, md, bs, ⟨bA, bc, some ⟨kb, ko, none⟩, kc, hA, hc⟩, tA, tc, lA, lc⟩ : TA)) ∧ boxOf x2 g9 = some [.int .i64 kt, .int .i64 kg] ∧ Below wk.heap.size wk x2 := keepE Z1 hx2)
                        | (go_at_call 18; refine (KA.out Au cu _ hsu).mono ?_; rintro e x3 ⟨rfl, hx3⟩; have Z3 : boxOf x3 w.heap.size = some (tcs { u with d := { u.d with pl := 0 }, dn := false } (⟨mA, mc, mB, md, bs, ⟨bA, bc, some ⟨kb, ko, none⟩, kc, hA, hc⟩, tA, tc, lA, lc⟩ : TA)) ∧ boxOf x3 k1 = some (tcs { u with ws := tw, d := { u.d with ph := 0, pl := (u.d.kl.length : Int) }, dn := true } (⟨some ⟨b2, o2, none⟩, c, mB, md, bs, ⟨bA, bc, some ⟨kb, ko, none⟩, kc, hA, hc⟩, tA, tc, lA, lc⟩ : TA)) ∧ boxOf x3 g9 = some [.int .i64 kt, .int .i64 kg] ∧ Below wk.heap.size wk x3 := keepE Z2 hx3))
                    obtain ⟨J0, J1, J9, hbx⟩ := Z3
                    clear Z Z1 Z2 hx1 hx2 hx3 hse hsu I0 I1 I9 KE KU KA
                    have hk := K.out.k j HJ.out.2
                    rw [HE.out] at hk
                    have hk' : 0 ≤ kt ∧ kt < u.c.x0 := hk
                    obtain ⟨KN, hKN, hKN1⟩ : ∃ N : Nat, lnV u.c kt = (N : Int) ∧ N + 1 < tw.length := by
                      have h1 := K.out.ln hk'.1 hk'.2
                      have h2 := K.out.w
                      have h3 := K.out.z
                      have h4 := HTL.out
                      exact ⟨(lnV u.c kt).toNat, by omega, by omega⟩
                    have HQ := hide (rline_tn u.c o.out.c kt KI.out.1)
                    rw [hKN] at HQ
                    go_wp2_with (go_at_call 21; refine (HQ.out _).mono ?_; rintro e x4 ⟨rfl, hx4⟩; have L0 := boxOf_keep J0 hx4; have L1 := boxOf_keep J1 hx4; have L9 := boxOf_keep J9 hx4)
                    have hbz := below_next (below_next hbm hbm.size hbx) (below_next hbm hbm.size hbx).size hx4
                    have HWZ := HW5.out.later hbz
                    obtain ⟨b, off, eA, _, cA⟩ := HWZ.2 (by omega)
                    change some (⟨b2, o2, none⟩ : Addr) = some ⟨b, off, none⟩ at eA
                    cases eA
                    have g5 : tw[KN]? = some 5 := by
                      have h1 := told_line K.out HJ.out.2 _ HJ.out.2 (Nat.le_refl _)
                      rw [HTW.out, HE.out, show lnV u.c ((kt, kg) : Int × Int).1 = (KN : Int) from hKN] at h1
                      rw [List.getElem?_eq_getElem (by omega)]
                      rw [ldV_at (List.getElem?_eq_getElem (by omega))] at h1
                      rw [h1]
                    have c5 := cA KN (.int .i64 5) (by simp [g5])
                    obtain ⟨K2, hK2⟩ : ∃ N : Nat, N = KN + 1 := ⟨_, rfl⟩
                    have kq : (KN : Int) + 1 = (K2 : Int) := by omega
                    have k0 : (0 : Int) ≤ (KN : Int) := Int.natCast_nonneg _
                    have kk1 : (KN : Int) < (tw.length : Int) := by omega
                    have k2 : (0 : Int) ≤ (K2 : Int) := Int.natCast_nonneg _
                    have k3 : (K2 : Int) < (tw.length : Int) := by omega
                    have hpp : (xv == xv) = true := by simp
                    have hpq : (xv != xv) = false := by simp
                    have Q1 := hide (fun d os => Calls.regrown_of (w := x4) (told_any (grow (redrawn x4 d) os)))
                    have R1 := fun d os => boxOf_keep L1 (below_regrown x4 d os)
                    have r5 := cell_regrown c5
                    have k20 : K2 ≤ 20000 := by have := h.out.m.few; have := HTL.out; omega
                    cases lb with
                    | false =>
                      have HK2 := hide hK2
                      have hkw := hide (wrap_small k20)
                      clear k20 hK2 cA g5 c5 HWZ J0 J1 J9
                      obtain ⟨kw, kv⟩ := hkw.out
                      clear hkw
                      refine wp_region_quiet_below (by kernel_rfl) (by kernel_rfl) ?_
                      repeat (go_big_quiet_step (first | (go_at_call 22; exact Q1.out _ _)))
                      refine wpQuiet_nil ?_
                      intro _ hw'
                      obtain ⟨⟨dq, osq⟩, hw''⟩ := hw'
                      subst hw''
                      have hbf := below_next hbz hbz.size (below_regrown x4 dq osq)
                      clear R1 r5 Q1 kq kw kv
                      generalize grow (redrawn x4 dq) osq = x5 at *
                      go_wp2
                      go_roundw
                      case rel => exact ⟨j + 1, by have := HJ.out; omega, by go_num, hbf⟩
                      case measure => have := HJ.out; simp [intOf]; omega
                    | true =>
                      have gx : tw[K2]? = some xv := by
                        have h1 := told_res K.out HJ.out.2 _ HJ.out.2 (Nat.le_refl _) (fun x h1 h2 => by rw [HE.out]; exact HLB.out (by trivial) x h1 h2)
                        rw [HTW.out, HE.out, show rsV u.c ((kt, kg) : Int × Int).1 = (K2 : Int) from (by
                          have h1 := K.out.ln hk'.1 hk'.2
                          have h2 := K.out.rs hk'.1 hk'.2
                          show rsV u.c kt = _; omega), HXV.out] at h1
                        rw [List.getElem?_eq_getElem (by omega)]
                        rw [ldV_at (List.getElem?_eq_getElem (by omega))] at h1
                        rw [h1]
                      have cx := cA K2 (.int .i64 xv) (by simp [gx])
                      have rx := cell_regrown cx
                      have HK2 := hide hK2
                      have hkw := hide (wrap_small k20)
                      clear k20 hK2 cA g5 gx c5 cx HWZ J0 J1 J9
                      obtain ⟨kw, kv⟩ := hkw.out
                      clear hkw
                      refine wp_region_quiet_below (by kernel_rfl) (by kernel_rfl) ?_
                      repeat (go_big_quiet_step (first | (go_at_call 22; exact Q1.out _ _)))
                      refine wpQuiet_nil ?_
                      intro _ hw'
                      obtain ⟨⟨dq, osq⟩, hw''⟩ := hw'
                      subst hw''
                      have hbf := below_next hbz hbz.size (below_regrown x4 dq osq)
                      clear R1 r5 rx Q1 kq kw kv
                      generalize grow (redrawn x4 dq) osq = x5 at *
                      go_wp2
                      go_roundw
                      case rel => exact ⟨j + 1, by have := HJ.out; omega, by go_num, hbf⟩
                      case measure => have := HJ.out; simp [intOf]; omega
              · obtain rfl : j = u.d.kl.length := by omega
                go_wp2
                go_ret
                exact ⟨ret_b (by simp), below_next hB5 hB5.size hbr⟩
  · obtain ⟨mA, mc, mB, md, bs, ⟨bA, bc, kA, kc, hA, hc⟩, tA, tc, lA, lc⟩ := a
    have HK0 := hide hK0
    clear hK0
    have hD := hide (h.out.later hB)
    have hk20 := o.out.k
    go_wp2_with fail
    go_loopw [3] (fun i wr => ∃ j : Nat, j ≤ u.d.kl.length ∧ i = .int .i64 j ∧ (∀ q, q < j → 0 ≤ (kidI u q).1 ∧ (kidI u q).1 < u.c.x0) ∧ ∃ q, wr = w3.drewN q) (fun i _ => u.d.kl.length - (intOf i).toNat)
    case atStart => exact ⟨0, Nat.zero_le _, rfl, fun q hq => absurd hq (Nat.not_lt_zero _), 0, rfl⟩
    case round =>
      obtain ⟨j, hj, rfl, hin, qn, rfl⟩ := hrel
      have HIN := hide hin
      clear hin
      have j0 : (0 : Int) ≤ (j : Int) := Int.natCast_nonneg _
      by_cases hlt : j < u.d.kl.length
      · exact absurd hlt (by have := HK0.out; omega)
      · obtain rfl : j = u.d.kl.length := by omega
        have K := hide (my.out.kids o.out HIN.out)
        have C1 : boxOf (w3.drewN qn) w.heap.size = some (tcs u (⟨mA, mc, mB, md, bs, ⟨bA, bc, kA, kc, hA, hc⟩, tA, tc, lA, lc⟩ : TA)) := by rw [boxOf_drewN]; exact B1
        have hC := below_drewN hB qn
        have hs3 : w.heap.size < (w3.drewN qn).heap.size := boxOf_lt C1
        clear HIN B1 hB hs hD j0 hlt hj
        generalize w3.drewN qn = wl at *
        go_wp2_with fail
        have D1 : boxOf ((wl.setCell ⟨w.heap.size, 25, none⟩ (.int .i64 0)).setCell ⟨w.heap.size, 36, none⟩ (.bool false)) w.heap.size = some (tcs { u with d := { u.d with pl := 0 }, dn := false } (⟨mA, mc, mB, md, bs, ⟨bA, bc, kA, kc, hA, hc⟩, tA, tc, lA, lc⟩ : TA)) := by simp [go_sem, C1]
        replace hC : Below w.heap.size w ((wl.setCell ⟨w.heap.size, 25, none⟩ (.int .i64 0)).setCell ⟨w.heap.size, 36, none⟩ (.bool false)) := (hC.setCell (Nat.le_refl _) _).setCell (Nat.le_refl _) _
        clear C1 hs3
        generalize ((wl.setCell ⟨w.heap.size, 25, none⟩ (.int .i64 0)).setCell ⟨w.heap.size, 36, none⟩ (.bool false)) = y0 at *
        have T0 : TnAt y0 { u with d := { u.d with pl := 0 }, dn := false } (⟨mA, mc, mB, md, bs, ⟨bA, bc, kA, kc, hA, hc⟩, tA, tc, lA, lc⟩ : TA) := ⟨(h.out.later hC).m, (h.out.later hC).bx, ⟨(h.out.later hC).th.b, (h.out.later hC).th.k, (h.out.later hC).th.h⟩, (h.out.later hC).tp, (h.out.later hC).lg⟩
        have hS := settle_any { u with d := { u.d with pl := 0 }, dn := false } (⟨mA, mc, mB, md, bs, ⟨bA, bc, kA, kc, hA, hc⟩, tA, tc, lA, lc⟩ : TA) y0 T0
        rw [show setlV ({ u with d := { u.d with pl := 0 }, dn := false } : Tn) = stT u 0 from (stT_zero u).symm] at hS
        have S0 : Sees y0 y0.heap.size 1 mA (stT u 0).ws.length ((stT u 0).ws.map (Value.int .i64)) := by rw [show (stT u 0).ws = u.ws from by rw [stT_zero, setl_ws']; rfl]; exact T0.m.words
        have HS := hide hS
        have HS0 := hide S0
        clear T0 hS S0
        obtain ⟨v0, hv0⟩ : ∃ x, stT u 0 = x := ⟨_, rfl⟩
        rw [hv0] at HS HS0
        have HV0 := hide hv0
        clear hv0
        refine HS.out.mono ?_
        rintro e z1 ⟨rfl, hb1⟩
        replace D1 := boxOf_keep D1 hb1
        have E0 := hide (HS0.out.later hb1)
        replace hC := below_next hC hC.size hb1
        clear hb1 HS HS0
        have nb := belowY z1 v0 (⟨mA, mc, mB, md, bs, ⟨bA, bc, kA, kc, hA, hc⟩, tA, tc, lA, lc⟩ : TA) 38
        have D2 := boxY z1 v0 (⟨mA, mc, mB, md, bs, ⟨bA, bc, kA, kc, hA, hc⟩, tA, tc, lA, lc⟩ : TA) 38
        have kz := boxOf_lt D1
        replace D1 := boxOf_keep D1 nb
        replace E0 := hide (E0.out.later nb)
        replace hC := below_next hC hC.size nb
        clear nb
        go_wp2_with fail
        generalize ((z1.alloc (.cells zT.toArray 38)).setCells z1.heap.size 0 (tcs v0 (⟨mA, mc, mB, md, bs, ⟨bA, bc, kA, kc, hA, hc⟩, tA, tc, lA, lc⟩ : TA))) = y2 at *
        generalize z1.heap.size = k1 at *
        rw [← HV0.out] at D2 E0
        have L0 : LpAt w k1 u (⟨mA, mc, mB, md, bs, ⟨bA, bc, kA, kc, hA, hc⟩, tA, tc, lA, lc⟩ : TA) 0 mA mc y2 := ⟨Nat.zero_le _, D1, D2, E0.out, fun hn p hp => by have := h.out.m.words.block_lt hn p hp; omega, kz, hC⟩
        clear D1 D2 E0 HV0 hC kz
        have HL0 := hide L0
        clear L0
        go_loopw [5] (fun i wr => ∃ (n : Nat) (A : Option Addr) (c : Nat), i = .int .i64 n ∧ Hid (LpAt w k1 u (⟨mA, mc, mB, md, bs, ⟨bA, bc, kA, kc, hA, hc⟩, tA, tc, lA, lc⟩ : TA) n A c wr)) (fun i _ => 2 * u.d.kl.length - (intOf i).toNat)
        case atStart => exact ⟨0, mA, mc, rfl, HL0⟩
        case round =>
          clear HL0
          obtain ⟨n, A, c, rfl, hL⟩ := hrel
          have C0 := hL.out.b0
          have C1 := hL.out.b1
          by_cases hlt : n < 2 * u.d.kl.length
          · have hX := hL.out.round K.out h.out o.out cap.out hlt
            obtain ⟨v, v', hv, hv', hdn, S1⟩ := hX
            have HS1 := hide S1
            have HV := hide (And.intro hv hv')
            change boxOf wr k1 = some (tcs (stT u n) (⟨A, c, mB, md, bs, ⟨bA, bc, kA, kc, hA, hc⟩, tA, tc, lA, lc⟩ : TA)) at C1
            rw [hv] at C1
            clear S1 hv hv'
            have n0 : (0 : Int) ≤ (n : Int) := Int.natCast_nonneg _
            have n1 : (n : Int) < 100 := by omega
            go_wp2_with fail
            refine HS1.out.mono ?_
            rintro e w6 ⟨A', c', rfl, s2, hor, hb1⟩
            replace C0 := boxOf_keep C0 hb1
            replace C1 := boxOf_keep C1 hb1
            have HN := hide (hL.out.next (A' := A') (c' := c') K.out hlt HV.out.1 HV.out.2 s2 hor hb1)
            have m1 : ¬ w6.heap.size = k1 := by have := boxOf_lt C1; omega
            have m2 : ¬ k1 = w6.heap.size := by omega
            clear HS1 s2 hor hb1
            go_wp2
            go_roundw
            case rel => exact ⟨n + 1, A', c', by go_num, HN⟩
            case measure => simp [intOf]; omega
          · have hn := hL.out.fin (by omega)
            obtain ⟨hnl, tw, htw, hb0, hb1, hsw, hfw, hcw⟩ := hn
            have HTW := hide htw
            have HTL : Hid (tw.length = u.ws.length) := hide (by rw [← htw]; exact toldW_length u _)
            obtain ⟨b2, o2, eA, hb2, cA⟩ := hsw.2 (by have := K.out.w; have := K.out.z; have := my.out.t0; have := my.out.t1; have := HTL.out; omega)
            subst eA
            have HSW := hide hsw
            have D0 := hb0
            have D1 : boxOf wr k1 = some (tcs { u with ws := tw, d := { u.d with ph := 0, pl := (u.d.kl.length : Int) }, dn := true } (⟨some ⟨b2, o2, none⟩, c, mB, md, bs, ⟨bA, bc, kA, kc, hA, hc⟩, tA, tc, lA, lc⟩ : TA)) := hb1
            have hbw := hcw
            have nw := (two_wrap hnl hk20).1
            have nw2 := (two_wrap hnl hk20).2
            have bw : ((tw.length : Int) != (u.ws.length : Int)) = false := by rw [HTL.out]; simp
            clear hb0 hb1 hsw hfw hcw hL C0 C1 htw hb2 cA hlt
            have HNL := hide hnl
            clear hnl
            go_wp2_with (go_at_call 17; refine (busy_tl { u.d with ph := 0, pl := (u.d.kl.length : Int) } ⟨bA, bc, kA, kc, hA, hc⟩ _).mono ?_; rintro e w5 ⟨rfl, hb5⟩; have F0 := boxOf_keep D0 hb5; have F1 := boxOf_keep D1 hb5)
            have HW5 := hide (HSW.out.later hb5)
            have hB5 := below_next hbw hbw.size hb5
            have HD5 := hide (h.out.later hB5)
            clear D0 D1 hbw hb5 HSW nw nw2 bw
            go_loopw [8] (fun i wr => ∃ j : Nat, j ≤ u.d.kl.length ∧ i = .int .i64 j ∧ Below w5.heap.size w5 wr) (fun i _ => u.d.kl.length - (intOf i).toNat)
            case atStart => exact ⟨0, Nat.zero_le _, rfl, Below.refl _ _⟩
            case round =>
              obtain ⟨j, hj, rfl, hbr⟩ := hrel
              have G0 := boxOf_keep F0 hbr
              have G1 := boxOf_keep F1 hbr
              by_cases hlt : j < u.d.kl.length
              · exact absurd hlt (by have := HK0.out; omega)
              · obtain rfl : j = u.d.kl.length := by omega
                go_wp2
                go_ret
                exact ⟨ret_b (by simp), below_next hB5 hB5.size hbr⟩
end Go.Proofs.Ytnmffjlfdnebnaa
