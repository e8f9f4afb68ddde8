/- The walk of CollideAlone. -/
import Derived.Test.YtjghdbkkjhnpfaaW15AloneP
import Derived.Test.YtjghdbkkjhnpfaaW15Base
import Derived.Test.YtjghdbkkjhnpfaaW15Slots
import Derived.Test.YtjghdbkkjhnpfaaM4
import Derived.Test.YtjghdbkkjhnpfaaM1
import Derived.Lib.QuietBelow
import Derived.Deep.QuietTactic
import Derived.BigQuiet
import Derived.Deep.RegionHeld3
import Derived.Deep.Cut
namespace Go.Proofs.Ytjghdbkkjhnpfaa
open Go.RowKit Go.Sort
set_option linter.unusedVariables false
set_option linter.unusedSimpArgs false

theorem keepQ {w W W' : World} {g gk b o b2 o2 : Nat} {cs ds : List Value} {v v2 : Value} (h : boxOf W g = some cs ∧ boxOf W gk = some ds ∧ W.cell? ⟨b, o, none⟩ = some v ∧ W.cell? ⟨b2, o2, none⟩ = some v2 ∧ Below w.heap.size w W) (hb : Below W.heap.size W W') : boxOf W' g = some cs ∧ boxOf W' gk = some ds ∧ W'.cell? ⟨b, o, none⟩ = some v ∧ W'.cell? ⟨b2, o2, none⟩ = some v2 ∧ Below w.heap.size w W' := ⟨boxOf_keep h.1 hb, boxOf_keep h.2.1 hb, cell_keep h.2.2.1 hb, cell_keep h.2.2.2.1 hb, below_next h.2.2.2.2 h.2.2.2.2.size hb⟩
theorem lea_facts {z : Tn} (hz : lateB z.d.un z.now = false) : (leaV z).ws = z.ws ∧ (leaV z).d.wd = wdV z.d.wd ∧ (z.d.ly < z.c.x4 → (leaV z).d.ph = 17 ∧ (leaV z).d.ly = wrap64 (z.d.ly + 1)) ∧ (¬ z.d.ly < z.c.x4 → (leaV z).d.ph = 2 ∧ (leaV z).d.ly = z.d.ly) := by
  unfold leaV onwV
  split
  · rename_i h; exact ⟨rfl, rfl, fun _ => ⟨rfl, rfl⟩, fun e => absurd h.1 e⟩
  · rename_i h; exact ⟨rfl, rfl, fun e => absurd ⟨e, hz⟩ h, fun _ => ⟨rfl, rfl⟩⟩
attribute [local irreducible] tcs thc ccs zT
attribute [local go_sem ↓] alTn_is alRn_is
attribute [local go_sem] run_alTnf run_alTnt run_alRnf run_alRnt zT_length
attribute [local go_sem ↓] lbTn_is lbRn_is lbTh_is lbRh_is lbCf_is lbRc_is sbTn_is sbRn_is sbTh_is sbRh_is sbCf_is sbRc_is
attribute [local go_sem] run_lbTn run_lbRn run_lbTh run_lbRh run_lbCf run_lbRc run_sbTn run_sbRn run_sbTh run_sbRh run_sbCf run_sbRc
attribute [local go_sem 2000] boxOf_old'
attribute [local go_sem] boxOf_at' boxOf_free' boxOf_alloc objBox_cells objBox_cellsA boxOf_drew boxOf_setI boxOf_setsI size_sets tcs_length thc_length ccs_length tcs_one thc_one ccs_one sub_tn sub_th sub_cf sub_thAll sub_cfAll put_turn put_thread
attribute [local go_sem] tc0 tc1 tc2 tc3 tc4 tc5 tc6 tc7 tc8 tc9 tc10 tc11 tc12 tc13 tc14 tc15 tc16 tc17 tc18 tc19 tc20 tc21 tc22 tc23 tc24 tc25 tc26 tc27 tc28 tc29 tc30 tc31 tc32 tc33 tc34 tc35 tc36 hc0 hc1 hc2 hc3 hc4 hc5 hc6 hc7 hc8 hc9 hc10 hc11 hc12 hc13 hc14 hc15 hc16 kc0 kc1 kc2 kc3 kc4 kc5 kc6 kc7 kc8 kc9 kc10 kc11 tg0 tg1 tg2 tg3 tg4 tg5 tg6 tg7 tg8 tg9 tg10 tg11 tg12 tg13 tg14 tg15 tg16 tg17 tg18 tg19 tg20 tg21 tg22 tg23 tg24 tg25 tg26 tg27 tg28 tg29 tg30 tg31 tg32 tg33 tg34 tg35 tg36 hg0 hg1 hg2 hg3 hg4 hg5 hg6 hg7 hg8 hg9 hg10 hg11 hg12 hg13 hg14 hg15 hg16 kg0 kg1 kg2 kg3 kg4 kg5 kg6 kg7 kg8 kg9 kg10 kg11
attribute [local go_sem] ts12 ts13 ts14 ts16 ts17 ts18 ts19 ts20 ts21 ts22 ts23 ts24 ts25 ts26 ts27 ts28 ts29 ts30 ts31 ts32 ts33 ts34 ts35 ts36 ts15 hs0 hs1 hs2 hs3 hs7 hs8 hs9 hs10 hs11 hs12 hs13 hs14 hs15 hs16

attribute [local irreducible] zC zH
attribute [local go_sem ↓] alCf_is alRc_is alTh_is
attribute [local go_sem] run_alCf run_alRc run_alTh zC_length zH_length put_conf put_thrd
set_option maxRecDepth 100000 in
set_option maxHeartbeats 4000000 in
theorem alone_walk (u : Tn) (a : TA) (hta0 : I64 u.ta) (w : World) (hi : TnIn w u a) : Calls Try.prog 3 #[.agg (tcs u a).toArray] w (BoolPost true w) := by
  have B1 : boxOf (((w.alloc (.cells (tcs u a).toArray 38)).alloc (.cells zC.toArray 39)).setCells (w.heap.size + 1) 0 (ccs u.c)) w.heap.size = some (tcs u a) := by simp [go_sem]
  have BC : boxOf (((w.alloc (.cells (tcs u a).toArray 38)).alloc (.cells zC.toArray 39)).setCells (w.heap.size + 1) 0 (ccs u.c)) (w.heap.size + 1) = some (ccs u.c) := by simp [go_sem]
  have hs : w.heap.size + 1 < (((w.alloc (.cells (tcs u a).toArray 38)).alloc (.cells zC.toArray 39)).setCells (w.heap.size + 1) 0 (ccs u.c)).heap.size := by simp [size_sets]
  have hB : Below w.heap.size w (((w.alloc (.cells (tcs u a).toArray 38)).alloc (.cells zC.toArray 39)).setCells (w.heap.size + 1) 0 (ccs u.c)) := below_sets _ (by omega) _ _ _ _ ((belowN w _).alloc (by simp) _)
  go_enter Try.func3, Try.ntmps3
  go_wp2_with fail
  generalize (((w.alloc (.cells (tcs u a).toArray 38)).alloc (.cells zC.toArray 39)).setCells (w.heap.size + 1) 0 (ccs u.c)) = wz at *
  refine (big_tn u a _ (hi.m.later hB)).mono ?_
  rintro e w1 ⟨r, rfl, hr, hb1⟩
  replace B1 := boxOf_keep B1 hb1
  replace BC := boxOf_keep BC hb1
  replace hs := Nat.lt_of_lt_of_le hs hb1.size
  replace hB := below_next hB hB.size hb1
  clear hb1
  cases r with
  | true =>
    go_wp2_with (go_at_call 11; refine (shown_any _).mono ?_; rintro e ws ⟨rfl, hbs⟩; replace hB := below_next hB hB.size hbs; clear hbs)
    go_ret
    exact ⟨ret_b (by simp), hB⟩
  | false =>
  have sm := hide (hr rfl)
  clear hr
  go_wp2_with fail
  refine (lay_any u a _).mono ?_
  rintro e w2 ⟨r, rfl, hr, hb1⟩
  replace B1 := boxOf_keep B1 hb1
  replace BC := boxOf_keep BC hb1
  replace hs := Nat.lt_of_lt_of_le hs hb1.size
  replace hB := below_next hB hB.size hb1
  clear hb1
  cases r with
  | false =>
    go_wp2_with (go_at_call 11; refine (shown_any _).mono ?_; rintro e ws ⟨rfl, hbs⟩; replace hB := below_next hB hB.size hbs; clear hbs)
    go_ret
    exact ⟨ret_b (by simp), hB⟩
  | true =>
  have my := hide (hr rfl).1
  have hly := (hr rfl).2
  clear hr
  have h := hide (hi.at sm.out)
  have o := hide (hi.ok sm.out my.out)
  have ht := tt_my my.out o.out.c
  have hit := it_my my.out
  have hx0 := o.out.c.h0
  have hta := hide hta0
  clear hi hta0
  by_cases hlx : u.d.ly ≤ u.c.x4
  case neg =>
    have hlx' : u.c.x4 < u.d.ly := by omega
    clear hlx
    go_wp2_with (go_at_call 11; refine (shown_any _).mono ?_; rintro e ws ⟨rfl, hbs⟩; replace hB := below_next hB hB.size hbs; clear hbs)
    go_ret
    exact ⟨ret_b (by simp), hB⟩
  by_cases hwd1 : 1 ≤ u.d.wd
  case neg =>
    have hwd1' : u.d.wd < 1 := by omega
    clear hwd1
    go_wp2_with (go_at_call 11; refine (shown_any _).mono ?_; rintro e ws ⟨rfl, hbs⟩; replace hB := below_next hB hB.size hbs; clear hbs)
    go_ret
    exact ⟨ret_b (by simp), hB⟩
  by_cases hwd2 : u.d.wd ≤ u.c.x5
  case neg =>
    have hwd2' : u.c.x5 < u.d.wd := by omega
    clear hwd2
    go_wp2_with (go_at_call 11; refine (shown_any _).mono ?_; rintro e ws ⟨rfl, hbs⟩; replace hB := below_next hB hB.size hbs; clear hbs)
    go_ret
    exact ⟨ret_b (by simp), hB⟩
  have dd1 : decide (u.c.x4 < u.d.ly) = false := decide_eq_false (by omega)
  have dd2 : decide (u.d.wd < 1) = false := decide_eq_false (by omega)
  have dd3 : decide (u.c.x5 < u.d.wd) = false := decide_eq_false (by omega)
  by_cases hun : u.d.un = 0
  case neg =>
    have hun' : (u.d.un != 0) = true := by simpa using hun
    clear hun
    go_wp2_with (go_at_call 11; refine (shown_any _).mono ?_; rintro e ws ⟨rfl, hbs⟩; replace hB := below_next hB hB.size hbs; clear hbs)
    go_ret
    exact ⟨ret_b (by simp), hB⟩
  have dd4 : (u.d.un != 0) = false := by simp [hun]
  obtain ⟨k, p, AH⟩ := al_h my.out (by rw [← h.out.bx]; simp [boxes]) hly.1 hlx hwd1 hwd2 hun ht.2
  have HA := hide AH
  have HKL := hide (show 0 < u.ws.length from by have := AH.kl; rw [slN_length] at this; omega)
  clear AH hun
  go_wp2_with fail
  refine (shown_any _).mono ?_
  rintro e w4 ⟨rfl, hb1⟩
  replace B1 := boxOf_keep B1 hb1
  replace BC := boxOf_keep BC hb1
  replace hs := Nat.lt_of_lt_of_le hs hb1.size
  replace hB := below_next hB hB.size hb1
  clear hb1
  obtain ⟨i0, hi0, hz0, hz1, hz2⟩ := info_parts info3
  generalize w4 = y1 at *
  have hfew : u.ws.length ≤ 20000 := h.out.m.few
  have hsu : w.heap.size < y1.heap.size := by omega
  have sw := h.out.m.words.later hB
  have nbE := belowN y1 (.cells #[] 3)
  have B1e := boxOf_keep B1 nbE
  have BCe := boxOf_keep BC nbE
  clear B1 BC
  go_wp2_with (at_builtin; refine wpList_app _ rfl _ _ 24 rfl y1.heap.size 3 i0 _ 1 8 Try.underlying24 hi0 hz0 hz1 hz2 rfl (by omega) _ 0 _ rfl (own_empty y1 _ _ _ (Nat.le_refl _)) _ _ u.ws.length a.mc _ rfl (sw.later nbE) (by simp [Value.oneCell']) (by unfold maxLen; omega) (by omega) (by simp) ?_; intro q y2 hown hgw; rw [Nat.zero_add] at hown; obtain ⟨g, cq, cur, rfl, hg, hcur, hcl, htake⟩ := own_box (by have := HKL.out; omega) hown; replace B1e := boxOf_grown hgw B1e (Ne.symm (own_ne (own_empty y1 y1.heap.size 3 1 (Nat.le_refl _)) hsu)); replace BCe := boxOf_grown hgw BCe (Ne.symm (own_ne (own_empty y1 y1.heap.size 3 1 (Nat.le_refl _)) hs)); have hB2 : Below w.heap.size w y2 := (hB.alloc hB.size _).grown hgw (by simp; omega) (fun k e => Nat.le_trans hB.size (own_at (own_empty y1 y1.heap.size 3 1 (Nat.le_refl _)) k e)))
  clear sw nbE
  have L0 : SlAt u a 0 g 0 w y2 := ⟨⟨cur, hcur, hcl, htake⟩, B1e, BCe, hB2, by omega⟩
  have RS := hide (fun n hn W => rslot_tn u.c o.out.c u.d.it o.out.iit u.d.ly (o.out.f.n _ (by simp [Dt.nums])) n hn W)
  have hSL := hide (fun n h0 h1 => sl_in my.out hly.1 hlx (n := n) h0 h1)
  have hx5 := o.out.c.h5
  clear B1e BCe hcur htake hcl hB2 hown hgw hg
  go_wp2
  go_loopw [5] (fun kv wr => ∃ n : Nat, n ≤ u.c.x5.toNat ∧ kv = .int .i64 n ∧ SlAt u a 0 g n w wr) (fun kv _ => u.c.x5.toNat - (intOf kv).toNat)
  case atStart => exact ⟨0, Nat.zero_le _, rfl, L0⟩
  case round =>
    obtain ⟨n, hn, rfl, L⟩ := hrel
    clear L0
    have C1 := L.b
    have CC := L.c
    by_cases hlt : n < u.c.x5.toNat
    · have j1 : (n : Int) < u.c.x5 := by omega
      have j0 : (0 : Int) ≤ (n : Int) := Int.natCast_nonneg _
      obtain ⟨k, hk, hkl, hk1, hk2⟩ := hSL.out n j0 j1
      have HL := hide L
      have HK := hide hk
      have R := RS.out n (by unfold I64; omega)
      rw [hk] at R
      clear hk hk1 hk2 L RS hSL
      go_wp2_with fail
      refine (R _).mono ?_
      rintro e w7 ⟨rfl, hb1⟩
      have L1 := HL.out.keep hb1
      obtain ⟨cur2, xx, hc2, hx2⟩ := L1.cell hkl
      have C1' := L1.b
      have L2 := hide (L1.store HK.out)
      have kk0 : (0 : Int) ≤ (k : Int) := Int.natCast_nonneg _
      have kk1 : (k : Int) < (u.ws.length : Int) := by omega
      clear C1 CC R hb1 L1 HL
      go_wp2
      go_roundw
      case rel => exact ⟨n + 1, by omega, by go_num, L2.out⟩
      case measure => simp [intOf]; omega
    · have j1 : ¬ (n : Int) < u.c.x5 := by omega
      obtain rfl : n = u.c.x5.toNat := by omega
      clear RS hSL
      obtain ⟨cur3, hc3, hcl3, htk3⟩ := L.row
      have hB3 := L.lo
      have hg3 := L.g
      obtain ⟨nw, hnw⟩ : ∃ l, slN u 0 u.c.x5.toNat = l := ⟨_, rfl⟩
      have HAh := HA.out
      rw [hnw] at htk3 HAh
      have HN : Hid (nw.length = u.ws.length) := hide (by rw [← hnw]; exact slN_length _ _ _)
      have inw : ∀ x ∈ nw, I64 x := by rw [← hnw]; exact slN_i64 o.out.ws (i64_k 0 (by decide)) _
      have HA2 := hide HAh
      have ne1 : ¬ g = w.heap.size := by omega
      have h6 := (ok_my my.out).h6
      have iov : I64 (opW u) := opW_i64 hit hly
      clear HAh HA L hnw
      go_upto_region 11 with fail
      have C1x : boxOf ((wr.setCell ⟨w.heap.size, 14, none⟩ (.slice (some ⟨g, 0, none⟩) u.ws.length cq)).setCell ⟨w.heap.size, 16, none⟩ (.int .i64 17)) w.heap.size = some (tcs ({ u with ws := nw, bx := u.bx, ta := u.ta, d := { u.d with ph := 17, lf := u.d.lf } } : Tn) ({ a with mA := some ⟨g, 0, none⟩, mc := cq } : TA)) := by
        have t := boxOf_set _ w.heap.size 16 (.int .i64 17) (boxOf_set _ w.heap.size 14 (.slice (some ⟨g, 0, none⟩) u.ws.length cq) C1)
        rw [← HN.out, ts14, ts16] at t
        rw [← HN.out]
        exact t
      have hBX : Below w.heap.size w ((wr.setCell ⟨w.heap.size, 14, none⟩ (.slice (some ⟨g, 0, none⟩) u.ws.length cq)).setCell ⟨w.heap.size, 16, none⟩ (.int .i64 17)) := (hB3.setCell (by simp) _).setCell (by simp) _
      have sX : Sees ((wr.setCell ⟨w.heap.size, 14, none⟩ (.slice (some ⟨g, 0, none⟩) u.ws.length cq)).setCell ⟨w.heap.size, 16, none⟩ (.int .i64 17)) ((wr.setCell ⟨w.heap.size, 14, none⟩ (.slice (some ⟨g, 0, none⟩) u.ws.length cq)).setCell ⟨w.heap.size, 16, none⟩ (.int .i64 17)).heap.size 1 (some ⟨g, 0, none⟩) nw.length (nw.map (Value.int .i64)) := by
        have t := sees_take hc3 htk3 HN.out.symm
        exact (t.own1 _ _ _ (fun _ p hp => by cases hp; exact ne1)).own1 _ _ _ (fun _ p hp => by cases hp; exact ne1)
      have hl := h.out.later hBX
      have TX : TnAt ((wr.setCell ⟨w.heap.size, 14, none⟩ (.slice (some ⟨g, 0, none⟩) u.ws.length cq)).setCell ⟨w.heap.size, 16, none⟩ (.int .i64 17)) ({ u with ws := nw, bx := u.bx, ta := u.ta, d := { u.d with ph := 17, lf := u.d.lf } } : Tn) ({ a with mA := some ⟨g, 0, none⟩, mc := cq } : TA) := ⟨h.out.m.words_at hBX sX HN.out, hl.bx, ⟨hl.th.b, hl.th.k, hl.th.h⟩, hl.tp, hl.lg⟩
      have CCx : boxOf ((wr.setCell ⟨w.heap.size, 14, none⟩ (.slice (some ⟨g, 0, none⟩) u.ws.length cq)).setCell ⟨w.heap.size, 16, none⟩ (.int .i64 17)) (w.heap.size + 1) = some (ccs u.c) := (boxOf_far _ _ _ _ (show ¬ w.heap.size = w.heap.size + 1 by omega)).trans ((boxOf_far _ _ _ _ (show ¬ w.heap.size = w.heap.size + 1 by omega)).trans CC)
      clear sX hl htk3 hc3 hcl3 hB3 hg3 C1 CC
      generalize ((wr.setCell ⟨w.heap.size, 14, none⟩ (.slice (some ⟨g, 0, none⟩) u.ws.length cq)).setCell ⟨w.heap.size, 16, none⟩ (.int .i64 17)) = yX at *
      generalize ({ a with mA := some ⟨g, 0, none⟩, mc := cq } : TA) = a1 at *
      have Lp0 : LpC yX.heap.size (alT u nw k p 0) a1 yX ((yX.alloc (.cells zT.toArray 38)).setCells yX.heap.size 0 (tcs ({ u with ws := nw, bx := u.bx, ta := u.ta, d := { u.d with ph := 17, lf := u.d.lf } } : Tn) a1)) := ⟨boxY yX ({ u with ws := nw, bx := u.bx, ta := u.ta, d := { u.d with ph := 17, lf := u.d.lf } } : Tn) a1 38, TX.later (belowY yX ({ u with ws := nw, bx := u.bx, ta := u.ta, d := { u.d with ph := 17, lf := u.d.lf } } : Tn) a1 38), TX.off (Nat.le_refl _), belowY yX ({ u with ws := nw, bx := u.bx, ta := u.ta, d := { u.d with ph := 17, lf := u.d.lf } } : Tn) a1 38, Nat.le_refl _⟩
      have hok := hide (fun n hn => alT_ok o.out inw (k := k) (p := p) iov ht h6 n hn)
      have hnx := hide (fun n hn => alT_next HA2.out (n := n) hn)
      have hsm := hide (fun n => alT_same u nw k p n)
      have hph := hide (fun n hn => alT_ph u nw k p n hn)
      have hat := hide (fun n => al_i64 u nw k p n (by have := o.out.t; omega) hta.out)
      have hC1 := hide C1x
      have hCC := hide CCx
      have hTX := hide TX
      have hBXh := hide hBX
      clear inw TX hBX iov CCx
      go_wp2_with fail
      clear C1x
      go_loopw [7] (fun nv wq => ∃ n : Nat, n ≤ 4 + u.c.x6.toNat ∧ nv = .int .i64 n ∧ ∃ b, LpC yX.heap.size (alT u nw k p n) b yX wq) (fun nv _ => 4 + u.c.x6.toNat - (intOf nv).toNat)
      case atStart => exact ⟨0, Nat.zero_le _, rfl, a1, Lp0⟩
      case round =>
        obtain ⟨n, hn, rfl, b, Lp⟩ := hrel
        clear Lp0
        have C9 := Lp.b
        have hn60 : (n : Int) < 60 := by omega
        by_cases hlt : n < 4 + u.c.x6.toNat
        · have S0 := cstep_any (alT u nw k p n) b (hok.out n hn) (by rw [(hsm.out n).1]; exact ht) (by rw [(hsm.out n).2.1]; exact hit) (by rw [(hsm.out n).2.2]; exact hly) (hat.out n) _ Lp.t
          rw [(hnx.out n hlt).1, (hnx.out n hlt).2] at S0
          have p1 : ((alT u nw k p n).d.ph != 26) = true := by simp only [bne, hph.out n hlt]; rfl
          obtain ⟨v, hv⟩ : ∃ v, alT u nw k p (n + 1) = v := ⟨_, rfl⟩
          rw [hv] at S0
          have HVV := hide hv
          obtain ⟨u1, hu1⟩ : ∃ x, alT u nw k p n = x := ⟨_, rfl⟩
          rw [hu1] at S0 Lp C9 p1
          have HLp := hide Lp
          clear Lp hv hu1
          go_wp2_with fail
          refine S0.mono ?_
          rintro e z1 ⟨b', rfl, T2, off2, hb1⟩
          have LN := hide (HLp.out.next T2 off2 hb1 38)
          have D9 := boxOf_keep C9 hb1
          have lk := Nat.lt_of_lt_of_le (boxOf_lt C9) hb1.size
          have ne5 : ¬ z1.heap.size = yX.heap.size := by omega
          have ne6 : ¬ yX.heap.size = z1.heap.size := by omega
          clear C9 hb1 T2 off2 S0 HLp p1
          go_wp2
          go_roundw
          case rel => exact ⟨n + 1, by omega, by go_num, b', by rw [HVV.out]; exact LN.out⟩
          case measure => simp [intOf]; omega
        · obtain rfl : n = 4 + u.c.x6.toNat := by omega
          have p1 : ((alT u nw k p (4 + u.c.x6.toNat)).d.ph != 26) = false := by rw [alT_end]; rfl
          have cU := Lp.box hC1.out
          have cC := Lp.box hCC.out
          have hBF := below_next hBXh.out hBXh.out.size Lp.lo
          have RL := hide (fun W => rline_tn u.c o.out.c u.tt o.out.tt W)
          rw [HA2.out.hk] at RL
          have VE := alT_end u nw k p
          have hne := HA2.out.ne
          have V1 : (alT u nw k p (4 + u.c.x6.toNat)).ws.length = u.ws.length := by rw [VE]; simpa using HN.out
          have V2 : (alT u nw k p (4 + u.c.x6.toNat)).ws[k]? = some (opW u) := by rw [VE]; show ((nw.set k (opW u)).set p (u.tt + 1))[k]? = _; rw [List.getElem?_set_ne (Ne.symm hne)]; exact List.getElem?_set_self HA2.out.kl
          have V3 : (alT u nw k p (4 + u.c.x6.toNat)).bx = ptV u.bx u.tt u.d.bl := by rw [VE]
          have LE := al_lea HA2.out
          have S1h := hide (fun W (m : TnAt W (alT u nw k p (4 + u.c.x6.toNat)) b) => cstep_any (alT u nw k p (4 + u.c.x6.toNat)) b (hok.out _ (Nat.le_refl _)) (by rw [(hsm.out _).1]; exact ht) (by rw [(hsm.out _).2.1]; exact hit) (by rw [(hsm.out _).2.2]; exact hly) (hat.out _) W m)
          rw [LE.1, LE.2] at S1h
          have LF := lea_facts (z := ({ u with ws := (((nw.set k (opW u)).set p (u.tt + 1)).set k 0), bx := (ptV u.bx u.tt u.d.bl), ta := (blA u.tl u.ta u.d.wd), d := { u.d with ph := 26, lf := 0 } } : Tn)) HA2.out.un
          obtain ⟨X, hX⟩ : ∃ x, leaV ({ u with ws := (((nw.set k (opW u)).set p (u.tt + 1)).set k 0), bx := (ptV u.bx u.tt u.d.bl), ta := (blA u.tl u.ta u.d.wd), d := { u.d with ph := 26, lf := 0 } } : Tn) = x := ⟨_, rfl⟩
          rw [hX] at S1h LF
          have fX1 : X.ws.length = u.ws.length := by rw [LF.1]; simpa using HN.out
          have fX2 := hide (show X.ws[k]? = some 0 by rw [LF.1]; exact List.getElem?_set_self (by simpa using HA2.out.kl))
          have fX3 := hide (show X.d.wd = wdV u.d.wd from LF.2.1)
          have fX4 := hide (show (u.d.ly < u.c.x4 → X.d.ph = 17 ∧ X.d.ly = wrap64 (u.d.ly + 1)) ∧ (¬ u.d.ly < u.c.x4 → X.d.ph = 2 ∧ X.d.ly = u.d.ly) from LF.2.2)
          clear hX LF LE hok hnx hsm hph hat
          obtain ⟨V, hV⟩ : ∃ x, alT u nw k p (4 + u.c.x6.toNat) = x := ⟨_, rfl⟩
          rw [hV] at Lp p1 C9 V1 V2 V3 S1h
          have e4 : ((4 + u.c.x6.toNat : Nat) : Int) = 4 + u.c.x6 := by omega
          have HLp := hide Lp
          have H2 := hide V2
          have H3 := hide V3
          clear VE hV Lp hC1 hCC hBXh V2 V3 hne HA2 hn60
          rw [e4]
          clear e4
          go_wp2_with fail
          refine (RL.out _).mono ?_
          rintro e w8 ⟨rfl, hb1⟩
          replace C9 := boxOf_keep C9 hb1
          replace cU := boxOf_keep cU hb1
          replace cC := boxOf_keep cC hb1
          have HL8 := hide (HLp.out.later hb1)
          replace hBF := below_next hBF hBF.size hb1
          clear hb1 RL HLp
          have hM := HL8.out.t.m
          have hlp : 0 < V.ws.length := by rw [V1]; exact HKL.out
          obtain ⟨wb, wo, eA, _, hcA⟩ := hM.words.2 hlp
          have kc := hcA k _ (by rw [List.getElem?_map, H2.out]; rfl)
          have hbl : b.bs.length = V.bx.length := by rw [← HL8.out.t.bx]; simp [boxes]
          have hub : u.bx.length = a.bs.length := by rw [← h.out.bx]; simp [boxes]
          rw [H3.out, ptV_length, hub] at hbl
          have my0 := my.out.t0
          have my1 := my.out.t1
          have myb := my.out.b
          obtain ⟨bb, bo, eB, _, hcB⟩ := hM.bxs.2 (show 0 < b.bs.length by omega)
          obtain ⟨t, ht'⟩ : ∃ t : Nat, u.tt = (t : Int) := ⟨u.tt.toNat, by omega⟩
          obtain ⟨q, hq⟩ : ∃ q, b.bs[t]? = some q := ⟨b.bs[t]'(by omega), List.getElem?_eq_getElem _⟩
          have tc := hcB t q.val (by simp [hq])
          have hqs : Sees w8 w8.heap.size 3 q.A q.l.length (ecells q.l) := hM.each q (List.mem_of_getElem? hq)
          have hql : q.l = u.d.bl := by
            have e := H3.out
            rw [← HL8.out.t.bx, ht', ptV_at _ (show t < u.bx.length by omega)] at e
            have e2 : (boxes b.bs)[t]? = some u.d.bl := by rw [e]; exact List.getElem?_set_self (by omega)
            simp [boxes, hq] at e2
            exact e2
          obtain ⟨qA, qc, ql⟩ := q
          simp only [Bt.val] at tc hqs hql
          subst hql
          have b20 := sm.out.2.2.2.1
          have hub2 : Hid (Sees w8 w8.heap.size 3 a1.p.bA u.d.bl.length (ecells u.d.bl)) := hide ((hTX.out.th.b.later HL8.out.lo))
          have HS := hide hqs
          have dbl : (b.bs.length : Int) = u.c.x0 := by omega
          have d50 : decide ((50 : Int) < (u.d.bl.length : Int)) = false := decide_eq_false (by omega)
          have w4 : wrap64 (4 + u.c.x6) = 4 + u.c.x6 := wrap64_id (by unfold I64; omega)
          have w4' : IntKind.i64.wrap (4 + u.c.x6) = 4 + u.c.x6 := w64 (by omega)
          have kk1 : (k : Int) < (u.ws.length : Int) := by have := (List.getElem?_eq_some_iff.1 H2.out).1; omega
          have kk0 : (0 : Int) ≤ (k : Int) := Int.natCast_nonneg _
          have tt0 : (0 : Int) ≤ (t : Int) := Int.natCast_nonneg _
          have tt1 : (t : Int) < u.c.x0 := by omega
          have KO := fun W => hide (open_any u.d.it u.d.ly hit hly W)
          rw [show opV u.d.it u.d.ly = opW u from rfl] at KO
          obtain ⟨ov, hov⟩ : ∃ x, opW u = x := ⟨_, rfl⟩
          rw [hov] at KO kc
          clear hM hcA hcB hq hqs hub myb my0 my1 hov hbl
          go_upto_region 20 with fail
          simp only [List.append_eq, List.cons_append, List.nil_append]
          have tok1 := hide True.intro
          have tok2 := hide True.intro
          have Z : boxOf w8.drew w.heap.size = some (tcs ({ u with ws := nw, bx := u.bx, ta := u.ta, d := { u.d with ph := 17, lf := u.d.lf } } : Tn) a1) ∧ boxOf w8.drew yX.heap.size = some (tcs V b) ∧ w8.drew.cell? ⟨wb, wo + k, none⟩ = some (.int .i64 ov) ∧ w8.drew.cell? ⟨bb, bo + t, none⟩ = some (.slice qA u.d.bl.length qc) ∧ Below w8.heap.size w8 w8.drew := ⟨by rw [boxOf_drew]; exact cU, by rw [boxOf_drew]; exact C9, kc, tc, (Below.refl _ _).drew⟩
          go_region_held3 (fun w' => boxOf w' w.heap.size = some (tcs ({ u with ws := nw, bx := u.bx, ta := u.ta, d := { u.d with ph := 17, lf := u.d.lf } } : Tn) a1) ∧ boxOf w' yX.heap.size = some (tcs V b) ∧ w'.cell? ⟨wb, wo + k, none⟩ = some (.int .i64 ov) ∧ w'.cell? ⟨bb, bo + t, none⟩ = some (.slice qA u.d.bl.length qc) ∧ Below w8.heap.size w8 w')
            (first | (with_reducible exact Z) | (with_reducible exact Z1) | (with_reducible exact Z2) | (with_reducible exact Z3) | (with_reducible exact Z4))
            (first
              | (go_at_call 15; refine (KO _).out.mono ?_; rintro e v1 ⟨rfl, hb1⟩; have Z1 : boxOf v1 w.heap.size = some (tcs ({ u with ws := nw, bx := u.bx, ta := u.ta, d := { u.d with ph := 17, lf := u.d.lf } } : Tn) a1) ∧ boxOf v1 yX.heap.size = some (tcs V b) ∧ v1.cell? ⟨wb, wo + k, none⟩ = some (.int .i64 ov) ∧ v1.cell? ⟨bb, bo + t, none⟩ = some (.slice qA u.d.bl.length qc) ∧ Below w8.heap.size w8 v1 := keepQ Z hb1)
              | (go_at_call 17; have _t := tok1; refine (ents_any qA qc u.d.bl u.d.bl.length rfl (by omega) _ (HS.out.later Z1.2.2.2.2)).mono ?_; rintro e v2 ⟨E1, c1, rfl, _, s1, _, hb2⟩; have Z2 : boxOf v2 w.heap.size = some (tcs ({ u with ws := nw, bx := u.bx, ta := u.ta, d := { u.d with ph := 17, lf := u.d.lf } } : Tn) a1) ∧ boxOf v2 yX.heap.size = some (tcs V b) ∧ v2.cell? ⟨wb, wo + k, none⟩ = some (.int .i64 ov) ∧ v2.cell? ⟨bb, bo + t, none⟩ = some (.slice qA u.d.bl.length qc) ∧ Below w8.heap.size w8 v2 := keepQ Z1 hb2; clear tok1)
              | (go_at_call 17; have _t := tok2; refine (ents_any a1.p.bA a1.p.bc u.d.bl u.d.bl.length rfl (by omega) _ (hub2.out.later Z2.2.2.2.2)).mono ?_; rintro e v3 ⟨E2, c2', rfl, _, s2, _, hb3⟩; have Z3 : boxOf v3 w.heap.size = some (tcs ({ u with ws := nw, bx := u.bx, ta := u.ta, d := { u.d with ph := 17, lf := u.d.lf } } : Tn) a1) ∧ boxOf v3 yX.heap.size = some (tcs V b) ∧ v3.cell? ⟨wb, wo + k, none⟩ = some (.int .i64 ov) ∧ v3.cell? ⟨bb, bo + t, none⟩ = some (.slice qA u.d.bl.length qc) ∧ Below w8.heap.size w8 v3 := keepQ Z2 hb3; clear tok2)
              | (go_at_call 16; refine (same_any E1 E2 c1 c2' u.d.bl.length u.d.bl.length u.d.bl u.d.bl rfl rfl (by omega) _ (s1.later hb3) s2).mono ?_; rintro e v4 ⟨rfl, hb4⟩; have Z4 : boxOf v4 w.heap.size = some (tcs ({ u with ws := nw, bx := u.bx, ta := u.ta, d := { u.d with ph := 17, lf := u.d.lf } } : Tn) a1) ∧ boxOf v4 yX.heap.size = some (tcs V b) ∧ v4.cell? ⟨wb, wo + k, none⟩ = some (.int .i64 ov) ∧ v4.cell? ⟨bb, bo + t, none⟩ = some (.slice qA u.d.bl.length qc) ∧ Below w8.heap.size w8 v4 := keepQ Z3 hb4; rw [decide_eq_true rfl]))
          obtain ⟨D1, D9, _, _, hb8⟩ := Z4
          have LV := HL8.out.later hb8
          have hBG := below_next hBF hBF.size hb8
          have S1 := hide (S1h.out _ LV.t)
          have hwdv := fX3.out
          rw [wd_is] at hwdv
          obtain ⟨tv, htv⟩ : ∃ x, u.d.wd.tdiv 2 = x := ⟨_, rfl⟩
          rw [htv] at hwdv
          have htb : 0 ≤ tv ∧ tv ≤ u.d.wd := by
            rw [Int.tdiv_eq_ediv_of_nonneg (by omega)] at htv
            omega
          have hwt : wrap64 tv = tv := wrap64_id (by have := o.out.c.h5; unfold I64; omega)
          have hwl : wrap64 (u.d.ly + 1) = u.d.ly + 1 := wrap64_id (by unfold I64; omega)
          have hc : ((1 < tv ∧ ¬ tv ≤ 1) ∧ X.d.wd = tv) ∨ ((tv ≤ 1 ∧ ¬ 1 < tv) ∧ X.d.wd = 1) := by
            by_cases h1 : tv ≤ 1
            · rw [if_pos h1] at hwdv; exact .inr ⟨⟨h1, by omega⟩, hwdv⟩
            · rw [if_neg h1] at hwdv; exact .inl ⟨⟨by omega, h1⟩, hwdv⟩
          have hlc : (u.d.ly < u.c.x4 ∧ X.d.ph = 17 ∧ X.d.ly = u.d.ly + 1) ∨ (¬ u.d.ly < u.c.x4 ∧ X.d.ph = 2 ∧ X.d.ly = u.d.ly) := by
            by_cases h1 : u.d.ly < u.c.x4
            · have e := fX4.out.1 h1
              exact .inl ⟨h1, e.1, e.2.trans hwl⟩
            · have e := fX4.out.2 (by omega)
              exact .inr ⟨h1, e.1, e.2⟩
          clear hwdv htb
          generalize v4 = y8 at *
          go_upto_region 22 with fail
          go_wp2_with fail
          refine S1.out.mono ?_
          rintro e z1 ⟨a2, rfl, T2, off2, hb1⟩
          replace D1 := boxOf_keep D1 hb1
          have nb := belowY z1 X a2 38
          have D2 := boxY z1 X a2 38
          replace D1 := boxOf_keep D1 nb
          replace hBG := below_next hBG hBG.size hb1
          replace hBG := below_next hBG hBG.size nb
          obtain ⟨wb2, wo2, eA2, _, hcA2⟩ := (T2.later nb).m.words.2 (show 0 < X.ws.length by rw [fX1]; exact HKL.out)
          have kc2 := hcA2 k (.int .i64 0) (by rw [List.getElem?_map, fX2.out]; rfl)
          clear S1 off2 hb1 nb T2 hcA2 LV
          go_upto_region 23 with fail
          generalize ((z1.alloc (.cells zT.toArray 38)).setCells z1.heap.size 0 (tcs X a2)) = y9 at *
          generalize z1.heap.size = g2 at *
          rcases hc with ⟨⟨h1, h2⟩, h3⟩ | ⟨⟨h1, h2⟩, h3⟩
          all_goals rcases hlc with ⟨q1, q2, q3⟩ | ⟨q1, q2, q3⟩
          all_goals go_wp2
          all_goals go_ret
          all_goals exact ⟨ret_b (by simp), hBG⟩
end Go.Proofs.Ytjghdbkkjhnpfaa
