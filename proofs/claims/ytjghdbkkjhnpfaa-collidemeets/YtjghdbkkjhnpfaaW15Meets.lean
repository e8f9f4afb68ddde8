/- The walk of CollideMeets. -/
import Derived.Test.YtjghdbkkjhnpfaaW15MeetsA
import Derived.Test.YtjghdbkkjhnpfaaW15Base
import Derived.Test.YtjghdbkkjhnpfaaW15Slots
import Derived.Test.YtjghdbkkjhnpfaaEnO
import Derived.Test.YtjghdbkkjhnpfaaM4
import Derived.Test.YtjghdbkkjhnpfaaM1
import Derived.Lib.QuietBelow
import Derived.Deep.QuietTactic
import Derived.BigQuiet
import Derived.Deep.RegionHeld3
import Derived.Deep.Cut
namespace Go.Proofs.Ytjghdbkkjhnpfaa
open Go.RowKit Go.Sort
set_option linter.unusedVariables false
set_option linter.unusedSimpArgs false

theorem keepM {w8 W W' : World} {g b o : Nat} {cs : List Value} {v : Value} (h : boxOf W g = some cs ∧ W.cell? ⟨b, o, none⟩ = some v ∧ Below w8.heap.size w8 W) (hb : Below W.heap.size W W') : boxOf W' g = some cs ∧ W'.cell? ⟨b, o, none⟩ = some v ∧ Below w8.heap.size w8 W' := ⟨boxOf_keep h.1 hb, cell_keep h.2.1 hb, below_next h.2.2 h.2.2.size hb⟩
theorem keepN {w8 W W' : World} {g g2 b o b2 o2 b3 o3 b4 o4 : Nat} {cs ds : List Value} {v v2 v3 v4 : Value} (h : boxOf W g = some cs ∧ boxOf W g2 = some ds ∧ W.cell? ⟨b, o, none⟩ = some v ∧ W.cell? ⟨b2, o2, none⟩ = some v2 ∧ W.cell? ⟨b3, o3, none⟩ = some v3 ∧ W.cell? ⟨b4, o4, none⟩ = some v4 ∧ Below w8.heap.size w8 W) (hb : Below W.heap.size W W') : boxOf W' g = some cs ∧ boxOf W' g2 = some ds ∧ W'.cell? ⟨b, o, none⟩ = some v ∧ W'.cell? ⟨b2, o2, none⟩ = some v2 ∧ W'.cell? ⟨b3, o3, none⟩ = some v3 ∧ W'.cell? ⟨b4, o4, none⟩ = some v4 ∧ Below w8.heap.size w8 W' := ⟨boxOf_keep h.1 hb, boxOf_keep h.2.1 hb, cell_keep h.2.2.1 hb, cell_keep h.2.2.2.1 hb, cell_keep h.2.2.2.2.1 hb, cell_keep h.2.2.2.2.2.1 hb, below_next h.2.2.2.2.2.2 h.2.2.2.2.2.2.size hb⟩
theorem eql_kid2 (x y : Int) (w : World) : (binOp .eql 51 (.agg #[.int .i64 x, .int .i64 y]) (.agg #[.int .i64 x, .int .i64 y])).run Try.prog w = .ok (.bool true) w := by simp [go_sem]
attribute [local go_sem] eql_kid2
attribute [local irreducible] tcs thc ccs zT
attribute [local go_sem ↓] alTn_is alRn_is
attribute [local go_sem] run_alTnf run_alTnt run_alRnf run_alRnt zT_length
attribute [local go_sem ↓] lbTn_is lbRn_is lbTh_is lbRh_is lbCf_is lbRc_is sbTn_is sbRn_is sbTh_is sbRh_is sbCf_is sbRc_is
attribute [local go_sem] run_lbTn run_lbRn run_lbTh run_lbRh run_lbCf run_lbRc run_sbTn run_sbRn run_sbTh run_sbRh run_sbCf run_sbRc
attribute [local go_sem 2000] boxOf_old'
attribute [local go_sem] boxOf_at' boxOf_free' boxOf_alloc objBox_cells objBox_cellsA boxOf_drew boxOf_setI boxOf_setsI size_sets tcs_length thc_length ccs_length tcs_one thc_one ccs_one sub_tn sub_th sub_cf sub_thAll sub_cfAll put_turn put_thread
attribute [local go_sem] tc0 tc1 tc2 tc3 tc4 tc5 tc6 tc7 tc8 tc9 tc10 tc11 tc12 tc13 tc14 tc15 tc16 tc17 tc18 tc19 tc20 tc21 tc22 tc23 tc24 tc25 tc26 tc27 tc28 tc29 tc30 tc31 tc32 tc33 tc34 tc35 tc36 hc0 hc1 hc2 hc3 hc4 hc5 hc6 hc7 hc8 hc9 hc10 hc11 hc12 hc13 hc14 hc15 hc16 kc0 kc1 kc2 kc3 kc4 kc5 kc6 kc7 kc8 kc9 kc10 kc11 tg0 tg1 tg2 tg3 tg4 tg5 tg6 tg7 tg8 tg9 tg10 tg11 tg12 tg13 tg14 tg15 tg16 tg17 tg18 tg19 tg20 tg21 tg22 tg23 tg24 tg25 tg26 tg27 tg28 tg29 tg30 tg31 tg32 tg33 tg34 tg35 tg36 hg0 hg1 hg2 hg3 hg4 hg5 hg6 hg7 hg8 hg9 hg10 hg11 hg12 hg13 hg14 hg15 hg16 kg0 kg1 kg2 kg3 kg4 kg5 kg6 kg7 kg8 kg9 kg10 kg11
attribute [local go_sem] ts12 ts13 ts14 ts16 ts17 ts18 ts19 ts20 ts21 ts22 ts23 ts24 ts25 ts26 ts27 ts28 ts29 ts30 ts31 ts32 ts33 ts34 ts35 ts36 ts15 hs0 hs1 hs2 hs3 hs7 hs8 hs9 hs10 hs11 hs12 hs13 hs14 hs15 hs16

attribute [local irreducible] zC zH
attribute [local go_sem ↓] alCf_is alRc_is alTh_is
attribute [local go_sem] run_alCf run_alRc run_alTh zC_length zH_length put_conf put_thrd
set_option maxRecDepth 100000 in
set_option maxHeartbeats 40000000 in
theorem meets_walk (u : Tn) (a : TA) (z : Int) (op : Bool) (other : Int) (z0 : 0 ≤ z) (z1 : z ≤ 255) (io : I64 other) (hta0 : I64 u.ta) (w : World) (hi : TnIn w u a) : Calls Try.prog 4 #[.agg (tcs u a).toArray, .int .u8 z, .bool op, .int .i64 other] w (BoolPost true w) := by
  have B1 : boxOf (((w.alloc (.cells (tcs u a).toArray 38)).alloc (.cells zC.toArray 39)).setCells (w.heap.size + 1) 0 (ccs u.c)) w.heap.size = some (tcs u a) := by simp [go_sem]
  have BC : boxOf (((w.alloc (.cells (tcs u a).toArray 38)).alloc (.cells zC.toArray 39)).setCells (w.heap.size + 1) 0 (ccs u.c)) (w.heap.size + 1) = some (ccs u.c) := by simp [go_sem]
  have hs : w.heap.size + 1 < (((w.alloc (.cells (tcs u a).toArray 38)).alloc (.cells zC.toArray 39)).setCells (w.heap.size + 1) 0 (ccs u.c)).heap.size := by simp [size_sets]
  have hB : Below w.heap.size w (((w.alloc (.cells (tcs u a).toArray 38)).alloc (.cells zC.toArray 39)).setCells (w.heap.size + 1) 0 (ccs u.c)) := below_sets _ (by omega) _ _ _ _ ((belowN w _).alloc (by simp) _)
  go_enter Try.func4, Try.ntmps4
  go_wp2_with fail
  generalize (((w.alloc (.cells (tcs u a).toArray 38)).alloc (.cells zC.toArray 39)).setCells (w.heap.size + 1) 0 (ccs u.c)) = wz at *
  refine (big_tn u a _ (hi.m.later hB)).mono ?_
  rintro e w1 ⟨r, rfl, hr, hb1⟩
  replace B1 := boxOf_keep B1 hb1
  replace BC := boxOf_keep BC hb1
  replace hs := Nat.lt_of_lt_of_le hs hb1.size
  replace hB := below_next hB hB.size hb1
  clear hb1
  cases r with
  | true =>
    as_aux_lemma =>
    go_wp2_with (go_at_call 11; refine (shown_any _).mono ?_; rintro e ws ⟨rfl, hbs⟩; replace hB := below_next hB hB.size hbs; clear hbs)
    go_ret
    exact ⟨ret_b (by simp), hB⟩
  | false =>
  have sm := hide (hr rfl)
  clear hr
  go_wp2_with fail
  refine (lay_any u a _).mono ?_
  rintro e w2 ⟨r, rfl, hr, hb1⟩
  replace B1 := boxOf_keep B1 hb1
  replace BC := boxOf_keep BC hb1
  replace hs := Nat.lt_of_lt_of_le hs hb1.size
  replace hB := below_next hB hB.size hb1
  clear hb1
  cases r with
  | false =>
    as_aux_lemma =>
    go_wp2_with (go_at_call 11; refine (shown_any _).mono ?_; rintro e ws ⟨rfl, hbs⟩; replace hB := below_next hB hB.size hbs; clear hbs)
    go_ret
    exact ⟨ret_b (by simp), hB⟩
  | true =>
  have my := hide (hr rfl).1
  have hly := (hr rfl).2
  clear hr
  have h := hide (hi.at sm.out)
  have o := hide (hi.ok sm.out my.out)
  have ht := tt_my my.out o.out.c
  have hit := it_my my.out
  have hx0 := o.out.c.h0
  have hta := hide hta0
  clear hi hta0
  by_cases hlx : u.d.ly ≤ u.c.x4
  case neg =>
    have hlx' : u.c.x4 < u.d.ly := by omega
    clear hlx
    as_aux_lemma =>
    go_wp2_with (go_at_call 11; refine (shown_any _).mono ?_; rintro e ws ⟨rfl, hbs⟩; replace hB := below_next hB hB.size hbs; clear hbs)
    go_ret
    exact ⟨ret_b (by simp), hB⟩
  by_cases hwd1 : 1 ≤ u.d.wd
  case neg =>
    have hwd1' : u.d.wd < 1 := by omega
    clear hwd1
    as_aux_lemma =>
    go_wp2_with (go_at_call 11; refine (shown_any _).mono ?_; rintro e ws ⟨rfl, hbs⟩; replace hB := below_next hB hB.size hbs; clear hbs)
    go_ret
    exact ⟨ret_b (by simp), hB⟩
  by_cases hwd2 : u.d.wd ≤ u.c.x5
  case neg =>
    have hwd2' : u.c.x5 < u.d.wd := by omega
    clear hwd2
    as_aux_lemma =>
    go_wp2_with (go_at_call 11; refine (shown_any _).mono ?_; rintro e ws ⟨rfl, hbs⟩; replace hB := below_next hB hB.size hbs; clear hbs)
    go_ret
    exact ⟨ret_b (by simp), hB⟩
  have dd1 : decide (u.c.x4 < u.d.ly) = false := decide_eq_false (by omega)
  have dd2 : decide (u.d.wd < 1) = false := decide_eq_false (by omega)
  have dd3 : decide (u.c.x5 < u.d.wd) = false := decide_eq_false (by omega)
  by_cases hx2 : 2 ≤ u.c.x0
  case neg =>
    have hx2' : u.c.x0 < 2 := by omega
    clear hx2
    as_aux_lemma =>
    go_wp2_with (go_at_call 11; refine (shown_any _).mono ?_; rintro e ws ⟨rfl, hbs⟩; replace hB := below_next hB hB.size hbs; clear hbs)
    go_ret
    exact ⟨ret_b (by simp), hB⟩
  have dd5 : decide (u.c.x0 < 2) = false := decide_eq_false (by omega)
  go_wp2_with fail
  refine (shown_any _).mono ?_
  rintro e w4 ⟨rfl, hb1⟩
  replace B1 := boxOf_keep B1 hb1
  replace BC := boxOf_keep BC hb1
  replace hs := Nat.lt_of_lt_of_le hs hb1.size
  replace hB := below_next hB hB.size hb1
  clear hb1
  clear dd1 dd2 dd3 dd5
  have nz1 : ¬ u.c.x0 - 1 = 0 := by omega
  have nz2 : ¬ u.c.x0 = 0 := by omega
  obtain ⟨q, eq1, eq2, hqx, hqt⟩ := meet_q my.out.t0 my.out.t1 hx2 hx0.2 z0 z1
  have E1 := hide eq1
  have E2 := hide eq2
  clear eq1 eq2
  have q16 : q ≤ 15 := by omega
  have iq : I64 (q : Int) := i64_k _ ⟨by omega, by omega⟩
  have iq1 : I64 ((q : Int) + 1) := i64_k _ ⟨by omega, by omega⟩
  go_upto_region 4 with fail
  go_cut [10] from 65 (fun x wc => x = .int .i64 q ∧ boxOf wc w.heap.size = some (tcs u a) ∧ boxOf wc (w.heap.size + 1) = some (ccs u.c) ∧ Below w.heap.size w wc)
  case first =>
    as_aux_lemma =>
    go_region
    all_goals go_wp2_with fail
    all_goals go_meet
    all_goals refine ⟨?_, by rw [boxOf_drew]; exact B1, by rw [boxOf_drew]; exact BC, hB.drew⟩
    all_goals first | rw [E1.out] | rw [E2.out]
  case rest =>
  clear B1 BC hB hs E1 E2
  obtain ⟨rfl, B1, BC, hB⟩ := hcut
  have hs := boxOf_lt BC
  have iov : I64 (opW u) := opW_i64 hit hly
  have KO := fun W => hide (open_any u.d.it u.d.ly hit hly W)
  rw [show opV u.d.it u.d.ly = opW u from rfl] at KO
  obtain ⟨ov, hov⟩ : ∃ x, opW u = x := ⟨_, rfl⟩
  rw [hov] at KO iov
  go_wp2_with fail
  refine (KO _).out.mono ?_
  rintro e w5 ⟨rfl, hb1⟩
  replace B1 := boxOf_keep B1 hb1
  replace BC := boxOf_keep BC hb1
  replace hs := Nat.lt_of_lt_of_le hs hb1.size
  replace hB := below_next hB hB.size hb1
  clear hb1
  clear KO
  go_upto_region 6 with fail
  go_cut [93] from 87 (fun t wc => ∃ r, t = .bool r ∧ (r = false → op = false → other ≠ ov) ∧ boxOf wc w.heap.size = some (tcs u a) ∧ boxOf wc (w.heap.size + 1) = some (ccs u.c) ∧ Below w.heap.size w wc)
  case first =>
    as_aux_lemma =>
    cases op with
    | true =>
      go_wp2_with fail
      go_meet
      exact ⟨_, rfl, fun _ e => Bool.noConfusion e, B1, BC, hB⟩
    | false =>
      by_cases ho : other = ov
      · have ho2 : (other == ov) = true := by simpa using ho
        clear ho
        go_wp2_with fail
        go_meet
        exact ⟨true, rfl, fun e => Bool.noConfusion e, B1, BC, hB⟩
      · have ho2 : (other == ov) = false := by simpa using ho
        have HO := hide ho
        clear ho
        go_wp2_with fail
        go_meet
        exact ⟨_, rfl, fun _ _ => HO.out, B1, BC, hB⟩
  case rest =>
  clear B1 BC hB hs
  obtain ⟨r, rfl, ho3, B1, BC, hB⟩ := hcut
  cases r with
  | true =>
    go_wp2_with fail
    go_ret
    exact ⟨ret_b (by simp), hB⟩
  | false =>
  have ho2 := ho3 rfl
  clear ho3
  have hs := boxOf_lt BC
  obtain ⟨nv, hnv⟩ : ∃ x, (if op = true then ov else other) = x := ⟨_, rfl⟩
  have o1 : op = true → nv = opW u := fun e => by rw [← hnv, if_pos e, hov]
  have o2 : op = false → nv ≠ opW u := fun e => by rw [← hnv, if_neg (by rw [e]; decide), hov]; exact ho2 e
  have inv : I64 nv := by rw [← hnv]; split <;> assumption
  obtain ⟨k, kq, p, hk, hkl, hkq, hkql, mh⟩ := me_h my.out (by rw [← h.out.bx]; simp [boxes]) hly.1 hlx hwd1 hwd2 hqx hqt o1 o2
  have MH := hide mh
  have HKL := hide hkl
  have HKQ := hide hkql
  have HNV := hide hnv
  have RLk := hide (fun W => rline_tn u.c o.out.c u.tt o.out.tt W)
  have RLq := hide (fun W => rline_tn u.c o.out.c (q : Int) iq W)
  rw [hk] at RLk
  rw [hkq] at RLq
  rw [hov] at MH
  have HQT := hide hqt
  clear hk hkl hkq hkql mh hnv o1 o2 ho2 hqt
  obtain ⟨i0, hi0, hz0, hz1, hz2⟩ := info_parts info3
  generalize wc = y1 at *
  have hfew : u.ws.length ≤ 20000 := h.out.m.few
  have hsu : w.heap.size < y1.heap.size := by omega
  have sw := h.out.m.words.later hB
  have nbE := belowN y1 (.cells #[] 3)
  have B1e := boxOf_keep B1 nbE
  have BCe := boxOf_keep BC nbE
  clear B1 BC
  go_wp2_with (at_builtin; refine wpList_app _ rfl _ _ 24 rfl y1.heap.size 3 i0 _ 1 8 Try.underlying24 hi0 hz0 hz1 hz2 rfl (by omega) _ 0 _ rfl (own_empty y1 _ _ _ (Nat.le_refl _)) _ _ u.ws.length a.mc _ rfl (sw.later nbE) (by simp [Value.oneCell']) (by unfold maxLen; omega) (by omega) (by simp) ?_; intro q y2 hown hgw; rw [Nat.zero_add] at hown; obtain ⟨g, cq, cur, rfl, hg, hcur, hcl, htake⟩ := own_box (by have := HKL.out; omega) hown; replace B1e := boxOf_grown hgw B1e (Ne.symm (own_ne (own_empty y1 y1.heap.size 3 1 (Nat.le_refl _)) hsu)); replace BCe := boxOf_grown hgw BCe (Ne.symm (own_ne (own_empty y1 y1.heap.size 3 1 (Nat.le_refl _)) hs)); have hB2 : Below w.heap.size w y2 := (hB.alloc hB.size _).grown hgw (by simp; omega) (fun k e => Nat.le_trans hB.size (own_at (own_empty y1 y1.heap.size 3 1 (Nat.le_refl _)) k e)))
  clear sw nbE
  have L0 : SlAt u a ((q : Int) + 1) g 0 w y2 := ⟨⟨cur, hcur, hcl, htake⟩, B1e, BCe, hB2, by omega⟩
  have RS := hide (fun n hn W => rslot_tn u.c o.out.c u.d.it o.out.iit u.d.ly (o.out.f.n _ (by simp [Dt.nums])) n hn W)
  have hSL := hide (fun n h0 h1 => sl_in my.out hly.1 hlx (n := n) h0 h1)
  have hx5 := o.out.c.h5
  clear B1e BCe hcur htake hcl hB2 hown hgw hg
  go_wp2
  go_loopw [13] (fun kv wr => ∃ n : Nat, n ≤ u.c.x5.toNat ∧ kv = .int .i64 n ∧ SlAt u a ((q : Int) + 1) g n w wr) (fun kv _ => u.c.x5.toNat - (intOf kv).toNat)
  case atStart => exact ⟨0, Nat.zero_le _, rfl, L0⟩
  case round =>
    obtain ⟨n, hn, rfl, L⟩ := hrel
    clear L0
    have C1 := L.b
    have CC := L.c
    by_cases hlt : n < u.c.x5.toNat
    · as_aux_lemma =>
      have j1 : (n : Int) < u.c.x5 := by omega
      have j0 : (0 : Int) ≤ (n : Int) := Int.natCast_nonneg _
      obtain ⟨k, hk, hkl, hk1, hk2⟩ := hSL.out n j0 j1
      have HL := hide L
      have HK := hide hk
      have R := RS.out n (by unfold I64; omega)
      rw [hk] at R
      clear hk hk1 hk2 L RS hSL
      go_wp2_with fail
      refine (R _).mono ?_
      rintro e w7 ⟨rfl, hb1⟩
      have L1 := HL.out.keep hb1
      obtain ⟨cur2, xx, hc2, hx2⟩ := L1.cell hkl
      have C1' := L1.b
      have L2 := hide (L1.store HK.out)
      have kk0 : (0 : Int) ≤ (k : Int) := Int.natCast_nonneg _
      have kk1 : (k : Int) < (u.ws.length : Int) := by omega
      clear C1 CC R hb1 L1 HL
      go_wp2
      go_roundw
      case rel => exact ⟨n + 1, by omega, by go_num, L2.out⟩
      case measure => simp [intOf]; omega
    · have j1 : ¬ (n : Int) < u.c.x5 := by omega
      obtain rfl : n = u.c.x5.toNat := by omega
      clear RS hSL
      obtain ⟨nw0, hnw0⟩ : ∃ l, slN u ((q : Int) + 1) u.c.x5.toNat = l := ⟨_, rfl⟩
      have R0 := SlAt.rowW L
      rw [hnw0] at R0 MH
      have HN0 : Hid (nw0.length = u.ws.length) := hide (by rw [← hnw0]; exact slN_length _ _ _)
      have inw : ∀ x ∈ ((nw0.set k ov).set kq nv), I64 x := by
        refine set_i64 (set_i64 ?_ k iov) kq inv
        rw [← hnw0]; exact slN_i64 o.out.ws iq1 _
      have HIN := hide inw
      have HR0 := hide R0
      clear inw hnw0 R0 L iq1
      go_wp2_with fail
      refine (RLk.out _).mono ?_
      rintro e w5 ⟨rfl, hb1⟩
      have HR1 := hide (HR0.out.keep hb1)
      replace C1 := HR1.out.b
      replace CC := HR1.out.c
      clear hb1 HR0 RLk
      go_wp2_with fail
      refine (RLq.out _).mono ?_
      rintro e w6 ⟨rfl, hb1⟩
      have HR2 := hide (HR1.out.keep hb1)
      clear hb1 HR1 RLq C1 CC
      obtain ⟨cur2, x2, hc2, hx2⟩ := HR2.out.cell HKL.out
      have kk0 : (0 : Int) ≤ (k : Int) := Int.natCast_nonneg _
      have kk1 : (k : Int) < (u.ws.length : Int) := by have := HKL.out; omega
      have kq0 : (0 : Int) ≤ (kq : Int) := Int.natCast_nonneg _
      have kq1 : (kq : Int) < (u.ws.length : Int) := by have := HKQ.out; omega
      have C1 := HR2.out.b
      go_upto_region 16 with fail
      have HR3 := hide (HR2.out.set k ov)
      clear hc2 hx2 HR2 C1
      obtain ⟨cur3, x3, hc3, hx3⟩ := HR3.out.cell HKQ.out
      have C1 := HR3.out.b
      generalize w6.setCell ⟨g, k, none⟩ (.int .i64 ov) = w7 at *
      go_upto_region 17 with fail
      have HR4 := hide (HR3.out.set kq other)
      clear hc3 hx3 HR3 C1
      obtain ⟨cur4, x4, hc4, hx4⟩ := HR4.out.cell HKQ.out
      have C1 := HR4.out.b
      generalize w7.setCell ⟨g, kq, none⟩ (.int .i64 other) = w9 at *
      go_upto_if 134 with fail
      go_cut [] from 135 (fun wc => RowW u a g ((nw0.set k ov).set kq nv) w wc)
      case first =>
        as_aux_lemma =>
        cases op with
        | true =>
          have e : ov = nv := HNV.out
          subst e
          clear HNV MH
          go_wp2_with fail
          go_meet
          have t := HR4.out.set kq ov
          rw [List.set_set] at t
          exact t
        | false =>
          have e : other = nv := HNV.out
          subst e
          clear HNV MH
          go_wp2_with fail
          go_meet
          exact HR4.out
      case rest =>
      clear hc4 hx4 HR4 C1
      obtain ⟨cur5, hc5, hcl5, htk5⟩ := hcut.row
      have C1 := hcut.b
      have CC := hcut.c
      have hB5 := hcut.lo
      have hg5 := hcut.g
      obtain ⟨nw, hnw⟩ : ∃ l, ((nw0.set k ov).set kq nv) = l := ⟨_, rfl⟩
      rw [hnw] at MH htk5 HIN
      have HN : Hid (nw.length = u.ws.length) := hide (by rw [← hnw]; simpa using HN0.out)
      have ne1 : ¬ g = w.heap.size := by omega
      clear hcut hnw HN0
      go_upto_region 21 with fail
      have C1x : boxOf ((wc.setCell ⟨w.heap.size, 14, none⟩ (.slice (some ⟨g, 0, none⟩) u.ws.length cq)).setCell ⟨w.heap.size, 16, none⟩ (.int .i64 19)) w.heap.size = some (tcs ({ u with ws := nw, ta := u.ta, d := { u.d with ph := 19, who := u.d.who } } : Tn) ({ a with mA := some ⟨g, 0, none⟩, mc := cq } : TA)) := by
        have t := boxOf_set _ w.heap.size 16 (.int .i64 19) (boxOf_set _ w.heap.size 14 (.slice (some ⟨g, 0, none⟩) u.ws.length cq) C1)
        rw [← HN.out, ts14, ts16] at t
        rw [← HN.out]
        exact t
      have hBX : Below w.heap.size w ((wc.setCell ⟨w.heap.size, 14, none⟩ (.slice (some ⟨g, 0, none⟩) u.ws.length cq)).setCell ⟨w.heap.size, 16, none⟩ (.int .i64 19)) := (hB5.setCell (by simp) _).setCell (by simp) _
      have sX : Sees ((wc.setCell ⟨w.heap.size, 14, none⟩ (.slice (some ⟨g, 0, none⟩) u.ws.length cq)).setCell ⟨w.heap.size, 16, none⟩ (.int .i64 19)) ((wc.setCell ⟨w.heap.size, 14, none⟩ (.slice (some ⟨g, 0, none⟩) u.ws.length cq)).setCell ⟨w.heap.size, 16, none⟩ (.int .i64 19)).heap.size 1 (some ⟨g, 0, none⟩) nw.length (nw.map (Value.int .i64)) := by
        have t := sees_take hc5 htk5 HN.out.symm
        exact (t.own1 _ _ _ (fun _ p hp => by cases hp; exact ne1)).own1 _ _ _ (fun _ p hp => by cases hp; exact ne1)
      have hl := h.out.later hBX
      have TX : TnAt ((wc.setCell ⟨w.heap.size, 14, none⟩ (.slice (some ⟨g, 0, none⟩) u.ws.length cq)).setCell ⟨w.heap.size, 16, none⟩ (.int .i64 19)) ({ u with ws := nw, ta := u.ta, d := { u.d with ph := 19, who := u.d.who } } : Tn) ({ a with mA := some ⟨g, 0, none⟩, mc := cq } : TA) := ⟨h.out.m.words_at hBX sX HN.out, hl.bx, ⟨hl.th.b, hl.th.k, hl.th.h⟩, hl.tp, hl.lg⟩
      clear sX hl htk5 hc5 hcl5 hB5 hg5 C1 CC
      generalize ((wc.setCell ⟨w.heap.size, 14, none⟩ (.slice (some ⟨g, 0, none⟩) u.ws.length cq)).setCell ⟨w.heap.size, 16, none⟩ (.int .i64 19)) = yX at *
      generalize ({ a with mA := some ⟨g, 0, none⟩, mc := cq } : TA) = a1 at *
      have Lp0 : LpC yX.heap.size (meT u nw k kq p q op 0) a1 yX ((yX.alloc (.cells zT.toArray 38)).setCells yX.heap.size 0 (tcs ({ u with ws := nw, ta := u.ta, d := { u.d with ph := 19, who := u.d.who } } : Tn) a1)) := ⟨boxY yX ({ u with ws := nw, ta := u.ta, d := { u.d with ph := 19, who := u.d.who } } : Tn) a1 38, TX.later (belowY yX ({ u with ws := nw, ta := u.ta, d := { u.d with ph := 19, who := u.d.who } } : Tn) a1 38), TX.off (Nat.le_refl _), belowY yX ({ u with ws := nw, ta := u.ta, d := { u.d with ph := 19, who := u.d.who } } : Tn) a1 38, Nat.le_refl _⟩
      have hok := hide (fun n (hn : n < 4) => meT_ok o.out HIN.out (k := k) (kq := kq) (p := p) (op := op) ht q16 n hn)
      have hnx := hide (fun n (hn : n < 4) => meT_next MH.out hn)
      have hsm := hide (fun n => meT_same u nw k kq p q op n)
      have hat := hide (fun n => meT_i64 u nw k kq p q op n (by have := o.out.t; omega) hta.out)
      have hC1 := hide C1x
      have hTX := hide TX
      have hBXh := hide hBX
      clear TX hBX HIN
      go_wp2_with fail
      clear C1x
      go_loopw [17] (fun nv wq => ∃ n : Nat, n ≤ 4 ∧ nv = .int .i64 n ∧ ∃ b, LpC yX.heap.size (meT u nw k kq p q op n) b yX wq) (fun nv _ => 4 - (intOf nv).toNat)
      case atStart => exact ⟨0, Nat.zero_le _, rfl, a1, Lp0⟩
      case round =>
        obtain ⟨n, hn, rfl, b, Lp⟩ := hrel
        clear Lp0
        have C9 := Lp.b
        by_cases hlt : n < 4
        · have hn4 : (n : Int) < 4 := by omega
          have S0 := cstep_any (meT u nw k kq p q op n) b (hok.out n hlt) (by rw [(hsm.out n).1]; exact ht) (by rw [(hsm.out n).2.1]; exact hit) (by rw [(hsm.out n).2.2.1]; exact hly) (hat.out n) _ Lp.t
          rw [(hnx.out n hlt).1, (hnx.out n hlt).2] at S0
          have vl : (meT u nw k kq p q op (n + 1)).ws.length = u.ws.length := (hsm.out _).2.2.2.trans HN.out
          obtain ⟨v, hv⟩ : ∃ v, meT u nw k kq p q op (n + 1) = v := ⟨_, rfl⟩
          rw [hv] at S0 vl
          have HVV := hide hv
          obtain ⟨u1, hu1⟩ : ∃ x, meT u nw k kq p q op n = x := ⟨_, rfl⟩
          rw [hu1] at S0 Lp C9
          have HLp := hide Lp
          clear Lp hv hu1
          go_wp2_with fail
          refine S0.mono ?_
          rintro e z1 ⟨b', rfl, T2, off2, hb1⟩
          have LN := hide (HLp.out.next T2 off2 hb1 38)
          have D9 := boxOf_keep C9 hb1
          have lk := Nat.lt_of_lt_of_le (boxOf_lt C9) hb1.size
          have ne5 : ¬ z1.heap.size = yX.heap.size := by omega
          have ne6 : ¬ yX.heap.size = z1.heap.size := by omega
          clear C9 hb1 T2 off2 S0 HLp
          go_wp2
          go_roundw
          case rel => exact ⟨n + 1, by omega, by go_num, b', by rw [HVV.out]; exact LN.out⟩
          case measure => simp [intOf]; omega
        · obtain rfl : n = 4 := by omega
          have cU := Lp.box hC1.out
          have hBF := below_next hBXh.out hBXh.out.size Lp.lo
          have V1 : (meT u nw k kq p q op 4).ws.length = u.ws.length := (hsm.out 4).2.2.2.trans HN.out
          have HO := hide (fun e => me_open MH.out e)
          have HS := hide (fun e => me_shut MH.out e)
          obtain ⟨V, hV⟩ : ∃ x, meT u nw k kq p q op 4 = x := ⟨_, rfl⟩
          rw [hV] at Lp C9 V1 HO HS
          have hbx : boxes a1.bs = u.bx := hTX.out.bx
          have hbx2 : boxes a.bs = u.bx := h.out.bx
          have hl1 : a1.bs.length = a.bs.length := by
            have := congrArg List.length (hbx.trans hbx2.symm)
            simpa [boxes] using this
          have myb := my.out.b
          obtain ⟨bb, bo, eB, _, hcB⟩ := hTX.out.m.bxs.2 (show 0 < a1.bs.length by omega)
          obtain ⟨bq, hbq⟩ : ∃ bq, a1.bs[q]? = some bq := ⟨a1.bs[q]'(by omega), List.getElem?_eq_getElem _⟩
          have tcq := cell_keep (hcB q bq.val (by simp [hbq])) Lp.lo
          have hqs := (hTX.out.m.each bq (List.mem_of_getElem? hbq)).later Lp.lo
          have hql : bxV u.bx (q : Int) = bq.l := bxV_at (by rw [← hbx, boxes, List.getElem?_map, hbq]; rfl)
          have hq20 : bq.l.length ≤ 20 := by
            have hm : bq.l ∈ boxes a.bs := by
              rw [hbx2, ← hbx]
              exact List.mem_map.2 ⟨bq, List.mem_of_getElem? hbq, rfl⟩
            obtain ⟨b0, hb0, e0⟩ := List.mem_map.1 hm
            rw [← e0]
            exact sm.out.2.2.1 b0 hb0
          have b20 := sm.out.2.2.2.1
          have k20 := sm.out.2.2.2.2.1
          rw [hql] at HO
          have VL : V.d.bl.length ≤ 40 ∧ V.d.kl.length ≤ 21 := by
            cases op with
            | true =>
              obtain ⟨-, -, -, e1, e2⟩ := HO.out rfl
              rw [e1, e2, List.length_append, List.length_append]
              simp only [List.length_cons, List.length_nil]
              omega
            | false =>
              obtain ⟨-, -, -, e1, e2⟩ := HS.out rfl
              rw [e1, e2]
              omega
          have VL1 := VL.1
          have dB : decide ((60 : Int) < (V.d.bl.length : Int)) = false := decide_eq_false (by omega)
          have dK : decide ((30 : Int) < (V.d.kl.length : Int)) = false := decide_eq_false (by omega)
          have d1 : (a1.bs.length : Int) = u.c.x0 := by omega
          have hub2 : Hid (Sees wr wr.heap.size 3 a1.p.bA u.d.bl.length (ecells u.d.bl)) := hide (hTX.out.th.b.later Lp.lo)
          have HLp := hide Lp
          obtain ⟨qA, qc, ql⟩ := bq
          simp only [Bt.val] at tcq hqs hql hq20 HO
          have HQS := hide hqs
          clear hok hnx hsm hat hV Lp hC1 hTX hBXh hcB hbq hbx hbx2 hl1 myb MH hql hqs VL
          go_upto_region 31 with fail
          clear dB dK
          cases op with
          | false =>
            obtain ⟨f1, f2, f3, -, f5⟩ := HS.out rfl
            have e : other = nv := HNV.out
            obtain ⟨wb, wo, eA, _, hcA⟩ := HLp.out.t.m.words.2 (show 0 < V.ws.length by omega)
            have kc := hcA k (.int .i64 ov) (by rw [List.getElem?_map, f2, hov]; rfl)
            have kcq := hcA kq (.int .i64 other) (by rw [List.getElem?_map, f3, e]; rfl)
            have f6 : V.d.kl.length = u.d.kl.length := by rw [f5]
            clear HO HS HNV f2 f3 f5 hcA e hub2 HQS hov tcq
            go_wp2
            go_ret
            exact ⟨ret_b (by simp), hBF⟩
          | true =>
            as_aux_lemma =>
              obtain ⟨f1, f2, f3, f4, f5⟩ := HO.out rfl
              have hn : V.d.bl.length = u.d.bl.length + ql.length := by rw [f4, List.length_append]
              have hkl : V.d.kl.length = u.d.kl.length + 1 := by rw [f5, List.length_append]; rfl
              obtain ⟨wb, wo, eA, _, hcA⟩ := HLp.out.t.m.words.2 (show 0 < V.ws.length by omega)
              have kc := hcA k (.int .i64 0) (by rw [List.getElem?_map, f2]; rfl)
              have kcq := hcA kq (.int .i64 0) (by rw [List.getElem?_map, f3]; rfl)
              obtain ⟨kb, ko, x1, x2, eK, _, ek, ck1, ck2⟩ := HLp.out.t.th.k.kid (k := u.d.kl.length) (by omega)
              rw [f5, List.getElem?_append_right (Nat.le_refl _), Nat.sub_self] at ek
              simp only [List.getElem?_cons_zero, Option.some.injEq, Prod.mk.injEq] at ek
              rw [← ek.1] at ck1
              rw [← ek.2] at ck2
              obtain ⟨i1, hi1, hy0, hy1, hy2⟩ := info_parts info52
              have HF4 := hide f4
              have hnh := hide hn
              have hvb := hide HLp.out.t.th.b
              have hkw := hide (show IntKind.i64.wrap ((u.d.kl.length : Int) + 1) = (u.d.kl.length : Int) + 1 from w64 (by omega))
              have hkw2 := hide (show wrap64 ((u.d.kl.length : Int) + 1) = (u.d.kl.length : Int) + 1 from wrap64_id (i64_k _ ⟨by omega, by omega⟩))
              have hb5 := hide (show u.d.bl.length ≤ 100000 ∧ ql.length ≤ 100000 ∧ V.d.bl.length ≤ 100000 by omega)
              have hb6 := hide (show u.d.bl.length + ql.length ≤ maxLen by unfold maxLen; omega)
              have hb7 := hide (show (u.d.bl.length + ql.length) * 24 ≤ 140737488355328 by omega)
              have q0 : (0 : Int) ≤ (q : Int) := Int.natCast_nonneg _
              have HKN := hide (show (0 : Int) ≤ (u.d.kl.length : Int) ∧ (u.d.kl.length : Int) < (V.d.kl.length : Int) by omega)
              have HKE := hide (show ((V.d.kl.length : Int) == (u.d.kl.length : Int) + 1) = true by rw [hkl]; simp)
              have C9h := hide C9
              have eKh := hide eK
              have eAh := hide eA
              have HC1 := hide kc
              have HC2 := hide kcq
              have HC3 := hide ck1
              have HC4 := hide ck2
              have HF1 := hide f1
              have HV1 := hide V1
              have HBF := hide hBF
              clear HO HS HNV f1 f2 f3 f4 f5 hcA hov ek C9 eK eA hkl hn HLp kc kcq ck1 ck2 V1 hBF
              generalize wr = w8 at *
              have HZ0 := hide (show boxOf w8 w.heap.size = some (tcs ({ u with ws := nw, ta := u.ta, d := { u.d with ph := 19, who := u.d.who } } : Tn) a1) ∧ w8.cell? ⟨bb, bo + q, none⟩ = some (.slice qA ql.length qc) ∧ Below w8.heap.size w8 w8 from ⟨cU, tcq, Below.refl _ _⟩)
              have Z : boxOf w8.drew w.heap.size = some (tcs ({ u with ws := nw, ta := u.ta, d := { u.d with ph := 19, who := u.d.who } } : Tn) a1) ∧ w8.drew.cell? ⟨bb, bo + q, none⟩ = some (.slice qA ql.length qc) ∧ Below w8.heap.size w8 w8.drew := ⟨by rw [boxOf_drew]; exact cU, tcq, (Below.refl _ _).drew⟩
              have tok1 := hide True.intro
              clear cU tcq
              go_upto_region 33 with fail
              go_region_held3 (fun w' => boxOf w' w.heap.size = some (tcs ({ u with ws := nw, ta := u.ta, d := { u.d with ph := 19, who := u.d.who } } : Tn) a1) ∧ w'.cell? ⟨bb, bo + q, none⟩ = some (.slice qA ql.length qc) ∧ Below w8.heap.size w8 w')
                (first | (with_reducible exact Z) | (with_reducible exact Z1) | (with_reducible exact Z2) | (with_reducible exact Z3))
                (first
                  | (have _t := tok1; go_at_call 17; refine (ents_own a1.p.bA a1.p.bc u.d.bl u.d.bl.length rfl hb5.out.1 _ (hub2.out.later Z.2.2)).mono ?_; rintro e v1 ⟨r1, rfl, hr1, hb1⟩; have Z1 : boxOf v1 w.heap.size = some (tcs ({ u with ws := nw, ta := u.ta, d := { u.d with ph := 19, who := u.d.who } } : Tn) a1) ∧ v1.cell? ⟨bb, bo + q, none⟩ = some (.slice qA ql.length qc) ∧ Below w8.heap.size w8 v1 := keepM Z hb1; clear tok1)
                  | (have _t := hr1; go_at_call 17; refine (ents_any qA qc ql ql.length rfl hb5.out.2.1 _ (HQS.out.later Z1.2.2)).mono ?_; rintro e v2 ⟨E2, c2, rfl, _, s2, _, hb2⟩; have Z2 : boxOf v2 w.heap.size = some (tcs ({ u with ws := nw, ta := u.ta, d := { u.d with ph := 19, who := u.d.who } } : Tn) a1) ∧ v2.cell? ⟨bb, bo + q, none⟩ = some (.slice qA ql.length qc) ∧ Below w8.heap.size w8 v2 := keepM Z1 hb2; have hr2 := own_below hr1 hb2)
                  | (have _t := hr2; refine step_app (by rfl) _ _ _ (by rfl) w8.heap.size 84 i1 _ 3 24 Try.underlying48 hi1 hy0 hy1 hy2 rfl (by decide) r1 u.d.bl.length _ (by simp [go_sem]) hr2 _ E2 ql.length c2 _ (by simp [go_sem]) s2 (ecells_one _) hb6.out hb7.out Z2.2.2.size ?_; intro v' W4 hr4 hg4; have hbw : Below w8.heap.size w8 W4 := Z2.2.2.grown hg4 Z2.2.2.size (own_at hr2); have Z3 : boxOf W4 w.heap.size = some (tcs ({ u with ws := nw, ta := u.ta, d := { u.d with ph := 19, who := u.d.who } } : Tn) a1) ∧ W4.cell? ⟨bb, bo + q, none⟩ = some (.slice qA ql.length qc) ∧ Below w8.heap.size w8 W4 := ⟨boxOf_keep HZ0.out.1 hbw, cell_keep HZ0.out.2.1 hbw, hbw⟩)
                  | fail)
              obtain ⟨wA, wcp, rfl, _⟩ := own_form hr4
              have s3 : Hid (Sees W4 W4.heap.size 3 wA (u.d.bl.length + ql.length) (ecells V.d.bl)) := hide (by rw [HF4.out, ecells_append]; exact Sees.of_own hr4)
              have hbw := Z3.2.2
              have cU4 := Z3.1
              have C94 := boxOf_keep C9h.out hbw
              have kc4 := cell_keep HC1.out hbw
              have kcq4 := cell_keep HC2.out hbw
              have ck14 := cell_keep HC3.out hbw
              have ck24 := cell_keep HC4.out hbw
              have hvb4 := hide (hvb.out.later hbw)
              have HBG := hide (below_next HBF.out HBF.out.size hbw)
              clear hr1 hr2 hr4 hg4 s2 Z HZ0 Z1 Z2 Z3 HC1 HC2 HC3 HC4 hvb C9h HBF hbw hub2 HQS hi1 hy0 hy1 hy2 hb1 hb2
              go_upto_region 34 with fail
              generalize W4 = y8 at *
              have eK := eKh.out
              have eA := eAh.out
              have f1 := HF1.out
              have V1 := HV1.out
              have kn0 := HKN.out.1
              have kn1 := HKN.out.2
              have keq := HKE.out
              have hkwo := hkw.out
              have hkwo2 := hkw2.out
              clear eKh eAh hkw hkw2 HF1 HV1 HKN HKE
              as_aux_lemma =>
                have Z : boxOf y8.drew w.heap.size = some (tcs ({ u with ws := nw, ta := u.ta, d := { u.d with ph := 19, who := u.d.who } } : Tn) a1) ∧ boxOf y8.drew yX.heap.size = some (tcs V b) ∧ y8.drew.cell? ⟨wb, wo + k, none⟩ = some (.int .i64 0) ∧ y8.drew.cell? ⟨wb, wo + kq, none⟩ = some (.int .i64 0) ∧ y8.drew.cell? ⟨kb, ko + u.d.kl.length * 2, none⟩ = some (.int .i64 (q : Int)) ∧ y8.drew.cell? ⟨kb, ko + u.d.kl.length * 2 + 1, none⟩ = some (.int .i64 (u.d.bl.length : Int)) ∧ Below y8.heap.size y8 y8.drew := ⟨by rw [boxOf_drew]; exact cU4, by rw [boxOf_drew]; exact C94, kc4, kcq4, ck14, ck24, (Below.refl _ _).drew⟩
                clear cU4 C94 kc4 kcq4 ck14 ck24
                go_region_held3 (fun w' => boxOf w' w.heap.size = some (tcs ({ u with ws := nw, ta := u.ta, d := { u.d with ph := 19, who := u.d.who } } : Tn) a1) ∧ boxOf w' yX.heap.size = some (tcs V b) ∧ w'.cell? ⟨wb, wo + k, none⟩ = some (.int .i64 0) ∧ w'.cell? ⟨wb, wo + kq, none⟩ = some (.int .i64 0) ∧ w'.cell? ⟨kb, ko + u.d.kl.length * 2, none⟩ = some (.int .i64 (q : Int)) ∧ w'.cell? ⟨kb, ko + u.d.kl.length * 2 + 1, none⟩ = some (.int .i64 (u.d.bl.length : Int)) ∧ Below y8.heap.size y8 w')
                  (first | (with_reducible exact Z) | (with_reducible exact Z1) | (with_reducible exact Z2))
                  (first
                    | (go_at_call 17; refine (ents_any b.p.bA b.p.bc V.d.bl V.d.bl.length rfl hb5.out.2.2 _ (hvb4.out.later Z.2.2.2.2.2.2)).mono ?_; rintro e v1 ⟨E5, c5, rfl, _, s5, _, hb1⟩; have Z1 : boxOf v1 w.heap.size = some (tcs ({ u with ws := nw, ta := u.ta, d := { u.d with ph := 19, who := u.d.who } } : Tn) a1) ∧ boxOf v1 yX.heap.size = some (tcs V b) ∧ v1.cell? ⟨wb, wo + k, none⟩ = some (.int .i64 0) ∧ v1.cell? ⟨wb, wo + kq, none⟩ = some (.int .i64 0) ∧ v1.cell? ⟨kb, ko + u.d.kl.length * 2, none⟩ = some (.int .i64 (q : Int)) ∧ v1.cell? ⟨kb, ko + u.d.kl.length * 2 + 1, none⟩ = some (.int .i64 (u.d.bl.length : Int)) ∧ Below y8.heap.size y8 v1 := keepN Z hb1)
                    | (go_at_call 16; refine (same_any E5 wA c5 wcp V.d.bl.length (u.d.bl.length + ql.length) V.d.bl V.d.bl rfl (hnh.out.symm) hb5.out.2.2 _ s5 (s3.out.later Z1.2.2.2.2.2.2)).mono ?_; rintro e v2 ⟨rfl, hb2⟩; have Z2 : boxOf v2 w.heap.size = some (tcs ({ u with ws := nw, ta := u.ta, d := { u.d with ph := 19, who := u.d.who } } : Tn) a1) ∧ boxOf v2 yX.heap.size = some (tcs V b) ∧ v2.cell? ⟨wb, wo + k, none⟩ = some (.int .i64 0) ∧ v2.cell? ⟨wb, wo + kq, none⟩ = some (.int .i64 0) ∧ v2.cell? ⟨kb, ko + u.d.kl.length * 2, none⟩ = some (.int .i64 (q : Int)) ∧ v2.cell? ⟨kb, ko + u.d.kl.length * 2 + 1, none⟩ = some (.int .i64 (u.d.bl.length : Int)) ∧ Below y8.heap.size y8 v2 := keepN Z1 hb2; rw [decide_eq_true rfl])
                    | fail)
                go_wp2
                go_ret
                exact ⟨ret_b (by simp), below_next HBG.out HBG.out.size Z2.2.2.2.2.2.2⟩
end Go.Proofs.Ytjghdbkkjhnpfaa
