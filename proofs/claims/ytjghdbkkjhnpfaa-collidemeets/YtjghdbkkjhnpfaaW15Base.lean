/- What the laws of layer 15 begin with. -/
import Derived.Test.YtjghdbkkjhnpfaaCoI
import Derived.Test.YtjghdbkkjhnpfaaSh15
import Derived.Test.YtjghdbkkjhnpfaaMayT
import Derived.Test.YtjghdbkkjhnpfaaTnI
import Derived.Lib.QuietBelow
import Derived.Deep.QuietTactic
import Derived.BigQuiet
namespace Go.Proofs.Ytjghdbkkjhnpfaa
open Go.RowKit Go.Sort
set_option linter.unusedVariables false
set_option linter.unusedSimpArgs false

theorem tt_my {u : Tn} {n : Nat} (my : MayOk u n) (o : CfK u.c) : 0 ≤ u.tt ∧ u.tt ≤ 15 := by
  have h0 := my.t0
  have h1 := my.t1
  have h2 := o.h0
  omega
theorem ok_my {u : Tn} {n : Nat} (my : MayOk u n) : CfK u.c := (ck_ok _ _ _ _ _ _ _ _ _ _ _ _).1 my.c
theorem er_in {ws : List Int} {i : Int} {k : Nat} (hk : i = (k : Int)) (hl : k < ws.length) : erV ws.length i = 0 := by rw [hk, erV_at hl]
theorem ld_in {ws : List Int} {i : Int} {k : Nat} {x : Int} (hk : i = (k : Int)) (hx : ws[k]? = some x) : ldV ws i = x := by rw [hk, ldV_at hx]
theorem word_cell {w : World} {B b off n k : Nat} {l : List Int} {x : Int} (h : Sees w B 1 (some ⟨b, off, none⟩) n (l.map (Value.int .i64))) (he : l[k]? = some x) : w.cell? ⟨b, off + k, none⟩ = some (.int .i64 x) := by
  have hk := (List.getElem?_eq_some_iff.1 he).1
  have hn : 0 < n := by have := h.1; simp at this; omega
  obtain ⟨b', off', e', hb, hc⟩ := h.2 hn
  cases e'
  exact hc k _ (by simp [he])
theorem Sees.some_of {w : World} {B sz n : Nat} {A : Option Addr} {xs : List Value} (h : Sees w B sz A n xs) (hn : 0 < n) : ∃ b off, A = some ⟨b, off, none⟩ ∧ b < B := by
  obtain ⟨b, off, e, hb, _⟩ := h.2 hn; exact ⟨b, off, e, hb⟩
theorem keepR {w W W' : World} {g gk gz : Nat} {cs ds es : List Value} (h : boxOf W g = some cs ∧ boxOf W gk = some ds ∧ boxOf W gz = some es ∧ Below w.heap.size w W) (hb : Below W.heap.size W W') : boxOf W' g = some cs ∧ boxOf W' gk = some ds ∧ boxOf W' gz = some es ∧ Below w.heap.size w W' := ⟨boxOf_keep h.1 hb, boxOf_keep h.2.1 hb, boxOf_keep h.2.2.1 hb, below_next h.2.2.2 h.2.2.2.size hb⟩
theorem rem_15 (z m : Int) (z0 : 0 ≤ z) (h : 1 ≤ m ∧ m ≤ 16) : 0 ≤ z % m ∧ z % m ≤ 15 := by
  have := Int.emod_nonneg z (show m ≠ 0 by omega); have := Int.emod_lt_of_pos z (show 0 < m by omega); omega
theorem trem_15 (z m : Int) (z0 : 0 ≤ z) (h : 1 ≤ m ∧ m ≤ 16) : 0 ≤ z.tmod m ∧ z.tmod m ≤ 15 := by
  have := Int.tmod_nonneg m z0; have := Int.tmod_lt_of_pos z (show 0 < m by omega); omega
theorem own_box {w : World} {base n : Nat} {v : Value} {l : List Int} (hn : 0 < n) (h : w.ownsRow base 3 1 v n ([] ++ l.map (Value.int .i64))) : ∃ g cap cur, v = .slice (some ⟨g, 0, none⟩) n cap ∧ base ≤ g ∧ boxOf w g = some cur ∧ n ≤ cur.length ∧ cur.take n = l.map (Value.int .i64) := by
  rw [List.nil_append] at h
  rcases h.2 with ⟨_, h0⟩ | ⟨g, cap, cur, hv, hb, hh, hc, _, hz, ht⟩
  · omega
  · exact ⟨g, cap, cur.toList, hv, hb, boxOf_iff.2 ⟨3, by simpa using hh⟩, by simp; omega, by simpa using ht⟩
theorem sees_take {w : World} {g n : Nat} {cur : List Value} {l : List Int} (hb : boxOf w g = some cur) (ht : cur.take n = l.map (Value.int .i64)) (hn : n = l.length) : Sees w w.heap.size 1 (some ⟨g, 0, none⟩) l.length (l.map (Value.int .i64)) := by
  refine ⟨by simp, fun _ => ⟨g, 0, rfl, boxOf_lt hb, fun j v hv => ?_⟩⟩
  rw [Nat.zero_add, boxOf_at w g j hb]
  rw [← ht, List.getElem?_take] at hv
  split at hv
  · exact hv
  · cases hv
theorem take_set {cur : List Value} {n k : Nat} {l : List Int} (ht : cur.take n = l.map (Value.int .i64)) (x : Int) : (cur.set k (.int .i64 x)).take n = (l.set k x).map (Value.int .i64) := by
  rw [List.take_set, ht, List.map_set]
theorem DtWf.allG {d : Dt} (f : DtWf d) {ph pl who : Int} {bl : List E3} {kl : List (Int × Int)} (h1 : I64 ph) (h2 : I64 pl) (h3 : I64 who) (h4 : Good bl) (h5 : ∀ e ∈ kl, I64 e.1 ∧ I64 e.2) : DtWf { d with ph := ph, pl := pl, who := who, bl := bl, kl := kl } := by
  refine ⟨fun e he => ?_, f.t, f.v, h4, f.h, h5⟩
  simp only [Dt.nums, List.mem_cons, List.not_mem_nil, or_false] at he
  rcases he with rfl | rfl | rfl | rfl | rfl | rfl | rfl | rfl | rfl | rfl | rfl | rfl <;> first | assumption | exact f.n _ (by simp [Dt.nums])
theorem TnOk.allG {u : Tn} (o : TnOk u) {ph pl who : Int} {bl : List E3} {kl : List (Int × Int)} {ws : List Int} {bx : List (List E3)} (h1 : I64 ph) (h2 : I64 pl) (h3 : I64 who) (h4 : Good bl) (h5 : ∀ e ∈ kl, I64 e.1 ∧ I64 e.2) (h6 : bl.length ≤ 200) (h7 : kl.length ≤ 200) (h8 : ∀ x ∈ ws, I64 x) : TnOk ({ u with ws := ws, bx := bx, d := { u.d with ph := ph, pl := pl, who := who, bl := bl, kl := kl } } : Tn) := ⟨h6, h7, o.h, o.l, o.t, o.f.allG h1 h2 h3 h4 h5, o.lo, o.hi, o.tt, h8, o.c⟩
theorem TnOk.ph {u : Tn} (o : TnOk u) {ph : Int} {ws : List Int} {bx : List (List E3)} (h1 : I64 ph) (h8 : ∀ x ∈ ws, I64 x) : TnOk ({ u with ws := ws, bx := bx, d := { u.d with ph := ph } } : Tn) := o.allG h1 o.ipl o.iwho o.f.b o.f.k o.b o.k h8
theorem set_i64 {ws : List Int} (h : ∀ x ∈ ws, I64 x) (k : Nat) {v : Int} (hv : I64 v) : ∀ x ∈ ws.set k v, I64 x := fun x hx => by
  rcases List.mem_or_eq_of_mem_set hx with h' | rfl
  · exact h x h'
  · exact hv
theorem ln_in {u : Tn} {m : Nat} (my : MayOk u m) {t : Int} (h0 : 0 ≤ t) (h1 : t < u.c.x0) : ∃ k : Nat, lnV u.c t = (k : Int) ∧ k < u.ws.length ∧ (k : Int) = u.c.x1 * bkV u.c.x3 u.c.x4 u.c.x5 + 2 * t := by
  have o := ok_my my
  have hb := bk_le o.h3 o.h4 o.h5
  have hw := my.w
  have hx := o.h1
  unfold szV sizeV at hw
  have e : lnV u.c t = u.c.x1 * bkV u.c.x3 u.c.x4 u.c.x5 + 2 * t := by unfold lnV lineV; rw [if_pos ⟨h0, h1⟩]
  generalize bkV u.c.x3 u.c.x4 u.c.x5 = bk at *
  have a1 : 0 ≤ u.c.x1 * bk := Int.mul_nonneg (by omega) (by omega)
  exact ⟨(lnV u.c t).toNat, by omega, by omega, by omega⟩
theorem sl_in {u : Tn} {m : Nat} (my : MayOk u m) {n : Int} (hl0 : 1 ≤ u.d.ly) (hl1 : u.d.ly ≤ u.c.x4) (h0 : 0 ≤ n) (h1 : n < u.c.x5) : ∃ k : Nat, slV u.c u.d.it u.d.ly n = (k : Int) ∧ k < u.ws.length ∧ (k : Int) < u.c.x1 * bkV u.c.x3 u.c.x4 u.c.x5 ∧ (k : Int) = u.d.it * bkV u.c.x3 u.c.x4 u.c.x5 + 1 + ndV u.c.x3 + (u.d.ly - 1) * u.c.x5 + n := by
  have o := ok_my my
  have hb := bk_le o.h3 o.h4 o.h5
  have hn := nd_le o.h3
  have hw := my.w
  have hx := o.h1
  have ht := o.h0
  have i0 := my.i0
  have i1 := my.i1
  unfold szV sizeV at hw
  have e : slV u.c u.d.it u.d.ly n = u.d.it * bkV u.c.x3 u.c.x4 u.c.x5 + 1 + ndV u.c.x3 + (u.d.ly - 1) * u.c.x5 + n := by unfold slV slotV; rw [if_pos ⟨⟨i0, i1⟩, ⟨hl0, hl1⟩, h0, h1⟩]
  have eb : bkV u.c.x3 u.c.x4 u.c.x5 = 1 + ndV u.c.x3 + u.c.x4 * u.c.x5 := rfl
  have a4 : (u.d.ly - 1) * u.c.x5 + u.c.x5 ≤ u.c.x4 * u.c.x5 := by
    have := Int.mul_le_mul_of_nonneg_right (show u.d.ly - 1 + 1 ≤ u.c.x4 by omega) (show 0 ≤ u.c.x5 by omega)
    rw [Int.add_mul, Int.one_mul] at this; exact this
  have a5 : 0 ≤ (u.d.ly - 1) * u.c.x5 := Int.mul_nonneg (by omega) (by omega)
  generalize bkV u.c.x3 u.c.x4 u.c.x5 = bk at *
  have a1 : 0 ≤ u.d.it * bk := Int.mul_nonneg i0 (by omega)
  have a2 : (u.d.it + 1) * bk ≤ u.c.x1 * bk := Int.mul_le_mul_of_nonneg_right (by omega) (by omega)
  have a3 : (u.d.it + 1) * bk = u.d.it * bk + bk := by rw [Int.add_mul, Int.one_mul]
  exact ⟨(slV u.c u.d.it u.d.ly n).toNat, by omega, by omega, by omega, by omega⟩
theorem it_my {u : Tn} {m : Nat} (my : MayOk u m) : 0 ≤ u.d.it ∧ u.d.it ≤ 3 := by
  have h1 := my.i0; have h2 := my.i1; have h3 := (ok_my my).h1; omega
def LayPost (u : Tn) (n : Nat) (w : World) (e : Ending) (w' : World) : Prop := ∃ r, e = .returned (.bool r) ∧ (r = true → MayOk u n ∧ 1 ≤ u.d.ly ∧ u.d.ly ≤ 3) ∧ Below w.heap.size w w'
attribute [local irreducible] tcs thc ccs zT
attribute [local go_sem ↓] alTn_is alRn_is
attribute [local go_sem] run_alTnf run_alTnt run_alRnf run_alRnt zT_length
attribute [local go_sem ↓] lbTn_is lbRn_is lbTh_is lbRh_is lbCf_is lbRc_is sbTn_is sbRn_is sbTh_is sbRh_is sbCf_is sbRc_is
attribute [local go_sem] run_lbTn run_lbRn run_lbTh run_lbRh run_lbCf run_lbRc run_sbTn run_sbRn run_sbTh run_sbRh run_sbCf run_sbRc
attribute [local go_sem 2000] boxOf_old'
attribute [local go_sem] boxOf_at' boxOf_free' boxOf_alloc objBox_cells objBox_cellsA boxOf_drew boxOf_setI boxOf_setsI size_sets tcs_length thc_length ccs_length tcs_one thc_one ccs_one sub_tn sub_th sub_cf sub_thAll sub_cfAll put_turn put_thread
attribute [local go_sem] tc0 tc1 tc2 tc3 tc4 tc5 tc6 tc7 tc8 tc9 tc10 tc11 tc12 tc13 tc14 tc15 tc16 tc17 tc18 tc19 tc20 tc21 tc22 tc23 tc24 tc25 tc26 tc27 tc28 tc29 tc30 tc31 tc32 tc33 tc34 tc35 tc36 hc0 hc1 hc2 hc3 hc4 hc5 hc6 hc7 hc8 hc9 hc10 hc11 hc12 hc13 hc14 hc15 hc16 kc0 kc1 kc2 kc3 kc4 kc5 kc6 kc7 kc8 kc9 kc10 kc11 tg0 tg1 tg2 tg3 tg4 tg5 tg6 tg7 tg8 tg9 tg10 tg11 tg12 tg13 tg14 tg15 tg16 tg17 tg18 tg19 tg20 tg21 tg22 tg23 tg24 tg25 tg26 tg27 tg28 tg29 tg30 tg31 tg32 tg33 tg34 tg35 tg36 hg0 hg1 hg2 hg3 hg4 hg5 hg6 hg7 hg8 hg9 hg10 hg11 hg12 hg13 hg14 hg15 hg16 kg0 kg1 kg2 kg3 kg4 kg5 kg6 kg7 kg8 kg9 kg10 kg11
attribute [local go_sem] ts12 ts13 ts14 ts16 ts17 ts18 ts19 ts20 ts21 ts22 ts23 ts24 ts25 ts26 ts27 ts28 ts29 ts30 ts31 ts32 ts33 ts34 ts35 ts36 ts15 hs0 hs1 hs2 hs3 hs7 hs8 hs9 hs10 hs11 hs12 hs13 hs14 hs15 hs16

set_option maxRecDepth 100000 in
set_option maxHeartbeats 4000000 in
theorem lay_any (u : Tn) (a : TA) (w : World) : Calls Try.prog 10 #[.agg (tcs u a).toArray] w (LayPost u a.bs.length w) := by
  have hB := belowN w (.cells (tcs u a).toArray 38)
  have B1 : boxOf (w.alloc (.cells (tcs u a).toArray 38)) w.heap.size = some (tcs u a) := by simp [go_sem]
  have KM := fun W => hide (may_any u a W)
  have hc : (1 ≤ u.d.ly ∧ u.d.ly ≤ 3) ∨ (1 ≤ u.d.ly ∧ ¬ u.d.ly ≤ 3) ∨ ¬ 1 ≤ u.d.ly := by omega
  go_enter Try.func10, Try.ntmps10
  go_wp2_with fail
  generalize (w.alloc (.cells (tcs u a).toArray 38)) = wz at *
  refine (KM _).out.mono ?_
  rintro e w1 ⟨r, rfl, hr, hb1⟩
  replace B1 := boxOf_keep B1 hb1
  replace hB := below_next hB hB.size hb1
  clear KM hb1
  cases r with
  | false =>
    clear hr hc
    go_wp2
    go_ret
    exact ⟨false, rfl, fun e => absurd e (by decide), hB⟩
  | true =>
    have hm := hide (hr rfl)
    clear hr
    rcases hc with ⟨h1, h2⟩ | ⟨h1, h2⟩ | h1
    · have d1 : decide (1 ≤ u.d.ly) = true := decide_eq_true h1
      have d2 : decide (u.d.ly ≤ 3) = true := decide_eq_true h2
      have hx := hide (And.intro h1 h2)
      clear h1 h2
      go_wp2
      go_ret
      exact ⟨true, rfl, fun _ => ⟨hm.out, hx.out⟩, hB⟩
    · have d1 : decide (1 ≤ u.d.ly) = true := decide_eq_true h1
      have d2 : decide (u.d.ly ≤ 3) = false := decide_eq_false (by omega)
      clear h1 h2 hm
      go_wp2
      go_ret
      exact ⟨false, rfl, fun e => absurd e (by decide), hB⟩
    · have d1 : decide (1 ≤ u.d.ly) = false := decide_eq_false (by omega)
      clear h1 hm
      go_wp2
      go_ret
      exact ⟨false, rfl, fun e => absurd e (by decide), hB⟩
end Go.Proofs.Ytjghdbkkjhnpfaa
