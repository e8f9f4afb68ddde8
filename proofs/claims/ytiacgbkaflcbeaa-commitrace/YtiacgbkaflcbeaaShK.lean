/- The contracts of kid and Settle. -/
import Derived.Test.YtiacgbkaflcbeaaTn
import Derived.Lib.QuietBelow
import Derived.Deep.QuietTactic
import Derived.BigQuiet
namespace Go.Proofs.Ytiacgbkaflcbeaa
open Go.RowKit Go.Sort
set_option linter.unusedVariables false
set_option linter.unusedSimpArgs false

attribute [local irreducible] tcs thc ccs zT
attribute [local go_sem ↓] alTn_is
attribute [local go_sem] run_alTnf run_alTnt zT_length
attribute [local go_sem ↓] lbTn_is lbTh_is lbCf_is lbRc_is sbTn_is sbTh_is sbCf_is sbRc_is
attribute [local go_sem] run_lbTn run_lbTh run_lbCf run_lbRc run_sbTn run_sbTh run_sbCf run_sbRc
attribute [local go_sem 2000] boxOf_old'
attribute [local go_sem] boxOf_at' boxOf_free' boxOf_alloc objBox_cells objBox_cellsA boxOf_drew boxOf_setI boxOf_setsI size_sets tcs_length thc_length ccs_length tcs_one thc_one ccs_one sub_tn sub_th sub_cf sub_thAll sub_cfAll put_turn put_thread
attribute [local go_sem] tc0 tc1 tc2 tc3 tc4 tc5 tc6 tc7 tc8 tc9 tc10 tc11 tc12 tc13 tc14 tc15 tc16 tc17 tc18 tc19 tc20 tc21 tc22 tc23 tc24 tc25 tc26 tc27 tc28 tc29 tc30 tc31 tc32 tc33 tc34 tc35 tc36 hc0 hc1 hc2 hc3 hc4 hc5 hc6 hc7 hc8 hc9 hc10 hc11 hc12 hc13 hc14 hc15 hc16 kc0 kc1 kc2 kc3 kc4 kc5 kc6 kc7 kc8 kc9 kc10 kc11 tg0 tg1 tg2 tg3 tg4 tg5 tg6 tg7 tg8 tg9 tg10 tg11 tg12 tg13 tg14 tg15 tg16 tg17 tg18 tg19 tg20 tg21 tg22 tg23 tg24 tg25 tg26 tg27 tg28 tg29 tg30 tg31 tg32 tg33 tg34 tg35 tg36 hg0 hg1 hg2 hg3 hg4 hg5 hg6 hg7 hg8 hg9 hg10 hg11 hg12 hg13 hg14 hg15 hg16 kg0 kg1 kg2 kg3 kg4 kg5 kg6 kg7 kg8 kg9 kg10 kg11
attribute [local go_sem] ts12 ts13 ts14 ts16 ts17 ts18 ts19 ts20 ts21 ts22 ts23 ts24 ts25 ts26 ts27 ts28 ts29 ts30 ts31 ts32 ts33 ts34 ts35 ts36 ts15 hs0 hs1 hs2 hs3 hs7 hs8 hs9 hs10 hs11 hs12 hs13 hs14 hs15 hs16

/-- Results out of a box: alone; with a bool. -/
theorem results_box {fn : Func} {p : Tmp} {ty : TypeId} (h : fn.results = #[.cell p ty]) (tmps : Array Value) (w : World) (g : Nat) (cs : List Value) (d : TypeDesc) (hp : tmps.getD p undef = .pointer (some ⟨g, 0, none⟩)) (hc : boxOf w g = some cs)
    (hu : Try.prog.underlying ty = some d) (hd : d.isRow = true) (hi : (Try.prog.info? ty).map (·.size) = some cs.length) : (results fn tmps).run Try.prog w = .ok (.agg cs.toArray) w :=
  results_at h tmps w g cs d hp (boxOf_range hc) hu hd hi
theorem results_box2 {fn : Func} {p q : Tmp} {ty : TypeId} (h : fn.results = #[.cell p ty, .tmp q]) (tmps : Array Value) (w : World) (g : Nat) (cs : List Value) (d : TypeDesc) (v : Value) (hp : tmps.getD p undef = .pointer (some ⟨g, 0, none⟩)) (hq : tmps.getD q undef = v) (hc : boxOf w g = some cs)
    (hu : Try.prog.underlying ty = some d) (hd : d.isRow = true) (hi : (Try.prog.info? ty).map (·.size) = some cs.length) : (results fn tmps).run Try.prog w = .ok (.tuple #[.agg cs.toArray, v]) w := by
  have hp' : tmps[p]?.getD undef = .pointer (some ⟨g, 0, none⟩) := by simpa using hp
  have hq' : tmps[q]?.getD undef = v := by simpa using hq
  simp [results, h, hp', hq', asAddr, run_loadVar_mid w g 0 ty cs d (boxOf_range hc) hu hd hi]
theorem belowN (w : World) (o : Obj) : Below w.heap.size w (w.alloc o) := (Below.refl _ _).alloc (Nat.le_refl _) _
/-- A store into a block that was not there. -/
theorem below_sets {B : Nat} (g : Nat) (hg : B ≤ g) : ∀ (vs : List Value) (o : Nat) (w w' : World), Below B w w' → Below B w (w'.setCells g o vs)
  | [], o, w, w', h => h
  | v :: r, o, w, w', h => by rw [World.setCells]; exact below_sets g hg r (o + 1) w _ (h.setCell (by simpa using hg) v)
theorem box_len_keep {w w' : World} {g n : Nat} (h : ((boxOf w g).getD []).length = n) (hn : 0 < n) (hb : Below w.heap.size w w') : ∃ zs : List Value, zs.length = n ∧ boxOf w' g = some zs :=
  ⟨_, h, boxOf_keep (box_some (by omega)) hb⟩
/-- The kid at a place. -/
def kidV (d : Dt) : Int × Int := if inR d.kl.length d.pl = true then d.kl[d.pl.toNat]?.getD (0, 0) else (0, 0)
def kidB (d : Dt) : Bool := inR d.kl.length d.pl
def KidPost (d : Dt) (w : World) (e : Ending) (w' : World) : Prop := e = .returned (.tuple #[.agg #[.int .i64 (kidV d).1, .int .i64 (kidV d).2], .bool (kidB d)]) ∧ Below w.heap.size w w'
set_option maxRecDepth 100000 in
set_option maxHeartbeats 4000000 in
theorem kid_any (d : Dt) (p : Ad) (w : World) (h : ThAt w d p) : Calls Try.prog 58 #[.agg (thc d p).toArray] w (KidPost d w) := by
  rcases inR_cases d.kl.length d.pl with ⟨k, hk, hkp⟩ | hno
  · obtain ⟨b, off, t, g, e1, hb, he, c1, c2⟩ := h.k.kid hk
    have H : Hid (kidV d = (t, g) ∧ kidB d = true) := hide ⟨by simp [kidV, hkp, inR_at hk, he], by simp [kidB, hkp, inR_at hk]⟩
    have k0 : (0 : Int) ≤ (k : Int) := Int.natCast_nonneg _
    have k1 : (k : Int) < (d.kl.length : Int) := by omega
    have k2 : ¬ (d.kl.length : Int) ≤ (k : Int) := by omega
    have k3 : ¬ (k : Int) < 0 := by omega
    clear hk he
    go_enter Try.func58, Try.ntmps58
    go_wp2
    refine bodyPost_ret (v := .tuple #[.agg #[.int .i64 t, .int .i64 g], .bool true]) (by simp [results, Try.results58, go_sem]) rfl ⟨?_, (belowN w _).alloc (by simp) _⟩
    rw [H.out.1, H.out.2]
  · have H : Hid (kidV d = (0, 0) ∧ kidB d = false) := hide ⟨by simp [kidV, inR_no hno], by simp [kidB, inR_no hno]⟩
    go_enter Try.func58, Try.ntmps58
    by_cases h0 : d.pl < 0
    · go_wp2
      refine bodyPost_ret (v := .tuple #[.agg #[.int .i64 0, .int .i64 0], .bool false]) (by simp [results, Try.results58, go_sem]) rfl ⟨?_, (belowN w _).alloc (by simp) _⟩
      rw [H.out.1, H.out.2]
    · have h1 : (d.kl.length : Int) ≤ d.pl := by omega
      clear hno
      go_wp2
      refine bodyPost_ret (v := .tuple #[.agg #[.int .i64 0, .int .i64 0], .bool false]) (by simp [results, Try.results58, go_sem]) rfl ⟨?_, (belowN w _).alloc (by simp) _⟩
      rw [H.out.1, H.out.2]
/-- What Settle makes of a turn. -/
def setlV (u : Tn) : Tn := if kidB u.d = true then { u with d := { u.d with ph := 15 } } else { u with d := { u.d with ph := 0 }, dn := true }
def TPost (u : Tn) (a : TA) (w : World) (e : Ending) (w' : World) : Prop := e = .returned (.agg (tcs u a).toArray) ∧ Below w.heap.size w w'
set_option maxRecDepth 100000 in
set_option maxHeartbeats 4000000 in
theorem settle_any (u : Tn) (a : TA) (w : World) (h : TnAt w u a) : Calls Try.prog 47 #[.agg (tcs u a).toArray] w (TPost (setlV u) a w) := by
  have hb : kidB u.d = true ∨ kidB u.d = false := by cases kidB u.d <;> simp
  go_enter Try.func47, Try.ntmps47
  go_wp2_with fail
  refine (kid_any u.d a.p _ (h.th.later ((belowN w _).alloc (by simp) _))).mono ?_
  rintro e w1 ⟨rfl, hb1⟩
  have B1 := boxOf_keep (g := w.heap.size) (cs := tcs u a) (by simp [go_sem]) hb1
  obtain ⟨zs, hz, B2⟩ := box_len_keep (g := w.heap.size + 1) (n := 37) (by simp [go_sem]) (by decide) hb1
  have hs1 : w.heap.size + 1 < w1.heap.size := by have := hb1.size; simp at this; omega
  have hB : Below w.heap.size w w1 := below_next ((belowN w _).alloc (by simp) _) (by simp; omega) hb1
  clear hb1
  rcases hb with hb | hb
  · have H : Hid (setlV u = { u with d := { u.d with ph := 15 } }) := hide (by rw [setlV, if_pos hb])
    go_wp2
    refine bodyPost_ret (v := .agg (tcs { u with d := { u.d with ph := 15 } } a).toArray) (results_box Try.results47 _ _ (w.heap.size + 1) _ _ rfl (by simp [go_sem, B1, B2, hz]) Try.underlying38 rfl (by kernel_rfl)) rfl ⟨by rw [H.out], ?_⟩
    repeat first | exact hB | refine below_sets _ (by omega) _ _ _ _ ?_ | refine Below.setCell ?_ (by first | omega | (simp; omega) | simp) _ | refine Below.alloc ?_ (by first | omega | (simp; omega) | simp) _
  · have H : Hid (setlV u = { u with d := { u.d with ph := 0 }, dn := true }) := hide (by rw [setlV, if_neg (by simp [hb])])
    go_wp2
    refine bodyPost_ret (v := .agg (tcs { u with d := { u.d with ph := 0 }, dn := true } a).toArray) (results_box Try.results47 _ _ (w.heap.size + 1) _ _ rfl (by simp [go_sem, B1, B2, hz]) Try.underlying38 rfl (by kernel_rfl)) rfl ⟨by rw [H.out], ?_⟩
    repeat first | exact hB | refine below_sets _ (by omega) _ _ _ _ ?_ | refine Below.setCell ?_ (by first | omega | (simp; omega) | simp) _ | refine Below.alloc ?_ (by first | omega | (simp; omega) | simp) _
end Go.Proofs.Ytiacgbkaflcbeaa
