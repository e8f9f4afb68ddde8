/- Layer 15: what a step does, as plain data; conditions, doings, may, to. -/
import Derived.Test.YtjghdbkkjhnpfaaGaT
import Derived.Test.YtjghdbkkjhnpfaaGaA
import Derived.Test.YtjghdbkkjhnpfaaClA
import Derived.Test.YtjghdbkkjhnpfaaTnI
import Derived.Test.YtjghdbkkjhnpfaaArT
import Derived.Test.YtjghdbkkjhnpfaaM4
import Derived.Test.YtjghdbkkjhnpfaaM5
import Derived.Test.YtjghdbkkjhnpfaaM6
import Derived.Test.YtjghdbkkjhnpfaaTapeB
import Derived.Lib.QuietBelow
import Derived.Deep.QuietTactic
import Derived.BigQuiet
import Derived.Laws.EntriesVeiled
namespace Go.Proofs.Ytjghdbkkjhnpfaa
open Go.RowKit Go.Sort
set_option linter.unusedVariables false
set_option linter.unusedSimpArgs false

/-- What Onward makes of a turn. -/
def onwV (u : Tn) : Tn := if u.d.ly < u.c.x4 ∧ lateB u.d.un u.now = false then { u with d := { u.d with ly := wrap64 (u.d.ly + 1), ph := 17 } } else { u with d := { u.d with ph := 2 } }
/-- The open word; the place of a slot; the draw, and the slot that it tells. -/
def opW (u : Tn) : Int := opV u.d.it u.d.ly
def slV (c : Cf) (i l s : Int) : Int := slotV c.x1 (bkV c.x3 c.x4 c.x5) (ndV c.x3) c.x4 c.x5 i l s
def drV (u : Tn) : Int := blD u.tl u.ta u.d.wd
def swP (u : Tn) : Int := slV u.c u.d.it u.d.ly (drV u)
/-- What a thread does behind its step. -/
def spnV (u : Tn) : Tn := ({ u with d := { u.d with lf := u.c.x6, ph := 23 } } : Tn)
def aprV (u : Tn) (q : Int) : Tn := { u with d := { u.d with who := wrap64 (q - 1), ph := 20 } }
def spoV (u : Tn) : Tn := { u with d := { u.d with lf := wrap64 (u.d.lf - 1) } }
def absV (u : Tn) (b : List E3) : Tn := { (tkG u u.d.who b) with d := { (tkG u u.d.who b).d with ph := 25 } }
def wdV (n : Int) : Int := if 2 ≤ n then n / 2 else 1
def leaV (u : Tn) : Tn := onwV { u with d := { u.d with wd := wdV u.d.wd } }
/-- What it reads or writes. -/
def stW (u : Tn) : Tn := { u with ws := stV u.ws (lnV u.c u.tt) (opW u) }
def cmW (u : Tn) (t : Int) : Tn := { u with ws := casV u.ws (lnV u.c t) (opW u) 0 }
def cmB (u : Tn) (t : Int) : Bool := casB u.ws (lnV u.c t) (opW u)
def swW (u : Tn) : Tn := { u with ws := stV u.ws (swP u) (u.tt + 1), ta := blA u.tl u.ta u.d.wd }
def swQ (u : Tn) : Int := ldV u.ws (swP u)
def metB (u : Tn) (q : Int) : Bool := decide (1 ≤ q) && decide (q ≤ u.c.x0) && !(q == u.tt + 1)
/-- The steps. -/
def shwC (u : Tn) : Tn := if erV u.bx.length u.tt = 0 then { u with bx := ptV u.bx u.tt u.d.bl, d := { u.d with ph := 18 } } else u
def opnC (u : Tn) : Tn := if erV u.ws.length (lnV u.c u.tt) = 0 then ({ (stW u) with d := { (stW u).d with ph := 19 } } : Tn) else u
def reoC (u : Tn) : Tn := if erV u.ws.length (lnV u.c u.tt) = 0 then spnV (stW u) else u
def swpC (u : Tn) : Tn := if erV u.ws.length (swP u) = 0 then (if metB u (swQ u) = true then aprV (swW u) (swQ u) else spnV (swW u)) else u
def cmpC (u : Tn) (t so no : Int) : Tn := if erV u.ws.length (lnV u.c t) = 0 then (if cmB u t = true then ({ (cmW u t) with d := { (cmW u t).d with ph := so } } : Tn) else ({ (cmW u t) with d := { (cmW u t).d with ph := no } } : Tn)) else u
def absC (u : Tn) : Tn := if erV u.bx.length u.d.who = 0 then absV u (bxV u.bx u.d.who) else u
def spiC (u : Tn) : Tn := if erV u.ws.length (lnV u.c u.tt) = 0 then (if ldV u.ws (lnV u.c u.tt) = opW u then (if 1 ≤ u.d.lf ∧ lateB u.d.un u.now = false then spoV u else ({ u with d := { u.d with ph := 26 } } : Tn)) else ({ u with d := { u.d with ph := 13 } } : Tn)) else u
def leaC (u : Tn) : Tn := if erV u.ws.length (lnV u.c u.tt) = 0 then (if cmB u u.tt = true then leaV (cmW u u.tt) else ({ (cmW u u.tt) with d := { (cmW u u.tt).d with ph := 13 } } : Tn)) else u
def stepC (u : Tn) : Tn := if u.d.ph = 17 then shwC u else if u.d.ph = 18 then opnC u else if u.d.ph = 19 then swpC u else if u.d.ph = 20 then cmpC u u.tt 21 13 else if u.d.ph = 21 then cmpC u u.d.who 22 24 else if u.d.ph = 22 then absC u else if u.d.ph = 23 then spiC u else if u.d.ph = 24 then reoC u else if u.d.ph = 26 then leaC u else u
def isC (u : Tn) : Bool := u.d.ph == 17 || u.d.ph == 18 || u.d.ph == 19 || u.d.ph == 20 || u.d.ph == 21 || u.d.ph == 22 || u.d.ph == 23 || u.d.ph == 24 || u.d.ph == 26
theorem slot_tn (c : Cf) (ok : CfK c) (i : Int) (hi : I64 i) (l : Int) (hl : I64 l) (n : Int) (hn : I64 n) (w : World) : Calls Try.prog 45 #[.agg (ccs c).toArray, .int .i64 i, .int .i64 l, .int .i64 n] w (IntPost (slV c i l n) w) := slot_any c.x0 c.x1 c.x2 c.x3 c.x4 c.x5 c.x6 c.x7 c.b c.x9 c.x10 c.x11 ok i hi l hl n hn w
attribute [local irreducible] tcs thc ccs zT
attribute [local go_sem ↓] alTn_is alRn_is
attribute [local go_sem] run_alTnf run_alTnt run_alRnf run_alRnt zT_length
attribute [local go_sem ↓] lbTn_is lbRn_is lbTh_is lbRh_is lbCf_is lbRc_is sbTn_is sbRn_is sbTh_is sbRh_is sbCf_is sbRc_is
attribute [local go_sem] run_lbTn run_lbRn run_lbTh run_lbRh run_lbCf run_lbRc run_sbTn run_sbRn run_sbTh run_sbRh run_sbCf run_sbRc
attribute [local go_sem 2000] boxOf_old'
attribute [local go_sem] boxOf_at' boxOf_free' boxOf_alloc objBox_cells objBox_cellsA boxOf_drew boxOf_setI boxOf_setsI size_sets tcs_length thc_length ccs_length tcs_one thc_one ccs_one sub_tn sub_th sub_cf sub_thAll sub_cfAll put_turn put_thread
attribute [local go_sem] tc0 tc1 tc2 tc3 tc4 tc5 tc6 tc7 tc8 tc9 tc10 tc11 tc12 tc13 tc14 tc15 tc16 tc17 tc18 tc19 tc20 tc21 tc22 tc23 tc24 tc25 tc26 tc27 tc28 tc29 tc30 tc31 tc32 tc33 tc34 tc35 tc36 hc0 hc1 hc2 hc3 hc4 hc5 hc6 hc7 hc8 hc9 hc10 hc11 hc12 hc13 hc14 hc15 hc16 kc0 kc1 kc2 kc3 kc4 kc5 kc6 kc7 kc8 kc9 kc10 kc11 tg0 tg1 tg2 tg3 tg4 tg5 tg6 tg7 tg8 tg9 tg10 tg11 tg12 tg13 tg14 tg15 tg16 tg17 tg18 tg19 tg20 tg21 tg22 tg23 tg24 tg25 tg26 tg27 tg28 tg29 tg30 tg31 tg32 tg33 tg34 tg35 tg36 hg0 hg1 hg2 hg3 hg4 hg5 hg6 hg7 hg8 hg9 hg10 hg11 hg12 hg13 hg14 hg15 hg16 kg0 kg1 kg2 kg3 kg4 kg5 kg6 kg7 kg8 kg9 kg10 kg11
attribute [local go_sem] ts12 ts13 ts14 ts16 ts17 ts18 ts19 ts20 ts21 ts22 ts23 ts24 ts25 ts26 ts27 ts28 ts29 ts30 ts31 ts32 ts33 ts34 ts35 ts36 ts15 hs0 hs1 hs2 hs3 hs7 hs8 hs9 hs10 hs11 hs12 hs13 hs14 hs15 hs16

set_option maxRecDepth 100000 in
set_option maxHeartbeats 4000000 in
theorem con_any (u : Tn) (a : TA) (w : World) : Calls Try.prog 93 #[.agg (tcs u a).toArray] w (TPost (onwV u) a w) := by
  have B1 : boxOf ((w.alloc (.cells (tcs u a).toArray 38)).alloc (.cells zT.toArray 38)) w.heap.size = some (tcs u a) := by simp [go_sem]
  have B2 : boxOf ((w.alloc (.cells (tcs u a).toArray 38)).alloc (.cells zT.toArray 38)) (w.heap.size + 1) = some zT := by simp [go_sem]
  have hs : w.heap.size + 1 < ((w.alloc (.cells (tcs u a).toArray 38)).alloc (.cells zT.toArray 38)).heap.size := by simp
  have hB : Below w.heap.size w ((w.alloc (.cells (tcs u a).toArray 38)).alloc (.cells zT.toArray 38)) := (belowN w _).alloc (by simp) _
  by_cases h1 : u.d.ly < u.c.x4
  · have d1 : decide (u.d.ly < u.c.x4) = true := decide_eq_true h1
    rcases Bool.eq_false_or_eq_true (lateB u.d.un u.now) with hl | hl
    · have H : Hid (onwV u = { u with d := { u.d with ph := 2 } }) := hide (by rw [onwV, if_neg (by rw [hl]; simp)])
      have KL := fun W => hide (late_tn u a W)
      rw [hl] at KL
      clear h1 hl
      go_enter Try.func93, Try.ntmps93
      go_wp2_with fail
      generalize ((w.alloc (.cells (tcs u a).toArray 38)).alloc (.cells zT.toArray 38)) = wz at *
      refine (KL _).out.mono ?_
      rintro e w1 ⟨rfl, hb1⟩
      replace B1 := boxOf_keep B1 hb1
      replace B2 := boxOf_keep B2 hb1
      replace hs := Nat.lt_of_lt_of_le hs hb1.size
      replace hB := below_next hB hB.size hb1
      clear hb1 KL
      go_wp2
      refine bodyPost_ret (v := .agg (tcs { u with d := { u.d with ph := 2 } } a).toArray) (results_box Try.results93 _ _ (w.heap.size + 1) _ _ rfl (by simp [go_sem, B1, B2]) Try.underlying38 rfl (by kernel_rfl)) rfl ⟨by rw [H.out], ?_⟩
      repeat first | exact hB | refine below_sets _ (by omega) _ _ _ _ ?_ | refine Below.setCell ?_ (by first | omega | (simp; omega) | simp) _ | refine Below.alloc ?_ (by first | omega | (simp; omega) | simp) _
    · have H : Hid (onwV u = { u with d := { u.d with ly := wrap64 (u.d.ly + 1), ph := 17 } }) := hide (by rw [onwV, if_pos ⟨h1, hl⟩])
      have KL := fun W => hide (late_tn u a W)
      rw [hl] at KL
      clear h1 hl
      go_enter Try.func93, Try.ntmps93
      go_wp2_with fail
      generalize ((w.alloc (.cells (tcs u a).toArray 38)).alloc (.cells zT.toArray 38)) = wz at *
      refine (KL _).out.mono ?_
      rintro e w1 ⟨rfl, hb1⟩
      replace B1 := boxOf_keep B1 hb1
      replace B2 := boxOf_keep B2 hb1
      replace hs := Nat.lt_of_lt_of_le hs hb1.size
      replace hB := below_next hB hB.size hb1
      clear hb1 KL
      go_wp2
      refine bodyPost_ret (v := .agg (tcs { u with d := { u.d with ly := wrap64 (u.d.ly + 1), ph := 17 } } a).toArray) (results_box Try.results93 _ _ (w.heap.size + 1) _ _ rfl (by simp [go_sem, B1, B2]) Try.underlying38 rfl (by kernel_rfl)) rfl ⟨by rw [H.out], ?_⟩
      repeat first | exact hB | refine below_sets _ (by omega) _ _ _ _ ?_ | refine Below.setCell ?_ (by first | omega | (simp; omega) | simp) _ | refine Below.alloc ?_ (by first | omega | (simp; omega) | simp) _
  · have d1 : decide (u.d.ly < u.c.x4) = false := decide_eq_false h1
    have H : Hid (onwV u = { u with d := { u.d with ph := 2 } }) := hide (by rw [onwV, if_neg (fun e => h1 e.1)])
    clear h1
    go_enter Try.func93, Try.ntmps93
    go_wp2_with fail
    refine bodyPost_ret (v := .agg (tcs { u with d := { u.d with ph := 2 } } a).toArray) (results_box Try.results93 _ _ (w.heap.size + 1) _ _ rfl (by simp [go_sem, B1, B2]) Try.underlying38 rfl (by kernel_rfl)) rfl ⟨by rw [H.out], ?_⟩
    repeat first | exact hB | refine below_sets _ (by omega) _ _ _ _ ?_ | refine Below.setCell ?_ (by first | omega | (simp; omega) | simp) _ | refine Below.alloc ?_ (by first | omega | (simp; omega) | simp) _ | exact Below.refl _ _
set_option maxRecDepth 100000 in
set_option maxHeartbeats 4000000 in
theorem number_tn (u : Tn) (a : TA) (ht : 0 ≤ u.tt ∧ u.tt ≤ 15) (w : World) : Calls Try.prog 46 #[.agg (tcs u a).toArray] w (IntPost (u.tt + 1) w) := by
  have hw : wrap64 (u.tt + 1) = u.tt + 1 := wrap64_id (by unfold I64; omega)
  have H := hide hw
  have hB := belowN w (.cells (tcs u a).toArray 38)
  clear ht hw
  go_enter Try.func46, Try.ntmps46
  go_wp2
  go_ret
  exact ⟨by rw [H.out]; rfl, hB⟩
def ChPost (v : Value) (A : Option Addr) (n c : Nat) (w : World) (e : Ending) (w' : World) : Prop := e = .returned (.agg #[v, .slice A n c]) ∧ Below w.heap.size w w'
set_option maxRecDepth 100000 in
set_option maxHeartbeats 4000000 in
theorem cmay_any (f : Fn) (xs ys : Array Value) (A : Option Addr) (n c : Nat) (w : World) : Calls Try.prog 72 #[.func f xs ys, .slice A n c] w (ChPost (.func f xs ys) A n c w) := by
  go_enter Try.func72, Try.ntmps72
  go_wp2
  refine bodyPost_ret (v := .agg #[.func f xs ys, .slice A n c]) (by simp [results, Try.results72, go_sem]) rfl ⟨rfl, ?_⟩
  repeat first | exact Below.refl _ _ | refine Below.setCell ?_ (by simp) _ | refine Below.alloc ?_ (by simp) _
set_option maxRecDepth 100000 in
set_option maxHeartbeats 4000000 in
theorem cto_any (k : Int) (w : World) : Calls Try.prog 73 #[.int .i64 k] w (fun e w' => ∃ g, e = .returned (.func (.func 91) #[] #[.pointer (some ⟨g, 0, none⟩)]) ∧ boxOf w' g = some [.int .i64 k] ∧ Below w.heap.size w w') := by
  go_enter Try.func73, Try.ntmps73
  go_wp2
  go_ret
  exact ⟨_, rfl, boxOf_newA _ _ _ _ rfl, belowN w _⟩
set_option maxRecDepth 100000 in
set_option maxHeartbeats 4000000 in
theorem wasOpen_any (u : Tn) (a : TA) (q : Int) (p : Bool) (A : Option Addr) (n c : Nat) (w : World) : Calls Try.prog 78 #[.agg (tcs u a).toArray, .agg #[.int .i64 q, .bool p, .slice A n c]] w (BoolPost p w) := by
  have hB : Below w.heap.size w ((w.alloc (.cells (tcs u a).toArray 38)).alloc (.cells #[.int .i64 q, .bool p, .slice A n c] 75)) := (belowN w _).alloc (by simp) _
  go_enter Try.func78, Try.ntmps78
  go_wp2
  go_ret
  exact ⟨rfl, hB⟩
set_option maxRecDepth 100000 in
set_option maxHeartbeats 4000000 in
theorem looksLeft_any (u : Tn) (a : TA) (q : Int) (p : Bool) (A : Option Addr) (n c : Nat) (w : World) (d : Bool) (hd : decide (1 ≤ u.d.lf) = d) : Calls Try.prog 81 #[.agg (tcs u a).toArray, .agg #[.int .i64 q, .bool p, .slice A n c]] w (BoolPost d w) := by
  have hB : Below w.heap.size w ((w.alloc (.cells (tcs u a).toArray 38)).alloc (.cells #[.int .i64 q, .bool p, .slice A n c] 75)) := (belowN w _).alloc (by simp) _
  go_enter Try.func81, Try.ntmps81
  go_wp2
  go_ret
  exact ⟨rfl, hB⟩
set_option maxRecDepth 100000 in
set_option maxHeartbeats 4000000 in
theorem inTime_any (u : Tn) (a : TA) (q : Int) (p : Bool) (A : Option Addr) (n c : Nat) (w : World) : Calls Try.prog 82 #[.agg (tcs u a).toArray, .agg #[.int .i64 q, .bool p, .slice A n c]] w (BoolPost (!lateB u.d.un u.now) w) := by
  have hB : Below w.heap.size w ((w.alloc (.cells (tcs u a).toArray 38)).alloc (.cells #[.int .i64 q, .bool p, .slice A n c] 75)) := (belowN w _).alloc (by simp) _
  have KL := fun W => hide (late_tn u a W)
  generalize lateB u.d.un u.now = lb at *
  go_enter Try.func82, Try.ntmps82
  go_wp2_with fail
  refine (KL _).out.mono ?_
  rintro e w1 ⟨rfl, hb1⟩
  clear KL
  go_wp2
  go_ret
  exact ⟨rfl, below_next hB hB.size hb1⟩
set_option maxRecDepth 100000 in
set_option maxHeartbeats 4000000 in
theorem ofThread_any (u : Tn) (a : TA) (q : Int) (p : Bool) (A : Option Addr) (n c : Nat) (w : World) (d : Bool) (hd : (decide (1 ≤ q) && decide (q ≤ u.c.x0)) = d) : Calls Try.prog 75 #[.agg (tcs u a).toArray, .agg #[.int .i64 q, .bool p, .slice A n c]] w (BoolPost d w) := by
  have hB : Below w.heap.size w ((w.alloc (.cells (tcs u a).toArray 38)).alloc (.cells #[.int .i64 q, .bool p, .slice A n c] 75)) := (belowN w _).alloc (by simp) _
  have HD := hide hd
  clear hd
  go_enter Try.func75, Try.ntmps75
  by_cases h1 : 1 ≤ q
  · by_cases h2 : q ≤ u.c.x0
    · have : d = true := by rw [← HD.out]; simp [h1, h2]
      subst this
      go_wp2
      go_ret
      exact ⟨by simp [h1, h2], hB⟩
    · have : d = false := by rw [← HD.out]; simp [h1, h2]
      subst this
      go_wp2
      go_ret
      exact ⟨by simp [h1, h2], hB⟩
  · have : d = false := by rw [← HD.out]; simp [h1]
    subst this
    go_wp2
    go_ret
    exact ⟨by simp [h1], hB⟩
set_option maxRecDepth 100000 in
set_option maxHeartbeats 4000000 in
theorem ofAnother_any (u : Tn) (a : TA) (q : Int) (p : Bool) (A : Option Addr) (n c : Nat) (w : World) (ht : 0 ≤ u.tt ∧ u.tt ≤ 15) : Calls Try.prog 76 #[.agg (tcs u a).toArray, .agg #[.int .i64 q, .bool p, .slice A n c]] w (BoolPost (!(q == u.tt + 1)) w) := by
  have hB : Below w.heap.size w ((w.alloc (.cells (tcs u a).toArray 38)).alloc (.cells #[.int .i64 q, .bool p, .slice A n c] 75)) := (belowN w _).alloc (by simp) _
  have B1 : boxOf ((w.alloc (.cells (tcs u a).toArray 38)).alloc (.cells #[.int .i64 q, .bool p, .slice A n c] 75)) w.heap.size = some (tcs u a) := by simp [go_sem]
  have B2 : boxOf ((w.alloc (.cells (tcs u a).toArray 38)).alloc (.cells #[.int .i64 q, .bool p, .slice A n c] 75)) (w.heap.size + 1) = some [.int .i64 q, .bool p, .slice A n c] := by simp [go_sem]
  have KN := hide (fun W => number_tn u a ht W)
  clear ht
  generalize u.tt + 1 = t1 at *
  go_enter Try.func76, Try.ntmps76
  go_upto_region 1 with fail
  generalize ((w.alloc (.cells (tcs u a).toArray 38)).alloc (.cells #[.int .i64 q, .bool p, .slice A n c] 75)) = wz at *
  have Q1 := hide (fun d os => Calls.regrown_of (w := wz) (KN.out (grow (redrawn wz d) os)))
  have RB1 := fun d os => boxOf_keep B1 (below_regrown wz d os)
  have RB2 := fun d os => boxOf_keep B2 (below_regrown wz d os)
  clear KN
  refine wp_region_quiet_below (by kernel_rfl) (by kernel_rfl) ?_
  repeat (go_big_quiet_step (first | (go_at_call 46; exact Q1.out _ _)))
  refine wpQuiet_nil ?_
  intro _ hw'
  obtain ⟨⟨dq, osq⟩, hw''⟩ := hw'
  subst hw''
  go_wp2
  go_ret
  exact ⟨by first | rfl | simp [bne], below_next hB hB.size (below_regrown wz dq osq)⟩
set_option maxRecDepth 100000 in
set_option maxHeartbeats 4000000 in
theorem approach_any (u : Tn) (a : TA) (q : Int) (p : Bool) (A : Option Addr) (n c : Nat) (w : World) : Calls Try.prog 74 #[.agg (tcs u a).toArray, .agg #[.int .i64 q, .bool p, .slice A n c]] w (TPost (aprV u q) a w) := by
  have B1 : boxOf (((w.alloc (.cells (tcs u a).toArray 38)).alloc (.cells #[.int .i64 q, .bool p, .slice A n c] 75)).alloc (.cells zT.toArray 38)) w.heap.size = some (tcs u a) := by simp [go_sem]
  have B2 : boxOf (((w.alloc (.cells (tcs u a).toArray 38)).alloc (.cells #[.int .i64 q, .bool p, .slice A n c] 75)).alloc (.cells zT.toArray 38)) (w.heap.size + 1) = some [.int .i64 q, .bool p, .slice A n c] := by simp [go_sem]
  have B3 : boxOf (((w.alloc (.cells (tcs u a).toArray 38)).alloc (.cells #[.int .i64 q, .bool p, .slice A n c] 75)).alloc (.cells zT.toArray 38)) (w.heap.size + 1 + 1) = some zT := by simp [go_sem]
  have hs : w.heap.size + 1 + 1 < (((w.alloc (.cells (tcs u a).toArray 38)).alloc (.cells #[.int .i64 q, .bool p, .slice A n c] 75)).alloc (.cells zT.toArray 38)).heap.size := by simp
  have hB : Below w.heap.size w (((w.alloc (.cells (tcs u a).toArray 38)).alloc (.cells #[.int .i64 q, .bool p, .slice A n c] 75)).alloc (.cells zT.toArray 38)) := ((belowN w _).alloc (by simp) _).alloc (by simp; omega) _
  have key : ∀ W', Below w.heap.size w W' → TPost (aprV u q) a w (.returned (.agg (tcs ({ u with d := { u.d with who := wrap64 (q - 1), ph := 20 } } : Tn) a).toArray)) W' := fun W' hb => ⟨rfl, hb⟩
  go_enter Try.func74, Try.ntmps74
  go_wp2
  refine bodyPost_ret (v := .agg (tcs ({ u with d := { u.d with who := wrap64 (q - 1), ph := 20 } } : Tn) a).toArray) (results_box Try.results74 _ _ (w.heap.size + 1 + 1) _ _ rfl (by simp [go_sem, B1, B3]) Try.underlying38 rfl (by kernel_rfl)) rfl (key _ ?_)
  repeat first | exact hB | refine below_sets _ (by omega) _ _ _ _ ?_ | refine Below.setCell ?_ (by first | omega | (simp; omega) | simp | (simp [size_sets]; omega)) _ | refine Below.alloc ?_ (by first | omega | (simp; omega) | simp | (simp [size_sets]; omega)) _ | exact Below.refl _ _
set_option maxRecDepth 100000 in
set_option maxHeartbeats 4000000 in
theorem spin_any (u : Tn) (a : TA) (q : Int) (p : Bool) (A : Option Addr) (n c : Nat) (w : World) : Calls Try.prog 77 #[.agg (tcs u a).toArray, .agg #[.int .i64 q, .bool p, .slice A n c]] w (TPost (spnV u) a w) := by
  have B1 : boxOf (((w.alloc (.cells (tcs u a).toArray 38)).alloc (.cells #[.int .i64 q, .bool p, .slice A n c] 75)).alloc (.cells zT.toArray 38)) w.heap.size = some (tcs u a) := by simp [go_sem]
  have B2 : boxOf (((w.alloc (.cells (tcs u a).toArray 38)).alloc (.cells #[.int .i64 q, .bool p, .slice A n c] 75)).alloc (.cells zT.toArray 38)) (w.heap.size + 1) = some [.int .i64 q, .bool p, .slice A n c] := by simp [go_sem]
  have B3 : boxOf (((w.alloc (.cells (tcs u a).toArray 38)).alloc (.cells #[.int .i64 q, .bool p, .slice A n c] 75)).alloc (.cells zT.toArray 38)) (w.heap.size + 1 + 1) = some zT := by simp [go_sem]
  have hs : w.heap.size + 1 + 1 < (((w.alloc (.cells (tcs u a).toArray 38)).alloc (.cells #[.int .i64 q, .bool p, .slice A n c] 75)).alloc (.cells zT.toArray 38)).heap.size := by simp
  have hB : Below w.heap.size w (((w.alloc (.cells (tcs u a).toArray 38)).alloc (.cells #[.int .i64 q, .bool p, .slice A n c] 75)).alloc (.cells zT.toArray 38)) := ((belowN w _).alloc (by simp) _).alloc (by simp; omega) _
  have key : ∀ W', Below w.heap.size w W' → TPost (spnV u) a w (.returned (.agg (tcs ({ u with d := { u.d with lf := u.c.x6, ph := 23 } } : Tn) a).toArray)) W' := fun W' hb => ⟨rfl, hb⟩
  go_enter Try.func77, Try.ntmps77
  go_wp2
  refine bodyPost_ret (v := .agg (tcs ({ u with d := { u.d with lf := u.c.x6, ph := 23 } } : Tn) a).toArray) (results_box Try.results77 _ _ (w.heap.size + 1 + 1) _ _ rfl (by simp [go_sem, B1, B3]) Try.underlying38 rfl (by kernel_rfl)) rfl (key _ ?_)
  repeat first | exact hB | refine below_sets _ (by omega) _ _ _ _ ?_ | refine Below.setCell ?_ (by first | omega | (simp; omega) | simp | (simp [size_sets]; omega)) _ | refine Below.alloc ?_ (by first | omega | (simp; omega) | simp | (simp [size_sets]; omega)) _ | exact Below.refl _ _
set_option maxRecDepth 100000 in
set_option maxHeartbeats 4000000 in
theorem spinOn_any (u : Tn) (a : TA) (q : Int) (p : Bool) (A : Option Addr) (n c : Nat) (w : World) : Calls Try.prog 80 #[.agg (tcs u a).toArray, .agg #[.int .i64 q, .bool p, .slice A n c]] w (TPost (spoV u) a w) := by
  have B1 : boxOf (((w.alloc (.cells (tcs u a).toArray 38)).alloc (.cells #[.int .i64 q, .bool p, .slice A n c] 75)).alloc (.cells zT.toArray 38)) w.heap.size = some (tcs u a) := by simp [go_sem]
  have B2 : boxOf (((w.alloc (.cells (tcs u a).toArray 38)).alloc (.cells #[.int .i64 q, .bool p, .slice A n c] 75)).alloc (.cells zT.toArray 38)) (w.heap.size + 1) = some [.int .i64 q, .bool p, .slice A n c] := by simp [go_sem]
  have B3 : boxOf (((w.alloc (.cells (tcs u a).toArray 38)).alloc (.cells #[.int .i64 q, .bool p, .slice A n c] 75)).alloc (.cells zT.toArray 38)) (w.heap.size + 1 + 1) = some zT := by simp [go_sem]
  have hs : w.heap.size + 1 + 1 < (((w.alloc (.cells (tcs u a).toArray 38)).alloc (.cells #[.int .i64 q, .bool p, .slice A n c] 75)).alloc (.cells zT.toArray 38)).heap.size := by simp
  have hB : Below w.heap.size w (((w.alloc (.cells (tcs u a).toArray 38)).alloc (.cells #[.int .i64 q, .bool p, .slice A n c] 75)).alloc (.cells zT.toArray 38)) := ((belowN w _).alloc (by simp) _).alloc (by simp; omega) _
  have key : ∀ W', Below w.heap.size w W' → TPost (spoV u) a w (.returned (.agg (tcs ({ u with d := { u.d with lf := wrap64 (u.d.lf - 1) } } : Tn) a).toArray)) W' := fun W' hb => ⟨rfl, hb⟩
  go_enter Try.func80, Try.ntmps80
  go_wp2
  refine bodyPost_ret (v := .agg (tcs ({ u with d := { u.d with lf := wrap64 (u.d.lf - 1) } } : Tn) a).toArray) (results_box Try.results80 _ _ (w.heap.size + 1 + 1) _ _ rfl (by simp [go_sem, B1, B3]) Try.underlying38 rfl (by kernel_rfl)) rfl (key _ ?_)
  repeat first | exact hB | refine below_sets _ (by omega) _ _ _ _ ?_ | refine Below.setCell ?_ (by first | omega | (simp; omega) | simp | (simp [size_sets]; omega)) _ | refine Below.alloc ?_ (by first | omega | (simp; omega) | simp | (simp [size_sets]; omega)) _ | exact Below.refl _ _
set_option maxRecDepth 100000 in
set_option maxHeartbeats 4000000 in
theorem cto1_any (u : Tn) (a : TA) (q : Int) (p : Bool) (A : Option Addr) (n c : Nat) (w : World) (k : Int) (g : Nat) (hg : boxOf w g = some [.int .i64 k]) : Calls Try.prog 91 #[.agg (tcs u a).toArray, .agg #[.int .i64 q, .bool p, .slice A n c], .pointer (some ⟨g, 0, none⟩)] w (TPost ({ u with d := { u.d with ph := k } } : Tn) a w) := by
  have B4 : boxOf (((w.alloc (.cells (tcs u a).toArray 38)).alloc (.cells #[.int .i64 q, .bool p, .slice A n c] 75)).alloc (.cells zT.toArray 38)) g = some [.int .i64 k] := boxOf_keep (boxOf_keep (boxOf_keep hg (belowN _ _)) (belowN _ _)) (belowN _ _)
  have gl := boxOf_lt hg
  have B1 : boxOf (((w.alloc (.cells (tcs u a).toArray 38)).alloc (.cells #[.int .i64 q, .bool p, .slice A n c] 75)).alloc (.cells zT.toArray 38)) w.heap.size = some (tcs u a) := by simp [go_sem]
  have B2 : boxOf (((w.alloc (.cells (tcs u a).toArray 38)).alloc (.cells #[.int .i64 q, .bool p, .slice A n c] 75)).alloc (.cells zT.toArray 38)) (w.heap.size + 1) = some [.int .i64 q, .bool p, .slice A n c] := by simp [go_sem]
  have B3 : boxOf (((w.alloc (.cells (tcs u a).toArray 38)).alloc (.cells #[.int .i64 q, .bool p, .slice A n c] 75)).alloc (.cells zT.toArray 38)) (w.heap.size + 1 + 1) = some zT := by simp [go_sem]
  have hs : w.heap.size + 1 + 1 < (((w.alloc (.cells (tcs u a).toArray 38)).alloc (.cells #[.int .i64 q, .bool p, .slice A n c] 75)).alloc (.cells zT.toArray 38)).heap.size := by simp
  have hB : Below w.heap.size w (((w.alloc (.cells (tcs u a).toArray 38)).alloc (.cells #[.int .i64 q, .bool p, .slice A n c] 75)).alloc (.cells zT.toArray 38)) := ((belowN w _).alloc (by simp) _).alloc (by simp; omega) _
  have key : ∀ W', Below w.heap.size w W' → TPost ({ u with d := { u.d with ph := k } } : Tn) a w (.returned (.agg (tcs ({ u with d := { u.d with ph := k } } : Tn) a).toArray)) W' := fun W' hb => ⟨rfl, hb⟩
  go_enter Try.func91, Try.ntmps91
  go_wp2
  refine bodyPost_ret (v := .agg (tcs ({ u with d := { u.d with ph := k } } : Tn) a).toArray) (results_box Try.results91 _ _ (w.heap.size + 1 + 1) _ _ rfl (by simp [go_sem, B1, B3]) Try.underlying38 rfl (by kernel_rfl)) rfl (key _ ?_)
  repeat first | exact hB | refine below_sets _ (by omega) _ _ _ _ ?_ | refine Below.setCell ?_ (by first | omega | (simp; omega) | simp | (simp [size_sets]; omega)) _ | refine Below.alloc ?_ (by first | omega | (simp; omega) | simp | (simp [size_sets]; omega)) _ | exact Below.refl _ _
theorem wd_is (n : Int) : wdV n = (if n.tdiv 2 ≤ 1 then 1 else n.tdiv 2) := by
  unfold wdV
  rcases Int.lt_or_le n 0 with h | h
  · have : n.tdiv 2 ≤ 0 := by
      have := Int.tdiv_nonneg (a := -n) (b := 2) (by omega) (by omega)
      rw [Int.neg_tdiv] at this; omega
    rw [if_neg (by omega), if_pos (by omega)]
  · rw [Int.tdiv_eq_ediv_of_nonneg h]
    split <;> split <;> omega
set_option maxRecDepth 100000 in
set_option maxHeartbeats 4000000 in
theorem leave_any (u : Tn) (a : TA) (q : Int) (p : Bool) (A : Option Addr) (n c : Nat) (w : World) (o : TnOk u) : Calls Try.prog 83 #[.agg (tcs u a).toArray, .agg #[.int .i64 q, .bool p, .slice A n c]] w (TPost (leaV u) a w) := by
  have B1 : boxOf (((w.alloc (.cells (tcs u a).toArray 38)).alloc (.cells #[.int .i64 q, .bool p, .slice A n c] 75)).alloc (.cells zT.toArray 38)) w.heap.size = some (tcs u a) := by simp [go_sem]
  have B2 : boxOf (((w.alloc (.cells (tcs u a).toArray 38)).alloc (.cells #[.int .i64 q, .bool p, .slice A n c] 75)).alloc (.cells zT.toArray 38)) (w.heap.size + 1) = some [.int .i64 q, .bool p, .slice A n c] := by simp [go_sem]
  have B3 : boxOf (((w.alloc (.cells (tcs u a).toArray 38)).alloc (.cells #[.int .i64 q, .bool p, .slice A n c] 75)).alloc (.cells zT.toArray 38)) (w.heap.size + 1 + 1) = some zT := by simp [go_sem]
  have hs : w.heap.size + 1 + 1 < (((w.alloc (.cells (tcs u a).toArray 38)).alloc (.cells #[.int .i64 q, .bool p, .slice A n c] 75)).alloc (.cells zT.toArray 38)).heap.size := by simp
  have hB : Below w.heap.size w (((w.alloc (.cells (tcs u a).toArray 38)).alloc (.cells #[.int .i64 q, .bool p, .slice A n c] 75)).alloc (.cells zT.toArray 38)) := ((belowN w _).alloc (by simp) _).alloc (by simp; omega) _
  have H : Hid (leaV u = onwV ({ u with d := { u.d with wd := wdV u.d.wd } } : Tn)) := hide rfl
  have KO := fun W => hide (con_any ({ u with d := { u.d with wd := wdV u.d.wd } } : Tn) a W)
  have iw : I64 u.d.wd := o.f.n _ (by simp [Dt.nums])
  obtain ⟨wv, hwv⟩ : ∃ x, wdV u.d.wd = x := ⟨_, rfl⟩
  rw [hwv] at KO H
  rw [wd_is] at hwv
  obtain ⟨tv, htv⟩ : ∃ x, u.d.wd.tdiv 2 = x := ⟨_, rfl⟩
  rw [htv] at hwv
  have hwt : wrap64 tv = tv := by
    refine wrap64_id ?_
    have := Int.natAbs_tdiv u.d.wd 2
    have h2 : tv.natAbs ≤ u.d.wd.natAbs := by rw [← htv, this]; exact Nat.div_le_self _ _
    unfold I64 at iw ⊢
    rw [← htv]
    rcases Int.lt_or_le u.d.wd 0 with h | h
    · have h3 : u.d.wd.tdiv 2 = - ((-u.d.wd) / 2) := by rw [← Int.tdiv_eq_ediv_of_nonneg (by omega), Int.neg_tdiv]; omega
      rw [h3]; omega
    · rw [Int.tdiv_eq_ediv_of_nonneg h]; omega
  have hc : ((1 < tv ∧ ¬ tv ≤ 1) ∧ wv = tv) ∨ ((tv ≤ 1 ∧ ¬ 1 < tv) ∧ wv = 1) := by
    by_cases h1 : tv ≤ 1
    · rw [if_pos h1] at hwv; exact .inr ⟨⟨h1, by omega⟩, hwv.symm⟩
    · rw [if_neg h1] at hwv; exact .inl ⟨⟨by omega, h1⟩, hwv.symm⟩
  clear hwv iw
  go_enter Try.func83, Try.ntmps83
  go_upto_region 1 with fail
  generalize (((w.alloc (.cells (tcs u a).toArray 38)).alloc (.cells #[.int .i64 q, .bool p, .slice A n c] 75)).alloc (.cells zT.toArray 38)) = wz at *
  rcases hc with ⟨⟨h1, h2⟩, rfl⟩ | ⟨⟨h1, h2⟩, rfl⟩
  all_goals go_wp2_with fail
  all_goals refine (KO _).out.mono ?_
  all_goals rintro e w1 ⟨rfl, hb1⟩
  all_goals rw [← H.out]
  all_goals generalize leaV u = v at *
  all_goals replace B3 : boxOf w1 (w.heap.size + 1 + 1) = some zT := boxOf_keep (by simp [go_sem, B1, B2, B3]; intro e; omega) hb1
  all_goals replace hs := Nat.lt_of_lt_of_le hs (show _ ≤ w1.heap.size by have := hb1.size; simpa using this)
  all_goals replace hB := below_next (hB.setCell (by simp) _) (by have := hB.size; simpa using this) hb1
  all_goals clear KO H B1 B2 hb1
  all_goals go_wp2
  all_goals refine bodyPost_ret (v := .agg (tcs v a).toArray) (results_box Try.results83 _ _ (w.heap.size + 1 + 1) _ _ rfl (by simp [go_sem, B3]) Try.underlying38 rfl (by kernel_rfl)) rfl ⟨rfl, ?_⟩
  all_goals repeat first | exact hB | refine below_sets _ (by omega) _ _ _ _ ?_ | refine Below.setCell ?_ (by first | omega | (simp; omega) | simp | (simp [size_sets]; omega)) _ | refine Below.alloc ?_ (by first | omega | (simp; omega) | simp | (simp [size_sets]; omega)) _ | exact Below.refl _ _
end Go.Proofs.Ytjghdbkkjhnpfaa
