/- The contracts of steps and Step. -/
import Derived.Test.YtnmffjlfdnebnaaShY
import Derived.MapKept
import Derived.Lib.QuietBelow
import Derived.Deep.QuietTactic
import Derived.BigQuiet
import Derived.Deep.RegionHeld3
namespace Go.Proofs.Ytnmffjlfdnebnaa
open Go.RowKit Go.Sort
set_option linter.unusedVariables false
set_option linter.unusedSimpArgs false

/-- A struct literal of a moment, as one step. -/
def bdMo (parts : Array (Nat × Value)) : Sem Value := Instr.build 115 parts
theorem bdMo_is (parts : Array (Nat × Value)) : Instr.build 115 parts = bdMo parts := rfl
theorem run_bdMo (u : Tn) (a : TA) (w : World) : (bdMo #[(0, .agg (tcs u a).toArray)]).run Try.prog w = .ok (.agg (tcs u a).toArray) w := by kernel_rfl
/-- A map's inserts and look-ups, of numbers. -/
theorem run_ins (W : World) (es : Array MapEntry) (c : Nat) (k : Int) (v : Value) (hn : Instr.findNow (.int .i64) (.int .i64 k) es.toList 0 = some none) :
    (Instr.mapUpdate 82 (.map (some W.heap.size)) (.int .i64 k) v).run Try.prog (W.alloc (.map es c)) = .ok () (W.alloc (.map (es.push ⟨.int .i64 k, v, c⟩) (c + 1))) := by
  have hb : (W.alloc (.map es c)).heap[W.heap.size]? = some (.map es c) := heap_alloc_new W _
  have hf : (Instr.findKey 3 (.int .i64 k) es.toList).run Try.prog (W.alloc (.map es c)) = .ok none (W.alloc (.map es c)) := by
    simp [Instr.findKey, run_underlying Try.underlying3, Result.andThen, hn]
  have hw : ({ W.alloc (.map es c) with heap := (W.alloc (.map es c)).heap.setIfInBounds W.heap.size (.map (es.push ⟨.int .i64 k, v, c⟩) (c + 1)) } : World) = W.alloc (.map (es.push ⟨.int .i64 k, v, c⟩) (c + 1)) := by
    have : (W.heap.push (.map es c)).setIfInBounds W.heap.size (.map (es.push ⟨.int .i64 k, v, c⟩) (c + 1)) = W.heap.push (.map (es.push ⟨.int .i64 k, v, c⟩) (c + 1)) := by
      apply Array.ext_getElem?
      intro i
      rw [Array.getElem?_setIfInBounds, Array.getElem?_push, Array.getElem?_push]
      by_cases hi : W.heap.size = i
      · simp [hi]
      · simp [hi, Ne.symm hi]
    show ({ W with heap := _ } : World) = _
    rw [show (W.alloc (.map es c)).heap = W.heap.push (.map es c) from rfl, this]
    rfl
  simp [Instr.mapUpdate, run_underlying Try.underlying82, MapKept.run_getObj_map hb, MapKept.run_checkKey Try.underlying3 (k := .int .i64 k) rfl, hf, MapKept.run_setObj_map _ hb, Result.andThen]
  exact hw
theorem run_look (w : World) (b : Nat) (es : Array MapEntry) (c : Nat) (k : Int) (i : Nat) (v : Value) (hb : w.heap[b]? = some (.map es c)) (hn : Instr.findNow (.int .i64) (.int .i64 k) es.toList 0 = some (some (i, v))) :
    (Instr.lookup 82 (.map (some b)) (.int .i64 k) true).run Try.prog w = .ok (.tuple #[v, .bool true]) w := by
  have hf : (Instr.findKey 3 (.int .i64 k) es.toList).run Try.prog w = .ok (some (i, v)) w := by
    simp [Instr.findKey, run_underlying Try.underlying3, Result.andThen, hn]
  simp [Instr.lookup, run_underlying Try.underlying82, MapKept.run_getObj_map hb, MapKept.run_checkKey Try.underlying3 (k := .int .i64 k) rfl, hf, Result.andThen]
theorem zero_step (w : World) : (zeroValue 80).run Try.prog w = .ok (.nilFunc) w := by kernel_rfl
theorem run_lookno (w : World) (b : Nat) (es : Array MapEntry) (c : Nat) (k : Int) (hb : w.heap[b]? = some (.map es c)) (hn : Instr.findNow (.int .i64) (.int .i64 k) es.toList 0 = some none) :
    (Instr.lookup 82 (.map (some b)) (.int .i64 k) true).run Try.prog w = .ok (.tuple #[.nilFunc, .bool false]) w := by
  have hf : (Instr.findKey 3 (.int .i64 k) es.toList).run Try.prog w = .ok none w := by
    simp [Instr.findKey, run_underlying Try.underlying3, Result.andThen, hn]
  simp [Instr.lookup, run_underlying Try.underlying82, MapKept.run_getObj_map hb, MapKept.run_checkKey Try.underlying3 (k := .int .i64 k) rfl, hf, Result.andThen, zero_step]
theorem keepT3 {w W W' : World} {g gz : Nat} {cs es : List Value} (h : boxOf W g = some cs ∧ boxOf W gz = some es ∧ Below w.heap.size w W) (hb : Below W.heap.size W W') : boxOf W' g = some cs ∧ boxOf W' gz = some es ∧ Below w.heap.size w W' := ⟨boxOf_keep h.1 hb, boxOf_keep h.2.1 hb, below_next h.2.2 h.2.2.size hb⟩
/-- The steps of the phases. -/
def mapOf (u : Tn) (a : TA) : Array MapEntry := #[⟨.int .i64 13, .func (.func 54) #[.agg (tcs u a).toArray] #[], 0⟩, ⟨.int .i64 14, .func (.func 55) #[.agg (tcs u a).toArray] #[], 1⟩, ⟨.int .i64 15, .func (.func 56) #[.agg (tcs u a).toArray] #[], 2⟩, ⟨.int .i64 16, .func (.func 57) #[.agg (tcs u a).toArray] #[], 3⟩]
def StepsPost (u : Tn) (a : TA) (w : World) (e : Ending) (w' : World) : Prop := ∃ b, e = .returned (.map (some b)) ∧ w'.heap[b]? = some (.map (mapOf u a) 4) ∧ Below w.heap.size w w'

attribute [local irreducible] tcs thc ccs zT
attribute [local go_sem ↓] alTn_is alRn_is alMo_is
attribute [local go_sem] run_alTnf run_alTnt run_alRnf run_alRnt run_alMof run_alMot zT_length
attribute [local go_sem ↓] lbTn_is lbRn_is lbMo_is lbTh_is lbRh_is lbCf_is lbRc_is sbTn_is sbRn_is sbMo_is sbTh_is sbRh_is sbCf_is sbRc_is
attribute [local go_sem] run_lbTn run_lbRn run_lbMo run_lbTh run_lbRh run_lbCf run_lbRc run_sbTn run_sbRn run_sbMo run_sbTh run_sbRh run_sbCf run_sbRc
attribute [local go_sem 2000] boxOf_old'
attribute [local go_sem] boxOf_at' boxOf_free' boxOf_alloc objBox_cells objBox_cellsA boxOf_drew boxOf_setI boxOf_setsI size_sets tcs_length thc_length ccs_length tcs_one thc_one ccs_one sub_tn sub_th sub_cf sub_thAll sub_cfAll put_turn put_thread
attribute [local go_sem] tc0 tc1 tc2 tc3 tc4 tc5 tc6 tc7 tc8 tc9 tc10 tc11 tc12 tc13 tc14 tc15 tc16 tc17 tc18 tc19 tc20 tc21 tc22 tc23 tc24 tc25 tc26 tc27 tc28 tc29 tc30 tc31 tc32 tc33 tc34 tc35 tc36 hc0 hc1 hc2 hc3 hc4 hc5 hc6 hc7 hc8 hc9 hc10 hc11 hc12 hc13 hc14 hc15 hc16 kc0 kc1 kc2 kc3 kc4 kc5 kc6 kc7 kc8 kc9 kc10 kc11 tg0 tg1 tg2 tg3 tg4 tg5 tg6 tg7 tg8 tg9 tg10 tg11 tg12 tg13 tg14 tg15 tg16 tg17 tg18 tg19 tg20 tg21 tg22 tg23 tg24 tg25 tg26 tg27 tg28 tg29 tg30 tg31 tg32 tg33 tg34 tg35 tg36 hg0 hg1 hg2 hg3 hg4 hg5 hg6 hg7 hg8 hg9 hg10 hg11 hg12 hg13 hg14 hg15 hg16 kg0 kg1 kg2 kg3 kg4 kg5 kg6 kg7 kg8 kg9 kg10 kg11
attribute [local go_sem] ts12 ts13 ts14 ts16 ts17 ts18 ts19 ts20 ts21 ts22 ts23 ts24 ts25 ts26 ts27 ts28 ts29 ts30 ts31 ts32 ts33 ts34 ts35 ts36 ts15 hs0 hs1 hs2 hs3 hs7 hs8 hs9 hs10 hs11 hs12 hs13 hs14 hs15 hs16

attribute [local go_sem ↓] bdMo_is
attribute [local go_sem] run_bdMo
set_option maxRecDepth 100000 in
set_option maxHeartbeats 4000000 in
theorem steps_any (u : Tn) (a : TA) (w : World) : Calls Try.prog 29 #[.agg (tcs u a).toArray] w (StepsPost u a w) := by
  have hmm := @run_makeMap Try.prog
  have I0 : ∀ (W : World) (b : Nat), b = W.heap.size → (Instr.mapUpdate 82 (.map (some b)) (.int .i64 13) (.func (.func 54) #[.agg (tcs u a).toArray] #[])).run Try.prog (W.alloc (.map #[] 0)) = .ok () (W.alloc (.map #[⟨.int .i64 13, .func (.func 54) #[.agg (tcs u a).toArray] #[], 0⟩] 1)) := fun W b e => by subst e; exact run_ins W #[] 0 13 (.func (.func 54) #[.agg (tcs u a).toArray] #[]) rfl
  have I1 : ∀ (W : World) (b : Nat), b = W.heap.size → (Instr.mapUpdate 82 (.map (some b)) (.int .i64 14) (.func (.func 55) #[.agg (tcs u a).toArray] #[])).run Try.prog (W.alloc (.map #[⟨.int .i64 13, .func (.func 54) #[.agg (tcs u a).toArray] #[], 0⟩] 1)) = .ok () (W.alloc (.map #[⟨.int .i64 13, .func (.func 54) #[.agg (tcs u a).toArray] #[], 0⟩, ⟨.int .i64 14, .func (.func 55) #[.agg (tcs u a).toArray] #[], 1⟩] 2)) := fun W b e => by subst e; exact run_ins W #[⟨.int .i64 13, .func (.func 54) #[.agg (tcs u a).toArray] #[], 0⟩] 1 14 (.func (.func 55) #[.agg (tcs u a).toArray] #[]) rfl
  have I2 : ∀ (W : World) (b : Nat), b = W.heap.size → (Instr.mapUpdate 82 (.map (some b)) (.int .i64 15) (.func (.func 56) #[.agg (tcs u a).toArray] #[])).run Try.prog (W.alloc (.map #[⟨.int .i64 13, .func (.func 54) #[.agg (tcs u a).toArray] #[], 0⟩, ⟨.int .i64 14, .func (.func 55) #[.agg (tcs u a).toArray] #[], 1⟩] 2)) = .ok () (W.alloc (.map #[⟨.int .i64 13, .func (.func 54) #[.agg (tcs u a).toArray] #[], 0⟩, ⟨.int .i64 14, .func (.func 55) #[.agg (tcs u a).toArray] #[], 1⟩, ⟨.int .i64 15, .func (.func 56) #[.agg (tcs u a).toArray] #[], 2⟩] 3)) := fun W b e => by subst e; exact run_ins W #[⟨.int .i64 13, .func (.func 54) #[.agg (tcs u a).toArray] #[], 0⟩, ⟨.int .i64 14, .func (.func 55) #[.agg (tcs u a).toArray] #[], 1⟩] 2 15 (.func (.func 56) #[.agg (tcs u a).toArray] #[]) rfl
  have I3 : ∀ (W : World) (b : Nat), b = W.heap.size → (Instr.mapUpdate 82 (.map (some b)) (.int .i64 16) (.func (.func 57) #[.agg (tcs u a).toArray] #[])).run Try.prog (W.alloc (.map #[⟨.int .i64 13, .func (.func 54) #[.agg (tcs u a).toArray] #[], 0⟩, ⟨.int .i64 14, .func (.func 55) #[.agg (tcs u a).toArray] #[], 1⟩, ⟨.int .i64 15, .func (.func 56) #[.agg (tcs u a).toArray] #[], 2⟩] 3)) = .ok () (W.alloc (.map #[⟨.int .i64 13, .func (.func 54) #[.agg (tcs u a).toArray] #[], 0⟩, ⟨.int .i64 14, .func (.func 55) #[.agg (tcs u a).toArray] #[], 1⟩, ⟨.int .i64 15, .func (.func 56) #[.agg (tcs u a).toArray] #[], 2⟩, ⟨.int .i64 16, .func (.func 57) #[.agg (tcs u a).toArray] #[], 3⟩] 4)) := fun W b e => by subst e; exact run_ins W #[⟨.int .i64 13, .func (.func 54) #[.agg (tcs u a).toArray] #[], 0⟩, ⟨.int .i64 14, .func (.func 55) #[.agg (tcs u a).toArray] #[], 1⟩, ⟨.int .i64 15, .func (.func 56) #[.agg (tcs u a).toArray] #[], 2⟩] 3 16 (.func (.func 57) #[.agg (tcs u a).toArray] #[]) rfl
  go_enter Try.func29, Try.ntmps29
  go_wp2
  go_ret
  have e : (((w.alloc (.cells (tcs u a).toArray 38)).alloc (.cells zT.toArray 115)).setCells (w.heap.size + 1) 0 (tcs u a)).heap.size = w.heap.size + 1 + 1 := by simp [size_sets]
  have hB := Below.refl w.heap.size w
  refine ⟨_, rfl, ?_, ?_⟩
  · rw [← e]; exact heap_alloc_new _ _
  · repeat first | exact hB | refine below_sets _ (by omega) _ _ _ _ ?_ | refine Below.setCell ?_ (by first | omega | (simp; omega) | simp) _ | refine Below.alloc ?_ (by first | omega | (simp; omega) | simp) _
def isB (u : Tn) : Bool := decide (u.d.ph = 13 ∨ u.d.ph = 14 ∨ u.d.ph = 15 ∨ u.d.ph = 16)
def stepV (u : Tn) : Tn := if u.d.ph = 13 then waitV u else if u.d.ph = 14 then fetV u else if u.d.ph = 15 then shrV u else if u.d.ph = 16 then telV u else u
def StepPost (u : Tn) (b : Bool) (a : TA) (w : World) (e : Ending) (w' : World) : Prop := ∃ A c, e = .returned (.tuple #[.agg (tcs u { a with mA := A, mc := c }).toArray, .bool b]) ∧ Sees w' w'.heap.size 1 A u.ws.length (u.ws.map (Value.int .i64)) ∧ (A = a.mA ∨ Fresh w A) ∧ Below w.heap.size w w'
/-- Another phase, another kid, another number: the lists are where they were. -/
theorem TnAt.ph {w : World} {u : Tn} {a : TA} (h : TnAt w u a) (x y z : Int) (b : Bool) : TnAt w { u with d := { u.d with ph := x, pl := y, x := z }, dn := b } a := ⟨h.m, h.bx, ⟨h.th.b, h.th.k, h.th.h⟩, h.tp, h.lg⟩
theorem wait_is (u : Tn) : ∃ x, waitV u = { u with d := { u.d with ph := x } } := by
  unfold waitV; split
  · exact ⟨14, rfl⟩
  · exact ⟨u.d.ph, rfl⟩
theorem fet_is (u : Tn) : ∃ x y z b, fetV u = { u with d := { u.d with ph := x, pl := y, x := z }, dn := b } := by
  unfold fetV; split
  · obtain ⟨x, b, e⟩ := setlV_is { u with d := { u.d with x := ldV u.ws (rsV u.c u.tt), pl := 0 } }
    exact ⟨x, 0, _, b, e⟩
  · exact ⟨u.d.ph, u.d.pl, u.d.x, u.dn, rfl⟩
/-- The same lists, but the words, of which there are as many. -/
structure Like (u v : Tn) : Prop where
  bx : v.bx = u.bx
  bl : v.d.bl = u.d.bl
  kl : v.d.kl = u.d.kl
  hl : v.d.hl = u.d.hl
  tl : v.tl = u.tl
  ll : v.ll = u.ll
  wl : v.ws.length = u.ws.length
theorem Like.refl (u : Tn) : Like u u := ⟨rfl, rfl, rfl, rfl, rfl, rfl, rfl⟩
theorem like_set (u : Tn) : Like u (setlV u) := by unfold setlV; split <;> exact ⟨rfl, rfl, rfl, rfl, rfl, rfl, rfl⟩
theorem like_wait (u : Tn) : Like u (waitV u) := by unfold waitV; split <;> exact ⟨rfl, rfl, rfl, rfl, rfl, rfl, rfl⟩
theorem like_fet (u : Tn) : Like u (fetV u) := by
  unfold fetV; split
  · obtain ⟨a1, a2, a3, a4, a5, a6, a7⟩ := like_set { u with d := { u.d with x := ldV u.ws (rsV u.c u.tt), pl := 0 } }
    exact ⟨a1, a2, a3, a4, a5, a6, a7⟩
  · exact Like.refl u
theorem like_shr (u : Tn) : Like u (shrV u) := by
  unfold shrV; split
  · exact ⟨rfl, rfl, rfl, rfl, rfl, rfl, stV_length _ _ _⟩
  · exact Like.refl u
theorem like_tel (u : Tn) : Like u (telV u) := by
  unfold telV; split
  · obtain ⟨a1, a2, a3, a4, a5, a6, a7⟩ := like_set { u with ws := stV u.ws (lnV u.c (kidV u.d).1) 5, d := { u.d with pl := u.d.pl + 1 } }
    exact ⟨a1, a2, a3, a4, a5, a6, a7.trans (stV_length _ _ _)⟩
  · exact Like.refl u
theorem Like.at {u v : Tn} (L : Like u v) {w w' : World} {a : TA} (h : TnAt w u a) (hb : Below w.heap.size w w') {A : Option Addr} (c : Nat) (hs : Sees w' w'.heap.size 1 A v.ws.length (v.ws.map (Value.int .i64))) : TnAt w' v { a with mA := A, mc := c } := by
  refine ⟨h.m.words_at hb hs L.wl, h.bx.trans L.bx.symm, ⟨?_, ?_, ?_⟩, ?_, ?_⟩
  · rw [L.bl]; exact h.th.b.later hb
  · rw [L.kl]; exact h.th.k.later hb
  · rw [L.hl]; exact h.th.h.later hb
  · rw [L.tl]; exact h.tp.later hb
  · rw [L.ll]; exact h.lg.later hb
theorem wait_tn (u : Tn) (a : TA) (o : TnOk u) (w : World) (h : TnAt w u a) (hc : u.d.bl.length ≤ a.p.bc) : Calls Try.prog 54 #[.agg (tcs u a).toArray] w (TnPost (waitV u) a w) :=
  (wait_any u a o w h).mono fun e w' ⟨he, hb⟩ => ⟨a.mA, a.mc, he, (by obtain ⟨x, e⟩ := wait_is u; rw [e]; exact h.m.words.later hb), .inl rfl, hb⟩
theorem fetch_tn (u : Tn) (a : TA) (o : TnOk u) (w : World) (h : TnAt w u a) (hc : u.d.bl.length ≤ a.p.bc) : Calls Try.prog 55 #[.agg (tcs u a).toArray] w (TnPost (fetV u) a w) :=
  (fetch_any u a o w h).mono fun e w' ⟨he, hb⟩ => ⟨a.mA, a.mc, he, (by obtain ⟨x, y, z, b, e⟩ := fet_is u; rw [e]; exact h.m.words.later hb), .inl rfl, hb⟩
theorem ent_st (w : World) (u : Tn) (a : TA) : boxOf ((w.alloc (.cells (tcs u a).toArray 38)).alloc (.cells zT.toArray 38)) w.heap.size = some (tcs u a) ∧ boxOf ((w.alloc (.cells (tcs u a).toArray 38)).alloc (.cells zT.toArray 38)) (w.heap.size + 1) = some zT ∧ w.heap.size + 1 < ((w.alloc (.cells (tcs u a).toArray 38)).alloc (.cells zT.toArray 38)).heap.size ∧ Below w.heap.size w ((w.alloc (.cells (tcs u a).toArray 38)).alloc (.cells zT.toArray 38)) :=
  ⟨by simp [go_sem], by simp [go_sem], by simp [go_sem], (belowN w _).alloc (by simp) _⟩
set_option maxRecDepth 100000 in
set_option maxHeartbeats 4000000 in
theorem step_13 (u : Tn) (a : TA) (o : TnOk u) (w : World) (h : TnAt w u a) (hc : u.d.bl.length ≤ a.p.bc) (hph : u.d.ph = 13) : Calls Try.prog 11 #[.agg (tcs u a).toArray] w (StepPost (waitV u) true a w) := by
  obtain ⟨B1, B2, hs, hB⟩ := ent_st w u a
  have KH := hide (fun W (ht : TnAt W u a) => wait_tn u a o W ht hc)
  have LK := hide (fun W b hb => run_look W b (mapOf u a) 4 13 0 (.func (.func 54) #[.agg (tcs u a).toArray] #[]) hb rfl)
  have HL := hide (h.m.words.block_lt)
  have HW : Hid ((waitV u).ws.length = u.ws.length) := hide (like_wait u).wl
  obtain ⟨vv, hvv⟩ : ∃ x, (waitV u) = x := ⟨_, rfl⟩
  rw [hvv] at KH HW
  rw [hvv]
  clear hvv
  go_enter Try.func11, Try.ntmps11
  go_wp2_with fail
  generalize ((w.alloc (.cells (tcs u a).toArray 38)).alloc (.cells zT.toArray 38)) = wz at *
  have Z : boxOf wz.drew w.heap.size = some (tcs u a) ∧ boxOf wz.drew (w.heap.size + 1) = some zT ∧ Below w.heap.size w wz.drew := ⟨by rw [boxOf_drew]; exact B1, by rw [boxOf_drew]; exact B2, hB.drew⟩
  go_region_held3 (fun w' => boxOf w' w.heap.size = some (tcs u a) ∧ boxOf w' (w.heap.size + 1) = some zT ∧ Below w.heap.size w w')
    (first | (with_reducible exact Z1) | (with_reducible exact Z))
    (first
      | (go_at_call 29; refine (steps_any u a _).mono ?_; rintro e v1 ⟨b, rfl, hb, hb1⟩; have Z1 : boxOf v1 w.heap.size = some (tcs u a) ∧ boxOf v1 (w.heap.size + 1) = some zT ∧ Below w.heap.size w v1 := keepT3 (by assumption) hb1; have L1 := LK.out _ _ hb))
  clear B1 B2 hB Z
  obtain ⟨B1, B2, hB⟩ := Z1
  replace hs : w.heap.size + 1 < v1.heap.size := Nat.lt_of_lt_of_le hs (by have := hb1.size; simpa using this)
  clear hb1 hb L1 LK
  go_wp2_with fail
  refine (KH.out _ (h.later hB)).mono ?_
  rintro e w2 ⟨A, c, rfl, hsA, hor, hb2⟩
  replace B1 := boxOf_keep B1 hb2
  replace B2 := boxOf_keep B2 hb2
  have hB1 := hB.size
  replace hB := below_next hB hB.size hb2
  have hf : 0 < vv.ws.length → ∀ p, A = some p → p.block ≠ w.heap.size + 1 := fun hn p hp => by
    rcases hor with e | f
    · have := HL.out (by rw [← HW.out]; exact hn) p (e ▸ hp); omega
    · have := f p hp; omega
  have hoo : A = a.mA ∨ Fresh w A := hor.imp_right (fun f p hp => by have := f p hp; omega)
  replace hs := Nat.lt_of_lt_of_le hs hb2.size
  clear hb2 KH hor
  go_wp2
  have hBf : Below w.heap.size w (w2.setCells (w.heap.size + 1) 0 (tcs vv { a with mA := A, mc := c })) := by repeat first | exact hB | refine below_sets _ (by omega) _ _ _ _ ?_ | refine Below.setCell ?_ (by first | omega | (simp; omega) | simp) _ | refine Below.alloc ?_ (by first | omega | (simp; omega) | simp) _
  refine bodyPost_ret (v := .tuple #[.agg (tcs vv { a with mA := A, mc := c }).toArray, .bool true]) (results_box2 Try.results11 _ _ (w.heap.size + 1) _ _ _ rfl rfl (by simp [go_sem, B1, B2]) Try.underlying38 rfl (by kernel_rfl)) rfl ?_
  exact ⟨A, c, rfl, hsA.setCells2 _ hf _ _, hoo, hBf⟩
set_option maxRecDepth 100000 in
set_option maxHeartbeats 4000000 in
theorem step_14 (u : Tn) (a : TA) (o : TnOk u) (w : World) (h : TnAt w u a) (hc : u.d.bl.length ≤ a.p.bc) (hph : u.d.ph = 14) : Calls Try.prog 11 #[.agg (tcs u a).toArray] w (StepPost (fetV u) true a w) := by
  obtain ⟨B1, B2, hs, hB⟩ := ent_st w u a
  have KH := hide (fun W (ht : TnAt W u a) => fetch_tn u a o W ht hc)
  have LK := hide (fun W b hb => run_look W b (mapOf u a) 4 14 1 (.func (.func 55) #[.agg (tcs u a).toArray] #[]) hb rfl)
  have HL := hide (h.m.words.block_lt)
  have HW : Hid ((fetV u).ws.length = u.ws.length) := hide (like_fet u).wl
  obtain ⟨vv, hvv⟩ : ∃ x, (fetV u) = x := ⟨_, rfl⟩
  rw [hvv] at KH HW
  rw [hvv]
  clear hvv
  go_enter Try.func11, Try.ntmps11
  go_wp2_with fail
  generalize ((w.alloc (.cells (tcs u a).toArray 38)).alloc (.cells zT.toArray 38)) = wz at *
  have Z : boxOf wz.drew w.heap.size = some (tcs u a) ∧ boxOf wz.drew (w.heap.size + 1) = some zT ∧ Below w.heap.size w wz.drew := ⟨by rw [boxOf_drew]; exact B1, by rw [boxOf_drew]; exact B2, hB.drew⟩
  go_region_held3 (fun w' => boxOf w' w.heap.size = some (tcs u a) ∧ boxOf w' (w.heap.size + 1) = some zT ∧ Below w.heap.size w w')
    (first | (with_reducible exact Z1) | (with_reducible exact Z))
    (first
      | (go_at_call 29; refine (steps_any u a _).mono ?_; rintro e v1 ⟨b, rfl, hb, hb1⟩; have Z1 : boxOf v1 w.heap.size = some (tcs u a) ∧ boxOf v1 (w.heap.size + 1) = some zT ∧ Below w.heap.size w v1 := keepT3 (by assumption) hb1; have L1 := LK.out _ _ hb))
  clear B1 B2 hB Z
  obtain ⟨B1, B2, hB⟩ := Z1
  replace hs : w.heap.size + 1 < v1.heap.size := Nat.lt_of_lt_of_le hs (by have := hb1.size; simpa using this)
  clear hb1 hb L1 LK
  go_wp2_with fail
  refine (KH.out _ (h.later hB)).mono ?_
  rintro e w2 ⟨A, c, rfl, hsA, hor, hb2⟩
  replace B1 := boxOf_keep B1 hb2
  replace B2 := boxOf_keep B2 hb2
  have hB1 := hB.size
  replace hB := below_next hB hB.size hb2
  have hf : 0 < vv.ws.length → ∀ p, A = some p → p.block ≠ w.heap.size + 1 := fun hn p hp => by
    rcases hor with e | f
    · have := HL.out (by rw [← HW.out]; exact hn) p (e ▸ hp); omega
    · have := f p hp; omega
  have hoo : A = a.mA ∨ Fresh w A := hor.imp_right (fun f p hp => by have := f p hp; omega)
  replace hs := Nat.lt_of_lt_of_le hs hb2.size
  clear hb2 KH hor
  go_wp2
  have hBf : Below w.heap.size w (w2.setCells (w.heap.size + 1) 0 (tcs vv { a with mA := A, mc := c })) := by repeat first | exact hB | refine below_sets _ (by omega) _ _ _ _ ?_ | refine Below.setCell ?_ (by first | omega | (simp; omega) | simp) _ | refine Below.alloc ?_ (by first | omega | (simp; omega) | simp) _
  refine bodyPost_ret (v := .tuple #[.agg (tcs vv { a with mA := A, mc := c }).toArray, .bool true]) (results_box2 Try.results11 _ _ (w.heap.size + 1) _ _ _ rfl rfl (by simp [go_sem, B1, B2]) Try.underlying38 rfl (by kernel_rfl)) rfl ?_
  exact ⟨A, c, rfl, hsA.setCells2 _ hf _ _, hoo, hBf⟩
set_option maxRecDepth 100000 in
set_option maxHeartbeats 4000000 in
theorem step_15 (u : Tn) (a : TA) (o : TnOk u) (w : World) (h : TnAt w u a) (hc : u.d.bl.length ≤ a.p.bc) (hph : u.d.ph = 15) : Calls Try.prog 11 #[.agg (tcs u a).toArray] w (StepPost (shrV u) true a w) := by
  obtain ⟨B1, B2, hs, hB⟩ := ent_st w u a
  have KH := hide (fun W (ht : TnAt W u a) => share_any u a o W ht hc)
  have LK := hide (fun W b hb => run_look W b (mapOf u a) 4 15 2 (.func (.func 56) #[.agg (tcs u a).toArray] #[]) hb rfl)
  have HL := hide (h.m.words.block_lt)
  have HW : Hid ((shrV u).ws.length = u.ws.length) := hide (like_shr u).wl
  obtain ⟨vv, hvv⟩ : ∃ x, (shrV u) = x := ⟨_, rfl⟩
  rw [hvv] at KH HW
  rw [hvv]
  clear hvv
  go_enter Try.func11, Try.ntmps11
  go_wp2_with fail
  generalize ((w.alloc (.cells (tcs u a).toArray 38)).alloc (.cells zT.toArray 38)) = wz at *
  have Z : boxOf wz.drew w.heap.size = some (tcs u a) ∧ boxOf wz.drew (w.heap.size + 1) = some zT ∧ Below w.heap.size w wz.drew := ⟨by rw [boxOf_drew]; exact B1, by rw [boxOf_drew]; exact B2, hB.drew⟩
  go_region_held3 (fun w' => boxOf w' w.heap.size = some (tcs u a) ∧ boxOf w' (w.heap.size + 1) = some zT ∧ Below w.heap.size w w')
    (first | (with_reducible exact Z1) | (with_reducible exact Z))
    (first
      | (go_at_call 29; refine (steps_any u a _).mono ?_; rintro e v1 ⟨b, rfl, hb, hb1⟩; have Z1 : boxOf v1 w.heap.size = some (tcs u a) ∧ boxOf v1 (w.heap.size + 1) = some zT ∧ Below w.heap.size w v1 := keepT3 (by assumption) hb1; have L1 := LK.out _ _ hb))
  clear B1 B2 hB Z
  obtain ⟨B1, B2, hB⟩ := Z1
  replace hs : w.heap.size + 1 < v1.heap.size := Nat.lt_of_lt_of_le hs (by have := hb1.size; simpa using this)
  clear hb1 hb L1 LK
  go_wp2_with fail
  refine (KH.out _ (h.later hB)).mono ?_
  rintro e w2 ⟨A, c, rfl, hsA, hor, hb2⟩
  replace B1 := boxOf_keep B1 hb2
  replace B2 := boxOf_keep B2 hb2
  have hB1 := hB.size
  replace hB := below_next hB hB.size hb2
  have hf : 0 < vv.ws.length → ∀ p, A = some p → p.block ≠ w.heap.size + 1 := fun hn p hp => by
    rcases hor with e | f
    · have := HL.out (by rw [← HW.out]; exact hn) p (e ▸ hp); omega
    · have := f p hp; omega
  have hoo : A = a.mA ∨ Fresh w A := hor.imp_right (fun f p hp => by have := f p hp; omega)
  replace hs := Nat.lt_of_lt_of_le hs hb2.size
  clear hb2 KH hor
  go_wp2
  have hBf : Below w.heap.size w (w2.setCells (w.heap.size + 1) 0 (tcs vv { a with mA := A, mc := c })) := by repeat first | exact hB | refine below_sets _ (by omega) _ _ _ _ ?_ | refine Below.setCell ?_ (by first | omega | (simp; omega) | simp) _ | refine Below.alloc ?_ (by first | omega | (simp; omega) | simp) _
  refine bodyPost_ret (v := .tuple #[.agg (tcs vv { a with mA := A, mc := c }).toArray, .bool true]) (results_box2 Try.results11 _ _ (w.heap.size + 1) _ _ _ rfl rfl (by simp [go_sem, B1, B2]) Try.underlying38 rfl (by kernel_rfl)) rfl ?_
  exact ⟨A, c, rfl, hsA.setCells2 _ hf _ _, hoo, hBf⟩
set_option maxRecDepth 100000 in
set_option maxHeartbeats 4000000 in
theorem step_16 (u : Tn) (a : TA) (o : TnOk u) (w : World) (h : TnAt w u a) (hc : u.d.bl.length ≤ a.p.bc) (hph : u.d.ph = 16) : Calls Try.prog 11 #[.agg (tcs u a).toArray] w (StepPost (telV u) true a w) := by
  obtain ⟨B1, B2, hs, hB⟩ := ent_st w u a
  have KH := hide (fun W (ht : TnAt W u a) => tell_any u a o W ht hc)
  have LK := hide (fun W b hb => run_look W b (mapOf u a) 4 16 3 (.func (.func 57) #[.agg (tcs u a).toArray] #[]) hb rfl)
  have HL := hide (h.m.words.block_lt)
  have HW : Hid ((telV u).ws.length = u.ws.length) := hide (like_tel u).wl
  obtain ⟨vv, hvv⟩ : ∃ x, (telV u) = x := ⟨_, rfl⟩
  rw [hvv] at KH HW
  rw [hvv]
  clear hvv
  go_enter Try.func11, Try.ntmps11
  go_wp2_with fail
  generalize ((w.alloc (.cells (tcs u a).toArray 38)).alloc (.cells zT.toArray 38)) = wz at *
  have Z : boxOf wz.drew w.heap.size = some (tcs u a) ∧ boxOf wz.drew (w.heap.size + 1) = some zT ∧ Below w.heap.size w wz.drew := ⟨by rw [boxOf_drew]; exact B1, by rw [boxOf_drew]; exact B2, hB.drew⟩
  go_region_held3 (fun w' => boxOf w' w.heap.size = some (tcs u a) ∧ boxOf w' (w.heap.size + 1) = some zT ∧ Below w.heap.size w w')
    (first | (with_reducible exact Z1) | (with_reducible exact Z))
    (first
      | (go_at_call 29; refine (steps_any u a _).mono ?_; rintro e v1 ⟨b, rfl, hb, hb1⟩; have Z1 : boxOf v1 w.heap.size = some (tcs u a) ∧ boxOf v1 (w.heap.size + 1) = some zT ∧ Below w.heap.size w v1 := keepT3 (by assumption) hb1; have L1 := LK.out _ _ hb))
  clear B1 B2 hB Z
  obtain ⟨B1, B2, hB⟩ := Z1
  replace hs : w.heap.size + 1 < v1.heap.size := Nat.lt_of_lt_of_le hs (by have := hb1.size; simpa using this)
  clear hb1 hb L1 LK
  go_wp2_with fail
  refine (KH.out _ (h.later hB)).mono ?_
  rintro e w2 ⟨A, c, rfl, hsA, hor, hb2⟩
  replace B1 := boxOf_keep B1 hb2
  replace B2 := boxOf_keep B2 hb2
  have hB1 := hB.size
  replace hB := below_next hB hB.size hb2
  have hf : 0 < vv.ws.length → ∀ p, A = some p → p.block ≠ w.heap.size + 1 := fun hn p hp => by
    rcases hor with e | f
    · have := HL.out (by rw [← HW.out]; exact hn) p (e ▸ hp); omega
    · have := f p hp; omega
  have hoo : A = a.mA ∨ Fresh w A := hor.imp_right (fun f p hp => by have := f p hp; omega)
  replace hs := Nat.lt_of_lt_of_le hs hb2.size
  clear hb2 KH hor
  go_wp2
  have hBf : Below w.heap.size w (w2.setCells (w.heap.size + 1) 0 (tcs vv { a with mA := A, mc := c })) := by repeat first | exact hB | refine below_sets _ (by omega) _ _ _ _ ?_ | refine Below.setCell ?_ (by first | omega | (simp; omega) | simp) _ | refine Below.alloc ?_ (by first | omega | (simp; omega) | simp) _
  refine bodyPost_ret (v := .tuple #[.agg (tcs vv { a with mA := A, mc := c }).toArray, .bool true]) (results_box2 Try.results11 _ _ (w.heap.size + 1) _ _ _ rfl rfl (by simp [go_sem, B1, B2]) Try.underlying38 rfl (by kernel_rfl)) rfl ?_
  exact ⟨A, c, rfl, hsA.setCells2 _ hf _ _, hoo, hBf⟩
/-- A phase of another layer. -/
theorem step_none (u : Tn) (a : TA) (w : World) (h : TnAt w u a) (hc : u.d.bl.length ≤ a.p.bc) (hf : Instr.findNow (.int .i64) (.int .i64 u.d.ph) (mapOf u a).toList 0 = some none) : Calls Try.prog 11 #[.agg (tcs u a).toArray] w (StepPost u false a w) := by
  obtain ⟨B1, B2, hs, hB⟩ := ent_st w u a
  have LK := hide (fun W b hb => run_lookno W b (mapOf u a) 4 u.d.ph hb hf)
  clear hf
  go_enter Try.func11, Try.ntmps11
  go_wp2_with fail
  generalize ((w.alloc (.cells (tcs u a).toArray 38)).alloc (.cells zT.toArray 38)) = wz at *
  have Z : boxOf wz.drew w.heap.size = some (tcs u a) ∧ boxOf wz.drew (w.heap.size + 1) = some zT ∧ Below w.heap.size w wz.drew := ⟨by rw [boxOf_drew]; exact B1, by rw [boxOf_drew]; exact B2, hB.drew⟩
  go_region_held3 (fun w' => boxOf w' w.heap.size = some (tcs u a) ∧ boxOf w' (w.heap.size + 1) = some zT ∧ Below w.heap.size w w')
    (first | (with_reducible exact Z1) | (with_reducible exact Z))
    (first
      | (go_at_call 29; refine (steps_any u a _).mono ?_; rintro e v1 ⟨b, rfl, hb, hb1⟩; have Z1 : boxOf v1 w.heap.size = some (tcs u a) ∧ boxOf v1 (w.heap.size + 1) = some zT ∧ Below w.heap.size w v1 := keepT3 (by assumption) hb1; have L1 := LK.out _ _ hb))
  clear B1 B2 hB Z
  obtain ⟨B1, B2, hB⟩ := Z1
  clear hb1 hb L1 LK
  go_wp2
  have hBf : Below w.heap.size w (v1.setCells (w.heap.size + 1) 0 (tcs u a)) := by repeat first | exact hB | refine below_sets _ (by omega) _ _ _ _ ?_ | refine Below.setCell ?_ (by first | omega | (simp; omega) | simp) _ | refine Below.alloc ?_ (by first | omega | (simp; omega) | simp) _
  refine bodyPost_ret (v := .tuple #[.agg (tcs u a).toArray, .bool false]) (results_box2 Try.results11 _ _ (w.heap.size + 1) _ _ _ rfl rfl (by simp [go_sem, B1, B2]) Try.underlying38 rfl (by kernel_rfl)) rfl ?_
  exact ⟨a.mA, a.mc, rfl, h.m.words.later hBf, .inl rfl, hBf⟩
theorem like_step (u : Tn) : Like u (stepV u) := by
  unfold stepV
  split
  · exact like_wait u
  split
  · exact like_fet u
  split
  · exact like_shr u
  split
  · exact like_tel u
  · exact Like.refl u
/-- One step of whatever turn. -/
theorem step_any (u : Tn) (a : TA) (o : TnOk u) (w : World) (h : TnAt w u a) (hc : u.d.bl.length ≤ a.p.bc) : Calls Try.prog 11 #[.agg (tcs u a).toArray] w (StepPost (stepV u) (isB u) a w) := by
  by_cases h3 : u.d.ph = 13
  · have e1 : stepV u = waitV u := by rw [stepV, if_pos h3]
    have e2 : isB u = true := by simp [isB, h3]
    rw [e1, e2]; exact step_13 u a o w h hc h3
  by_cases h4 : u.d.ph = 14
  · have e1 : stepV u = fetV u := by rw [stepV, if_neg h3, if_pos h4]
    have e2 : isB u = true := by simp [isB, h4]
    rw [e1, e2]; exact step_14 u a o w h hc h4
  by_cases h5 : u.d.ph = 15
  · have e1 : stepV u = shrV u := by rw [stepV, if_neg h3, if_neg h4, if_pos h5]
    have e2 : isB u = true := by simp [isB, h5]
    rw [e1, e2]; exact step_15 u a o w h hc h5
  by_cases h6 : u.d.ph = 16
  · have e1 : stepV u = telV u := by rw [stepV, if_neg h3, if_neg h4, if_neg h5, if_pos h6]
    have e2 : isB u = true := by simp [isB, h6]
    rw [e1, e2]; exact step_16 u a o w h hc h6
  have e1 : stepV u = u := by rw [stepV, if_neg h3, if_neg h4, if_neg h5, if_neg h6]
  have e2 : isB u = false := by simp [isB, h3, h4, h5, h6]
  rw [e1, e2]
  exact step_none u a w h hc (by simp [mapOf, Instr.findNow, Instr.sameNow, beq_eq_false_iff_ne.2 h3, beq_eq_false_iff_ne.2 h4, beq_eq_false_iff_ne.2 h5, beq_eq_false_iff_ne.2 h6])
end Go.Proofs.Ytnmffjlfdnebnaa
