/- Layer 15: what a thread reads or writes. -/
import Derived.Test.YtjghdbkkjhnpfaaCoA
import Derived.Test.YtjghdbkkjhnpfaaM2
import Derived.Lib.QuietBelow
import Derived.Deep.QuietTactic
import Derived.BigQuiet
import Derived.Laws.EntriesVeiled
import Derived.Deep.RegionHeld3
import Derived.Deep.RegionWith
namespace Go.Proofs.Ytjghdbkkjhnpfaa
open Go.RowKit Go.Sort
set_option linter.unusedVariables false
set_option linter.unusedSimpArgs false

/-- A turn behind what its thread read or wrote, what it saw there, an error. -/
def DoPost (X : Nat → Prop) (v : Tn) (q : Int) (p : Bool) (l : List E3) (ev : Int) (u : Tn) (a : TA) (w : World) (e : Ending) (w' : World) : Prop := ∃ b A c, e = .returned (.tuple #[.agg (tcs v b).toArray, .agg #[.int .i64 q, .bool p, .slice A l.length c], .int .i64 ev]) ∧ TnAt w' v b ∧ Sees w' w'.heap.size 3 A l.length (ecells l) ∧ (∀ g, g < w.heap.size → Off g u a → X g → Off g v b) ∧ Below w.heap.size w w'
theorem ta00 (v : Value) (w : World) : (Instr.typeAssert (.iface 100 v) 20 100 true).run Try.prog w = .ok (.tuple #[v, .bool true]) w := by kernel_rfl
theorem ta01 (v : Value) (w : World) : (Instr.typeAssert (.iface 100 v) 20 102 true).run Try.prog w = .ok (.tuple #[.agg #[.int .i64 0, .int .i64 0], .bool false]) w := by kernel_rfl
theorem ta02 (v : Value) (w : World) : (Instr.typeAssert (.iface 100 v) 20 108 true).run Try.prog w = .ok (.tuple #[.agg #[.int .i64 0, .int .i64 0, .slice none 0 0, .int .i64 0], .bool false]) w := by kernel_rfl
theorem ta03 (v : Value) (w : World) : (Instr.typeAssert (.iface 100 v) 20 110 true).run Try.prog w = .ok (.tuple #[.agg #[.int .i64 0, .int .i64 0], .bool false]) w := by kernel_rfl
theorem ta04 (v : Value) (w : World) : (Instr.typeAssert (.iface 100 v) 20 113 true).run Try.prog w = .ok (.tuple #[.agg #[.int .i64 0, .int .i64 0], .bool false]) w := by kernel_rfl
theorem ta05 (v : Value) (w : World) : (Instr.typeAssert (.iface 100 v) 20 112 true).run Try.prog w = .ok (.tuple #[.agg #[.int .i64 0], .bool false]) w := by kernel_rfl
theorem ta10 (v : Value) (w : World) : (Instr.typeAssert (.iface 102 v) 20 100 true).run Try.prog w = .ok (.tuple #[.agg #[.int .i64 0, .slice none 0 0], .bool false]) w := by kernel_rfl
theorem ta11 (v : Value) (w : World) : (Instr.typeAssert (.iface 102 v) 20 102 true).run Try.prog w = .ok (.tuple #[v, .bool true]) w := by kernel_rfl
theorem ta12 (v : Value) (w : World) : (Instr.typeAssert (.iface 102 v) 20 108 true).run Try.prog w = .ok (.tuple #[.agg #[.int .i64 0, .int .i64 0, .slice none 0 0, .int .i64 0], .bool false]) w := by kernel_rfl
theorem ta13 (v : Value) (w : World) : (Instr.typeAssert (.iface 102 v) 20 110 true).run Try.prog w = .ok (.tuple #[.agg #[.int .i64 0, .int .i64 0], .bool false]) w := by kernel_rfl
theorem ta14 (v : Value) (w : World) : (Instr.typeAssert (.iface 102 v) 20 113 true).run Try.prog w = .ok (.tuple #[.agg #[.int .i64 0, .int .i64 0], .bool false]) w := by kernel_rfl
theorem ta15 (v : Value) (w : World) : (Instr.typeAssert (.iface 102 v) 20 112 true).run Try.prog w = .ok (.tuple #[.agg #[.int .i64 0], .bool false]) w := by kernel_rfl
theorem ta20 (v : Value) (w : World) : (Instr.typeAssert (.iface 108 v) 20 100 true).run Try.prog w = .ok (.tuple #[.agg #[.int .i64 0, .slice none 0 0], .bool false]) w := by kernel_rfl
theorem ta21 (v : Value) (w : World) : (Instr.typeAssert (.iface 108 v) 20 102 true).run Try.prog w = .ok (.tuple #[.agg #[.int .i64 0, .int .i64 0], .bool false]) w := by kernel_rfl
theorem ta22 (v : Value) (w : World) : (Instr.typeAssert (.iface 108 v) 20 108 true).run Try.prog w = .ok (.tuple #[v, .bool true]) w := by kernel_rfl
theorem ta23 (v : Value) (w : World) : (Instr.typeAssert (.iface 108 v) 20 110 true).run Try.prog w = .ok (.tuple #[.agg #[.int .i64 0, .int .i64 0], .bool false]) w := by kernel_rfl
theorem ta24 (v : Value) (w : World) : (Instr.typeAssert (.iface 108 v) 20 113 true).run Try.prog w = .ok (.tuple #[.agg #[.int .i64 0, .int .i64 0], .bool false]) w := by kernel_rfl
theorem ta25 (v : Value) (w : World) : (Instr.typeAssert (.iface 108 v) 20 112 true).run Try.prog w = .ok (.tuple #[.agg #[.int .i64 0], .bool false]) w := by kernel_rfl
theorem ta30 (v : Value) (w : World) : (Instr.typeAssert (.iface 110 v) 20 100 true).run Try.prog w = .ok (.tuple #[.agg #[.int .i64 0, .slice none 0 0], .bool false]) w := by kernel_rfl
theorem ta31 (v : Value) (w : World) : (Instr.typeAssert (.iface 110 v) 20 102 true).run Try.prog w = .ok (.tuple #[.agg #[.int .i64 0, .int .i64 0], .bool false]) w := by kernel_rfl
theorem ta32 (v : Value) (w : World) : (Instr.typeAssert (.iface 110 v) 20 108 true).run Try.prog w = .ok (.tuple #[.agg #[.int .i64 0, .int .i64 0, .slice none 0 0, .int .i64 0], .bool false]) w := by kernel_rfl
theorem ta33 (v : Value) (w : World) : (Instr.typeAssert (.iface 110 v) 20 110 true).run Try.prog w = .ok (.tuple #[v, .bool true]) w := by kernel_rfl
theorem ta34 (v : Value) (w : World) : (Instr.typeAssert (.iface 110 v) 20 113 true).run Try.prog w = .ok (.tuple #[.agg #[.int .i64 0, .int .i64 0], .bool false]) w := by kernel_rfl
theorem ta35 (v : Value) (w : World) : (Instr.typeAssert (.iface 110 v) 20 112 true).run Try.prog w = .ok (.tuple #[.agg #[.int .i64 0], .bool false]) w := by kernel_rfl
theorem ta40 (v : Value) (w : World) : (Instr.typeAssert (.iface 113 v) 20 100 true).run Try.prog w = .ok (.tuple #[.agg #[.int .i64 0, .slice none 0 0], .bool false]) w := by kernel_rfl
theorem ta41 (v : Value) (w : World) : (Instr.typeAssert (.iface 113 v) 20 102 true).run Try.prog w = .ok (.tuple #[.agg #[.int .i64 0, .int .i64 0], .bool false]) w := by kernel_rfl
theorem ta42 (v : Value) (w : World) : (Instr.typeAssert (.iface 113 v) 20 108 true).run Try.prog w = .ok (.tuple #[.agg #[.int .i64 0, .int .i64 0, .slice none 0 0, .int .i64 0], .bool false]) w := by kernel_rfl
theorem ta43 (v : Value) (w : World) : (Instr.typeAssert (.iface 113 v) 20 110 true).run Try.prog w = .ok (.tuple #[.agg #[.int .i64 0, .int .i64 0], .bool false]) w := by kernel_rfl
theorem ta44 (v : Value) (w : World) : (Instr.typeAssert (.iface 113 v) 20 113 true).run Try.prog w = .ok (.tuple #[v, .bool true]) w := by kernel_rfl
theorem ta45 (v : Value) (w : World) : (Instr.typeAssert (.iface 113 v) 20 112 true).run Try.prog w = .ok (.tuple #[.agg #[.int .i64 0], .bool false]) w := by kernel_rfl
theorem ta50 (v : Value) (w : World) : (Instr.typeAssert (.iface 112 v) 20 100 true).run Try.prog w = .ok (.tuple #[.agg #[.int .i64 0, .slice none 0 0], .bool false]) w := by kernel_rfl
theorem ta51 (v : Value) (w : World) : (Instr.typeAssert (.iface 112 v) 20 102 true).run Try.prog w = .ok (.tuple #[.agg #[.int .i64 0, .int .i64 0], .bool false]) w := by kernel_rfl
theorem ta52 (v : Value) (w : World) : (Instr.typeAssert (.iface 112 v) 20 108 true).run Try.prog w = .ok (.tuple #[.agg #[.int .i64 0, .int .i64 0, .slice none 0 0, .int .i64 0], .bool false]) w := by kernel_rfl
theorem ta53 (v : Value) (w : World) : (Instr.typeAssert (.iface 112 v) 20 110 true).run Try.prog w = .ok (.tuple #[.agg #[.int .i64 0, .int .i64 0], .bool false]) w := by kernel_rfl
theorem ta54 (v : Value) (w : World) : (Instr.typeAssert (.iface 112 v) 20 113 true).run Try.prog w = .ok (.tuple #[.agg #[.int .i64 0, .int .i64 0], .bool false]) w := by kernel_rfl
theorem ta55 (v : Value) (w : World) : (Instr.typeAssert (.iface 112 v) 20 112 true).run Try.prog w = .ok (.tuple #[v, .bool true]) w := by kernel_rfl
/-- A batch in a row of its own, an error. -/
def RFPost (l : List E3) (e : Int) (w : World) (x : Ending) (w' : World) : Prop :=
  ∃ A c, x = .returned (.tuple #[.slice A l.length c, .int .i64 e]) ∧ Sees w' w'.heap.size 3 A l.length (ecells l) ∧ Fresh w A ∧ Below w.heap.size w w'
set_option maxRecDepth 100000 in
set_option maxHeartbeats 1000000 in
theorem boxF_any (A B : Option Addr) (c d : Nat) (ws : List Int) (bs : List Bt) (i : Int) (w : World) (h : MemOk w A ws B bs) :
    Calls Try.prog 51 #[.agg #[.slice A ws.length c, .slice B bs.length d], .int .i64 i] w (RFPost (bxV (boxes bs) i) (erV bs.length i) w) := by
  have hb : Below w.heap.size w (w.alloc (.cells #[.slice A ws.length c, .slice B bs.length d] 27)) := (Below.refl _ w).alloc (Nat.le_refl _) _
  have m1 := h.later hb
  have K := hide (readB_any B d bs i _ m1.bxs m1.each)
  have HS := hide h.short
  obtain ⟨ev, he⟩ : ∃ x, erV bs.length i = x := ⟨_, rfl⟩
  rw [he] at K ⊢
  clear h m1 he
  go_enter Try.func51, Try.ntmps51
  go_wp2_with fail
  refine K.out.mono ?_
  rintro x w1 ⟨⟨qA, qc, ql⟩, rfl, hql, hqo, hqm, rfl⟩
  have HQ := hide hql
  have hl : ql.length ≤ 100000 := by
    rcases hqm with hm | hm
    · exact Nat.le_trans (HS.out _ hm) (by omega)
    · have hm' : ql = [] := hm
      rw [hm']; simp
  have K2 := hide (join1_any qA qc ql hl _ (w.heap.size + 1) (by simp) hqo)
  clear hql hqo hqm hl
  go_wp2_with fail
  refine K2.out.mono ?_
  rintro x w2 ⟨A2, c2, rfl, hc2, hs2, hf2, hb2⟩
  go_wp2
  go_ret2
  have hq' : ql = bxV (boxes bs) i := HQ.out
  rw [RFPost, ← hq']
  exact ⟨A2, c2, rfl, hs2, hf2.before (by simp), below_next hb (by simp) hb2⟩

theorem results_box3 {fn : Func} {p q r : Tmp} {ty ty2 : TypeId} (h : fn.results = #[.cell p ty, .cell q ty2, .tmp r]) (tmps : Array Value) (w : World) (g k : Nat) (cs ds : List Value) (d d2 : TypeDesc) (v : Value) (hp : tmps.getD p undef = .pointer (some ⟨g, 0, none⟩)) (hq : tmps.getD q undef = .pointer (some ⟨k, 0, none⟩)) (hr : tmps.getD r undef = v) (hc : boxOf w g = some cs) (hk : boxOf w k = some ds)
    (hu : Try.prog.underlying ty = some d) (hd : d.isRow = true) (hi : (Try.prog.info? ty).map (·.size) = some cs.length) (hu2 : Try.prog.underlying ty2 = some d2) (hd2 : d2.isRow = true) (hi2 : (Try.prog.info? ty2).map (·.size) = some ds.length) : (results fn tmps).run Try.prog w = .ok (.tuple #[.agg cs.toArray, .agg ds.toArray, v]) w := by
  have hp' : tmps[p]?.getD undef = .pointer (some ⟨g, 0, none⟩) := by simpa using hp
  have hq' : tmps[q]?.getD undef = .pointer (some ⟨k, 0, none⟩) := by simpa using hq
  have hr' : tmps[r]?.getD undef = v := by simpa using hr
  simp [results, h, hp', hq', hr', asAddr, run_loadVar_mid w g 0 ty cs d (boxOf_range hc) hu hd hi, run_loadVar_mid w k 0 ty2 ds d2 (boxOf_range hk) hu2 hd2 hi2]
theorem ts15g (u : Tn) (a : TA) (B : Option Addr) (bs : List Bt) (d : Nat) : (tcs u a).set 15 (.slice B bs.length d) = tcs u { a with mB := B, md := d, bs := bs } := id rfl
theorem tcs_bxd (u : Tn) (nb : List (List E3)) (a : TA) : tcs { u with bx := nb } a = tcs u a := id rfl
theorem tn_ws {u : Tn} {a : TA} {W w : World} {nw : List Int} {A : Option Addr} {c : Nat} (h : TnAt W u a) (hb : Below W.heap.size W w) (s : Sees w w.heap.size 1 A nw.length (nw.map (Value.int .i64))) (hn : nw.length = u.ws.length) : TnAt w { u with ws := nw } { a with mA := A, mc := c } :=
  have h' := h.later hb
  ⟨h.m.words_at hb s hn, h'.bx, h'.th, h'.tp, h'.lg⟩
theorem off_ws {u : Tn} {a : TA} {W : World} {nw : List Int} {A : Option Addr} {c g : Nat} (f : Off g u a) (hA : A = a.mA ∨ Fresh W A) (hg : g < W.heap.size) (hn : nw.length = u.ws.length) : Off g { u with ws := nw } { a with mA := A, mc := c } :=
  ⟨fun h p hp => by
    rcases hA with e | e
    · exact f.w (by rw [← hn]; exact h) p (e ▸ hp)
    · have := e p hp; omega, f.x, f.e, f.b, f.k, f.h, f.t, f.l⟩
theorem tn_bx {u : Tn} {a : TA} {W w : World} {nb : List (List E3)} {B' : Option Addr} {d : Nat} {bs' : List Bt} (h : TnAt W u a) (hb : Below W.heap.size W w) (hl : u.d.bl.length ≤ 200) (hbx : boxes bs' = nb) (k : BxOk W w a.mB a.bs u.d.bl B' bs') : TnAt w { u with bx := nb } { a with mB := B', md := d, bs := bs' } :=
  have h' := h.later hb
  ⟨⟨⟨h'.m.words, k.row, k.each⟩, h'.m.few, by rw [k.len]; exact h'.m.fewb, fun q hq => by
    rcases k.old q hq with e | e
    · exact h'.m.short q e
    · rw [e.2]; omega⟩, hbx, h'.th, h'.tp, h'.lg⟩
theorem off_bx {u : Tn} {a : TA} {W w : World} {nb : List (List E3)} {B' : Option Addr} {d g : Nat} {bs' : List Bt} (f : Off g u a) (hg : g < W.heap.size) (k : BxOk W w a.mB a.bs u.d.bl B' bs') : Off g { u with bx := nb } { a with mB := B', md := d, bs := bs' } :=
  ⟨f.w, fun h p hp => by
    rcases k.place with e | e
    · exact f.x (by rw [← k.len]; exact h) p (e ▸ hp)
    · have := e p hp; omega, fun q hq h p hp => by
    rcases k.old q hq with e | e
    · exact f.e q e h p hp
    · have := e.1 p hp; omega, f.b, f.k, f.h, f.t, f.l⟩
theorem tn_tp {u : Tn} {a : TA} {w : World} {A : Option Addr} {c : Nat} (k : Int) (h : TnAt w u a) (s : Sees w w.heap.size 1 A u.tl.length (u.tl.map (Value.int .i64))) : TnAt w { u with ta := k } { a with tA := A, tc := c } := ⟨h.m, h.bx, h.th, s, h.lg⟩
theorem off_tp {u : Tn} {a : TA} {A : Option Addr} {c g : Nat} (k : Int) (f : Off g u a) (hA : 0 < u.tl.length → ∀ p, A = some p → p.block ≠ g) : Off g { u with ta := k } { a with tA := A, tc := c } := ⟨f.w, f.x, f.e, f.b, f.k, f.h, hA, f.l⟩
attribute [local irreducible] tcs thc ccs zT
attribute [local go_sem ↓] alTn_is alRn_is
attribute [local go_sem] run_alTnf run_alTnt run_alRnf run_alRnt zT_length
attribute [local go_sem ↓] lbTn_is lbRn_is lbTh_is lbRh_is lbCf_is lbRc_is sbTn_is sbRn_is sbTh_is sbRh_is sbCf_is sbRc_is
attribute [local go_sem] run_lbTn run_lbRn run_lbTh run_lbRh run_lbCf run_lbRc run_sbTn run_sbRn run_sbTh run_sbRh run_sbCf run_sbRc
attribute [local go_sem 2000] boxOf_old'
attribute [local go_sem] boxOf_at' boxOf_free' boxOf_alloc objBox_cells objBox_cellsA boxOf_drew boxOf_setI boxOf_setsI size_sets tcs_length thc_length ccs_length tcs_one thc_one ccs_one sub_tn sub_th sub_cf sub_thAll sub_cfAll put_turn put_thread
attribute [local go_sem] tc0 tc1 tc2 tc3 tc4 tc5 tc6 tc7 tc8 tc9 tc10 tc11 tc12 tc13 tc14 tc15 tc16 tc17 tc18 tc19 tc20 tc21 tc22 tc23 tc24 tc25 tc26 tc27 tc28 tc29 tc30 tc31 tc32 tc33 tc34 tc35 tc36 hc0 hc1 hc2 hc3 hc4 hc5 hc6 hc7 hc8 hc9 hc10 hc11 hc12 hc13 hc14 hc15 hc16 kc0 kc1 kc2 kc3 kc4 kc5 kc6 kc7 kc8 kc9 kc10 kc11 tg0 tg1 tg2 tg3 tg4 tg5 tg6 tg7 tg8 tg9 tg10 tg11 tg12 tg13 tg14 tg15 tg16 tg17 tg18 tg19 tg20 tg21 tg22 tg23 tg24 tg25 tg26 tg27 tg28 tg29 tg30 tg31 tg32 tg33 tg34 tg35 tg36 hg0 hg1 hg2 hg3 hg4 hg5 hg6 hg7 hg8 hg9 hg10 hg11 hg12 hg13 hg14 hg15 hg16 kg0 kg1 kg2 kg3 kg4 kg5 kg6 kg7 kg8 kg9 kg10 kg11
attribute [local go_sem] ts12 ts13 ts14 ts16 ts17 ts18 ts19 ts20 ts21 ts22 ts23 ts24 ts25 ts26 ts27 ts28 ts29 ts30 ts31 ts32 ts33 ts34 ts35 ts36 ts15 hs0 hs1 hs2 hs3 hs7 hs8 hs9 hs10 hs11 hs12 hs13 hs14 hs15 hs16

attribute [local go_sem] ts15g ta00 ta01 ta02 ta03 ta04 ta05 ta10 ta11 ta12 ta13 ta14 ta15 ta20 ta21 ta22 ta23 ta24 ta25 ta30 ta31 ta32 ta33 ta34 ta35 ta40 ta41 ta42 ta43 ta44 ta45 ta50 ta51 ta52 ta53 ta54 ta55
set_option maxRecDepth 100000 in
set_option maxHeartbeats 4000000 in
theorem do_sto (u : Tn) (a : TA) (o : TnOk u) (x y : Int) (w : World) (h : TnAt w u a) : Calls Try.prog 26 #[.agg (tcs u a).toArray, .iface 102 (.agg #[.int .i64 x, .int .i64 y])] w (DoPost (fun _ => True) { u with ws := stV u.ws x y } 0 false [] (erV u.ws.length x) u a w) := by
  have B1 : boxOf ((((w.alloc (.cells (tcs u a).toArray 38)).alloc (.cells zT.toArray 38)).alloc (.cells #[.int .i64 0, .bool false, .slice none 0 0] 75)).alloc (.cells #[.int .i64 0, .bool false, .slice none 0 0] 75)) w.heap.size = some (tcs u a) := by simp [go_sem]
  have B2 : boxOf ((((w.alloc (.cells (tcs u a).toArray 38)).alloc (.cells zT.toArray 38)).alloc (.cells #[.int .i64 0, .bool false, .slice none 0 0] 75)).alloc (.cells #[.int .i64 0, .bool false, .slice none 0 0] 75)) (w.heap.size + 1) = some zT := by simp [go_sem]
  have B3 : boxOf ((((w.alloc (.cells (tcs u a).toArray 38)).alloc (.cells zT.toArray 38)).alloc (.cells #[.int .i64 0, .bool false, .slice none 0 0] 75)).alloc (.cells #[.int .i64 0, .bool false, .slice none 0 0] 75)) (w.heap.size + 1 + 1) = some [.int .i64 0, .bool false, .slice none 0 0] := by simp [go_sem]
  have B4 : boxOf ((((w.alloc (.cells (tcs u a).toArray 38)).alloc (.cells zT.toArray 38)).alloc (.cells #[.int .i64 0, .bool false, .slice none 0 0] 75)).alloc (.cells #[.int .i64 0, .bool false, .slice none 0 0] 75)) (w.heap.size + 1 + 1 + 1) = some [.int .i64 0, .bool false, .slice none 0 0] := by simp [go_sem]
  have hs : w.heap.size + 1 + 1 + 1 < ((((w.alloc (.cells (tcs u a).toArray 38)).alloc (.cells zT.toArray 38)).alloc (.cells #[.int .i64 0, .bool false, .slice none 0 0] 75)).alloc (.cells #[.int .i64 0, .bool false, .slice none 0 0] 75)).heap.size := by simp
  have hB : Below w.heap.size w ((((w.alloc (.cells (tcs u a).toArray 38)).alloc (.cells zT.toArray 38)).alloc (.cells #[.int .i64 0, .bool false, .slice none 0 0] 75)).alloc (.cells #[.int .i64 0, .bool false, .slice none 0 0] 75)) := (((belowN w _).alloc (by simp) _).alloc (by simp; omega) _).alloc (by simp; omega) _
  have h0 := h
  replace h := h.later hB
  have KS := store_any a.mA a.mB a.mc a.md u.ws a.bs x y
  obtain ⟨nw, hnw⟩ : ∃ l, stV u.ws x y = l := ⟨_, rfl⟩
  obtain ⟨ev, hev⟩ : ∃ e, erV u.ws.length x = e := ⟨_, rfl⟩
  rw [hnw, hev] at KS ⊢
  have HN : nw.length = u.ws.length := by rw [← hnw]; exact stV_length _ _ _
  clear hnw
  replace KS := hide KS
  have hz : ((((w.alloc (.cells (tcs u a).toArray 38)).alloc (.cells zT.toArray 38)).alloc (.cells #[.int .i64 0, .bool false, .slice none 0 0] 75)).alloc (.cells #[.int .i64 0, .bool false, .slice none 0 0] 75)).heap.size = w.heap.size + 1 + 1 + 1 + 1 := by simp
  go_enter Try.func26, Try.ntmps26
  go_wp2_with fail
  generalize ((((w.alloc (.cells (tcs u a).toArray 38)).alloc (.cells zT.toArray 38)).alloc (.cells #[.int .i64 0, .bool false, .slice none 0 0] 75)).alloc (.cells #[.int .i64 0, .bool false, .slice none 0 0] 75)) = wz at *
  have hA : Below wz.heap.size wz ((wz.alloc (.cells #[.int .i64 0, .slice none 0 0] 100)).alloc (.cells #[.int .i64 x, .int .i64 y] 102)) := by repeat first | exact Below.refl _ _ | refine Below.alloc ?_ (by first | exact Nat.le_refl _ | (simp; done) | (simp; omega)) _
  have hsz : ((wz.alloc (.cells #[.int .i64 0, .slice none 0 0] 100)).alloc (.cells #[.int .i64 x, .int .i64 y] 102)).heap.size = w.heap.size + 1 + 1 + 1 + 1 + 1 + 1 := by simp [hz]
  replace B1 := boxOf_keep B1 hA
  replace B2 := boxOf_keep B2 hA
  replace B3 := boxOf_keep B3 hA
  replace B4 := boxOf_keep B4 hA
  have B5 : boxOf ((wz.alloc (.cells #[.int .i64 0, .slice none 0 0] 100)).alloc (.cells #[.int .i64 x, .int .i64 y] 102)) (w.heap.size + 1 + 1 + 1 + 1 + 1) = some [.int .i64 x, .int .i64 y] := boxOf_newA _ _ _ _ (by simp [hz])
  replace hB := below_next hB hB.size hA
  replace h := h.later hA
  clear hA hz hs
  generalize ((wz.alloc (.cells #[.int .i64 0, .slice none 0 0] 100)).alloc (.cells #[.int .i64 x, .int .i64 y] 102)) = wy at *
  refine (KS.out _ h.m).mono ?_
  rintro e w1 ⟨A, c, rfl, sA, hA, hb1⟩
  clear KS
  have T := tn_ws h hb1 sA HN (c := c)
  have O : ∀ g, w.heap.size ≤ g → g < w.heap.size + 1 + 1 + 1 + 1 → Off g ({ u with ws := nw } : Tn) ({ a with mA := A, mc := c } : TA) := fun g h1 h2 => off_ws (h0.off h1) hA (by omega) HN
  have off : ∀ g, g < w.heap.size → Off g u a → True → Off g ({ u with ws := nw } : Tn) ({ a with mA := A, mc := c } : TA) := fun g h1 f _ => off_ws f hA (by omega) HN
  clear hA sA HN
  replace B1 := boxOf_keep B1 hb1
  replace B2 := boxOf_keep B2 hb1
  replace B3 := boxOf_keep B3 hb1
  replace B4 := boxOf_keep B4 hb1
  replace B5 := boxOf_keep B5 hb1
  replace hB := below_next hB hB.size hb1
  have hs1 : w.heap.size + 1 + 1 + 1 + 1 ≤ w1.heap.size := by have := hb1.size; (try simp at this); omega
  clear hb1 h h0 hsz
  go_upto_region 24 with fail
  have C1 : boxOf ((((((w1.setCell ⟨w.heap.size, 14, none⟩ (.slice A nw.length c)).setCell ⟨w.heap.size, 15, none⟩ (.slice a.mB a.bs.length a.md)).alloc (.cells #[.int .i64 0, .int .i64 0, .slice none 0 0, .int .i64 0] 108)).alloc (.cells #[.int .i64 0, .int .i64 0] 110)).alloc (.cells #[.int .i64 0, .int .i64 0] 113)).alloc (.cells #[.int .i64 0] 112)) w.heap.size = some (tcs ({ u with ws := nw } : Tn) ({ a with mA := A, mc := c } : TA)) := by first | (simp [go_sem, B1]; done) | (simp [go_sem, B1]; intro e; omega) | ((simp [go_sem, B1]; repeat rw [if_neg (by omega)]); done)
  have C2 : boxOf ((((((w1.setCell ⟨w.heap.size, 14, none⟩ (.slice A nw.length c)).setCell ⟨w.heap.size, 15, none⟩ (.slice a.mB a.bs.length a.md)).alloc (.cells #[.int .i64 0, .int .i64 0, .slice none 0 0, .int .i64 0] 108)).alloc (.cells #[.int .i64 0, .int .i64 0] 110)).alloc (.cells #[.int .i64 0, .int .i64 0] 113)).alloc (.cells #[.int .i64 0] 112)) (w.heap.size + 1) = some zT := by first | (simp [go_sem, B2]; done) | (simp [go_sem, B2]; intro e; omega) | ((simp [go_sem, B2]; repeat rw [if_neg (by omega)]); done)
  have C3 : boxOf ((((((w1.setCell ⟨w.heap.size, 14, none⟩ (.slice A nw.length c)).setCell ⟨w.heap.size, 15, none⟩ (.slice a.mB a.bs.length a.md)).alloc (.cells #[.int .i64 0, .int .i64 0, .slice none 0 0, .int .i64 0] 108)).alloc (.cells #[.int .i64 0, .int .i64 0] 110)).alloc (.cells #[.int .i64 0, .int .i64 0] 113)).alloc (.cells #[.int .i64 0] 112)) (w.heap.size + 1 + 1) = some [.int .i64 0, .bool false, .slice none 0 0] := by first | (simp [go_sem, B3]; done) | (simp [go_sem, B3]; intro e; omega) | ((simp [go_sem, B3]; repeat rw [if_neg (by omega)]); done)
  have C4 : boxOf ((((((w1.setCell ⟨w.heap.size, 14, none⟩ (.slice A nw.length c)).setCell ⟨w.heap.size, 15, none⟩ (.slice a.mB a.bs.length a.md)).alloc (.cells #[.int .i64 0, .int .i64 0, .slice none 0 0, .int .i64 0] 108)).alloc (.cells #[.int .i64 0, .int .i64 0] 110)).alloc (.cells #[.int .i64 0, .int .i64 0] 113)).alloc (.cells #[.int .i64 0] 112)) (w.heap.size + 1 + 1 + 1) = some [.int .i64 0, .bool false, .slice none (List.length ([] : List E3)) 0] := by first | (simp [go_sem, B4]; done) | (simp [go_sem, B4]; intro e; omega) | ((simp [go_sem, B4]; repeat rw [if_neg (by omega)]); done)
  have hC : Below w.heap.size w ((((((w1.setCell ⟨w.heap.size, 14, none⟩ (.slice A nw.length c)).setCell ⟨w.heap.size, 15, none⟩ (.slice a.mB a.bs.length a.md)).alloc (.cells #[.int .i64 0, .int .i64 0, .slice none 0 0, .int .i64 0] 108)).alloc (.cells #[.int .i64 0, .int .i64 0] 110)).alloc (.cells #[.int .i64 0, .int .i64 0] 113)).alloc (.cells #[.int .i64 0] 112)) := by repeat first | exact hB | refine below_sets _ (by omega) _ _ _ _ ?_ | refine Below.setCell ?_ (by first | omega | (simp; omega) | simp | (simp [size_sets]; omega)) _ | refine Below.alloc ?_ (by first | omega | (simp; omega) | simp | (simp [size_sets]; omega)) _
  have SA : Sees ((((((w1.setCell ⟨w.heap.size, 14, none⟩ (.slice A nw.length c)).setCell ⟨w.heap.size, 15, none⟩ (.slice a.mB a.bs.length a.md)).alloc (.cells #[.int .i64 0, .int .i64 0, .slice none 0 0, .int .i64 0] 108)).alloc (.cells #[.int .i64 0, .int .i64 0] 110)).alloc (.cells #[.int .i64 0, .int .i64 0] 113)).alloc (.cells #[.int .i64 0] 112)) ((((((w1.setCell ⟨w.heap.size, 14, none⟩ (.slice A nw.length c)).setCell ⟨w.heap.size, 15, none⟩ (.slice a.mB a.bs.length a.md)).alloc (.cells #[.int .i64 0, .int .i64 0, .slice none 0 0, .int .i64 0] 108)).alloc (.cells #[.int .i64 0, .int .i64 0] 110)).alloc (.cells #[.int .i64 0, .int .i64 0] 113)).alloc (.cells #[.int .i64 0] 112)).heap.size 3 none (List.length ([] : List E3)) (ecells ([] : List E3)) := by
    exact Sees.empty
  have TT : TnAt ((((((w1.setCell ⟨w.heap.size, 14, none⟩ (.slice A nw.length c)).setCell ⟨w.heap.size, 15, none⟩ (.slice a.mB a.bs.length a.md)).alloc (.cells #[.int .i64 0, .int .i64 0, .slice none 0 0, .int .i64 0] 108)).alloc (.cells #[.int .i64 0, .int .i64 0] 110)).alloc (.cells #[.int .i64 0, .int .i64 0] 113)).alloc (.cells #[.int .i64 0] 112)) ({ u with ws := nw } : Tn) ({ a with mA := A, mc := c } : TA) := by
    repeat first | exact T | refine TnAt.set1 ?_ (O _ (by omega) (by omega)) _ _ | refine TnAt.sets ?_ (O _ (by omega) (by omega)) _ _ | refine TnAt.later ?_ (belowN _ _)
  clear B1 B2 B3 B4 B5 hB T
  generalize ((((((w1.setCell ⟨w.heap.size, 14, none⟩ (.slice A nw.length c)).setCell ⟨w.heap.size, 15, none⟩ (.slice a.mB a.bs.length a.md)).alloc (.cells #[.int .i64 0, .int .i64 0, .slice none 0 0, .int .i64 0] 108)).alloc (.cells #[.int .i64 0, .int .i64 0] 110)).alloc (.cells #[.int .i64 0, .int .i64 0] 113)).alloc (.cells #[.int .i64 0] 112)) = wf at *
  have key : ∀ W', Below w.heap.size w W' → TnAt W' ({ u with ws := nw } : Tn) ({ a with mA := A, mc := c } : TA) → Sees W' W'.heap.size 3 none (List.length ([] : List E3)) (ecells ([] : List E3)) → DoPost (fun _ => True) ({ u with ws := nw } : Tn) 0 false ([] : List E3) ev u a w (.returned (.tuple #[.agg (tcs ({ u with ws := nw } : Tn) ({ a with mA := A, mc := c } : TA)).toArray, .agg #[.int .i64 0, .bool false, .slice none (List.length ([] : List E3)) 0], .int .i64 ev])) W' := fun W' x1 x2 x3 => ⟨({ a with mA := A, mc := c } : TA), none, 0, rfl, x2, x3, off, x1⟩
  go_region
  all_goals go_wp2
  all_goals refine bodyPost_ret (v := .tuple #[.agg (tcs ({ u with ws := nw } : Tn) ({ a with mA := A, mc := c } : TA)).toArray, .agg #[.int .i64 0, .bool false, .slice none (List.length ([] : List E3)) 0], .int .i64 ev]) (results_box3 Try.results26 _ _ (w.heap.size + 1) (w.heap.size + 1 + 1) _ _ _ _ _ rfl rfl rfl (by simp [go_sem, C1, C2, C3, C4]) (by simp [go_sem, C1, C2, C3, C4]) Try.underlying38 rfl (by kernel_rfl) Try.underlying75 rfl (by kernel_rfl)) rfl ?_
  all_goals refine key _ ?_ ?_ ?_
  all_goals first
    | ((repeat first | exact hC | exact hC.drew | refine below_sets _ (by omega) _ _ _ _ ?_ | refine Below.setCell ?_ (by first | omega | (simp; omega) | simp) _ | refine Below.drew ?_); done)
    | ((repeat first | exact TT | exact TT.later (Below.refl _ _).drew | refine TnAt.set1 ?_ (O _ (by omega) (by omega)) _ _ | refine TnAt.sets ?_ (O _ (by omega) (by omega)) _ _); done)
    | ((repeat first | exact Sees.empty | exact SA | exact SA.later (Below.refl _ _).drew | refine Sees.own1 ?_ _ _ _ (fun _ q hq => by have := fB q hq; omega) | refine Sees.setsC ?_ _ (fun _ q hq => by have := fB q hq; omega) _ _); done)
set_option maxRecDepth 100000 in
set_option maxHeartbeats 4000000 in
theorem do_shu (u : Tn) (a : TA) (o : TnOk u) (x y : Int) (w : World) (h : TnAt w u a) : Calls Try.prog 26 #[.agg (tcs u a).toArray, .iface 110 (.agg #[.int .i64 x, .int .i64 y])] w (DoPost (fun _ => True) { u with ws := casV u.ws x y 0 } 0 (casB u.ws x y) [] (erV u.ws.length x) u a w) := by
  have B1 : boxOf ((((w.alloc (.cells (tcs u a).toArray 38)).alloc (.cells zT.toArray 38)).alloc (.cells #[.int .i64 0, .bool false, .slice none 0 0] 75)).alloc (.cells #[.int .i64 0, .bool false, .slice none 0 0] 75)) w.heap.size = some (tcs u a) := by simp [go_sem]
  have B2 : boxOf ((((w.alloc (.cells (tcs u a).toArray 38)).alloc (.cells zT.toArray 38)).alloc (.cells #[.int .i64 0, .bool false, .slice none 0 0] 75)).alloc (.cells #[.int .i64 0, .bool false, .slice none 0 0] 75)) (w.heap.size + 1) = some zT := by simp [go_sem]
  have B3 : boxOf ((((w.alloc (.cells (tcs u a).toArray 38)).alloc (.cells zT.toArray 38)).alloc (.cells #[.int .i64 0, .bool false, .slice none 0 0] 75)).alloc (.cells #[.int .i64 0, .bool false, .slice none 0 0] 75)) (w.heap.size + 1 + 1) = some [.int .i64 0, .bool false, .slice none 0 0] := by simp [go_sem]
  have B4 : boxOf ((((w.alloc (.cells (tcs u a).toArray 38)).alloc (.cells zT.toArray 38)).alloc (.cells #[.int .i64 0, .bool false, .slice none 0 0] 75)).alloc (.cells #[.int .i64 0, .bool false, .slice none 0 0] 75)) (w.heap.size + 1 + 1 + 1) = some [.int .i64 0, .bool false, .slice none 0 0] := by simp [go_sem]
  have hs : w.heap.size + 1 + 1 + 1 < ((((w.alloc (.cells (tcs u a).toArray 38)).alloc (.cells zT.toArray 38)).alloc (.cells #[.int .i64 0, .bool false, .slice none 0 0] 75)).alloc (.cells #[.int .i64 0, .bool false, .slice none 0 0] 75)).heap.size := by simp
  have hB : Below w.heap.size w ((((w.alloc (.cells (tcs u a).toArray 38)).alloc (.cells zT.toArray 38)).alloc (.cells #[.int .i64 0, .bool false, .slice none 0 0] 75)).alloc (.cells #[.int .i64 0, .bool false, .slice none 0 0] 75)) := (((belowN w _).alloc (by simp) _).alloc (by simp; omega) _).alloc (by simp; omega) _
  have h0 := h
  replace h := h.later hB
  have KS := cas_any a.mA a.mB a.mc a.md u.ws a.bs x y 0
  obtain ⟨nw, hnw⟩ : ∃ l, casV u.ws x y 0 = l := ⟨_, rfl⟩
  obtain ⟨pv, hpv⟩ : ∃ p, casB u.ws x y = p := ⟨_, rfl⟩
  obtain ⟨ev, hev⟩ : ∃ e, erV u.ws.length x = e := ⟨_, rfl⟩
  rw [hnw, hpv, hev] at KS
  rw [hnw, hpv, hev]
  have HN : nw.length = u.ws.length := by rw [← hnw]; exact casV_length _ _ _ _
  clear hnw
  replace KS := hide KS
  have hz : ((((w.alloc (.cells (tcs u a).toArray 38)).alloc (.cells zT.toArray 38)).alloc (.cells #[.int .i64 0, .bool false, .slice none 0 0] 75)).alloc (.cells #[.int .i64 0, .bool false, .slice none 0 0] 75)).heap.size = w.heap.size + 1 + 1 + 1 + 1 := by simp
  go_enter Try.func26, Try.ntmps26
  go_wp2_with fail
  generalize ((((w.alloc (.cells (tcs u a).toArray 38)).alloc (.cells zT.toArray 38)).alloc (.cells #[.int .i64 0, .bool false, .slice none 0 0] 75)).alloc (.cells #[.int .i64 0, .bool false, .slice none 0 0] 75)) = wz at *
  have hA : Below wz.heap.size wz ((((wz.alloc (.cells #[.int .i64 0, .slice none 0 0] 100)).alloc (.cells #[.int .i64 0, .int .i64 0] 102)).alloc (.cells #[.int .i64 0, .int .i64 0, .slice none 0 0, .int .i64 0] 108)).alloc (.cells #[.int .i64 x, .int .i64 y] 110)) := by repeat first | exact Below.refl _ _ | refine Below.alloc ?_ (by first | exact Nat.le_refl _ | (simp; done) | (simp; omega)) _
  have hsz : ((((wz.alloc (.cells #[.int .i64 0, .slice none 0 0] 100)).alloc (.cells #[.int .i64 0, .int .i64 0] 102)).alloc (.cells #[.int .i64 0, .int .i64 0, .slice none 0 0, .int .i64 0] 108)).alloc (.cells #[.int .i64 x, .int .i64 y] 110)).heap.size = w.heap.size + 1 + 1 + 1 + 1 + 1 + 1 + 1 + 1 := by simp [hz]
  replace B1 := boxOf_keep B1 hA
  replace B2 := boxOf_keep B2 hA
  replace B3 := boxOf_keep B3 hA
  replace B4 := boxOf_keep B4 hA
  have B5 : boxOf ((((wz.alloc (.cells #[.int .i64 0, .slice none 0 0] 100)).alloc (.cells #[.int .i64 0, .int .i64 0] 102)).alloc (.cells #[.int .i64 0, .int .i64 0, .slice none 0 0, .int .i64 0] 108)).alloc (.cells #[.int .i64 x, .int .i64 y] 110)) (w.heap.size + 1 + 1 + 1 + 1 + 1 + 1 + 1) = some [.int .i64 x, .int .i64 y] := boxOf_newA _ _ _ _ (by simp [hz])
  replace hB := below_next hB hB.size hA
  replace h := h.later hA
  clear hA hz hs
  generalize ((((wz.alloc (.cells #[.int .i64 0, .slice none 0 0] 100)).alloc (.cells #[.int .i64 0, .int .i64 0] 102)).alloc (.cells #[.int .i64 0, .int .i64 0, .slice none 0 0, .int .i64 0] 108)).alloc (.cells #[.int .i64 x, .int .i64 y] 110)) = wy at *
  refine (KS.out _ h.m).mono ?_
  rintro e w1 ⟨A, c, rfl, sA, hA, hb1⟩
  clear KS
  have T := tn_ws h hb1 sA HN (c := c)
  have O : ∀ g, w.heap.size ≤ g → g < w.heap.size + 1 + 1 + 1 + 1 → Off g ({ u with ws := nw } : Tn) ({ a with mA := A, mc := c } : TA) := fun g h1 h2 => off_ws (h0.off h1) hA (by omega) HN
  have off : ∀ g, g < w.heap.size → Off g u a → True → Off g ({ u with ws := nw } : Tn) ({ a with mA := A, mc := c } : TA) := fun g h1 f _ => off_ws f hA (by omega) HN
  clear hA sA HN
  replace B1 := boxOf_keep B1 hb1
  replace B2 := boxOf_keep B2 hb1
  replace B3 := boxOf_keep B3 hb1
  replace B4 := boxOf_keep B4 hb1
  replace B5 := boxOf_keep B5 hb1
  replace hB := below_next hB hB.size hb1
  have hs1 : w.heap.size + 1 + 1 + 1 + 1 ≤ w1.heap.size := by have := hb1.size; (try simp at this); omega
  clear hb1 h h0 hsz
  go_upto_region 24 with fail
  have C1 : boxOf (((((w1.setCell ⟨w.heap.size, 14, none⟩ (.slice A nw.length c)).setCell ⟨w.heap.size, 15, none⟩ (.slice a.mB a.bs.length a.md)).setCell ⟨w.heap.size + 1 + 1 + 1, 1, none⟩ (.bool pv)).alloc (.cells #[.int .i64 0, .int .i64 0] 113)).alloc (.cells #[.int .i64 0] 112)) w.heap.size = some (tcs ({ u with ws := nw } : Tn) ({ a with mA := A, mc := c } : TA)) := by first | (simp [go_sem, B1]; done) | (simp [go_sem, B1]; intro e; omega) | ((simp [go_sem, B1]; repeat rw [if_neg (by omega)]); done)
  have C2 : boxOf (((((w1.setCell ⟨w.heap.size, 14, none⟩ (.slice A nw.length c)).setCell ⟨w.heap.size, 15, none⟩ (.slice a.mB a.bs.length a.md)).setCell ⟨w.heap.size + 1 + 1 + 1, 1, none⟩ (.bool pv)).alloc (.cells #[.int .i64 0, .int .i64 0] 113)).alloc (.cells #[.int .i64 0] 112)) (w.heap.size + 1) = some zT := by first | (simp [go_sem, B2]; done) | (simp [go_sem, B2]; intro e; omega) | ((simp [go_sem, B2]; repeat rw [if_neg (by omega)]); done)
  have C3 : boxOf (((((w1.setCell ⟨w.heap.size, 14, none⟩ (.slice A nw.length c)).setCell ⟨w.heap.size, 15, none⟩ (.slice a.mB a.bs.length a.md)).setCell ⟨w.heap.size + 1 + 1 + 1, 1, none⟩ (.bool pv)).alloc (.cells #[.int .i64 0, .int .i64 0] 113)).alloc (.cells #[.int .i64 0] 112)) (w.heap.size + 1 + 1) = some [.int .i64 0, .bool false, .slice none 0 0] := by first | (simp [go_sem, B3]; done) | (simp [go_sem, B3]; intro e; omega) | ((simp [go_sem, B3]; repeat rw [if_neg (by omega)]); done)
  have C4 : boxOf (((((w1.setCell ⟨w.heap.size, 14, none⟩ (.slice A nw.length c)).setCell ⟨w.heap.size, 15, none⟩ (.slice a.mB a.bs.length a.md)).setCell ⟨w.heap.size + 1 + 1 + 1, 1, none⟩ (.bool pv)).alloc (.cells #[.int .i64 0, .int .i64 0] 113)).alloc (.cells #[.int .i64 0] 112)) (w.heap.size + 1 + 1 + 1) = some [.int .i64 0, .bool pv, .slice none (List.length ([] : List E3)) 0] := by first | (simp [go_sem, B4]; done) | (simp [go_sem, B4]; intro e; omega) | ((simp [go_sem, B4]; repeat rw [if_neg (by omega)]); done)
  have hC : Below w.heap.size w (((((w1.setCell ⟨w.heap.size, 14, none⟩ (.slice A nw.length c)).setCell ⟨w.heap.size, 15, none⟩ (.slice a.mB a.bs.length a.md)).setCell ⟨w.heap.size + 1 + 1 + 1, 1, none⟩ (.bool pv)).alloc (.cells #[.int .i64 0, .int .i64 0] 113)).alloc (.cells #[.int .i64 0] 112)) := by repeat first | exact hB | refine below_sets _ (by omega) _ _ _ _ ?_ | refine Below.setCell ?_ (by first | omega | (simp; omega) | simp | (simp [size_sets]; omega)) _ | refine Below.alloc ?_ (by first | omega | (simp; omega) | simp | (simp [size_sets]; omega)) _
  have SA : Sees (((((w1.setCell ⟨w.heap.size, 14, none⟩ (.slice A nw.length c)).setCell ⟨w.heap.size, 15, none⟩ (.slice a.mB a.bs.length a.md)).setCell ⟨w.heap.size + 1 + 1 + 1, 1, none⟩ (.bool pv)).alloc (.cells #[.int .i64 0, .int .i64 0] 113)).alloc (.cells #[.int .i64 0] 112)) (((((w1.setCell ⟨w.heap.size, 14, none⟩ (.slice A nw.length c)).setCell ⟨w.heap.size, 15, none⟩ (.slice a.mB a.bs.length a.md)).setCell ⟨w.heap.size + 1 + 1 + 1, 1, none⟩ (.bool pv)).alloc (.cells #[.int .i64 0, .int .i64 0] 113)).alloc (.cells #[.int .i64 0] 112)).heap.size 3 none (List.length ([] : List E3)) (ecells ([] : List E3)) := by
    exact Sees.empty
  have TT : TnAt (((((w1.setCell ⟨w.heap.size, 14, none⟩ (.slice A nw.length c)).setCell ⟨w.heap.size, 15, none⟩ (.slice a.mB a.bs.length a.md)).setCell ⟨w.heap.size + 1 + 1 + 1, 1, none⟩ (.bool pv)).alloc (.cells #[.int .i64 0, .int .i64 0] 113)).alloc (.cells #[.int .i64 0] 112)) ({ u with ws := nw } : Tn) ({ a with mA := A, mc := c } : TA) := by
    repeat first | exact T | refine TnAt.set1 ?_ (O _ (by omega) (by omega)) _ _ | refine TnAt.sets ?_ (O _ (by omega) (by omega)) _ _ | refine TnAt.later ?_ (belowN _ _)
  clear B1 B2 B3 B4 B5 hB T
  generalize (((((w1.setCell ⟨w.heap.size, 14, none⟩ (.slice A nw.length c)).setCell ⟨w.heap.size, 15, none⟩ (.slice a.mB a.bs.length a.md)).setCell ⟨w.heap.size + 1 + 1 + 1, 1, none⟩ (.bool pv)).alloc (.cells #[.int .i64 0, .int .i64 0] 113)).alloc (.cells #[.int .i64 0] 112)) = wf at *
  have key : ∀ W', Below w.heap.size w W' → TnAt W' ({ u with ws := nw } : Tn) ({ a with mA := A, mc := c } : TA) → Sees W' W'.heap.size 3 none (List.length ([] : List E3)) (ecells ([] : List E3)) → DoPost (fun _ => True) ({ u with ws := nw } : Tn) 0 pv ([] : List E3) ev u a w (.returned (.tuple #[.agg (tcs ({ u with ws := nw } : Tn) ({ a with mA := A, mc := c } : TA)).toArray, .agg #[.int .i64 0, .bool pv, .slice none (List.length ([] : List E3)) 0], .int .i64 ev])) W' := fun W' x1 x2 x3 => ⟨({ a with mA := A, mc := c } : TA), none, 0, rfl, x2, x3, off, x1⟩
  go_region
  all_goals go_wp2
  all_goals refine bodyPost_ret (v := .tuple #[.agg (tcs ({ u with ws := nw } : Tn) ({ a with mA := A, mc := c } : TA)).toArray, .agg #[.int .i64 0, .bool pv, .slice none (List.length ([] : List E3)) 0], .int .i64 ev]) (results_box3 Try.results26 _ _ (w.heap.size + 1) (w.heap.size + 1 + 1) _ _ _ _ _ rfl rfl rfl (by simp [go_sem, C1, C2, C3, C4]) (by simp [go_sem, C1, C2, C3, C4]) Try.underlying38 rfl (by kernel_rfl) Try.underlying75 rfl (by kernel_rfl)) rfl ?_
  all_goals refine key _ ?_ ?_ ?_
  all_goals first
    | ((repeat first | exact hC | exact hC.drew | refine below_sets _ (by omega) _ _ _ _ ?_ | refine Below.setCell ?_ (by first | omega | (simp; omega) | simp) _ | refine Below.drew ?_); done)
    | ((repeat first | exact TT | exact TT.later (Below.refl _ _).drew | refine TnAt.set1 ?_ (O _ (by omega) (by omega)) _ _ | refine TnAt.sets ?_ (O _ (by omega) (by omega)) _ _); done)
    | ((repeat first | exact Sees.empty | exact SA | exact SA.later (Below.refl _ _).drew | refine Sees.own1 ?_ _ _ _ (fun _ q hq => by have := fB q hq; omega) | refine Sees.setsC ?_ _ (fun _ q hq => by have := fB q hq; omega) _ _); done)
set_option maxRecDepth 100000 in
set_option maxHeartbeats 4000000 in
theorem do_loo (u : Tn) (a : TA) (o : TnOk u) (x y : Int) (w : World) (h : TnAt w u a) : Calls Try.prog 26 #[.agg (tcs u a).toArray, .iface 113 (.agg #[.int .i64 x, .int .i64 y])] w (DoPost (fun _ => True) u 0 (ldV u.ws x == y) [] (erV u.ws.length x) u a w) := by
  have B1 : boxOf ((((w.alloc (.cells (tcs u a).toArray 38)).alloc (.cells zT.toArray 38)).alloc (.cells #[.int .i64 0, .bool false, .slice none 0 0] 75)).alloc (.cells #[.int .i64 0, .bool false, .slice none 0 0] 75)) w.heap.size = some (tcs u a) := by simp [go_sem]
  have B2 : boxOf ((((w.alloc (.cells (tcs u a).toArray 38)).alloc (.cells zT.toArray 38)).alloc (.cells #[.int .i64 0, .bool false, .slice none 0 0] 75)).alloc (.cells #[.int .i64 0, .bool false, .slice none 0 0] 75)) (w.heap.size + 1) = some zT := by simp [go_sem]
  have B3 : boxOf ((((w.alloc (.cells (tcs u a).toArray 38)).alloc (.cells zT.toArray 38)).alloc (.cells #[.int .i64 0, .bool false, .slice none 0 0] 75)).alloc (.cells #[.int .i64 0, .bool false, .slice none 0 0] 75)) (w.heap.size + 1 + 1) = some [.int .i64 0, .bool false, .slice none 0 0] := by simp [go_sem]
  have B4 : boxOf ((((w.alloc (.cells (tcs u a).toArray 38)).alloc (.cells zT.toArray 38)).alloc (.cells #[.int .i64 0, .bool false, .slice none 0 0] 75)).alloc (.cells #[.int .i64 0, .bool false, .slice none 0 0] 75)) (w.heap.size + 1 + 1 + 1) = some [.int .i64 0, .bool false, .slice none 0 0] := by simp [go_sem]
  have hs : w.heap.size + 1 + 1 + 1 < ((((w.alloc (.cells (tcs u a).toArray 38)).alloc (.cells zT.toArray 38)).alloc (.cells #[.int .i64 0, .bool false, .slice none 0 0] 75)).alloc (.cells #[.int .i64 0, .bool false, .slice none 0 0] 75)).heap.size := by simp
  have hB : Below w.heap.size w ((((w.alloc (.cells (tcs u a).toArray 38)).alloc (.cells zT.toArray 38)).alloc (.cells #[.int .i64 0, .bool false, .slice none 0 0] 75)).alloc (.cells #[.int .i64 0, .bool false, .slice none 0 0] 75)) := (((belowN w _).alloc (by simp) _).alloc (by simp; omega) _).alloc (by simp; omega) _
  have h0 := h
  replace h := h.later hB
  have KS := load_any a.mA a.mB a.mc a.md u.ws a.bs x
  obtain ⟨lv, hlv⟩ : ∃ l, ldV u.ws x = l := ⟨_, rfl⟩
  obtain ⟨ev, hev⟩ : ∃ e, erV u.ws.length x = e := ⟨_, rfl⟩
  rw [hlv, hev] at KS
  rw [hlv, hev]
  replace KS := hide KS
  clear hlv hev
  have hz : ((((w.alloc (.cells (tcs u a).toArray 38)).alloc (.cells zT.toArray 38)).alloc (.cells #[.int .i64 0, .bool false, .slice none 0 0] 75)).alloc (.cells #[.int .i64 0, .bool false, .slice none 0 0] 75)).heap.size = w.heap.size + 1 + 1 + 1 + 1 := by simp
  go_enter Try.func26, Try.ntmps26
  go_wp2_with fail
  generalize ((((w.alloc (.cells (tcs u a).toArray 38)).alloc (.cells zT.toArray 38)).alloc (.cells #[.int .i64 0, .bool false, .slice none 0 0] 75)).alloc (.cells #[.int .i64 0, .bool false, .slice none 0 0] 75)) = wz at *
  have hA : Below wz.heap.size wz (((((wz.alloc (.cells #[.int .i64 0, .slice none 0 0] 100)).alloc (.cells #[.int .i64 0, .int .i64 0] 102)).alloc (.cells #[.int .i64 0, .int .i64 0, .slice none 0 0, .int .i64 0] 108)).alloc (.cells #[.int .i64 0, .int .i64 0] 110)).alloc (.cells #[.int .i64 x, .int .i64 y] 113)) := by repeat first | exact Below.refl _ _ | refine Below.alloc ?_ (by first | exact Nat.le_refl _ | (simp; done) | (simp; omega)) _
  have hsz : (((((wz.alloc (.cells #[.int .i64 0, .slice none 0 0] 100)).alloc (.cells #[.int .i64 0, .int .i64 0] 102)).alloc (.cells #[.int .i64 0, .int .i64 0, .slice none 0 0, .int .i64 0] 108)).alloc (.cells #[.int .i64 0, .int .i64 0] 110)).alloc (.cells #[.int .i64 x, .int .i64 y] 113)).heap.size = w.heap.size + 1 + 1 + 1 + 1 + 1 + 1 + 1 + 1 + 1 := by simp [hz]
  replace B1 := boxOf_keep B1 hA
  replace B2 := boxOf_keep B2 hA
  replace B3 := boxOf_keep B3 hA
  replace B4 := boxOf_keep B4 hA
  have B5 : boxOf (((((wz.alloc (.cells #[.int .i64 0, .slice none 0 0] 100)).alloc (.cells #[.int .i64 0, .int .i64 0] 102)).alloc (.cells #[.int .i64 0, .int .i64 0, .slice none 0 0, .int .i64 0] 108)).alloc (.cells #[.int .i64 0, .int .i64 0] 110)).alloc (.cells #[.int .i64 x, .int .i64 y] 113)) (w.heap.size + 1 + 1 + 1 + 1 + 1 + 1 + 1 + 1) = some [.int .i64 x, .int .i64 y] := boxOf_newA _ _ _ _ (by simp [hz])
  replace hB := below_next hB hB.size hA
  replace h := h.later hA
  clear hA hz hs
  generalize (((((wz.alloc (.cells #[.int .i64 0, .slice none 0 0] 100)).alloc (.cells #[.int .i64 0, .int .i64 0] 102)).alloc (.cells #[.int .i64 0, .int .i64 0, .slice none 0 0, .int .i64 0] 108)).alloc (.cells #[.int .i64 0, .int .i64 0] 110)).alloc (.cells #[.int .i64 x, .int .i64 y] 113)) = wy at *
  refine (KS.out _ h.m).mono ?_
  rintro e w1 ⟨rfl, hb1⟩
  clear KS
  have T := h.later hb1
  have O : ∀ g, w.heap.size ≤ g → g < w.heap.size + 1 + 1 + 1 + 1 → Off g u a := fun g h1 h2 => h0.off h1
  have off : ∀ g, g < w.heap.size → Off g u a → True → Off g u a := fun g h1 f _ => f
  replace B1 := boxOf_keep B1 hb1
  replace B2 := boxOf_keep B2 hb1
  replace B3 := boxOf_keep B3 hb1
  replace B4 := boxOf_keep B4 hb1
  replace B5 := boxOf_keep B5 hb1
  replace hB := below_next hB hB.size hb1
  have hs1 : w.heap.size + 1 + 1 + 1 + 1 ≤ w1.heap.size := by have := hb1.size; (try simp at this); omega
  clear hb1 h h0 hsz
  go_upto_region 24 with fail
  have C1 : boxOf ((w1.setCell ⟨w.heap.size + 1 + 1 + 1, 1, none⟩ (.bool (lv == y))).alloc (.cells #[.int .i64 0] 112)) w.heap.size = some (tcs u a) := by first | (simp [go_sem, B1]; done) | (simp [go_sem, B1]; intro e; omega) | ((simp [go_sem, B1]; repeat rw [if_neg (by omega)]); done)
  have C2 : boxOf ((w1.setCell ⟨w.heap.size + 1 + 1 + 1, 1, none⟩ (.bool (lv == y))).alloc (.cells #[.int .i64 0] 112)) (w.heap.size + 1) = some zT := by first | (simp [go_sem, B2]; done) | (simp [go_sem, B2]; intro e; omega) | ((simp [go_sem, B2]; repeat rw [if_neg (by omega)]); done)
  have C3 : boxOf ((w1.setCell ⟨w.heap.size + 1 + 1 + 1, 1, none⟩ (.bool (lv == y))).alloc (.cells #[.int .i64 0] 112)) (w.heap.size + 1 + 1) = some [.int .i64 0, .bool false, .slice none 0 0] := by first | (simp [go_sem, B3]; done) | (simp [go_sem, B3]; intro e; omega) | ((simp [go_sem, B3]; repeat rw [if_neg (by omega)]); done)
  have C4 : boxOf ((w1.setCell ⟨w.heap.size + 1 + 1 + 1, 1, none⟩ (.bool (lv == y))).alloc (.cells #[.int .i64 0] 112)) (w.heap.size + 1 + 1 + 1) = some [.int .i64 0, .bool (lv == y), .slice none (List.length ([] : List E3)) 0] := by first | (simp [go_sem, B4]; done) | (simp [go_sem, B4]; intro e; omega) | ((simp [go_sem, B4]; repeat rw [if_neg (by omega)]); done)
  have hC : Below w.heap.size w ((w1.setCell ⟨w.heap.size + 1 + 1 + 1, 1, none⟩ (.bool (lv == y))).alloc (.cells #[.int .i64 0] 112)) := by repeat first | exact hB | refine below_sets _ (by omega) _ _ _ _ ?_ | refine Below.setCell ?_ (by first | omega | (simp; omega) | simp | (simp [size_sets]; omega)) _ | refine Below.alloc ?_ (by first | omega | (simp; omega) | simp | (simp [size_sets]; omega)) _
  have SA : Sees ((w1.setCell ⟨w.heap.size + 1 + 1 + 1, 1, none⟩ (.bool (lv == y))).alloc (.cells #[.int .i64 0] 112)) ((w1.setCell ⟨w.heap.size + 1 + 1 + 1, 1, none⟩ (.bool (lv == y))).alloc (.cells #[.int .i64 0] 112)).heap.size 3 none (List.length ([] : List E3)) (ecells ([] : List E3)) := by
    exact Sees.empty
  have TT : TnAt ((w1.setCell ⟨w.heap.size + 1 + 1 + 1, 1, none⟩ (.bool (lv == y))).alloc (.cells #[.int .i64 0] 112)) u a := by
    repeat first | exact T | refine TnAt.set1 ?_ (O _ (by omega) (by omega)) _ _ | refine TnAt.sets ?_ (O _ (by omega) (by omega)) _ _ | refine TnAt.later ?_ (belowN _ _)
  clear B1 B2 B3 B4 B5 hB T
  generalize ((w1.setCell ⟨w.heap.size + 1 + 1 + 1, 1, none⟩ (.bool (lv == y))).alloc (.cells #[.int .i64 0] 112)) = wf at *
  have key : ∀ W', Below w.heap.size w W' → TnAt W' u a → Sees W' W'.heap.size 3 none (List.length ([] : List E3)) (ecells ([] : List E3)) → DoPost (fun _ => True) u 0 (lv == y) ([] : List E3) ev u a w (.returned (.tuple #[.agg (tcs u a).toArray, .agg #[.int .i64 0, .bool (lv == y), .slice none (List.length ([] : List E3)) 0], .int .i64 ev])) W' := fun W' x1 x2 x3 => ⟨a, none, 0, rfl, x2, x3, off, x1⟩
  go_region
  all_goals go_wp2
  all_goals refine bodyPost_ret (v := .tuple #[.agg (tcs u a).toArray, .agg #[.int .i64 0, .bool (lv == y), .slice none (List.length ([] : List E3)) 0], .int .i64 ev]) (results_box3 Try.results26 _ _ (w.heap.size + 1) (w.heap.size + 1 + 1) _ _ _ _ _ rfl rfl rfl (by simp [go_sem, C1, C2, C3, C4]) (by simp [go_sem, C1, C2, C3, C4]) Try.underlying38 rfl (by kernel_rfl) Try.underlying75 rfl (by kernel_rfl)) rfl ?_
  all_goals refine key _ ?_ ?_ ?_
  all_goals first
    | ((repeat first | exact hC | exact hC.drew | refine below_sets _ (by omega) _ _ _ _ ?_ | refine Below.setCell ?_ (by first | omega | (simp; omega) | simp) _ | refine Below.drew ?_); done)
    | ((repeat first | exact TT | exact TT.later (Below.refl _ _).drew | refine TnAt.set1 ?_ (O _ (by omega) (by omega)) _ _ | refine TnAt.sets ?_ (O _ (by omega) (by omega)) _ _); done)
    | ((repeat first | exact Sees.empty | exact SA | exact SA.later (Below.refl _ _).drew | refine Sees.own1 ?_ _ _ _ (fun _ q hq => by have := fB q hq; omega) | refine Sees.setsC ?_ _ (fun _ q hq => by have := fB q hq; omega) _ _); done)
set_option maxRecDepth 100000 in
set_option maxHeartbeats 4000000 in
theorem do_rea (u : Tn) (a : TA) (o : TnOk u) (x : Int) (w : World) (h : TnAt w u a) : Calls Try.prog 26 #[.agg (tcs u a).toArray, .iface 112 (.agg #[.int .i64 x])] w (DoPost (fun _ => True) u 0 false (bxV u.bx x) (erV u.bx.length x) u a w) := by
  have B1 : boxOf ((((w.alloc (.cells (tcs u a).toArray 38)).alloc (.cells zT.toArray 38)).alloc (.cells #[.int .i64 0, .bool false, .slice none 0 0] 75)).alloc (.cells #[.int .i64 0, .bool false, .slice none 0 0] 75)) w.heap.size = some (tcs u a) := by simp [go_sem]
  have B2 : boxOf ((((w.alloc (.cells (tcs u a).toArray 38)).alloc (.cells zT.toArray 38)).alloc (.cells #[.int .i64 0, .bool false, .slice none 0 0] 75)).alloc (.cells #[.int .i64 0, .bool false, .slice none 0 0] 75)) (w.heap.size + 1) = some zT := by simp [go_sem]
  have B3 : boxOf ((((w.alloc (.cells (tcs u a).toArray 38)).alloc (.cells zT.toArray 38)).alloc (.cells #[.int .i64 0, .bool false, .slice none 0 0] 75)).alloc (.cells #[.int .i64 0, .bool false, .slice none 0 0] 75)) (w.heap.size + 1 + 1) = some [.int .i64 0, .bool false, .slice none 0 0] := by simp [go_sem]
  have B4 : boxOf ((((w.alloc (.cells (tcs u a).toArray 38)).alloc (.cells zT.toArray 38)).alloc (.cells #[.int .i64 0, .bool false, .slice none 0 0] 75)).alloc (.cells #[.int .i64 0, .bool false, .slice none 0 0] 75)) (w.heap.size + 1 + 1 + 1) = some [.int .i64 0, .bool false, .slice none 0 0] := by simp [go_sem]
  have hs : w.heap.size + 1 + 1 + 1 < ((((w.alloc (.cells (tcs u a).toArray 38)).alloc (.cells zT.toArray 38)).alloc (.cells #[.int .i64 0, .bool false, .slice none 0 0] 75)).alloc (.cells #[.int .i64 0, .bool false, .slice none 0 0] 75)).heap.size := by simp
  have hB : Below w.heap.size w ((((w.alloc (.cells (tcs u a).toArray 38)).alloc (.cells zT.toArray 38)).alloc (.cells #[.int .i64 0, .bool false, .slice none 0 0] 75)).alloc (.cells #[.int .i64 0, .bool false, .slice none 0 0] 75)) := (((belowN w _).alloc (by simp) _).alloc (by simp; omega) _).alloc (by simp; omega) _
  have h0 := h
  replace h := h.later hB
  have KS := boxF_any a.mA a.mB a.mc a.md u.ws a.bs x
  obtain ⟨lb, hlb⟩ : ∃ l, bxV u.bx x = l := ⟨_, rfl⟩
  obtain ⟨ev, hev⟩ : ∃ e, erV u.bx.length x = e := ⟨_, rfl⟩
  rw [h.bx, show erV a.bs.length x = ev by rw [← hev, ← h.bx]; simp [boxes], hlb] at KS
  rw [hlb, hev]
  replace KS := hide KS
  clear hlb hev
  have hz : ((((w.alloc (.cells (tcs u a).toArray 38)).alloc (.cells zT.toArray 38)).alloc (.cells #[.int .i64 0, .bool false, .slice none 0 0] 75)).alloc (.cells #[.int .i64 0, .bool false, .slice none 0 0] 75)).heap.size = w.heap.size + 1 + 1 + 1 + 1 := by simp
  go_enter Try.func26, Try.ntmps26
  go_wp2_with fail
  generalize ((((w.alloc (.cells (tcs u a).toArray 38)).alloc (.cells zT.toArray 38)).alloc (.cells #[.int .i64 0, .bool false, .slice none 0 0] 75)).alloc (.cells #[.int .i64 0, .bool false, .slice none 0 0] 75)) = wz at *
  have hA : Below wz.heap.size wz ((((((wz.alloc (.cells #[.int .i64 0, .slice none 0 0] 100)).alloc (.cells #[.int .i64 0, .int .i64 0] 102)).alloc (.cells #[.int .i64 0, .int .i64 0, .slice none 0 0, .int .i64 0] 108)).alloc (.cells #[.int .i64 0, .int .i64 0] 110)).alloc (.cells #[.int .i64 0, .int .i64 0] 113)).alloc (.cells #[.int .i64 x] 112)) := by repeat first | exact Below.refl _ _ | refine Below.alloc ?_ (by first | exact Nat.le_refl _ | (simp; done) | (simp; omega)) _
  have hsz : ((((((wz.alloc (.cells #[.int .i64 0, .slice none 0 0] 100)).alloc (.cells #[.int .i64 0, .int .i64 0] 102)).alloc (.cells #[.int .i64 0, .int .i64 0, .slice none 0 0, .int .i64 0] 108)).alloc (.cells #[.int .i64 0, .int .i64 0] 110)).alloc (.cells #[.int .i64 0, .int .i64 0] 113)).alloc (.cells #[.int .i64 x] 112)).heap.size = w.heap.size + 1 + 1 + 1 + 1 + 1 + 1 + 1 + 1 + 1 + 1 := by simp [hz]
  replace B1 := boxOf_keep B1 hA
  replace B2 := boxOf_keep B2 hA
  replace B3 := boxOf_keep B3 hA
  replace B4 := boxOf_keep B4 hA
  have B5 : boxOf ((((((wz.alloc (.cells #[.int .i64 0, .slice none 0 0] 100)).alloc (.cells #[.int .i64 0, .int .i64 0] 102)).alloc (.cells #[.int .i64 0, .int .i64 0, .slice none 0 0, .int .i64 0] 108)).alloc (.cells #[.int .i64 0, .int .i64 0] 110)).alloc (.cells #[.int .i64 0, .int .i64 0] 113)).alloc (.cells #[.int .i64 x] 112)) (w.heap.size + 1 + 1 + 1 + 1 + 1 + 1 + 1 + 1 + 1) = some [.int .i64 x] := boxOf_newA _ _ _ _ (by simp [hz])
  replace hB := below_next hB hB.size hA
  replace h := h.later hA
  clear hA hz hs
  generalize ((((((wz.alloc (.cells #[.int .i64 0, .slice none 0 0] 100)).alloc (.cells #[.int .i64 0, .int .i64 0] 102)).alloc (.cells #[.int .i64 0, .int .i64 0, .slice none 0 0, .int .i64 0] 108)).alloc (.cells #[.int .i64 0, .int .i64 0] 110)).alloc (.cells #[.int .i64 0, .int .i64 0] 113)).alloc (.cells #[.int .i64 x] 112)) = wy at *
  refine (KS.out _ h.m).mono ?_
  rintro e w1 ⟨A, c, rfl, sA, fA, hb1⟩
  clear KS
  have T := h.later hb1
  have O : ∀ g, w.heap.size ≤ g → g < w.heap.size + 1 + 1 + 1 + 1 → Off g u a := fun g h1 h2 => h0.off h1
  have off : ∀ g, g < w.heap.size → Off g u a → True → Off g u a := fun g h1 f _ => f
  have fB : ∀ p, A = some p → w.heap.size + 1 + 1 + 1 + 1 ≤ p.block := fun p hp => by have := fA p hp; omega
  clear fA
  replace B1 := boxOf_keep B1 hb1
  replace B2 := boxOf_keep B2 hb1
  replace B3 := boxOf_keep B3 hb1
  replace B4 := boxOf_keep B4 hb1
  replace B5 := boxOf_keep B5 hb1
  replace hB := below_next hB hB.size hb1
  have hs1 : w.heap.size + 1 + 1 + 1 + 1 ≤ w1.heap.size := by have := hb1.size; (try simp at this); omega
  clear hb1 h h0 hsz
  go_upto_region 24 with fail
  have C1 : boxOf (w1.setCell ⟨w.heap.size + 1 + 1 + 1, 2, none⟩ (.slice A (List.length lb) c)) w.heap.size = some (tcs u a) := by first | (simp [go_sem, B1]; done) | (simp [go_sem, B1]; intro e; omega) | ((simp [go_sem, B1]; repeat rw [if_neg (by omega)]); done)
  have C2 : boxOf (w1.setCell ⟨w.heap.size + 1 + 1 + 1, 2, none⟩ (.slice A (List.length lb) c)) (w.heap.size + 1) = some zT := by first | (simp [go_sem, B2]; done) | (simp [go_sem, B2]; intro e; omega) | ((simp [go_sem, B2]; repeat rw [if_neg (by omega)]); done)
  have C3 : boxOf (w1.setCell ⟨w.heap.size + 1 + 1 + 1, 2, none⟩ (.slice A (List.length lb) c)) (w.heap.size + 1 + 1) = some [.int .i64 0, .bool false, .slice none 0 0] := by first | (simp [go_sem, B3]; done) | (simp [go_sem, B3]; intro e; omega) | ((simp [go_sem, B3]; repeat rw [if_neg (by omega)]); done)
  have C4 : boxOf (w1.setCell ⟨w.heap.size + 1 + 1 + 1, 2, none⟩ (.slice A (List.length lb) c)) (w.heap.size + 1 + 1 + 1) = some [.int .i64 0, .bool false, .slice A (List.length lb) c] := by first | (simp [go_sem, B4]; done) | (simp [go_sem, B4]; intro e; omega) | ((simp [go_sem, B4]; repeat rw [if_neg (by omega)]); done)
  have hC : Below w.heap.size w (w1.setCell ⟨w.heap.size + 1 + 1 + 1, 2, none⟩ (.slice A (List.length lb) c)) := by repeat first | exact hB | refine below_sets _ (by omega) _ _ _ _ ?_ | refine Below.setCell ?_ (by first | omega | (simp; omega) | simp | (simp [size_sets]; omega)) _ | refine Below.alloc ?_ (by first | omega | (simp; omega) | simp | (simp [size_sets]; omega)) _
  have SA : Sees (w1.setCell ⟨w.heap.size + 1 + 1 + 1, 2, none⟩ (.slice A (List.length lb) c)) (w1.setCell ⟨w.heap.size + 1 + 1 + 1, 2, none⟩ (.slice A (List.length lb) c)).heap.size 3 A (List.length lb) (ecells lb) := by
    repeat first | exact sA | refine Sees.own1 ?_ _ _ _ (fun _ q hq => by have := fB q hq; omega) | refine Sees.setsC ?_ _ (fun _ q hq => by have := fB q hq; omega) _ _ | refine Sees.later ?_ (belowN _ _)
  have TT : TnAt (w1.setCell ⟨w.heap.size + 1 + 1 + 1, 2, none⟩ (.slice A (List.length lb) c)) u a := by
    repeat first | exact T | refine TnAt.set1 ?_ (O _ (by omega) (by omega)) _ _ | refine TnAt.sets ?_ (O _ (by omega) (by omega)) _ _ | refine TnAt.later ?_ (belowN _ _)
  clear B1 B2 B3 B4 B5 hB T
  generalize (w1.setCell ⟨w.heap.size + 1 + 1 + 1, 2, none⟩ (.slice A (List.length lb) c)) = wf at *
  have key : ∀ W', Below w.heap.size w W' → TnAt W' u a → Sees W' W'.heap.size 3 A (List.length lb) (ecells lb) → DoPost (fun _ => True) u 0 false lb ev u a w (.returned (.tuple #[.agg (tcs u a).toArray, .agg #[.int .i64 0, .bool false, .slice A (List.length lb) c], .int .i64 ev])) W' := fun W' x1 x2 x3 => ⟨a, A, c, rfl, x2, x3, off, x1⟩
  go_region
  all_goals go_wp2
  all_goals refine bodyPost_ret (v := .tuple #[.agg (tcs u a).toArray, .agg #[.int .i64 0, .bool false, .slice A (List.length lb) c], .int .i64 ev]) (results_box3 Try.results26 _ _ (w.heap.size + 1) (w.heap.size + 1 + 1) _ _ _ _ _ rfl rfl rfl (by simp [go_sem, C1, C2, C3, C4]) (by simp [go_sem, C1, C2, C3, C4]) Try.underlying38 rfl (by kernel_rfl) Try.underlying75 rfl (by kernel_rfl)) rfl ?_
  all_goals refine key _ ?_ ?_ ?_
  all_goals first
    | ((repeat first | exact hC | exact hC.drew | refine below_sets _ (by omega) _ _ _ _ ?_ | refine Below.setCell ?_ (by first | omega | (simp; omega) | simp) _ | refine Below.drew ?_); done)
    | ((repeat first | exact TT | exact TT.later (Below.refl _ _).drew | refine TnAt.set1 ?_ (O _ (by omega) (by omega)) _ _ | refine TnAt.sets ?_ (O _ (by omega) (by omega)) _ _); done)
    | ((repeat first | exact Sees.empty | exact SA | exact SA.later (Below.refl _ _).drew | refine Sees.own1 ?_ _ _ _ (fun _ q hq => by have := fB q hq; omega) | refine Sees.setsC ?_ _ (fun _ q hq => by have := fB q hq; omega) _ _); done)
set_option maxRecDepth 100000 in
set_option maxHeartbeats 4000000 in
theorem do_put (u : Tn) (a : TA) (o : TnOk u) (x : Int) (w : World) (h : TnAt w u a) : Calls Try.prog 26 #[.agg (tcs u a).toArray, .iface 100 (.agg #[.int .i64 x, .slice a.p.bA u.d.bl.length a.p.bc])] w (DoPost (fun _ => True) { u with bx := ptV u.bx x u.d.bl } 0 false [] (erV u.bx.length x) u a w) := by
  have B1 : boxOf ((((w.alloc (.cells (tcs u a).toArray 38)).alloc (.cells zT.toArray 38)).alloc (.cells #[.int .i64 0, .bool false, .slice none 0 0] 75)).alloc (.cells #[.int .i64 0, .bool false, .slice none 0 0] 75)) w.heap.size = some (tcs u a) := by simp [go_sem]
  have B2 : boxOf ((((w.alloc (.cells (tcs u a).toArray 38)).alloc (.cells zT.toArray 38)).alloc (.cells #[.int .i64 0, .bool false, .slice none 0 0] 75)).alloc (.cells #[.int .i64 0, .bool false, .slice none 0 0] 75)) (w.heap.size + 1) = some zT := by simp [go_sem]
  have B3 : boxOf ((((w.alloc (.cells (tcs u a).toArray 38)).alloc (.cells zT.toArray 38)).alloc (.cells #[.int .i64 0, .bool false, .slice none 0 0] 75)).alloc (.cells #[.int .i64 0, .bool false, .slice none 0 0] 75)) (w.heap.size + 1 + 1) = some [.int .i64 0, .bool false, .slice none 0 0] := by simp [go_sem]
  have B4 : boxOf ((((w.alloc (.cells (tcs u a).toArray 38)).alloc (.cells zT.toArray 38)).alloc (.cells #[.int .i64 0, .bool false, .slice none 0 0] 75)).alloc (.cells #[.int .i64 0, .bool false, .slice none 0 0] 75)) (w.heap.size + 1 + 1 + 1) = some [.int .i64 0, .bool false, .slice none 0 0] := by simp [go_sem]
  have hs : w.heap.size + 1 + 1 + 1 < ((((w.alloc (.cells (tcs u a).toArray 38)).alloc (.cells zT.toArray 38)).alloc (.cells #[.int .i64 0, .bool false, .slice none 0 0] 75)).alloc (.cells #[.int .i64 0, .bool false, .slice none 0 0] 75)).heap.size := by simp
  have hB : Below w.heap.size w ((((w.alloc (.cells (tcs u a).toArray 38)).alloc (.cells zT.toArray 38)).alloc (.cells #[.int .i64 0, .bool false, .slice none 0 0] 75)).alloc (.cells #[.int .i64 0, .bool false, .slice none 0 0] 75)) := (((belowN w _).alloc (by simp) _).alloc (by simp; omega) _).alloc (by simp; omega) _
  have h0 := h
  replace h := h.later hB
  have KS := put_mem a.mA a.mB a.p.bA a.mc a.md a.p.bc u.ws a.bs u.d.bl x
  obtain ⟨nb, hnb⟩ : ∃ l, ptV u.bx x u.d.bl = l := ⟨_, rfl⟩
  obtain ⟨ev, hev⟩ : ∃ e, erV u.bx.length x = e := ⟨_, rfl⟩
  rw [h.bx, show erV a.bs.length x = ev by rw [← hev, ← h.bx]; simp [boxes], hnb] at KS
  rw [hnb, hev]
  replace KS := hide KS
  have hl := o.b
  clear hnb hev
  have hz : ((((w.alloc (.cells (tcs u a).toArray 38)).alloc (.cells zT.toArray 38)).alloc (.cells #[.int .i64 0, .bool false, .slice none 0 0] 75)).alloc (.cells #[.int .i64 0, .bool false, .slice none 0 0] 75)).heap.size = w.heap.size + 1 + 1 + 1 + 1 := by simp
  go_enter Try.func26, Try.ntmps26
  go_wp2_with fail
  generalize ((((w.alloc (.cells (tcs u a).toArray 38)).alloc (.cells zT.toArray 38)).alloc (.cells #[.int .i64 0, .bool false, .slice none 0 0] 75)).alloc (.cells #[.int .i64 0, .bool false, .slice none 0 0] 75)) = wz at *
  have hA : Below wz.heap.size wz (wz.alloc (.cells #[.int .i64 x, .slice a.p.bA u.d.bl.length a.p.bc] 100)) := by repeat first | exact Below.refl _ _ | refine Below.alloc ?_ (by first | exact Nat.le_refl _ | (simp; done) | (simp; omega)) _
  have hsz : (wz.alloc (.cells #[.int .i64 x, .slice a.p.bA u.d.bl.length a.p.bc] 100)).heap.size = w.heap.size + 1 + 1 + 1 + 1 + 1 := by simp [hz]
  replace B1 := boxOf_keep B1 hA
  replace B2 := boxOf_keep B2 hA
  replace B3 := boxOf_keep B3 hA
  replace B4 := boxOf_keep B4 hA
  have B5 : boxOf (wz.alloc (.cells #[.int .i64 x, .slice a.p.bA u.d.bl.length a.p.bc] 100)) (w.heap.size + 1 + 1 + 1 + 1) = some [.int .i64 x, .slice a.p.bA u.d.bl.length a.p.bc] := boxOf_newA _ _ _ _ (by simp [hz])
  replace hB := below_next hB hB.size hA
  replace h := h.later hA
  clear hA hz hs
  generalize (wz.alloc (.cells #[.int .i64 x, .slice a.p.bA u.d.bl.length a.p.bc] 100)) = wy at *
  refine (KS.out _ h.m (by omega) h.th.b).mono ?_
  rintro e w1 ⟨B', d', bs', rfl, hbx, kx, hb1⟩
  clear KS
  have T := tn_bx h hb1 hl hbx kx (d := d')
  have O : ∀ g, w.heap.size ≤ g → g < w.heap.size + 1 + 1 + 1 + 1 → Off g ({ u with bx := nb } : Tn) ({ a with mB := B', md := d', bs := bs' } : TA) := fun g h1 h2 => off_bx (h0.off h1) (by omega) kx
  have off : ∀ g, g < w.heap.size → Off g u a → True → Off g ({ u with bx := nb } : Tn) ({ a with mB := B', md := d', bs := bs' } : TA) := fun g h1 f _ => off_bx f (by omega) kx
  clear kx hl hbx
  replace B1 := boxOf_keep B1 hb1
  replace B2 := boxOf_keep B2 hb1
  replace B3 := boxOf_keep B3 hb1
  replace B4 := boxOf_keep B4 hb1
  replace B5 := boxOf_keep B5 hb1
  replace hB := below_next hB hB.size hb1
  have hs1 : w.heap.size + 1 + 1 + 1 + 1 ≤ w1.heap.size := by have := hb1.size; (try simp at this); omega
  clear hb1 h h0 hsz
  go_upto_region 24 with fail
  have C1 : boxOf (((((((w1.setCell ⟨w.heap.size, 14, none⟩ (.slice a.mA u.ws.length a.mc)).setCell ⟨w.heap.size, 15, none⟩ (.slice B' bs'.length d')).alloc (.cells #[.int .i64 0, .int .i64 0] 102)).alloc (.cells #[.int .i64 0, .int .i64 0, .slice none 0 0, .int .i64 0] 108)).alloc (.cells #[.int .i64 0, .int .i64 0] 110)).alloc (.cells #[.int .i64 0, .int .i64 0] 113)).alloc (.cells #[.int .i64 0] 112)) w.heap.size = some (tcs ({ u with bx := nb } : Tn) ({ a with mB := B', md := d', bs := bs' } : TA)) := by first | (simp [go_sem, B1]; done) | (simp [go_sem, B1]; intro e; omega) | ((simp [go_sem, B1]; repeat rw [if_neg (by omega)]); done) | ((simp [go_sem, B1]; repeat rw [if_neg (by omega)]); exact congrArg some (tcs_bxd u nb _).symm)
  have C2 : boxOf (((((((w1.setCell ⟨w.heap.size, 14, none⟩ (.slice a.mA u.ws.length a.mc)).setCell ⟨w.heap.size, 15, none⟩ (.slice B' bs'.length d')).alloc (.cells #[.int .i64 0, .int .i64 0] 102)).alloc (.cells #[.int .i64 0, .int .i64 0, .slice none 0 0, .int .i64 0] 108)).alloc (.cells #[.int .i64 0, .int .i64 0] 110)).alloc (.cells #[.int .i64 0, .int .i64 0] 113)).alloc (.cells #[.int .i64 0] 112)) (w.heap.size + 1) = some zT := by first | (simp [go_sem, B2]; done) | (simp [go_sem, B2]; intro e; omega) | ((simp [go_sem, B2]; repeat rw [if_neg (by omega)]); done)
  have C3 : boxOf (((((((w1.setCell ⟨w.heap.size, 14, none⟩ (.slice a.mA u.ws.length a.mc)).setCell ⟨w.heap.size, 15, none⟩ (.slice B' bs'.length d')).alloc (.cells #[.int .i64 0, .int .i64 0] 102)).alloc (.cells #[.int .i64 0, .int .i64 0, .slice none 0 0, .int .i64 0] 108)).alloc (.cells #[.int .i64 0, .int .i64 0] 110)).alloc (.cells #[.int .i64 0, .int .i64 0] 113)).alloc (.cells #[.int .i64 0] 112)) (w.heap.size + 1 + 1) = some [.int .i64 0, .bool false, .slice none 0 0] := by first | (simp [go_sem, B3]; done) | (simp [go_sem, B3]; intro e; omega) | ((simp [go_sem, B3]; repeat rw [if_neg (by omega)]); done)
  have C4 : boxOf (((((((w1.setCell ⟨w.heap.size, 14, none⟩ (.slice a.mA u.ws.length a.mc)).setCell ⟨w.heap.size, 15, none⟩ (.slice B' bs'.length d')).alloc (.cells #[.int .i64 0, .int .i64 0] 102)).alloc (.cells #[.int .i64 0, .int .i64 0, .slice none 0 0, .int .i64 0] 108)).alloc (.cells #[.int .i64 0, .int .i64 0] 110)).alloc (.cells #[.int .i64 0, .int .i64 0] 113)).alloc (.cells #[.int .i64 0] 112)) (w.heap.size + 1 + 1 + 1) = some [.int .i64 0, .bool false, .slice none (List.length ([] : List E3)) 0] := by first | (simp [go_sem, B4]; done) | (simp [go_sem, B4]; intro e; omega) | ((simp [go_sem, B4]; repeat rw [if_neg (by omega)]); done)
  have hC : Below w.heap.size w (((((((w1.setCell ⟨w.heap.size, 14, none⟩ (.slice a.mA u.ws.length a.mc)).setCell ⟨w.heap.size, 15, none⟩ (.slice B' bs'.length d')).alloc (.cells #[.int .i64 0, .int .i64 0] 102)).alloc (.cells #[.int .i64 0, .int .i64 0, .slice none 0 0, .int .i64 0] 108)).alloc (.cells #[.int .i64 0, .int .i64 0] 110)).alloc (.cells #[.int .i64 0, .int .i64 0] 113)).alloc (.cells #[.int .i64 0] 112)) := by repeat first | exact hB | refine below_sets _ (by omega) _ _ _ _ ?_ | refine Below.setCell ?_ (by first | omega | (simp; omega) | simp | (simp [size_sets]; omega)) _ | refine Below.alloc ?_ (by first | omega | (simp; omega) | simp | (simp [size_sets]; omega)) _
  have SA : Sees (((((((w1.setCell ⟨w.heap.size, 14, none⟩ (.slice a.mA u.ws.length a.mc)).setCell ⟨w.heap.size, 15, none⟩ (.slice B' bs'.length d')).alloc (.cells #[.int .i64 0, .int .i64 0] 102)).alloc (.cells #[.int .i64 0, .int .i64 0, .slice none 0 0, .int .i64 0] 108)).alloc (.cells #[.int .i64 0, .int .i64 0] 110)).alloc (.cells #[.int .i64 0, .int .i64 0] 113)).alloc (.cells #[.int .i64 0] 112)) (((((((w1.setCell ⟨w.heap.size, 14, none⟩ (.slice a.mA u.ws.length a.mc)).setCell ⟨w.heap.size, 15, none⟩ (.slice B' bs'.length d')).alloc (.cells #[.int .i64 0, .int .i64 0] 102)).alloc (.cells #[.int .i64 0, .int .i64 0, .slice none 0 0, .int .i64 0] 108)).alloc (.cells #[.int .i64 0, .int .i64 0] 110)).alloc (.cells #[.int .i64 0, .int .i64 0] 113)).alloc (.cells #[.int .i64 0] 112)).heap.size 3 none (List.length ([] : List E3)) (ecells ([] : List E3)) := by
    exact Sees.empty
  have TT : TnAt (((((((w1.setCell ⟨w.heap.size, 14, none⟩ (.slice a.mA u.ws.length a.mc)).setCell ⟨w.heap.size, 15, none⟩ (.slice B' bs'.length d')).alloc (.cells #[.int .i64 0, .int .i64 0] 102)).alloc (.cells #[.int .i64 0, .int .i64 0, .slice none 0 0, .int .i64 0] 108)).alloc (.cells #[.int .i64 0, .int .i64 0] 110)).alloc (.cells #[.int .i64 0, .int .i64 0] 113)).alloc (.cells #[.int .i64 0] 112)) ({ u with bx := nb } : Tn) ({ a with mB := B', md := d', bs := bs' } : TA) := by
    repeat first | exact T | refine TnAt.set1 ?_ (O _ (by omega) (by omega)) _ _ | refine TnAt.sets ?_ (O _ (by omega) (by omega)) _ _ | refine TnAt.later ?_ (belowN _ _)
  clear B1 B2 B3 B4 B5 hB T
  generalize (((((((w1.setCell ⟨w.heap.size, 14, none⟩ (.slice a.mA u.ws.length a.mc)).setCell ⟨w.heap.size, 15, none⟩ (.slice B' bs'.length d')).alloc (.cells #[.int .i64 0, .int .i64 0] 102)).alloc (.cells #[.int .i64 0, .int .i64 0, .slice none 0 0, .int .i64 0] 108)).alloc (.cells #[.int .i64 0, .int .i64 0] 110)).alloc (.cells #[.int .i64 0, .int .i64 0] 113)).alloc (.cells #[.int .i64 0] 112)) = wf at *
  have key : ∀ W', Below w.heap.size w W' → TnAt W' ({ u with bx := nb } : Tn) ({ a with mB := B', md := d', bs := bs' } : TA) → Sees W' W'.heap.size 3 none (List.length ([] : List E3)) (ecells ([] : List E3)) → DoPost (fun _ => True) ({ u with bx := nb } : Tn) 0 false ([] : List E3) ev u a w (.returned (.tuple #[.agg (tcs ({ u with bx := nb } : Tn) ({ a with mB := B', md := d', bs := bs' } : TA)).toArray, .agg #[.int .i64 0, .bool false, .slice none (List.length ([] : List E3)) 0], .int .i64 ev])) W' := fun W' x1 x2 x3 => ⟨({ a with mB := B', md := d', bs := bs' } : TA), none, 0, rfl, x2, x3, off, x1⟩
  go_region
  all_goals go_wp2
  all_goals refine bodyPost_ret (v := .tuple #[.agg (tcs ({ u with bx := nb } : Tn) ({ a with mB := B', md := d', bs := bs' } : TA)).toArray, .agg #[.int .i64 0, .bool false, .slice none (List.length ([] : List E3)) 0], .int .i64 ev]) (results_box3 Try.results26 _ _ (w.heap.size + 1) (w.heap.size + 1 + 1) _ _ _ _ _ rfl rfl rfl (by simp [go_sem, C1, C2, C3, C4]) (by simp [go_sem, C1, C2, C3, C4]) Try.underlying38 rfl (by kernel_rfl) Try.underlying75 rfl (by kernel_rfl)) rfl ?_
  all_goals refine key _ ?_ ?_ ?_
  all_goals first
    | ((repeat first | exact hC | exact hC.drew | refine below_sets _ (by omega) _ _ _ _ ?_ | refine Below.setCell ?_ (by first | omega | (simp; omega) | simp) _ | refine Below.drew ?_); done)
    | ((repeat first | exact TT | exact TT.later (Below.refl _ _).drew | refine TnAt.set1 ?_ (O _ (by omega) (by omega)) _ _ | refine TnAt.sets ?_ (O _ (by omega) (by omega)) _ _); done)
    | ((repeat first | exact Sees.empty | exact SA | exact SA.later (Below.refl _ _).drew | refine Sees.own1 ?_ _ _ _ (fun _ q hq => by have := fB q hq; omega) | refine Sees.setsC ?_ _ (fun _ q hq => by have := fB q hq; omega) _ _); done)
set_option maxRecDepth 100000 in
set_option maxHeartbeats 4000000 in
theorem do_swa (u : Tn) (a : TA) (o : TnOk u) (x y k : Int) (A' : Option Addr) (c' : Nat) (w : World) (h : TnAt w u a) (sT : Sees w w.heap.size 1 A' u.tl.length (u.tl.map (Value.int .i64))) : Calls Try.prog 26 #[.agg (tcs u a).toArray, .iface 108 (.agg #[.int .i64 x, .int .i64 y, .slice A' u.tl.length c', .int .i64 k])] w (DoPost (fun g => 0 < u.tl.length → ∀ p, A' = some p → p.block ≠ g) { u with ws := stV u.ws x y, ta := k } (ldV u.ws x) false [] (erV u.ws.length x) u a w) := by
  have B1 : boxOf ((((w.alloc (.cells (tcs u a).toArray 38)).alloc (.cells zT.toArray 38)).alloc (.cells #[.int .i64 0, .bool false, .slice none 0 0] 75)).alloc (.cells #[.int .i64 0, .bool false, .slice none 0 0] 75)) w.heap.size = some (tcs u a) := by simp [go_sem]
  have B2 : boxOf ((((w.alloc (.cells (tcs u a).toArray 38)).alloc (.cells zT.toArray 38)).alloc (.cells #[.int .i64 0, .bool false, .slice none 0 0] 75)).alloc (.cells #[.int .i64 0, .bool false, .slice none 0 0] 75)) (w.heap.size + 1) = some zT := by simp [go_sem]
  have B3 : boxOf ((((w.alloc (.cells (tcs u a).toArray 38)).alloc (.cells zT.toArray 38)).alloc (.cells #[.int .i64 0, .bool false, .slice none 0 0] 75)).alloc (.cells #[.int .i64 0, .bool false, .slice none 0 0] 75)) (w.heap.size + 1 + 1) = some [.int .i64 0, .bool false, .slice none 0 0] := by simp [go_sem]
  have B4 : boxOf ((((w.alloc (.cells (tcs u a).toArray 38)).alloc (.cells zT.toArray 38)).alloc (.cells #[.int .i64 0, .bool false, .slice none 0 0] 75)).alloc (.cells #[.int .i64 0, .bool false, .slice none 0 0] 75)) (w.heap.size + 1 + 1 + 1) = some [.int .i64 0, .bool false, .slice none 0 0] := by simp [go_sem]
  have hs : w.heap.size + 1 + 1 + 1 < ((((w.alloc (.cells (tcs u a).toArray 38)).alloc (.cells zT.toArray 38)).alloc (.cells #[.int .i64 0, .bool false, .slice none 0 0] 75)).alloc (.cells #[.int .i64 0, .bool false, .slice none 0 0] 75)).heap.size := by simp
  have hB : Below w.heap.size w ((((w.alloc (.cells (tcs u a).toArray 38)).alloc (.cells zT.toArray 38)).alloc (.cells #[.int .i64 0, .bool false, .slice none 0 0] 75)).alloc (.cells #[.int .i64 0, .bool false, .slice none 0 0] 75)) := (((belowN w _).alloc (by simp) _).alloc (by simp; omega) _).alloc (by simp; omega) _
  have h0 := h
  replace h := h.later hB
  have KS := swap_any a.mA a.mB a.mc a.md u.ws a.bs x y
  obtain ⟨nw, hnw⟩ : ∃ l, stV u.ws x y = l := ⟨_, rfl⟩
  obtain ⟨qv, hqv⟩ : ∃ l, ldV u.ws x = l := ⟨_, rfl⟩
  obtain ⟨ev, hev⟩ : ∃ e, erV u.ws.length x = e := ⟨_, rfl⟩
  rw [hnw, hqv, hev] at KS
  rw [hnw, hqv, hev]
  have HN : nw.length = u.ws.length := by rw [← hnw]; exact stV_length _ _ _
  clear hnw
  clear hqv hev
  replace KS := hide KS
  have hz : ((((w.alloc (.cells (tcs u a).toArray 38)).alloc (.cells zT.toArray 38)).alloc (.cells #[.int .i64 0, .bool false, .slice none 0 0] 75)).alloc (.cells #[.int .i64 0, .bool false, .slice none 0 0] 75)).heap.size = w.heap.size + 1 + 1 + 1 + 1 := by simp
  go_enter Try.func26, Try.ntmps26
  go_upto_region 11 with fail
  generalize ((((w.alloc (.cells (tcs u a).toArray 38)).alloc (.cells zT.toArray 38)).alloc (.cells #[.int .i64 0, .bool false, .slice none 0 0] 75)).alloc (.cells #[.int .i64 0, .bool false, .slice none 0 0] 75)) = wz at *
  have hA : Below wz.heap.size wz (((wz.alloc (.cells #[.int .i64 0, .slice none 0 0] 100)).alloc (.cells #[.int .i64 0, .int .i64 0] 102)).alloc (.cells #[.int .i64 x, .int .i64 y, .slice A' u.tl.length c', .int .i64 k] 108)) := by repeat first | exact Below.refl _ _ | refine Below.alloc ?_ (by first | exact Nat.le_refl _ | (simp; done) | (simp; omega)) _
  have hsz : (((wz.alloc (.cells #[.int .i64 0, .slice none 0 0] 100)).alloc (.cells #[.int .i64 0, .int .i64 0] 102)).alloc (.cells #[.int .i64 x, .int .i64 y, .slice A' u.tl.length c', .int .i64 k] 108)).heap.size = w.heap.size + 1 + 1 + 1 + 1 + 1 + 1 + 1 := by simp [hz]
  replace B1 := boxOf_keep B1 hA
  replace B2 := boxOf_keep B2 hA
  replace B3 := boxOf_keep B3 hA
  replace B4 := boxOf_keep B4 hA
  have B5 : boxOf (((wz.alloc (.cells #[.int .i64 0, .slice none 0 0] 100)).alloc (.cells #[.int .i64 0, .int .i64 0] 102)).alloc (.cells #[.int .i64 x, .int .i64 y, .slice A' u.tl.length c', .int .i64 k] 108)) (w.heap.size + 1 + 1 + 1 + 1 + 1 + 1) = some [.int .i64 x, .int .i64 y, .slice A' u.tl.length c', .int .i64 k] := boxOf_newA _ _ _ _ (by simp [hz])
  replace hB := below_next hB hB.size hA
  replace h := h.later hA
  clear hA hz hs
  generalize (((wz.alloc (.cells #[.int .i64 0, .slice none 0 0] 100)).alloc (.cells #[.int .i64 0, .int .i64 0] 102)).alloc (.cells #[.int .i64 x, .int .i64 y, .slice A' u.tl.length c', .int .i64 k] 108)) = wy at *
  have O0 : ∀ g, w.heap.size ≤ g → g < w.heap.size + 1 + 1 + 1 + 1 → Off g ({ u with ta := k } : Tn) ({ a with tA := A', tc := c' } : TA) := fun g h1 h2 => off_tp k (h0.off h1) (sT.off h1)
  have T0 : TnAt wy ({ u with ta := k } : Tn) ({ a with tA := A', tc := c' } : TA) := tn_tp k h (sT.later hB)
  have T1 : TnAt ((wy.setCell ⟨w.heap.size, 33, none⟩ (.slice A' u.tl.length c')).setCell ⟨w.heap.size, 34, none⟩ (.int .i64 k)) ({ u with ta := k } : Tn) ({ a with tA := A', tc := c' } : TA) := (T0.set1 (O0 _ (by omega) (by omega)) 33 _).set1 (O0 _ (by omega) (by omega)) 34 _
  have P1 : boxOf ((wy.setCell ⟨w.heap.size, 33, none⟩ (.slice A' u.tl.length c')).setCell ⟨w.heap.size, 34, none⟩ (.int .i64 k)) w.heap.size = some (tcs ({ u with ta := k } : Tn) ({ a with tA := A', tc := c' } : TA)) := by simp [go_sem, B1]
  have P2 : boxOf ((wy.setCell ⟨w.heap.size, 33, none⟩ (.slice A' u.tl.length c')).setCell ⟨w.heap.size, 34, none⟩ (.int .i64 k)) (w.heap.size + 1) = some zT := by simp [go_sem, B2]
  have P3 : boxOf ((wy.setCell ⟨w.heap.size, 33, none⟩ (.slice A' u.tl.length c')).setCell ⟨w.heap.size, 34, none⟩ (.int .i64 k)) (w.heap.size + 1 + 1) = some [.int .i64 0, .bool false, .slice none 0 0] := by simp [go_sem, B3]
  have P4 : boxOf ((wy.setCell ⟨w.heap.size, 33, none⟩ (.slice A' u.tl.length c')).setCell ⟨w.heap.size, 34, none⟩ (.int .i64 k)) (w.heap.size + 1 + 1 + 1) = some [.int .i64 0, .bool false, .slice none 0 0] := by simp [go_sem, B4]
  have P5 : boxOf ((wy.setCell ⟨w.heap.size, 33, none⟩ (.slice A' u.tl.length c')).setCell ⟨w.heap.size, 34, none⟩ (.int .i64 k)) (w.heap.size + 1 + 1 + 1 + 1 + 1 + 1) = some [.int .i64 x, .int .i64 y, .slice A' u.tl.length c', .int .i64 k] := by simp [go_sem, B5]
  have PB : Below w.heap.size w ((wy.setCell ⟨w.heap.size, 33, none⟩ (.slice A' u.tl.length c')).setCell ⟨w.heap.size, 34, none⟩ (.int .i64 k)) := (hB.setCell (by simp) _).setCell (by simp) _
  have Psz : ((wy.setCell ⟨w.heap.size, 33, none⟩ (.slice A' u.tl.length c')).setCell ⟨w.heap.size, 34, none⟩ (.int .i64 k)).heap.size = w.heap.size + 1 + 1 + 1 + 1 + 1 + 1 + 1 := by simpa using hsz
  go_wp2_with fail
  clear h T0 sT B1 B2 B3 B4 B5 hB hsz
  generalize ((wy.setCell ⟨w.heap.size, 33, none⟩ (.slice A' u.tl.length c')).setCell ⟨w.heap.size, 34, none⟩ (.int .i64 k)) = wx at *
  have h := T1
  have B1 := P1
  have B2 := P2
  have B3 := P3
  have B4 := P4
  have B5 := P5
  have hB := PB
  have hsz := Psz
  clear P1 P2 P3 P4 P5 PB Psz
  refine (KS.out _ T1.m).mono ?_
  rintro e w1 ⟨A, c, rfl, sA, hA, hb1⟩
  clear KS
  have T : TnAt w1 ({ u with ws := nw, ta := k } : Tn) ({ a with mA := A, mc := c, tA := A', tc := c' } : TA) := tn_ws T1 hb1 sA HN (c := c)
  have O : ∀ g, w.heap.size ≤ g → g < w.heap.size + 1 + 1 + 1 + 1 → Off g ({ u with ws := nw, ta := k } : Tn) ({ a with mA := A, mc := c, tA := A', tc := c' } : TA) := fun g h1 h2 => off_ws (O0 g h1 h2) hA (by omega) HN
  have off : ∀ g, g < w.heap.size → Off g u a → (0 < u.tl.length → ∀ p, A' = some p → p.block ≠ g) → Off g ({ u with ws := nw, ta := k } : Tn) ({ a with mA := A, mc := c, tA := A', tc := c' } : TA) := fun g h1 f ft => off_ws (off_tp k f ft) hA (by omega) HN
  clear hA sA HN O0 T1
  replace B1 := boxOf_keep B1 hb1
  replace B2 := boxOf_keep B2 hb1
  replace B3 := boxOf_keep B3 hb1
  replace B4 := boxOf_keep B4 hb1
  replace B5 := boxOf_keep B5 hb1
  replace hB := below_next hB hB.size hb1
  have hs1 : w.heap.size + 1 + 1 + 1 + 1 ≤ w1.heap.size := by have := hb1.size; (try simp at this); omega
  clear hb1 h h0 hsz
  go_upto_region 24 with fail
  have C1 : boxOf ((((((w1.setCell ⟨w.heap.size, 14, none⟩ (.slice A nw.length c)).setCell ⟨w.heap.size, 15, none⟩ (.slice a.mB a.bs.length a.md)).setCell ⟨w.heap.size + 1 + 1 + 1, 0, none⟩ (.int .i64 qv)).alloc (.cells #[.int .i64 0, .int .i64 0] 110)).alloc (.cells #[.int .i64 0, .int .i64 0] 113)).alloc (.cells #[.int .i64 0] 112)) w.heap.size = some (tcs ({ u with ws := nw, ta := k } : Tn) ({ a with mA := A, mc := c, tA := A', tc := c' } : TA)) := by first | (simp [go_sem, B1]; done) | (simp [go_sem, B1]; intro e; omega) | ((simp [go_sem, B1]; repeat rw [if_neg (by omega)]); done)
  have C2 : boxOf ((((((w1.setCell ⟨w.heap.size, 14, none⟩ (.slice A nw.length c)).setCell ⟨w.heap.size, 15, none⟩ (.slice a.mB a.bs.length a.md)).setCell ⟨w.heap.size + 1 + 1 + 1, 0, none⟩ (.int .i64 qv)).alloc (.cells #[.int .i64 0, .int .i64 0] 110)).alloc (.cells #[.int .i64 0, .int .i64 0] 113)).alloc (.cells #[.int .i64 0] 112)) (w.heap.size + 1) = some zT := by first | (simp [go_sem, B2]; done) | (simp [go_sem, B2]; intro e; omega) | ((simp [go_sem, B2]; repeat rw [if_neg (by omega)]); done)
  have C3 : boxOf ((((((w1.setCell ⟨w.heap.size, 14, none⟩ (.slice A nw.length c)).setCell ⟨w.heap.size, 15, none⟩ (.slice a.mB a.bs.length a.md)).setCell ⟨w.heap.size + 1 + 1 + 1, 0, none⟩ (.int .i64 qv)).alloc (.cells #[.int .i64 0, .int .i64 0] 110)).alloc (.cells #[.int .i64 0, .int .i64 0] 113)).alloc (.cells #[.int .i64 0] 112)) (w.heap.size + 1 + 1) = some [.int .i64 0, .bool false, .slice none 0 0] := by first | (simp [go_sem, B3]; done) | (simp [go_sem, B3]; intro e; omega) | ((simp [go_sem, B3]; repeat rw [if_neg (by omega)]); done)
  have C4 : boxOf ((((((w1.setCell ⟨w.heap.size, 14, none⟩ (.slice A nw.length c)).setCell ⟨w.heap.size, 15, none⟩ (.slice a.mB a.bs.length a.md)).setCell ⟨w.heap.size + 1 + 1 + 1, 0, none⟩ (.int .i64 qv)).alloc (.cells #[.int .i64 0, .int .i64 0] 110)).alloc (.cells #[.int .i64 0, .int .i64 0] 113)).alloc (.cells #[.int .i64 0] 112)) (w.heap.size + 1 + 1 + 1) = some [.int .i64 qv, .bool false, .slice none (List.length ([] : List E3)) 0] := by first | (simp [go_sem, B4]; done) | (simp [go_sem, B4]; intro e; omega) | ((simp [go_sem, B4]; repeat rw [if_neg (by omega)]); done)
  have hC : Below w.heap.size w ((((((w1.setCell ⟨w.heap.size, 14, none⟩ (.slice A nw.length c)).setCell ⟨w.heap.size, 15, none⟩ (.slice a.mB a.bs.length a.md)).setCell ⟨w.heap.size + 1 + 1 + 1, 0, none⟩ (.int .i64 qv)).alloc (.cells #[.int .i64 0, .int .i64 0] 110)).alloc (.cells #[.int .i64 0, .int .i64 0] 113)).alloc (.cells #[.int .i64 0] 112)) := by repeat first | exact hB | refine below_sets _ (by omega) _ _ _ _ ?_ | refine Below.setCell ?_ (by first | omega | (simp; omega) | simp | (simp [size_sets]; omega)) _ | refine Below.alloc ?_ (by first | omega | (simp; omega) | simp | (simp [size_sets]; omega)) _
  have SA : Sees ((((((w1.setCell ⟨w.heap.size, 14, none⟩ (.slice A nw.length c)).setCell ⟨w.heap.size, 15, none⟩ (.slice a.mB a.bs.length a.md)).setCell ⟨w.heap.size + 1 + 1 + 1, 0, none⟩ (.int .i64 qv)).alloc (.cells #[.int .i64 0, .int .i64 0] 110)).alloc (.cells #[.int .i64 0, .int .i64 0] 113)).alloc (.cells #[.int .i64 0] 112)) ((((((w1.setCell ⟨w.heap.size, 14, none⟩ (.slice A nw.length c)).setCell ⟨w.heap.size, 15, none⟩ (.slice a.mB a.bs.length a.md)).setCell ⟨w.heap.size + 1 + 1 + 1, 0, none⟩ (.int .i64 qv)).alloc (.cells #[.int .i64 0, .int .i64 0] 110)).alloc (.cells #[.int .i64 0, .int .i64 0] 113)).alloc (.cells #[.int .i64 0] 112)).heap.size 3 none (List.length ([] : List E3)) (ecells ([] : List E3)) := by
    exact Sees.empty
  have TT : TnAt ((((((w1.setCell ⟨w.heap.size, 14, none⟩ (.slice A nw.length c)).setCell ⟨w.heap.size, 15, none⟩ (.slice a.mB a.bs.length a.md)).setCell ⟨w.heap.size + 1 + 1 + 1, 0, none⟩ (.int .i64 qv)).alloc (.cells #[.int .i64 0, .int .i64 0] 110)).alloc (.cells #[.int .i64 0, .int .i64 0] 113)).alloc (.cells #[.int .i64 0] 112)) ({ u with ws := nw, ta := k } : Tn) ({ a with mA := A, mc := c, tA := A', tc := c' } : TA) := by
    repeat first | exact T | refine TnAt.set1 ?_ (O _ (by omega) (by omega)) _ _ | refine TnAt.sets ?_ (O _ (by omega) (by omega)) _ _ | refine TnAt.later ?_ (belowN _ _)
  clear B1 B2 B3 B4 B5 hB T
  generalize ((((((w1.setCell ⟨w.heap.size, 14, none⟩ (.slice A nw.length c)).setCell ⟨w.heap.size, 15, none⟩ (.slice a.mB a.bs.length a.md)).setCell ⟨w.heap.size + 1 + 1 + 1, 0, none⟩ (.int .i64 qv)).alloc (.cells #[.int .i64 0, .int .i64 0] 110)).alloc (.cells #[.int .i64 0, .int .i64 0] 113)).alloc (.cells #[.int .i64 0] 112)) = wf at *
  have key : ∀ W', Below w.heap.size w W' → TnAt W' ({ u with ws := nw, ta := k } : Tn) ({ a with mA := A, mc := c, tA := A', tc := c' } : TA) → Sees W' W'.heap.size 3 none (List.length ([] : List E3)) (ecells ([] : List E3)) → DoPost (fun g => 0 < u.tl.length → ∀ p, A' = some p → p.block ≠ g) ({ u with ws := nw, ta := k } : Tn) qv false ([] : List E3) ev u a w (.returned (.tuple #[.agg (tcs ({ u with ws := nw, ta := k } : Tn) ({ a with mA := A, mc := c, tA := A', tc := c' } : TA)).toArray, .agg #[.int .i64 qv, .bool false, .slice none (List.length ([] : List E3)) 0], .int .i64 ev])) W' := fun W' x1 x2 x3 => ⟨({ a with mA := A, mc := c, tA := A', tc := c' } : TA), none, 0, rfl, x2, x3, off, x1⟩
  go_region
  all_goals go_wp2
  all_goals refine bodyPost_ret (v := .tuple #[.agg (tcs ({ u with ws := nw, ta := k } : Tn) ({ a with mA := A, mc := c, tA := A', tc := c' } : TA)).toArray, .agg #[.int .i64 qv, .bool false, .slice none (List.length ([] : List E3)) 0], .int .i64 ev]) (results_box3 Try.results26 _ _ (w.heap.size + 1) (w.heap.size + 1 + 1) _ _ _ _ _ rfl rfl rfl (by simp [go_sem, C1, C2, C3, C4]) (by simp [go_sem, C1, C2, C3, C4]) Try.underlying38 rfl (by kernel_rfl) Try.underlying75 rfl (by kernel_rfl)) rfl ?_
  all_goals refine key _ ?_ ?_ ?_
  all_goals first
    | ((repeat first | exact hC | exact hC.drew | refine below_sets _ (by omega) _ _ _ _ ?_ | refine Below.setCell ?_ (by first | omega | (simp; omega) | simp) _ | refine Below.drew ?_); done)
    | ((repeat first | exact TT | exact TT.later (Below.refl _ _).drew | refine TnAt.set1 ?_ (O _ (by omega) (by omega)) _ _ | refine TnAt.sets ?_ (O _ (by omega) (by omega)) _ _); done)
    | ((repeat first | exact Sees.empty | exact SA | exact SA.later (Below.refl _ _).drew | refine Sees.own1 ?_ _ _ _ (fun _ q hq => by have := fB q hq; omega) | refine Sees.setsC ?_ _ (fun _ q hq => by have := fB q hq; omega) _ _); done)
end Go.Proofs.Ytjghdbkkjhnpfaa
