/- The law's shown (layer 13). -/
import Derived.Test.YtlmlmmkichkkhaaClF
import Derived.Test.YtlmlmmkichkkhaaTnZ
import Derived.Test.YtlmlmmkichkkhaaM5
import Derived.Lib.QuietBelow
import Derived.Deep.QuietTactic
import Derived.BigQuiet
import Derived.Deep.RegionHeld3
import Derived.Deep.CutRange
namespace Go.Proofs.Ytlmlmmkichkkhaa
open Go.RowKit Go.Sort
set_option linter.unusedVariables false
set_option linter.unusedSimpArgs false

def xC : Cf := (⟨2, 1, 2, 1, 0, 1, 0, 0, false, 0, 0, 0⟩ : Cf)
def xW : List Int := [0, 0, 0, 0, 0, 0]
def xB : List (List E3) := [[], []]
def xN : Dt := ⟨0, 0, 0, 0, [], [], [], 0, 0, 0, 0, 0, 0, 0, 0, 0, 0⟩
def xD : Dt := { xN with ph := 4, nd := 1 }
def x0 : Tn := ⟨xC, 0, 0, xW, xB, xN, [], 0, [], false⟩
def x1 : Tn := ⟨xC, 0, 0, xW, xB, xD, [], 0, [], false⟩
def x2 : Tn := ⟨xC, 0, 0, xW, xB, { xD with ph := 5 }, [], 0, [], false⟩
def x3 : Tn := ⟨xC, 0, 0, [0, 9, 0, 0, 0, 0], xB, { xN with ph := 7, hl := [1] }, [], 0, [], false⟩
def x4 : Tn := ⟨xC, 1, 0, [0, 9, 0, 0, 0, 0], xB, xD, [], 0, [], false⟩
def x5 : Tn := ⟨xC, 1, 0, [0, 9, 0, 0, 0, 0], xB, { xD with ph := 6, x := 9 }, [], 0, [], false⟩
def x6 : Tn := ⟨xC, 1, 0, [0, 18, 0, 0, 0, 0], xB, { xD with ph := 11, x := 9, st := 1 }, [], 0, [], false⟩
def aM (A : Option Addr) (c : Nat) (B : Option Addr) (d : Nat) (bs : List Bt) : TA := ⟨A, c, B, d, bs, ⟨none, 0, none, 0, none, 0⟩, none, 0, none, 0⟩
def aQ (a : TA) : TA := aM a.mA a.mc a.mB a.md a.bs
theorem st_x1 : stepK x1 = x2 := by kernel_rfl
theorem st_x2 : stepK x2 = x3 := by kernel_rfl
theorem st_x4 : stepK x4 = x5 := by kernel_rfl
theorem st_x5 : stepK x5 = x6 := by kernel_rfl
theorem st_x0 : stepK x0 = x0 := by kernel_rfl
theorem is_x1 : isK x1 = true := by decide
theorem is_x2 : isK x2 = true := by decide
theorem is_x4 : isK x4 = true := by decide
theorem is_x5 : isK x5 = true := by decide
theorem is_x0 : isK x0 = false := by decide
theorem xC_ok : CfK xC := (ck_ok 2 1 2 1 0 1 0 0 false 0 0 0).1 (by decide)
theorem i64_s (x : Int) (h : -100 ≤ x ∧ x ≤ 100) : I64 x := by unfold I64; omega
theorem tt_x0 : 0 ≤ x0.tt ∧ x0.tt ≤ 15 := by decide
theorem tt_x1 : 0 ≤ x1.tt ∧ x1.tt ≤ 15 := by decide
theorem tt_x2 : 0 ≤ x2.tt ∧ x2.tt ≤ 15 := by decide
theorem tt_x4 : 0 ≤ x4.tt ∧ x4.tt ≤ 15 := by decide
theorem tt_x5 : 0 ≤ x5.tt ∧ x5.tt ≤ 15 := by decide
theorem x0_ok : TnOk x0 := by
  refine ⟨by decide, by decide, by decide, by decide, by decide, ⟨?_, i64_s _ (by decide), i64_s _ (by decide), ?_, ?_, ?_⟩, i64_s _ (by decide), i64_s _ (by decide), i64_s _ (by decide), ?_, xC_ok⟩
  · intro x hx; have h : ∀ x ∈ x0.d.nums, -100 ≤ x ∧ x ≤ 100 := by decide
    exact i64_s x (h x hx)
  · intro e he; have h : ∀ e ∈ x0.d.bl, -100 ≤ e.2.2 ∧ e.2.2 ≤ 100 := by decide
    exact i64_s _ (h e he)
  · intro x hx; cases hx
  · intro e he; have h : ∀ e ∈ x0.d.kl, (-100 ≤ e.1 ∧ e.1 ≤ 100) ∧ -100 ≤ e.2 ∧ e.2 ≤ 100 := by decide
    exact ⟨i64_s _ (h e he).1, i64_s _ (h e he).2⟩
  · intro x hx; have h : ∀ x ∈ x0.ws, -100 ≤ x ∧ x ≤ 100 := by decide
    exact i64_s x (h x hx)
theorem x1_ok : TnOk x1 := by
  refine ⟨by decide, by decide, by decide, by decide, by decide, ⟨?_, i64_s _ (by decide), i64_s _ (by decide), ?_, ?_, ?_⟩, i64_s _ (by decide), i64_s _ (by decide), i64_s _ (by decide), ?_, xC_ok⟩
  · intro x hx; have h : ∀ x ∈ x1.d.nums, -100 ≤ x ∧ x ≤ 100 := by decide
    exact i64_s x (h x hx)
  · intro e he; have h : ∀ e ∈ x1.d.bl, -100 ≤ e.2.2 ∧ e.2.2 ≤ 100 := by decide
    exact i64_s _ (h e he)
  · intro x hx; cases hx
  · intro e he; have h : ∀ e ∈ x1.d.kl, (-100 ≤ e.1 ∧ e.1 ≤ 100) ∧ -100 ≤ e.2 ∧ e.2 ≤ 100 := by decide
    exact ⟨i64_s _ (h e he).1, i64_s _ (h e he).2⟩
  · intro x hx; have h : ∀ x ∈ x1.ws, -100 ≤ x ∧ x ≤ 100 := by decide
    exact i64_s x (h x hx)
theorem x2_ok : TnOk x2 := by
  refine ⟨by decide, by decide, by decide, by decide, by decide, ⟨?_, i64_s _ (by decide), i64_s _ (by decide), ?_, ?_, ?_⟩, i64_s _ (by decide), i64_s _ (by decide), i64_s _ (by decide), ?_, xC_ok⟩
  · intro x hx; have h : ∀ x ∈ x2.d.nums, -100 ≤ x ∧ x ≤ 100 := by decide
    exact i64_s x (h x hx)
  · intro e he; have h : ∀ e ∈ x2.d.bl, -100 ≤ e.2.2 ∧ e.2.2 ≤ 100 := by decide
    exact i64_s _ (h e he)
  · intro x hx; cases hx
  · intro e he; have h : ∀ e ∈ x2.d.kl, (-100 ≤ e.1 ∧ e.1 ≤ 100) ∧ -100 ≤ e.2 ∧ e.2 ≤ 100 := by decide
    exact ⟨i64_s _ (h e he).1, i64_s _ (h e he).2⟩
  · intro x hx; have h : ∀ x ∈ x2.ws, -100 ≤ x ∧ x ≤ 100 := by decide
    exact i64_s x (h x hx)
theorem x4_ok : TnOk x4 := by
  refine ⟨by decide, by decide, by decide, by decide, by decide, ⟨?_, i64_s _ (by decide), i64_s _ (by decide), ?_, ?_, ?_⟩, i64_s _ (by decide), i64_s _ (by decide), i64_s _ (by decide), ?_, xC_ok⟩
  · intro x hx; have h : ∀ x ∈ x4.d.nums, -100 ≤ x ∧ x ≤ 100 := by decide
    exact i64_s x (h x hx)
  · intro e he; have h : ∀ e ∈ x4.d.bl, -100 ≤ e.2.2 ∧ e.2.2 ≤ 100 := by decide
    exact i64_s _ (h e he)
  · intro x hx; cases hx
  · intro e he; have h : ∀ e ∈ x4.d.kl, (-100 ≤ e.1 ∧ e.1 ≤ 100) ∧ -100 ≤ e.2 ∧ e.2 ≤ 100 := by decide
    exact ⟨i64_s _ (h e he).1, i64_s _ (h e he).2⟩
  · intro x hx; have h : ∀ x ∈ x4.ws, -100 ≤ x ∧ x ≤ 100 := by decide
    exact i64_s x (h x hx)
theorem x5_ok : TnOk x5 := by
  refine ⟨by decide, by decide, by decide, by decide, by decide, ⟨?_, i64_s _ (by decide), i64_s _ (by decide), ?_, ?_, ?_⟩, i64_s _ (by decide), i64_s _ (by decide), i64_s _ (by decide), ?_, xC_ok⟩
  · intro x hx; have h : ∀ x ∈ x5.d.nums, -100 ≤ x ∧ x ≤ 100 := by decide
    exact i64_s x (h x hx)
  · intro e he; have h : ∀ e ∈ x5.d.bl, -100 ≤ e.2.2 ∧ e.2.2 ≤ 100 := by decide
    exact i64_s _ (h e he)
  · intro x hx; cases hx
  · intro e he; have h : ∀ e ∈ x5.d.kl, (-100 ≤ e.1 ∧ e.1 ≤ 100) ∧ -100 ≤ e.2 ∧ e.2 ≤ 100 := by decide
    exact ⟨i64_s _ (h e he).1, i64_s _ (h e he).2⟩
  · intro x hx; have h : ∀ x ∈ x5.ws, -100 ≤ x ∧ x ≤ 100 := by decide
    exact i64_s x (h x hx)
def bdC (parts : Array (Nat × Value)) : Sem Value := Instr.build 23 parts
theorem bdC_is (parts : Array (Nat × Value)) : Instr.build 23 parts = bdC parts := rfl
theorem run_bdC (w : World) : (bdC #[(0, .int .i64 2), (1, .int .i64 1), (2, .int .i64 2), (3, .int .i64 1), (5, .int .i64 1)]).run Try.prog w = .ok (.agg (ccs xC).toArray) w := by kernel_rfl
def bdH (parts : Array (Nat × Value)) : Sem Value := Instr.build 33 parts
theorem bdH_is (parts : Array (Nat × Value)) : Instr.build 33 parts = bdH parts := rfl
theorem run_bdH (w : World) : (bdH #[(0, .int .i64 4), (7, .int .i64 1)]).run Try.prog w = .ok (.agg (thc xD ⟨none, 0, none, 0, none, 0⟩).toArray) w := by kernel_rfl
def bdU (parts : Array (Nat × Value)) : Sem Value := Instr.build 38 parts
theorem bdU_is (parts : Array (Nat × Value)) : Instr.build 38 parts = bdU parts := rfl
theorem run_bdU (A : Option Addr) (c : Nat) (B : Option Addr) (d : Nat) (bs : List Bt) (w : World) : (bdU #[(0, .agg (ccs xC).toArray), (1, .int .i64 0), (3, .agg #[.slice A xW.length c, .slice B bs.length d]), (4, .agg (thc xD ⟨none, 0, none, 0, none, 0⟩).toArray)]).run Try.prog w = .ok (.agg (tcs x1 (aM A c B d bs)).toArray) w := by kernel_rfl
theorem run_bdU4 (a : TA) (w : World) : (bdU #[(0, .agg (ccs xC).toArray), (1, .int .i64 1), (3, .agg #[.slice a.mA 6 a.mc, .slice a.mB a.bs.length a.md]), (4, .agg (thc xD ⟨none, 0, none, 0, none, 0⟩).toArray)]).run Try.prog w = .ok (.agg (tcs x4 (aQ a)).toArray) w := by kernel_rfl
theorem run_bdU0 (A : Option Addr) (c : Nat) (B : Option Addr) (d : Nat) (bs : List Bt) (w : World) : (bdU #[(0, .agg (ccs xC).toArray), (3, .agg #[.slice A 6 c, .slice B bs.length d])]).run Try.prog w = .ok (.agg (tcs x0 (aM A c B d bs)).toArray) w := by kernel_rfl
theorem aM_mA (A : Option Addr) (c : Nat) (B : Option Addr) (d : Nat) (bs : List Bt) : (aM A c B d bs).mA = A := id rfl
theorem aM_mB (A : Option Addr) (c : Nat) (B : Option Addr) (d : Nat) (bs : List Bt) : (aM A c B d bs).mB = B := id rfl
theorem aM_mc (A : Option Addr) (c : Nat) (B : Option Addr) (d : Nat) (bs : List Bt) : (aM A c B d bs).mc = c := id rfl
theorem aM_md (A : Option Addr) (c : Nat) (B : Option Addr) (d : Nat) (bs : List Bt) : (aM A c B d bs).md = d := id rfl
theorem aM_bs (A : Option Addr) (c : Nat) (B : Option Addr) (d : Nat) (bs : List Bt) : (aM A c B d bs).bs = bs := id rfl
theorem x2_ph : x2.d.ph = 5 := id rfl
theorem x3_ph : x3.d.ph = 7 := id rfl
theorem x3_hl : x3.d.hl.length = 1 := id rfl
theorem x5_ph : x5.d.ph = 6 := id rfl
theorem x6_ph : x6.d.ph = 11 := id rfl
theorem x6_st : x6.d.st = 1 := id rfl
theorem x1_len : x1.ws.length = 6 := id rfl
theorem x3_len : x3.ws.length = 6 := id rfl
theorem x6_len : x6.ws.length = 6 := id rfl
theorem xW_len : xW.length = 6 := id rfl
theorem tn_x1 {W : World} {A : Option Addr} {c : Nat} {B : Option Addr} {d : Nat} {bs : List Bt} (mo : MemOk W A xW B bs) (hbx : boxes bs = xB) : TnAt W x1 (aM A c B d bs) := ⟨mo, hbx, ⟨Sees.empty, Sees.empty, Sees.empty⟩, Sees.empty, Sees.empty⟩
theorem tn_x0 {W : World} {A : Option Addr} {c : Nat} {B : Option Addr} {d : Nat} {bs : List Bt} (mo : MemOk W A xW B bs) (hbx : boxes bs = xB) : TnAt W x0 (aM A c B d bs) := ⟨mo, hbx, ⟨Sees.empty, Sees.empty, Sees.empty⟩, Sees.empty, Sees.empty⟩
theorem tn_x4 {W : World} {a : TA} (t : TnAt W x3 a) : TnAt W x4 (aQ a) := ⟨t.m, t.bx, ⟨Sees.empty, Sees.empty, Sees.empty⟩, Sees.empty, Sees.empty⟩
theorem cell_3 {W : World} {A : Option Addr} (s : Sees W W.heap.size 1 A x3.ws.length (x3.ws.map (Value.int .i64))) : ∃ b o, A = some ⟨b, o, none⟩ ∧ W.cell? ⟨b, o + 1, none⟩ = some (.int .i64 9) := by
  obtain ⟨b, o, e, _, h⟩ := s.2 (by decide); exact ⟨b, o, e, h 1 _ rfl⟩
theorem cell_6 {W : World} {A : Option Addr} (s : Sees W W.heap.size 1 A x6.ws.length (x6.ws.map (Value.int .i64))) : ∃ b o, A = some ⟨b, o, none⟩ ∧ W.cell? ⟨b, o + 1, none⟩ = some (.int .i64 18) := by
  obtain ⟨b, o, e, _, h⟩ := s.2 (by decide); exact ⟨b, o, e, h 1 _ rfl⟩
theorem bdW_x : bdW (List.replicate (cntV (sizeV 1 (bkV 1 0 1) 2)) 0) 1 (bkV 1 0 1) 0 (1 : Int).toNat = xW := by decide
theorem rep_x : (List.replicate (cntV 2) [] : List (List E3)) = xB := by decide
theorem MemOk.own {W : World} {A B : Option Addr} {ws : List Int} {bs : List Bt} (m : MemOk W A ws B bs) (k : Nat) (hA : ∀ p, A = some p → p.block ≠ k) (hB : ∀ p, B = some p → p.block ≠ k) (he : ∀ q ∈ bs, q.l = []) (vs : List Value) (o : Nat) : MemOk (W.setCells k o vs) A ws B bs :=
  ⟨⟨m.words.setsC k (fun _ => hA) vs o, m.bxs.setsC k (fun _ => hB) vs o, fun q hq => (show Sees _ _ 3 q.A q.l.length (ecells q.l) from (by rw [he q hq]; exact Sees.empty))⟩, m.few, m.fewb, m.short⟩
theorem keepX {w W W' : World} {g : Nat} {cs : List Value} (h : boxOf W g = some cs ∧ Below w.heap.size w W) (hb : Below W.heap.size W W') : boxOf W' g = some cs ∧ Below w.heap.size w W' := ⟨boxOf_keep h.1 hb, below_next h.2 h.2.size hb⟩
theorem keepXs {w W : World} {g : Nat} {cs : List Value} (h : boxOf W g = some cs ∧ Below w.heap.size w W) (k o : Nat) (vs : List Value) (h1 : k ≠ g) (h0 : w.heap.size ≤ k) : boxOf (W.setCells k o vs) g = some cs ∧ Below w.heap.size w (W.setCells k o vs) := ⟨by rw [boxOf_sets_far _ _ h1]; exact h.1, below_sets _ h0 _ _ _ _ h.2⟩
theorem xbuild (w : World) : Calls Try.prog 19 #[.agg (ccs xC).toArray] w (MFPost xW xB w) := by
  have := build_any 2 1 2 1 0 1 0 0 false 0 0 0 xC_ok w
  rw [bdW_x, rep_x] at this
  exact this
theorem first_0 (w : World) : Calls Try.prog 25 #[.int .i64 0] w (IntPost 9 w) := first_any 0 (by decide) w
theorem joined_1 (w : World) : Calls Try.prog 26 #[.int .i64 1] w (IntPost 18 w) := joined_any 1 (by decide) w

attribute [local irreducible] tcs thc ccs zT
attribute [local go_sem ↓] alTn_is alRn_is
attribute [local go_sem] run_alTnf run_alTnt run_alRnf run_alRnt zT_length
attribute [local go_sem ↓] lbTn_is lbRn_is lbTh_is lbRh_is lbCf_is lbRc_is sbTn_is sbRn_is sbTh_is sbRh_is sbCf_is sbRc_is
attribute [local go_sem] run_lbTn run_lbRn run_lbTh run_lbRh run_lbCf run_lbRc run_sbTn run_sbRn run_sbTh run_sbRh run_sbCf run_sbRc
attribute [local go_sem 2000] boxOf_old'
attribute [local go_sem] boxOf_at' boxOf_free' boxOf_alloc objBox_cells objBox_cellsA boxOf_drew boxOf_setI boxOf_setsI size_sets tcs_length thc_length ccs_length tcs_one thc_one ccs_one sub_tn sub_th sub_cf sub_thAll sub_cfAll put_turn put_thread
attribute [local go_sem] tc0 tc1 tc2 tc3 tc4 tc5 tc6 tc7 tc8 tc9 tc10 tc11 tc12 tc13 tc14 tc15 tc16 tc17 tc18 tc19 tc20 tc21 tc22 tc23 tc24 tc25 tc26 tc27 tc28 tc29 tc30 tc31 tc32 tc33 tc34 tc35 tc36 hc0 hc1 hc2 hc3 hc4 hc5 hc6 hc7 hc8 hc9 hc10 hc11 hc12 hc13 hc14 hc15 hc16 kc0 kc1 kc2 kc3 kc4 kc5 kc6 kc7 kc8 kc9 kc10 kc11 tg0 tg1 tg2 tg3 tg4 tg5 tg6 tg7 tg8 tg9 tg10 tg11 tg12 tg13 tg14 tg15 tg16 tg17 tg18 tg19 tg20 tg21 tg22 tg23 tg24 tg25 tg26 tg27 tg28 tg29 tg30 tg31 tg32 tg33 tg34 tg35 tg36 hg0 hg1 hg2 hg3 hg4 hg5 hg6 hg7 hg8 hg9 hg10 hg11 hg12 hg13 hg14 hg15 hg16 kg0 kg1 kg2 kg3 kg4 kg5 kg6 kg7 kg8 kg9 kg10 kg11
attribute [local go_sem] ts12 ts13 ts14 ts16 ts17 ts18 ts19 ts20 ts21 ts22 ts23 ts24 ts25 ts26 ts27 ts28 ts29 ts30 ts31 ts32 ts33 ts34 ts35 ts36 ts15 hs0 hs1 hs2 hs3 hs7 hs8 hs9 hs10 hs11 hs12 hs13 hs14 hs15 hs16

attribute [local irreducible] zC zH
attribute [local go_sem ↓] alCf_is alRc_is alTh_is
attribute [local go_sem] run_alCf run_alRc run_alTh zC_length zH_length put_conf put_thrd
attribute [local go_sem] x2_ph x3_ph x3_hl x5_ph x6_ph x6_st x1_len x3_len x6_len aM_mA aM_mB aM_mc aM_md aM_bs
attribute [local go_sem ↓] bdC_is bdU_is bdH_is
attribute [local go_sem] run_bdC run_bdU run_bdU4 run_bdU0 run_bdH
attribute [local irreducible] xC xW xD xN x0 x1 x2 x3 x4 x5 x6 aM aQ
set_option maxRecDepth 100000 in
set_option maxHeartbeats 4000000 in
theorem shown_any (w : World) : Calls Try.prog 11 #[] w (BoolPost true w) := by
  have B1 : boxOf ((w.alloc (.cells zC.toArray 23)).setCells w.heap.size 0 (ccs xC)) w.heap.size = some (ccs xC) := by simp [go_sem]
  have hs : w.heap.size < ((w.alloc (.cells zC.toArray 23)).setCells w.heap.size 0 (ccs xC)).heap.size := by simp [size_sets]
  have hB : Below w.heap.size w ((w.alloc (.cells zC.toArray 23)).setCells w.heap.size 0 (ccs xC)) := below_sets _ (by omega) _ _ _ _ (belowN w _)
  go_enter Try.func11, Try.ntmps11
  go_wp2_with fail
  generalize ((w.alloc (.cells zC.toArray 23)).setCells w.heap.size 0 (ccs xC)) = wz at *
  have Z : boxOf wz.drew w.heap.size = some (ccs xC) ∧ Below w.heap.size w wz.drew := ⟨by rw [boxOf_drew]; exact B1, hB.drew⟩
  go_cut [2] from 3 (fun x wc => ∃ k A c B d bs, x = .pointer (some ⟨k, 0, none⟩) ∧ boxOf wc k = some (tcs x1 (aM A c B d bs)) ∧ boxes bs = xB ∧ MemOk wc A xW B bs ∧ w.heap.size < k ∧ k < wc.heap.size ∧ boxOf wc w.heap.size = some (ccs xC) ∧ Below w.heap.size w wc)
  case first =>
    go_region_held3 (fun w' => boxOf w' w.heap.size = some (ccs xC) ∧ Below w.heap.size w w')
      (first | (with_reducible exact Z) | (with_reducible exact Z1) | (with_reducible exact keepX (by assumption) (belowN _ _)) | (with_reducible exact keepXs Z1 _ _ _ (by omega) (by omega)) | (with_reducible exact keepXs (keepX Z1 (belowN _ _)) _ _ _ (by omega) (by omega)))
      (first
        | (go_at_call 19; refine (xbuild _).mono ?_; rintro e v1 ⟨A, c, B, d, bs, rfl, hbx, mo, fA, fB, hb1⟩; have Z1 : boxOf v1 w.heap.size = some (ccs xC) ∧ Below w.heap.size w v1 := keepX (by assumption) hb1; (first | (with_reducible have tk := box_newk hb1) | (with_reducible have tk := box_newd hb1) | skip); have q1 := hb1.size; (try simp at q1)))
    all_goals go_wp2_with fail
    all_goals go_meet
    all_goals
      have he : ∀ q ∈ bs, q.l = [] := fun q hq => by
        have h1 : q.l ∈ xB := by rw [← hbx]; exact List.mem_map.2 ⟨q, hq, rfl⟩
        have h2 : ∀ l ∈ xB, l = [] := by decide
        exact h2 _ h1
    · have m1 := mo.later (belowN v1 (.cells zT.toArray 38))
      have gA : ∀ p, A = some p → p.block ≠ v1.heap.size := fun p hp => by have := mo.words.block_lt (by rw [xW_len]; omega) p hp; omega
      have gB : ∀ p, B = some p → p.block ≠ v1.heap.size := fun p hp => by have hl : 0 < bs.length := (by have := congrArg List.length hbx; rw [boxes_length] at this; rw [this]; decide); have := mo.bxs.block_lt hl p hp; omega
      exact ⟨_, A, c, B, d, bs, rfl, boxOf_whole _ _ _ (boxOf_new _ _ _ _ rfl) ((tcs_length _ _).trans zT_length.symm), hbx, m1.own _ gA gB he _ _, by omega, by rw [size_sets]; simp, keepXs (keepX Z1 (belowN _ _)) _ _ _ (by omega) (by omega)⟩
    · have gA : ∀ p, A = some p → p.block ≠ wz.heap.size := fun p hp => by have := fA p hp; simp at this; omega
      have gB : ∀ p, B = some p → p.block ≠ wz.heap.size := fun p hp => by have := fB p hp; simp at this; omega
      exact ⟨_, A, c, B, d, bs, rfl, boxOf_whole _ _ _ tk.1 ((tcs_length _ _).trans zT_length.symm), hbx, mo.own _ gA gB he _ _, by omega, by rw [size_sets]; exact tk.2, keepXs Z1 _ _ _ (by omega) (by omega)⟩
  case rest =>
    clear B1 hB Z hs
    obtain ⟨k, A, c, B, d, bs, rfl, Bk, hbx, mo, k0, k1, B1, hB⟩ := hcut
    have S1 := kstep_at x1 (aM A c B d bs) x1_ok tt_x1 _ (tn_x1 mo hbx)
    rw [st_x1, is_x1] at S1
    have hmo := hide mo
    clear mo
    go_wp2_with fail
    refine S1.mono ?_
    rintro e y2 ⟨a2, rfl, T2, _, hb1⟩
    replace Bk := boxOf_keep Bk hb1
    replace B1 := boxOf_keep B1 hb1
    replace hB := below_next hB hB.size hb1
    replace hmo := hide (hmo.out.later hb1)
    have nb := belowY y2 x2 a2 38
    have C2 := boxY y2 x2 a2 38
    replace Bk := boxOf_keep Bk nb
    replace B1 := boxOf_keep B1 nb
    replace hB := below_next hB hB.size nb
    replace hmo := hide (hmo.out.later nb)
    have S2 := kstep_at x2 a2 x2_ok tt_x2 _ (T2.later nb)
    rw [st_x2, is_x2] at S2
    clear S1 hb1 nb T2
    go_wp2_with fail
    generalize ((y2.alloc (.cells zT.toArray 38)).setCells y2.heap.size 0 (tcs x2 a2)) = y3 at *
    generalize y2.heap.size = g2 at *
    refine S2.mono ?_
    rintro e y4 ⟨a3, rfl, T3, _, hb1⟩
    replace Bk := boxOf_keep Bk hb1
    replace B1 := boxOf_keep B1 hb1
    replace C2 := boxOf_keep C2 hb1
    replace hB := below_next hB hB.size hb1
    replace hmo := hide (hmo.out.later hb1)
    have n1 := belowY y4 x3 a3 38
    have hsz : ((y4.alloc (.cells zT.toArray 38)).setCells y4.heap.size 0 (tcs x3 a3)).heap.size = y4.heap.size + 1 := by rw [size_sets]; simp
    have n2 := belowY ((y4.alloc (.cells zT.toArray 38)).setCells y4.heap.size 0 (tcs x3 a3)) x4 (aQ a3) 38
    have C4 := boxY ((y4.alloc (.cells zT.toArray 38)).setCells y4.heap.size 0 (tcs x3 a3)) x4 (aQ a3) 38
    rw [hsz] at n2 C4
    have C3 : boxOf ((((y4.alloc (.cells zT.toArray 38)).setCells y4.heap.size 0 (tcs x3 a3)).alloc (.cells zT.toArray 38)).setCells (y4.heap.size + 1) 0 (tcs x4 (aQ a3))) y4.heap.size = some (tcs x3 a3) := boxOf_keep (boxY y4 x3 a3 38) (by rw [hsz]; exact n2)
    have nb : Below y4.heap.size y4 ((((y4.alloc (.cells zT.toArray 38)).setCells y4.heap.size 0 (tcs x3 a3)).alloc (.cells zT.toArray 38)).setCells (y4.heap.size + 1) 0 (tcs x4 (aQ a3))) := below_next n1 (by omega) (by rw [hsz]; exact n2)
    have ne1 : ¬ y4.heap.size = w.heap.size := by have := boxOf_lt B1; omega
    have ne2 : ¬ w.heap.size = y4.heap.size := by have := boxOf_lt B1; omega
    have Bk' := boxOf_keep Bk nb
    have B1' := boxOf_keep B1 nb
    replace C2 := boxOf_keep C2 nb
    replace hB := below_next hB hB.size nb
    replace hmo := hide (hmo.out.later nb)
    have T3' := T3.later nb
    have s3 := hide T3'.m.words
    have S3 := kstep_at x4 (aQ a3) x4_ok tt_x4 _ (tn_x4 T3')
    rw [st_x4, is_x4] at S3
    clear S2 hb1 nb n1 n2 T3 T3'
    go_wp2_with fail
    replace Bk := Bk'
    replace B1 := B1'
    clear Bk' B1' ne1 ne2
    generalize ((((y4.alloc (.cells zT.toArray 38)).setCells y4.heap.size 0 (tcs x3 a3)).alloc (.cells zT.toArray 38)).setCells (y4.heap.size + 1) 0 (tcs x4 (aQ a3))) = y5 at *
    generalize y4.heap.size = g3 at *
    clear hsz
    refine S3.mono ?_
    rintro e y6 ⟨a5, rfl, T5, _, hb1⟩
    replace Bk := boxOf_keep Bk hb1
    replace B1 := boxOf_keep B1 hb1
    replace C2 := boxOf_keep C2 hb1
    replace C3 := boxOf_keep C3 hb1
    replace hB := below_next hB hB.size hb1
    replace hmo := hide (hmo.out.later hb1)
    replace s3 := hide (s3.out.later hb1)
    have nb := belowY y6 x5 a5 38
    have C5 := boxY y6 x5 a5 38
    replace Bk := boxOf_keep Bk nb
    replace B1 := boxOf_keep B1 nb
    replace C2 := boxOf_keep C2 nb
    replace C3 := boxOf_keep C3 nb
    replace hB := below_next hB hB.size nb
    replace hmo := hide (hmo.out.later nb)
    replace s3 := hide (s3.out.later nb)
    have S4 := kstep_at x5 a5 x5_ok tt_x5 _ (T5.later nb)
    rw [st_x5, is_x5] at S4
    clear S3 hb1 nb T5 C4
    go_wp2_with fail
    generalize ((y6.alloc (.cells zT.toArray 38)).setCells y6.heap.size 0 (tcs x5 a5)) = y7 at *
    generalize y6.heap.size = g5 at *
    refine S4.mono ?_
    rintro e y8 ⟨a6, rfl, T6, _, hb1⟩
    replace Bk := boxOf_keep Bk hb1
    replace B1 := boxOf_keep B1 hb1
    replace C2 := boxOf_keep C2 hb1
    replace C3 := boxOf_keep C3 hb1
    replace C5 := boxOf_keep C5 hb1
    replace hB := below_next hB hB.size hb1
    replace hmo := hide (hmo.out.later hb1)
    replace s3 := hide (s3.out.later hb1)
    have nb := belowY y8 x6 a6 38
    have C6 := boxY y8 x6 a6 38
    have ne1 : ¬ y8.heap.size = w.heap.size := by have := boxOf_lt B1; omega
    have ne2 : ¬ w.heap.size = y8.heap.size := by have := boxOf_lt B1; omega
    have ne3 : ¬ y8.heap.size = k := by have := boxOf_lt Bk; omega
    have ne4 : ¬ k = y8.heap.size := by have := boxOf_lt Bk; omega
    replace C2 := boxOf_keep C2 nb
    replace C3 := boxOf_keep C3 nb
    replace C5 := boxOf_keep C5 nb
    replace hB := below_next hB hB.size nb
    replace hmo := hide (hmo.out.later nb)
    replace s3 := hide (s3.out.later nb)
    have s6 := hide (T6.later nb).m.words
    have S5 := kstep_at x0 (aM A c B d bs) x0_ok tt_x0 _ (tn_x0 hmo.out hbx)
    rw [st_x0, is_x0] at S5
    clear S4 hb1 nb T6 hmo
    go_wp2_with fail
    clear ne1 ne2 ne3 ne4 Bk B1
    generalize ((y8.alloc (.cells zT.toArray 38)).setCells y8.heap.size 0 (tcs x6 a6)) = y8' at *
    generalize y8.heap.size = g6 at *
    refine S5.mono ?_
    rintro e y9 ⟨a7, rfl, _, _, hb1⟩
    replace C2 := boxOf_keep C2 hb1
    replace C3 := boxOf_keep C3 hb1
    replace C5 := boxOf_keep C5 hb1
    replace C6 := boxOf_keep C6 hb1
    replace hB := below_next hB hB.size hb1
    replace s3 := hide (s3.out.later hb1)
    replace s6 := hide (s6.out.later hb1)
    have nb := belowY y9 x0 a7 38
    replace C2 := boxOf_keep C2 nb
    replace C3 := boxOf_keep C3 nb
    replace C5 := boxOf_keep C5 nb
    replace C6 := boxOf_keep C6 nb
    replace hB := below_next hB hB.size nb
    obtain ⟨b3, o3, e3, f3⟩ := cell_3 (s3.out.later nb)
    obtain ⟨b6, o6, e6, f6⟩ := cell_6 (s6.out.later nb)
    clear S5 hb1 nb s3 s6 hbx
    go_wp2_with fail
    generalize ((y9.alloc (.cells zT.toArray 38)).setCells y9.heap.size 0 (tcs x0 a7)) = ya at *
    have R2 := fun d os => boxOf_keep C2 (below_regrown ya d os)
    have R3 := fun d os => boxOf_keep C3 (below_regrown ya d os)
    have R5 := fun d os => boxOf_keep C5 (below_regrown ya d os)
    have R6 := fun d os => boxOf_keep C6 (below_regrown ya d os)
    have r3 := cell_regrown f3
    have r6 := cell_regrown f6
    have Q1 := hide (fun d os => Calls.regrown_of (w := ya) (first_0 (grow (redrawn ya d) os)))
    have Q2 := hide (fun d os => Calls.regrown_of (w := ya) (joined_1 (grow (redrawn ya d) os)))
    have HB := hide hB
    clear hB
    refine wp_region_quiet_below (by kernel_rfl) (by kernel_rfl) ?_
    repeat (go_big_quiet_step (first | (go_at_call 25; exact Q1.out _ _) | (go_at_call 26; exact Q2.out _ _)))
    simp only [List.append_eq, List.cons_append, List.nil_append]
    repeat (go_big_quiet_step (first | (go_at_call 25; exact Q1.out _ _) | (go_at_call 26; exact Q2.out _ _)))
    refine wpQuiet_nil ?_
    intro _ hw'
    obtain ⟨⟨dq, osq⟩, hw''⟩ := hw'
    subst hw''
    go_wp2
    go_ret
    exact ⟨ret_b (by simp), below_next HB.out HB.out.size (below_regrown ya dq osq)⟩
end Go.Proofs.Ytlmlmmkichkkhaa
