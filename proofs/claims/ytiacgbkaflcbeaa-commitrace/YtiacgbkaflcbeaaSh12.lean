/- The law's shown (layer 12). -/
import Derived.Test.YtiacgbkaflcbeaaCmL
import Derived.Test.YtiacgbkaflcbeaaTnZ
import Derived.Test.YtiacgbkaflcbeaaM5
import Derived.Test.YtiacgbkaflcbeaaCmS
import Derived.Lib.QuietBelow
import Derived.Deep.QuietTactic
import Derived.BigQuiet
import Derived.Deep.RegionHeld3
import Derived.Deep.CutRange
namespace Go.Proofs.Ytiacgbkaflcbeaa
open Go.RowKit Go.Sort
set_option linter.unusedVariables false
set_option linter.unusedSimpArgs false

def xC : Cf := (⟨3, 1, 1, 0, 0, 1, 0, 0, false, 0, 0, 5⟩ : Cf)
def xW : List Int := [5, 0, 0, 0, 0, 0, 0]
def xB : List (List E3) := [[], [], []]
def xD : Dt := ⟨2, 0, 0, 0, [(0, 1, 2), (2, 2, 3)], [], [], 0, 0, 0, 0, 0, 0, 0, 0, 0, 0⟩
def xN : Dt := ⟨0, 0, 0, 0, [], [], [], 0, 0, 0, 0, 0, 0, 0, 0, 0, 0⟩
def x0 : Tn := ⟨xC, 0, 0, xW, xB, xN, [], 0, [], false⟩
def x1 : Tn := ⟨xC, 0, 0, xW, xB, xD, [], 0, [], false⟩
def x2 : Tn := ⟨xC, 0, 0, xW, xB, { xD with ph := 3, x := 5, y := 4 }, [], 0, [], false⟩
def x3 : Tn := ⟨xC, 0, 0, [4, 0, 0, 0, 0, 0, 0], xB, { xD with ph := 0, x := 5, y := 4 }, [], 0, [(0, 0, 1, 2, 5, 0), (2, 0, 2, 3, 7, 0)], true⟩
def x4 : Tn := ⟨xC, 0, 0, xW, xB, { xD with bl := [(0, 1, 2), (2, 2, 2)] }, [], 0, [], false⟩
def x5 : Tn := ⟨xC, 0, 0, xW, xB, { xD with bl := [(0, 1, 2), (2, 2, 2)], ph := 0, x := 5 }, [], 0, [(0, 0, 1, 2, 5, 0), (2, 0, 2, 2, 7, 0)], true⟩
def aM (A : Option Addr) (c : Nat) (B : Option Addr) (d : Nat) (bs : List Bt) : TA := ⟨A, c, B, d, bs, ⟨none, 0, none, 0, none, 0⟩, none, 0, none, 0⟩
theorem st_x1 : stepC x1 = x2 := by kernel_rfl
theorem st_x2 : stepC x2 = x3 := by kernel_rfl
theorem st_x4 : stepC x4 = x5 := by kernel_rfl
theorem is_x1 : isC x1 = true := by decide
theorem is_x2 : isC x2 = true := by decide
theorem is_x4 : isC x4 = true := by decide
theorem xC_ok : CfK xC := (ck_ok 3 1 1 0 0 1 0 0 false 0 0 5).1 (by decide)
theorem i64_s (x : Int) (h : -100 ≤ x ∧ x ≤ 100) : I64 x := by unfold I64; omega
theorem x1_ok : TnOk x1 := by
  refine ⟨by decide, by decide, by decide, by decide, by decide, ⟨?_, i64_s _ (by decide), i64_s _ (by decide), ?_, ?_, ?_⟩, i64_s _ (by decide), i64_s _ (by decide), i64_s _ (by decide), ?_, xC_ok⟩
  · intro x hx; have h : ∀ x ∈ x1.d.nums, -100 ≤ x ∧ x ≤ 100 := by decide
    exact i64_s x (h x hx)
  · intro e he; have h : ∀ e ∈ x1.d.bl, -100 ≤ e.2.2 ∧ e.2.2 ≤ 100 := by decide
    exact i64_s _ (h e he)
  · intro x hx; cases hx
  · intro e he; have h : ∀ e ∈ x1.d.kl, (-100 ≤ e.1 ∧ e.1 ≤ 100) ∧ -100 ≤ e.2 ∧ e.2 ≤ 100 := by decide
    exact ⟨i64_s _ (h e he).1, i64_s _ (h e he).2⟩
  · intro x hx; have h : ∀ x ∈ x1.ws, -100 ≤ x ∧ x ≤ 100 := by decide
    exact i64_s x (h x hx)
theorem x2_ok : TnOk x2 := by
  refine ⟨by decide, by decide, by decide, by decide, by decide, ⟨?_, i64_s _ (by decide), i64_s _ (by decide), ?_, ?_, ?_⟩, i64_s _ (by decide), i64_s _ (by decide), i64_s _ (by decide), ?_, xC_ok⟩
  · intro x hx; have h : ∀ x ∈ x2.d.nums, -100 ≤ x ∧ x ≤ 100 := by decide
    exact i64_s x (h x hx)
  · intro e he; have h : ∀ e ∈ x2.d.bl, -100 ≤ e.2.2 ∧ e.2.2 ≤ 100 := by decide
    exact i64_s _ (h e he)
  · intro x hx; cases hx
  · intro e he; have h : ∀ e ∈ x2.d.kl, (-100 ≤ e.1 ∧ e.1 ≤ 100) ∧ -100 ≤ e.2 ∧ e.2 ≤ 100 := by decide
    exact ⟨i64_s _ (h e he).1, i64_s _ (h e he).2⟩
  · intro x hx; have h : ∀ x ∈ x2.ws, -100 ≤ x ∧ x ≤ 100 := by decide
    exact i64_s x (h x hx)
theorem x4_ok : TnOk x4 := by
  refine ⟨by decide, by decide, by decide, by decide, by decide, ⟨?_, i64_s _ (by decide), i64_s _ (by decide), ?_, ?_, ?_⟩, i64_s _ (by decide), i64_s _ (by decide), i64_s _ (by decide), ?_, xC_ok⟩
  · intro x hx; have h : ∀ x ∈ x4.d.nums, -100 ≤ x ∧ x ≤ 100 := by decide
    exact i64_s x (h x hx)
  · intro e he; have h : ∀ e ∈ x4.d.bl, -100 ≤ e.2.2 ∧ e.2.2 ≤ 100 := by decide
    exact i64_s _ (h e he)
  · intro x hx; cases hx
  · intro e he; have h : ∀ e ∈ x4.d.kl, (-100 ≤ e.1 ∧ e.1 ≤ 100) ∧ -100 ≤ e.2 ∧ e.2 ≤ 100 := by decide
    exact ⟨i64_s _ (h e he).1, i64_s _ (h e he).2⟩
  · intro x hx; have h : ∀ x ∈ x4.ws, -100 ≤ x ∧ x ≤ 100 := by decide
    exact i64_s x (h x hx)
def bdC (parts : Array (Nat × Value)) : Sem Value := Instr.build 23 parts
theorem bdC_is (parts : Array (Nat × Value)) : Instr.build 23 parts = bdC parts := rfl
theorem run_bdC (w : World) : (bdC #[(0, .int .i64 3), (1, .int .i64 1), (2, .int .i64 1), (5, .int .i64 1), (11, .int .i64 5)]).run Try.prog w = .ok (.agg (ccs xC).toArray) w := by kernel_rfl
def bdU (parts : Array (Nat × Value)) : Sem Value := Instr.build 38 parts
theorem bdU_is (parts : Array (Nat × Value)) : Instr.build 38 parts = bdU parts := rfl
theorem run_bdU (A : Option Addr) (c : Nat) (B : Option Addr) (d : Nat) (bs : List Bt) (w : World) : (bdU #[(0, .agg (ccs xC).toArray), (1, .int .i64 0), (3, .agg #[.slice A xW.length c, .slice B bs.length d])]).run Try.prog w = .ok (.agg (tcs x0 (aM A c B d bs)).toArray) w := by kernel_rfl
def bdH (parts : Array (Nat × Value)) : Sem Value := Instr.build 33 parts
theorem bdH_is (parts : Array (Nat × Value)) : Instr.build 33 parts = bdH parts := rfl
theorem run_bdH (bA : Option Addr) (w : World) : (bdH #[(0, .int .i64 2), (3, .slice bA 2 2)]).run Try.prog w = .ok (.agg (thc xD ⟨bA, 2, none, 0, none, 0⟩).toArray) w := by kernel_rfl
def aP (A : Option Addr) (c : Nat) (B : Option Addr) (d : Nat) (bs : List Bt) (p : Ad) : TA := ⟨A, c, B, d, bs, p, none, 0, none, 0⟩
theorem put_x1 (A : Option Addr) (c : Nat) (B : Option Addr) (d : Nat) (bs : List Bt) (p : Ad) : put 16 (thc xD p) (tcs x0 (aM A c B d bs)) = tcs x1 (aP A c B d bs p) := put_thread x0 (aM A c B d bs) xD p
theorem put_x4 (A : Option Addr) (c : Nat) (B : Option Addr) (d : Nat) (bs : List Bt) (p : Ad) (E : Option Addr) : (tcs x1 (aP A c B d bs p)).set 20 (.slice E 2 2) = tcs x4 (aP A c B d bs { p with bA := E, bc := 2 }) := id rfl
theorem aP_mA (A : Option Addr) (c : Nat) (B : Option Addr) (d : Nat) (bs : List Bt) (p : Ad) : (aP A c B d bs p).mA = A := id rfl
theorem x2_ll : x2.ll.length = 0 := id rfl
theorem x2_ph : x2.d.ph = 3 := id rfl
theorem x2_x : x2.d.x = 5 := id rfl
theorem x2_y : x2.d.y = 4 := id rfl
theorem x3_dn : x3.dn = true := id rfl
theorem x5_dn : x5.dn = true := id rfl
theorem x3_len : x3.ws.length = 7 := id rfl
theorem x3_ll : x3.ll.length = 2 := id rfl
theorem x5_ll : x5.ll.length = 2 := id rfl
theorem x4_ll : x4.ll.length = 0 := id rfl
theorem x5_len : x5.ws.length = 7 := id rfl
theorem xW_len : xW.length = 7 := id rfl
theorem sees_box {W : World} {b sz n : Nat} {cs : List Value} (h : boxOf W b = some cs) (hl : cs.length = n * sz) : Sees W W.heap.size sz (some ⟨b, 0, none⟩) n cs := ⟨hl, fun _ => ⟨b, 0, rfl, boxOf_lt h, fun j v hv => by rw [Nat.zero_add, boxOf_at W b j h]; exact hv⟩⟩
theorem tn_x1 {W : World} {A : Option Addr} {c : Nat} {B : Option Addr} {d : Nat} {bs : List Bt} {b1 : Nat} (mo : MemOk W A xW B bs) (hbx : boxes bs = xB) (h1 : boxOf W b1 = some [.int .i64 0, .int .i64 1, .int .i64 2, .int .i64 2, .int .i64 2, .int .i64 3]) : TnAt W x1 (aP A c B d bs ⟨some ⟨b1, 0, none⟩, 2, none, 0, none, 0⟩) :=
  ⟨mo, hbx, ⟨sees_box h1 rfl, Sees.empty, Sees.empty⟩, Sees.empty, Sees.empty⟩
theorem tn_x4 {W : World} {A : Option Addr} {c : Nat} {B : Option Addr} {d : Nat} {bs : List Bt} {b1 : Nat} {p : Ad} (mo : MemOk W A xW B bs) (hbx : boxes bs = xB) (h1 : boxOf W b1 = some [.int .i64 0, .int .i64 1, .int .i64 2, .int .i64 2, .int .i64 2, .int .i64 2]) : TnAt W x4 (aP A c B d bs { p with bA := some ⟨b1, 0, none⟩, bc := 2 }) :=
  ⟨mo, hbx, ⟨sees_box h1 rfl, Sees.empty, Sees.empty⟩, Sees.empty, Sees.empty⟩
theorem cell_3 {W : World} {A : Option Addr} (s : Sees W W.heap.size 1 A x3.ws.length (x3.ws.map (Value.int .i64))) : ∃ b o, A = some ⟨b, o, none⟩ ∧ W.cell? ⟨b, o, none⟩ = some (.int .i64 4) := by
  obtain ⟨b, o, e, _, h⟩ := s.2 (by decide); exact ⟨b, o, e, h 0 _ rfl⟩
theorem cell_5 {W : World} {A : Option Addr} (s : Sees W W.heap.size 1 A x5.ws.length (x5.ws.map (Value.int .i64))) : ∃ b o, A = some ⟨b, o, none⟩ ∧ W.cell? ⟨b, o, none⟩ = some (.int .i64 5) := by
  obtain ⟨b, o, e, _, h⟩ := s.2 (by decide); exact ⟨b, o, e, h 0 _ rfl⟩
theorem mark_3 {W : World} {A : Option Addr} (s : Sees W W.heap.size 6 A x3.ll.length (mcells x3.ll)) : ∃ b o, A = some ⟨b, o, none⟩ ∧ W.cell? ⟨b, o + 6, none⟩ = some (.int .i64 2) ∧ W.cell? ⟨b, o + 6 + 1, none⟩ = some (.int .i64 0) ∧ W.cell? ⟨b, o + 6 + 2, none⟩ = some (.int .i64 2) ∧ W.cell? ⟨b, o + 6 + 3, none⟩ = some (.int .i64 3) ∧ W.cell? ⟨b, o + 6 + 4, none⟩ = some (.int .i64 7) ∧ W.cell? ⟨b, o + 6 + 5, none⟩ = some (.int .i64 0) := by
  obtain ⟨b, o, e, _, h⟩ := s.2 (by decide); exact ⟨b, o, e, h 6 _ rfl, h 7 _ rfl, h 8 _ rfl, h 9 _ rfl, h 10 _ rfl, h 11 _ rfl⟩
def mAis (a : TA) (A : Option Addr) : Prop := a.mA = A
theorem bdW_x : bdW (List.replicate (cntV (sizeV 1 (bkV 0 0 1) 3)) 0) 1 (bkV 0 0 1) 5 (1 : Int).toNat = xW := by decide
theorem rep_x : (List.replicate (cntV 3) [] : List (List E3)) = xB := by decide
theorem MemOk.own {W : World} {A B : Option Addr} {ws : List Int} {bs : List Bt} (m : MemOk W A ws B bs) (k : Nat) (hA : ∀ p, A = some p → p.block ≠ k) (hB : ∀ p, B = some p → p.block ≠ k) (he : ∀ q ∈ bs, q.l = []) (vs : List Value) (o : Nat) : MemOk (W.setCells k o vs) A ws B bs :=
  ⟨⟨m.words.setsC k (fun _ => hA) vs o, m.bxs.setsC k (fun _ => hB) vs o, fun q hq => (show Sees _ _ 3 q.A q.l.length (ecells q.l) from (by rw [he q hq]; exact Sees.empty))⟩, m.few, m.fewb, m.short⟩
theorem keepX {w W W' : World} {g : Nat} {cs : List Value} (h : boxOf W g = some cs ∧ Below w.heap.size w W) (hb : Below W.heap.size W W') : boxOf W' g = some cs ∧ Below w.heap.size w W' := ⟨boxOf_keep h.1 hb, below_next h.2 h.2.size hb⟩
theorem keepXs {w W : World} {g : Nat} {cs : List Value} (h : boxOf W g = some cs ∧ Below w.heap.size w W) (k o : Nat) (vs : List Value) (h1 : k ≠ g) (h0 : w.heap.size ≤ k) : boxOf (W.setCells k o vs) g = some cs ∧ Below w.heap.size w (W.setCells k o vs) := ⟨by rw [boxOf_sets_far _ _ h1]; exact h.1, below_sets _ h0 _ _ _ _ h.2⟩
theorem xbuild (w : World) : Calls Try.prog 19 #[.agg (ccs xC).toArray] w (MFPost xW xB w) := by
  have := build_any 3 1 1 0 0 1 0 0 false 0 0 5 xC_ok w
  rw [bdW_x, rep_x] at this
  exact this

attribute [local irreducible] tcs thc ccs zT
attribute [local go_sem ↓] alTn_is
attribute [local go_sem] run_alTnf run_alTnt zT_length
attribute [local go_sem ↓] lbTn_is lbTh_is lbCf_is lbRc_is sbTn_is sbTh_is sbCf_is sbRc_is
attribute [local go_sem] run_lbTn run_lbTh run_lbCf run_lbRc run_sbTn run_sbTh run_sbCf run_sbRc
attribute [local go_sem 2000] boxOf_old'
attribute [local go_sem] boxOf_at' boxOf_free' boxOf_alloc objBox_cells objBox_cellsA boxOf_drew boxOf_setI boxOf_setsI size_sets tcs_length thc_length ccs_length tcs_one thc_one ccs_one sub_tn sub_th sub_cf sub_thAll sub_cfAll put_turn
attribute [local go_sem] tc0 tc1 tc2 tc3 tc4 tc5 tc6 tc7 tc8 tc9 tc10 tc11 tc12 tc13 tc14 tc15 tc16 tc17 tc18 tc19 tc20 tc21 tc22 tc23 tc24 tc25 tc26 tc27 tc28 tc29 tc30 tc31 tc32 tc33 tc34 tc35 tc36 hc0 hc1 hc2 hc3 hc4 hc5 hc6 hc7 hc8 hc9 hc10 hc11 hc12 hc13 hc14 hc15 hc16 kc0 kc1 kc2 kc3 kc4 kc5 kc6 kc7 kc8 kc9 kc10 kc11 tg0 tg1 tg2 tg3 tg4 tg5 tg6 tg7 tg8 tg9 tg10 tg11 tg12 tg13 tg14 tg15 tg16 tg17 tg18 tg19 tg20 tg21 tg22 tg23 tg24 tg25 tg26 tg27 tg28 tg29 tg30 tg31 tg32 tg33 tg34 tg35 tg36 hg0 hg1 hg2 hg3 hg4 hg5 hg6 hg7 hg8 hg9 hg10 hg11 hg12 hg13 hg14 hg15 hg16 kg0 kg1 kg2 kg3 kg4 kg5 kg6 kg7 kg8 kg9 kg10 kg11
attribute [local go_sem] ts12 ts13 ts14 ts16 ts17 ts18 ts19 ts20 ts21 ts22 ts23 ts24 ts25 ts26 ts27 ts28 ts29 ts30 ts31 ts32 ts33 ts34 ts35 ts36 ts15 hs0 hs1 hs2 hs3 hs7 hs8 hs9 hs10 hs11 hs12 hs13 hs14 hs15 hs16

attribute [local irreducible] zC zH
attribute [local go_sem ↓] alCf_is alRc_is alTh_is
attribute [local go_sem] run_alCf run_alRc run_alTh zC_length zH_length put_conf put_thrd
attribute [local go_sem] put_x1 put_x4 x2_ph x2_x x2_y x3_dn x5_dn x3_ll x5_ll x4_ll x3_len x5_len
attribute [local go_sem ↓] bdC_is bdU_is bdH_is
attribute [local go_sem] run_bdC run_bdU run_bdH
attribute [local irreducible] xC xW xD xN x0 x1 x2 x3 x4 x5 aM aP
set_option maxRecDepth 100000 in
set_option maxHeartbeats 4000000 in
theorem shown_any (w : World) : Calls Try.prog 10 #[] w (BoolPost true w) := by
  have B1 : boxOf ((w.alloc (.cells zC.toArray 23)).setCells w.heap.size 0 (ccs xC)) w.heap.size = some (ccs xC) := by simp [go_sem]
  have hs : w.heap.size < ((w.alloc (.cells zC.toArray 23)).setCells w.heap.size 0 (ccs xC)).heap.size := by simp [size_sets]
  have hB : Below w.heap.size w ((w.alloc (.cells zC.toArray 23)).setCells w.heap.size 0 (ccs xC)) := below_sets _ (by omega) _ _ _ _ (belowN w _)
  go_enter Try.func10, Try.ntmps10
  go_wp2_with fail
  generalize ((w.alloc (.cells zC.toArray 23)).setCells w.heap.size 0 (ccs xC)) = wz at *
  have Z : boxOf wz.drew w.heap.size = some (ccs xC) ∧ Below w.heap.size w wz.drew := ⟨by rw [boxOf_drew]; exact B1, hB.drew⟩
  go_cut [2] from 3 (fun x wc => ∃ k A c B d bs, x = .pointer (some ⟨k, 0, none⟩) ∧ boxOf wc k = some (tcs x0 (aM A c B d bs)) ∧ boxes bs = xB ∧ MemOk wc A xW B bs ∧ (∀ p, A = some p → p.block ≠ k) ∧ (∀ p, B = some p → p.block ≠ k) ∧ w.heap.size < k ∧ k < wc.heap.size ∧ boxOf wc w.heap.size = some (ccs xC) ∧ Below w.heap.size w wc)
  case first =>
    go_region_held3 (fun w' => boxOf w' w.heap.size = some (ccs xC) ∧ Below w.heap.size w w')
      (first | (with_reducible exact Z) | (with_reducible exact Z1) | (with_reducible exact keepX (by assumption) (belowN _ _)) | (with_reducible exact keepXs Z1 _ _ _ (by omega) (by omega)) | (with_reducible exact keepXs (keepX Z1 (belowN _ _)) _ _ _ (by omega) (by omega)))
      (first
        | (go_at_call 19; refine (xbuild _).mono ?_; rintro e v1 ⟨A, c, B, d, bs, rfl, hbx, mo, fA, fB, hb1⟩; have Z1 : boxOf v1 w.heap.size = some (ccs xC) ∧ Below w.heap.size w v1 := keepX (by assumption) hb1; (first | (with_reducible have tk := box_newk hb1) | (with_reducible have tk := box_newd hb1) | skip); have q1 := hb1.size; (try simp at q1)))
    all_goals go_wp2_with fail
    all_goals go_meet
    all_goals
      have he : ∀ q ∈ bs, q.l = [] := fun q hq => by
        have h1 : q.l ∈ xB := by rw [← hbx]; exact List.mem_map.2 ⟨q, hq, rfl⟩
        have h2 : ∀ l ∈ xB, l = [] := by decide
        exact h2 _ h1
    · have m1 := mo.later (belowN v1 (.cells zT.toArray 38))
      have gA : ∀ p, A = some p → p.block ≠ v1.heap.size := fun p hp => by have := mo.words.block_lt (by rw [xW_len]; omega) p hp; omega
      have gB : ∀ p, B = some p → p.block ≠ v1.heap.size := fun p hp => by have hl : 0 < bs.length := (by have := congrArg List.length hbx; rw [boxes_length] at this; rw [this]; decide); have := mo.bxs.block_lt hl p hp; omega
      exact ⟨_, A, c, B, d, bs, rfl, boxOf_whole _ _ _ (boxOf_new _ _ _ _ rfl) ((tcs_length _ _).trans zT_length.symm), hbx, m1.own _ gA gB he _ _, gA, gB, by omega, by rw [size_sets]; simp, keepXs (keepX Z1 (belowN _ _)) _ _ _ (by omega) (by omega)⟩
    · have gA : ∀ p, A = some p → p.block ≠ wz.heap.size := fun p hp => by have := fA p hp; simp at this; omega
      have gB : ∀ p, B = some p → p.block ≠ wz.heap.size := fun p hp => by have := fB p hp; simp at this; omega
      exact ⟨_, A, c, B, d, bs, rfl, boxOf_whole _ _ _ tk.1 ((tcs_length _ _).trans zT_length.symm), hbx, mo.own _ gA gB he _ _, gA, gB, by omega, by rw [size_sets]; exact tk.2, keepXs Z1 _ _ _ (by omega) (by omega)⟩
  case rest =>
    clear B1 hB Z hs
    obtain ⟨k, A, c, B, d, bs, rfl, Bk, hbx, mo, nA, nB, k0, k1, B1, hB⟩ := hcut
    have he : ∀ q ∈ bs, q.l = [] := fun q hq => by
      have h1 : q.l ∈ xB := by rw [← hbx]; exact List.mem_map.2 ⟨q, hq, rfl⟩
      have h2 : ∀ l ∈ xB, l = [] := by decide
      exact h2 _ h1
    have ne1 : ¬ k = wc.heap.size := by omega
    have ne1' : ¬ wc.heap.size = k := by omega
    have M1 : MemOk ((wc.alloc (.cells #[.int .i64 0, .int .i64 1, .int .i64 2, .int .i64 2, .int .i64 2, .int .i64 3] 51)).setCells k 16 (thc xD (⟨some ⟨wc.heap.size, 0, none⟩, 2, none, 0, none, 0⟩ : Ad))) A xW B bs := (mo.later (belowN _ _)).own k nA nB he _ _
    have T1 : TnAt ((wc.alloc (.cells #[.int .i64 0, .int .i64 1, .int .i64 2, .int .i64 2, .int .i64 2, .int .i64 3] 51)).setCells k 16 (thc xD (⟨some ⟨wc.heap.size, 0, none⟩, 2, none, 0, none, 0⟩ : Ad))) x1 (aP A c B d bs (⟨some ⟨wc.heap.size, 0, none⟩, 2, none, 0, none, 0⟩ : Ad)) := tn_x1 M1 hbx (by simp [go_sem, ne1])
    have C1 : boxOf ((wc.alloc (.cells #[.int .i64 0, .int .i64 1, .int .i64 2, .int .i64 2, .int .i64 2, .int .i64 3] 51)).setCells k 16 (thc xD (⟨some ⟨wc.heap.size, 0, none⟩, 2, none, 0, none, 0⟩ : Ad))) k = some (tcs x1 (aP A c B d bs (⟨some ⟨wc.heap.size, 0, none⟩, 2, none, 0, none, 0⟩ : Ad))) := by simp [go_sem, ne1, Bk]
    have hB1 : Below w.heap.size w ((wc.alloc (.cells #[.int .i64 0, .int .i64 1, .int .i64 2, .int .i64 2, .int .i64 2, .int .i64 3] 51)).setCells k 16 (thc xD (⟨some ⟨wc.heap.size, 0, none⟩, 2, none, 0, none, 0⟩ : Ad))) := below_sets _ (by omega) _ _ _ _ (hB.alloc hB.size _)
    have S1 := cstep_at x1 _ x1_ok _ T1
    rw [st_x1, is_x1] at S1
    have hmo := hide M1
    have HKB := hide (⟨nA, nB, he⟩ : (∀ p, A = some p → p.block ≠ k) ∧ (∀ p, B = some p → p.block ≠ k) ∧ ∀ q ∈ bs, q.l = [])
    have k2 := Nat.lt_of_lt_of_le k1 (show wc.heap.size ≤ ((wc.alloc (.cells #[.int .i64 0, .int .i64 1, .int .i64 2, .int .i64 2, .int .i64 2, .int .i64 3] 51)).setCells k 16 (thc xD (⟨some ⟨wc.heap.size, 0, none⟩, 2, none, 0, none, 0⟩ : Ad))).heap.size by rw [size_sets]; simp)
    clear M1
    go_wp2_with fail
    clear mo nA nB he ne1 ne1' Bk B1 hB k1
    generalize ((wc.alloc (.cells #[.int .i64 0, .int .i64 1, .int .i64 2, .int .i64 2, .int .i64 2, .int .i64 3] 51)).setCells k 16 (thc xD (⟨some ⟨wc.heap.size, 0, none⟩, 2, none, 0, none, 0⟩ : Ad))) = y1 at *
    generalize (⟨some ⟨wc.heap.size, 0, none⟩, 2, none, 0, none, 0⟩ : Ad) = p1 at *
    refine S1.mono ?_
    rintro e y2 ⟨a2, rfl, T2, M2, hb1⟩
    replace M2 := hide M2
    replace C1 := boxOf_keep C1 hb1
    replace hB1 := below_next hB1 hB1.size hb1
    have hm2 := hide (hmo.out.later hb1)
    have kk := Nat.lt_of_lt_of_le k2 hb1.size
    clear S1 hb1 T1 hmo
    have nb : Below y2.heap.size y2 ((y2.alloc (.cells zT.toArray 38)).setCells y2.heap.size 0 (tcs x2 a2)) := below_sets _ (by omega) _ _ _ _ (belowN _ _)
    replace C1 := boxOf_keep C1 nb
    have C2 : boxOf ((y2.alloc (.cells zT.toArray 38)).setCells y2.heap.size 0 (tcs x2 a2)) y2.heap.size = some (tcs x2 a2) := boxOf_whole _ _ _ (boxOf_new _ _ _ _ rfl) ((tcs_length _ _).trans zT_length.symm)
    replace T2 := T2.later nb
    replace hB1 := below_next hB1 hB1.size nb
    replace hm2 := hide (hm2.out.later nb)
    clear nb
    have S2 := cstep_at x2 a2 x2_ok _ T2
    rw [st_x2, is_x2] at S2
    go_wp2_with fail
    generalize ((y2.alloc (.cells zT.toArray 38)).setCells y2.heap.size 0 (tcs x2 a2)) = y3 at *
    generalize y2.heap.size = g2 at *
    have kq := boxOf_lt C1
    refine S2.mono ?_
    rintro e y4 ⟨a3, rfl, T3, M3, hb1⟩
    have HA3 : Hid (∀ p, a3.mA = some p → p.block ≠ k) := hide (fun p hp => by
      rcases M3.mA with e | f
      · rcases M2.out.mA with e2 | f2
        · exact HKB.out.1 p (by rw [← aP_mA A c B d bs p1, ← e2, ← e]; exact hp)
        · have := f2 p (by rw [← e]; exact hp); omega
      · have := f p hp; omega)
    have HL3 : Hid (∀ p, a3.lA = some p → p.block ≠ k) := hide (fun p hp => by
      rcases M3.lA with e | f
      · exact absurd e.2 (by rw [x3_ll, x2_ll]; decide)
      · have := f p hp; omega)
    replace C1 := boxOf_keep C1 hb1
    replace C2 := boxOf_keep C2 hb1
    replace hB1 := below_next hB1 hB1.size hb1
    replace hm2 := hide (hm2.out.later hb1)
    have kg := boxOf_lt C2
    clear S2 hb1 T2 M2 M3 kq k2
    have nb : Below y4.heap.size y4 ((y4.alloc (.cells zT.toArray 38)).setCells y4.heap.size 0 (tcs x3 a3)) := below_sets _ (by omega) _ _ _ _ (belowN _ _)
    replace C1 := boxOf_keep C1 nb
    replace C2 := boxOf_keep C2 nb
    have C3 : boxOf ((y4.alloc (.cells zT.toArray 38)).setCells y4.heap.size 0 (tcs x3 a3)) y4.heap.size = some (tcs x3 a3) := boxOf_whole _ _ _ (boxOf_new _ _ _ _ rfl) ((tcs_length _ _).trans zT_length.symm)
    replace T3 := T3.later nb
    replace hB1 := below_next hB1 hB1.size nb
    replace hm2 := hide (hm2.out.later nb)
    have hsz : ((y4.alloc (.cells zT.toArray 38)).setCells y4.heap.size 0 (tcs x3 a3)).heap.size = y4.heap.size + 1 := by rw [size_sets]; simp
    have C4 : boxOf ((((y4.alloc (.cells zT.toArray 38)).setCells y4.heap.size 0 (tcs x3 a3)).alloc (.cells #[.int .i64 0, .int .i64 1, .int .i64 2, .int .i64 2, .int .i64 2, .int .i64 2] 51)).setCell ⟨k, 20, none⟩ (.slice (some ⟨y4.heap.size + 1, 0, none⟩) 2 2)) k = some (tcs x4 (aP A c B d bs ({ p1 with bA := some ⟨y4.heap.size + 1, 0, none⟩, bc := 2 } : Ad))) := (boxOf_set _ k 20 _ (boxOf_keep C1 (belowN _ _))).trans (congrArg some (put_x4 A c B d bs p1 _))
    have CE : boxOf ((((y4.alloc (.cells zT.toArray 38)).setCells y4.heap.size 0 (tcs x3 a3)).alloc (.cells #[.int .i64 0, .int .i64 1, .int .i64 2, .int .i64 2, .int .i64 2, .int .i64 2] 51)).setCell ⟨k, 20, none⟩ (.slice (some ⟨y4.heap.size + 1, 0, none⟩) 2 2)) (y4.heap.size + 1) = some [.int .i64 0, .int .i64 1, .int .i64 2, .int .i64 2, .int .i64 2, .int .i64 2] := by rw [boxOf_far _ _ _ _ (show k ≠ y4.heap.size + 1 by omega)]; exact boxOf_newA _ _ _ _ hsz.symm
    replace C2 : boxOf ((((y4.alloc (.cells zT.toArray 38)).setCells y4.heap.size 0 (tcs x3 a3)).alloc (.cells #[.int .i64 0, .int .i64 1, .int .i64 2, .int .i64 2, .int .i64 2, .int .i64 2] 51)).setCell ⟨k, 20, none⟩ (.slice (some ⟨y4.heap.size + 1, 0, none⟩) 2 2)) g2 = some (tcs x2 a2) := by rw [boxOf_far _ _ _ _ (show k ≠ g2 by omega)]; exact boxOf_keep C2 (belowN _ _)
    replace C3 : boxOf ((((y4.alloc (.cells zT.toArray 38)).setCells y4.heap.size 0 (tcs x3 a3)).alloc (.cells #[.int .i64 0, .int .i64 1, .int .i64 2, .int .i64 2, .int .i64 2, .int .i64 2] 51)).setCell ⟨k, 20, none⟩ (.slice (some ⟨y4.heap.size + 1, 0, none⟩) 2 2)) y4.heap.size = some (tcs x3 a3) := by rw [boxOf_far _ _ _ _ (show k ≠ y4.heap.size by omega)]; exact boxOf_keep C3 (belowN _ _)
    have m4 : MemOk ((((y4.alloc (.cells zT.toArray 38)).setCells y4.heap.size 0 (tcs x3 a3)).alloc (.cells #[.int .i64 0, .int .i64 1, .int .i64 2, .int .i64 2, .int .i64 2, .int .i64 2] 51)).setCell ⟨k, 20, none⟩ (.slice (some ⟨y4.heap.size + 1, 0, none⟩) 2 2)) A xW B bs := (hm2.out.later (belowN _ (.cells #[.int .i64 0, .int .i64 1, .int .i64 2, .int .i64 2, .int .i64 2, .int .i64 2] 51))).own k HKB.out.1 HKB.out.2.1 HKB.out.2.2 [.slice (some ⟨y4.heap.size + 1, 0, none⟩) 2 2] 20
    have T4 := tn_x4 (c := c) (d := d) (p := p1) m4 hbx CE
    have s3 := hide ((T3.m.words.later (belowN ((y4.alloc (.cells zT.toArray 38)).setCells y4.heap.size 0 (tcs x3 a3)) (.cells #[.int .i64 0, .int .i64 1, .int .i64 2, .int .i64 2, .int .i64 2, .int .i64 2] 51))).own1 k 20 (.slice (some ⟨y4.heap.size + 1, 0, none⟩) 2 2) (fun _ => HA3.out))
    have l3 := hide ((T3.lg.later (belowN ((y4.alloc (.cells zT.toArray 38)).setCells y4.heap.size 0 (tcs x3 a3)) (.cells #[.int .i64 0, .int .i64 1, .int .i64 2, .int .i64 2, .int .i64 2, .int .i64 2] 51))).own1 k 20 (.slice (some ⟨y4.heap.size + 1, 0, none⟩) 2 2) (fun _ => HL3.out))
    have hB4 : Below w.heap.size w ((((y4.alloc (.cells zT.toArray 38)).setCells y4.heap.size 0 (tcs x3 a3)).alloc (.cells #[.int .i64 0, .int .i64 1, .int .i64 2, .int .i64 2, .int .i64 2, .int .i64 2] 51)).setCell ⟨k, 20, none⟩ (.slice (some ⟨y4.heap.size + 1, 0, none⟩) 2 2)) := (hB1.alloc hB1.size _).setCell (by show w.heap.size ≤ k; omega) _
    have S4 := cstep_at x4 (aP A c B d bs ({ p1 with bA := some ⟨y4.heap.size + 1, 0, none⟩, bc := 2 } : Ad)) x4_ok _ T4
    rw [st_x4, is_x4] at S4
    have kn : ¬ k = y4.heap.size := by omega
    have kn1 : ¬ k = y4.heap.size + 1 := by omega
    have kn2 : ¬ y4.heap.size = k := by omega
    go_wp2_with fail
    clear C1 T3 hB1 hm2 nb m4 CE hsz HA3 HL3 HKB
    generalize ((((y4.alloc (.cells zT.toArray 38)).setCells y4.heap.size 0 (tcs x3 a3)).alloc (.cells #[.int .i64 0, .int .i64 1, .int .i64 2, .int .i64 2, .int .i64 2, .int .i64 2] 51)).setCell ⟨k, 20, none⟩ (.slice (some ⟨y4.heap.size + 1, 0, none⟩) 2 2)) = y5 at *
    refine S4.mono ?_
    rintro e y6 ⟨a5, rfl, T5, _, hb1⟩
    replace C4 := boxOf_keep C4 hb1
    replace C2 := boxOf_keep C2 hb1
    replace C3 := boxOf_keep C3 hb1
    replace hB4 := below_next hB4 hB4.size hb1
    replace s3 := hide (s3.out.later hb1)
    replace l3 := hide (l3.out.later hb1)
    clear S4 hb1 T4
    have nb : Below y6.heap.size y6 ((y6.alloc (.cells zT.toArray 38)).setCells y6.heap.size 0 (tcs x5 a5)) := below_sets _ (by omega) _ _ _ _ (belowN _ _)
    replace C4 := boxOf_keep C4 nb
    replace C2 := boxOf_keep C2 nb
    replace C3 := boxOf_keep C3 nb
    have C5 : boxOf ((y6.alloc (.cells zT.toArray 38)).setCells y6.heap.size 0 (tcs x5 a5)) y6.heap.size = some (tcs x5 a5) := boxOf_whole _ _ _ (boxOf_new _ _ _ _ rfl) ((tcs_length _ _).trans zT_length.symm)
    replace hB4 := below_next hB4 hB4.size nb
    obtain ⟨b3, o3, e3, f3⟩ := cell_3 (s3.out.later nb)
    obtain ⟨bl, ol, el, m0, m1, m2, m3, m4, m5⟩ := mark_3 (l3.out.later nb)
    obtain ⟨b5, o5, e5, f5⟩ := cell_5 (T5.m.words.later nb)
    have HB := hide hB4
    clear nb s3 l3 T5 hB4
    go_wp2
    go_ret
    exact ⟨ret_b (by simp), HB.out⟩
end Go.Proofs.Ytiacgbkaflcbeaa
