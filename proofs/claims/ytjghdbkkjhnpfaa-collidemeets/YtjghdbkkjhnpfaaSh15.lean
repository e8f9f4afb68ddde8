/- The law's shown (layer 15). -/
import Derived.Test.YtjghdbkkjhnpfaaCoI
import Derived.Test.YtjghdbkkjhnpfaaBuO
import Derived.Test.YtjghdbkkjhnpfaaTnZ
import Derived.Test.YtjghdbkkjhnpfaaM5
import Derived.Test.YtjghdbkkjhnpfaaM6
import Derived.Lib.QuietBelow
import Derived.Deep.QuietTactic
import Derived.BigQuiet
import Derived.Deep.RegionHeld3
import Derived.Deep.CutRange
import Derived.Deep.Cut
import Derived.Handy
namespace Go.Proofs.Ytjghdbkkjhnpfaa
open Go.RowKit Go.Sort
set_option linter.unusedVariables false
set_option linter.unusedSimpArgs false

def xC : Cf := (⟨2, 1, 3, 0, 1, 1, 1, 0, false, 0, 0, 0⟩ : Cf)
def xW0 : List Int := [0, 0, 0, 0, 0, 0]
def xB0 : List (List E3) := [[], []]
def xWa : List Int := [0, 2, 0, 0, 0, 0]
def xW : List Int := [0, 2, 0, 0, 20, 0]
def xB : List (List E3) := [[], [(1, 1, 7)]]
def xD : Dt := { (⟨0, 0, 0, 0, [], [], [], 0, 0, 0, 0, 0, 0, 0, 0, 0, 0⟩ : Dt) with ph := 18, ly := 1, wd := 1, bl := [(0, 1, 2)] }
def x1 : Tn := ⟨xC, 0, 0, xW, xB, xD, [], 0, [], false⟩
def x2 : Tn := ⟨xC, 0, 0, [0, 2, 20, 0, 20, 0], xB, { xD with ph := 19 }, [], 0, [], false⟩
def x3 : Tn := ⟨xC, 0, 0, [0, 1, 20, 0, 20, 0], xB, { xD with ph := 20, who := 1 }, [], 0, [], false⟩
def x4 : Tn := ⟨xC, 0, 0, [0, 1, 0, 0, 20, 0], xB, { xD with ph := 21, who := 1 }, [], 0, [], false⟩
def x5 : Tn := ⟨xC, 0, 0, [0, 1, 0, 0, 0, 0], xB, { xD with ph := 22, who := 1 }, [], 0, [], false⟩
def x6 : Tn := ⟨xC, 0, 0, [0, 1, 0, 0, 0, 0], xB, { xD with ph := 25, who := 1, kl := [(1, 1)], bl := [(0, 1, 2), (1, 1, 7)] }, [], 0, [], false⟩
def x0 : Tn := ⟨xC, 0, 0, xW, xB, { (⟨0, 0, 0, 0, [], [], [], 0, 0, 0, 0, 0, 0, 0, 0, 0, 0⟩ : Dt) with ly := 1 }, [], 0, [], false⟩
theorem st_x1 : stepC x1 = x2 := by kernel_rfl
theorem is_x1 : isC x1 = true := by decide
theorem st_x2 : stepC x2 = x3 := by kernel_rfl
theorem is_x2 : isC x2 = true := by decide
theorem st_x3 : stepC x3 = x4 := by kernel_rfl
theorem is_x3 : isC x3 = true := by decide
theorem st_x4 : stepC x4 = x5 := by kernel_rfl
theorem is_x4 : isC x4 = true := by decide
theorem st_x5 : stepC x5 = x6 := by kernel_rfl
theorem is_x5 : isC x5 = true := by decide
theorem st_x0 : stepC x0 = x0 := by kernel_rfl
theorem is_x0 : isC x0 = false := by decide
theorem xC_ok : CfK xC := (ck_ok 2 1 3 0 1 1 1 0 false 0 0 0).1 (by decide)
theorem i64_s (x : Int) (h : -100 ≤ x ∧ x ≤ 100) : I64 x := by unfold I64; omega
theorem tt_x0 : 0 ≤ x0.tt ∧ x0.tt ≤ 15 := by decide
theorem hi_x0 : 0 ≤ x0.d.it ∧ x0.d.it ≤ 3 := by decide
theorem hl_x0 : 1 ≤ x0.d.ly ∧ x0.d.ly ≤ 3 := by decide
theorem ta_x0 : I64 x0.ta := i64_s _ (by decide)
theorem x0_ok : TnOk x0 := by
  refine ⟨by decide, by decide, by decide, by decide, by decide, ⟨?_, i64_s _ (by decide), i64_s _ (by decide), ?_, ?_, ?_⟩, i64_s _ (by decide), i64_s _ (by decide), i64_s _ (by decide), ?_, xC_ok⟩
  · intro x hx; have h : ∀ x ∈ x0.d.nums, -100 ≤ x ∧ x ≤ 100 := by decide
    exact i64_s x (h x hx)
  · intro e he; have h : ∀ e ∈ x0.d.bl, -100 ≤ e.2.2 ∧ e.2.2 ≤ 100 := by decide
    exact i64_s _ (h e he)
  · intro x hx; cases hx
  · intro e he; have h : ∀ e ∈ x0.d.kl, (-100 ≤ e.1 ∧ e.1 ≤ 100) ∧ -100 ≤ e.2 ∧ e.2 ≤ 100 := by decide
    exact ⟨i64_s _ (h e he).1, i64_s _ (h e he).2⟩
  · intro x hx; have h : ∀ x ∈ x0.ws, -100 ≤ x ∧ x ≤ 100 := by decide
    exact i64_s x (h x hx)
theorem tt_x1 : 0 ≤ x1.tt ∧ x1.tt ≤ 15 := by decide
theorem hi_x1 : 0 ≤ x1.d.it ∧ x1.d.it ≤ 3 := by decide
theorem hl_x1 : 1 ≤ x1.d.ly ∧ x1.d.ly ≤ 3 := by decide
theorem ta_x1 : I64 x1.ta := i64_s _ (by decide)
theorem x1_ok : TnOk x1 := by
  refine ⟨by decide, by decide, by decide, by decide, by decide, ⟨?_, i64_s _ (by decide), i64_s _ (by decide), ?_, ?_, ?_⟩, i64_s _ (by decide), i64_s _ (by decide), i64_s _ (by decide), ?_, xC_ok⟩
  · intro x hx; have h : ∀ x ∈ x1.d.nums, -100 ≤ x ∧ x ≤ 100 := by decide
    exact i64_s x (h x hx)
  · intro e he; have h : ∀ e ∈ x1.d.bl, -100 ≤ e.2.2 ∧ e.2.2 ≤ 100 := by decide
    exact i64_s _ (h e he)
  · intro x hx; cases hx
  · intro e he; have h : ∀ e ∈ x1.d.kl, (-100 ≤ e.1 ∧ e.1 ≤ 100) ∧ -100 ≤ e.2 ∧ e.2 ≤ 100 := by decide
    exact ⟨i64_s _ (h e he).1, i64_s _ (h e he).2⟩
  · intro x hx; have h : ∀ x ∈ x1.ws, -100 ≤ x ∧ x ≤ 100 := by decide
    exact i64_s x (h x hx)
theorem tt_x2 : 0 ≤ x2.tt ∧ x2.tt ≤ 15 := by decide
theorem hi_x2 : 0 ≤ x2.d.it ∧ x2.d.it ≤ 3 := by decide
theorem hl_x2 : 1 ≤ x2.d.ly ∧ x2.d.ly ≤ 3 := by decide
theorem ta_x2 : I64 x2.ta := i64_s _ (by decide)
theorem x2_ok : TnOk x2 := by
  refine ⟨by decide, by decide, by decide, by decide, by decide, ⟨?_, i64_s _ (by decide), i64_s _ (by decide), ?_, ?_, ?_⟩, i64_s _ (by decide), i64_s _ (by decide), i64_s _ (by decide), ?_, xC_ok⟩
  · intro x hx; have h : ∀ x ∈ x2.d.nums, -100 ≤ x ∧ x ≤ 100 := by decide
    exact i64_s x (h x hx)
  · intro e he; have h : ∀ e ∈ x2.d.bl, -100 ≤ e.2.2 ∧ e.2.2 ≤ 100 := by decide
    exact i64_s _ (h e he)
  · intro x hx; cases hx
  · intro e he; have h : ∀ e ∈ x2.d.kl, (-100 ≤ e.1 ∧ e.1 ≤ 100) ∧ -100 ≤ e.2 ∧ e.2 ≤ 100 := by decide
    exact ⟨i64_s _ (h e he).1, i64_s _ (h e he).2⟩
  · intro x hx; have h : ∀ x ∈ x2.ws, -100 ≤ x ∧ x ≤ 100 := by decide
    exact i64_s x (h x hx)
theorem tt_x3 : 0 ≤ x3.tt ∧ x3.tt ≤ 15 := by decide
theorem hi_x3 : 0 ≤ x3.d.it ∧ x3.d.it ≤ 3 := by decide
theorem hl_x3 : 1 ≤ x3.d.ly ∧ x3.d.ly ≤ 3 := by decide
theorem ta_x3 : I64 x3.ta := i64_s _ (by decide)
theorem x3_ok : TnOk x3 := by
  refine ⟨by decide, by decide, by decide, by decide, by decide, ⟨?_, i64_s _ (by decide), i64_s _ (by decide), ?_, ?_, ?_⟩, i64_s _ (by decide), i64_s _ (by decide), i64_s _ (by decide), ?_, xC_ok⟩
  · intro x hx; have h : ∀ x ∈ x3.d.nums, -100 ≤ x ∧ x ≤ 100 := by decide
    exact i64_s x (h x hx)
  · intro e he; have h : ∀ e ∈ x3.d.bl, -100 ≤ e.2.2 ∧ e.2.2 ≤ 100 := by decide
    exact i64_s _ (h e he)
  · intro x hx; cases hx
  · intro e he; have h : ∀ e ∈ x3.d.kl, (-100 ≤ e.1 ∧ e.1 ≤ 100) ∧ -100 ≤ e.2 ∧ e.2 ≤ 100 := by decide
    exact ⟨i64_s _ (h e he).1, i64_s _ (h e he).2⟩
  · intro x hx; have h : ∀ x ∈ x3.ws, -100 ≤ x ∧ x ≤ 100 := by decide
    exact i64_s x (h x hx)
theorem tt_x4 : 0 ≤ x4.tt ∧ x4.tt ≤ 15 := by decide
theorem hi_x4 : 0 ≤ x4.d.it ∧ x4.d.it ≤ 3 := by decide
theorem hl_x4 : 1 ≤ x4.d.ly ∧ x4.d.ly ≤ 3 := by decide
theorem ta_x4 : I64 x4.ta := i64_s _ (by decide)
theorem x4_ok : TnOk x4 := by
  refine ⟨by decide, by decide, by decide, by decide, by decide, ⟨?_, i64_s _ (by decide), i64_s _ (by decide), ?_, ?_, ?_⟩, i64_s _ (by decide), i64_s _ (by decide), i64_s _ (by decide), ?_, xC_ok⟩
  · intro x hx; have h : ∀ x ∈ x4.d.nums, -100 ≤ x ∧ x ≤ 100 := by decide
    exact i64_s x (h x hx)
  · intro e he; have h : ∀ e ∈ x4.d.bl, -100 ≤ e.2.2 ∧ e.2.2 ≤ 100 := by decide
    exact i64_s _ (h e he)
  · intro x hx; cases hx
  · intro e he; have h : ∀ e ∈ x4.d.kl, (-100 ≤ e.1 ∧ e.1 ≤ 100) ∧ -100 ≤ e.2 ∧ e.2 ≤ 100 := by decide
    exact ⟨i64_s _ (h e he).1, i64_s _ (h e he).2⟩
  · intro x hx; have h : ∀ x ∈ x4.ws, -100 ≤ x ∧ x ≤ 100 := by decide
    exact i64_s x (h x hx)
theorem tt_x5 : 0 ≤ x5.tt ∧ x5.tt ≤ 15 := by decide
theorem hi_x5 : 0 ≤ x5.d.it ∧ x5.d.it ≤ 3 := by decide
theorem hl_x5 : 1 ≤ x5.d.ly ∧ x5.d.ly ≤ 3 := by decide
theorem ta_x5 : I64 x5.ta := i64_s _ (by decide)
theorem x5_ok : TnOk x5 := by
  refine ⟨by decide, by decide, by decide, by decide, by decide, ⟨?_, i64_s _ (by decide), i64_s _ (by decide), ?_, ?_, ?_⟩, i64_s _ (by decide), i64_s _ (by decide), i64_s _ (by decide), ?_, xC_ok⟩
  · intro x hx; have h : ∀ x ∈ x5.d.nums, -100 ≤ x ∧ x ≤ 100 := by decide
    exact i64_s x (h x hx)
  · intro e he; have h : ∀ e ∈ x5.d.bl, -100 ≤ e.2.2 ∧ e.2.2 ≤ 100 := by decide
    exact i64_s _ (h e he)
  · intro x hx; cases hx
  · intro e he; have h : ∀ e ∈ x5.d.kl, (-100 ≤ e.1 ∧ e.1 ≤ 100) ∧ -100 ≤ e.2 ∧ e.2 ≤ 100 := by decide
    exact ⟨i64_s _ (h e he).1, i64_s _ (h e he).2⟩
  · intro x hx; have h : ∀ x ∈ x5.ws, -100 ≤ x ∧ x ≤ 100 := by decide
    exact i64_s x (h x hx)
theorem bdW_x : bdW (List.replicate (cntV (sizeV 1 (bkV 0 1 1) 2)) 0) 1 (bkV 0 1 1) 0 (1 : Int).toNat = xW0 := by decide
theorem rep_x : (List.replicate (cntV 2) [] : List (List E3)) = xB0 := by decide
theorem xbuild (w : World) : Calls Try.prog 22 #[.agg (ccs xC).toArray] w (MFOPost xW0 xB0 w) := by
  have := buildO_any 2 1 3 0 1 1 1 0 false 0 0 0 xC_ok w
  rw [bdW_x, rep_x] at this
  exact this
theorem Sees.some_at {w : World} {B sz n : Nat} {A : Option Addr} {xs : List Value} (h : Sees w B sz A n xs) (hn : 0 < n) : ∃ b off, A = some ⟨b, off, none⟩ ∧ b < B ∧ ∀ j v, xs[j]? = some v → w.cell? ⟨b, off + j, none⟩ = some v := h.2 hn
theorem two_boxes {bs : List Bt} (h : boxes bs = xB0) : ∃ q0 q1, bs = [q0, q1] ∧ q0.l = [] ∧ q1.l = [] := by
  rcases bs with _ | ⟨q0, _ | ⟨q1, _ | ⟨q2, r⟩⟩⟩ <;> simp [boxes, xB0] at h
  exact ⟨q0, q1, rfl, h.1, h.2⟩
theorem w0_0 : (xW0.map (Value.int .i64))[0]? = some (.int .i64 0) := by rfl
theorem w0_1 : (xW0.map (Value.int .i64))[1]? = some (.int .i64 0) := by rfl
theorem w0_4 : (xW0.map (Value.int .i64))[4]? = some (.int .i64 0) := by rfl
theorem w0_s : (xW0.set 1 2).set 4 20 = xW := by decide
theorem xW0_len : xW0.length = 6 := id rfl
theorem xW_len : xW.length = 6 := id rfl
def aX (ga c gb d : Nat) (bs : List Bt) (eb : Nat) : TA := ⟨some ⟨ga, 0, none⟩, c, some ⟨gb, 0, none⟩, d, bs, ⟨some ⟨eb, 0, none⟩, 1, none, 0, none, 0⟩, none, 0, none, 0⟩
def aX0 (ga c gb d : Nat) (bs : List Bt) : TA := ⟨some ⟨ga, 0, none⟩, c, some ⟨gb, 0, none⟩, d, bs, ⟨none, 0, none, 0, none, 0⟩, none, 0, none, 0⟩
def bdH (parts : Array (Nat × Value)) : Sem Value := Instr.build 33 parts
theorem bdH_is (parts : Array (Nat × Value)) : Instr.build 33 parts = bdH parts := rfl
theorem run_bdH (eb : Nat) (w : World) : (bdH #[(0, .int .i64 18), (9, .int .i64 1), (11, .int .i64 1), (3, .slice (some ⟨eb, 0, none⟩) 1 1)]).run Try.prog w = .ok (.agg (thc xD ⟨some ⟨eb, 0, none⟩, 1, none, 0, none, 0⟩).toArray) w := by kernel_rfl
theorem run_bdH0 (w : World) : (bdH #[(9, .int .i64 1)]).run Try.prog w = .ok (.agg (thc x0.d ⟨none, 0, none, 0, none, 0⟩).toArray) w := by kernel_rfl
def bdU (parts : Array (Nat × Value)) : Sem Value := Instr.build 38 parts
theorem bdU_is (parts : Array (Nat × Value)) : Instr.build 38 parts = bdU parts := rfl
theorem run_bdU (ga c gb d gr eb : Nat) (q0 : Bt) (w : World) : (bdU #[(0, .agg (ccs xC).toArray), (1, .int .i64 0), (3, .agg #[.slice (some ⟨ga, 0, none⟩) 6 c, .slice (some ⟨gb, 0, none⟩) 2 d]), (4, .agg (thc xD ⟨some ⟨eb, 0, none⟩, 1, none, 0, none, 0⟩).toArray)]).run Try.prog w = .ok (.agg (tcs x1 (aX ga c gb d [q0, ⟨some ⟨gr, 0, none⟩, 1, [(1, 1, 7)]⟩] eb)).toArray) w := by kernel_rfl
theorem run_bdU0 (ga c gb d gr : Nat) (q0 : Bt) (w : World) : (bdU #[(0, .agg (ccs xC).toArray), (3, .agg #[.slice (some ⟨ga, 0, none⟩) 6 c, .slice (some ⟨gb, 0, none⟩) 2 d]), (4, .agg (thc x0.d ⟨none, 0, none, 0, none, 0⟩).toArray)]).run Try.prog w = .ok (.agg (tcs x0 (aX0 ga c gb d [q0, ⟨some ⟨gr, 0, none⟩, 1, [(1, 1, 7)]⟩])).toArray) w := by kernel_rfl
theorem two_is {q0 : Bt} (h : q0.l = []) {gr : Nat} : boxes [q0, ⟨some ⟨gr, 0, none⟩, 1, [(1, 1, 7)]⟩] = xB := by simp [boxes, h, xB]
theorem sees_boxG {W : World} {b sz n : Nat} {cs : List Value} (h : boxOf W b = some cs) (hl : cs.length = n * sz) : Sees W W.heap.size sz (some ⟨b, 0, none⟩) n cs := ⟨hl, fun _ => ⟨b, 0, rfl, boxOf_lt h, fun j v hv => by rw [Nat.zero_add, boxOf_at W b j h]; exact hv⟩⟩
theorem tn_x1 {W : World} {ga c gb d : Nat} {bs : List Bt} {eb : Nat} (mo : MemOk W (some ⟨ga, 0, none⟩) xW (some ⟨gb, 0, none⟩) bs) (hbx : boxes bs = xB) (kb : boxOf W eb = some [.int .i64 0, .int .i64 1, .int .i64 2]) : TnAt W x1 (aX ga c gb d bs eb) := ⟨mo, hbx, ⟨sees_boxG kb rfl, Sees.empty, Sees.empty⟩, Sees.empty, Sees.empty⟩
theorem tn_x0 {W : World} {ga c gb d : Nat} {bs : List Bt} (mo : MemOk W (some ⟨ga, 0, none⟩) xW (some ⟨gb, 0, none⟩) bs) (hbx : boxes bs = xB) : TnAt W x0 (aX0 ga c gb d bs) := ⟨mo, hbx, ⟨Sees.empty, Sees.empty, Sees.empty⟩, Sees.empty, Sees.empty⟩
theorem cells_6 {W : World} {A : Option Addr} (s : Sees W W.heap.size 1 A x6.ws.length (x6.ws.map (Value.int .i64))) : ∃ b o, A = some ⟨b, o, none⟩ ∧ W.cell? ⟨b, o + 1, none⟩ = some (.int .i64 1) ∧ W.cell? ⟨b, o + 2, none⟩ = some (.int .i64 0) ∧ W.cell? ⟨b, o + 4, none⟩ = some (.int .i64 0) := by
  obtain ⟨b, o, e, _, h⟩ := s.2 (by decide); exact ⟨b, o, e, h 1 _ rfl, h 2 _ rfl, h 4 _ rfl⟩
theorem x1_ph : x1.d.ph = 18 := id rfl
theorem x1_len : x1.ws.length = 6 := id rfl
theorem x2_ph : x2.d.ph = 19 := id rfl
theorem x2_len : x2.ws.length = 6 := id rfl
theorem x3_ph : x3.d.ph = 20 := id rfl
theorem x3_len : x3.ws.length = 6 := id rfl
theorem x4_ph : x4.d.ph = 21 := id rfl
theorem x4_len : x4.ws.length = 6 := id rfl
theorem x5_ph : x5.d.ph = 22 := id rfl
theorem x5_len : x5.ws.length = 6 := id rfl
theorem x6_ph : x6.d.ph = 25 := id rfl
theorem x6_len : x6.ws.length = 6 := id rfl
theorem x6_bl : x6.d.bl.length = 2 := id rfl
theorem opn_1 (w : World) : Calls Try.prog 15 #[.int .i64 0, .int .i64 1] w (IntPost 20 w) := open_any 0 1 (by decide) (by decide) w
def bdC (parts : Array (Nat × Value)) : Sem Value := Instr.build 23 parts
theorem bdC_is (parts : Array (Nat × Value)) : Instr.build 23 parts = bdC parts := rfl
theorem run_bdC (w : World) : (bdC #[(0, .int .i64 2), (1, .int .i64 1), (2, .int .i64 3), (4, .int .i64 1), (5, .int .i64 1), (6, .int .i64 1)]).run Try.prog w = .ok (.agg (ccs xC).toArray) w := by kernel_rfl
attribute [local irreducible] tcs thc ccs zT
attribute [local go_sem ↓] alTn_is alRn_is
attribute [local go_sem] run_alTnf run_alTnt run_alRnf run_alRnt zT_length
attribute [local go_sem ↓] lbTn_is lbRn_is lbTh_is lbRh_is lbCf_is lbRc_is sbTn_is sbRn_is sbTh_is sbRh_is sbCf_is sbRc_is
attribute [local go_sem] run_lbTn run_lbRn run_lbTh run_lbRh run_lbCf run_lbRc run_sbTn run_sbRn run_sbTh run_sbRh run_sbCf run_sbRc
attribute [local go_sem 2000] boxOf_old'
attribute [local go_sem] boxOf_at' boxOf_free' boxOf_alloc objBox_cells objBox_cellsA boxOf_drew boxOf_setI boxOf_setsI size_sets tcs_length thc_length ccs_length tcs_one thc_one ccs_one sub_tn sub_th sub_cf sub_thAll sub_cfAll put_turn put_thread
attribute [local go_sem] tc0 tc1 tc2 tc3 tc4 tc5 tc6 tc7 tc8 tc9 tc10 tc11 tc12 tc13 tc14 tc15 tc16 tc17 tc18 tc19 tc20 tc21 tc22 tc23 tc24 tc25 tc26 tc27 tc28 tc29 tc30 tc31 tc32 tc33 tc34 tc35 tc36 hc0 hc1 hc2 hc3 hc4 hc5 hc6 hc7 hc8 hc9 hc10 hc11 hc12 hc13 hc14 hc15 hc16 kc0 kc1 kc2 kc3 kc4 kc5 kc6 kc7 kc8 kc9 kc10 kc11 tg0 tg1 tg2 tg3 tg4 tg5 tg6 tg7 tg8 tg9 tg10 tg11 tg12 tg13 tg14 tg15 tg16 tg17 tg18 tg19 tg20 tg21 tg22 tg23 tg24 tg25 tg26 tg27 tg28 tg29 tg30 tg31 tg32 tg33 tg34 tg35 tg36 hg0 hg1 hg2 hg3 hg4 hg5 hg6 hg7 hg8 hg9 hg10 hg11 hg12 hg13 hg14 hg15 hg16 kg0 kg1 kg2 kg3 kg4 kg5 kg6 kg7 kg8 kg9 kg10 kg11
attribute [local go_sem] ts12 ts13 ts14 ts16 ts17 ts18 ts19 ts20 ts21 ts22 ts23 ts24 ts25 ts26 ts27 ts28 ts29 ts30 ts31 ts32 ts33 ts34 ts35 ts36 ts15 hs0 hs1 hs2 hs3 hs7 hs8 hs9 hs10 hs11 hs12 hs13 hs14 hs15 hs16

attribute [local irreducible] zC zH
attribute [local go_sem ↓] alCf_is alRc_is alTh_is
attribute [local go_sem] run_alCf run_alRc run_alTh zC_length zH_length put_conf put_thrd
attribute [local go_sem ↓] bdC_is bdH_is bdU_is
attribute [local go_sem] run_bdC run_bdH run_bdH0 xW0_len xW_len x6_bl x1_ph x1_len x2_ph x2_len x3_ph x3_len x4_ph x4_len x5_ph x5_len x6_ph x6_len
attribute [local irreducible] xC xW xW0 xB xB0 xD x0 x1 x2 x3 x4 x5 x6 aX aX0
set_option maxRecDepth 100000 in
set_option maxHeartbeats 4000000 in
theorem shown_any (w : World) : Calls Try.prog 11 #[] w (BoolPost true w) := by
  have B1 : boxOf ((w.alloc (.cells zC.toArray 23)).setCells w.heap.size 0 (ccs xC)) w.heap.size = some (ccs xC) := by simp [go_sem]
  have hs : w.heap.size < ((w.alloc (.cells zC.toArray 23)).setCells w.heap.size 0 (ccs xC)).heap.size := by simp [size_sets]
  have hB : Below w.heap.size w ((w.alloc (.cells zC.toArray 23)).setCells w.heap.size 0 (ccs xC)) := below_sets _ (by omega) _ _ _ _ (belowN w _)
  go_enter Try.func11, Try.ntmps11
  go_wp2_with fail
  generalize ((w.alloc (.cells zC.toArray 23)).setCells w.heap.size 0 (ccs xC)) = wz at *
  refine (xbuild _).mono ?_
  rintro e y1 ⟨A, c, B, d, bs, rfl, hbx, mo, fA, fB, hb1⟩
  replace hB := below_next hB hB.size hb1
  replace B1 := boxOf_keep B1 hb1
  have hs1 := hb1.size
  clear hb1
  obtain ⟨ga, oa, rfl, hla, ca⟩ := mo.words.some_at (by rw [xW0_len]; decide)
  obtain ⟨_, csA, e1, KA⟩ := mo.rA _ rfl
  cases e1
  obtain ⟨q0, q1, rfl, l0, l1⟩ := two_boxes hbx
  obtain ⟨gb, ob, rfl, hlb, cb⟩ := mo.bxs.some_at (by simp)
  obtain ⟨_, csB, e1, KB⟩ := mo.rB _ rfl
  cases e1
  have a1 : csA[1]? = some (.int .i64 0) := by rw [← boxOf_at y1 ga 1 KA]; simpa using ca 1 _ w0_1
  have a4 : csA[4]? = some (.int .i64 0) := by rw [← boxOf_at y1 ga 4 KA]; simpa using ca 4 _ w0_4
  have b1 : csB[1]? = some q1.val := by rw [← boxOf_at y1 gb 1 KB]; simpa using cb 1 _ rfl
  have hne : ga ≠ gb := fun e => by
    have h0 : y1.cell? ⟨ga, 0, none⟩ = some (.int .i64 0) := by simpa using ca 0 _ w0_0
    have h1 : y1.cell? ⟨gb, 0, none⟩ = some q0.val := by simpa using cb 0 _ rfl
    rw [e, h1] at h0; cases h0
  have HM := hide mo
  have n3l : w.heap.size < ga := by have := fA _ rfl; simp at this; omega
  have n4l : w.heap.size < gb := by have := fB _ rfl; simp at this; omega
  have n3 : ga ≠ w.heap.size := by omega
  have n4 : gb ≠ w.heap.size := by omega
  have n5 : y1.heap.size ≠ w.heap.size := by omega
  clear fA fB hs hs1
  obtain ⟨qA, qc, ql⟩ := q1
  simp only [Bt.val] at b1 l1
  subst l1
  clear mo ca cb hbx
  go_wp2_with fail
  have KM : boxOf (y1.alloc (.cells #[.slice (some ⟨ga, 0, none⟩) 6 c, .slice (some ⟨gb, 0, none⟩) 2 d] 27)) y1.heap.size = some [.slice (some ⟨ga, 0, none⟩) 6 c, .slice (some ⟨gb, 0, none⟩) 2 d] := boxOf_newA _ _ _ _ rfl
  have nb := belowN y1 (.cells #[.slice (some ⟨ga, 0, none⟩) 6 c, .slice (some ⟨gb, 0, none⟩) 2 d] 27)
  have lm : y1.heap.size < (y1.alloc (.cells #[.slice (some ⟨ga, 0, none⟩) 6 c, .slice (some ⟨gb, 0, none⟩) 2 d] 27)).heap.size := by simp
  replace KA := boxOf_keep KA nb
  replace KB := boxOf_keep KB nb
  replace B1 := boxOf_keep B1 nb
  replace hB := below_next hB hB.size nb
  replace HM := hide (HM.out.toMemOk.later nb)
  clear nb
  generalize (y1.alloc (.cells #[.slice (some ⟨ga, 0, none⟩) 6 c, .slice (some ⟨gb, 0, none⟩) 2 d] 27)) = y2 at *
  generalize hgm : y1.heap.size = gm at *
  have n1 : ga ≠ gm := by omega
  have n2 : gb ≠ gm := by omega
  clear hgm
  refine (opn_1 _).mono ?_
  rintro e v1 ⟨rfl, hb1⟩
  replace KM := boxOf_keep KM hb1
  replace KA := boxOf_keep KA hb1
  replace KB := boxOf_keep KB hb1
  replace B1 := boxOf_keep B1 hb1
  replace HM := hide (HM.out.later hb1)
  replace hB := below_next hB hB.size hb1
  clear hb1
  have hY : Below w.heap.size w ((v1.setCell ⟨ga, 1, none⟩ (.int .i64 2)).setCell ⟨ga, 4, none⟩ (.int .i64 20)) := (hB.setCell (by show w.heap.size ≤ ga; omega) _).setCell (by show w.heap.size ≤ ga; omega) _
  have mY : MemOk ((v1.setCell ⟨ga, 1, none⟩ (.int .i64 2)).setCell ⟨ga, 4, none⟩ (.int .i64 20)) (some ⟨ga, 0, none⟩) xW (some ⟨gb, 0, none⟩) [q0, ⟨qA, qc, []⟩] := by
    have m := HM.out
    have s1 := m.words.set (.int .i64 2) (show 1 < xW0.length by rw [xW0_len]; decide)
    have s2 := s1.set (.int .i64 20) (show 4 < xW0.length by rw [xW0_len]; decide)
    refine ⟨⟨?_, (((m.bxs.far ga 1 (.int .i64 2) (fun p hp => by cases hp; exact Ne.symm hne)).far ga 4 (.int .i64 20) (fun p hp => by cases hp; exact Ne.symm hne))).up (by simp), fun q hq => ?_⟩, by rw [xW_len]; decide, by simp, m.short⟩
    · rw [← w0_s, List.map_set, List.map_set, List.length_set, List.length_set]; exact s2.up (by simp)
    · have : q.l = [] := by
        simp only [List.mem_cons, List.not_mem_nil, or_false] at hq
        rcases hq with rfl | rfl
        · exact l0
        · rfl
      show Sees _ _ 3 q.A q.l.length (ecells q.l)
      rw [this]; exact Sees.empty
  have kB : boxOf ((v1.setCell ⟨ga, 1, none⟩ (.int .i64 2)).setCell ⟨ga, 4, none⟩ (.int .i64 20)) gb = some csB := (boxOf_far _ _ _ _ hne).trans ((boxOf_far _ _ _ _ hne).trans KB)
  have kM : boxOf ((v1.setCell ⟨ga, 1, none⟩ (.int .i64 2)).setCell ⟨ga, 4, none⟩ (.int .i64 20)) gm = some [.slice (some ⟨ga, 0, none⟩) 6 c, .slice (some ⟨gb, 0, none⟩) 2 d] := (boxOf_far _ _ _ _ n1).trans ((boxOf_far _ _ _ _ n1).trans KM)
  have kC : boxOf ((v1.setCell ⟨ga, 1, none⟩ (.int .i64 2)).setCell ⟨ga, 4, none⟩ (.int .i64 20)) w.heap.size = some (ccs xC) := (boxOf_far _ _ _ _ n3).trans ((boxOf_far _ _ _ _ n3).trans B1)
  go_upto_region 8 with fail
  clear KA KB KM HM B1 hB lm a1 a4
  generalize ((v1.setCell ⟨ga, 1, none⟩ (.int .i64 2)).setCell ⟨ga, 4, none⟩ (.int .i64 20)) = y5 at *
  go_upto_region 9 with fail
  have hb7 : Below w.heap.size w ((y5.alloc (.cells #[.int .i64 1, .int .i64 1, .int .i64 7] 71)).setCell ⟨gb, 1, none⟩ (.slice (some ⟨y5.heap.size, 0, none⟩) 1 1)) := (hY.alloc hY.size _).setCell (by show w.heap.size ≤ gb; omega) _
  have r7 : boxOf ((y5.alloc (.cells #[.int .i64 1, .int .i64 1, .int .i64 7] 71)).setCell ⟨gb, 1, none⟩ (.slice (some ⟨y5.heap.size, 0, none⟩) 1 1)) y5.heap.size = some [.int .i64 1, .int .i64 1, .int .i64 7] := by
    rw [boxOf_far _ _ _ _ (by have := boxOf_lt kB; show gb ≠ _; omega)]; exact boxOf_newA _ _ _ _ rfl
  have m7 : MemOk ((y5.alloc (.cells #[.int .i64 1, .int .i64 1, .int .i64 7] 71)).setCell ⟨gb, 1, none⟩ (.slice (some ⟨y5.heap.size, 0, none⟩) 1 1)) (some ⟨ga, 0, none⟩) xW (some ⟨gb, 0, none⟩) [q0, ⟨some ⟨y5.heap.size, 0, none⟩, 1, [(1, 1, 7)]⟩] := by
    have m := mY.later (belowN y5 (.cells #[.int .i64 1, .int .i64 1, .int .i64 7] 71))
    have s1 := m.bxs.set (.slice (some ⟨y5.heap.size, 0, none⟩) 1 1) (show 1 < 2 by decide)
    refine ⟨⟨(m.words.far gb 1 _ (fun p hp => by cases hp; exact hne)).up (by simp), ?_, fun q hq => ?_⟩, m.few, by simp, fun q hq => ?_⟩
    · exact s1.up (by simp)
    · simp only [List.mem_cons, List.not_mem_nil, or_false] at hq
      rcases hq with rfl | rfl
      · show Sees _ _ 3 q.A q.l.length (ecells q.l)
        rw [l0]; exact Sees.empty
      · exact ⟨rfl, fun _ => ⟨y5.heap.size, 0, rfl, boxOf_lt r7, fun j v hv => by rw [Nat.zero_add, boxOf_at _ _ j r7]; exact hv⟩⟩
    · simp only [List.mem_cons, List.not_mem_nil, or_false] at hq
      rcases hq with rfl | rfl
      · rw [l0]; simp
      · simp
  have kM7 := (boxOf_far (y5.alloc (.cells #[.int .i64 1, .int .i64 1, .int .i64 7] 71)) ⟨gb, 1, none⟩ (.slice (some ⟨y5.heap.size, 0, none⟩) 1 1) gm n2).trans (boxOf_keep kM (belowN _ _))
  have kC7 := (boxOf_far (y5.alloc (.cells #[.int .i64 1, .int .i64 1, .int .i64 7] 71)) ⟨gb, 1, none⟩ (.slice (some ⟨y5.heap.size, 0, none⟩) 1 1) w.heap.size n4).trans (boxOf_keep kC (belowN _ _))
  clear mY kM kC hY kB
  generalize ((y5.alloc (.cells #[.int .i64 1, .int .i64 1, .int .i64 7] 71)).setCell ⟨gb, 1, none⟩ (.slice (some ⟨y5.heap.size, 0, none⟩) 1 1)) = y7 at *
  generalize y5.heap.size = gr at *
  have BUF := fun eb w => run_bdU ga c gb d gr eb q0 w
  have BU0 := fun w => run_bdU0 ga c gb d gr q0 w
  have hbx : boxes [q0, ⟨some ⟨gr, 0, none⟩, 1, [(1, 1, 7)]⟩] = xB := two_is l0
  have nb1 : Below y7.heap.size y7 ((y7.alloc (.cells #[.int .i64 0, .int .i64 1, .int .i64 2] 71)).alloc (.cells zT.toArray 38)) := (belowN y7 _).alloc (by simp) _
  have nb2 : Below y7.heap.size y7 (((y7.alloc (.cells #[.int .i64 0, .int .i64 1, .int .i64 2] 71)).alloc (.cells zT.toArray 38)).setCells (y7.heap.size + 1) 0 (tcs x1 (aX ga c gb d [q0, ⟨some ⟨gr, 0, none⟩, 1, [(1, 1, 7)]⟩] y7.heap.size))) := below_sets _ (by omega) _ _ _ _ nb1
  have ke : boxOf (((y7.alloc (.cells #[.int .i64 0, .int .i64 1, .int .i64 2] 71)).alloc (.cells zT.toArray 38)).setCells (y7.heap.size + 1) 0 (tcs x1 (aX ga c gb d [q0, ⟨some ⟨gr, 0, none⟩, 1, [(1, 1, 7)]⟩] y7.heap.size))) y7.heap.size = some [.int .i64 0, .int .i64 1, .int .i64 2] := by
    rw [boxOf_sets_far _ _ (by omega)]; exact boxOf_keep (boxOf_newA y7 #[.int .i64 0, .int .i64 1, .int .i64 2] 71 _ rfl) (belowN _ _)
  have T1 := tn_x1 (c := c) (d := d) (m7.later nb2) hbx ke
  have L1 : LpC (y7.heap.size + 1) x1 (aX ga c gb d [q0, ⟨some ⟨gr, 0, none⟩, 1, [(1, 1, 7)]⟩] y7.heap.size) y7 (((y7.alloc (.cells #[.int .i64 0, .int .i64 1, .int .i64 2] 71)).alloc (.cells zT.toArray 38)).setCells (y7.heap.size + 1) 0 (tcs x1 (aX ga c gb d [q0, ⟨some ⟨gr, 0, none⟩, 1, [(1, 1, 7)]⟩] y7.heap.size))) := ⟨boxOf_whole _ _ _ (boxOf_new _ _ _ _ (by simp)) ((tcs_length _ _).trans zT_length.symm), T1, (tn_x1 (c := c) (d := d) (m7.later (belowN y7 (.cells #[.int .i64 0, .int .i64 1, .int .i64 2] 71))) hbx (boxOf_newA y7 #[.int .i64 0, .int .i64 1, .int .i64 2] 71 _ rfl)).off (by simp), nb2, Nat.le_succ _⟩
  have hbY := below_next hb7 hb7.size nb2
  have R0 : ∀ W, W = (((y7.alloc (.cells #[.int .i64 0, .int .i64 1, .int .i64 2] 71)).alloc (.cells zT.toArray 38)).setCells (y7.heap.size + 1) 0 (tcs x1 (aX ga c gb d [q0, ⟨some ⟨gr, 0, none⟩, 1, [(1, 1, 7)]⟩] y7.heap.size))) → RwC (y7.heap.size + 1) x1 (aX ga c gb d [q0, ⟨some ⟨gr, 0, none⟩, 1, [(1, 1, 7)]⟩] y7.heap.size) W.heap.size (.slice (some ⟨W.heap.size, 0, none⟩) 0 0) 0 [] y7 (W.alloc (.cells #[] 3)) := fun W e => by
    have L1' : LpC (y7.heap.size + 1) x1 (aX ga c gb d [q0, ⟨some ⟨gr, 0, none⟩, 1, [(1, 1, 7)]⟩] y7.heap.size) y7 W := e ▸ L1
    exact ⟨L1'.later (belowN _ _), own_empty _ _ _ _ (Nat.le_refl _), fun k e => by cases e; exact L1'.t.off (Nat.le_refl _), boxOf_lt L1'.b, by simp⟩
  have hm0 := hide (fun W hb => tn_x0 (W := W) (c := c) (d := d) (m7.later hb) hbx)
  go_upto_region 10 with fail
  have hY7w := hb7
  clear m7 hb7 nb1 nb2 hbx ke r7 T1 BUF hbY
  have K1 := boxOf_keep kC7 L1.lo
  have K2 := boxOf_keep kM7 L1.lo
  replace R0 := R0 _ rfl
  clear L1
  generalize (((y7.alloc (.cells #[.int .i64 0, .int .i64 1, .int .i64 2] 71)).alloc (.cells zT.toArray 38)).setCells (y7.heap.size + 1) 0 (tcs x1 (aX ga c gb d [q0, ⟨some ⟨gr, 0, none⟩, 1, [(1, 1, 7)]⟩] y7.heap.size))) = yu at *
  generalize (aX ga c gb d [q0, ⟨some ⟨gr, 0, none⟩, 1, [(1, 1, 7)]⟩] y7.heap.size) = a1 at *
  obtain ⟨gu, hgu⟩ : ∃ x, y7.heap.size + 1 = x := ⟨_, rfl⟩
  rw [hgu] at R0 ⊢
  obtain ⟨base, hbs⟩ : ∃ x, yu.heap.size = x := ⟨_, rfl⟩
  obtain ⟨i0, hi0, hz0, hz1, hz2⟩ := info_parts info3
  go_upto_region 11 with fail
  rw [hbs] at R0
  have hKC := hide kC7
  have hKM := hide kM7
  generalize (yu.alloc (.cells #[] 3)) = w1 at *
  clear K1 K2 hbs
  generalize Value.slice (some ⟨base, 0, none⟩) 0 0 = l0v at *
  have hY7 := hide hgu
  go_wp2_with fail
  refine wp_loop_rounds 6 ?_
  rw [rounds_succ]
  have S1 := cstep_any x1 a1 x1_ok tt_x1 hi_x1 hl_x1 ta_x1 _ R0.l.t
  rw [st_x1, is_x1] at S1
  have C1 := R0.l.b
  have HR := hide R0
  clear R0
  go_wp2_with fail
  refine S1.mono ?_
  rintro e z1 ⟨a2, rfl, T1, off1, hb1⟩
  have Rn := hide (HR.out.next T1 off1 hb1 38)
  have D1 := boxOf_keep C1 hb1
  have lk := boxOf_lt D1
  have ne1 : ¬ z1.heap.size = gu := by omega
  have ne2 : ¬ gu = z1.heap.size := by omega
  clear S1 C1 T1 off1 hb1 HR lk
  go_upto_region 18 with fail
  clear D1
  generalize (((z1.alloc (.cells zT.toArray 38)).setCells z1.heap.size 0 (tcs x2 a2)).setCells gu 0 (tcs x2 a2)) = y1 at *
  have cb := Rn.out.l.b
  have sz := Rn.out.sz
  clear ne1 ne2
  go_wp2_with (at_builtin; refine wpList_append_own_at _ rfl _ _ 24 rfl base 3 i0 _ 1 8 Try.underlying24 hi0 hz0 hz1 hz2 rfl (by omega) _ 0 _ rfl (Rn.out.own.alloc _) ⟨y1.heap.size, 0, none⟩ 1 1 [.int .i64 19] rfl rfl (World.news_of_block (cs := #[.int .i64 19]) (t := 3) (fr := (0, 0)) (heap_alloc_new y1 _)) (by simp [Value.oneCell']) (by unfold maxLen; omega) (by omega) (by simp; omega) ?_; intro l1v w2 ho hg _ hat; have R1 := Rn.out.app ho hg hat; clear ho hg hat Rn cb sz)
  rw [rounds_succ]
  have S2 := cstep_any x2 a2 x2_ok tt_x2 hi_x2 hl_x2 ta_x2 _ R1.l.t
  rw [st_x2, is_x2] at S2
  have C2 := R1.l.b
  have HR := hide R1
  clear R1
  go_wp2_with fail
  refine S2.mono ?_
  rintro e z2 ⟨a3, rfl, T2, off2, hb1⟩
  have Rn := hide (HR.out.next T2 off2 hb1 38)
  have D2 := boxOf_keep C2 hb1
  have lk := boxOf_lt D2
  have ne1 : ¬ z2.heap.size = gu := by omega
  have ne2 : ¬ gu = z2.heap.size := by omega
  clear S2 C2 T2 off2 hb1 HR lk
  go_upto_region 18 with fail
  clear D2
  generalize (((z2.alloc (.cells zT.toArray 38)).setCells z2.heap.size 0 (tcs x3 a3)).setCells gu 0 (tcs x3 a3)) = y2 at *
  have cb := Rn.out.l.b
  have sz := Rn.out.sz
  clear ne1 ne2
  go_wp2_with (at_builtin; refine wpList_append_own_at _ rfl _ _ 24 rfl base 3 i0 _ 1 8 Try.underlying24 hi0 hz0 hz1 hz2 rfl (by omega) _ 1 _ rfl (Rn.out.own.alloc _) ⟨y2.heap.size, 0, none⟩ 1 1 [.int .i64 20] rfl rfl (World.news_of_block (cs := #[.int .i64 20]) (t := 3) (fr := (0, 0)) (heap_alloc_new y2 _)) (by simp [Value.oneCell']) (by unfold maxLen; omega) (by omega) (by simp; omega) ?_; intro l2v w3 ho hg _ hat; have R2 := Rn.out.app ho hg hat; clear ho hg hat Rn cb sz)
  rw [rounds_succ]
  have S3 := cstep_any x3 a3 x3_ok tt_x3 hi_x3 hl_x3 ta_x3 _ R2.l.t
  rw [st_x3, is_x3] at S3
  have C3 := R2.l.b
  have HR := hide R2
  clear R2
  go_wp2_with fail
  refine S3.mono ?_
  rintro e z3 ⟨a4, rfl, T3, off3, hb1⟩
  have Rn := hide (HR.out.next T3 off3 hb1 38)
  have D3 := boxOf_keep C3 hb1
  have lk := boxOf_lt D3
  have ne1 : ¬ z3.heap.size = gu := by omega
  have ne2 : ¬ gu = z3.heap.size := by omega
  clear S3 C3 T3 off3 hb1 HR lk
  go_upto_region 18 with fail
  clear D3
  generalize (((z3.alloc (.cells zT.toArray 38)).setCells z3.heap.size 0 (tcs x4 a4)).setCells gu 0 (tcs x4 a4)) = y3 at *
  have cb := Rn.out.l.b
  have sz := Rn.out.sz
  clear ne1 ne2
  go_wp2_with (at_builtin; refine wpList_append_own_at _ rfl _ _ 24 rfl base 3 i0 _ 1 8 Try.underlying24 hi0 hz0 hz1 hz2 rfl (by omega) _ 2 _ rfl (Rn.out.own.alloc _) ⟨y3.heap.size, 0, none⟩ 1 1 [.int .i64 21] rfl rfl (World.news_of_block (cs := #[.int .i64 21]) (t := 3) (fr := (0, 0)) (heap_alloc_new y3 _)) (by simp [Value.oneCell']) (by unfold maxLen; omega) (by omega) (by simp; omega) ?_; intro l3v w4 ho hg _ hat; have R3 := Rn.out.app ho hg hat; clear ho hg hat Rn cb sz)
  rw [rounds_succ]
  have S4 := cstep_any x4 a4 x4_ok tt_x4 hi_x4 hl_x4 ta_x4 _ R3.l.t
  rw [st_x4, is_x4] at S4
  have C4 := R3.l.b
  have HR := hide R3
  clear R3
  go_wp2_with fail
  refine S4.mono ?_
  rintro e z4 ⟨a5, rfl, T4, off4, hb1⟩
  have Rn := hide (HR.out.next T4 off4 hb1 38)
  have D4 := boxOf_keep C4 hb1
  have lk := boxOf_lt D4
  have ne1 : ¬ z4.heap.size = gu := by omega
  have ne2 : ¬ gu = z4.heap.size := by omega
  clear S4 C4 T4 off4 hb1 HR lk
  go_upto_region 18 with fail
  clear D4
  generalize (((z4.alloc (.cells zT.toArray 38)).setCells z4.heap.size 0 (tcs x5 a5)).setCells gu 0 (tcs x5 a5)) = y4 at *
  have cb := Rn.out.l.b
  have sz := Rn.out.sz
  clear ne1 ne2
  go_wp2_with (at_builtin; refine wpList_append_own_at _ rfl _ _ 24 rfl base 3 i0 _ 1 8 Try.underlying24 hi0 hz0 hz1 hz2 rfl (by omega) _ 3 _ rfl (Rn.out.own.alloc _) ⟨y4.heap.size, 0, none⟩ 1 1 [.int .i64 22] rfl rfl (World.news_of_block (cs := #[.int .i64 22]) (t := 3) (fr := (0, 0)) (heap_alloc_new y4 _)) (by simp [Value.oneCell']) (by unfold maxLen; omega) (by omega) (by simp; omega) ?_; intro l4v w5 ho hg _ hat; have R4 := Rn.out.app ho hg hat; clear ho hg hat Rn cb sz)
  rw [rounds_succ]
  have S5 := cstep_any x5 a5 x5_ok tt_x5 hi_x5 hl_x5 ta_x5 _ R4.l.t
  rw [st_x5, is_x5] at S5
  have C5 := R4.l.b
  have HR := hide R4
  clear R4
  go_wp2_with fail
  refine S5.mono ?_
  rintro e z5 ⟨a6, rfl, T5, off5, hb1⟩
  have Rn := hide (HR.out.next T5 off5 hb1 38)
  have D5 := boxOf_keep C5 hb1
  have lk := boxOf_lt D5
  have ne1 : ¬ z5.heap.size = gu := by omega
  have ne2 : ¬ gu = z5.heap.size := by omega
  clear S5 C5 T5 off5 hb1 HR lk
  go_upto_region 18 with fail
  clear D5
  generalize (((z5.alloc (.cells zT.toArray 38)).setCells z5.heap.size 0 (tcs x6 a6)).setCells gu 0 (tcs x6 a6)) = y5 at *
  have cb := Rn.out.l.b
  have sz := Rn.out.sz
  clear ne1 ne2
  go_wp2_with (at_builtin; refine wpList_append_own_at _ rfl _ _ 24 rfl base 3 i0 _ 1 8 Try.underlying24 hi0 hz0 hz1 hz2 rfl (by omega) _ 4 _ rfl (Rn.out.own.alloc _) ⟨y5.heap.size, 0, none⟩ 1 1 [.int .i64 25] rfl rfl (World.news_of_block (cs := #[.int .i64 25]) (t := 3) (fr := (0, 0)) (heap_alloc_new y5 _)) (by simp [Value.oneCell']) (by unfold maxLen; omega) (by omega) (by simp; omega) ?_; intro l5v w6 ho hg _ hat; have R5 := Rn.out.app ho hg hat; clear ho hg hat Rn cb sz)
  rw [rounds_succ]
  have T0 := hm0.out _ R5.l.lo
  have S0 := cstep_any x0 _ x0_ok tt_x0 hi_x0 hl_x0 ta_x0 _ T0
  rw [st_x0, is_x0] at S0
  have cC := R5.l.box hKC.out
  have cM := R5.l.box hKM.out
  have cU := R5.l.b
  have hR := hide R5
  obtain ⟨A5, c5, e5, _⟩ := own_form R5.own
  subst e5
  obtain ⟨gl, ol, rfl, _, h5⟩ := (Sees.of_own R5.own).2 (by decide)
  have p0 := h5 0 _ rfl
  have p1 := h5 1 _ rfl
  have p2 := h5 2 _ rfl
  have p3 := h5 3 _ rfl
  have p4 := h5 4 _ rfl
  rw [Nat.add_zero] at p0
  obtain ⟨gw, ow, ew, q1, q2, q4⟩ := cells_6 R5.l.t.m.words
  have hB6 : Below w.heap.size w w6 := by
    have := R5.l.lo
    exact below_next hY7w hY7w.size this
  clear T0 hm0 h5 hR R5
  go_wp2_with fail
  refine S0.mono ?_
  rintro e z6 ⟨b0, rfl, _, _, hb1⟩
  have nb := belowY z6 x0 b0 38
  have hbb := below_next hb1 hb1.size nb
  clear S0
  go_upto_region 20 with fail
  replace cU := boxOf_keep cU hbb
  replace p0 := cell_keep p0 hbb
  replace p1 := cell_keep p1 hbb
  replace p2 := cell_keep p2 hbb
  replace p3 := cell_keep p3 hbb
  replace p4 := cell_keep p4 hbb
  replace q1 := cell_keep q1 hbb
  replace q2 := cell_keep q2 hbb
  replace q4 := cell_keep q4 hbb
  replace hB6 := below_next hB6 hB6.size hbb
  clear hb1 nb hbb cC cM
  generalize ((z6.alloc (.cells zT.toArray 38)).setCells z6.heap.size 0 (tcs x0 b0)) = yf at *
  go_wp2
  go_ret
  exact ⟨ret_b (by simp), hB6⟩
end Go.Proofs.Ytjghdbkkjhnpfaa
