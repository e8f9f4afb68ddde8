/- The law's shown (layer 14). -/
import Derived.Test.YtlbekjnpaiiilaaGaF
import Derived.Test.YtlbekjnpaiiilaaBuO
import Derived.Test.YtlbekjnpaiiilaaTnZ
import Derived.Test.YtlbekjnpaiiilaaM5
import Derived.Test.YtlbekjnpaiiilaaM6
import Derived.Lib.QuietBelow
import Derived.Deep.QuietTactic
import Derived.BigQuiet
import Derived.Deep.RegionHeld3
import Derived.Deep.CutRange
import Derived.Deep.Cut
namespace Go.Proofs.Ytlbekjnpaiiilaa
open Go.RowKit Go.Sort
set_option linter.unusedVariables false
set_option linter.unusedSimpArgs false

def xC : Cf := (⟨2, 1, 2, 1, 0, 1, 0, 0, false, 0, 0, 0⟩ : Cf)
def xW0 : List Int := [0, 0, 0, 0, 0, 0]
def xB0 : List (List E3) := [[], []]
def xW : List Int := [0, 19, 0, 0, 0, 0]
def xB : List (List E3) := [[], [(1, 1, 7)]]
def xD : Dt := { (⟨0, 0, 0, 0, [], [], [], 0, 0, 0, 0, 0, 0, 0, 0, 0, 0⟩ : Dt) with ph := 7, hl := [1], bl := [(0, 1, 2)] }
def x1 : Tn := ⟨xC, 0, 0, xW, xB, xD, [], 0, [], false⟩
def x2 : Tn := ⟨xC, 0, 0, xW, xB, { xD with ph := 9, who := 1 }, [], 0, [], false⟩
def x3 : Tn := ⟨xC, 0, 0, xW, xB, { xD with ph := 10, who := 1, kl := [(1, 1)], bl := [(0, 1, 2), (1, 1, 7)] }, [], 0, [], false⟩
def x4 : Tn := ⟨xC, 0, 0, xW0, xB, { xD with ph := 2, pl := 1, who := 1, kl := [(1, 1)], bl := [(0, 1, 2), (1, 1, 7)] }, [], 0, [], false⟩
theorem st_x1 : stepG x1 = x2 := by kernel_rfl
theorem st_x2 : stepG x2 = x3 := by kernel_rfl
theorem st_x3 : stepG x3 = x4 := by kernel_rfl
theorem is_x1 : isG x1 = true := by decide
theorem is_x2 : isG x2 = true := by decide
theorem is_x3 : isG x3 = true := by decide
theorem xC_ok : CfK xC := (ck_ok 2 1 2 1 0 1 0 0 false 0 0 0).1 (by decide)
theorem i64_s (x : Int) (h : -100 ≤ x ∧ x ≤ 100) : I64 x := by unfold I64; omega
theorem tt_x1 : 0 ≤ x1.tt ∧ x1.tt ≤ 15 := by decide
theorem tt_x2 : 0 ≤ x2.tt ∧ x2.tt ≤ 15 := by decide
theorem tt_x3 : 0 ≤ x3.tt ∧ x3.tt ≤ 15 := by decide
theorem x1_ok : TnOk x1 := by
  refine ⟨by decide, by decide, by decide, by decide, by decide, ⟨?_, i64_s _ (by decide), i64_s _ (by decide), ?_, ?_, ?_⟩, i64_s _ (by decide), i64_s _ (by decide), i64_s _ (by decide), ?_, xC_ok⟩
  · intro x hx; have h : ∀ x ∈ x1.d.nums, -100 ≤ x ∧ x ≤ 100 := by decide
    exact i64_s x (h x hx)
  · intro e he; have h : ∀ e ∈ x1.d.bl, -100 ≤ e.2.2 ∧ e.2.2 ≤ 100 := by decide
    exact i64_s _ (h e he)
  · intro x hx; have h : ∀ x ∈ x1.d.hl, -100 ≤ x ∧ x ≤ 100 := by decide
    exact i64_s x (h x hx)
  · intro e he; have h : ∀ e ∈ x1.d.kl, (-100 ≤ e.1 ∧ e.1 ≤ 100) ∧ -100 ≤ e.2 ∧ e.2 ≤ 100 := by decide
    exact ⟨i64_s _ (h e he).1, i64_s _ (h e he).2⟩
  · intro x hx; have h : ∀ x ∈ x1.ws, -100 ≤ x ∧ x ≤ 100 := by decide
    exact i64_s x (h x hx)
theorem x2_ok : TnOk x2 := by
  refine ⟨by decide, by decide, by decide, by decide, by decide, ⟨?_, i64_s _ (by decide), i64_s _ (by decide), ?_, ?_, ?_⟩, i64_s _ (by decide), i64_s _ (by decide), i64_s _ (by decide), ?_, xC_ok⟩
  · intro x hx; have h : ∀ x ∈ x2.d.nums, -100 ≤ x ∧ x ≤ 100 := by decide
    exact i64_s x (h x hx)
  · intro e he; have h : ∀ e ∈ x2.d.bl, -100 ≤ e.2.2 ∧ e.2.2 ≤ 100 := by decide
    exact i64_s _ (h e he)
  · intro x hx; have h : ∀ x ∈ x2.d.hl, -100 ≤ x ∧ x ≤ 100 := by decide
    exact i64_s x (h x hx)
  · intro e he; have h : ∀ e ∈ x2.d.kl, (-100 ≤ e.1 ∧ e.1 ≤ 100) ∧ -100 ≤ e.2 ∧ e.2 ≤ 100 := by decide
    exact ⟨i64_s _ (h e he).1, i64_s _ (h e he).2⟩
  · intro x hx; have h : ∀ x ∈ x2.ws, -100 ≤ x ∧ x ≤ 100 := by decide
    exact i64_s x (h x hx)
theorem x3_ok : TnOk x3 := by
  refine ⟨by decide, by decide, by decide, by decide, by decide, ⟨?_, i64_s _ (by decide), i64_s _ (by decide), ?_, ?_, ?_⟩, i64_s _ (by decide), i64_s _ (by decide), i64_s _ (by decide), ?_, xC_ok⟩
  · intro x hx; have h : ∀ x ∈ x3.d.nums, -100 ≤ x ∧ x ≤ 100 := by decide
    exact i64_s x (h x hx)
  · intro e he; have h : ∀ e ∈ x3.d.bl, -100 ≤ e.2.2 ∧ e.2.2 ≤ 100 := by decide
    exact i64_s _ (h e he)
  · intro x hx; have h : ∀ x ∈ x3.d.hl, -100 ≤ x ∧ x ≤ 100 := by decide
    exact i64_s x (h x hx)
  · intro e he; have h : ∀ e ∈ x3.d.kl, (-100 ≤ e.1 ∧ e.1 ≤ 100) ∧ -100 ≤ e.2 ∧ e.2 ≤ 100 := by decide
    exact ⟨i64_s _ (h e he).1, i64_s _ (h e he).2⟩
  · intro x hx; have h : ∀ x ∈ x3.ws, -100 ≤ x ∧ x ≤ 100 := by decide
    exact i64_s x (h x hx)
theorem bdW_x : bdW (List.replicate (cntV (sizeV 1 (bkV 1 0 1) 2)) 0) 1 (bkV 1 0 1) 0 (1 : Int).toNat = xW0 := by decide
theorem rep_x : (List.replicate (cntV 2) [] : List (List E3)) = xB0 := by decide
theorem xbuild (w : World) : Calls Try.prog 21 #[.agg (ccs xC).toArray] w (MFOPost xW0 xB0 w) := by
  have := buildO_any 2 1 2 1 0 1 0 0 false 0 0 0 xC_ok w
  rw [bdW_x, rep_x] at this
  exact this
theorem Sees.some_at {w : World} {B sz n : Nat} {A : Option Addr} {xs : List Value} (h : Sees w B sz A n xs) (hn : 0 < n) : ∃ b off, A = some ⟨b, off, none⟩ ∧ b < B ∧ ∀ j v, xs[j]? = some v → w.cell? ⟨b, off + j, none⟩ = some v := h.2 hn
theorem two_boxes {bs : List Bt} (h : boxes bs = xB0) : ∃ q0 q1, bs = [q0, q1] ∧ q0.l = [] ∧ q1.l = [] := by
  rcases bs with _ | ⟨q0, _ | ⟨q1, _ | ⟨q2, r⟩⟩⟩ <;> simp [boxes, xB0] at h
  exact ⟨q0, q1, rfl, h.1, h.2⟩
theorem w0_0 : (xW0.map (Value.int .i64))[0]? = some (.int .i64 0) := by rfl
theorem w0_1 : (xW0.map (Value.int .i64))[1]? = some (.int .i64 0) := by rfl
theorem w0_s : xW0.set 1 19 = xW := by decide
theorem xW0_len : xW0.length = 6 := id rfl
theorem xW_len : xW.length = 6 := id rfl
def aX (ga c gb d : Nat) (bs : List Bt) (eb hb : Nat) : TA := ⟨some ⟨ga, 0, none⟩, c, some ⟨gb, 0, none⟩, d, bs, ⟨some ⟨eb, 0, none⟩, 1, none, 0, some ⟨hb, 0, none⟩, 1⟩, none, 0, none, 0⟩
def bdH (parts : Array (Nat × Value)) : Sem Value := Instr.build 33 parts
theorem bdH_is (parts : Array (Nat × Value)) : Instr.build 33 parts = bdH parts := rfl
theorem run_bdH (eb hb : Nat) (w : World) : (bdH #[(0, .int .i64 7), (5, .slice (some ⟨hb, 0, none⟩) 1 1), (3, .slice (some ⟨eb, 0, none⟩) 1 1)]).run Try.prog w = .ok (.agg (thc xD ⟨some ⟨eb, 0, none⟩, 1, none, 0, some ⟨hb, 0, none⟩, 1⟩).toArray) w := by kernel_rfl
def bdU (parts : Array (Nat × Value)) : Sem Value := Instr.build 38 parts
theorem bdU_is (parts : Array (Nat × Value)) : Instr.build 38 parts = bdU parts := rfl
theorem run_bdU (ga c gb d gr eb hb : Nat) (q0 : Bt) (w : World) : (bdU #[(0, .agg (ccs xC).toArray), (1, .int .i64 0), (3, .agg #[.slice (some ⟨ga, 0, none⟩) 6 c, .slice (some ⟨gb, 0, none⟩) 2 d]), (4, .agg (thc xD ⟨some ⟨eb, 0, none⟩, 1, none, 0, some ⟨hb, 0, none⟩, 1⟩).toArray)]).run Try.prog w = .ok (.agg (tcs x1 (aX ga c gb d [q0, ⟨some ⟨gr, 0, none⟩, 1, [(1, 1, 7)]⟩] eb hb)).toArray) w := by kernel_rfl
theorem two_is {q0 : Bt} (h : q0.l = []) {gr : Nat} : boxes [q0, ⟨some ⟨gr, 0, none⟩, 1, [(1, 1, 7)]⟩] = xB := by simp [boxes, h, xB]
theorem sees_boxG {W : World} {b sz n : Nat} {cs : List Value} (h : boxOf W b = some cs) (hl : cs.length = n * sz) : Sees W W.heap.size sz (some ⟨b, 0, none⟩) n cs := ⟨hl, fun _ => ⟨b, 0, rfl, boxOf_lt h, fun j v hv => by rw [Nat.zero_add, boxOf_at W b j h]; exact hv⟩⟩
theorem tn_x1 {W : World} {ga c gb d : Nat} {bs : List Bt} {eb hb : Nat} (mo : MemOk W (some ⟨ga, 0, none⟩) xW (some ⟨gb, 0, none⟩) bs) (hbx : boxes bs = xB) (kb : boxOf W eb = some [.int .i64 0, .int .i64 1, .int .i64 2]) (kh : boxOf W hb = some [.int .i64 1]) : TnAt W x1 (aX ga c gb d bs eb hb) := ⟨mo, hbx, ⟨sees_boxG kb rfl, Sees.empty, sees_boxG kh rfl⟩, Sees.empty, Sees.empty⟩
theorem kid_3 {W : World} {A : Option Addr} (s : Sees W W.heap.size 2 A x3.d.kl.length (kcells x3.d.kl)) : ∃ b o, A = some ⟨b, o, none⟩ ∧ W.cell? ⟨b, o, none⟩ = some (.int .i64 1) ∧ W.cell? ⟨b, o + 1, none⟩ = some (.int .i64 1) := by
  obtain ⟨b, o, e, _, h⟩ := s.2 (by decide); exact ⟨b, o, e, h 0 _ rfl, h 1 _ rfl⟩
theorem cell_4 {W : World} {A : Option Addr} (s : Sees W W.heap.size 1 A x4.ws.length (x4.ws.map (Value.int .i64))) : ∃ b o, A = some ⟨b, o, none⟩ ∧ W.cell? ⟨b, o + 1, none⟩ = some (.int .i64 0) := by
  obtain ⟨b, o, e, _, h⟩ := s.2 (by decide); exact ⟨b, o, e, h 1 _ rfl⟩
theorem x1_bl : x1.d.bl.length = 1 := id rfl
theorem x2_ph : x2.d.ph = 9 := id rfl
theorem x2_who : x2.d.who = 1 := id rfl
theorem x3_ph : x3.d.ph = 10 := id rfl
theorem x3_bl : x3.d.bl.length = 2 := id rfl
theorem x3_kl : x3.d.kl.length = 1 := id rfl
theorem x4_ph : x4.d.ph = 2 := id rfl
theorem x4_len : x4.ws.length = 6 := id rfl
theorem eql_kid (w : World) : (binOp .eql 72 (.agg #[.int .i64 1, .int .i64 1]) (.agg #[.int .i64 1, .int .i64 1])).run Try.prog w = .ok (.bool true) w := by simp [go_sem]
theorem dep_1 (w : World) : Calls Try.prog 13 #[.int .i64 1] w (IntPost 19 w) := deposited_any 1 (by decide) w
def bdC (parts : Array (Nat × Value)) : Sem Value := Instr.build 23 parts
theorem bdC_is (parts : Array (Nat × Value)) : Instr.build 23 parts = bdC parts := rfl
theorem run_bdC (w : World) : (bdC #[(0, .int .i64 2), (1, .int .i64 1), (2, .int .i64 2), (3, .int .i64 1), (5, .int .i64 1)]).run Try.prog w = .ok (.agg (ccs xC).toArray) w := by kernel_rfl
attribute [local irreducible] tcs thc ccs zT
attribute [local go_sem ↓] alTn_is alRn_is
attribute [local go_sem] run_alTnf run_alTnt run_alRnf run_alRnt zT_length
attribute [local go_sem ↓] lbTn_is lbRn_is lbTh_is lbRh_is lbCf_is lbRc_is sbTn_is sbRn_is sbTh_is sbRh_is sbCf_is sbRc_is
attribute [local go_sem] run_lbTn run_lbRn run_lbTh run_lbRh run_lbCf run_lbRc run_sbTn run_sbRn run_sbTh run_sbRh run_sbCf run_sbRc
attribute [local go_sem 2000] boxOf_old'
attribute [local go_sem] boxOf_at' boxOf_free' boxOf_alloc objBox_cells objBox_cellsA boxOf_drew boxOf_setI boxOf_setsI size_sets tcs_length thc_length ccs_length tcs_one thc_one ccs_one sub_tn sub_th sub_cf sub_thAll sub_cfAll put_turn put_thread
attribute [local go_sem] tc0 tc1 tc2 tc3 tc4 tc5 tc6 tc7 tc8 tc9 tc10 tc11 tc12 tc13 tc14 tc15 tc16 tc17 tc18 tc19 tc20 tc21 tc22 tc23 tc24 tc25 tc26 tc27 tc28 tc29 tc30 tc31 tc32 tc33 tc34 tc35 tc36 hc0 hc1 hc2 hc3 hc4 hc5 hc6 hc7 hc8 hc9 hc10 hc11 hc12 hc13 hc14 hc15 hc16 kc0 kc1 kc2 kc3 kc4 kc5 kc6 kc7 kc8 kc9 kc10 kc11 tg0 tg1 tg2 tg3 tg4 tg5 tg6 tg7 tg8 tg9 tg10 tg11 tg12 tg13 tg14 tg15 tg16 tg17 tg18 tg19 tg20 tg21 tg22 tg23 tg24 tg25 tg26 tg27 tg28 tg29 tg30 tg31 tg32 tg33 tg34 tg35 tg36 hg0 hg1 hg2 hg3 hg4 hg5 hg6 hg7 hg8 hg9 hg10 hg11 hg12 hg13 hg14 hg15 hg16 kg0 kg1 kg2 kg3 kg4 kg5 kg6 kg7 kg8 kg9 kg10 kg11
attribute [local go_sem] ts12 ts13 ts14 ts16 ts17 ts18 ts19 ts20 ts21 ts22 ts23 ts24 ts25 ts26 ts27 ts28 ts29 ts30 ts31 ts32 ts33 ts34 ts35 ts36 ts15 hs0 hs1 hs2 hs3 hs7 hs8 hs9 hs10 hs11 hs12 hs13 hs14 hs15 hs16

attribute [local irreducible] zC zH
attribute [local go_sem ↓] alCf_is alRc_is alTh_is
attribute [local go_sem] run_alCf run_alRc run_alTh zC_length zH_length put_conf put_thrd
attribute [local go_sem ↓] bdC_is bdH_is bdU_is
attribute [local go_sem] run_bdC run_bdH xW0_len xW_len x1_bl x2_ph x2_who x3_ph x3_bl x3_kl x4_ph x4_len eql_kid
attribute [local irreducible] xC xW xW0 xB xB0 xD x1 x2 x3 x4 aX
set_option maxRecDepth 100000 in
set_option maxHeartbeats 4000000 in
theorem shown_any (w : World) : Calls Try.prog 9 #[] w (BoolPost true w) := by
  have B1 : boxOf ((w.alloc (.cells zC.toArray 23)).setCells w.heap.size 0 (ccs xC)) w.heap.size = some (ccs xC) := by simp [go_sem]
  have hs : w.heap.size < ((w.alloc (.cells zC.toArray 23)).setCells w.heap.size 0 (ccs xC)).heap.size := by simp [size_sets]
  have hB : Below w.heap.size w ((w.alloc (.cells zC.toArray 23)).setCells w.heap.size 0 (ccs xC)) := below_sets _ (by omega) _ _ _ _ (belowN w _)
  go_enter Try.func9, Try.ntmps9
  go_wp2_with fail
  generalize ((w.alloc (.cells zC.toArray 23)).setCells w.heap.size 0 (ccs xC)) = wz at *
  refine (xbuild _).mono ?_
  rintro e y1 ⟨A, c, B, d, bs, rfl, hbx, mo, fA, fB, hb1⟩
  replace hB := below_next hB hB.size hb1
  replace B1 := boxOf_keep B1 hb1
  have hs1 := hb1.size
  clear hb1
  obtain ⟨ga, oa, rfl, hla, ca⟩ := mo.words.some_at (by rw [xW0_len]; decide)
  obtain ⟨_, csA, e1, KA⟩ := mo.rA _ rfl
  cases e1
  obtain ⟨q0, q1, rfl, l0, l1⟩ := two_boxes hbx
  obtain ⟨gb, ob, rfl, hlb, cb⟩ := mo.bxs.some_at (by simp)
  obtain ⟨_, csB, e1, KB⟩ := mo.rB _ rfl
  cases e1
  have a1 : csA[1]? = some (.int .i64 0) := by rw [← boxOf_at y1 ga 1 KA]; simpa using ca 1 _ w0_1
  have b1 : csB[1]? = some q1.val := by rw [← boxOf_at y1 gb 1 KB]; simpa using cb 1 _ rfl
  have hne : ga ≠ gb := fun e => by
    have h0 : y1.cell? ⟨ga, 0, none⟩ = some (.int .i64 0) := by simpa using ca 0 _ w0_0
    have h1 : y1.cell? ⟨gb, 0, none⟩ = some q0.val := by simpa using cb 0 _ rfl
    rw [e, h1] at h0; cases h0
  have HM := hide mo
  have n3l : w.heap.size < ga := by have := fA _ rfl; simp at this; omega
  have n4l : w.heap.size < gb := by have := fB _ rfl; simp at this; omega
  have n3 : ga ≠ w.heap.size := by omega
  have n4 : gb ≠ w.heap.size := by omega
  have n5 : y1.heap.size ≠ w.heap.size := by omega
  clear fA fB hs hs1
  obtain ⟨qA, qc, ql⟩ := q1
  simp only [Bt.val] at b1 l1
  subst l1
  clear mo ca cb hbx
  go_wp2_with fail
  have KM : boxOf (y1.alloc (.cells #[.slice (some ⟨ga, 0, none⟩) 6 c, .slice (some ⟨gb, 0, none⟩) 2 d] 27)) y1.heap.size = some [.slice (some ⟨ga, 0, none⟩) 6 c, .slice (some ⟨gb, 0, none⟩) 2 d] := boxOf_newA _ _ _ _ rfl
  have nb := belowN y1 (.cells #[.slice (some ⟨ga, 0, none⟩) 6 c, .slice (some ⟨gb, 0, none⟩) 2 d] 27)
  have lm : y1.heap.size < (y1.alloc (.cells #[.slice (some ⟨ga, 0, none⟩) 6 c, .slice (some ⟨gb, 0, none⟩) 2 d] 27)).heap.size := by simp
  replace KA := boxOf_keep KA nb
  replace KB := boxOf_keep KB nb
  replace B1 := boxOf_keep B1 nb
  replace hB := below_next hB hB.size nb
  replace HM := hide (HM.out.toMemOk.later nb)
  clear nb
  generalize (y1.alloc (.cells #[.slice (some ⟨ga, 0, none⟩) 6 c, .slice (some ⟨gb, 0, none⟩) 2 d] 27)) = y2 at *
  generalize hgm : y1.heap.size = gm at *
  have n1 : ga ≠ gm := by omega
  have n2 : gb ≠ gm := by omega
  clear hgm
  have Z : boxOf y2.drew gm = some [.slice (some ⟨ga, 0, none⟩) 6 c, .slice (some ⟨gb, 0, none⟩) 2 d] ∧ boxOf y2.drew ga = some csA ∧ boxOf y2.drew gb = some csB ∧ Below y2.heap.size y2 y2.drew := ⟨by rw [boxOf_drew]; exact KM, by rw [boxOf_drew]; exact KA, by rw [boxOf_drew]; exact KB, (Below.refl _ _).drew⟩
  go_region_held3 (fun w' => boxOf w' gm = some [.slice (some ⟨ga, 0, none⟩) 6 c, .slice (some ⟨gb, 0, none⟩) 2 d])
    (first | (with_reducible exact Z.1) | (with_reducible exact Z1.1) | (exact (boxOf_far _ _ _ _ n1).trans Z1.1))
    (first
      | (go_at_call 13; refine (dep_1 _).mono ?_; rintro e v1 ⟨rfl, hb1⟩; have Z1 : boxOf v1 gm = some [.slice (some ⟨ga, 0, none⟩) 6 c, .slice (some ⟨gb, 0, none⟩) 2 d] ∧ boxOf v1 ga = some csA ∧ boxOf v1 gb = some csB ∧ Below y2.heap.size y2 v1 := keepT4 Z hb1; have kA := Z1.2.1))
  all_goals
    have hY : Below w.heap.size w (v1.setCell ⟨ga, 1, none⟩ (.int .i64 19)) := (below_next hB hB.size Z1.2.2.2).setCell (by show w.heap.size ≤ ga; omega) _
    have mY : MemOk (v1.setCell ⟨ga, 1, none⟩ (.int .i64 19)) (some ⟨ga, 0, none⟩) xW (some ⟨gb, 0, none⟩) [q0, ⟨qA, qc, []⟩] := by
      have m := HM.out.later Z1.2.2.2
      have s1 := m.words.set (.int .i64 19) (show 1 < xW0.length by rw [xW0_len]; decide)
      refine ⟨⟨?_, ((m.bxs.far ga 1 (.int .i64 19) (fun p hp => by cases hp; exact Ne.symm hne))).up (by simp), fun q hq => ?_⟩, by rw [xW_len]; decide, by simp, m.short⟩
      · rw [← w0_s, List.map_set, List.length_set]; exact s1.up (by simp)
      · have : q.l = [] := by
          simp only [List.mem_cons, List.not_mem_nil, or_false] at hq
          rcases hq with rfl | rfl
          · exact l0
          · rfl
        show Sees _ _ 3 q.A q.l.length (ecells q.l)
        rw [this]; exact Sees.empty
    have kB : boxOf (v1.setCell ⟨ga, 1, none⟩ (.int .i64 19)) gb = some csB := (boxOf_far _ _ _ _ hne).trans Z1.2.2.1
    have kM : boxOf (v1.setCell ⟨ga, 1, none⟩ (.int .i64 19)) gm = some [.slice (some ⟨ga, 0, none⟩) 6 c, .slice (some ⟨gb, 0, none⟩) 2 d] := (boxOf_far _ _ _ _ n1).trans Z1.1
    have kC : boxOf (v1.setCell ⟨ga, 1, none⟩ (.int .i64 19)) w.heap.size = some (ccs xC) := (boxOf_far _ _ _ _ n3).trans (boxOf_keep B1 Z1.2.2.2)
    clear Z Z1 kA KA KB KM HM B1 hB lm a1
    generalize (v1.setCell ⟨ga, 1, none⟩ (.int .i64 19)) = y5 at *
    go_upto_region 7 with fail
    have hb7 : Below w.heap.size w ((y5.alloc (.cells #[.int .i64 1, .int .i64 1, .int .i64 7] 70)).setCell ⟨gb, 1, none⟩ (.slice (some ⟨y5.heap.size, 0, none⟩) 1 1)) := (hY.alloc hY.size _).setCell (by show w.heap.size ≤ gb; omega) _
    have r7 : boxOf ((y5.alloc (.cells #[.int .i64 1, .int .i64 1, .int .i64 7] 70)).setCell ⟨gb, 1, none⟩ (.slice (some ⟨y5.heap.size, 0, none⟩) 1 1)) y5.heap.size = some [.int .i64 1, .int .i64 1, .int .i64 7] := by
      rw [boxOf_far _ _ _ _ (by have := boxOf_lt kB; show gb ≠ _; omega)]; exact boxOf_newA _ _ _ _ rfl
    have m7 : MemOk ((y5.alloc (.cells #[.int .i64 1, .int .i64 1, .int .i64 7] 70)).setCell ⟨gb, 1, none⟩ (.slice (some ⟨y5.heap.size, 0, none⟩) 1 1)) (some ⟨ga, 0, none⟩) xW (some ⟨gb, 0, none⟩) [q0, ⟨some ⟨y5.heap.size, 0, none⟩, 1, [(1, 1, 7)]⟩] := by
      have m := mY.later (belowN y5 (.cells #[.int .i64 1, .int .i64 1, .int .i64 7] 70))
      have s1 := m.bxs.set (.slice (some ⟨y5.heap.size, 0, none⟩) 1 1) (show 1 < 2 by decide)
      refine ⟨⟨(m.words.far gb 1 _ (fun p hp => by cases hp; exact hne)).up (by simp), ?_, fun q hq => ?_⟩, m.few, by simp, fun q hq => ?_⟩
      · exact s1.up (by simp)
      · simp only [List.mem_cons, List.not_mem_nil, or_false] at hq
        rcases hq with rfl | rfl
        · show Sees _ _ 3 q.A q.l.length (ecells q.l)
          rw [l0]; exact Sees.empty
        · exact ⟨rfl, fun _ => ⟨y5.heap.size, 0, rfl, boxOf_lt r7, fun j v hv => by rw [Nat.zero_add, boxOf_at _ _ j r7]; exact hv⟩⟩
      · simp only [List.mem_cons, List.not_mem_nil, or_false] at hq
        rcases hq with rfl | rfl
        · rw [l0]; simp
        · simp
    have kM7 := (boxOf_far ((y5.alloc (.cells #[.int .i64 1, .int .i64 1, .int .i64 7] 70))) ⟨gb, 1, none⟩ (.slice (some ⟨y5.heap.size, 0, none⟩) 1 1) gm n2).trans (boxOf_keep kM (belowN _ _))
    have kC7 := (boxOf_far ((y5.alloc (.cells #[.int .i64 1, .int .i64 1, .int .i64 7] 70))) ⟨gb, 1, none⟩ (.slice (some ⟨y5.heap.size, 0, none⟩) 1 1) w.heap.size n4).trans (boxOf_keep kC (belowN _ _))
    clear mY kM kC hY kB
    generalize ((y5.alloc (.cells #[.int .i64 1, .int .i64 1, .int .i64 7] 70)).setCell ⟨gb, 1, none⟩ (.slice (some ⟨y5.heap.size, 0, none⟩) 1 1)) = y7 at *
    generalize y5.heap.size = gr at *
    have BU := fun eb hb w => run_bdU ga c gb d gr eb hb q0 w
    have hbx : boxes [q0, ⟨some ⟨gr, 0, none⟩, 1, [(1, 1, 7)]⟩] = xB := two_is l0
    have nb1 : Below y7.heap.size y7 (((y7.alloc (.cells #[.int .i64 1] 3)).alloc (.cells #[.int .i64 0, .int .i64 1, .int .i64 2] 70)).alloc (.cells zT.toArray 38)) := (((belowN y7 _).alloc (by simp) _).alloc (by simp; omega) _)
    have nb2 : Below y7.heap.size y7 ((((y7.alloc (.cells #[.int .i64 1] 3)).alloc (.cells #[.int .i64 0, .int .i64 1, .int .i64 2] 70)).alloc (.cells zT.toArray 38)).setCells (y7.heap.size + 1 + 1) 0 (tcs x1 (aX ga c gb d [q0, ⟨some ⟨gr, 0, none⟩, 1, [(1, 1, 7)]⟩] (y7.heap.size + 1) y7.heap.size))) := below_sets _ (by omega) _ _ _ _ nb1
    have kh : boxOf ((((y7.alloc (.cells #[.int .i64 1] 3)).alloc (.cells #[.int .i64 0, .int .i64 1, .int .i64 2] 70)).alloc (.cells zT.toArray 38)).setCells (y7.heap.size + 1 + 1) 0 (tcs x1 (aX ga c gb d [q0, ⟨some ⟨gr, 0, none⟩, 1, [(1, 1, 7)]⟩] (y7.heap.size + 1) y7.heap.size))) y7.heap.size = some [.int .i64 1] := by
      rw [boxOf_sets_far _ _ (by omega)]; exact boxOf_keep (boxOf_keep (boxOf_newA y7 #[.int .i64 1] 3 _ rfl) (belowN _ _)) (belowN _ _)
    have ke : boxOf ((((y7.alloc (.cells #[.int .i64 1] 3)).alloc (.cells #[.int .i64 0, .int .i64 1, .int .i64 2] 70)).alloc (.cells zT.toArray 38)).setCells (y7.heap.size + 1 + 1) 0 (tcs x1 (aX ga c gb d [q0, ⟨some ⟨gr, 0, none⟩, 1, [(1, 1, 7)]⟩] (y7.heap.size + 1) y7.heap.size))) (y7.heap.size + 1) = some [.int .i64 0, .int .i64 1, .int .i64 2] := by
      rw [boxOf_sets_far _ _ (by omega)]; exact boxOf_keep (boxOf_newA _ #[.int .i64 0, .int .i64 1, .int .i64 2] 70 _ (by simp)) (belowN _ _)
    have KU : boxOf ((((y7.alloc (.cells #[.int .i64 1] 3)).alloc (.cells #[.int .i64 0, .int .i64 1, .int .i64 2] 70)).alloc (.cells zT.toArray 38)).setCells (y7.heap.size + 1 + 1) 0 (tcs x1 (aX ga c gb d [q0, ⟨some ⟨gr, 0, none⟩, 1, [(1, 1, 7)]⟩] (y7.heap.size + 1) y7.heap.size))) (y7.heap.size + 1 + 1) = some (tcs x1 (aX ga c gb d [q0, ⟨some ⟨gr, 0, none⟩, 1, [(1, 1, 7)]⟩] (y7.heap.size + 1) y7.heap.size)) := boxOf_whole _ _ _ (boxOf_new _ _ _ _ (by simp)) ((tcs_length _ _).trans zT_length.symm)
    have hbY := below_next hb7 hb7.size nb2
    have S1 := gstep_any x1 _ x1_ok tt_x1 _ (tn_x1 (c := c) (d := d) (m7.later nb2) hbx ke kh)
    rw [st_x1, is_x1] at S1
    have X2 : ((((y7.alloc (.cells #[.int .i64 1] 3)).alloc (.cells #[.int .i64 0, .int .i64 1, .int .i64 2] 70)).alloc (.cells zT.toArray 38)).setCells (y7.heap.size + 1 + 1) 0 (tcs x1 (aX ga c gb d [q0, ⟨some ⟨gr, 0, none⟩, 1, [(1, 1, 7)]⟩] (y7.heap.size + 1) y7.heap.size))).heap.size = y7.heap.size + 1 + 1 + 1 := by simp [size_sets]
    clear m7 hb7 nb1 nb2 hbx ke kh r7
    go_wp2_with fail
    clear kM7 kC7
    generalize ((((y7.alloc (.cells #[.int .i64 1] 3)).alloc (.cells #[.int .i64 0, .int .i64 1, .int .i64 2] 70)).alloc (.cells zT.toArray 38)).setCells (y7.heap.size + 1 + 1) 0 (tcs x1 (aX ga c gb d [q0, ⟨some ⟨gr, 0, none⟩, 1, [(1, 1, 7)]⟩] (y7.heap.size + 1) y7.heap.size))) = y8 at *
    generalize (aX ga c gb d [q0, ⟨some ⟨gr, 0, none⟩, 1, [(1, 1, 7)]⟩] (y7.heap.size + 1) y7.heap.size) = a1 at *
    clear BU X2
    generalize y7.heap.size + 1 + 1 = gu at *
    refine S1.mono ?_
    rintro e z1 ⟨a2, rfl, T2, _, hb1⟩
    replace KU := boxOf_keep KU hb1
    replace hbY := below_next hbY hbY.size hb1
    have nb := belowY z1 x2 a2 38
    have C2 := boxY z1 x2 a2 38
    replace KU := boxOf_keep KU nb
    replace hbY := below_next hbY hbY.size nb
    have S2 := gstep_any x2 a2 x2_ok tt_x2 _ (T2.later nb)
    rw [st_x2, is_x2] at S2
    clear S1 hb1 nb T2
    go_wp2_with fail
    generalize ((z1.alloc (.cells zT.toArray 38)).setCells z1.heap.size 0 (tcs x2 a2)) = y9 at *
    generalize z1.heap.size = g2 at *
    refine S2.mono ?_
    rintro e z2 ⟨a3, rfl, T3, _, hb1⟩
    replace KU := boxOf_keep KU hb1
    replace C2 := boxOf_keep C2 hb1
    replace hbY := below_next hbY hbY.size hb1
    have nb := belowY z2 x3 a3 38
    have C3 := boxY z2 x3 a3 38
    replace KU := boxOf_keep KU nb
    replace C2 := boxOf_keep C2 nb
    replace hbY := below_next hbY hbY.size nb
    have S3 := gstep_any x3 a3 x3_ok tt_x3 _ (T3.later nb)
    rw [st_x3, is_x3] at S3
    have k3 := hide (T3.later nb).th.k
    clear S2 hb1 nb T3
    go_wp2_with fail
    generalize ((z2.alloc (.cells zT.toArray 38)).setCells z2.heap.size 0 (tcs x3 a3)) = y10 at *
    generalize z2.heap.size = g3 at *
    refine S3.mono ?_
    rintro e z3 ⟨a4, rfl, T4, _, hb1⟩
    replace KU := boxOf_keep KU hb1
    replace C2 := boxOf_keep C2 hb1
    replace C3 := boxOf_keep C3 hb1
    replace k3 := hide (k3.out.later hb1)
    replace hbY := below_next hbY hbY.size hb1
    have nb := belowY z3 x4 a4 38
    have C4 := boxY z3 x4 a4 38
    replace KU := boxOf_keep KU nb
    replace C2 := boxOf_keep C2 nb
    replace C3 := boxOf_keep C3 nb
    replace hbY := below_next hbY hbY.size nb
    obtain ⟨bk, ok3, ek, f0, f1⟩ := kid_3 (k3.out.later nb)
    obtain ⟨bw, ow, ew, fw⟩ := cell_4 ((T4.later nb).m.words)
    clear S3 hb1 nb T4 k3
    go_wp2_with fail
    generalize ((z3.alloc (.cells zT.toArray 38)).setCells z3.heap.size 0 (tcs x4 a4)) = y11 at *
    generalize z3.heap.size = g4 at *
    go_ret
    exact ⟨ret_b (by simp), hbY⟩
end Go.Proofs.Ytlbekjnpaiiilaa
