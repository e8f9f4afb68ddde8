/- The law's shown. -/
import Derived.Test.YtnmffjlfdnebnaaShwA
import Derived.Test.YtnmffjlfdnebnaaFib
import Derived.Lib.QuietBelow
import Derived.Deep.QuietTactic
import Derived.BigQuiet
import Derived.Deep.RegionHeld3
import Derived.Deep.CutRange
namespace Go.Proofs.Ytnmffjlfdnebnaa
open Go.RowKit Go.Sort
set_option linter.unusedVariables false
set_option linter.unusedSimpArgs false

def bdC (parts : Array (Nat × Value)) : Sem Value := Instr.build 23 parts
theorem bdC_is (parts : Array (Nat × Value)) : Instr.build 23 parts = bdC parts := rfl
theorem run_bdC (w : World) : (bdC #[(0, .int .i64 3), (1, .int .i64 1), (2, .int .i64 1), (5, .int .i64 1)]).run Try.prog w = .ok (.agg (ccs xC).toArray) w := by kernel_rfl
def bdU (parts : Array (Nat × Value)) : Sem Value := Instr.build 38 parts
theorem bdU_is (parts : Array (Nat × Value)) : Instr.build 38 parts = bdU parts := rfl
theorem run_bdU (A : Option Addr) (c : Nat) (B : Option Addr) (d : Nat) (bs : List Bt) (w : World) : (bdU #[(0, .agg (ccs xC).toArray), (1, .int .i64 0), (3, .agg #[.slice A xW.length c, .slice B bs.length d])]).run Try.prog w = .ok (.agg (tcs x0 (aM A c B d bs)).toArray) w := by kernel_rfl
theorem run_bdV (A : Option Addr) (c : Nat) (B : Option Addr) (d : Nat) (bs : List Bt) (w : World) : (bdU #[(0, .agg (ccs xC).toArray), (3, .agg #[.slice A xW.length c, .slice B bs.length d]), (4, .agg (thc { xN with ph := 2 } ⟨none, 0, none, 0, none, 0⟩).toArray)]).run Try.prog w = .ok (.agg (tcs x4 (aM A c B d bs)).toArray) w := by kernel_rfl
def bdH (parts : Array (Nat × Value)) : Sem Value := Instr.build 33 parts
theorem bdH_is (parts : Array (Nat × Value)) : Instr.build 33 parts = bdH parts := rfl
theorem run_bdH (bA kA : Option Addr) (w : World) : (bdH #[(0, .int .i64 15), (3, .slice bA 2 2), (4, .slice kA 1 1), (13, .int .i64 5)]).run Try.prog w = .ok (.agg (thc xD ⟨bA, 2, kA, 1, none, 0⟩).toArray) w := by kernel_rfl
theorem run_bdG (w : World) : (bdH #[(0, .int .i64 2)]).run Try.prog w = .ok (.agg (thc { xN with ph := 2 } ⟨none, 0, none, 0, none, 0⟩).toArray) w := by kernel_rfl
def aP (A : Option Addr) (c : Nat) (B : Option Addr) (d : Nat) (bs : List Bt) (p : Ad) : TA := ⟨A, c, B, d, bs, p, none, 0, none, 0⟩
theorem put_x1 (A : Option Addr) (c : Nat) (B : Option Addr) (d : Nat) (bs : List Bt) (p : Ad) : put 16 (thc xD p) (tcs x0 (aM A c B d bs)) = tcs x1 (aP A c B d bs p) := put_thread x0 (aM A c B d bs) xD p
theorem aP_mA (A : Option Addr) (c : Nat) (B : Option Addr) (d : Nat) (bs : List Bt) (p : Ad) : (aP A c B d bs p).mA = A := id rfl
theorem aP_mc (A : Option Addr) (c : Nat) (B : Option Addr) (d : Nat) (bs : List Bt) (p : Ad) : (aP A c B d bs p).mc = c := id rfl
theorem aP_mB (A : Option Addr) (c : Nat) (B : Option Addr) (d : Nat) (bs : List Bt) (p : Ad) : (aP A c B d bs p).mB = B := id rfl
theorem aP_md (A : Option Addr) (c : Nat) (B : Option Addr) (d : Nat) (bs : List Bt) (p : Ad) : (aP A c B d bs p).md = d := id rfl
theorem aP_bs (A : Option Addr) (c : Nat) (B : Option Addr) (d : Nat) (bs : List Bt) (p : Ad) : (aP A c B d bs p).bs = bs := id rfl
theorem x1_ws : x1.ws = xW := id rfl
theorem x2_ph : x2.d.ph = 16 := id rfl
theorem x3_ph : x3.d.ph = 0 := id rfl
theorem x2_dn : x2.dn = false := id rfl
theorem x3_dn : x3.dn = true := id rfl
theorem x2_len : x2.ws.length = 7 := id rfl
theorem x3_len : x3.ws.length = 7 := id rfl
theorem xW_len : xW.length = 7 := id rfl
theorem st_x4 : stepV x4 = x4 := by kernel_rfl
theorem is_x1 : isB x1 = true := by decide
theorem is_x2 : isB x2 = true := by decide
theorem is_x4 : isB x4 = false := by decide
theorem lk_12 : Like x1 x2 := st_x1 ▸ like_step x1
theorem lk_23 : Like x2 x3 := st_x2 ▸ like_step x2
theorem sees_box {W : World} {b sz n : Nat} {cs : List Value} (h : boxOf W b = some cs) (hl : cs.length = n * sz) : Sees W W.heap.size sz (some ⟨b, 0, none⟩) n cs := ⟨hl, fun _ => ⟨b, 0, rfl, boxOf_lt h, fun j v hv => by rw [Nat.zero_add, boxOf_at W b j h]; exact hv⟩⟩
theorem tn_x1 {W : World} {A : Option Addr} {c : Nat} {B : Option Addr} {d : Nat} {bs : List Bt} {b1 b2 : Nat} (mo : MemOk W A xW B bs) (hbx : boxes bs = xB) (h1 : boxOf W b1 = some [.int .i64 0, .int .i64 1, .int .i64 2, .int .i64 2, .int .i64 1, .int .i64 3]) (h2 : boxOf W b2 = some [.int .i64 2, .int .i64 1]) : TnAt W x1 (aP A c B d bs ⟨some ⟨b1, 0, none⟩, 2, some ⟨b2, 0, none⟩, 1, none, 0⟩) :=
  ⟨mo, hbx, ⟨sees_box h1 rfl, sees_box h2 rfl, Sees.empty⟩, Sees.empty, Sees.empty⟩
theorem tn_x4 {W : World} {A : Option Addr} {c : Nat} {B : Option Addr} {d : Nat} {bs : List Bt} (mo : MemOk W A xW B bs) (hbx : boxes bs = xB) : TnAt W x4 (aM A c B d bs) := ⟨mo, hbx, ⟨Sees.empty, Sees.empty, Sees.empty⟩, Sees.empty, Sees.empty⟩
theorem cell_2 {W : World} {A : Option Addr} (s : Sees W W.heap.size 1 A x2.ws.length (x2.ws.map (Value.int .i64))) : ∃ b o, A = some ⟨b, o, none⟩ ∧ W.cell? ⟨b, o + 6, none⟩ = some (.int .i64 7) := by
  obtain ⟨b, o, e, _, h⟩ := s.2 (by decide); exact ⟨b, o, e, h 6 _ rfl⟩
theorem cell_3 {W : World} {A : Option Addr} (s : Sees W W.heap.size 1 A x3.ws.length (x3.ws.map (Value.int .i64))) : ∃ b o, A = some ⟨b, o, none⟩ ∧ W.cell? ⟨b, o + 5, none⟩ = some (.int .i64 5) := by
  obtain ⟨b, o, e, _, h⟩ := s.2 (by decide); exact ⟨b, o, e, h 5 _ rfl⟩
theorem cell_1 {W : World} {A : Option Addr} (s : Sees W W.heap.size 1 A xW.length (xW.map (Value.int .i64))) : ∃ b o, A = some ⟨b, o, none⟩ ∧ W.cell? ⟨b, o + 6, none⟩ = some (.int .i64 0) := by
  obtain ⟨b, o, e, _, h⟩ := s.2 (by decide); exact ⟨b, o, e, h 6 _ rfl⟩
theorem cap_x1 (A : Option Addr) (c : Nat) (B : Option Addr) (d : Nat) (bs : List Bt) (bA kA : Option Addr) : x1.d.bl.length ≤ (aP A c B d bs ⟨bA, 2, kA, 1, none, 0⟩).p.bc := Nat.le_refl 2
def capOk (u : Tn) (a : TA) : Prop := u.d.bl.length ≤ a.p.bc
def mAis (a : TA) (A : Option Addr) : Prop := a.mA = A
theorem cap_x2 (A : Option Addr) (c : Nat) (B : Option Addr) (d : Nat) (bs : List Bt) (bA kA A2 : Option Addr) (c2 : Nat) : capOk x2 ({ aP A c B d bs ⟨bA, 2, kA, 1, none, 0⟩ with mA := A2, mc := c2 } : TA) := Nat.le_refl 2
theorem cap_x4 (A : Option Addr) (c : Nat) (B : Option Addr) (d : Nat) (bs : List Bt) : x4.d.bl.length ≤ (aM A c B d bs).p.bc := Nat.le_refl 0
theorem bdW_x : bdW (List.replicate (cntV (sizeV 1 (bkV 0 0 1) 3)) 0) 1 (bkV 0 0 1) 0 (1 : Int).toNat = xW := by decide
theorem rep_x : (List.replicate (cntV 3) [] : List (List E3)) = xB := by decide
theorem MemOk.own {W : World} {A B : Option Addr} {ws : List Int} {bs : List Bt} (m : MemOk W A ws B bs) (k : Nat) (hA : ∀ p, A = some p → p.block ≠ k) (hB : ∀ p, B = some p → p.block ≠ k) (he : ∀ q ∈ bs, q.l = []) (vs : List Value) (o : Nat) : MemOk (W.setCells k o vs) A ws B bs :=
  ⟨⟨m.words.setCells2 k (fun _ => hA) vs o, m.bxs.setCells2 k (fun _ => hB) vs o, fun q hq => (show Sees _ _ 3 q.A q.l.length (ecells q.l) from (by rw [he q hq]; exact Sees.empty))⟩, m.few, m.fewb, m.short⟩
theorem keepX {w W W' : World} {g : Nat} {cs : List Value} (h : boxOf W g = some cs ∧ Below w.heap.size w W) (hb : Below W.heap.size W W') : boxOf W' g = some cs ∧ Below w.heap.size w W' := ⟨boxOf_keep h.1 hb, below_next h.2 h.2.size hb⟩
theorem keepXs {w W : World} {g : Nat} {cs : List Value} (h : boxOf W g = some cs ∧ Below w.heap.size w W) (k o : Nat) (vs : List Value) (h1 : k ≠ g) (h0 : w.heap.size ≤ k) : boxOf (W.setCells k o vs) g = some cs ∧ Below w.heap.size w (W.setCells k o vs) := ⟨by rw [boxOf_sets_far _ _ h1]; exact h.1, below_sets _ h0 _ _ _ _ h.2⟩
theorem xbuild (w : World) : Calls Try.prog 28 #[.agg (ccs xC).toArray] w (MFPost xW xB w) := by
  have := build_any 3 1 1 0 0 1 0 0 false 0 0 0 xC_ok w
  rw [bdW_x, rep_x] at this
  exact this

attribute [local irreducible] tcs thc ccs zT
attribute [local go_sem ↓] alTn_is alRn_is alMo_is
attribute [local go_sem] run_alTnf run_alTnt run_alRnf run_alRnt run_alMof run_alMot zT_length
attribute [local go_sem ↓] lbTn_is lbRn_is lbMo_is lbTh_is lbRh_is lbCf_is lbRc_is sbTn_is sbRn_is sbMo_is sbTh_is sbRh_is sbCf_is sbRc_is
attribute [local go_sem] run_lbTn run_lbRn run_lbMo run_lbTh run_lbRh run_lbCf run_lbRc run_sbTn run_sbRn run_sbMo run_sbTh run_sbRh run_sbCf run_sbRc
attribute [local go_sem 2000] boxOf_old'
attribute [local go_sem] boxOf_at' boxOf_free' boxOf_alloc objBox_cells objBox_cellsA boxOf_drew boxOf_setI boxOf_setsI size_sets tcs_length thc_length ccs_length tcs_one thc_one ccs_one sub_tn sub_th sub_cf sub_thAll sub_cfAll put_turn
attribute [local go_sem] tc0 tc1 tc2 tc3 tc4 tc5 tc6 tc7 tc8 tc9 tc10 tc11 tc12 tc13 tc14 tc15 tc16 tc17 tc18 tc19 tc20 tc21 tc22 tc23 tc24 tc25 tc26 tc27 tc28 tc29 tc30 tc31 tc32 tc33 tc34 tc35 tc36 hc0 hc1 hc2 hc3 hc4 hc5 hc6 hc7 hc8 hc9 hc10 hc11 hc12 hc13 hc14 hc15 hc16 kc0 kc1 kc2 kc3 kc4 kc5 kc6 kc7 kc8 kc9 kc10 kc11 tg0 tg1 tg2 tg3 tg4 tg5 tg6 tg7 tg8 tg9 tg10 tg11 tg12 tg13 tg14 tg15 tg16 tg17 tg18 tg19 tg20 tg21 tg22 tg23 tg24 tg25 tg26 tg27 tg28 tg29 tg30 tg31 tg32 tg33 tg34 tg35 tg36 hg0 hg1 hg2 hg3 hg4 hg5 hg6 hg7 hg8 hg9 hg10 hg11 hg12 hg13 hg14 hg15 hg16 kg0 kg1 kg2 kg3 kg4 kg5 kg6 kg7 kg8 kg9 kg10 kg11
attribute [local go_sem] ts12 ts13 ts14 ts16 ts17 ts18 ts19 ts20 ts21 ts22 ts23 ts24 ts25 ts26 ts27 ts28 ts29 ts30 ts31 ts32 ts33 ts34 ts35 ts36 ts15 hs0 hs1 hs2 hs3 hs7 hs8 hs9 hs10 hs11 hs12 hs13 hs14 hs15 hs16

attribute [local irreducible] zC zH
attribute [local go_sem ↓] alCf_is alRc_is alTh_is
attribute [local go_sem] run_alCf run_alRc run_alTh zC_length zH_length put_conf put_thrd
attribute [local go_sem] put_x1 aP_mA aP_mc aP_mB aP_md aP_bs x1_ws x2_ph x3_ph x2_dn x3_dn
attribute [local go_sem ↓] bdC_is bdU_is bdH_is
attribute [local go_sem] run_bdC run_bdU run_bdV run_bdH run_bdG
attribute [local irreducible] xC xW xD xN x0 x1 x2 x3 x4 aM aP
set_option maxRecDepth 100000 in
set_option maxHeartbeats 4000000 in
theorem shown_any (w : World) : Calls Try.prog 10 #[] w (BoolPost true w) := by
  have B1 : boxOf ((w.alloc (.cells zC.toArray 23)).setCells w.heap.size 0 (ccs xC)) w.heap.size = some (ccs xC) := by simp [go_sem]
  have hs : w.heap.size < ((w.alloc (.cells zC.toArray 23)).setCells w.heap.size 0 (ccs xC)).heap.size := by simp [size_sets]
  have hB : Below w.heap.size w ((w.alloc (.cells zC.toArray 23)).setCells w.heap.size 0 (ccs xC)) := below_sets _ (by omega) _ _ _ _ (belowN w _)
  go_enter Try.func10, Try.ntmps10
  go_wp2_with fail
  generalize ((w.alloc (.cells zC.toArray 23)).setCells w.heap.size 0 (ccs xC)) = wz at *
  have Z : boxOf wz.drew w.heap.size = some (ccs xC) ∧ Below w.heap.size w wz.drew := ⟨by rw [boxOf_drew]; exact B1, hB.drew⟩
  go_cut [2] from 3 (fun x wc => ∃ k A c B d bs, x = .pointer (some ⟨k, 0, none⟩) ∧ boxOf wc k = some (tcs x0 (aM A c B d bs)) ∧ boxes bs = xB ∧ MemOk wc A xW B bs ∧ (∀ p, A = some p → p.block ≠ k) ∧ (∀ p, B = some p → p.block ≠ k) ∧ w.heap.size < k ∧ k < wc.heap.size ∧ boxOf wc w.heap.size = some (ccs xC) ∧ Below w.heap.size w wc)
  case first =>
    go_region_held3 (fun w' => boxOf w' w.heap.size = some (ccs xC) ∧ Below w.heap.size w w')
      (first | (with_reducible exact Z) | (with_reducible exact Z1) | (with_reducible exact keepX (by assumption) (belowN _ _)) | (with_reducible exact keepXs Z1 _ _ _ (by omega) (by omega)) | (with_reducible exact keepXs (keepX Z1 (belowN _ _)) _ _ _ (by omega) (by omega)))
      (first
        | (go_at_call 28; refine (xbuild _).mono ?_; rintro e v1 ⟨A, c, B, d, bs, rfl, hbx, mo, fA, fB, hb1⟩; have Z1 : boxOf v1 w.heap.size = some (ccs xC) ∧ Below w.heap.size w v1 := keepX (by assumption) hb1; (first | (with_reducible have tk := box_newk hb1) | (with_reducible have tk := box_newd hb1) | skip); have q1 := hb1.size; (try simp at q1)))
    all_goals go_wp2_with fail
    all_goals go_meet
    all_goals
      have he : ∀ q ∈ bs, q.l = [] := fun q hq => by
        have h1 : q.l ∈ xB := by rw [← hbx]; exact List.mem_map.2 ⟨q, hq, rfl⟩
        have h2 : ∀ l ∈ xB, l = [] := by decide
        exact h2 _ h1
    · have m1 := mo.later (belowN v1 (.cells zT.toArray 38))
      have gA : ∀ p, A = some p → p.block ≠ v1.heap.size := fun p hp => by have := mo.words.block_lt (by rw [xW_len]; omega) p hp; omega
      have gB : ∀ p, B = some p → p.block ≠ v1.heap.size := fun p hp => by have hl : 0 < bs.length := (by have := congrArg List.length hbx; rw [boxes_length] at this; rw [this]; decide); have := mo.bxs.block_lt hl p hp; omega
      exact ⟨_, A, c, B, d, bs, rfl, boxOf_whole _ _ _ (boxOf_new _ _ _ _ rfl) ((tcs_length _ _).trans zT_length.symm), hbx, m1.own _ gA gB he _ _, gA, gB, by omega, by rw [size_sets]; simp, keepXs (keepX Z1 (belowN _ _)) _ _ _ (by omega) (by omega)⟩
    · have gA : ∀ p, A = some p → p.block ≠ wz.heap.size := fun p hp => by have := fA p hp; simp at this; omega
      have gB : ∀ p, B = some p → p.block ≠ wz.heap.size := fun p hp => by have := fB p hp; simp at this; omega
      exact ⟨_, A, c, B, d, bs, rfl, boxOf_whole _ _ _ tk.1 ((tcs_length _ _).trans zT_length.symm), hbx, mo.own _ gA gB he _ _, gA, gB, by omega, by rw [size_sets]; exact tk.2, keepXs Z1 _ _ _ (by omega) (by omega)⟩
  case rest =>
    clear B1 hB Z hs
    obtain ⟨k, A, c, B, d, bs, rfl, Bk, hbx, mo, nA, nB, k0, k1, B1, hB⟩ := hcut
    have he : ∀ q ∈ bs, q.l = [] := fun q hq => by
      have h1 : q.l ∈ xB := by rw [← hbx]; exact List.mem_map.2 ⟨q, hq, rfl⟩
      have h2 : ∀ l ∈ xB, l = [] := by decide
      exact h2 _ h1
    have ne1 : ¬ k = wc.heap.size := by omega
    have ne2 : ¬ k = wc.heap.size + 1 := by omega
    have ne3 : ¬ w.heap.size = k := by omega
    have M1 : MemOk (((wc.alloc (.cells #[.int .i64 0, .int .i64 1, .int .i64 2, .int .i64 2, .int .i64 1, .int .i64 3] 78)).alloc (.cells #[.int .i64 2, .int .i64 1] 63)).setCells k 16 (thc xD (⟨some ⟨wc.heap.size, 0, none⟩, 2, some ⟨wc.heap.size + 1, 0, none⟩, 1, none, 0⟩ : Ad))) A xW B bs := ((mo.later (belowN _ _)).later (belowN _ _)).own k nA nB he _ _
    have T1 : TnAt (((wc.alloc (.cells #[.int .i64 0, .int .i64 1, .int .i64 2, .int .i64 2, .int .i64 1, .int .i64 3] 78)).alloc (.cells #[.int .i64 2, .int .i64 1] 63)).setCells k 16 (thc xD (⟨some ⟨wc.heap.size, 0, none⟩, 2, some ⟨wc.heap.size + 1, 0, none⟩, 1, none, 0⟩ : Ad))) x1 (aP A c B d bs (⟨some ⟨wc.heap.size, 0, none⟩, 2, some ⟨wc.heap.size + 1, 0, none⟩, 1, none, 0⟩ : Ad)) := tn_x1 M1 hbx (by simp [go_sem, ne1, ne2]) (by simp [go_sem, ne1, ne2])
    have C1 : boxOf (((wc.alloc (.cells #[.int .i64 0, .int .i64 1, .int .i64 2, .int .i64 2, .int .i64 1, .int .i64 3] 78)).alloc (.cells #[.int .i64 2, .int .i64 1] 63)).setCells k 16 (thc xD (⟨some ⟨wc.heap.size, 0, none⟩, 2, some ⟨wc.heap.size + 1, 0, none⟩, 1, none, 0⟩ : Ad))) k = some (tcs x1 (aP A c B d bs (⟨some ⟨wc.heap.size, 0, none⟩, 2, some ⟨wc.heap.size + 1, 0, none⟩, 1, none, 0⟩ : Ad))) := by simp [go_sem, ne1, ne2, Bk]
    have C0 : boxOf (((wc.alloc (.cells #[.int .i64 0, .int .i64 1, .int .i64 2, .int .i64 2, .int .i64 1, .int .i64 3] 78)).alloc (.cells #[.int .i64 2, .int .i64 1] 63)).setCells k 16 (thc xD (⟨some ⟨wc.heap.size, 0, none⟩, 2, some ⟨wc.heap.size + 1, 0, none⟩, 1, none, 0⟩ : Ad))) w.heap.size = some (ccs xC) := by rw [boxOf_sets_far _ _ (by omega)]; exact boxOf_keep (boxOf_keep B1 (belowN _ _)) (belowN _ _)
    have hB1 : Below w.heap.size w (((wc.alloc (.cells #[.int .i64 0, .int .i64 1, .int .i64 2, .int .i64 2, .int .i64 1, .int .i64 3] 78)).alloc (.cells #[.int .i64 2, .int .i64 1] 63)).setCells k 16 (thc xD (⟨some ⟨wc.heap.size, 0, none⟩, 2, some ⟨wc.heap.size + 1, 0, none⟩, 1, none, 0⟩ : Ad))) := below_sets _ (by omega) _ _ _ _ ((hB.alloc hB.size _).alloc (by simp; have := hB.size; omega) _)
    have S1 := step_any x1 _ x1_ok _ T1 (cap_x1 _ _ _ _ _ _ _)
    rw [st_x1, is_x1] at S1
    have HC2 := hide (cap_x2 A c B d bs (some ⟨wc.heap.size, 0, none⟩) (some ⟨wc.heap.size + 1, 0, none⟩))
    have hmo := hide M1
    clear M1
    go_wp2_with fail
    clear mo nA nB he ne1 ne2 Bk B1 hB k1
    generalize (((wc.alloc (.cells #[.int .i64 0, .int .i64 1, .int .i64 2, .int .i64 2, .int .i64 1, .int .i64 3] 78)).alloc (.cells #[.int .i64 2, .int .i64 1] 63)).setCells k 16 (thc xD (⟨some ⟨wc.heap.size, 0, none⟩, 2, some ⟨wc.heap.size + 1, 0, none⟩, 1, none, 0⟩ : Ad))) = y1 at *
    generalize (⟨some ⟨wc.heap.size, 0, none⟩, 2, some ⟨wc.heap.size + 1, 0, none⟩, 1, none, 0⟩ : Ad) = p1 at *
    refine S1.mono ?_
    rintro e y2 ⟨A2, c2, rfl, s2, _, hb1⟩
    have T2 := lk_12.at T1 hb1 c2 s2
    replace C1 := boxOf_keep C1 hb1
    replace C0 := boxOf_keep C0 hb1
    replace hB1 := below_next hB1 hB1.size hb1
    have hm2 := hide (hmo.out.later hb1)
    have HC := hide (HC2.out A2 c2)
    have hA2 : Hid (mAis ({ aP A c B d bs p1 with mA := A2, mc := c2 } : TA) A2) := hide rfl
    clear S1 hb1 T1 hmo HC2
    generalize ({ aP A c B d bs p1 with mA := A2, mc := c2 } : TA) = a2 at *
    have nb : Below y2.heap.size y2 ((y2.alloc (.cells zT.toArray 38)).setCells y2.heap.size 0 (tcs x2 a2)) := below_sets _ (by omega) _ _ _ _ (belowN _ _)
    replace C1 := boxOf_keep C1 nb
    replace C0 := boxOf_keep C0 nb
    have C2 : boxOf ((y2.alloc (.cells zT.toArray 38)).setCells y2.heap.size 0 (tcs x2 a2)) y2.heap.size = some (tcs x2 a2) := boxOf_whole _ _ _ (boxOf_new _ _ _ _ rfl) ((tcs_length _ _).trans zT_length.symm)
    replace T2 := T2.later nb
    replace hB1 := below_next hB1 hB1.size nb
    replace hm2 := hide (hm2.out.later nb)
    replace s2 := hide (s2.later nb)
    clear nb
    have S2 := step_any x2 a2 x2_ok _ T2 HC.out
    rw [st_x2, is_x2] at S2
    go_wp2_with fail
    generalize ((y2.alloc (.cells zT.toArray 38)).setCells y2.heap.size 0 (tcs x2 a2)) = y3 at *
    generalize y2.heap.size = k2 at *
    refine S2.mono ?_
    rintro e y4 ⟨A3, c3, rfl, s3, _, hb1⟩
    replace C0 := boxOf_keep C0 hb1
    replace C1 := boxOf_keep C1 hb1
    replace C2 := boxOf_keep C2 hb1
    replace hB1 := below_next hB1 hB1.size hb1
    replace hm2 := hide (hm2.out.later hb1)
    replace s2 := hide (s2.out.later hb1)
    have hA3 : Hid (mAis ({ a2 with mA := A3, mc := c3 } : TA) A3) := hide rfl
    clear S2 hb1 T2 HC
    generalize ({ a2 with mA := A3, mc := c3 } : TA) = a3 at *
    have nb : Below y4.heap.size y4 ((y4.alloc (.cells zT.toArray 38)).setCells y4.heap.size 0 (tcs x3 a3)) := below_sets _ (by omega) _ _ _ _ (belowN _ _)
    replace C0 := boxOf_keep C0 nb
    replace C1 := boxOf_keep C1 nb
    replace C2 := boxOf_keep C2 nb
    have C3 : boxOf ((y4.alloc (.cells zT.toArray 38)).setCells y4.heap.size 0 (tcs x3 a3)) y4.heap.size = some (tcs x3 a3) := boxOf_whole _ _ _ (boxOf_new _ _ _ _ rfl) ((tcs_length _ _).trans zT_length.symm)
    replace hB1 := below_next hB1 hB1.size nb
    replace hm2 := hide (hm2.out.later nb)
    replace s2 := hide (s2.out.later nb)
    replace s3 := hide (s3.later nb)
    clear nb
    have S3 := step_any x4 (aM A c B d bs) x4_ok _ (tn_x4 hm2.out hbx) (cap_x4 _ _ _ _ _)
    rw [st_x4, is_x4] at S3
    go_wp2_with fail
    generalize ((y4.alloc (.cells zT.toArray 38)).setCells y4.heap.size 0 (tcs x3 a3)) = y5 at *
    generalize y4.heap.size = k3 at *
    refine S3.mono ?_
    rintro e y6 ⟨A4, c4, rfl, s4, _, hb1⟩
    replace C1 := boxOf_keep C1 hb1
    replace C2 := boxOf_keep C2 hb1
    replace C3 := boxOf_keep C3 hb1
    replace hB1 := below_next hB1 hB1.size hb1
    replace hm2 := hide (hm2.out.later hb1)
    replace s2 := hide (s2.out.later hb1)
    replace s3 := hide (s3.out.later hb1)
    clear S3 hb1 s4 C0
    generalize ({ aM A c B d bs with mA := A4, mc := c4 } : TA) = a4 at *
    have nb : Below y6.heap.size y6 ((y6.alloc (.cells zT.toArray 38)).setCells y6.heap.size 0 (tcs x4 a4)) := below_sets _ (by omega) _ _ _ _ (belowN _ _)
    replace C1 := boxOf_keep C1 nb
    replace C2 := boxOf_keep C2 nb
    replace C3 := boxOf_keep C3 nb
    replace hB1 := below_next hB1 hB1.size nb
    obtain ⟨b1, o1, e1, f1⟩ := cell_1 (hm2.out.words.later nb)
    obtain ⟨b2, o2, e2, f2⟩ := cell_2 (s2.out.later nb)
    obtain ⟨b3, o3, e3, f3⟩ := cell_3 (s3.out.later nb)
    clear nb s2 s3 hm2
    go_wp2_with fail
    generalize ((y6.alloc (.cells zT.toArray 38)).setCells y6.heap.size 0 (tcs x4 a4)) = y7 at *
    have g2 : a2.mA = some ⟨b2, o2, none⟩ := (show a2.mA = A2 from hA2.out).trans e2
    have g3 : a3.mA = some ⟨b3, o3, none⟩ := (show a3.mA = A3 from hA3.out).trans e3
    subst e1
    have l1 := xW_len
    have l2 := x2_len
    have l3 := x3_len
    clear hA2 hA3 e2 e3 hbx k0 ne3
    have R1 := fun d os => boxOf_keep C1 (below_regrown y7 d os)
    have R2 := fun d os => boxOf_keep C2 (below_regrown y7 d os)
    have R3 := fun d os => boxOf_keep C3 (below_regrown y7 d os)
    have r1 := cell_regrown f1
    have r2 := cell_regrown f2
    have r3 := cell_regrown f3
    have QT := hide (fun d os => Calls.regrown_of (w := y7) (told_any (grow (redrawn y7 d) os)))
    clear C1 C2 C3 f1 f2 f3
    refine wp_region_quiet_below (by kernel_rfl) (by kernel_rfl) ?_
    repeat (go_big_quiet_step (first | (go_at_call 22; exact QT.out _ _)))
    refine wpQuiet_nil ?_
    intro _ hw'
    obtain ⟨⟨dq, osq⟩, hw''⟩ := hw'
    subst hw''
    go_wp2
    go_ret
    exact ⟨ret_b (by simp), below_next hB1 hB1.size (below_regrown y7 dq osq)⟩
end Go.Proofs.Ytnmffjlfdnebnaa
