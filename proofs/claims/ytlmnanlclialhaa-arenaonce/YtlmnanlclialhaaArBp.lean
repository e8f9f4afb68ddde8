/- The contract of the program's Build. -/
import Derived.Test.YtlmnanlclialhaaArBd
import Derived.Deep.RegionWith
namespace Go.Proofs.Ytlmnanlclialhaa
open Go.RowKit

set_option linter.unusedVariables false

set_option maxRecDepth 100000 in
set_option maxHeartbeats 4000000 in
theorem build_any (x0 x1 x2 x3 x4 x5 x6 x7 : Int) (b : Bool) (x9 x10 x11 : Int) (ok : CfOk x0 x1 x2 x3 x4 x5 x6 x7 b x9 x10 x11) (w : World) : Calls Try.prog 24 #[.agg #[.int .i64 x0, .int .i64 x1, .int .i64 x2, .int .i64 x3, .int .i64 x4, .int .i64 x5, .int .i64 x6, .int .i64 x7, .bool b, .int .i64 x9, .int .i64 x10, .int .i64 x11]] w (MFPost (bdW (List.replicate (cntV (sizeV x1 (bkV x3 x4 x5) x0)) 0) x1 (bkV x3 x4 x5) x11 x1.toNat) (List.replicate (cntV x0) []) w) := by
  have hB : Below w.heap.size w ((w.alloc (.cells #[.int .i64 x0, .int .i64 x1, .int .i64 x2, .int .i64 x3, .int .i64 x4, .int .i64 x5, .int .i64 x6, .int .i64 x7, .bool b, .int .i64 x9, .int .i64 x10, .int .i64 x11] 23)).alloc (.cells #[.slice none 0 0, .slice none 0 0] 39)) := ((Below.refl _ _).alloc (Nat.le_refl _) _).alloc (by simp) _
  have H0 : ((w.alloc (.cells #[.int .i64 x0, .int .i64 x1, .int .i64 x2, .int .i64 x3, .int .i64 x4, .int .i64 x5, .int .i64 x6, .int .i64 x7, .bool b, .int .i64 x9, .int .i64 x10, .int .i64 x11] 23)).alloc (.cells #[.slice none 0 0, .slice none 0 0] 39)).cell? ⟨w.heap.size, 0, none⟩ = some (.int .i64 x0) ∧ ((w.alloc (.cells #[.int .i64 x0, .int .i64 x1, .int .i64 x2, .int .i64 x3, .int .i64 x4, .int .i64 x5, .int .i64 x6, .int .i64 x7, .bool b, .int .i64 x9, .int .i64 x10, .int .i64 x11] 23)).alloc (.cells #[.slice none 0 0, .slice none 0 0] 39)).cell? ⟨w.heap.size, 1, none⟩ = some (.int .i64 x1) ∧ ((w.alloc (.cells #[.int .i64 x0, .int .i64 x1, .int .i64 x2, .int .i64 x3, .int .i64 x4, .int .i64 x5, .int .i64 x6, .int .i64 x7, .bool b, .int .i64 x9, .int .i64 x10, .int .i64 x11] 23)).alloc (.cells #[.slice none 0 0, .slice none 0 0] 39)).cell? ⟨w.heap.size, 2, none⟩ = some (.int .i64 x2) ∧ ((w.alloc (.cells #[.int .i64 x0, .int .i64 x1, .int .i64 x2, .int .i64 x3, .int .i64 x4, .int .i64 x5, .int .i64 x6, .int .i64 x7, .bool b, .int .i64 x9, .int .i64 x10, .int .i64 x11] 23)).alloc (.cells #[.slice none 0 0, .slice none 0 0] 39)).cell? ⟨w.heap.size, 3, none⟩ = some (.int .i64 x3) ∧ ((w.alloc (.cells #[.int .i64 x0, .int .i64 x1, .int .i64 x2, .int .i64 x3, .int .i64 x4, .int .i64 x5, .int .i64 x6, .int .i64 x7, .bool b, .int .i64 x9, .int .i64 x10, .int .i64 x11] 23)).alloc (.cells #[.slice none 0 0, .slice none 0 0] 39)).cell? ⟨w.heap.size, 4, none⟩ = some (.int .i64 x4) ∧ ((w.alloc (.cells #[.int .i64 x0, .int .i64 x1, .int .i64 x2, .int .i64 x3, .int .i64 x4, .int .i64 x5, .int .i64 x6, .int .i64 x7, .bool b, .int .i64 x9, .int .i64 x10, .int .i64 x11] 23)).alloc (.cells #[.slice none 0 0, .slice none 0 0] 39)).cell? ⟨w.heap.size, 5, none⟩ = some (.int .i64 x5) ∧ ((w.alloc (.cells #[.int .i64 x0, .int .i64 x1, .int .i64 x2, .int .i64 x3, .int .i64 x4, .int .i64 x5, .int .i64 x6, .int .i64 x7, .bool b, .int .i64 x9, .int .i64 x10, .int .i64 x11] 23)).alloc (.cells #[.slice none 0 0, .slice none 0 0] 39)).cell? ⟨w.heap.size, 6, none⟩ = some (.int .i64 x6) ∧ ((w.alloc (.cells #[.int .i64 x0, .int .i64 x1, .int .i64 x2, .int .i64 x3, .int .i64 x4, .int .i64 x5, .int .i64 x6, .int .i64 x7, .bool b, .int .i64 x9, .int .i64 x10, .int .i64 x11] 23)).alloc (.cells #[.slice none 0 0, .slice none 0 0] 39)).cell? ⟨w.heap.size, 7, none⟩ = some (.int .i64 x7) ∧ ((w.alloc (.cells #[.int .i64 x0, .int .i64 x1, .int .i64 x2, .int .i64 x3, .int .i64 x4, .int .i64 x5, .int .i64 x6, .int .i64 x7, .bool b, .int .i64 x9, .int .i64 x10, .int .i64 x11] 23)).alloc (.cells #[.slice none 0 0, .slice none 0 0] 39)).cell? ⟨w.heap.size, 8, none⟩ = some (.bool b) ∧ ((w.alloc (.cells #[.int .i64 x0, .int .i64 x1, .int .i64 x2, .int .i64 x3, .int .i64 x4, .int .i64 x5, .int .i64 x6, .int .i64 x7, .bool b, .int .i64 x9, .int .i64 x10, .int .i64 x11] 23)).alloc (.cells #[.slice none 0 0, .slice none 0 0] 39)).cell? ⟨w.heap.size, 9, none⟩ = some (.int .i64 x9) ∧ ((w.alloc (.cells #[.int .i64 x0, .int .i64 x1, .int .i64 x2, .int .i64 x3, .int .i64 x4, .int .i64 x5, .int .i64 x6, .int .i64 x7, .bool b, .int .i64 x9, .int .i64 x10, .int .i64 x11] 23)).alloc (.cells #[.slice none 0 0, .slice none 0 0] 39)).cell? ⟨w.heap.size, 10, none⟩ = some (.int .i64 x10) ∧ ((w.alloc (.cells #[.int .i64 x0, .int .i64 x1, .int .i64 x2, .int .i64 x3, .int .i64 x4, .int .i64 x5, .int .i64 x6, .int .i64 x7, .bool b, .int .i64 x9, .int .i64 x10, .int .i64 x11] 23)).alloc (.cells #[.slice none 0 0, .slice none 0 0] 39)).cell? ⟨w.heap.size, 11, none⟩ = some (.int .i64 x11) := by simp [go_sem]
  have R0 : ((w.alloc (.cells #[.int .i64 x0, .int .i64 x1, .int .i64 x2, .int .i64 x3, .int .i64 x4, .int .i64 x5, .int .i64 x6, .int .i64 x7, .bool b, .int .i64 x9, .int .i64 x10, .int .i64 x11] 23)).alloc (.cells #[.slice none 0 0, .slice none 0 0] 39)).cell? ⟨w.heap.size + 1, 0, none⟩ = some (.slice none 0 0) := by simp [go_sem]
  have R1 : ((w.alloc (.cells #[.int .i64 x0, .int .i64 x1, .int .i64 x2, .int .i64 x3, .int .i64 x4, .int .i64 x5, .int .i64 x6, .int .i64 x7, .bool b, .int .i64 x9, .int .i64 x10, .int .i64 x11] 23)).alloc (.cells #[.slice none 0 0, .slice none 0 0] 39)).cell? ⟨w.heap.size + 1, 1, none⟩ = some (.slice none 0 0) := by simp [go_sem]
  have F0 : ((w.alloc (.cells #[.int .i64 x0, .int .i64 x1, .int .i64 x2, .int .i64 x3, .int .i64 x4, .int .i64 x5, .int .i64 x6, .int .i64 x7, .bool b, .int .i64 x9, .int .i64 x10, .int .i64 x11] 23)).alloc (.cells #[.slice none 0 0, .slice none 0 0] 39)).frozen? ⟨w.heap.size + 1, 0, none⟩ = false := by simp [go_sem]
  have F1 : ((w.alloc (.cells #[.int .i64 x0, .int .i64 x1, .int .i64 x2, .int .i64 x3, .int .i64 x4, .int .i64 x5, .int .i64 x6, .int .i64 x7, .bool b, .int .i64 x9, .int .i64 x10, .int .i64 x11] 23)).alloc (.cells #[.slice none 0 0, .slice none 0 0] 39)).frozen? ⟨w.heap.size + 1, 1, none⟩ = false := by simp [go_sem]
  have KS := hide (size_any x0 x1 x2 x3 x4 x5 x6 x7 b x9 x10 x11 ok)
  have KL := hide (cell_any x0 x1 x2 x3 x4 x5 x6 x7 b x9 x10 x11 ok)
  have KC := hide (check_any x0 x1 x2 x3 x4 x5 x6 x7 b x9 x10 x11)
  rw [(ck_ok x0 x1 x2 x3 x4 x5 x6 x7 b x9 x10 x11).2 ok] at KC
  have ho := ok.h1
  obtain ⟨it, rfl⟩ : ∃ n : Nat, x1 = (n : Int) := ⟨x1.toNat, by omega⟩
  simp only [Int.toNat_natCast]
  obtain ⟨bk, hbk⟩ : ∃ n, bkV x3 x4 x5 = n := ⟨_, rfl⟩
  rw [hbk] at KS KL ⊢
  obtain ⟨sz, hsz⟩ : ∃ n, sizeV (it : Int) bk x0 = n := ⟨_, rfl⟩
  rw [hsz] at KS ⊢
  have KN := hide (newF_any sz x0)
  have HN1 : Hid (0 < cntV sz) := hide (cnt_pos (by have := bk_le ok.h3 ok.h4 ok.h5; have := mul_le (a := (it : Int)) (b := bk) (p := 4) (q := 40) (by omega) (by omega); have := ok.h0; unfold sizeV at hsz; omega))
  have HN2 : Hid (∀ bs : List Bt, boxes bs = List.replicate (cntV x0) [] → 0 < bs.length) := hide (fun bs hb => by rw [← boxes_length, hb, List.length_replicate]; exact cnt_pos (by have := ok.h0; omega))
  clear hbk hsz ok
  go_enter Try.func24, Try.ntmps24
  go_wp2_with fail
  refine (KC.out _).mono ?_
  rintro x w0 ⟨rfl, hv⟩
  replace H0 := keep12 H0 hv
  replace R0 := cell_keep R0 hv
  replace R1 := cell_keep R1 hv
  replace F0 := frozen_keep hv (by simp) F0
  replace F1 := frozen_keep hv (by simp) F1
  have hz : w.heap.size + 1 + 1 ≤ w0.heap.size := by simpa using hv.size
  replace hB := below_next hB (by simp; omega) hv
  clear hv KC
  go_upto_region 3 with fail
  have b0 : Below w0.heap.size w0 w0.drew := (Below.refl _ _).drew
  have b0a : Below w0.heap.size w0 (w0.alloc (.cells #[.slice none 0 0, .slice none 0 0] 39)).drew := ((Below.refl _ _).alloc (Nat.le_refl _) _).drew
  have P0 : BdPre w.heap.size w0.heap.size w (w0.alloc (.cells #[.slice none 0 0, .slice none 0 0] 39)).drew := ⟨⟨_, by simp [go_sem]; rfl⟩, ⟨_, by simp [go_sem]; rfl⟩, by simp [go_sem], by simp [go_sem], cell_keep R0 b0a, cell_keep R1 b0a, frozen_keep b0a (by omega) F0, frozen_keep b0a (by omega) F1, below_next hB (by omega) b0a, hz, by simp⟩
  have PA : ∀ v1 : World, Below w0.heap.size w0 v1 → BdPre w.heap.size v1.heap.size w (v1.alloc (.cells #[.slice none 0 0, .slice none 0 0] 39)) := fun v1 hv => by
    have hz1 := hv.size
    have ba : Below w0.heap.size w0 (v1.alloc (.cells #[.slice none 0 0, .slice none 0 0] 39)) := hv.alloc hv.size _
    exact ⟨⟨_, by simp [go_sem]; rfl⟩, ⟨_, by simp [go_sem]; rfl⟩, by simp [go_sem], by simp [go_sem], cell_keep R0 ba, cell_keep R1 ba, frozen_keep ba (by omega) F0, frozen_keep ba (by omega) F1, below_next hB (by omega) ba, by omega, by simp⟩
  have PN : ∀ (v2 : World) (A B : Option Addr) (c d : Nat) (ws : List Int) (bs : List Bt), Below w0.heap.size w0 v2 → MemOk v2 A ws B bs → (∀ q ∈ bs, q.l = []) → (∀ p, A = some p → w.heap.size + 1 + 1 ≤ p.block ∧ p.block ≠ v2.heap.size) → (∀ p, B = some p → w.heap.size + 1 + 1 ≤ p.block ∧ p.block ≠ v2.heap.size) →
      BdAt w.heap.size v2.heap.size w (v2.alloc (.cells #[.slice A ws.length c, .slice B bs.length d] 39)) A B ws bs c d := fun v2 A B c d ws bs hv mem emp aA aB => by
    have hz1 := hv.size
    have ba : Below w0.heap.size w0 (v2.alloc (.cells #[.slice A ws.length c, .slice B bs.length d] 39)) := hv.alloc hv.size _
    exact ⟨by simp [go_sem], by simp [go_sem], by simp [go_sem], by simp [go_sem], cell_keep R0 ba, cell_keep R1 ba, frozen_keep ba (by omega) F0, frozen_keep ba (by omega) F1, mem.later ((Below.refl _ _).alloc (Nat.le_refl _) _), emp, aA, aB, below_next hB (by omega) ba, by omega, by simp⟩
  have HP0 := hide P0
  have HPA := hide PA
  have HPN := hide PN
  have H0d := keep12 H0 b0
  have H0a := keep12 H0 b0a
  clear P0 PA PN R0 R1 F0 F1
  go_cut [3] from 5 (fun p wc => ∃ k A c B d bs, p = .pointer (some ⟨k, 0, none⟩) ∧ BdAt w.heap.size k w wc A B (List.replicate (cntV sz) 0) bs c d ∧ boxes bs = List.replicate (cntV x0) [] ∧ wc.cell? ⟨w.heap.size, 0, none⟩ = some (.int .i64 x0) ∧ wc.cell? ⟨w.heap.size, 1, none⟩ = some (.int .i64 (it : Int)) ∧ wc.cell? ⟨w.heap.size, 2, none⟩ = some (.int .i64 x2) ∧ wc.cell? ⟨w.heap.size, 3, none⟩ = some (.int .i64 x3) ∧ wc.cell? ⟨w.heap.size, 4, none⟩ = some (.int .i64 x4) ∧ wc.cell? ⟨w.heap.size, 5, none⟩ = some (.int .i64 x5) ∧ wc.cell? ⟨w.heap.size, 6, none⟩ = some (.int .i64 x6) ∧ wc.cell? ⟨w.heap.size, 7, none⟩ = some (.int .i64 x7) ∧ wc.cell? ⟨w.heap.size, 8, none⟩ = some (.bool b) ∧ wc.cell? ⟨w.heap.size, 9, none⟩ = some (.int .i64 x9) ∧ wc.cell? ⟨w.heap.size, 10, none⟩ = some (.int .i64 x10) ∧ wc.cell? ⟨w.heap.size, 11, none⟩ = some (.int .i64 x11))
  case first =>
    go_region_held3 (fun w' => w'.cell? ⟨w.heap.size, 0, none⟩ = some (.int .i64 x0) ∧ w'.cell? ⟨w.heap.size, 1, none⟩ = some (.int .i64 (it : Int)) ∧ w'.cell? ⟨w.heap.size, 2, none⟩ = some (.int .i64 x2) ∧ w'.cell? ⟨w.heap.size, 3, none⟩ = some (.int .i64 x3) ∧ w'.cell? ⟨w.heap.size, 4, none⟩ = some (.int .i64 x4) ∧ w'.cell? ⟨w.heap.size, 5, none⟩ = some (.int .i64 x5) ∧ w'.cell? ⟨w.heap.size, 6, none⟩ = some (.int .i64 x6) ∧ w'.cell? ⟨w.heap.size, 7, none⟩ = some (.int .i64 x7) ∧ w'.cell? ⟨w.heap.size, 8, none⟩ = some (.bool b) ∧ w'.cell? ⟨w.heap.size, 9, none⟩ = some (.int .i64 x9) ∧ w'.cell? ⟨w.heap.size, 10, none⟩ = some (.int .i64 x10) ∧ w'.cell? ⟨w.heap.size, 11, none⟩ = some (.int .i64 x11))
      (first | (with_reducible exact H0d) | (with_reducible exact H0a) | (with_reducible exact H1) | (with_reducible exact H1a) | (with_reducible exact H2) | (with_reducible exact H2a) | (with_reducible exact far2 H2 hnk) | (exact keep12 H2 ((Below.refl _ v2).alloc (Nat.le_refl _) _)))
      (first
        | (go_at_call 12; (with_reducible refine (KS.out w0.drew).mono ?_); rintro x v1 ⟨rfl, hv⟩; have H1 := keep12 H0d hv; have hv1 := b0.trans hv; have H1a := keep12 H1 ((Below.refl _ v1).alloc (Nat.le_refl _) (.cells #[.slice none 0 0, .slice none 0 0] 39)); have HPL := hide (HPA.out v1 hv1))
        | (go_at_call 12; (with_reducible refine (KS.out (w0.alloc (.cells #[.slice none 0 0, .slice none 0 0] 39)).drew).mono ?_); rintro x v1 ⟨rfl, hv⟩; have H1 := keep12 H0a hv; have HPE := hide (HP0.out.later hv))
        | (go_at_call 39; (with_reducible refine (KN.out (v1.alloc (.cells #[.slice none 0 0, .slice none 0 0] 39))).mono ?_); rintro x v2 ⟨A, c, B, d, bs, rfl, hbx, mem, fA, fB, hv2⟩; have H2 := keep12 H1a hv2; have hnk : w.heap.size ≠ v1.heap.size := (by have := HPL.out.hk; omega); obtain ⟨u0, m0⟩ := (HPL.out.later hv2).m0; obtain ⟨u1, m1⟩ := (HPL.out.later hv2).m1; have g0 := (HPL.out.later hv2).g0; have g1 := (HPL.out.later hv2).g1; have kz := (HPL.out.later hv2).kz; have HF := hide ((HPL.out.later hv2).set (c := c) (d := d) mem (emp_of hbx) (below_lt fA (Nat.le_of_lt (Nat.lt_of_le_of_lt HPL.out.hk HPL.out.kz)) HPL.out.kz) (below_lt fB (Nat.le_of_lt (Nat.lt_of_le_of_lt HPL.out.hk HPL.out.kz)) HPL.out.kz)))
        | (go_at_call 39; (with_reducible refine (KN.out v1).mono ?_); rintro x v2 ⟨A, c, B, d, bs, rfl, hbx, mem, fA, fB, hv2⟩; have H2 := keep12 H1 hv2; obtain ⟨u0, m0⟩ := (HPE.out.later hv2).m0; obtain ⟨u1, m1⟩ := (HPE.out.later hv2).m1; have g0 := (HPE.out.later hv2).g0; have g1 := (HPE.out.later hv2).g1; have kz := (HPE.out.later hv2).kz; have HF := hide ((HPE.out.later hv2).set (c := c) (d := d) mem (emp_of hbx) (below_lt fA (Nat.le_of_lt (Nat.lt_of_le_of_lt HPE.out.hk HPE.out.kz)) HPE.out.kz) (below_lt fB (Nat.le_of_lt (Nat.lt_of_le_of_lt HPE.out.hk HPE.out.kz)) HPE.out.kz)); have hnk : w.heap.size ≠ w0.heap.size := (by omega))
        | (go_at_call 39; (with_reducible refine (KN.out v1).mono ?_); rintro x v2 ⟨A, c, B, d, bs, rfl, hbx, mem, fA, fB, hv2⟩; have H2 := keep12 H1 hv2; have H2a := keep12 H2 ((Below.refl _ v2).alloc (Nat.le_refl _) (.cells #[.slice none 0 0, .slice none 0 0] 39)); have hz1 := HPL.out.hk; have hz2 := hv2.size; have hnk : w.heap.size ≠ v2.heap.size := (by omega); have HL := hide (HPN.out v2 A B c d _ bs (hv1.trans (hv2.mono hv1.size)) mem (emp_of hbx) (bd_late fA HPL.out.hk (mem.words.block_lt (Nat.lt_of_lt_of_eq HN1.out List.length_replicate.symm))) (bd_late fB HPL.out.hk (mem.bxs.block_lt (HN2.out bs hbx))))))
    all_goals go_wp2_with fail
    all_goals go_meet
    all_goals first
      | exact ⟨_, A, c, B, d, bs, rfl, by simpa using HL.out, hbx, keep12 H2 ((Below.refl _ v2).alloc (Nat.le_refl _) _)⟩
      | exact ⟨_, A, c, B, d, bs, rfl, by simpa using HF.out, hbx, far2 H2 hnk⟩
  case rest =>
    obtain ⟨k, A, c, B, d, bs, rfl, hat, hbx, hq⟩ := hcut
    have HAT := hide hat
    have HBX := hide hbx
    have HQ := hide hq
    have hq1 := hq.2.1
    clear hat hbx hq HP0 HPA HPN H0d H0a H0 hB b0 b0a KS KN HN1 HN2 hz
    go_wp2
    go_loopw [16] (fun i wr => ∃ (j : Nat) (ws : List Int) (A : Option Addr) (c : Nat), j ≤ it ∧ i = .int .i64 j ∧ Hid (ws = bdW (List.replicate (cntV sz) 0) it bk x11 j) ∧ BdAt w.heap.size k w wr A B ws bs c d ∧ wr.cell? ⟨w.heap.size, 0, none⟩ = some (.int .i64 x0) ∧ wr.cell? ⟨w.heap.size, 1, none⟩ = some (.int .i64 (it : Int)) ∧ wr.cell? ⟨w.heap.size, 2, none⟩ = some (.int .i64 x2) ∧ wr.cell? ⟨w.heap.size, 3, none⟩ = some (.int .i64 x3) ∧ wr.cell? ⟨w.heap.size, 4, none⟩ = some (.int .i64 x4) ∧ wr.cell? ⟨w.heap.size, 5, none⟩ = some (.int .i64 x5) ∧ wr.cell? ⟨w.heap.size, 6, none⟩ = some (.int .i64 x6) ∧ wr.cell? ⟨w.heap.size, 7, none⟩ = some (.int .i64 x7) ∧ wr.cell? ⟨w.heap.size, 8, none⟩ = some (.bool b) ∧ wr.cell? ⟨w.heap.size, 9, none⟩ = some (.int .i64 x9) ∧ wr.cell? ⟨w.heap.size, 10, none⟩ = some (.int .i64 x10) ∧ wr.cell? ⟨w.heap.size, 11, none⟩ = some (.int .i64 x11)) (fun i _ => it - (intOf i).toNat)
    case atStart => exact ⟨0, _, A, c, Nat.zero_le _, rfl, hide rfl, HAT.out, HQ.out⟩
    case round =>
      clear HAT HQ hq1
      obtain ⟨j, ws, A, c, hj, rfl, HW, hat, hq⟩ := hrel
      have HAT := hide hat
      have HQ := hide hq
      have m0 := hat.m0
      have m1 := hat.m1
      have hq1 := hq.2.1
      by_cases hlt : j < it
      · obtain ⟨q0, q1, q2, q3, q4, q5, q6, q7, q8, q9, q10, q11⟩ := hq
        have KJ := hide (KL.out (j : Int) (by unfold I64; omega))
        obtain ⟨cv, hcv⟩ : ∃ x, cellV (it : Int) bk (j : Int) = x := ⟨_, rfl⟩
        rw [hcv] at KJ
        have HC := hide hcv
        have hlen : (stV ws cv x11).length = ws.length := stV_length _ _ _
        have HLEN := hide hlen
        have HST : Hid (stV ws cv x11 = bdW (List.replicate (cntV sz) 0) it bk x11 (j + 1)) := hide (by rw [bdW, ← HW.out, hcv])
        have HSTO := hide (fun (v : World) (m : MemOk v A ws B bs) => store_any A B c d ws bs cv x11 v m)
        obtain ⟨ns, hns⟩ : ∃ x, stV ws cv x11 = x := ⟨_, rfl⟩
        rw [hns] at HLEN HST HSTO
        obtain ⟨ev, hev⟩ : ∃ x, erV ws.length cv = x := ⟨_, rfl⟩
        rw [hev] at HSTO
        have hkz := hat.kz
        have g0 := hat.g0
        have g1 := hat.g1
        clear hat hcv hlen hns hev KL HW
        go_upto_region 7 with fail
        go_region_with
          (first
            | (go_at_call 14; refine (KJ.out _).mono ?_; rintro x v1 ⟨rfl, hv⟩; have hb1 : Below wr.heap.size wr v1 := ((Below.refl _ wr).drew).trans hv; clear hv; have q11' := cell_keep q11 hb1; have m0' := cell_keep m0 hb1; have m1' := cell_keep m1 hb1)
            | (go_at_call 40; refine (HSTO.out _ (HAT.out.mem.later hb1)).mono ?_; rintro x v2 ⟨A', c', rfl, hs', hor, hb2⟩; have m0'' := cell_keep m0' hb2; have m1'' := cell_keep m1' hb2; have g0'' := frozen_keep hb2 (Nat.lt_of_lt_of_le hkz hb1.size) (frozen_keep hb1 hkz g0); have g1'' := frozen_keep hb2 (Nat.lt_of_lt_of_le hkz hb1.size) (frozen_keep hb1 hkz g1)))
        all_goals
          have HN := hide (HAT.out.step (c' := c') hb1 hb2 hs' hor HLEN.out)
          have HQ' := hide (far2 (ua := .slice A' ns.length c') (ub := .slice B bs.length d) (keep12 (keep12 HQ.out hb1) hb2) (show w.heap.size ≠ k by have := HAT.out.hk; omega))
          clear hs' hor hb2 hb1 m0 m1 m0' m1' q11' KJ HSTO g0 g1 q0 q1 q2 q3 q4 q5 q6 q7 q8 q9 q10 q11 HAT HQ
          go_wp2
          go_roundw
          case rel => exact ⟨j + 1, ns, A', c', by omega, by go_num, HST, HN.out, HQ'.out⟩
          case measure => simp [intOf]; omega
      · obtain rfl : j = it := by omega
        have r0 := hat.r0
        have r1 := hat.r1
        have f0 := hat.f0
        have f1 := hat.f1
        have hk := hat.hk
        have hkz := hat.kz
        clear hat hq KL HQ
        go_wp2
        (try simp only [Exit.inBlock, Exit.then])
        refine bodyPost_ret (v := .agg #[.slice A ws.length c, .slice B bs.length d]) (by simp [results, Try.results24, go_sem, r0, r1]) rfl ?_
        have := HAT.out.fin HBX.out
        rw [HW.out] at this
        simpa only [HW.out] using this

end Go.Proofs.Ytlmnanlclialhaa
