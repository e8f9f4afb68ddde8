/- The walk of WmemNone. -/
import Derived.Test.YtkiagdlcbfdgnaaW3Base
namespace Go.Proofs.Ytkiagdlcbfdgnaa
open Go.RowKit

set_option maxRecDepth 100000 in
set_option maxHeartbeats 8000000 in
theorem walkNone (A B : Option Addr) (c d : Nat) (ws : List Int) (bs : List Bt) (a : Nat) (bl : Bool) (v : Int) (w : World) (m : MemAt w A ws B bs) (ha : a < 256) :
    Calls Try.prog 7 #[.agg #[.slice A ws.length c, .slice B bs.length d], .int .u8 a, .bool bl, .int .i64 v] w (BoolPost true w) := by
  have hb0 : Below w.heap.size w (w.alloc (.cells #[.slice A ws.length c, .slice B bs.length d] 25)) := (Below.refl _ w).alloc (Nat.le_refl _) _
  have KL := hide (long_any A B c d ws bs _ (m.later hb0))
  by_cases hL : longB ws bs = true
  · rw [hL] at KL
    clear hL m
    go_enter Try.func7, Try.ntmps7
    go_wp2_with fail
    refine KL.out.mono ?_
    rintro x w1 ⟨rfl, hb1⟩
    have q0 : w1.cell? ⟨w.heap.size, 0, none⟩ = some (.slice A ws.length c) := cell_keep (by simp [go_sem]) hb1
    have q1 : w1.cell? ⟨w.heap.size, 1, none⟩ = some (.slice B bs.length d) := cell_keep (by simp [go_sem]) hb1
    have hB1 := below_next hb0 (by simp) hb1
    clear hb1 KL
    go_wp2_with fail
    refine (shown_any _).mono ?_
    rintro x w2 ⟨rfl, hb2⟩
    go_wp2
    go_ret
    exact ⟨rfl, below_next hB1 hB1.size hb2⟩
  have hL' : longB ws bs = false := by simpa using hL
  have mo := mem_small m hL'
  rw [hL'] at KL
  clear hL hL' m
  have MO := hide mo
  clear mo
  have hfw : ws.length ≤ 20000 := MO.out.few
  have hfb : bs.length ≤ 20000 := MO.out.fewb
  have kl : ∀ i y, (i < 0 ∨ (ws.length : Int) ≤ i) → MemOk y A ws B bs → Calls Try.prog 12 #[.agg #[.slice A ws.length c, .slice B bs.length d], .int .i64 i] y (IEPost 0 30 y) := fun i y hi hy => by
    have := load_any A B c d ws bs i y hy
    rwa [ldV_no hi, erV_no hi] at this
  have ks : ∀ i y, (i < 0 ∨ (ws.length : Int) ≤ i) → MemOk y A ws B bs → Calls Try.prog 14 #[.agg #[.slice A ws.length c, .slice B bs.length d], .int .i64 i, .int .i64 v] y (MEPost A ws B bs.length d 30 y) := fun i y hi hy => by
    have := store_any A B c d ws bs i v y hy
    rwa [stV_no v hi, erV_no hi] at this
  have kc : ∀ i y, (i < 0 ∨ (ws.length : Int) ≤ i) → MemOk y A ws B bs → Calls Try.prog 18 #[.agg #[.slice A ws.length c, .slice B bs.length d], .int .i64 i, .int .i64 0, .int .i64 v] y (MBEPost A ws B bs.length d false 30 y) := fun i y hi hy => by
    have := cas_any A B c d ws bs i 0 v y hy
    rwa [casV_no 0 v hi, casB_no 0 hi, erV_no hi] at this
  have kw : ∀ i y, (i < 0 ∨ (ws.length : Int) ≤ i) → MemOk y A ws B bs → Calls Try.prog 16 #[.agg #[.slice A ws.length c, .slice B bs.length d], .int .i64 i, .int .i64 v] y (MIEPost A ws B bs.length d 0 30 y) := fun i y hi hy => by
    have := swap_any A B c d ws bs i v y hy
    rwa [stV_no v hi, ldV_no hi, erV_no hi] at this
  have kb : ∀ i y, (i < 0 ∨ (bs.length : Int) ≤ i) → MemOk y A ws B bs → Calls Try.prog 21 #[.agg #[.slice A ws.length c, .slice B bs.length d], .int .i64 i] y (REPost [] 30 y) := fun i y hi hy => by
    have := box_any A B c d ws bs i y hy
    rwa [bxV_no (by rw [boxes_length]; exact hi), erV_no hi] at this
  have kp : ∀ i E n y, (i < 0 ∨ (bs.length : Int) ≤ i) → MemOk y A ws B bs → Sees y y.heap.size 3 E 1 (ecells [(v, 0, 0)]) → Calls Try.prog 23 #[.agg #[.slice A ws.length c, .slice B bs.length d], .int .i64 i, .slice E 1 n] y (MPPost A ws.length c B bs (boxes bs) [(v, 0, 0)] 30 y) := fun i E n y hi hy he => by
    have := put_mem A B E c d n ws bs [(v, 0, 0)] i y hy (by simp) he
    rwa [ptV_no _ (by rw [boxes_length]; exact hi), erV_no hi] at this
  have KLD := hide kl; have KST := hide ks; have KCA := hide kc; have KSW := hide kw; have KBX := hide kb; have KPT := hide kp
  clear kl ks kc kw kb kp
  cases bl with
  | false =>
    obtain ⟨i, hi⟩ : ∃ i : Int, (ws.length : Int) + (a : Int) = i := ⟨_, rfl⟩
    obtain ⟨j, hj⟩ : ∃ j : Int, (bs.length : Int) + (a : Int) = j := ⟨_, rfl⟩
    have hI : i < 0 ∨ (ws.length : Int) ≤ i := by omega
    have hJ : j < 0 ∨ (bs.length : Int) ≤ j := by omega
    have HI := hide hi; have HJ := hide hj; have II := hide hI; have JJ := hide hJ
    clear hi hj hI hJ
    go_enter Try.func7, Try.ntmps7
    go_wp2_with fail
    refine KL.out.mono ?_
    rintro x w1 ⟨rfl, hb1⟩
    have q0 : w1.cell? ⟨w.heap.size, 0, none⟩ = some (.slice A ws.length c) := cell_keep (by simp [go_sem]) hb1
    have q1 : w1.cell? ⟨w.heap.size, 1, none⟩ = some (.slice B bs.length d) := cell_keep (by simp [go_sem]) hb1
    have hB := below_next hb0 (by simp) hb1
    replace MO := hide (MO.out.later hB)
    clear KL hb0 hb1
    go_wp2_with fail
    refine (shown_any _).mono ?_
    rintro x w2 ⟨rfl, hb⟩
    replace q0 := cell_keep q0 hb
    replace q1 := cell_keep q1 hb
    replace MO := hide (MO.out.later hb)
    replace hB := below_next hB hB.size hb
    clear hb
    go_wp2_with fail
    rw [HI.out]
    refine (KLD.out _ _ II.out MO.out).mono ?_
    rintro x w3 ⟨rfl, hb⟩
    replace q0 := cell_keep q0 hb
    replace q1 := cell_keep q1 hb
    replace MO := hide (MO.out.later hb)
    replace hB := below_next hB hB.size hb
    clear hb
    go_wp2_with fail
    refine (KST.out _ _ II.out MO.out).mono ?_
    rintro x w4 ⟨A1, c1, rfl, t1, ho, hb⟩
    have MC := hide (MO.out.words_at hb t1 rfl)
    clear t1 ho
    replace q0 := cell_keep q0 hb
    replace q1 := cell_keep q1 hb
    replace MO := hide (MO.out.later hb)
    replace hB := below_next hB hB.size hb
    clear hb
    have hb : Below w4.heap.size w4 (w4.alloc (.cells #[.slice A1 ws.length c1, .slice B bs.length d] 25)) := (Below.refl _ _).alloc (Nat.le_refl _) _
    have e0 : (w4.alloc (.cells #[.slice A1 ws.length c1, .slice B bs.length d] 25)).cell? ⟨w4.heap.size, 0, none⟩ = some (.slice A1 ws.length c1) := by simp [go_sem]
    have e1 : (w4.alloc (.cells #[.slice A1 ws.length c1, .slice B bs.length d] 25)).cell? ⟨w4.heap.size, 1, none⟩ = some (.slice B bs.length d) := by simp [go_sem]
    replace q0 := cell_keep q0 hb
    replace q1 := cell_keep q1 hb
    replace MO := hide (MO.out.later hb)
    replace MC := hide (MC.out.later hb)
    replace hB := below_next hB hB.size hb
    clear hb
    go_wp2_with fail
    refine (KCA.out _ _ II.out MO.out).mono ?_
    rintro x w5 ⟨A2, c2, rfl, t1, ho, hb⟩
    have MD := hide (MO.out.words_at hb t1 rfl)
    clear t1 ho
    replace q0 := cell_keep q0 hb
    replace q1 := cell_keep q1 hb
    replace e0 := cell_keep e0 hb
    replace e1 := cell_keep e1 hb
    replace MO := hide (MO.out.later hb)
    replace MC := hide (MC.out.later hb)
    replace hB := below_next hB hB.size hb
    clear hb
    have hb : Below w5.heap.size w5 (w5.alloc (.cells #[.slice A2 ws.length c2, .slice B bs.length d] 25)) := (Below.refl _ _).alloc (Nat.le_refl _) _
    have f0 : (w5.alloc (.cells #[.slice A2 ws.length c2, .slice B bs.length d] 25)).cell? ⟨w5.heap.size, 0, none⟩ = some (.slice A2 ws.length c2) := by simp [go_sem]
    have f1 : (w5.alloc (.cells #[.slice A2 ws.length c2, .slice B bs.length d] 25)).cell? ⟨w5.heap.size, 1, none⟩ = some (.slice B bs.length d) := by simp [go_sem]
    replace q0 := cell_keep q0 hb
    replace q1 := cell_keep q1 hb
    replace e0 := cell_keep e0 hb
    replace e1 := cell_keep e1 hb
    replace MO := hide (MO.out.later hb)
    replace MC := hide (MC.out.later hb)
    replace MD := hide (MD.out.later hb)
    replace hB := below_next hB hB.size hb
    clear hb
    go_wp2_with fail
    refine (KSW.out _ _ II.out MO.out).mono ?_
    rintro x w6 ⟨A3, c3, rfl, t1, ho, hb⟩
    have ME := hide (MO.out.words_at hb t1 rfl)
    clear t1 ho
    replace q0 := cell_keep q0 hb
    replace q1 := cell_keep q1 hb
    replace e0 := cell_keep e0 hb
    replace e1 := cell_keep e1 hb
    replace f0 := cell_keep f0 hb
    replace f1 := cell_keep f1 hb
    replace MO := hide (MO.out.later hb)
    replace MC := hide (MC.out.later hb)
    replace MD := hide (MD.out.later hb)
    replace hB := below_next hB hB.size hb
    clear hb
    have hb : Below w6.heap.size w6 (w6.alloc (.cells #[.slice A3 ws.length c3, .slice B bs.length d] 25)) := (Below.refl _ _).alloc (Nat.le_refl _) _
    have g0 : (w6.alloc (.cells #[.slice A3 ws.length c3, .slice B bs.length d] 25)).cell? ⟨w6.heap.size, 0, none⟩ = some (.slice A3 ws.length c3) := by simp [go_sem]
    have g1 : (w6.alloc (.cells #[.slice A3 ws.length c3, .slice B bs.length d] 25)).cell? ⟨w6.heap.size, 1, none⟩ = some (.slice B bs.length d) := by simp [go_sem]
    replace q0 := cell_keep q0 hb
    replace q1 := cell_keep q1 hb
    replace e0 := cell_keep e0 hb
    replace e1 := cell_keep e1 hb
    replace f0 := cell_keep f0 hb
    replace f1 := cell_keep f1 hb
    replace MO := hide (MO.out.later hb)
    replace MC := hide (MC.out.later hb)
    replace MD := hide (MD.out.later hb)
    replace ME := hide (ME.out.later hb)
    replace hB := below_next hB hB.size hb
    clear hb
    go_wp2_with fail
    rw [HJ.out]
    refine (KBX.out _ _ JJ.out MO.out).mono ?_
    rintro x w7 ⟨A4, c4, rfl, t4, hb⟩
    clear t4
    replace q0 := cell_keep q0 hb
    replace q1 := cell_keep q1 hb
    replace e0 := cell_keep e0 hb
    replace e1 := cell_keep e1 hb
    replace f0 := cell_keep f0 hb
    replace f1 := cell_keep f1 hb
    replace g0 := cell_keep g0 hb
    replace g1 := cell_keep g1 hb
    replace MO := hide (MO.out.later hb)
    replace MC := hide (MC.out.later hb)
    replace MD := hide (MD.out.later hb)
    replace ME := hide (ME.out.later hb)
    replace hB := below_next hB hB.size hb
    clear hb
    go_wp2_with fail
    have hb : Below w7.heap.size w7 (w7.alloc (.cells #[.int .i64 v, .int .i64 0, .int .i64 0] 68)) := (Below.refl _ _).alloc (Nat.le_refl _) _
    have he : Sees (w7.alloc (.cells #[.int .i64 v, .int .i64 0, .int .i64 0] 68)) (w7.alloc (.cells #[.int .i64 v, .int .i64 0, .int .i64 0] 68)).heap.size 3 (some ⟨w7.heap.size, 0, none⟩) 1 (ecells [(v, 0, 0)]) := sees_new w7 (ecells [(v, 0, 0)]) 68 3 1 rfl
    replace q0 := cell_keep q0 hb
    replace q1 := cell_keep q1 hb
    replace e0 := cell_keep e0 hb
    replace e1 := cell_keep e1 hb
    replace f0 := cell_keep f0 hb
    replace f1 := cell_keep f1 hb
    replace g0 := cell_keep g0 hb
    replace g1 := cell_keep g1 hb
    replace MO := hide (MO.out.later hb)
    replace MC := hide (MC.out.later hb)
    replace MD := hide (MD.out.later hb)
    replace ME := hide (ME.out.later hb)
    replace hB := below_next hB hB.size hb
    clear hb
    refine (KPT.out _ _ _ _ JJ.out MO.out he).mono ?_
    rintro x w8 ⟨B5, d5, b5, rfl, hx5, ok5, hb⟩
    have MF := hide (ok5.mem MO.out hb (by simp))
    have X5 := hide hx5
    clear ok5 hx5 he
    replace q0 := cell_keep q0 hb
    replace q1 := cell_keep q1 hb
    replace e0 := cell_keep e0 hb
    replace e1 := cell_keep e1 hb
    replace f0 := cell_keep f0 hb
    replace f1 := cell_keep f1 hb
    replace g0 := cell_keep g0 hb
    replace g1 := cell_keep g1 hb
    replace MO := hide (MO.out.later hb)
    replace MC := hide (MC.out.later hb)
    replace MD := hide (MD.out.later hb)
    replace ME := hide (ME.out.later hb)
    replace hB := below_next hB hB.size hb
    clear hb
    have hb : Below w8.heap.size w8 (w8.alloc (.cells #[.slice A ws.length c, .slice B5 b5.length d5] 25)) := (Below.refl _ _).alloc (Nat.le_refl _) _
    have h0 : (w8.alloc (.cells #[.slice A ws.length c, .slice B5 b5.length d5] 25)).cell? ⟨w8.heap.size, 0, none⟩ = some (.slice A ws.length c) := by simp [go_sem]
    have h1 : (w8.alloc (.cells #[.slice A ws.length c, .slice B5 b5.length d5] 25)).cell? ⟨w8.heap.size, 1, none⟩ = some (.slice B5 b5.length d5) := by simp [go_sem]
    replace q0 := cell_keep q0 hb
    replace q1 := cell_keep q1 hb
    replace e0 := cell_keep e0 hb
    replace e1 := cell_keep e1 hb
    replace f0 := cell_keep f0 hb
    replace f1 := cell_keep f1 hb
    replace g0 := cell_keep g0 hb
    replace g1 := cell_keep g1 hb
    replace MO := hide (MO.out.later hb)
    replace MC := hide (MC.out.later hb)
    replace MD := hide (MD.out.later hb)
    replace ME := hide (ME.out.later hb)
    replace MF := hide (MF.out.later hb)
    replace hB := below_next hB hB.size hb
    clear hb
    go_wp2_with fail
    generalize (w8.alloc (.cells #[.slice A ws.length c, .slice B5 b5.length d5] 25)) = wz at *
    simp only [List.append_eq, List.cons_append, List.nil_append]
    replace q0 : wz.drew.cell? ⟨w.heap.size, 0, none⟩ = some (.slice A ws.length c) := q0
    replace q1 : wz.drew.cell? ⟨w.heap.size, 1, none⟩ = some (.slice B bs.length d) := q1
    replace e0 : wz.drew.cell? ⟨w4.heap.size, 0, none⟩ = some (.slice A1 ws.length c1) := e0
    replace e1 : wz.drew.cell? ⟨w4.heap.size, 1, none⟩ = some (.slice B bs.length d) := e1
    replace f0 : wz.drew.cell? ⟨w5.heap.size, 0, none⟩ = some (.slice A2 ws.length c2) := f0
    replace f1 : wz.drew.cell? ⟨w5.heap.size, 1, none⟩ = some (.slice B bs.length d) := f1
    replace g0 : wz.drew.cell? ⟨w6.heap.size, 0, none⟩ = some (.slice A3 ws.length c3) := g0
    replace g1 : wz.drew.cell? ⟨w6.heap.size, 1, none⟩ = some (.slice B bs.length d) := g1
    replace h0 : wz.drew.cell? ⟨w8.heap.size, 0, none⟩ = some (.slice A ws.length c) := h0
    replace h1 : wz.drew.cell? ⟨w8.heap.size, 1, none⟩ = some (.slice B5 b5.length d5) := h1
    replace MO := hide (MO.out.later ((Below.refl _ _).drew))
    replace MC := hide (MC.out.later ((Below.refl _ _).drew))
    replace MD := hide (MD.out.later ((Below.refl _ _).drew))
    replace ME := hide (ME.out.later ((Below.refl _ _).drew))
    replace MF := hide (MF.out.later ((Below.refl _ _).drew))
    replace hB := hB.drew
    go_region_held3 (fun w' => w'.cell? ⟨w.heap.size, 0, none⟩ = some (.slice A ws.length c) ∧ w'.cell? ⟨w.heap.size, 1, none⟩ = some (.slice B bs.length d) ∧ w'.cell? ⟨w4.heap.size, 0, none⟩ = some (.slice A1 ws.length c1) ∧ w'.cell? ⟨w4.heap.size, 1, none⟩ = some (.slice B bs.length d) ∧ w'.cell? ⟨w5.heap.size, 0, none⟩ = some (.slice A2 ws.length c2) ∧ w'.cell? ⟨w5.heap.size, 1, none⟩ = some (.slice B bs.length d) ∧ w'.cell? ⟨w6.heap.size, 0, none⟩ = some (.slice A3 ws.length c3) ∧ w'.cell? ⟨w6.heap.size, 1, none⟩ = some (.slice B bs.length d) ∧ w'.cell? ⟨w8.heap.size, 0, none⟩ = some (.slice A ws.length c) ∧ w'.cell? ⟨w8.heap.size, 1, none⟩ = some (.slice B5 b5.length d5))
      (exact ⟨q0, q1, e0, e1, f0, f1, g0, g1, h0, h1⟩)
      (first
        | (go_at_call_of 11 A1; refine (itsM_any A1 B c1 d ws bs _ MC.out).mono ?_; rintro x vv ⟨A8, c8, B8, d8, b8, rfl, hx8, m8, hv⟩; have X8 := hide hx8; have R8 := hide m8; clear hx8 m8; replace q0 := cell_keep q0 hv; replace q1 := cell_keep q1 hv; replace e0 := cell_keep e0 hv; replace e1 := cell_keep e1 hv; replace f0 := cell_keep f0 hv; replace f1 := cell_keep f1 hv; replace g0 := cell_keep g0 hv; replace g1 := cell_keep g1 hv; replace h0 := cell_keep h0 hv; replace h1 := cell_keep h1 hv; replace MO := hide (MO.out.later hv); replace MC := hide (MC.out.later hv); replace MD := hide (MD.out.later hv); replace ME := hide (ME.out.later hv); replace MF := hide (MF.out.later hv); replace hB := below_next hB hB.size hv; clear hv)
        | (go_at_call_of 11 A2; refine (itsM_any A2 B c2 d ws bs _ MD.out).mono ?_; rintro x vv ⟨A8, c8, B8, d8, b8, rfl, hx8, m8, hv⟩; have X8 := hide hx8; have R8 := hide m8; clear hx8 m8; replace q0 := cell_keep q0 hv; replace q1 := cell_keep q1 hv; replace e0 := cell_keep e0 hv; replace e1 := cell_keep e1 hv; replace f0 := cell_keep f0 hv; replace f1 := cell_keep f1 hv; replace g0 := cell_keep g0 hv; replace g1 := cell_keep g1 hv; replace h0 := cell_keep h0 hv; replace h1 := cell_keep h1 hv; replace MO := hide (MO.out.later hv); replace MC := hide (MC.out.later hv); replace MD := hide (MD.out.later hv); replace ME := hide (ME.out.later hv); replace MF := hide (MF.out.later hv); replace hB := below_next hB hB.size hv; clear hv)
        | (go_at_call_of 11 A3; refine (itsM_any A3 B c3 d ws bs _ ME.out).mono ?_; rintro x vv ⟨A8, c8, B8, d8, b8, rfl, hx8, m8, hv⟩; have X8 := hide hx8; have R8 := hide m8; clear hx8 m8; replace q0 := cell_keep q0 hv; replace q1 := cell_keep q1 hv; replace e0 := cell_keep e0 hv; replace e1 := cell_keep e1 hv; replace f0 := cell_keep f0 hv; replace f1 := cell_keep f1 hv; replace g0 := cell_keep g0 hv; replace g1 := cell_keep g1 hv; replace h0 := cell_keep h0 hv; replace h1 := cell_keep h1 hv; replace MO := hide (MO.out.later hv); replace MC := hide (MC.out.later hv); replace MD := hide (MD.out.later hv); replace ME := hide (ME.out.later hv); replace MF := hide (MF.out.later hv); replace hB := below_next hB hB.size hv; clear hv)
        | (go_at_call_of 11 B5; refine (itsM_any A B5 c d5 ws b5 _ MF.out).mono ?_; rintro x vv ⟨A8, c8, B8, d8, b8, rfl, hx8, m8, hv⟩; have X8 := hide (hx8.trans X5.out); have R8 := hide m8; clear hx8 m8; replace q0 := cell_keep q0 hv; replace q1 := cell_keep q1 hv; replace e0 := cell_keep e0 hv; replace e1 := cell_keep e1 hv; replace f0 := cell_keep f0 hv; replace f1 := cell_keep f1 hv; replace g0 := cell_keep g0 hv; replace g1 := cell_keep g1 hv; replace h0 := cell_keep h0 hv; replace h1 := cell_keep h1 hv; replace MO := hide (MO.out.later hv); replace MC := hide (MC.out.later hv); replace MD := hide (MD.out.later hv); replace ME := hide (ME.out.later hv); replace MF := hide (MF.out.later hv); replace hB := below_next hB hB.size hv; clear hv)
        | (go_at_call_of 11 B; refine (itsM_any A B c d ws bs _ MO.out).mono ?_; rintro x vv ⟨A9, c9, B9, d9, b9, rfl, hx9, m9, hv⟩; have X9 := hide hx9; have R9 := hide m9; clear hx9 m9; replace R8 := hide (R8.out.later hv); replace q0 := cell_keep q0 hv; replace q1 := cell_keep q1 hv; replace e0 := cell_keep e0 hv; replace e1 := cell_keep e1 hv; replace f0 := cell_keep f0 hv; replace f1 := cell_keep f1 hv; replace g0 := cell_keep g0 hv; replace g1 := cell_keep g1 hv; replace h0 := cell_keep h0 hv; replace h1 := cell_keep h1 hv; replace MO := hide (MO.out.later hv); replace MC := hide (MC.out.later hv); replace MD := hide (MD.out.later hv); replace ME := hide (ME.out.later hv); replace MF := hide (MF.out.later hv); replace hB := below_next hB hB.size hv; clear hv)
        | (go_at_call 20; refine (sameM_true A8 B8 A9 B9 c8 d8 c9 d9 ws ws b8 b9 _ R8.out R9.out rfl (X8.out.trans X9.out.symm)).mono ?_; rintro x vv ⟨rfl, hv⟩; replace q0 := cell_keep q0 hv; replace q1 := cell_keep q1 hv; replace e0 := cell_keep e0 hv; replace e1 := cell_keep e1 hv; replace f0 := cell_keep f0 hv; replace f1 := cell_keep f1 hv; replace g0 := cell_keep g0 hv; replace g1 := cell_keep g1 hv; replace h0 := cell_keep h0 hv; replace h1 := cell_keep h1 hv; replace MO := hide (MO.out.later hv); replace MC := hide (MC.out.later hv); replace MD := hide (MD.out.later hv); replace ME := hide (ME.out.later hv); replace MF := hide (MF.out.later hv); replace hB := below_next hB hB.size hv; clear R8 X8 R9 X9; clear hv))
    go_wp2
    go_ret
    exact ⟨rfl, hB⟩
  | true =>
    obtain ⟨i, hi⟩ : ∃ i : Int, (-1 : Int) - (a : Int) = i := ⟨_, rfl⟩
    obtain ⟨j, hj⟩ : ∃ j : Int, (-1 : Int) - (a : Int) = j := ⟨_, rfl⟩
    have hI : i < 0 ∨ (ws.length : Int) ≤ i := by omega
    have hJ : j < 0 ∨ (bs.length : Int) ≤ j := by omega
    have HI := hide hi; have HJ := hide hj; have II := hide hI; have JJ := hide hJ
    clear hi hj hI hJ
    go_enter Try.func7, Try.ntmps7
    go_wp2_with fail
    refine KL.out.mono ?_
    rintro x w1 ⟨rfl, hb1⟩
    have q0 : w1.cell? ⟨w.heap.size, 0, none⟩ = some (.slice A ws.length c) := cell_keep (by simp [go_sem]) hb1
    have q1 : w1.cell? ⟨w.heap.size, 1, none⟩ = some (.slice B bs.length d) := cell_keep (by simp [go_sem]) hb1
    have hB := below_next hb0 (by simp) hb1
    replace MO := hide (MO.out.later hB)
    clear KL hb0 hb1
    go_wp2_with fail
    refine (shown_any _).mono ?_
    rintro x w2 ⟨rfl, hb⟩
    replace q0 := cell_keep q0 hb
    replace q1 := cell_keep q1 hb
    replace MO := hide (MO.out.later hb)
    replace hB := below_next hB hB.size hb
    clear hb
    go_wp2_with fail
    rw [HI.out]
    refine (KLD.out _ _ II.out MO.out).mono ?_
    rintro x w3 ⟨rfl, hb⟩
    replace q0 := cell_keep q0 hb
    replace q1 := cell_keep q1 hb
    replace MO := hide (MO.out.later hb)
    replace hB := below_next hB hB.size hb
    clear hb
    go_wp2_with fail
    refine (KST.out _ _ II.out MO.out).mono ?_
    rintro x w4 ⟨A1, c1, rfl, t1, ho, hb⟩
    have MC := hide (MO.out.words_at hb t1 rfl)
    clear t1 ho
    replace q0 := cell_keep q0 hb
    replace q1 := cell_keep q1 hb
    replace MO := hide (MO.out.later hb)
    replace hB := below_next hB hB.size hb
    clear hb
    have hb : Below w4.heap.size w4 (w4.alloc (.cells #[.slice A1 ws.length c1, .slice B bs.length d] 25)) := (Below.refl _ _).alloc (Nat.le_refl _) _
    have e0 : (w4.alloc (.cells #[.slice A1 ws.length c1, .slice B bs.length d] 25)).cell? ⟨w4.heap.size, 0, none⟩ = some (.slice A1 ws.length c1) := by simp [go_sem]
    have e1 : (w4.alloc (.cells #[.slice A1 ws.length c1, .slice B bs.length d] 25)).cell? ⟨w4.heap.size, 1, none⟩ = some (.slice B bs.length d) := by simp [go_sem]
    replace q0 := cell_keep q0 hb
    replace q1 := cell_keep q1 hb
    replace MO := hide (MO.out.later hb)
    replace MC := hide (MC.out.later hb)
    replace hB := below_next hB hB.size hb
    clear hb
    go_wp2_with fail
    refine (KCA.out _ _ II.out MO.out).mono ?_
    rintro x w5 ⟨A2, c2, rfl, t1, ho, hb⟩
    have MD := hide (MO.out.words_at hb t1 rfl)
    clear t1 ho
    replace q0 := cell_keep q0 hb
    replace q1 := cell_keep q1 hb
    replace e0 := cell_keep e0 hb
    replace e1 := cell_keep e1 hb
    replace MO := hide (MO.out.later hb)
    replace MC := hide (MC.out.later hb)
    replace hB := below_next hB hB.size hb
    clear hb
    have hb : Below w5.heap.size w5 (w5.alloc (.cells #[.slice A2 ws.length c2, .slice B bs.length d] 25)) := (Below.refl _ _).alloc (Nat.le_refl _) _
    have f0 : (w5.alloc (.cells #[.slice A2 ws.length c2, .slice B bs.length d] 25)).cell? ⟨w5.heap.size, 0, none⟩ = some (.slice A2 ws.length c2) := by simp [go_sem]
    have f1 : (w5.alloc (.cells #[.slice A2 ws.length c2, .slice B bs.length d] 25)).cell? ⟨w5.heap.size, 1, none⟩ = some (.slice B bs.length d) := by simp [go_sem]
    replace q0 := cell_keep q0 hb
    replace q1 := cell_keep q1 hb
    replace e0 := cell_keep e0 hb
    replace e1 := cell_keep e1 hb
    replace MO := hide (MO.out.later hb)
    replace MC := hide (MC.out.later hb)
    replace MD := hide (MD.out.later hb)
    replace hB := below_next hB hB.size hb
    clear hb
    go_wp2_with fail
    refine (KSW.out _ _ II.out MO.out).mono ?_
    rintro x w6 ⟨A3, c3, rfl, t1, ho, hb⟩
    have ME := hide (MO.out.words_at hb t1 rfl)
    clear t1 ho
    replace q0 := cell_keep q0 hb
    replace q1 := cell_keep q1 hb
    replace e0 := cell_keep e0 hb
    replace e1 := cell_keep e1 hb
    replace f0 := cell_keep f0 hb
    replace f1 := cell_keep f1 hb
    replace MO := hide (MO.out.later hb)
    replace MC := hide (MC.out.later hb)
    replace MD := hide (MD.out.later hb)
    replace hB := below_next hB hB.size hb
    clear hb
    have hb : Below w6.heap.size w6 (w6.alloc (.cells #[.slice A3 ws.length c3, .slice B bs.length d] 25)) := (Below.refl _ _).alloc (Nat.le_refl _) _
    have g0 : (w6.alloc (.cells #[.slice A3 ws.length c3, .slice B bs.length d] 25)).cell? ⟨w6.heap.size, 0, none⟩ = some (.slice A3 ws.length c3) := by simp [go_sem]
    have g1 : (w6.alloc (.cells #[.slice A3 ws.length c3, .slice B bs.length d] 25)).cell? ⟨w6.heap.size, 1, none⟩ = some (.slice B bs.length d) := by simp [go_sem]
    replace q0 := cell_keep q0 hb
    replace q1 := cell_keep q1 hb
    replace e0 := cell_keep e0 hb
    replace e1 := cell_keep e1 hb
    replace f0 := cell_keep f0 hb
    replace f1 := cell_keep f1 hb
    replace MO := hide (MO.out.later hb)
    replace MC := hide (MC.out.later hb)
    replace MD := hide (MD.out.later hb)
    replace ME := hide (ME.out.later hb)
    replace hB := below_next hB hB.size hb
    clear hb
    go_wp2_with fail
    refine (KBX.out _ _ (HI.out.symm.trans HJ.out ▸ JJ.out) MO.out).mono ?_
    rintro x w7 ⟨A4, c4, rfl, t4, hb⟩
    clear t4
    replace q0 := cell_keep q0 hb
    replace q1 := cell_keep q1 hb
    replace e0 := cell_keep e0 hb
    replace e1 := cell_keep e1 hb
    replace f0 := cell_keep f0 hb
    replace f1 := cell_keep f1 hb
    replace g0 := cell_keep g0 hb
    replace g1 := cell_keep g1 hb
    replace MO := hide (MO.out.later hb)
    replace MC := hide (MC.out.later hb)
    replace MD := hide (MD.out.later hb)
    replace ME := hide (ME.out.later hb)
    replace hB := below_next hB hB.size hb
    clear hb
    go_wp2_with fail
    have hb : Below w7.heap.size w7 (w7.alloc (.cells #[.int .i64 v, .int .i64 0, .int .i64 0] 68)) := (Below.refl _ _).alloc (Nat.le_refl _) _
    have he : Sees (w7.alloc (.cells #[.int .i64 v, .int .i64 0, .int .i64 0] 68)) (w7.alloc (.cells #[.int .i64 v, .int .i64 0, .int .i64 0] 68)).heap.size 3 (some ⟨w7.heap.size, 0, none⟩) 1 (ecells [(v, 0, 0)]) := sees_new w7 (ecells [(v, 0, 0)]) 68 3 1 rfl
    replace q0 := cell_keep q0 hb
    replace q1 := cell_keep q1 hb
    replace e0 := cell_keep e0 hb
    replace e1 := cell_keep e1 hb
    replace f0 := cell_keep f0 hb
    replace f1 := cell_keep f1 hb
    replace g0 := cell_keep g0 hb
    replace g1 := cell_keep g1 hb
    replace MO := hide (MO.out.later hb)
    replace MC := hide (MC.out.later hb)
    replace MD := hide (MD.out.later hb)
    replace ME := hide (ME.out.later hb)
    replace hB := below_next hB hB.size hb
    clear hb
    refine (KPT.out _ _ _ _ (HI.out.symm.trans HJ.out ▸ JJ.out) MO.out he).mono ?_
    rintro x w8 ⟨B5, d5, b5, rfl, hx5, ok5, hb⟩
    have MF := hide (ok5.mem MO.out hb (by simp))
    have X5 := hide hx5
    clear ok5 hx5 he
    replace q0 := cell_keep q0 hb
    replace q1 := cell_keep q1 hb
    replace e0 := cell_keep e0 hb
    replace e1 := cell_keep e1 hb
    replace f0 := cell_keep f0 hb
    replace f1 := cell_keep f1 hb
    replace g0 := cell_keep g0 hb
    replace g1 := cell_keep g1 hb
    replace MO := hide (MO.out.later hb)
    replace MC := hide (MC.out.later hb)
    replace MD := hide (MD.out.later hb)
    replace ME := hide (ME.out.later hb)
    replace hB := below_next hB hB.size hb
    clear hb
    have hb : Below w8.heap.size w8 (w8.alloc (.cells #[.slice A ws.length c, .slice B5 b5.length d5] 25)) := (Below.refl _ _).alloc (Nat.le_refl _) _
    have h0 : (w8.alloc (.cells #[.slice A ws.length c, .slice B5 b5.length d5] 25)).cell? ⟨w8.heap.size, 0, none⟩ = some (.slice A ws.length c) := by simp [go_sem]
    have h1 : (w8.alloc (.cells #[.slice A ws.length c, .slice B5 b5.length d5] 25)).cell? ⟨w8.heap.size, 1, none⟩ = some (.slice B5 b5.length d5) := by simp [go_sem]
    replace q0 := cell_keep q0 hb
    replace q1 := cell_keep q1 hb
    replace e0 := cell_keep e0 hb
    replace e1 := cell_keep e1 hb
    replace f0 := cell_keep f0 hb
    replace f1 := cell_keep f1 hb
    replace g0 := cell_keep g0 hb
    replace g1 := cell_keep g1 hb
    replace MO := hide (MO.out.later hb)
    replace MC := hide (MC.out.later hb)
    replace MD := hide (MD.out.later hb)
    replace ME := hide (ME.out.later hb)
    replace MF := hide (MF.out.later hb)
    replace hB := below_next hB hB.size hb
    clear hb
    go_wp2_with fail
    generalize (w8.alloc (.cells #[.slice A ws.length c, .slice B5 b5.length d5] 25)) = wz at *
    simp only [List.append_eq, List.cons_append, List.nil_append]
    replace q0 : wz.drew.cell? ⟨w.heap.size, 0, none⟩ = some (.slice A ws.length c) := q0
    replace q1 : wz.drew.cell? ⟨w.heap.size, 1, none⟩ = some (.slice B bs.length d) := q1
    replace e0 : wz.drew.cell? ⟨w4.heap.size, 0, none⟩ = some (.slice A1 ws.length c1) := e0
    replace e1 : wz.drew.cell? ⟨w4.heap.size, 1, none⟩ = some (.slice B bs.length d) := e1
    replace f0 : wz.drew.cell? ⟨w5.heap.size, 0, none⟩ = some (.slice A2 ws.length c2) := f0
    replace f1 : wz.drew.cell? ⟨w5.heap.size, 1, none⟩ = some (.slice B bs.length d) := f1
    replace g0 : wz.drew.cell? ⟨w6.heap.size, 0, none⟩ = some (.slice A3 ws.length c3) := g0
    replace g1 : wz.drew.cell? ⟨w6.heap.size, 1, none⟩ = some (.slice B bs.length d) := g1
    replace h0 : wz.drew.cell? ⟨w8.heap.size, 0, none⟩ = some (.slice A ws.length c) := h0
    replace h1 : wz.drew.cell? ⟨w8.heap.size, 1, none⟩ = some (.slice B5 b5.length d5) := h1
    replace MO := hide (MO.out.later ((Below.refl _ _).drew))
    replace MC := hide (MC.out.later ((Below.refl _ _).drew))
    replace MD := hide (MD.out.later ((Below.refl _ _).drew))
    replace ME := hide (ME.out.later ((Below.refl _ _).drew))
    replace MF := hide (MF.out.later ((Below.refl _ _).drew))
    replace hB := hB.drew
    go_region_held3 (fun w' => w'.cell? ⟨w.heap.size, 0, none⟩ = some (.slice A ws.length c) ∧ w'.cell? ⟨w.heap.size, 1, none⟩ = some (.slice B bs.length d) ∧ w'.cell? ⟨w4.heap.size, 0, none⟩ = some (.slice A1 ws.length c1) ∧ w'.cell? ⟨w4.heap.size, 1, none⟩ = some (.slice B bs.length d) ∧ w'.cell? ⟨w5.heap.size, 0, none⟩ = some (.slice A2 ws.length c2) ∧ w'.cell? ⟨w5.heap.size, 1, none⟩ = some (.slice B bs.length d) ∧ w'.cell? ⟨w6.heap.size, 0, none⟩ = some (.slice A3 ws.length c3) ∧ w'.cell? ⟨w6.heap.size, 1, none⟩ = some (.slice B bs.length d) ∧ w'.cell? ⟨w8.heap.size, 0, none⟩ = some (.slice A ws.length c) ∧ w'.cell? ⟨w8.heap.size, 1, none⟩ = some (.slice B5 b5.length d5))
      (exact ⟨q0, q1, e0, e1, f0, f1, g0, g1, h0, h1⟩)
      (first
        | (go_at_call_of 11 A1; refine (itsM_any A1 B c1 d ws bs _ MC.out).mono ?_; rintro x vv ⟨A8, c8, B8, d8, b8, rfl, hx8, m8, hv⟩; have X8 := hide hx8; have R8 := hide m8; clear hx8 m8; replace q0 := cell_keep q0 hv; replace q1 := cell_keep q1 hv; replace e0 := cell_keep e0 hv; replace e1 := cell_keep e1 hv; replace f0 := cell_keep f0 hv; replace f1 := cell_keep f1 hv; replace g0 := cell_keep g0 hv; replace g1 := cell_keep g1 hv; replace h0 := cell_keep h0 hv; replace h1 := cell_keep h1 hv; replace MO := hide (MO.out.later hv); replace MC := hide (MC.out.later hv); replace MD := hide (MD.out.later hv); replace ME := hide (ME.out.later hv); replace MF := hide (MF.out.later hv); replace hB := below_next hB hB.size hv; clear hv)
        | (go_at_call_of 11 A2; refine (itsM_any A2 B c2 d ws bs _ MD.out).mono ?_; rintro x vv ⟨A8, c8, B8, d8, b8, rfl, hx8, m8, hv⟩; have X8 := hide hx8; have R8 := hide m8; clear hx8 m8; replace q0 := cell_keep q0 hv; replace q1 := cell_keep q1 hv; replace e0 := cell_keep e0 hv; replace e1 := cell_keep e1 hv; replace f0 := cell_keep f0 hv; replace f1 := cell_keep f1 hv; replace g0 := cell_keep g0 hv; replace g1 := cell_keep g1 hv; replace h0 := cell_keep h0 hv; replace h1 := cell_keep h1 hv; replace MO := hide (MO.out.later hv); replace MC := hide (MC.out.later hv); replace MD := hide (MD.out.later hv); replace ME := hide (ME.out.later hv); replace MF := hide (MF.out.later hv); replace hB := below_next hB hB.size hv; clear hv)
        | (go_at_call_of 11 A3; refine (itsM_any A3 B c3 d ws bs _ ME.out).mono ?_; rintro x vv ⟨A8, c8, B8, d8, b8, rfl, hx8, m8, hv⟩; have X8 := hide hx8; have R8 := hide m8; clear hx8 m8; replace q0 := cell_keep q0 hv; replace q1 := cell_keep q1 hv; replace e0 := cell_keep e0 hv; replace e1 := cell_keep e1 hv; replace f0 := cell_keep f0 hv; replace f1 := cell_keep f1 hv; replace g0 := cell_keep g0 hv; replace g1 := cell_keep g1 hv; replace h0 := cell_keep h0 hv; replace h1 := cell_keep h1 hv; replace MO := hide (MO.out.later hv); replace MC := hide (MC.out.later hv); replace MD := hide (MD.out.later hv); replace ME := hide (ME.out.later hv); replace MF := hide (MF.out.later hv); replace hB := below_next hB hB.size hv; clear hv)
        | (go_at_call_of 11 B5; refine (itsM_any A B5 c d5 ws b5 _ MF.out).mono ?_; rintro x vv ⟨A8, c8, B8, d8, b8, rfl, hx8, m8, hv⟩; have X8 := hide (hx8.trans X5.out); have R8 := hide m8; clear hx8 m8; replace q0 := cell_keep q0 hv; replace q1 := cell_keep q1 hv; replace e0 := cell_keep e0 hv; replace e1 := cell_keep e1 hv; replace f0 := cell_keep f0 hv; replace f1 := cell_keep f1 hv; replace g0 := cell_keep g0 hv; replace g1 := cell_keep g1 hv; replace h0 := cell_keep h0 hv; replace h1 := cell_keep h1 hv; replace MO := hide (MO.out.later hv); replace MC := hide (MC.out.later hv); replace MD := hide (MD.out.later hv); replace ME := hide (ME.out.later hv); replace MF := hide (MF.out.later hv); replace hB := below_next hB hB.size hv; clear hv)
        | (go_at_call_of 11 B; refine (itsM_any A B c d ws bs _ MO.out).mono ?_; rintro x vv ⟨A9, c9, B9, d9, b9, rfl, hx9, m9, hv⟩; have X9 := hide hx9; have R9 := hide m9; clear hx9 m9; replace R8 := hide (R8.out.later hv); replace q0 := cell_keep q0 hv; replace q1 := cell_keep q1 hv; replace e0 := cell_keep e0 hv; replace e1 := cell_keep e1 hv; replace f0 := cell_keep f0 hv; replace f1 := cell_keep f1 hv; replace g0 := cell_keep g0 hv; replace g1 := cell_keep g1 hv; replace h0 := cell_keep h0 hv; replace h1 := cell_keep h1 hv; replace MO := hide (MO.out.later hv); replace MC := hide (MC.out.later hv); replace MD := hide (MD.out.later hv); replace ME := hide (ME.out.later hv); replace MF := hide (MF.out.later hv); replace hB := below_next hB hB.size hv; clear hv)
        | (go_at_call 20; refine (sameM_true A8 B8 A9 B9 c8 d8 c9 d9 ws ws b8 b9 _ R8.out R9.out rfl (X8.out.trans X9.out.symm)).mono ?_; rintro x vv ⟨rfl, hv⟩; replace q0 := cell_keep q0 hv; replace q1 := cell_keep q1 hv; replace e0 := cell_keep e0 hv; replace e1 := cell_keep e1 hv; replace f0 := cell_keep f0 hv; replace f1 := cell_keep f1 hv; replace g0 := cell_keep g0 hv; replace g1 := cell_keep g1 hv; replace h0 := cell_keep h0 hv; replace h1 := cell_keep h1 hv; replace MO := hide (MO.out.later hv); replace MC := hide (MC.out.later hv); replace MD := hide (MD.out.later hv); replace ME := hide (ME.out.later hv); replace MF := hide (MF.out.later hv); replace hB := below_next hB hB.size hv; clear R8 X8 R9 X9; clear hv))
    go_wp2
    go_ret
    exact ⟨rfl, hB⟩
end Go.Proofs.Ytkiagdlcbfdgnaa
