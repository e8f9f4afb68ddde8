/- The walk of WmemSwaps. -/
import Derived.Test.YtkiagdlcbfdgnaaW3Base
namespace Go.Proofs.Ytkiagdlcbfdgnaa
open Go.RowKit

set_option maxRecDepth 100000 in
set_option maxHeartbeats 8000000 in
theorem walkSwaps (A B : Option Addr) (c d : Nat) (ws : List Int) (bs : List Bt) (a : Nat) (v u : Int) (w : World) (m : MemAt w A ws B bs) (ha : a < 256) :
    Calls Try.prog 8 #[.agg #[.slice A ws.length c, .slice B bs.length d], .int .u8 a, .int .i64 v, .int .i64 u] w (BoolPost true w) := by
  have hb0 : Below w.heap.size w (w.alloc (.cells #[.slice A ws.length c, .slice B bs.length d] 25)) := (Below.refl _ w).alloc (Nat.le_refl _) _
  have KL := hide (long_any A B c d ws bs _ (m.later hb0))
  by_cases hL : longB ws bs = true
  · rw [hL] at KL
    clear hL m
    go_enter Try.func8, Try.ntmps8
    go_wp2_with fail
    refine KL.out.mono ?_
    rintro x w1 ⟨rfl, hb1⟩
    have q0 : w1.cell? ⟨w.heap.size, 0, none⟩ = some (.slice A ws.length c) := cell_keep (by simp [go_sem]) hb1
    have q1 : w1.cell? ⟨w.heap.size, 1, none⟩ = some (.slice B bs.length d) := cell_keep (by simp [go_sem]) hb1
    have hB1 := below_next hb0 (by simp) hb1
    clear hb1 KL
    go_wp2_with fail
    refine (shown_any _).mono ?_
    rintro x w2 ⟨rfl, hb2⟩
    go_wp2
    go_ret
    exact ⟨rfl, below_next hB1 hB1.size hb2⟩
  have hL' : longB ws bs = false := by simpa using hL
  have mo := mem_small m hL'
  rw [hL'] at KL
  clear hL hL' m
  by_cases hn : ws.length = 0
  · have hn1 : ((ws.length : Int) == 0) = true := by simp [hn]
    clear hn mo
    go_enter Try.func8, Try.ntmps8
    go_wp2_with fail
    refine KL.out.mono ?_
    rintro x w1 ⟨rfl, hb1⟩
    have q0 : w1.cell? ⟨w.heap.size, 0, none⟩ = some (.slice A ws.length c) := cell_keep (by simp [go_sem]) hb1
    have q1 : w1.cell? ⟨w.heap.size, 1, none⟩ = some (.slice B bs.length d) := cell_keep (by simp [go_sem]) hb1
    have hB1 := below_next hb0 (by simp) hb1
    clear hb1 KL
    go_wp2_with fail
    refine (shown_any _).mono ?_
    rintro x w2 ⟨rfl, hb2⟩
    go_wp2
    go_ret
    exact ⟨rfl, below_next hB1 hB1.size hb2⟩
  have hn1 : ((ws.length : Int) == 0) = false := by rw [beq_eq_false_iff_ne]; omega
  have hn0 : 0 < ws.length := by omega
  have hn2 : ¬ (ws.length : Int) = 0 := by omega
  clear hn
  have MO := hide mo
  clear mo
  obtain ⟨k, hk, hkn⟩ := mod_at a ws.length hn0
  obtain ⟨lv, hlv⟩ := at_some hkn
  have k1 : ∀ y, MemOk y A ws B bs → Calls Try.prog 16 #[.agg #[.slice A ws.length c, .slice B bs.length d], .int .i64 k, .int .i64 v] y (MIEPost A (ws.set k v) B bs.length d lv 0 y) := fun y hy => by
    have := swap_any A B c d ws bs k v y hy
    rwa [stV_at v hkn, ldV_at hlv, erV_at hkn] at this
  have k2 : ∀ A' c' y, MemOk y A' (ws.set k v) B bs → Calls Try.prog 16 #[.agg #[.slice A' (ws.set k v).length c', .slice B bs.length d], .int .i64 k, .int .i64 u] y (MIEPost A' ((ws.set k v).set k u) B bs.length d v 0 y) := fun A' c' y hy => by
    have hl : k < (ws.set k v).length := by simpa using hkn
    have := swap_any A' B c' d (ws.set k v) bs k u y hy
    rwa [stV_at u hl, ldV_at (set_at hkn), erV_at hl] at this
  have k3 : ∀ y, MemOk y A ws B bs → Calls Try.prog 14 #[.agg #[.slice A ws.length c, .slice B bs.length d], .int .i64 k, .int .i64 u] y (MEPost A (ws.set k u) B bs.length d 0 y) := fun y hy => by
    have := store_any A B c d ws bs k u y hy
    rwa [stV_at u hkn, erV_at hkn] at this
  have e12 : (ws.set k v).set k u = ws.set k u := List.set_set ..
  have l1 : (ws.set k v).length = ws.length := by simp
  have l2 : ((ws.set k v).set k u).length = (ws.set k v).length := by simp
  have l3 : (ws.set k u).length = ws.length := by simp
  generalize (ws.set k v).set k u = s2 at *
  generalize ws.set k v = s1 at *
  generalize ws.set k u = s3 at *
  have K1 := hide k1; have K2 := hide k2; have K3 := hide k3; have E12 := hide e12; have L1 := hide l1; have L2 := hide l2; have L3 := hide l3; have HLV := hide hlv; have HK := hide hk
  clear k1 k2 k3 e12 l1 l2 l3 hlv hk
  have hk0 : (0 : Int) ≤ (k : Int) := Int.natCast_nonneg _
  have hk1 : (k : Int) < (ws.length : Int) := by omega
  go_enter Try.func8, Try.ntmps8
  go_wp2_with fail
  refine KL.out.mono ?_
  rintro x w1 ⟨rfl, hb1⟩
  have q0 : w1.cell? ⟨w.heap.size, 0, none⟩ = some (.slice A ws.length c) := cell_keep (by simp [go_sem]) hb1
  have q1 : w1.cell? ⟨w.heap.size, 1, none⟩ = some (.slice B bs.length d) := cell_keep (by simp [go_sem]) hb1
  have hB := below_next hb0 (by simp) hb1
  replace MO := hide (MO.out.later hB)
  clear KL hb0 hb1
  go_wp2_with fail
  refine (shown_any _).mono ?_
  rintro x w2 ⟨rfl, hb⟩
  replace q0 := cell_keep q0 hb
  replace q1 := cell_keep q1 hb
  replace MO := hide (MO.out.later hb)
  replace hB := below_next hB hB.size hb
  clear hb
  go_wp2_with fail
  rw [HK.out]
  refine (K1.out _ MO.out).mono ?_
  rintro x w3 ⟨A1, c1, rfl, t1, ho, hb⟩
  have MA := hide (MO.out.words_at hb t1 L1.out)
  clear t1 ho
  replace q0 := cell_keep q0 hb
  replace q1 := cell_keep q1 hb
  replace MO := hide (MO.out.later hb)
  replace hB := below_next hB hB.size hb
  clear hb
  have hb : Below w3.heap.size w3 (w3.alloc (.cells #[.slice A1 s1.length c1, .slice B bs.length d] 25)) := (Below.refl _ _).alloc (Nat.le_refl _) _
  have a0 : (w3.alloc (.cells #[.slice A1 s1.length c1, .slice B bs.length d] 25)).cell? ⟨w3.heap.size, 0, none⟩ = some (.slice A1 s1.length c1) := by simp [go_sem]
  have a1 : (w3.alloc (.cells #[.slice A1 s1.length c1, .slice B bs.length d] 25)).cell? ⟨w3.heap.size, 1, none⟩ = some (.slice B bs.length d) := by simp [go_sem]
  replace q0 := cell_keep q0 hb
  replace q1 := cell_keep q1 hb
  replace MO := hide (MO.out.later hb)
  replace MA := hide (MA.out.later hb)
  replace hB := below_next hB hB.size hb
  clear hb
  go_wp2_with fail
  refine (K2.out A1 c1 _ MA.out).mono ?_
  rintro x w4 ⟨A2, c2, rfl, t1, ho, hb⟩
  have MB := hide (MA.out.words_at hb t1 L2.out)
  clear t1 ho
  replace q0 := cell_keep q0 hb
  replace q1 := cell_keep q1 hb
  replace a0 := cell_keep a0 hb
  replace a1 := cell_keep a1 hb
  replace MO := hide (MO.out.later hb)
  replace MA := hide (MA.out.later hb)
  replace hB := below_next hB hB.size hb
  clear hb
  have hb : Below w4.heap.size w4 (w4.alloc (.cells #[.slice A2 s2.length c2, .slice B bs.length d] 25)) := (Below.refl _ _).alloc (Nat.le_refl _) _
  have b0 : (w4.alloc (.cells #[.slice A2 s2.length c2, .slice B bs.length d] 25)).cell? ⟨w4.heap.size, 0, none⟩ = some (.slice A2 s2.length c2) := by simp [go_sem]
  have b1 : (w4.alloc (.cells #[.slice A2 s2.length c2, .slice B bs.length d] 25)).cell? ⟨w4.heap.size, 1, none⟩ = some (.slice B bs.length d) := by simp [go_sem]
  replace q0 := cell_keep q0 hb
  replace q1 := cell_keep q1 hb
  replace a0 := cell_keep a0 hb
  replace a1 := cell_keep a1 hb
  replace MO := hide (MO.out.later hb)
  replace MA := hide (MA.out.later hb)
  replace MB := hide (MB.out.later hb)
  replace hB := below_next hB hB.size hb
  clear hb
  go_wp2_with fail
  refine (K3.out _ MO.out).mono ?_
  rintro x w5 ⟨A3, c3, rfl, t1, ho, hb⟩
  have MC := hide (MO.out.words_at hb t1 L3.out)
  clear t1 ho
  replace q0 := cell_keep q0 hb
  replace q1 := cell_keep q1 hb
  replace a0 := cell_keep a0 hb
  replace a1 := cell_keep a1 hb
  replace b0 := cell_keep b0 hb
  replace b1 := cell_keep b1 hb
  replace MO := hide (MO.out.later hb)
  replace MA := hide (MA.out.later hb)
  replace MB := hide (MB.out.later hb)
  replace hB := below_next hB hB.size hb
  clear hb
  have hb : Below w5.heap.size w5 (w5.alloc (.cells #[.slice A3 s3.length c3, .slice B bs.length d] 25)) := (Below.refl _ _).alloc (Nat.le_refl _) _
  have e0 : (w5.alloc (.cells #[.slice A3 s3.length c3, .slice B bs.length d] 25)).cell? ⟨w5.heap.size, 0, none⟩ = some (.slice A3 s3.length c3) := by simp [go_sem]
  have e1 : (w5.alloc (.cells #[.slice A3 s3.length c3, .slice B bs.length d] 25)).cell? ⟨w5.heap.size, 1, none⟩ = some (.slice B bs.length d) := by simp [go_sem]
  replace q0 := cell_keep q0 hb
  replace q1 := cell_keep q1 hb
  replace a0 := cell_keep a0 hb
  replace a1 := cell_keep a1 hb
  replace b0 := cell_keep b0 hb
  replace b1 := cell_keep b1 hb
  replace MO := hide (MO.out.later hb)
  replace MA := hide (MA.out.later hb)
  replace MB := hide (MB.out.later hb)
  replace MC := hide (MC.out.later hb)
  replace hB := below_next hB hB.size hb
  clear hb
  go_wp2_with fail
  generalize (w5.alloc (.cells #[.slice A3 s3.length c3, .slice B bs.length d] 25)) = wz at *
  obtain ⟨bw, ow, lv2, rfl, hbw, hlv2, cw⟩ := MO.out.words.num hkn
  obtain rfl : lv2 = lv := by have := HLV.out; rw [hlv2] at this; injection this
  clear hlv2
  replace q0 : wz.drew.cell? ⟨w.heap.size, 0, none⟩ = some (.slice (some ⟨bw, ow, none⟩) ws.length c) := q0
  replace cw : wz.drew.cell? ⟨bw, ow + k, none⟩ = some (.int .i64 lv2) := cw
  replace b0 : wz.drew.cell? ⟨w4.heap.size, 0, none⟩ = some (.slice A2 s2.length c2) := b0
  replace b1 : wz.drew.cell? ⟨w4.heap.size, 1, none⟩ = some (.slice B bs.length d) := b1
  replace e0 : wz.drew.cell? ⟨w5.heap.size, 0, none⟩ = some (.slice A3 s3.length c3) := e0
  replace e1 : wz.drew.cell? ⟨w5.heap.size, 1, none⟩ = some (.slice B bs.length d) := e1
  replace MO := hide (MO.out.later ((Below.refl _ _).drew))
  replace MA := hide (MA.out.later ((Below.refl _ _).drew))
  replace MB := hide (MB.out.later ((Below.refl _ _).drew))
  replace MC := hide (MC.out.later ((Below.refl _ _).drew))
  replace hB := hB.drew
  clear q1 a0 a1
  go_region_held3 (fun w' => w'.cell? ⟨w.heap.size, 0, none⟩ = some (.slice (some ⟨bw, ow, none⟩) ws.length c) ∧ w'.cell? ⟨bw, ow + k, none⟩ = some (.int .i64 lv2) ∧ w'.cell? ⟨w4.heap.size, 0, none⟩ = some (.slice A2 s2.length c2) ∧ w'.cell? ⟨w4.heap.size, 1, none⟩ = some (.slice B bs.length d) ∧ w'.cell? ⟨w5.heap.size, 0, none⟩ = some (.slice A3 s3.length c3) ∧ w'.cell? ⟨w5.heap.size, 1, none⟩ = some (.slice B bs.length d))
    (exact ⟨q0, cw, b0, b1, e0, e1⟩)
    (first
      | (go_at_call_of 11 A2; refine (itsM_any A2 B c2 d s2 bs _ MB.out).mono ?_; rintro x vv ⟨A4, c4, B4, d4, bs4, rfl, hx4, m4, hv⟩; have X4 := hide hx4; have R4 := hide m4; clear hx4 m4; replace q0 := cell_keep q0 hv; replace cw := cell_keep cw hv; replace b0 := cell_keep b0 hv; replace b1 := cell_keep b1 hv; replace e0 := cell_keep e0 hv; replace e1 := cell_keep e1 hv; replace MO := hide (MO.out.later hv); replace MA := hide (MA.out.later hv); replace MB := hide (MB.out.later hv); replace MC := hide (MC.out.later hv); replace hB := below_next hB hB.size hv; clear hv)
      | (go_at_call_of 11 A3; refine (itsM_any A3 B c3 d s3 bs _ MC.out).mono ?_; rintro x vv ⟨A5, c5, B5, d5, bs5, rfl, hx5, m5, hv⟩; have X5 := hide hx5; have R5 := hide m5; clear hx5 m5; replace R4 := hide (R4.out.later hv); replace q0 := cell_keep q0 hv; replace cw := cell_keep cw hv; replace b0 := cell_keep b0 hv; replace b1 := cell_keep b1 hv; replace e0 := cell_keep e0 hv; replace e1 := cell_keep e1 hv; replace MO := hide (MO.out.later hv); replace MA := hide (MA.out.later hv); replace MB := hide (MB.out.later hv); replace MC := hide (MC.out.later hv); replace hB := below_next hB hB.size hv; clear hv)
      | (go_at_call 20; refine (sameM_true A4 B4 A5 B5 c4 d4 c5 d5 s2 s3 bs4 bs5 _ R4.out R5.out E12.out (X4.out.trans X5.out.symm)).mono ?_; rintro x vv ⟨rfl, hv⟩; replace q0 := cell_keep q0 hv; replace cw := cell_keep cw hv; replace b0 := cell_keep b0 hv; replace b1 := cell_keep b1 hv; replace e0 := cell_keep e0 hv; replace e1 := cell_keep e1 hv; replace MO := hide (MO.out.later hv); replace MA := hide (MA.out.later hv); replace MB := hide (MB.out.later hv); replace MC := hide (MC.out.later hv); replace hB := below_next hB hB.size hv; clear hv))
  go_wp2
  go_ret
  exact ⟨rfl, hB⟩
end Go.Proofs.Ytkiagdlcbfdgnaa
