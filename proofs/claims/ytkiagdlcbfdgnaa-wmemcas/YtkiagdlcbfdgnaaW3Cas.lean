/- The walk of WmemCas. -/
import Derived.Test.YtkiagdlcbfdgnaaW3Base
namespace Go.Proofs.Ytkiagdlcbfdgnaa
open Go.RowKit

set_option maxRecDepth 100000 in
set_option maxHeartbeats 8000000 in
theorem walkCas (A B : Option Addr) (c d : Nat) (ws : List Int) (bs : List Bt) (a : Nat) (old v u : Int) (w : World) (m : MemAt w A ws B bs) (ha : a < 256) :
    Calls Try.prog 6 #[.agg #[.slice A ws.length c, .slice B bs.length d], .int .u8 a, .int .i64 old, .int .i64 v, .int .i64 u] w (BoolPost true w) := by
  have hb0 : Below w.heap.size w (w.alloc (.cells #[.slice A ws.length c, .slice B bs.length d] 25)) := (Below.refl _ w).alloc (Nat.le_refl _) _
  have KL := hide (long_any A B c d ws bs _ (m.later hb0))
  by_cases hL : longB ws bs = true
  · rw [hL] at KL
    clear hL m
    go_enter Try.func6, Try.ntmps6
    go_wp2_with fail
    refine KL.out.mono ?_
    rintro x w1 ⟨rfl, hb1⟩
    have q0 : w1.cell? ⟨w.heap.size, 0, none⟩ = some (.slice A ws.length c) := cell_keep (by simp [go_sem]) hb1
    have q1 : w1.cell? ⟨w.heap.size, 1, none⟩ = some (.slice B bs.length d) := cell_keep (by simp [go_sem]) hb1
    have hB1 := below_next hb0 (by simp) hb1
    clear hb1 KL
    go_wp2_with fail
    refine (shown_any _).mono ?_
    rintro x w2 ⟨rfl, hb2⟩
    go_wp2
    go_ret
    exact ⟨rfl, below_next hB1 hB1.size hb2⟩
  have hL' : longB ws bs = false := by simpa using hL
  have mo := mem_small m hL'
  rw [hL'] at KL
  clear hL hL' m
  by_cases hn : ws.length = 0
  · have hn1 : ((ws.length : Int) == 0) = true := by simp [hn]
    clear hn mo
    go_enter Try.func6, Try.ntmps6
    go_wp2_with fail
    refine KL.out.mono ?_
    rintro x w1 ⟨rfl, hb1⟩
    have q0 : w1.cell? ⟨w.heap.size, 0, none⟩ = some (.slice A ws.length c) := cell_keep (by simp [go_sem]) hb1
    have q1 : w1.cell? ⟨w.heap.size, 1, none⟩ = some (.slice B bs.length d) := cell_keep (by simp [go_sem]) hb1
    have hB1 := below_next hb0 (by simp) hb1
    clear hb1 KL
    go_wp2_with fail
    refine (shown_any _).mono ?_
    rintro x w2 ⟨rfl, hb2⟩
    go_wp2
    go_ret
    exact ⟨rfl, below_next hB1 hB1.size hb2⟩
  have hn1 : ((ws.length : Int) == 0) = false := by rw [beq_eq_false_iff_ne]; omega
  have hn0 : 0 < ws.length := by omega
  have hn2 : ¬ (ws.length : Int) = 0 := by omega
  clear hn
  have MO := hide mo
  clear mo
  obtain ⟨k, hk, hkn, hkm⟩ := mod_at' a ws.length hn0
  have HKM := hide hkm
  clear hkm
  obtain ⟨lv, hlv⟩ := at_some hkn
  obtain ⟨p, hp⟩ : ∃ p, (v == lv) = p := ⟨_, rfl⟩
  obtain ⟨q, hq⟩ : ∃ q, (lv == old) = q := ⟨_, rfl⟩
  have hq' : (old == lv) = q := by rw [← hq]; exact BEq.comm
  have k1 : ∀ y, MemOk y A ws B bs → Calls Try.prog 18 #[.agg #[.slice A ws.length c, .slice B bs.length d], .int .i64 k, .int .i64 lv, .int .i64 v] y (MBEPost A (ws.set k v) B bs.length d true 0 y) := fun y hy => by
    have := cas_any A B c d ws bs k lv v y hy
    rwa [casV_at lv v hlv, casB_at lv hlv, erV_at hkn, if_pos rfl, beq_self_eq_true] at this
  obtain ⟨yv, hyv⟩ : ∃ x, (if v = lv then u else v) = x := ⟨_, rfl⟩
  have hyt : p = true → yv = u := fun h => by rw [h, beq_iff_eq] at hp; rw [← hyv, if_pos hp]
  have hyf : p = false → yv = v := fun h => by rw [h, beq_eq_false_iff_ne] at hp; rw [← hyv, if_neg hp]
  have hl : k < (ws.set k v).length := by simpa using hkn
  have k2 : ∀ A' c' y, MemOk y A' (ws.set k v) B bs → Calls Try.prog 18 #[.agg #[.slice A' (ws.set k v).length c', .slice B bs.length d], .int .i64 k, .int .i64 lv, .int .i64 u] y (MBEPost A' ((ws.set k v).set k yv) B bs.length d p 0 y) := fun A' c' y hy => by
    have := cas_any A' B c' d (ws.set k v) bs k lv u y hy
    rwa [casV_at lv u (set_at hkn), casB_at lv (set_at hkn), erV_at hl, hp, hyv] at this
  obtain ⟨s3, hs3⟩ : ∃ x, casV ws k old v = x := ⟨_, rfl⟩
  have k3 : ∀ y, MemOk y A ws B bs → Calls Try.prog 18 #[.agg #[.slice A ws.length c, .slice B bs.length d], .int .i64 k, .int .i64 old, .int .i64 v] y (MBEPost A s3 B bs.length d q 0 y) := fun y hy => by
    have := cas_any A B c d ws bs k old v y hy
    rwa [hs3, casB_at old hlv, erV_at hkn, hq] at this
  have e3 : q = false → s3 = ws := fun h => by
    rw [← hs3, casV, if_neg]
    rw [casB_at old hlv, hq, h]
    exact Bool.false_ne_true
  have l1 : (ws.set k v).length = ws.length := by simp
  have l2 : ((ws.set k v).set k yv).length = (ws.set k v).length := by simp
  have l3 : s3.length = ws.length := by rw [← hs3]; exact casV_length _ _ _ _
  have k4 : ∀ A' c' y, MemOk y A' ((ws.set k v).set k yv) B bs → Calls Try.prog 12 #[.agg #[.slice A' ((ws.set k v).set k yv).length c', .slice B bs.length d], .int .i64 k] y (IEPost yv 0 y) := fun A' c' y hy => by
    have := load_any A' B c' d ((ws.set k v).set k yv) bs k y hy
    rwa [ldV_at (set_at hl), erV_at (by rw [l2]; exact hl)] at this
  generalize (ws.set k v).set k yv = s2 at *
  generalize ws.set k v = s1 at *
  have K1 := hide k1; have K2 := hide k2; have K3 := hide k3; have K4 := hide k4; have E3 := hide e3; have L1 := hide l1; have L2 := hide l2; have L3 := hide l3; have HLV := hide hlv; have HK := hide hk
  clear k1 k2 k3 k4 e3 l1 l2 l3 hlv hk hs3 hyv hl
  have hk0 : (0 : Int) ≤ (k : Int) := Int.natCast_nonneg _
  have hk1 : (k : Int) < (ws.length : Int) := by omega
  have HYT := hide hyt
  have HYF := hide hyf
  clear hyt hyf
  cases q with
  | true =>
    cases p with
    | true =>
      obtain rfl := HYT.out rfl
      go_enter Try.func6, Try.ntmps6
      go_wp2_with fail
      refine KL.out.mono ?_
      rintro x w1 ⟨rfl, hb1⟩
      have q0 : w1.cell? ⟨w.heap.size, 0, none⟩ = some (.slice A ws.length c) := cell_keep (by simp [go_sem]) hb1
      have q1 : w1.cell? ⟨w.heap.size, 1, none⟩ = some (.slice B bs.length d) := cell_keep (by simp [go_sem]) hb1
      have hB := below_next hb0 (by simp) hb1
      replace MO := hide (MO.out.later hB)
      clear KL hb0 hb1
      go_wp2_with fail
      refine (shown_any _).mono ?_
      rintro x w2 ⟨rfl, hb⟩
      replace q0 := cell_keep q0 hb
      replace q1 := cell_keep q1 hb
      replace MO := hide (MO.out.later hb)
      replace hB := below_next hB hB.size hb
      clear hb
      obtain ⟨bw, ow, lv2, rfl, hbw, hlv2, cw⟩ := MO.out.words.num hkn
      obtain rfl : lv2 = lv := by have := HLV.out; rw [hlv2] at this; injection this
      clear hlv2
      have cm : w2.cell? ⟨bw, ow + a % ws.length, none⟩ = some (.int .i64 lv2) := by rw [HKM.out]; exact cw
      have hm0 : (0 : Int) ≤ (a : Int) % (ws.length : Int) := by rw [HK.out]; exact hk0
      have hm1 : (a : Int) % (ws.length : Int) < (ws.length : Int) := by rw [HK.out]; exact hk1
      go_wp2_with fail
      rw [HK.out]
      clear cm cw hm0 hm1
      refine (K1.out _ MO.out).mono ?_
      rintro x w3 ⟨A1, c1, rfl, t1, ho, hb⟩
      have MA := hide (MO.out.words_at hb t1 L1.out)
      clear t1 ho
      replace q0 := cell_keep q0 hb
      replace q1 := cell_keep q1 hb
      replace MO := hide (MO.out.later hb)
      replace hB := below_next hB hB.size hb
      clear hb
      have hb : Below w3.heap.size w3 (w3.alloc (.cells #[.slice A1 s1.length c1, .slice B bs.length d] 25)) := (Below.refl _ _).alloc (Nat.le_refl _) _
      have a0 : (w3.alloc (.cells #[.slice A1 s1.length c1, .slice B bs.length d] 25)).cell? ⟨w3.heap.size, 0, none⟩ = some (.slice A1 s1.length c1) := by simp [go_sem]
      have a1 : (w3.alloc (.cells #[.slice A1 s1.length c1, .slice B bs.length d] 25)).cell? ⟨w3.heap.size, 1, none⟩ = some (.slice B bs.length d) := by simp [go_sem]
      replace q0 := cell_keep q0 hb
      replace q1 := cell_keep q1 hb
      replace MO := hide (MO.out.later hb)
      replace MA := hide (MA.out.later hb)
      replace hB := below_next hB hB.size hb
      clear hb
      go_wp2_with fail
      refine (K2.out A1 c1 _ MA.out).mono ?_
      rintro x w4 ⟨A2, c2, rfl, t1, ho, hb⟩
      have MB := hide (MA.out.words_at hb t1 L2.out)
      clear t1 ho
      replace q0 := cell_keep q0 hb
      replace q1 := cell_keep q1 hb
      replace a0 := cell_keep a0 hb
      replace a1 := cell_keep a1 hb
      replace MO := hide (MO.out.later hb)
      replace MA := hide (MA.out.later hb)
      replace hB := below_next hB hB.size hb
      clear hb
      have hb : Below w4.heap.size w4 (w4.alloc (.cells #[.slice A2 s2.length c2, .slice B bs.length d] 25)) := (Below.refl _ _).alloc (Nat.le_refl _) _
      have b0 : (w4.alloc (.cells #[.slice A2 s2.length c2, .slice B bs.length d] 25)).cell? ⟨w4.heap.size, 0, none⟩ = some (.slice A2 s2.length c2) := by simp [go_sem]
      have b1 : (w4.alloc (.cells #[.slice A2 s2.length c2, .slice B bs.length d] 25)).cell? ⟨w4.heap.size, 1, none⟩ = some (.slice B bs.length d) := by simp [go_sem]
      replace q0 := cell_keep q0 hb
      replace q1 := cell_keep q1 hb
      replace a0 := cell_keep a0 hb
      replace a1 := cell_keep a1 hb
      replace MO := hide (MO.out.later hb)
      replace MA := hide (MA.out.later hb)
      replace MB := hide (MB.out.later hb)
      replace hB := below_next hB hB.size hb
      clear hb
      go_wp2_with fail
      refine (K3.out _ MO.out).mono ?_
      rintro x w5 ⟨A3, c3, rfl, t1, ho, hb⟩
      have MC := hide (MO.out.words_at hb t1 L3.out)
      clear t1 ho
      replace q0 := cell_keep q0 hb
      replace q1 := cell_keep q1 hb
      replace a0 := cell_keep a0 hb
      replace a1 := cell_keep a1 hb
      replace b0 := cell_keep b0 hb
      replace b1 := cell_keep b1 hb
      replace MO := hide (MO.out.later hb)
      replace MA := hide (MA.out.later hb)
      replace MB := hide (MB.out.later hb)
      replace hB := below_next hB hB.size hb
      clear hb
      have hb : Below w5.heap.size w5 (w5.alloc (.cells #[.slice A3 s3.length c3, .slice B bs.length d] 25)) := (Below.refl _ _).alloc (Nat.le_refl _) _
      have e0 : (w5.alloc (.cells #[.slice A3 s3.length c3, .slice B bs.length d] 25)).cell? ⟨w5.heap.size, 0, none⟩ = some (.slice A3 s3.length c3) := by simp [go_sem]
      have e1 : (w5.alloc (.cells #[.slice A3 s3.length c3, .slice B bs.length d] 25)).cell? ⟨w5.heap.size, 1, none⟩ = some (.slice B bs.length d) := by simp [go_sem]
      replace q0 := cell_keep q0 hb
      replace q1 := cell_keep q1 hb
      replace a0 := cell_keep a0 hb
      replace a1 := cell_keep a1 hb
      replace b0 := cell_keep b0 hb
      replace b1 := cell_keep b1 hb
      replace MO := hide (MO.out.later hb)
      replace MA := hide (MA.out.later hb)
      replace MB := hide (MB.out.later hb)
      replace MC := hide (MC.out.later hb)
      replace hB := below_next hB hB.size hb
      clear hb
      go_wp2_with fail
      refine (K4.out A2 c2 _ MB.out).mono ?_
      rintro x w6 ⟨rfl, hb⟩
      replace q0 := cell_keep q0 hb
      replace q1 := cell_keep q1 hb
      replace a0 := cell_keep a0 hb
      replace a1 := cell_keep a1 hb
      replace b0 := cell_keep b0 hb
      replace b1 := cell_keep b1 hb
      replace e0 := cell_keep e0 hb
      replace e1 := cell_keep e1 hb
      replace MO := hide (MO.out.later hb)
      replace MA := hide (MA.out.later hb)
      replace MB := hide (MB.out.later hb)
      replace MC := hide (MC.out.later hb)
      replace hB := below_next hB hB.size hb
      clear hb
      go_wp2_with fail
      go_quiet (fail)
      go_wp2
      go_ret
      exact ⟨rfl, below_drewN hB _⟩
    | false =>
      obtain rfl := HYF.out rfl
      go_enter Try.func6, Try.ntmps6
      go_wp2_with fail
      refine KL.out.mono ?_
      rintro x w1 ⟨rfl, hb1⟩
      have q0 : w1.cell? ⟨w.heap.size, 0, none⟩ = some (.slice A ws.length c) := cell_keep (by simp [go_sem]) hb1
      have q1 : w1.cell? ⟨w.heap.size, 1, none⟩ = some (.slice B bs.length d) := cell_keep (by simp [go_sem]) hb1
      have hB := below_next hb0 (by simp) hb1
      replace MO := hide (MO.out.later hB)
      clear KL hb0 hb1
      go_wp2_with fail
      refine (shown_any _).mono ?_
      rintro x w2 ⟨rfl, hb⟩
      replace q0 := cell_keep q0 hb
      replace q1 := cell_keep q1 hb
      replace MO := hide (MO.out.later hb)
      replace hB := below_next hB hB.size hb
      clear hb
      obtain ⟨bw, ow, lv2, rfl, hbw, hlv2, cw⟩ := MO.out.words.num hkn
      obtain rfl : lv2 = lv := by have := HLV.out; rw [hlv2] at this; injection this
      clear hlv2
      have cm : w2.cell? ⟨bw, ow + a % ws.length, none⟩ = some (.int .i64 lv2) := by rw [HKM.out]; exact cw
      have hm0 : (0 : Int) ≤ (a : Int) % (ws.length : Int) := by rw [HK.out]; exact hk0
      have hm1 : (a : Int) % (ws.length : Int) < (ws.length : Int) := by rw [HK.out]; exact hk1
      go_wp2_with fail
      rw [HK.out]
      clear cm cw hm0 hm1
      refine (K1.out _ MO.out).mono ?_
      rintro x w3 ⟨A1, c1, rfl, t1, ho, hb⟩
      have MA := hide (MO.out.words_at hb t1 L1.out)
      clear t1 ho
      replace q0 := cell_keep q0 hb
      replace q1 := cell_keep q1 hb
      replace MO := hide (MO.out.later hb)
      replace hB := below_next hB hB.size hb
      clear hb
      have hb : Below w3.heap.size w3 (w3.alloc (.cells #[.slice A1 s1.length c1, .slice B bs.length d] 25)) := (Below.refl _ _).alloc (Nat.le_refl _) _
      have a0 : (w3.alloc (.cells #[.slice A1 s1.length c1, .slice B bs.length d] 25)).cell? ⟨w3.heap.size, 0, none⟩ = some (.slice A1 s1.length c1) := by simp [go_sem]
      have a1 : (w3.alloc (.cells #[.slice A1 s1.length c1, .slice B bs.length d] 25)).cell? ⟨w3.heap.size, 1, none⟩ = some (.slice B bs.length d) := by simp [go_sem]
      replace q0 := cell_keep q0 hb
      replace q1 := cell_keep q1 hb
      replace MO := hide (MO.out.later hb)
      replace MA := hide (MA.out.later hb)
      replace hB := below_next hB hB.size hb
      clear hb
      go_wp2_with fail
      refine (K2.out A1 c1 _ MA.out).mono ?_
      rintro x w4 ⟨A2, c2, rfl, t1, ho, hb⟩
      have MB := hide (MA.out.words_at hb t1 L2.out)
      clear t1 ho
      replace q0 := cell_keep q0 hb
      replace q1 := cell_keep q1 hb
      replace a0 := cell_keep a0 hb
      replace a1 := cell_keep a1 hb
      replace MO := hide (MO.out.later hb)
      replace MA := hide (MA.out.later hb)
      replace hB := below_next hB hB.size hb
      clear hb
      have hb : Below w4.heap.size w4 (w4.alloc (.cells #[.slice A2 s2.length c2, .slice B bs.length d] 25)) := (Below.refl _ _).alloc (Nat.le_refl _) _
      have b0 : (w4.alloc (.cells #[.slice A2 s2.length c2, .slice B bs.length d] 25)).cell? ⟨w4.heap.size, 0, none⟩ = some (.slice A2 s2.length c2) := by simp [go_sem]
      have b1 : (w4.alloc (.cells #[.slice A2 s2.length c2, .slice B bs.length d] 25)).cell? ⟨w4.heap.size, 1, none⟩ = some (.slice B bs.length d) := by simp [go_sem]
      replace q0 := cell_keep q0 hb
      replace q1 := cell_keep q1 hb
      replace a0 := cell_keep a0 hb
      replace a1 := cell_keep a1 hb
      replace MO := hide (MO.out.later hb)
      replace MA := hide (MA.out.later hb)
      replace MB := hide (MB.out.later hb)
      replace hB := below_next hB hB.size hb
      clear hb
      go_wp2_with fail
      refine (K3.out _ MO.out).mono ?_
      rintro x w5 ⟨A3, c3, rfl, t1, ho, hb⟩
      have MC := hide (MO.out.words_at hb t1 L3.out)
      clear t1 ho
      replace q0 := cell_keep q0 hb
      replace q1 := cell_keep q1 hb
      replace a0 := cell_keep a0 hb
      replace a1 := cell_keep a1 hb
      replace b0 := cell_keep b0 hb
      replace b1 := cell_keep b1 hb
      replace MO := hide (MO.out.later hb)
      replace MA := hide (MA.out.later hb)
      replace MB := hide (MB.out.later hb)
      replace hB := below_next hB hB.size hb
      clear hb
      have hb : Below w5.heap.size w5 (w5.alloc (.cells #[.slice A3 s3.length c3, .slice B bs.length d] 25)) := (Below.refl _ _).alloc (Nat.le_refl _) _
      have e0 : (w5.alloc (.cells #[.slice A3 s3.length c3, .slice B bs.length d] 25)).cell? ⟨w5.heap.size, 0, none⟩ = some (.slice A3 s3.length c3) := by simp [go_sem]
      have e1 : (w5.alloc (.cells #[.slice A3 s3.length c3, .slice B bs.length d] 25)).cell? ⟨w5.heap.size, 1, none⟩ = some (.slice B bs.length d) := by simp [go_sem]
      replace q0 := cell_keep q0 hb
      replace q1 := cell_keep q1 hb
      replace a0 := cell_keep a0 hb
      replace a1 := cell_keep a1 hb
      replace b0 := cell_keep b0 hb
      replace b1 := cell_keep b1 hb
      replace MO := hide (MO.out.later hb)
      replace MA := hide (MA.out.later hb)
      replace MB := hide (MB.out.later hb)
      replace MC := hide (MC.out.later hb)
      replace hB := below_next hB hB.size hb
      clear hb
      go_wp2_with fail
      refine (K4.out A2 c2 _ MB.out).mono ?_
      rintro x w6 ⟨rfl, hb⟩
      replace q0 := cell_keep q0 hb
      replace q1 := cell_keep q1 hb
      replace a0 := cell_keep a0 hb
      replace a1 := cell_keep a1 hb
      replace b0 := cell_keep b0 hb
      replace b1 := cell_keep b1 hb
      replace e0 := cell_keep e0 hb
      replace e1 := cell_keep e1 hb
      replace MO := hide (MO.out.later hb)
      replace MA := hide (MA.out.later hb)
      replace MB := hide (MB.out.later hb)
      replace MC := hide (MC.out.later hb)
      replace hB := below_next hB hB.size hb
      clear hb
      go_wp2_with fail
      go_quiet (fail)
      go_wp2
      go_ret
      exact ⟨rfl, below_drewN hB _⟩
  | false =>
    cases p with
    | true =>
      obtain rfl := HYT.out rfl
      replace E3 := hide (E3.out rfl)
      go_enter Try.func6, Try.ntmps6
      go_wp2_with fail
      refine KL.out.mono ?_
      rintro x w1 ⟨rfl, hb1⟩
      have q0 : w1.cell? ⟨w.heap.size, 0, none⟩ = some (.slice A ws.length c) := cell_keep (by simp [go_sem]) hb1
      have q1 : w1.cell? ⟨w.heap.size, 1, none⟩ = some (.slice B bs.length d) := cell_keep (by simp [go_sem]) hb1
      have hB := below_next hb0 (by simp) hb1
      replace MO := hide (MO.out.later hB)
      clear KL hb0 hb1
      go_wp2_with fail
      refine (shown_any _).mono ?_
      rintro x w2 ⟨rfl, hb⟩
      replace q0 := cell_keep q0 hb
      replace q1 := cell_keep q1 hb
      replace MO := hide (MO.out.later hb)
      replace hB := below_next hB hB.size hb
      clear hb
      obtain ⟨bw, ow, lv2, rfl, hbw, hlv2, cw⟩ := MO.out.words.num hkn
      obtain rfl : lv2 = lv := by have := HLV.out; rw [hlv2] at this; injection this
      clear hlv2
      have cm : w2.cell? ⟨bw, ow + a % ws.length, none⟩ = some (.int .i64 lv2) := by rw [HKM.out]; exact cw
      have hm0 : (0 : Int) ≤ (a : Int) % (ws.length : Int) := by rw [HK.out]; exact hk0
      have hm1 : (a : Int) % (ws.length : Int) < (ws.length : Int) := by rw [HK.out]; exact hk1
      go_wp2_with fail
      rw [HK.out]
      clear cm cw hm0 hm1
      refine (K1.out _ MO.out).mono ?_
      rintro x w3 ⟨A1, c1, rfl, t1, ho, hb⟩
      have MA := hide (MO.out.words_at hb t1 L1.out)
      clear t1 ho
      replace q0 := cell_keep q0 hb
      replace q1 := cell_keep q1 hb
      replace MO := hide (MO.out.later hb)
      replace hB := below_next hB hB.size hb
      clear hb
      have hb : Below w3.heap.size w3 (w3.alloc (.cells #[.slice A1 s1.length c1, .slice B bs.length d] 25)) := (Below.refl _ _).alloc (Nat.le_refl _) _
      have a0 : (w3.alloc (.cells #[.slice A1 s1.length c1, .slice B bs.length d] 25)).cell? ⟨w3.heap.size, 0, none⟩ = some (.slice A1 s1.length c1) := by simp [go_sem]
      have a1 : (w3.alloc (.cells #[.slice A1 s1.length c1, .slice B bs.length d] 25)).cell? ⟨w3.heap.size, 1, none⟩ = some (.slice B bs.length d) := by simp [go_sem]
      replace q0 := cell_keep q0 hb
      replace q1 := cell_keep q1 hb
      replace MO := hide (MO.out.later hb)
      replace MA := hide (MA.out.later hb)
      replace hB := below_next hB hB.size hb
      clear hb
      go_wp2_with fail
      refine (K2.out A1 c1 _ MA.out).mono ?_
      rintro x w4 ⟨A2, c2, rfl, t1, ho, hb⟩
      have MB := hide (MA.out.words_at hb t1 L2.out)
      clear t1 ho
      replace q0 := cell_keep q0 hb
      replace q1 := cell_keep q1 hb
      replace a0 := cell_keep a0 hb
      replace a1 := cell_keep a1 hb
      replace MO := hide (MO.out.later hb)
      replace MA := hide (MA.out.later hb)
      replace hB := below_next hB hB.size hb
      clear hb
      have hb : Below w4.heap.size w4 (w4.alloc (.cells #[.slice A2 s2.length c2, .slice B bs.length d] 25)) := (Below.refl _ _).alloc (Nat.le_refl _) _
      have b0 : (w4.alloc (.cells #[.slice A2 s2.length c2, .slice B bs.length d] 25)).cell? ⟨w4.heap.size, 0, none⟩ = some (.slice A2 s2.length c2) := by simp [go_sem]
      have b1 : (w4.alloc (.cells #[.slice A2 s2.length c2, .slice B bs.length d] 25)).cell? ⟨w4.heap.size, 1, none⟩ = some (.slice B bs.length d) := by simp [go_sem]
      replace q0 := cell_keep q0 hb
      replace q1 := cell_keep q1 hb
      replace a0 := cell_keep a0 hb
      replace a1 := cell_keep a1 hb
      replace MO := hide (MO.out.later hb)
      replace MA := hide (MA.out.later hb)
      replace MB := hide (MB.out.later hb)
      replace hB := below_next hB hB.size hb
      clear hb
      go_wp2_with fail
      refine (K3.out _ MO.out).mono ?_
      rintro x w5 ⟨A3, c3, rfl, t1, ho, hb⟩
      have MC := hide (MO.out.words_at hb t1 L3.out)
      clear t1 ho
      replace q0 := cell_keep q0 hb
      replace q1 := cell_keep q1 hb
      replace a0 := cell_keep a0 hb
      replace a1 := cell_keep a1 hb
      replace b0 := cell_keep b0 hb
      replace b1 := cell_keep b1 hb
      replace MO := hide (MO.out.later hb)
      replace MA := hide (MA.out.later hb)
      replace MB := hide (MB.out.later hb)
      replace hB := below_next hB hB.size hb
      clear hb
      have hb : Below w5.heap.size w5 (w5.alloc (.cells #[.slice A3 s3.length c3, .slice B bs.length d] 25)) := (Below.refl _ _).alloc (Nat.le_refl _) _
      have e0 : (w5.alloc (.cells #[.slice A3 s3.length c3, .slice B bs.length d] 25)).cell? ⟨w5.heap.size, 0, none⟩ = some (.slice A3 s3.length c3) := by simp [go_sem]
      have e1 : (w5.alloc (.cells #[.slice A3 s3.length c3, .slice B bs.length d] 25)).cell? ⟨w5.heap.size, 1, none⟩ = some (.slice B bs.length d) := by simp [go_sem]
      replace q0 := cell_keep q0 hb
      replace q1 := cell_keep q1 hb
      replace a0 := cell_keep a0 hb
      replace a1 := cell_keep a1 hb
      replace b0 := cell_keep b0 hb
      replace b1 := cell_keep b1 hb
      replace MO := hide (MO.out.later hb)
      replace MA := hide (MA.out.later hb)
      replace MB := hide (MB.out.later hb)
      replace MC := hide (MC.out.later hb)
      replace hB := below_next hB hB.size hb
      clear hb
      go_wp2_with fail
      refine (K4.out A2 c2 _ MB.out).mono ?_
      rintro x w6 ⟨rfl, hb⟩
      replace q0 := cell_keep q0 hb
      replace q1 := cell_keep q1 hb
      replace a0 := cell_keep a0 hb
      replace a1 := cell_keep a1 hb
      replace b0 := cell_keep b0 hb
      replace b1 := cell_keep b1 hb
      replace e0 := cell_keep e0 hb
      replace e1 := cell_keep e1 hb
      replace MO := hide (MO.out.later hb)
      replace MA := hide (MA.out.later hb)
      replace MB := hide (MB.out.later hb)
      replace MC := hide (MC.out.later hb)
      replace hB := below_next hB hB.size hb
      clear hb
      go_wp2_with fail
      replace q0 : w6.drew.cell? ⟨w.heap.size, 0, none⟩ = some (.slice (some ⟨bw, ow, none⟩) ws.length c) := q0
      replace q1 : w6.drew.cell? ⟨w.heap.size, 1, none⟩ = some (.slice B bs.length d) := q1
      replace e0 : w6.drew.cell? ⟨w5.heap.size, 0, none⟩ = some (.slice A3 s3.length c3) := e0
      replace e1 : w6.drew.cell? ⟨w5.heap.size, 1, none⟩ = some (.slice B bs.length d) := e1
      replace MO := hide (MO.out.later ((Below.refl _ _).drew))
      replace MA := hide (MA.out.later ((Below.refl _ _).drew))
      replace MB := hide (MB.out.later ((Below.refl _ _).drew))
      replace MC := hide (MC.out.later ((Below.refl _ _).drew))
      replace hB := hB.drew
      clear a0 a1 b0 b1
      go_region_held3 (fun w' => w'.cell? ⟨w.heap.size, 0, none⟩ = some (.slice (some ⟨bw, ow, none⟩) ws.length c) ∧ w'.cell? ⟨w.heap.size, 1, none⟩ = some (.slice B bs.length d) ∧ w'.cell? ⟨w5.heap.size, 0, none⟩ = some (.slice A3 s3.length c3) ∧ w'.cell? ⟨w5.heap.size, 1, none⟩ = some (.slice B bs.length d))
        (exact ⟨q0, q1, e0, e1⟩)
        (first
          | (go_at_call_of 11 A3; refine (itsM_any A3 B c3 d s3 bs _ MC.out).mono ?_; rintro x vv ⟨A4, c4, B4, d4, bs4, rfl, hx4, m4, hv⟩; have X4 := hide hx4; have R4 := hide m4; clear hx4 m4; replace q0 := cell_keep q0 hv; replace q1 := cell_keep q1 hv; replace e0 := cell_keep e0 hv; replace e1 := cell_keep e1 hv; replace MO := hide (MO.out.later hv); replace MA := hide (MA.out.later hv); replace MB := hide (MB.out.later hv); replace MC := hide (MC.out.later hv); replace hB := below_next hB hB.size hv; clear hv)
          | (go_at_call_of 11 bw; refine (itsM_any _ B c d ws bs _ MO.out).mono ?_; rintro x vv ⟨A5, c5, B5, d5, bs5, rfl, hx5, m5, hv⟩; have X5 := hide hx5; have R5 := hide m5; clear hx5 m5; replace R4 := hide (R4.out.later hv); replace q0 := cell_keep q0 hv; replace q1 := cell_keep q1 hv; replace e0 := cell_keep e0 hv; replace e1 := cell_keep e1 hv; replace MO := hide (MO.out.later hv); replace MA := hide (MA.out.later hv); replace MB := hide (MB.out.later hv); replace MC := hide (MC.out.later hv); replace hB := below_next hB hB.size hv; clear hv)
          | (go_at_call 20; refine (sameM_true A4 B4 A5 B5 c4 d4 c5 d5 s3 ws bs4 bs5 _ R4.out R5.out E3.out (X4.out.trans X5.out.symm)).mono ?_; rintro x vv ⟨rfl, hv⟩; replace q0 := cell_keep q0 hv; replace q1 := cell_keep q1 hv; replace e0 := cell_keep e0 hv; replace e1 := cell_keep e1 hv; replace MO := hide (MO.out.later hv); replace MA := hide (MA.out.later hv); replace MB := hide (MB.out.later hv); replace MC := hide (MC.out.later hv); replace hB := below_next hB hB.size hv; clear hv))
      go_wp2
      go_ret
      exact ⟨rfl, hB⟩
    | false =>
      obtain rfl := HYF.out rfl
      replace E3 := hide (E3.out rfl)
      go_enter Try.func6, Try.ntmps6
      go_wp2_with fail
      refine KL.out.mono ?_
      rintro x w1 ⟨rfl, hb1⟩
      have q0 : w1.cell? ⟨w.heap.size, 0, none⟩ = some (.slice A ws.length c) := cell_keep (by simp [go_sem]) hb1
      have q1 : w1.cell? ⟨w.heap.size, 1, none⟩ = some (.slice B bs.length d) := cell_keep (by simp [go_sem]) hb1
      have hB := below_next hb0 (by simp) hb1
      replace MO := hide (MO.out.later hB)
      clear KL hb0 hb1
      go_wp2_with fail
      refine (shown_any _).mono ?_
      rintro x w2 ⟨rfl, hb⟩
      replace q0 := cell_keep q0 hb
      replace q1 := cell_keep q1 hb
      replace MO := hide (MO.out.later hb)
      replace hB := below_next hB hB.size hb
      clear hb
      obtain ⟨bw, ow, lv2, rfl, hbw, hlv2, cw⟩ := MO.out.words.num hkn
      obtain rfl : lv2 = lv := by have := HLV.out; rw [hlv2] at this; injection this
      clear hlv2
      have cm : w2.cell? ⟨bw, ow + a % ws.length, none⟩ = some (.int .i64 lv2) := by rw [HKM.out]; exact cw
      have hm0 : (0 : Int) ≤ (a : Int) % (ws.length : Int) := by rw [HK.out]; exact hk0
      have hm1 : (a : Int) % (ws.length : Int) < (ws.length : Int) := by rw [HK.out]; exact hk1
      go_wp2_with fail
      rw [HK.out]
      clear cm cw hm0 hm1
      refine (K1.out _ MO.out).mono ?_
      rintro x w3 ⟨A1, c1, rfl, t1, ho, hb⟩
      have MA := hide (MO.out.words_at hb t1 L1.out)
      clear t1 ho
      replace q0 := cell_keep q0 hb
      replace q1 := cell_keep q1 hb
      replace MO := hide (MO.out.later hb)
      replace hB := below_next hB hB.size hb
      clear hb
      have hb : Below w3.heap.size w3 (w3.alloc (.cells #[.slice A1 s1.length c1, .slice B bs.length d] 25)) := (Below.refl _ _).alloc (Nat.le_refl _) _
      have a0 : (w3.alloc (.cells #[.slice A1 s1.length c1, .slice B bs.length d] 25)).cell? ⟨w3.heap.size, 0, none⟩ = some (.slice A1 s1.length c1) := by simp [go_sem]
      have a1 : (w3.alloc (.cells #[.slice A1 s1.length c1, .slice B bs.length d] 25)).cell? ⟨w3.heap.size, 1, none⟩ = some (.slice B bs.length d) := by simp [go_sem]
      replace q0 := cell_keep q0 hb
      replace q1 := cell_keep q1 hb
      replace MO := hide (MO.out.later hb)
      replace MA := hide (MA.out.later hb)
      replace hB := below_next hB hB.size hb
      clear hb
      go_wp2_with fail
      refine (K2.out A1 c1 _ MA.out).mono ?_
      rintro x w4 ⟨A2, c2, rfl, t1, ho, hb⟩
      have MB := hide (MA.out.words_at hb t1 L2.out)
      clear t1 ho
      replace q0 := cell_keep q0 hb
      replace q1 := cell_keep q1 hb
      replace a0 := cell_keep a0 hb
      replace a1 := cell_keep a1 hb
      replace MO := hide (MO.out.later hb)
      replace MA := hide (MA.out.later hb)
      replace hB := below_next hB hB.size hb
      clear hb
      have hb : Below w4.heap.size w4 (w4.alloc (.cells #[.slice A2 s2.length c2, .slice B bs.length d] 25)) := (Below.refl _ _).alloc (Nat.le_refl _) _
      have b0 : (w4.alloc (.cells #[.slice A2 s2.length c2, .slice B bs.length d] 25)).cell? ⟨w4.heap.size, 0, none⟩ = some (.slice A2 s2.length c2) := by simp [go_sem]
      have b1 : (w4.alloc (.cells #[.slice A2 s2.length c2, .slice B bs.length d] 25)).cell? ⟨w4.heap.size, 1, none⟩ = some (.slice B bs.length d) := by simp [go_sem]
      replace q0 := cell_keep q0 hb
      replace q1 := cell_keep q1 hb
      replace a0 := cell_keep a0 hb
      replace a1 := cell_keep a1 hb
      replace MO := hide (MO.out.later hb)
      replace MA := hide (MA.out.later hb)
      replace MB := hide (MB.out.later hb)
      replace hB := below_next hB hB.size hb
      clear hb
      go_wp2_with fail
      refine (K3.out _ MO.out).mono ?_
      rintro x w5 ⟨A3, c3, rfl, t1, ho, hb⟩
      have MC := hide (MO.out.words_at hb t1 L3.out)
      clear t1 ho
      replace q0 := cell_keep q0 hb
      replace q1 := cell_keep q1 hb
      replace a0 := cell_keep a0 hb
      replace a1 := cell_keep a1 hb
      replace b0 := cell_keep b0 hb
      replace b1 := cell_keep b1 hb
      replace MO := hide (MO.out.later hb)
      replace MA := hide (MA.out.later hb)
      replace MB := hide (MB.out.later hb)
      replace hB := below_next hB hB.size hb
      clear hb
      have hb : Below w5.heap.size w5 (w5.alloc (.cells #[.slice A3 s3.length c3, .slice B bs.length d] 25)) := (Below.refl _ _).alloc (Nat.le_refl _) _
      have e0 : (w5.alloc (.cells #[.slice A3 s3.length c3, .slice B bs.length d] 25)).cell? ⟨w5.heap.size, 0, none⟩ = some (.slice A3 s3.length c3) := by simp [go_sem]
      have e1 : (w5.alloc (.cells #[.slice A3 s3.length c3, .slice B bs.length d] 25)).cell? ⟨w5.heap.size, 1, none⟩ = some (.slice B bs.length d) := by simp [go_sem]
      replace q0 := cell_keep q0 hb
      replace q1 := cell_keep q1 hb
      replace a0 := cell_keep a0 hb
      replace a1 := cell_keep a1 hb
      replace b0 := cell_keep b0 hb
      replace b1 := cell_keep b1 hb
      replace MO := hide (MO.out.later hb)
      replace MA := hide (MA.out.later hb)
      replace MB := hide (MB.out.later hb)
      replace MC := hide (MC.out.later hb)
      replace hB := below_next hB hB.size hb
      clear hb
      go_wp2_with fail
      refine (K4.out A2 c2 _ MB.out).mono ?_
      rintro x w6 ⟨rfl, hb⟩
      replace q0 := cell_keep q0 hb
      replace q1 := cell_keep q1 hb
      replace a0 := cell_keep a0 hb
      replace a1 := cell_keep a1 hb
      replace b0 := cell_keep b0 hb
      replace b1 := cell_keep b1 hb
      replace e0 := cell_keep e0 hb
      replace e1 := cell_keep e1 hb
      replace MO := hide (MO.out.later hb)
      replace MA := hide (MA.out.later hb)
      replace MB := hide (MB.out.later hb)
      replace MC := hide (MC.out.later hb)
      replace hB := below_next hB hB.size hb
      clear hb
      go_wp2_with fail
      replace q0 : w6.drew.cell? ⟨w.heap.size, 0, none⟩ = some (.slice (some ⟨bw, ow, none⟩) ws.length c) := q0
      replace q1 : w6.drew.cell? ⟨w.heap.size, 1, none⟩ = some (.slice B bs.length d) := q1
      replace e0 : w6.drew.cell? ⟨w5.heap.size, 0, none⟩ = some (.slice A3 s3.length c3) := e0
      replace e1 : w6.drew.cell? ⟨w5.heap.size, 1, none⟩ = some (.slice B bs.length d) := e1
      replace MO := hide (MO.out.later ((Below.refl _ _).drew))
      replace MA := hide (MA.out.later ((Below.refl _ _).drew))
      replace MB := hide (MB.out.later ((Below.refl _ _).drew))
      replace MC := hide (MC.out.later ((Below.refl _ _).drew))
      replace hB := hB.drew
      clear a0 a1 b0 b1
      go_region_held3 (fun w' => w'.cell? ⟨w.heap.size, 0, none⟩ = some (.slice (some ⟨bw, ow, none⟩) ws.length c) ∧ w'.cell? ⟨w.heap.size, 1, none⟩ = some (.slice B bs.length d) ∧ w'.cell? ⟨w5.heap.size, 0, none⟩ = some (.slice A3 s3.length c3) ∧ w'.cell? ⟨w5.heap.size, 1, none⟩ = some (.slice B bs.length d))
        (exact ⟨q0, q1, e0, e1⟩)
        (first
          | (go_at_call_of 11 A3; refine (itsM_any A3 B c3 d s3 bs _ MC.out).mono ?_; rintro x vv ⟨A4, c4, B4, d4, bs4, rfl, hx4, m4, hv⟩; have X4 := hide hx4; have R4 := hide m4; clear hx4 m4; replace q0 := cell_keep q0 hv; replace q1 := cell_keep q1 hv; replace e0 := cell_keep e0 hv; replace e1 := cell_keep e1 hv; replace MO := hide (MO.out.later hv); replace MA := hide (MA.out.later hv); replace MB := hide (MB.out.later hv); replace MC := hide (MC.out.later hv); replace hB := below_next hB hB.size hv; clear hv)
          | (go_at_call_of 11 bw; refine (itsM_any _ B c d ws bs _ MO.out).mono ?_; rintro x vv ⟨A5, c5, B5, d5, bs5, rfl, hx5, m5, hv⟩; have X5 := hide hx5; have R5 := hide m5; clear hx5 m5; replace R4 := hide (R4.out.later hv); replace q0 := cell_keep q0 hv; replace q1 := cell_keep q1 hv; replace e0 := cell_keep e0 hv; replace e1 := cell_keep e1 hv; replace MO := hide (MO.out.later hv); replace MA := hide (MA.out.later hv); replace MB := hide (MB.out.later hv); replace MC := hide (MC.out.later hv); replace hB := below_next hB hB.size hv; clear hv)
          | (go_at_call 20; refine (sameM_true A4 B4 A5 B5 c4 d4 c5 d5 s3 ws bs4 bs5 _ R4.out R5.out E3.out (X4.out.trans X5.out.symm)).mono ?_; rintro x vv ⟨rfl, hv⟩; replace q0 := cell_keep q0 hv; replace q1 := cell_keep q1 hv; replace e0 := cell_keep e0 hv; replace e1 := cell_keep e1 hv; replace MO := hide (MO.out.later hv); replace MA := hide (MA.out.later hv); replace MB := hide (MB.out.later hv); replace MC := hide (MC.out.later hv); replace hB := below_next hB hB.size hv; clear hv))
      go_wp2
      go_ret
      exact ⟨rfl, hB⟩
end Go.Proofs.Ytkiagdlcbfdgnaa
