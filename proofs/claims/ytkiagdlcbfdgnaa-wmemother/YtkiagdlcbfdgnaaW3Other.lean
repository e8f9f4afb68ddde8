/- The walk of WmemOther. -/
import Derived.Test.YtkiagdlcbfdgnaaW3Base
import Derived.Deep.Cut
namespace Go.Proofs.Ytkiagdlcbfdgnaa
open Go.RowKit

set_option maxRecDepth 100000 in
set_option maxHeartbeats 8000000 in
theorem walkOther (A B : Option Addr) (c d : Nat) (ws : List Int) (bs : List Bt) (a a2 : Nat) (v : Int) (E : Option Addr) (n : Nat) (lb : List E3) (w : World) (m : MemAt w A ws B bs) (hE : Sees w w.heap.size 3 E lb.length (ecells lb)) (ha : a < 256) (ha2 : a2 < 256) :
    Calls Try.prog 5 #[.agg #[.slice A ws.length c, .slice B bs.length d], .int .u8 a, .int .u8 a2, .int .i64 v, .slice E lb.length n] w (BoolPost true w) := by
  have hb0 : Below w.heap.size w (w.alloc (.cells #[.slice A ws.length c, .slice B bs.length d] 25)) := (Below.refl _ w).alloc (Nat.le_refl _) _
  have KL := hide (long_any A B c d ws bs _ (m.later hb0))
  by_cases hL : longB ws bs = true
  · rw [hL] at KL
    clear hL m
    go_enter Try.func5, Try.ntmps5
    go_wp2_with fail
    refine KL.out.mono ?_
    rintro x w1 ⟨rfl, hb1⟩
    have q0 : w1.cell? ⟨w.heap.size, 0, none⟩ = some (.slice A ws.length c) := cell_keep (by simp [go_sem]) hb1
    have q1 : w1.cell? ⟨w.heap.size, 1, none⟩ = some (.slice B bs.length d) := cell_keep (by simp [go_sem]) hb1
    have hB1 := below_next hb0 (by simp) hb1
    clear hb1 KL
    go_wp2_with fail
    refine (shown_any _).mono ?_
    rintro x w2 ⟨rfl, hb2⟩
    go_wp2
    go_ret
    exact ⟨rfl, below_next hB1 hB1.size hb2⟩
  have hL' : longB ws bs = false := by simpa using hL
  have mo := mem_small m hL'
  rw [hL'] at KL
  clear hL hL' m
  by_cases h5 : 50 < lb.length
  · have h50 : (50 : Int) < (lb.length : Int) := by omega
    clear h5 mo
    go_enter Try.func5, Try.ntmps5
    go_wp2_with fail
    refine KL.out.mono ?_
    rintro x w1 ⟨rfl, hb1⟩
    have q0 : w1.cell? ⟨w.heap.size, 0, none⟩ = some (.slice A ws.length c) := cell_keep (by simp [go_sem]) hb1
    have q1 : w1.cell? ⟨w.heap.size, 1, none⟩ = some (.slice B bs.length d) := cell_keep (by simp [go_sem]) hb1
    have hB1 := below_next hb0 (by simp) hb1
    clear hb1 KL
    go_wp2_with fail
    all_goals
      refine (shown_any _).mono ?_
      rintro x w2 ⟨rfl, hb2⟩
      go_wp2
      go_ret
      exact ⟨rfl, below_next hB1 hB1.size hb2⟩
  have h50 : ¬ (50 : Int) < (lb.length : Int) := by omega
  have hl : lb.length ≤ 20000 := by omega
  clear h5
  by_cases hn : ws.length = 0
  · have hn1 : ((ws.length : Int) == 0) = true := by simp [hn]
    clear hn mo
    go_enter Try.func5, Try.ntmps5
    go_wp2_with fail
    refine KL.out.mono ?_
    rintro x w1 ⟨rfl, hb1⟩
    have q0 : w1.cell? ⟨w.heap.size, 0, none⟩ = some (.slice A ws.length c) := cell_keep (by simp [go_sem]) hb1
    have q1 : w1.cell? ⟨w.heap.size, 1, none⟩ = some (.slice B bs.length d) := cell_keep (by simp [go_sem]) hb1
    have hB1 := below_next hb0 (by simp) hb1
    clear hb1 KL
    go_wp2_with fail
    all_goals
      refine (shown_any _).mono ?_
      rintro x w2 ⟨rfl, hb2⟩
      go_wp2
      go_ret
      exact ⟨rfl, below_next hB1 hB1.size hb2⟩
  have hn1 : ((ws.length : Int) == 0) = false := by rw [beq_eq_false_iff_ne]; omega
  have hn0 : 0 < ws.length := by omega
  have hn2 : ¬ (ws.length : Int) = 0 := by omega
  clear hn
  by_cases hm : bs.length = 0
  · have hm1 : ((bs.length : Int) == 0) = true := by simp [hm]
    clear hm mo
    go_enter Try.func5, Try.ntmps5
    go_wp2_with fail
    refine KL.out.mono ?_
    rintro x w1 ⟨rfl, hb1⟩
    have q0 : w1.cell? ⟨w.heap.size, 0, none⟩ = some (.slice A ws.length c) := cell_keep (by simp [go_sem]) hb1
    have q1 : w1.cell? ⟨w.heap.size, 1, none⟩ = some (.slice B bs.length d) := cell_keep (by simp [go_sem]) hb1
    have hB1 := below_next hb0 (by simp) hb1
    clear hb1 KL
    go_wp2_with fail
    all_goals
      refine (shown_any _).mono ?_
      rintro x w2 ⟨rfl, hb2⟩
      go_wp2
      go_ret
      exact ⟨rfl, below_next hB1 hB1.size hb2⟩
  have hm1 : ((bs.length : Int) == 0) = false := by rw [beq_eq_false_iff_ne]; omega
  have hm0 : 0 < bs.length := by omega
  have hm2 : ¬ (bs.length : Int) = 0 := by omega
  clear hm
  have MO := hide mo
  clear mo
  obtain ⟨ki, hki, hkin⟩ := mod_at a ws.length hn0
  obtain ⟨kk, hkk, hkkn⟩ := mod_at a2 ws.length hn0
  obtain ⟨kj, hkj, hkjn⟩ := mod_at a2 bs.length hm0
  have l1 : (ws.set ki v).length = ws.length := by simp
  have hl1 : ki < (ws.set ki v).length := by rw [l1]; exact hkin
  have hl2 : kk < (ws.set ki v).length := by rw [l1]; exact hkkn
  obtain ⟨yv, hyv⟩ := at_some hl2
  have hyw : ki ≠ kk → ws[kk]? = some yv := fun h => by rw [List.getElem?_set_ne h] at hyv; exact hyv
  have k1 : ∀ y, MemOk y A ws B bs → Calls Try.prog 14 #[.agg #[.slice A ws.length c, .slice B bs.length d], .int .i64 ki, .int .i64 v] y (MEPost A (ws.set ki v) B bs.length d 0 y) := fun y hy => by
    have := store_any A B c d ws bs ki v y hy
    rwa [stV_at v hkin, erV_at hkin] at this
  have k2 : ∀ A B c d bs y, MemOk y A (ws.set ki v) B bs → Calls Try.prog 12 #[.agg #[.slice A (ws.set ki v).length c, .slice B bs.length d], .int .i64 ki] y (IEPost v 0 y) := fun A B c d bs y hy => by
    have := load_any A B c d (ws.set ki v) bs ki y hy
    rwa [ldV_at (set_at hkin), erV_at hl1] at this
  have k3 : ∀ A c y, MemOk y A (ws.set ki v) B bs → Calls Try.prog 12 #[.agg #[.slice A (ws.set ki v).length c, .slice B bs.length d], .int .i64 kk] y (IEPost yv 0 y) := fun A c y hy => by
    have := load_any A B c d (ws.set ki v) bs kk y hy
    rwa [ldV_at hyv, erV_at hl2] at this
  have hbj : kj < (boxes bs).length := by rw [boxes_length]; exact hkjn
  obtain ⟨nb, hnb⟩ : ∃ l, (boxes bs).set kj lb = l := ⟨_, rfl⟩
  have hnbl : nb.length = bs.length := by rw [← hnb, List.length_set, boxes_length]
  have hnbj : nb[kj]? = some lb := by rw [← hnb]; simp [hbj]
  have hnbn : ∀ j, j ≠ kj → nb[j]? = (boxes bs)[j]? := fun j hj => by rw [← hnb, List.getElem?_set_ne (Ne.symm hj)]
  have k4 : ∀ A c y, MemOk y A (ws.set ki v) B bs → Sees y y.heap.size 3 E lb.length (ecells lb) → Calls Try.prog 23 #[.agg #[.slice A (ws.set ki v).length c, .slice B bs.length d], .int .i64 kj, .slice E lb.length n] y (MPPost A (ws.set ki v).length c B bs nb lb 0 y) := fun A c y hy he => by
    have := put_mem A B E c d n (ws.set ki v) bs lb kj y hy hl he
    rwa [ptV_at lb hbj, hnb, erV_at hkjn] at this
  have k5 : ∀ A B c d bs' (j : Nat) lj y, boxes bs' = nb → nb[j]? = some lj → MemOk y A (ws.set ki v) B bs' → Calls Try.prog 21 #[.agg #[.slice A (ws.set ki v).length c, .slice B bs'.length d], .int .i64 j] y (REPost lj 0 y) := fun A B c d bs' j lj y hb hj hy => by
    have hjl : j < bs'.length := by rw [← boxes_length, hb]; exact (List.getElem?_eq_some_iff.1 hj).1
    have := box_any A B c d (ws.set ki v) bs' j y hy
    rwa [hb, bxV_at hj, erV_at hjl] at this
  generalize ws.set ki v = s1 at *
  have K1 := hide k1; have K2 := hide k2; have K3 := hide k3; have K4 := hide k4; have K5 := hide k5; have L1 := hide l1; have HKI := hide hki; have HKK := hide hkk; have HKJ := hide hkj; have HYW := hide hyw; have HNL := hide hnbl; have HNJ := hide hnbj; have HNN := hide hnbn; have HE := hide hE
  clear k1 k2 k3 k4 k5 l1 hki hkk hkj hyw hnbl hnbj hnbn hE hyv hnb hl1 hl2 hbj
  have hk0 : (0 : Int) ≤ (kk : Int) := Int.natCast_nonneg _
  have hk1 : (kk : Int) < (ws.length : Int) := by omega
  by_cases hik : ki = kk
  · subst hik
    go_enter Try.func5, Try.ntmps5
    go_wp2_with fail
    refine KL.out.mono ?_
    rintro x w1 ⟨rfl, hb1⟩
    have q0 : w1.cell? ⟨w.heap.size, 0, none⟩ = some (.slice A ws.length c) := cell_keep (by simp [go_sem]) hb1
    have q1 : w1.cell? ⟨w.heap.size, 1, none⟩ = some (.slice B bs.length d) := cell_keep (by simp [go_sem]) hb1
    have hB := below_next hb0 (by simp) hb1
    replace MO := hide (MO.out.later hB)
    clear KL hb0 hb1
    replace HE := hide (HE.out.later hB)
    go_wp2_with fail
    refine (shown_any _).mono ?_
    rintro x w2 ⟨rfl, hb⟩
    replace q0 := cell_keep q0 hb
    replace q1 := cell_keep q1 hb
    replace MO := hide (MO.out.later hb)
    replace HE := hide (HE.out.later hb)
    replace hB := below_next hB hB.size hb
    clear hb
    go_wp2_with fail
    rw [HKI.out, HKK.out, HKJ.out]
    refine (K1.out _ MO.out).mono ?_
    rintro x w3 ⟨A1, c1, rfl, t1, ho, hb⟩
    have MA := hide (MO.out.words_at hb t1 L1.out)
    clear t1 ho
    replace q0 := cell_keep q0 hb
    replace q1 := cell_keep q1 hb
    replace MO := hide (MO.out.later hb)
    replace HE := hide (HE.out.later hb)
    replace hB := below_next hB hB.size hb
    clear hb
    have hb : Below w3.heap.size w3 (w3.alloc (.cells #[.slice A1 s1.length c1, .slice B bs.length d] 25)) := (Below.refl _ _).alloc (Nat.le_refl _) _
    have a0 : (w3.alloc (.cells #[.slice A1 s1.length c1, .slice B bs.length d] 25)).cell? ⟨w3.heap.size, 0, none⟩ = some (.slice A1 s1.length c1) := by simp [go_sem]
    have a1 : (w3.alloc (.cells #[.slice A1 s1.length c1, .slice B bs.length d] 25)).cell? ⟨w3.heap.size, 1, none⟩ = some (.slice B bs.length d) := by simp [go_sem]
    replace q0 := cell_keep q0 hb
    replace q1 := cell_keep q1 hb
    replace MO := hide (MO.out.later hb)
    replace MA := hide (MA.out.later hb)
    replace HE := hide (HE.out.later hb)
    replace hB := below_next hB hB.size hb
    clear hb
    go_wp2_with fail
    refine (K2.out A1 B c1 d bs _ MA.out).mono ?_
    rintro x w4 ⟨rfl, hb⟩
    replace q0 := cell_keep q0 hb
    replace q1 := cell_keep q1 hb
    replace a0 := cell_keep a0 hb
    replace a1 := cell_keep a1 hb
    replace MO := hide (MO.out.later hb)
    replace MA := hide (MA.out.later hb)
    replace HE := hide (HE.out.later hb)
    replace hB := below_next hB hB.size hb
    clear hb
    go_wp2_with fail
    refine (K3.out A1 c1 _ MA.out).mono ?_
    rintro x w5 ⟨rfl, hb⟩
    replace q0 := cell_keep q0 hb
    replace q1 := cell_keep q1 hb
    replace a0 := cell_keep a0 hb
    replace a1 := cell_keep a1 hb
    replace MO := hide (MO.out.later hb)
    replace MA := hide (MA.out.later hb)
    replace HE := hide (HE.out.later hb)
    replace hB := below_next hB hB.size hb
    clear hb
    go_wp2_with fail
    refine (K4.out A1 c1 _ MA.out HE.out).mono ?_
    rintro x w6 ⟨B2, d2, b2, rfl, hx2, ok2, hb⟩
    have MC := hide (ok2.mem MA.out hb hl)
    have X2 := hide hx2
    clear ok2 hx2
    replace q0 := cell_keep q0 hb
    replace q1 := cell_keep q1 hb
    replace a0 := cell_keep a0 hb
    replace a1 := cell_keep a1 hb
    replace MO := hide (MO.out.later hb)
    replace MA := hide (MA.out.later hb)
    replace HE := hide (HE.out.later hb)
    replace hB := below_next hB hB.size hb
    clear hb
    have hb : Below w6.heap.size w6 (w6.alloc (.cells #[.slice A1 s1.length c1, .slice B2 b2.length d2] 25)) := (Below.refl _ _).alloc (Nat.le_refl _) _
    have e0 : (w6.alloc (.cells #[.slice A1 s1.length c1, .slice B2 b2.length d2] 25)).cell? ⟨w6.heap.size, 0, none⟩ = some (.slice A1 s1.length c1) := by simp [go_sem]
    have e1 : (w6.alloc (.cells #[.slice A1 s1.length c1, .slice B2 b2.length d2] 25)).cell? ⟨w6.heap.size, 1, none⟩ = some (.slice B2 b2.length d2) := by simp [go_sem]
    replace q0 := cell_keep q0 hb
    replace q1 := cell_keep q1 hb
    replace a0 := cell_keep a0 hb
    replace a1 := cell_keep a1 hb
    replace MO := hide (MO.out.later hb)
    replace MA := hide (MA.out.later hb)
    replace MC := hide (MC.out.later hb)
    replace HE := hide (HE.out.later hb)
    replace hB := below_next hB hB.size hb
    clear hb
    go_wp2_with fail
    refine (K5.out A1 B2 c1 d2 b2 kj lb _ X2.out HNJ.out MC.out).mono ?_
    rintro x w7 ⟨A3, c3, rfl, t3, hb⟩
    have TD := hide t3
    clear t3
    replace q0 := cell_keep q0 hb
    replace q1 := cell_keep q1 hb
    replace a0 := cell_keep a0 hb
    replace a1 := cell_keep a1 hb
    replace e0 := cell_keep e0 hb
    replace e1 := cell_keep e1 hb
    replace MO := hide (MO.out.later hb)
    replace MA := hide (MA.out.later hb)
    replace MC := hide (MC.out.later hb)
    replace HE := hide (HE.out.later hb)
    replace hB := below_next hB hB.size hb
    clear hb
    go_wp2_with fail
    refine (K2.out A1 B2 c1 d2 b2 _ MC.out).mono ?_
    rintro x w8 ⟨rfl, hb⟩
    replace q0 := cell_keep q0 hb
    replace q1 := cell_keep q1 hb
    replace a0 := cell_keep a0 hb
    replace a1 := cell_keep a1 hb
    replace e0 := cell_keep e0 hb
    replace e1 := cell_keep e1 hb
    replace MO := hide (MO.out.later hb)
    replace MA := hide (MA.out.later hb)
    replace MC := hide (MC.out.later hb)
    replace HE := hide (HE.out.later hb)
    replace TD := hide (TD.out.later hb)
    replace hB := below_next hB hB.size hb
    clear hb
    go_wp2_with fail
    refine (ents_any A3 c3 lb lb.length rfl (by omega) _ TD.out).mono ?_
    rintro x w9 ⟨A4, c4, rfl, hc4, t4, f4, hb⟩
    have T4 := hide t4
    clear t4 f4 hc4
    replace q0 := cell_keep q0 hb
    replace q1 := cell_keep q1 hb
    replace a0 := cell_keep a0 hb
    replace a1 := cell_keep a1 hb
    replace e0 := cell_keep e0 hb
    replace e1 := cell_keep e1 hb
    replace MO := hide (MO.out.later hb)
    replace MA := hide (MA.out.later hb)
    replace MC := hide (MC.out.later hb)
    replace HE := hide (HE.out.later hb)
    replace TD := hide (TD.out.later hb)
    replace hB := below_next hB hB.size hb
    clear hb
    go_wp2_with fail
    refine (ents_any E n lb lb.length rfl (by omega) _ HE.out).mono ?_
    rintro x w10 ⟨A5, c5, rfl, hc5, t5, f5, hb⟩
    have T5 := hide t5
    clear t5 f5 hc5
    replace q0 := cell_keep q0 hb
    replace q1 := cell_keep q1 hb
    replace a0 := cell_keep a0 hb
    replace a1 := cell_keep a1 hb
    replace e0 := cell_keep e0 hb
    replace e1 := cell_keep e1 hb
    replace MO := hide (MO.out.later hb)
    replace MA := hide (MA.out.later hb)
    replace MC := hide (MC.out.later hb)
    replace HE := hide (HE.out.later hb)
    replace TD := hide (TD.out.later hb)
    replace T4 := hide (T4.out.later hb)
    replace hB := below_next hB hB.size hb
    clear hb
    go_wp2_with fail
    refine (sameE_true A4 A5 c4 c5 lb hl _ T4.out T5.out).mono ?_
    rintro x w11 ⟨rfl, hb⟩
    replace q0 := cell_keep q0 hb
    replace q1 := cell_keep q1 hb
    replace a0 := cell_keep a0 hb
    replace a1 := cell_keep a1 hb
    replace e0 := cell_keep e0 hb
    replace e1 := cell_keep e1 hb
    replace MO := hide (MO.out.later hb)
    replace MA := hide (MA.out.later hb)
    replace MC := hide (MC.out.later hb)
    replace HE := hide (HE.out.later hb)
    replace TD := hide (TD.out.later hb)
    replace T4 := hide (T4.out.later hb)
    replace T5 := hide (T5.out.later hb)
    replace hB := below_next hB hB.size hb
    clear hb
    clear T4 T5 TD HE
    go_wp2
    go_loopw [26] (fun n wr => ∃ j : Nat, j ≤ bs.length ∧ n = .int .i64 j ∧ Below w11.heap.size w11 wr) (fun n _ => bs.length - (intOf n).toNat)
    case atStart => exact ⟨0, Nat.zero_le _, rfl, Below.refl _ _⟩
    case round =>
      obtain ⟨j, hj, rfl, hb⟩ := hrel
      have hBn := hb
      replace q0 := cell_keep q0 hb
      replace q1 := cell_keep q1 hb
      replace a0 := cell_keep a0 hb
      replace a1 := cell_keep a1 hb
      replace e0 := cell_keep e0 hb
      replace e1 := cell_keep e1 hb
      replace MO := hide (MO.out.later hb)
      replace MA := hide (MA.out.later hb)
      replace MC := hide (MC.out.later hb)
      replace hB := below_next hB hB.size hb
      clear hb
      have hfb := MO.out.fewb
      by_cases hlt : j < bs.length
      · obtain ⟨bq, oq, rfl, hbq, hcq⟩ := MO.out.bxs.2 (by omega)
        obtain ⟨⟨qA, qc, ql⟩, hq⟩ := at_some hlt
        have ce := hcq j (Bt.val ⟨qA, qc, ql⟩) (by simp [hq])
        simp only [Bt.val] at ce
        have TQ : Hid (Sees wr wr.heap.size 3 qA ql.length (ecells ql)) := hide (MO.out.each ⟨qA, qc, ql⟩ (List.mem_of_getElem? hq))
        have hqn : ql.length ≤ 20000 := MO.out.short ⟨qA, qc, ql⟩ (List.mem_of_getElem? hq)
        have HQ : Hid ((boxes bs)[j]? = some ql) := hide (boxes_at hq)
        clear hcq hq
        have hj0 : (0 : Int) ≤ (j : Int) := Int.natCast_nonneg _
        have hj1 : (j : Int) < (bs.length : Int) := by omega
        by_cases hjk : j = kj
        · subst hjk
          go_wp2_with fail
          refine (K5.out A1 B2 c1 d2 b2 j lb _ X2.out HNJ.out MC.out).mono ?_
          rintro x w12 ⟨A6, c6, rfl, t6, hb⟩
          clear t6
          replace q0 := cell_keep q0 hb
          replace q1 := cell_keep q1 hb
          replace a0 := cell_keep a0 hb
          replace a1 := cell_keep a1 hb
          replace e0 := cell_keep e0 hb
          replace e1 := cell_keep e1 hb
          replace ce := cell_keep ce hb
          replace MO := hide (MO.out.later hb)
          replace MA := hide (MA.out.later hb)
          replace MC := hide (MC.out.later hb)
          replace TQ := hide (TQ.out.later hb)
          replace hB := below_next hB hB.size hb
          replace hBn := below_next hBn hBn.size hb
          clear hb
          go_wp2_with fail
          go_quiet (fail)
          go_wp2
          go_roundw
          case rel => exact ⟨j + 1, by omega, by go_num, below_drewN (hBn) _⟩
          case measure => simp [intOf]; omega
        · have hjn : ((j : Int) != (kj : Int)) = true := by rw [bne_iff_ne]; omega
          have hje : ((j : Int) == (kj : Int)) = false := by rw [beq_eq_false_iff_ne]; omega
          have HJ := hide ((HNN.out j hjk).trans HQ.out)
          clear hjk
          go_wp2_with fail
          refine (K5.out A1 B2 c1 d2 b2 j ql _ X2.out HJ.out MC.out).mono ?_
          rintro x w13 ⟨A6, c6, rfl, t6, hb⟩
          have T6 := hide t6
          clear t6
          replace q0 := cell_keep q0 hb
          replace q1 := cell_keep q1 hb
          replace a0 := cell_keep a0 hb
          replace a1 := cell_keep a1 hb
          replace e0 := cell_keep e0 hb
          replace e1 := cell_keep e1 hb
          replace ce := cell_keep ce hb
          replace MO := hide (MO.out.later hb)
          replace MA := hide (MA.out.later hb)
          replace MC := hide (MC.out.later hb)
          replace TQ := hide (TQ.out.later hb)
          replace hB := below_next hB hB.size hb
          replace hBn := below_next hBn hBn.size hb
          clear hb
          go_wp2_with fail
          replace q1 : w13.drew.cell? ⟨w.heap.size, 1, none⟩ = some (.slice (some ⟨bq, oq, none⟩) bs.length d) := q1
          replace ce : w13.drew.cell? ⟨bq, oq + j, none⟩ = some (.slice qA ql.length qc) := ce
          replace MO := hide (MO.out.later ((Below.refl _ _).drew))
          replace MA := hide (MA.out.later ((Below.refl _ _).drew))
          replace MC := hide (MC.out.later ((Below.refl _ _).drew))
          replace TQ := hide (TQ.out.later ((Below.refl _ _).drew))
          replace T6 := hide (T6.out.later ((Below.refl _ _).drew))
          replace hB := hB.drew
          replace hBn := hBn.drew
          clear q0 a0 a1 e0 e1
          go_region_held3 (fun w' => w'.cell? ⟨w.heap.size, 1, none⟩ = some (.slice (some ⟨bq, oq, none⟩) bs.length d) ∧ w'.cell? ⟨bq, oq + j, none⟩ = some (.slice qA ql.length qc))
            (exact ⟨q1, ce⟩)
            (first
              | (go_at_call_of 25 A6; refine (ents_any A6 c6 ql ql.length rfl (by omega) _ T6.out).mono ?_; rintro x vv ⟨A7, c7, rfl, hc7, t7, f7, hv⟩; have T7 := hide t7; clear t7 f7 hc7; replace q1 := cell_keep q1 hv; replace ce := cell_keep ce hv; replace MO := hide (MO.out.later hv); replace MA := hide (MA.out.later hv); replace MC := hide (MC.out.later hv); replace TQ := hide (TQ.out.later hv); replace T6 := hide (T6.out.later hv); replace hB := below_next hB hB.size hv; replace hBn := below_next hBn hBn.size hv; clear hv)
              | (go_at_call_of 25 qA; refine (ents_any qA qc ql ql.length rfl (by omega) _ TQ.out).mono ?_; rintro x vv ⟨A8, c8, rfl, hc8, t8, f8, hv⟩; have T8 := hide t8; clear t8 f8 hc8; replace T7 := hide (T7.out.later hv); replace q1 := cell_keep q1 hv; replace ce := cell_keep ce hv; replace MO := hide (MO.out.later hv); replace MA := hide (MA.out.later hv); replace MC := hide (MC.out.later hv); replace TQ := hide (TQ.out.later hv); replace T6 := hide (T6.out.later hv); replace hB := below_next hB hB.size hv; replace hBn := below_next hBn hBn.size hv; clear hv)
              | (go_at_call 26; refine (sameE_true A7 A8 c7 c8 ql hqn _ T7.out T8.out).mono ?_; rintro x vv ⟨rfl, hv⟩; replace q1 := cell_keep q1 hv; replace ce := cell_keep ce hv; replace MO := hide (MO.out.later hv); replace MA := hide (MA.out.later hv); replace MC := hide (MC.out.later hv); replace TQ := hide (TQ.out.later hv); replace T6 := hide (T6.out.later hv); replace hB := below_next hB hB.size hv; replace hBn := below_next hBn hBn.size hv; clear hv))
          go_wp2
          go_roundw
          case rel => exact ⟨j + 1, by omega, by go_num, hBn⟩
          case measure => simp [intOf]; omega
      · obtain rfl : j = bs.length := by omega
        go_wp2
        go_ret
        exact ⟨rfl, hB⟩
  · have hin : ((ki : Int) != (kk : Int)) = true := by rw [bne_iff_ne]; omega
    have hie : ((ki : Int) == (kk : Int)) = false := by rw [beq_eq_false_iff_ne]; omega
    go_enter Try.func5, Try.ntmps5
    go_wp2_with fail
    refine KL.out.mono ?_
    rintro x w1 ⟨rfl, hb1⟩
    have q0 : w1.cell? ⟨w.heap.size, 0, none⟩ = some (.slice A ws.length c) := cell_keep (by simp [go_sem]) hb1
    have q1 : w1.cell? ⟨w.heap.size, 1, none⟩ = some (.slice B bs.length d) := cell_keep (by simp [go_sem]) hb1
    have hB := below_next hb0 (by simp) hb1
    replace MO := hide (MO.out.later hB)
    clear KL hb0 hb1
    replace HE := hide (HE.out.later hB)
    go_wp2_with fail
    refine (shown_any _).mono ?_
    rintro x w2 ⟨rfl, hb⟩
    replace q0 := cell_keep q0 hb
    replace q1 := cell_keep q1 hb
    replace MO := hide (MO.out.later hb)
    replace HE := hide (HE.out.later hb)
    replace hB := below_next hB hB.size hb
    clear hb
    go_wp2_with fail
    rw [HKI.out, HKK.out, HKJ.out]
    refine (K1.out _ MO.out).mono ?_
    rintro x w3 ⟨A1, c1, rfl, t1, ho, hb⟩
    have MA := hide (MO.out.words_at hb t1 L1.out)
    clear t1 ho
    replace q0 := cell_keep q0 hb
    replace q1 := cell_keep q1 hb
    replace MO := hide (MO.out.later hb)
    replace HE := hide (HE.out.later hb)
    replace hB := below_next hB hB.size hb
    clear hb
    have hb : Below w3.heap.size w3 (w3.alloc (.cells #[.slice A1 s1.length c1, .slice B bs.length d] 25)) := (Below.refl _ _).alloc (Nat.le_refl _) _
    have a0 : (w3.alloc (.cells #[.slice A1 s1.length c1, .slice B bs.length d] 25)).cell? ⟨w3.heap.size, 0, none⟩ = some (.slice A1 s1.length c1) := by simp [go_sem]
    have a1 : (w3.alloc (.cells #[.slice A1 s1.length c1, .slice B bs.length d] 25)).cell? ⟨w3.heap.size, 1, none⟩ = some (.slice B bs.length d) := by simp [go_sem]
    replace q0 := cell_keep q0 hb
    replace q1 := cell_keep q1 hb
    replace MO := hide (MO.out.later hb)
    replace MA := hide (MA.out.later hb)
    replace HE := hide (HE.out.later hb)
    replace hB := below_next hB hB.size hb
    clear hb
    go_wp2_with fail
    refine (K2.out A1 B c1 d bs _ MA.out).mono ?_
    rintro x w4 ⟨rfl, hb⟩
    replace q0 := cell_keep q0 hb
    replace q1 := cell_keep q1 hb
    replace a0 := cell_keep a0 hb
    replace a1 := cell_keep a1 hb
    replace MO := hide (MO.out.later hb)
    replace MA := hide (MA.out.later hb)
    replace HE := hide (HE.out.later hb)
    replace hB := below_next hB hB.size hb
    clear hb
    go_wp2_with fail
    refine (K3.out A1 c1 _ MA.out).mono ?_
    rintro x w5 ⟨rfl, hb⟩
    replace q0 := cell_keep q0 hb
    replace q1 := cell_keep q1 hb
    replace a0 := cell_keep a0 hb
    replace a1 := cell_keep a1 hb
    replace MO := hide (MO.out.later hb)
    replace MA := hide (MA.out.later hb)
    replace HE := hide (HE.out.later hb)
    replace hB := below_next hB hB.size hb
    clear hb
    go_wp2_with fail
    refine (K4.out A1 c1 _ MA.out HE.out).mono ?_
    rintro x w6 ⟨B2, d2, b2, rfl, hx2, ok2, hb⟩
    have MC := hide (ok2.mem MA.out hb hl)
    have X2 := hide hx2
    clear ok2 hx2
    replace q0 := cell_keep q0 hb
    replace q1 := cell_keep q1 hb
    replace a0 := cell_keep a0 hb
    replace a1 := cell_keep a1 hb
    replace MO := hide (MO.out.later hb)
    replace MA := hide (MA.out.later hb)
    replace HE := hide (HE.out.later hb)
    replace hB := below_next hB hB.size hb
    clear hb
    have hb : Below w6.heap.size w6 (w6.alloc (.cells #[.slice A1 s1.length c1, .slice B2 b2.length d2] 25)) := (Below.refl _ _).alloc (Nat.le_refl _) _
    have e0 : (w6.alloc (.cells #[.slice A1 s1.length c1, .slice B2 b2.length d2] 25)).cell? ⟨w6.heap.size, 0, none⟩ = some (.slice A1 s1.length c1) := by simp [go_sem]
    have e1 : (w6.alloc (.cells #[.slice A1 s1.length c1, .slice B2 b2.length d2] 25)).cell? ⟨w6.heap.size, 1, none⟩ = some (.slice B2 b2.length d2) := by simp [go_sem]
    replace q0 := cell_keep q0 hb
    replace q1 := cell_keep q1 hb
    replace a0 := cell_keep a0 hb
    replace a1 := cell_keep a1 hb
    replace MO := hide (MO.out.later hb)
    replace MA := hide (MA.out.later hb)
    replace MC := hide (MC.out.later hb)
    replace HE := hide (HE.out.later hb)
    replace hB := below_next hB hB.size hb
    clear hb
    go_wp2_with fail
    refine (K5.out A1 B2 c1 d2 b2 kj lb _ X2.out HNJ.out MC.out).mono ?_
    rintro x w7 ⟨A3, c3, rfl, t3, hb⟩
    have TD := hide t3
    clear t3
    replace q0 := cell_keep q0 hb
    replace q1 := cell_keep q1 hb
    replace a0 := cell_keep a0 hb
    replace a1 := cell_keep a1 hb
    replace e0 := cell_keep e0 hb
    replace e1 := cell_keep e1 hb
    replace MO := hide (MO.out.later hb)
    replace MA := hide (MA.out.later hb)
    replace MC := hide (MC.out.later hb)
    replace HE := hide (HE.out.later hb)
    replace hB := below_next hB hB.size hb
    clear hb
    go_wp2_with fail
    refine (K2.out A1 B2 c1 d2 b2 _ MC.out).mono ?_
    rintro x w8 ⟨rfl, hb⟩
    replace q0 := cell_keep q0 hb
    replace q1 := cell_keep q1 hb
    replace a0 := cell_keep a0 hb
    replace a1 := cell_keep a1 hb
    replace e0 := cell_keep e0 hb
    replace e1 := cell_keep e1 hb
    replace MO := hide (MO.out.later hb)
    replace MA := hide (MA.out.later hb)
    replace MC := hide (MC.out.later hb)
    replace HE := hide (HE.out.later hb)
    replace TD := hide (TD.out.later hb)
    replace hB := below_next hB hB.size hb
    clear hb
    obtain ⟨bw, ow, yv2, rfl, hbw, hyv2, cw⟩ := MO.out.words.num hkkn
    obtain rfl : yv2 = yv := by have := HYW.out hik; rw [hyv2] at this; injection this
    clear hyv2
    go_wp2_with fail
    refine (ents_any A3 c3 lb lb.length rfl (by omega) _ TD.out).mono ?_
    rintro x w9 ⟨A4, c4, rfl, hc4, t4, f4, hb⟩
    have T4 := hide t4
    clear t4 f4 hc4
    replace q0 := cell_keep q0 hb
    replace q1 := cell_keep q1 hb
    replace a0 := cell_keep a0 hb
    replace a1 := cell_keep a1 hb
    replace e0 := cell_keep e0 hb
    replace e1 := cell_keep e1 hb
    replace cw := cell_keep cw hb
    replace MO := hide (MO.out.later hb)
    replace MA := hide (MA.out.later hb)
    replace MC := hide (MC.out.later hb)
    replace HE := hide (HE.out.later hb)
    replace TD := hide (TD.out.later hb)
    replace hB := below_next hB hB.size hb
    clear hb
    go_wp2_with fail
    refine (ents_any E n lb lb.length rfl (by omega) _ HE.out).mono ?_
    rintro x w10 ⟨A5, c5, rfl, hc5, t5, f5, hb⟩
    have T5 := hide t5
    clear t5 f5 hc5
    replace q0 := cell_keep q0 hb
    replace q1 := cell_keep q1 hb
    replace a0 := cell_keep a0 hb
    replace a1 := cell_keep a1 hb
    replace e0 := cell_keep e0 hb
    replace e1 := cell_keep e1 hb
    replace cw := cell_keep cw hb
    replace MO := hide (MO.out.later hb)
    replace MA := hide (MA.out.later hb)
    replace MC := hide (MC.out.later hb)
    replace HE := hide (HE.out.later hb)
    replace TD := hide (TD.out.later hb)
    replace T4 := hide (T4.out.later hb)
    replace hB := below_next hB hB.size hb
    clear hb
    go_wp2_with fail
    refine (sameE_true A4 A5 c4 c5 lb hl _ T4.out T5.out).mono ?_
    rintro x w11 ⟨rfl, hb⟩
    replace q0 := cell_keep q0 hb
    replace q1 := cell_keep q1 hb
    replace a0 := cell_keep a0 hb
    replace a1 := cell_keep a1 hb
    replace e0 := cell_keep e0 hb
    replace e1 := cell_keep e1 hb
    replace cw := cell_keep cw hb
    replace MO := hide (MO.out.later hb)
    replace MA := hide (MA.out.later hb)
    replace MC := hide (MC.out.later hb)
    replace HE := hide (HE.out.later hb)
    replace TD := hide (TD.out.later hb)
    replace T4 := hide (T4.out.later hb)
    replace T5 := hide (T5.out.later hb)
    replace hB := below_next hB hB.size hb
    clear hb
    clear T4 T5 TD HE
    go_wp2
    go_loopw [26] (fun n wr => ∃ j : Nat, j ≤ bs.length ∧ n = .int .i64 j ∧ Below w11.heap.size w11 wr) (fun n _ => bs.length - (intOf n).toNat)
    case atStart => exact ⟨0, Nat.zero_le _, rfl, Below.refl _ _⟩
    case round =>
      obtain ⟨j, hj, rfl, hb⟩ := hrel
      have hBn := hb
      replace q0 := cell_keep q0 hb
      replace q1 := cell_keep q1 hb
      replace a0 := cell_keep a0 hb
      replace a1 := cell_keep a1 hb
      replace e0 := cell_keep e0 hb
      replace e1 := cell_keep e1 hb
      replace cw := cell_keep cw hb
      replace MO := hide (MO.out.later hb)
      replace MA := hide (MA.out.later hb)
      replace MC := hide (MC.out.later hb)
      replace hB := below_next hB hB.size hb
      clear hb
      have hfb := MO.out.fewb
      by_cases hlt : j < bs.length
      · obtain ⟨bq, oq, rfl, hbq, hcq⟩ := MO.out.bxs.2 (by omega)
        obtain ⟨⟨qA, qc, ql⟩, hq⟩ := at_some hlt
        have ce := hcq j (Bt.val ⟨qA, qc, ql⟩) (by simp [hq])
        simp only [Bt.val] at ce
        have TQ : Hid (Sees wr wr.heap.size 3 qA ql.length (ecells ql)) := hide (MO.out.each ⟨qA, qc, ql⟩ (List.mem_of_getElem? hq))
        have hqn : ql.length ≤ 20000 := MO.out.short ⟨qA, qc, ql⟩ (List.mem_of_getElem? hq)
        have HQ : Hid ((boxes bs)[j]? = some ql) := hide (boxes_at hq)
        clear hcq hq
        have hj0 : (0 : Int) ≤ (j : Int) := Int.natCast_nonneg _
        have hj1 : (j : Int) < (bs.length : Int) := by omega
        by_cases hjk : j = kj
        · subst hjk
          go_wp2_with fail
          refine (K5.out A1 B2 c1 d2 b2 j lb _ X2.out HNJ.out MC.out).mono ?_
          rintro x w12 ⟨A6, c6, rfl, t6, hb⟩
          clear t6
          replace q0 := cell_keep q0 hb
          replace q1 := cell_keep q1 hb
          replace a0 := cell_keep a0 hb
          replace a1 := cell_keep a1 hb
          replace e0 := cell_keep e0 hb
          replace e1 := cell_keep e1 hb
          replace cw := cell_keep cw hb
          replace ce := cell_keep ce hb
          replace MO := hide (MO.out.later hb)
          replace MA := hide (MA.out.later hb)
          replace MC := hide (MC.out.later hb)
          replace TQ := hide (TQ.out.later hb)
          replace hB := below_next hB hB.size hb
          replace hBn := below_next hBn hBn.size hb
          clear hb
          go_wp2_with fail
          go_quiet (fail)
          go_wp2
          go_roundw
          case rel => exact ⟨j + 1, by omega, by go_num, below_drewN (hBn) _⟩
          case measure => simp [intOf]; omega
        · have hjn : ((j : Int) != (kj : Int)) = true := by rw [bne_iff_ne]; omega
          have hje : ((j : Int) == (kj : Int)) = false := by rw [beq_eq_false_iff_ne]; omega
          have HJ := hide ((HNN.out j hjk).trans HQ.out)
          clear hjk
          go_wp2_with fail
          refine (K5.out A1 B2 c1 d2 b2 j ql _ X2.out HJ.out MC.out).mono ?_
          rintro x w13 ⟨A6, c6, rfl, t6, hb⟩
          have T6 := hide t6
          clear t6
          replace q0 := cell_keep q0 hb
          replace q1 := cell_keep q1 hb
          replace a0 := cell_keep a0 hb
          replace a1 := cell_keep a1 hb
          replace e0 := cell_keep e0 hb
          replace e1 := cell_keep e1 hb
          replace cw := cell_keep cw hb
          replace ce := cell_keep ce hb
          replace MO := hide (MO.out.later hb)
          replace MA := hide (MA.out.later hb)
          replace MC := hide (MC.out.later hb)
          replace TQ := hide (TQ.out.later hb)
          replace hB := below_next hB hB.size hb
          replace hBn := below_next hBn hBn.size hb
          clear hb
          go_wp2_with fail
          replace q1 : w13.drew.cell? ⟨w.heap.size, 1, none⟩ = some (.slice (some ⟨bq, oq, none⟩) bs.length d) := q1
          replace ce : w13.drew.cell? ⟨bq, oq + j, none⟩ = some (.slice qA ql.length qc) := ce
          replace MO := hide (MO.out.later ((Below.refl _ _).drew))
          replace MA := hide (MA.out.later ((Below.refl _ _).drew))
          replace MC := hide (MC.out.later ((Below.refl _ _).drew))
          replace TQ := hide (TQ.out.later ((Below.refl _ _).drew))
          replace T6 := hide (T6.out.later ((Below.refl _ _).drew))
          replace hB := hB.drew
          replace hBn := hBn.drew
          clear q0 a0 a1 e0 e1 cw
          go_region_held3 (fun w' => w'.cell? ⟨w.heap.size, 1, none⟩ = some (.slice (some ⟨bq, oq, none⟩) bs.length d) ∧ w'.cell? ⟨bq, oq + j, none⟩ = some (.slice qA ql.length qc))
            (exact ⟨q1, ce⟩)
            (first
              | (go_at_call_of 25 A6; refine (ents_any A6 c6 ql ql.length rfl (by omega) _ T6.out).mono ?_; rintro x vv ⟨A7, c7, rfl, hc7, t7, f7, hv⟩; have T7 := hide t7; clear t7 f7 hc7; replace q1 := cell_keep q1 hv; replace ce := cell_keep ce hv; replace MO := hide (MO.out.later hv); replace MA := hide (MA.out.later hv); replace MC := hide (MC.out.later hv); replace TQ := hide (TQ.out.later hv); replace T6 := hide (T6.out.later hv); replace hB := below_next hB hB.size hv; replace hBn := below_next hBn hBn.size hv; clear hv)
              | (go_at_call_of 25 qA; refine (ents_any qA qc ql ql.length rfl (by omega) _ TQ.out).mono ?_; rintro x vv ⟨A8, c8, rfl, hc8, t8, f8, hv⟩; have T8 := hide t8; clear t8 f8 hc8; replace T7 := hide (T7.out.later hv); replace q1 := cell_keep q1 hv; replace ce := cell_keep ce hv; replace MO := hide (MO.out.later hv); replace MA := hide (MA.out.later hv); replace MC := hide (MC.out.later hv); replace TQ := hide (TQ.out.later hv); replace T6 := hide (T6.out.later hv); replace hB := below_next hB hB.size hv; replace hBn := below_next hBn hBn.size hv; clear hv)
              | (go_at_call 26; refine (sameE_true A7 A8 c7 c8 ql hqn _ T7.out T8.out).mono ?_; rintro x vv ⟨rfl, hv⟩; replace q1 := cell_keep q1 hv; replace ce := cell_keep ce hv; replace MO := hide (MO.out.later hv); replace MA := hide (MA.out.later hv); replace MC := hide (MC.out.later hv); replace TQ := hide (TQ.out.later hv); replace T6 := hide (T6.out.later hv); replace hB := below_next hB hB.size hv; replace hBn := below_next hBn hBn.size hv; clear hv))
          go_wp2
          go_roundw
          case rel => exact ⟨j + 1, by omega, by go_num, hBn⟩
          case measure => simp [intOf]; omega
      · obtain rfl : j = bs.length := by omega
        go_wp2
        go_ret
        exact ⟨rfl, hB⟩
end Go.Proofs.Ytkiagdlcbfdgnaa
