/- The walk of WmemWords. -/
import Derived.Test.YtkiagdlcbfdgnaaW3Base
namespace Go.Proofs.Ytkiagdlcbfdgnaa
open Go.RowKit

set_option maxRecDepth 100000 in
set_option maxHeartbeats 8000000 in
theorem walkWords (A B : Option Addr) (c d : Nat) (ws : List Int) (bs : List Bt) (i old v : Int) (w : World) (m : MemAt w A ws B bs) :
    Calls Try.prog 3 #[.agg #[.slice A ws.length c, .slice B bs.length d], .int .i64 i, .int .i64 old, .int .i64 v] w (BoolPost true w) := by
  have hb0 : Below w.heap.size w (w.alloc (.cells #[.slice A ws.length c, .slice B bs.length d] 25)) := (Below.refl _ w).alloc (Nat.le_refl _) _
  have KL := hide (long_any A B c d ws bs _ (m.later hb0))
  by_cases hL : longB ws bs = true
  · rw [hL] at KL
    clear hL m
    go_enter Try.func3, Try.ntmps3
    go_wp2_with fail
    refine KL.out.mono ?_
    rintro x w1 ⟨rfl, hb1⟩
    have q0 : w1.cell? ⟨w.heap.size, 0, none⟩ = some (.slice A ws.length c) := cell_keep (by simp [go_sem]) hb1
    have q1 : w1.cell? ⟨w.heap.size, 1, none⟩ = some (.slice B bs.length d) := cell_keep (by simp [go_sem]) hb1
    have hB1 := below_next hb0 (by simp) hb1
    clear hb1 KL
    go_wp2_with fail
    refine (shown_any _).mono ?_
    rintro x w2 ⟨rfl, hb2⟩
    go_wp2
    go_ret
    exact ⟨rfl, below_next hB1 hB1.size hb2⟩
  have hL' : longB ws bs = false := by simpa using hL
  have mo := mem_small m hL'
  rw [hL'] at KL
  clear hL hL' m
  have MO := hide mo
  clear mo
  obtain ⟨lv, hlv⟩ : ∃ x, ldV ws i = x := ⟨_, rfl⟩
  obtain ⟨ev, hev⟩ : ∃ x, erV ws.length i = x := ⟨_, rfl⟩
  obtain ⟨s1, hs1⟩ : ∃ x, stV ws i v = x := ⟨_, rfl⟩
  obtain ⟨s2, hs2⟩ : ∃ x, casV ws i old v = x := ⟨_, rfl⟩
  obtain ⟨cb, hcb⟩ : ∃ x, casB ws i old = x := ⟨_, rfl⟩
  have l1 : s1.length = ws.length := by rw [← hs1]; exact stV_length _ _ _
  have l2 : s2.length = ws.length := by rw [← hs2]; exact casV_length _ _ _ _
  have kl : ∀ A B c d bs y, MemOk y A ws B bs → Calls Try.prog 12 #[.agg #[.slice A ws.length c, .slice B bs.length d], .int .i64 i] y (IEPost lv ev y) := fun A B c d bs y hy => by
    have := load_any A B c d ws bs i y hy
    rwa [hlv, hev] at this
  have krl : ∀ A B c d bs y, MemOk y A ws B bs → Calls Try.prog 13 #[.agg #[.slice A ws.length c, .slice B bs.length d], .int .i64 i] y (IEPost lv ev y) := fun A B c d bs y hy => by
    have := rload_any A B c d ws bs i y hy
    rwa [hlv, hev] at this
  have ks : ∀ A B c d bs y, MemOk y A ws B bs → Calls Try.prog 14 #[.agg #[.slice A ws.length c, .slice B bs.length d], .int .i64 i, .int .i64 v] y (MEPost A s1 B bs.length d ev y) := fun A B c d bs y hy => by
    have := store_any A B c d ws bs i v y hy
    rwa [hs1, hev] at this
  have krs : ∀ A B c d bs y, MemOk y A ws B bs → Calls Try.prog 15 #[.agg #[.slice A ws.length c, .slice B bs.length d], .int .i64 i, .int .i64 v] y (MEPost A s1 B bs.length d ev y) := fun A B c d bs y hy => by
    have := rstore_any A B c d ws bs i v y hy
    rwa [hs1, hev] at this
  have kw : ∀ A B c d bs y, MemOk y A ws B bs → Calls Try.prog 16 #[.agg #[.slice A ws.length c, .slice B bs.length d], .int .i64 i, .int .i64 v] y (MIEPost A s1 B bs.length d lv ev y) := fun A B c d bs y hy => by
    have := swap_any A B c d ws bs i v y hy
    rwa [hs1, hlv, hev] at this
  have krw : ∀ A B c d bs y, MemOk y A ws B bs → Calls Try.prog 17 #[.agg #[.slice A ws.length c, .slice B bs.length d], .int .i64 i, .int .i64 v] y (MIEPost A s1 B bs.length d lv ev y) := fun A B c d bs y hy => by
    have := rswap_any A B c d ws bs i v y hy
    rwa [hs1, hlv, hev] at this
  have kc : ∀ A B c d bs y, MemOk y A ws B bs → Calls Try.prog 18 #[.agg #[.slice A ws.length c, .slice B bs.length d], .int .i64 i, .int .i64 old, .int .i64 v] y (MBEPost A s2 B bs.length d cb ev y) := fun A B c d bs y hy => by
    have := cas_any A B c d ws bs i old v y hy
    rwa [hs2, hcb, hev] at this
  have krc : ∀ A B c d bs y, MemOk y A ws B bs → Calls Try.prog 19 #[.agg #[.slice A ws.length c, .slice B bs.length d], .int .i64 i, .int .i64 old, .int .i64 v] y (MBEPost A s2 B bs.length d cb ev y) := fun A B c d bs y hy => by
    have := rcas_any A B c d ws bs i old v y hy
    rwa [hs2, hcb, hev] at this
  have KLD := hide kl; have KRL := hide krl; have KST := hide ks; have KRS := hide krs; have KSW := hide kw; have KRW := hide krw; have KCA := hide kc; have KRC := hide krc; have L1 := hide l1; have L2 := hide l2
  clear kl krl ks krs kw krw kc krc l1 l2 hlv hev hs1 hs2 hcb
  go_enter Try.func3, Try.ntmps3
  go_wp2_with fail
  refine KL.out.mono ?_
  rintro x w1 ⟨rfl, hb1⟩
  have q0 : w1.cell? ⟨w.heap.size, 0, none⟩ = some (.slice A ws.length c) := cell_keep (by simp [go_sem]) hb1
  have q1 : w1.cell? ⟨w.heap.size, 1, none⟩ = some (.slice B bs.length d) := cell_keep (by simp [go_sem]) hb1
  have hB := below_next hb0 (by simp) hb1
  replace MO := hide (MO.out.later hB)
  clear KL hb0 hb1
  go_wp2_with fail
  refine (shown_any _).mono ?_
  rintro x w2 ⟨rfl, hb⟩
  replace q0 := cell_keep q0 hb
  replace q1 := cell_keep q1 hb
  replace MO := hide (MO.out.later hb)
  replace hB := below_next hB hB.size hb
  clear hb
  go_wp2_with fail
  refine (itsM_any A B c d ws bs _ MO.out).mono ?_
  rintro x w3 ⟨An, cn, Bn, dn, bn, rfl, hxn, mn, hb⟩
  have XN := hide hxn
  have MN := hide mn
  clear hxn mn
  replace q0 := cell_keep q0 hb
  replace q1 := cell_keep q1 hb
  replace MO := hide (MO.out.later hb)
  replace hB := below_next hB hB.size hb
  clear hb
  have hb : Below w3.heap.size w3 (w3.alloc (.cells #[.slice An ws.length cn, .slice Bn bn.length dn] 30)) := (Below.refl _ _).alloc (Nat.le_refl _) _
  have n0 : (w3.alloc (.cells #[.slice An ws.length cn, .slice Bn bn.length dn] 30)).cell? ⟨w3.heap.size, 0, none⟩ = some (.slice An ws.length cn) := by simp [go_sem]
  have n1 : (w3.alloc (.cells #[.slice An ws.length cn, .slice Bn bn.length dn] 30)).cell? ⟨w3.heap.size, 1, none⟩ = some (.slice Bn bn.length dn) := by simp [go_sem]
  replace q0 := cell_keep q0 hb
  replace q1 := cell_keep q1 hb
  replace MO := hide (MO.out.later hb)
  replace MN := hide (MN.out.later hb)
  replace hB := below_next hB hB.size hb
  clear hb
  go_wp2_with fail
  refine (KLD.out A B c d bs _ MO.out).mono ?_
  rintro x w4 ⟨rfl, hb⟩
  replace q0 := cell_keep q0 hb
  replace q1 := cell_keep q1 hb
  replace n0 := cell_keep n0 hb
  replace n1 := cell_keep n1 hb
  replace MO := hide (MO.out.later hb)
  replace MN := hide (MN.out.later hb)
  replace hB := below_next hB hB.size hb
  clear hb
  go_wp2_with fail
  refine (KRL.out An Bn cn dn bn _ MN.out).mono ?_
  rintro x w5 ⟨rfl, hb⟩
  replace q0 := cell_keep q0 hb
  replace q1 := cell_keep q1 hb
  replace n0 := cell_keep n0 hb
  replace n1 := cell_keep n1 hb
  replace MO := hide (MO.out.later hb)
  replace MN := hide (MN.out.later hb)
  replace hB := below_next hB hB.size hb
  clear hb
  go_wp2_with fail
  refine (KST.out A B c d bs _ MO.out).mono ?_
  rintro x w6 ⟨A1, c1, rfl, t1, ho, hb⟩
  have MC := hide (MO.out.words_at hb t1 L1.out)
  clear t1 ho
  replace q0 := cell_keep q0 hb
  replace q1 := cell_keep q1 hb
  replace n0 := cell_keep n0 hb
  replace n1 := cell_keep n1 hb
  replace MO := hide (MO.out.later hb)
  replace MN := hide (MN.out.later hb)
  replace hB := below_next hB hB.size hb
  clear hb
  have hb : Below w6.heap.size w6 (w6.alloc (.cells #[.slice A1 s1.length c1, .slice B bs.length d] 25)) := (Below.refl _ _).alloc (Nat.le_refl _) _
  have e0 : (w6.alloc (.cells #[.slice A1 s1.length c1, .slice B bs.length d] 25)).cell? ⟨w6.heap.size, 0, none⟩ = some (.slice A1 s1.length c1) := by simp [go_sem]
  have e1 : (w6.alloc (.cells #[.slice A1 s1.length c1, .slice B bs.length d] 25)).cell? ⟨w6.heap.size, 1, none⟩ = some (.slice B bs.length d) := by simp [go_sem]
  replace q0 := cell_keep q0 hb
  replace q1 := cell_keep q1 hb
  replace n0 := cell_keep n0 hb
  replace n1 := cell_keep n1 hb
  replace MO := hide (MO.out.later hb)
  replace MN := hide (MN.out.later hb)
  replace MC := hide (MC.out.later hb)
  replace hB := below_next hB hB.size hb
  clear hb
  go_wp2_with fail
  refine (KRS.out An Bn cn dn bn _ MN.out).mono ?_
  rintro x w7 ⟨A2, c2, rfl, t1, ho, hb⟩
  have MD := hide (MN.out.words_at hb t1 L1.out)
  clear t1 ho
  replace q0 := cell_keep q0 hb
  replace q1 := cell_keep q1 hb
  replace n0 := cell_keep n0 hb
  replace n1 := cell_keep n1 hb
  replace e0 := cell_keep e0 hb
  replace e1 := cell_keep e1 hb
  replace MO := hide (MO.out.later hb)
  replace MN := hide (MN.out.later hb)
  replace MC := hide (MC.out.later hb)
  replace hB := below_next hB hB.size hb
  clear hb
  have hb : Below w7.heap.size w7 (w7.alloc (.cells #[.slice A2 s1.length c2, .slice Bn bn.length dn] 30)) := (Below.refl _ _).alloc (Nat.le_refl _) _
  have f0 : (w7.alloc (.cells #[.slice A2 s1.length c2, .slice Bn bn.length dn] 30)).cell? ⟨w7.heap.size, 0, none⟩ = some (.slice A2 s1.length c2) := by simp [go_sem]
  have f1 : (w7.alloc (.cells #[.slice A2 s1.length c2, .slice Bn bn.length dn] 30)).cell? ⟨w7.heap.size, 1, none⟩ = some (.slice Bn bn.length dn) := by simp [go_sem]
  replace q0 := cell_keep q0 hb
  replace q1 := cell_keep q1 hb
  replace n0 := cell_keep n0 hb
  replace n1 := cell_keep n1 hb
  replace e0 := cell_keep e0 hb
  replace e1 := cell_keep e1 hb
  replace MO := hide (MO.out.later hb)
  replace MN := hide (MN.out.later hb)
  replace MC := hide (MC.out.later hb)
  replace MD := hide (MD.out.later hb)
  replace hB := below_next hB hB.size hb
  clear hb
  go_wp2_with fail
  refine (KSW.out A B c d bs _ MO.out).mono ?_
  rintro x w8 ⟨A3, c3, rfl, t1, ho, hb⟩
  have ME := hide (MO.out.words_at hb t1 L1.out)
  clear t1 ho
  replace q0 := cell_keep q0 hb
  replace q1 := cell_keep q1 hb
  replace n0 := cell_keep n0 hb
  replace n1 := cell_keep n1 hb
  replace e0 := cell_keep e0 hb
  replace e1 := cell_keep e1 hb
  replace f0 := cell_keep f0 hb
  replace f1 := cell_keep f1 hb
  replace MO := hide (MO.out.later hb)
  replace MN := hide (MN.out.later hb)
  replace MC := hide (MC.out.later hb)
  replace MD := hide (MD.out.later hb)
  replace hB := below_next hB hB.size hb
  clear hb
  have hb : Below w8.heap.size w8 (w8.alloc (.cells #[.slice A3 s1.length c3, .slice B bs.length d] 25)) := (Below.refl _ _).alloc (Nat.le_refl _) _
  have g0 : (w8.alloc (.cells #[.slice A3 s1.length c3, .slice B bs.length d] 25)).cell? ⟨w8.heap.size, 0, none⟩ = some (.slice A3 s1.length c3) := by simp [go_sem]
  have g1 : (w8.alloc (.cells #[.slice A3 s1.length c3, .slice B bs.length d] 25)).cell? ⟨w8.heap.size, 1, none⟩ = some (.slice B bs.length d) := by simp [go_sem]
  replace q0 := cell_keep q0 hb
  replace q1 := cell_keep q1 hb
  replace n0 := cell_keep n0 hb
  replace n1 := cell_keep n1 hb
  replace e0 := cell_keep e0 hb
  replace e1 := cell_keep e1 hb
  replace f0 := cell_keep f0 hb
  replace f1 := cell_keep f1 hb
  replace MO := hide (MO.out.later hb)
  replace MN := hide (MN.out.later hb)
  replace MC := hide (MC.out.later hb)
  replace MD := hide (MD.out.later hb)
  replace ME := hide (ME.out.later hb)
  replace hB := below_next hB hB.size hb
  clear hb
  go_wp2_with fail
  refine (KRW.out An Bn cn dn bn _ MN.out).mono ?_
  rintro x w9 ⟨A4, c4, rfl, t1, ho, hb⟩
  have MF := hide (MN.out.words_at hb t1 L1.out)
  clear t1 ho
  replace q0 := cell_keep q0 hb
  replace q1 := cell_keep q1 hb
  replace n0 := cell_keep n0 hb
  replace n1 := cell_keep n1 hb
  replace e0 := cell_keep e0 hb
  replace e1 := cell_keep e1 hb
  replace f0 := cell_keep f0 hb
  replace f1 := cell_keep f1 hb
  replace g0 := cell_keep g0 hb
  replace g1 := cell_keep g1 hb
  replace MO := hide (MO.out.later hb)
  replace MN := hide (MN.out.later hb)
  replace MC := hide (MC.out.later hb)
  replace MD := hide (MD.out.later hb)
  replace ME := hide (ME.out.later hb)
  replace hB := below_next hB hB.size hb
  clear hb
  have hb : Below w9.heap.size w9 (w9.alloc (.cells #[.slice A4 s1.length c4, .slice Bn bn.length dn] 30)) := (Below.refl _ _).alloc (Nat.le_refl _) _
  have h0 : (w9.alloc (.cells #[.slice A4 s1.length c4, .slice Bn bn.length dn] 30)).cell? ⟨w9.heap.size, 0, none⟩ = some (.slice A4 s1.length c4) := by simp [go_sem]
  have h1 : (w9.alloc (.cells #[.slice A4 s1.length c4, .slice Bn bn.length dn] 30)).cell? ⟨w9.heap.size, 1, none⟩ = some (.slice Bn bn.length dn) := by simp [go_sem]
  replace q0 := cell_keep q0 hb
  replace q1 := cell_keep q1 hb
  replace n0 := cell_keep n0 hb
  replace n1 := cell_keep n1 hb
  replace e0 := cell_keep e0 hb
  replace e1 := cell_keep e1 hb
  replace f0 := cell_keep f0 hb
  replace f1 := cell_keep f1 hb
  replace g0 := cell_keep g0 hb
  replace g1 := cell_keep g1 hb
  replace MO := hide (MO.out.later hb)
  replace MN := hide (MN.out.later hb)
  replace MC := hide (MC.out.later hb)
  replace MD := hide (MD.out.later hb)
  replace ME := hide (ME.out.later hb)
  replace MF := hide (MF.out.later hb)
  replace hB := below_next hB hB.size hb
  clear hb
  go_wp2_with fail
  refine (KCA.out A B c d bs _ MO.out).mono ?_
  rintro x w10 ⟨A5, c5, rfl, t1, ho, hb⟩
  have MG := hide (MO.out.words_at hb t1 L2.out)
  clear t1 ho
  replace q0 := cell_keep q0 hb
  replace q1 := cell_keep q1 hb
  replace n0 := cell_keep n0 hb
  replace n1 := cell_keep n1 hb
  replace e0 := cell_keep e0 hb
  replace e1 := cell_keep e1 hb
  replace f0 := cell_keep f0 hb
  replace f1 := cell_keep f1 hb
  replace g0 := cell_keep g0 hb
  replace g1 := cell_keep g1 hb
  replace h0 := cell_keep h0 hb
  replace h1 := cell_keep h1 hb
  replace MO := hide (MO.out.later hb)
  replace MN := hide (MN.out.later hb)
  replace MC := hide (MC.out.later hb)
  replace MD := hide (MD.out.later hb)
  replace ME := hide (ME.out.later hb)
  replace MF := hide (MF.out.later hb)
  replace hB := below_next hB hB.size hb
  clear hb
  have hb : Below w10.heap.size w10 (w10.alloc (.cells #[.slice A5 s2.length c5, .slice B bs.length d] 25)) := (Below.refl _ _).alloc (Nat.le_refl _) _
  have i0 : (w10.alloc (.cells #[.slice A5 s2.length c5, .slice B bs.length d] 25)).cell? ⟨w10.heap.size, 0, none⟩ = some (.slice A5 s2.length c5) := by simp [go_sem]
  have i1 : (w10.alloc (.cells #[.slice A5 s2.length c5, .slice B bs.length d] 25)).cell? ⟨w10.heap.size, 1, none⟩ = some (.slice B bs.length d) := by simp [go_sem]
  replace q0 := cell_keep q0 hb
  replace q1 := cell_keep q1 hb
  replace n0 := cell_keep n0 hb
  replace n1 := cell_keep n1 hb
  replace e0 := cell_keep e0 hb
  replace e1 := cell_keep e1 hb
  replace f0 := cell_keep f0 hb
  replace f1 := cell_keep f1 hb
  replace g0 := cell_keep g0 hb
  replace g1 := cell_keep g1 hb
  replace h0 := cell_keep h0 hb
  replace h1 := cell_keep h1 hb
  replace MO := hide (MO.out.later hb)
  replace MN := hide (MN.out.later hb)
  replace MC := hide (MC.out.later hb)
  replace MD := hide (MD.out.later hb)
  replace ME := hide (ME.out.later hb)
  replace MF := hide (MF.out.later hb)
  replace MG := hide (MG.out.later hb)
  replace hB := below_next hB hB.size hb
  clear hb
  go_wp2_with fail
  refine (KRC.out An Bn cn dn bn _ MN.out).mono ?_
  rintro x w11 ⟨A6, c6, rfl, t1, ho, hb⟩
  have MH := hide (MN.out.words_at hb t1 L2.out)
  clear t1 ho
  replace q0 := cell_keep q0 hb
  replace q1 := cell_keep q1 hb
  replace n0 := cell_keep n0 hb
  replace n1 := cell_keep n1 hb
  replace e0 := cell_keep e0 hb
  replace e1 := cell_keep e1 hb
  replace f0 := cell_keep f0 hb
  replace f1 := cell_keep f1 hb
  replace g0 := cell_keep g0 hb
  replace g1 := cell_keep g1 hb
  replace h0 := cell_keep h0 hb
  replace h1 := cell_keep h1 hb
  replace i0 := cell_keep i0 hb
  replace i1 := cell_keep i1 hb
  replace MO := hide (MO.out.later hb)
  replace MN := hide (MN.out.later hb)
  replace MC := hide (MC.out.later hb)
  replace MD := hide (MD.out.later hb)
  replace ME := hide (ME.out.later hb)
  replace MF := hide (MF.out.later hb)
  replace MG := hide (MG.out.later hb)
  replace hB := below_next hB hB.size hb
  clear hb
  have hb : Below w11.heap.size w11 (w11.alloc (.cells #[.slice A6 s2.length c6, .slice Bn bn.length dn] 30)) := (Below.refl _ _).alloc (Nat.le_refl _) _
  have j0 : (w11.alloc (.cells #[.slice A6 s2.length c6, .slice Bn bn.length dn] 30)).cell? ⟨w11.heap.size, 0, none⟩ = some (.slice A6 s2.length c6) := by simp [go_sem]
  have j1 : (w11.alloc (.cells #[.slice A6 s2.length c6, .slice Bn bn.length dn] 30)).cell? ⟨w11.heap.size, 1, none⟩ = some (.slice Bn bn.length dn) := by simp [go_sem]
  replace q0 := cell_keep q0 hb
  replace q1 := cell_keep q1 hb
  replace n0 := cell_keep n0 hb
  replace n1 := cell_keep n1 hb
  replace e0 := cell_keep e0 hb
  replace e1 := cell_keep e1 hb
  replace f0 := cell_keep f0 hb
  replace f1 := cell_keep f1 hb
  replace g0 := cell_keep g0 hb
  replace g1 := cell_keep g1 hb
  replace h0 := cell_keep h0 hb
  replace h1 := cell_keep h1 hb
  replace i0 := cell_keep i0 hb
  replace i1 := cell_keep i1 hb
  replace MO := hide (MO.out.later hb)
  replace MN := hide (MN.out.later hb)
  replace MC := hide (MC.out.later hb)
  replace MD := hide (MD.out.later hb)
  replace ME := hide (ME.out.later hb)
  replace MF := hide (MF.out.later hb)
  replace MG := hide (MG.out.later hb)
  replace MH := hide (MH.out.later hb)
  replace hB := below_next hB hB.size hb
  clear hb
  go_wp2_with fail
  generalize (w11.alloc (.cells #[.slice A6 s2.length c6, .slice Bn bn.length dn] 30)) = wz at *
  replace q0 : wz.drew.cell? ⟨w.heap.size, 0, none⟩ = some (.slice A ws.length c) := q0
  replace q1 : wz.drew.cell? ⟨w.heap.size, 1, none⟩ = some (.slice B bs.length d) := q1
  replace n0 : wz.drew.cell? ⟨w3.heap.size, 0, none⟩ = some (.slice An ws.length cn) := n0
  replace n1 : wz.drew.cell? ⟨w3.heap.size, 1, none⟩ = some (.slice Bn bn.length dn) := n1
  replace e0 : wz.drew.cell? ⟨w6.heap.size, 0, none⟩ = some (.slice A1 s1.length c1) := e0
  replace e1 : wz.drew.cell? ⟨w6.heap.size, 1, none⟩ = some (.slice B bs.length d) := e1
  replace f0 : wz.drew.cell? ⟨w7.heap.size, 0, none⟩ = some (.slice A2 s1.length c2) := f0
  replace f1 : wz.drew.cell? ⟨w7.heap.size, 1, none⟩ = some (.slice Bn bn.length dn) := f1
  replace g0 : wz.drew.cell? ⟨w8.heap.size, 0, none⟩ = some (.slice A3 s1.length c3) := g0
  replace g1 : wz.drew.cell? ⟨w8.heap.size, 1, none⟩ = some (.slice B bs.length d) := g1
  replace h0 : wz.drew.cell? ⟨w9.heap.size, 0, none⟩ = some (.slice A4 s1.length c4) := h0
  replace h1 : wz.drew.cell? ⟨w9.heap.size, 1, none⟩ = some (.slice Bn bn.length dn) := h1
  replace i0 : wz.drew.cell? ⟨w10.heap.size, 0, none⟩ = some (.slice A5 s2.length c5) := i0
  replace i1 : wz.drew.cell? ⟨w10.heap.size, 1, none⟩ = some (.slice B bs.length d) := i1
  replace j0 : wz.drew.cell? ⟨w11.heap.size, 0, none⟩ = some (.slice A6 s2.length c6) := j0
  replace j1 : wz.drew.cell? ⟨w11.heap.size, 1, none⟩ = some (.slice Bn bn.length dn) := j1
  replace MO := hide (MO.out.later ((Below.refl _ _).drew))
  replace MN := hide (MN.out.later ((Below.refl _ _).drew))
  replace MC := hide (MC.out.later ((Below.refl _ _).drew))
  replace MD := hide (MD.out.later ((Below.refl _ _).drew))
  replace ME := hide (ME.out.later ((Below.refl _ _).drew))
  replace MF := hide (MF.out.later ((Below.refl _ _).drew))
  replace MG := hide (MG.out.later ((Below.refl _ _).drew))
  replace MH := hide (MH.out.later ((Below.refl _ _).drew))
  replace hB := hB.drew
  go_region_held3 (fun w' => w'.cell? ⟨w.heap.size, 0, none⟩ = some (.slice A ws.length c) ∧ w'.cell? ⟨w.heap.size, 1, none⟩ = some (.slice B bs.length d) ∧ w'.cell? ⟨w3.heap.size, 0, none⟩ = some (.slice An ws.length cn) ∧ w'.cell? ⟨w3.heap.size, 1, none⟩ = some (.slice Bn bn.length dn) ∧ w'.cell? ⟨w6.heap.size, 0, none⟩ = some (.slice A1 s1.length c1) ∧ w'.cell? ⟨w6.heap.size, 1, none⟩ = some (.slice B bs.length d) ∧ w'.cell? ⟨w7.heap.size, 0, none⟩ = some (.slice A2 s1.length c2) ∧ w'.cell? ⟨w7.heap.size, 1, none⟩ = some (.slice Bn bn.length dn) ∧ w'.cell? ⟨w8.heap.size, 0, none⟩ = some (.slice A3 s1.length c3) ∧ w'.cell? ⟨w8.heap.size, 1, none⟩ = some (.slice B bs.length d) ∧ w'.cell? ⟨w9.heap.size, 0, none⟩ = some (.slice A4 s1.length c4) ∧ w'.cell? ⟨w9.heap.size, 1, none⟩ = some (.slice Bn bn.length dn) ∧ w'.cell? ⟨w10.heap.size, 0, none⟩ = some (.slice A5 s2.length c5) ∧ w'.cell? ⟨w10.heap.size, 1, none⟩ = some (.slice B bs.length d) ∧ w'.cell? ⟨w11.heap.size, 0, none⟩ = some (.slice A6 s2.length c6) ∧ w'.cell? ⟨w11.heap.size, 1, none⟩ = some (.slice Bn bn.length dn))
    (exact ⟨q0, q1, n0, n1, e0, e1, f0, f1, g0, g1, h0, h1, i0, i1, j0, j1⟩)
    (first
      | (go_at_call_of 11 A1; refine (itsM_any A1 B c1 d s1 bs _ MC.out).mono ?_; rintro x vv ⟨A8, c8, B8, d8, b8, rfl, hx8, m8, hv⟩; have X8 := hide hx8; have R8 := hide m8; clear hx8 m8; replace q0 := cell_keep q0 hv; replace q1 := cell_keep q1 hv; replace n0 := cell_keep n0 hv; replace n1 := cell_keep n1 hv; replace e0 := cell_keep e0 hv; replace e1 := cell_keep e1 hv; replace f0 := cell_keep f0 hv; replace f1 := cell_keep f1 hv; replace g0 := cell_keep g0 hv; replace g1 := cell_keep g1 hv; replace h0 := cell_keep h0 hv; replace h1 := cell_keep h1 hv; replace i0 := cell_keep i0 hv; replace i1 := cell_keep i1 hv; replace j0 := cell_keep j0 hv; replace j1 := cell_keep j1 hv; replace MO := hide (MO.out.later hv); replace MN := hide (MN.out.later hv); replace MC := hide (MC.out.later hv); replace MD := hide (MD.out.later hv); replace ME := hide (ME.out.later hv); replace MF := hide (MF.out.later hv); replace MG := hide (MG.out.later hv); replace MH := hide (MH.out.later hv); replace hB := below_next hB hB.size hv; clear hv)
      | (go_at_call_of 11 A3; refine (itsM_any A3 B c3 d s1 bs _ ME.out).mono ?_; rintro x vv ⟨A8, c8, B8, d8, b8, rfl, hx8, m8, hv⟩; have X8 := hide hx8; have R8 := hide m8; clear hx8 m8; replace q0 := cell_keep q0 hv; replace q1 := cell_keep q1 hv; replace n0 := cell_keep n0 hv; replace n1 := cell_keep n1 hv; replace e0 := cell_keep e0 hv; replace e1 := cell_keep e1 hv; replace f0 := cell_keep f0 hv; replace f1 := cell_keep f1 hv; replace g0 := cell_keep g0 hv; replace g1 := cell_keep g1 hv; replace h0 := cell_keep h0 hv; replace h1 := cell_keep h1 hv; replace i0 := cell_keep i0 hv; replace i1 := cell_keep i1 hv; replace j0 := cell_keep j0 hv; replace j1 := cell_keep j1 hv; replace MO := hide (MO.out.later hv); replace MN := hide (MN.out.later hv); replace MC := hide (MC.out.later hv); replace MD := hide (MD.out.later hv); replace ME := hide (ME.out.later hv); replace MF := hide (MF.out.later hv); replace MG := hide (MG.out.later hv); replace MH := hide (MH.out.later hv); replace hB := below_next hB hB.size hv; clear hv)
      | (go_at_call_of 11 A5; refine (itsM_any A5 B c5 d s2 bs _ MG.out).mono ?_; rintro x vv ⟨A8, c8, B8, d8, b8, rfl, hx8, m8, hv⟩; have X8 := hide hx8; have R8 := hide m8; clear hx8 m8; replace q0 := cell_keep q0 hv; replace q1 := cell_keep q1 hv; replace n0 := cell_keep n0 hv; replace n1 := cell_keep n1 hv; replace e0 := cell_keep e0 hv; replace e1 := cell_keep e1 hv; replace f0 := cell_keep f0 hv; replace f1 := cell_keep f1 hv; replace g0 := cell_keep g0 hv; replace g1 := cell_keep g1 hv; replace h0 := cell_keep h0 hv; replace h1 := cell_keep h1 hv; replace i0 := cell_keep i0 hv; replace i1 := cell_keep i1 hv; replace j0 := cell_keep j0 hv; replace j1 := cell_keep j1 hv; replace MO := hide (MO.out.later hv); replace MN := hide (MN.out.later hv); replace MC := hide (MC.out.later hv); replace MD := hide (MD.out.later hv); replace ME := hide (ME.out.later hv); replace MF := hide (MF.out.later hv); replace MG := hide (MG.out.later hv); replace MH := hide (MH.out.later hv); replace hB := below_next hB hB.size hv; clear hv)
      | (go_at_call_of 11 A; refine (itsM_any A B c d ws bs _ MO.out).mono ?_; rintro x vv ⟨A8, c8, B8, d8, b8, rfl, hx8, m8, hv⟩; have X8 := hide hx8; have R8 := hide m8; clear hx8 m8; replace q0 := cell_keep q0 hv; replace q1 := cell_keep q1 hv; replace n0 := cell_keep n0 hv; replace n1 := cell_keep n1 hv; replace e0 := cell_keep e0 hv; replace e1 := cell_keep e1 hv; replace f0 := cell_keep f0 hv; replace f1 := cell_keep f1 hv; replace g0 := cell_keep g0 hv; replace g1 := cell_keep g1 hv; replace h0 := cell_keep h0 hv; replace h1 := cell_keep h1 hv; replace i0 := cell_keep i0 hv; replace i1 := cell_keep i1 hv; replace j0 := cell_keep j0 hv; replace j1 := cell_keep j1 hv; replace MO := hide (MO.out.later hv); replace MN := hide (MN.out.later hv); replace MC := hide (MC.out.later hv); replace MD := hide (MD.out.later hv); replace ME := hide (ME.out.later hv); replace MF := hide (MF.out.later hv); replace MG := hide (MG.out.later hv); replace MH := hide (MH.out.later hv); replace hB := below_next hB hB.size hv; clear hv)
      | (go_at_call_of 20 A2; refine (sameM_true A8 B8 A2 Bn c8 d8 c2 dn s1 s1 b8 bn _ R8.out MD.out rfl (X8.out.trans XN.out.symm)).mono ?_; rintro x vv ⟨rfl, hv⟩; replace q0 := cell_keep q0 hv; replace q1 := cell_keep q1 hv; replace n0 := cell_keep n0 hv; replace n1 := cell_keep n1 hv; replace e0 := cell_keep e0 hv; replace e1 := cell_keep e1 hv; replace f0 := cell_keep f0 hv; replace f1 := cell_keep f1 hv; replace g0 := cell_keep g0 hv; replace g1 := cell_keep g1 hv; replace h0 := cell_keep h0 hv; replace h1 := cell_keep h1 hv; replace i0 := cell_keep i0 hv; replace i1 := cell_keep i1 hv; replace j0 := cell_keep j0 hv; replace j1 := cell_keep j1 hv; replace MO := hide (MO.out.later hv); replace MN := hide (MN.out.later hv); replace MC := hide (MC.out.later hv); replace MD := hide (MD.out.later hv); replace ME := hide (ME.out.later hv); replace MF := hide (MF.out.later hv); replace MG := hide (MG.out.later hv); replace MH := hide (MH.out.later hv); replace hB := below_next hB hB.size hv; clear R8 X8; clear hv)
      | (go_at_call_of 20 A4; refine (sameM_true A8 B8 A4 Bn c8 d8 c4 dn s1 s1 b8 bn _ R8.out MF.out rfl (X8.out.trans XN.out.symm)).mono ?_; rintro x vv ⟨rfl, hv⟩; replace q0 := cell_keep q0 hv; replace q1 := cell_keep q1 hv; replace n0 := cell_keep n0 hv; replace n1 := cell_keep n1 hv; replace e0 := cell_keep e0 hv; replace e1 := cell_keep e1 hv; replace f0 := cell_keep f0 hv; replace f1 := cell_keep f1 hv; replace g0 := cell_keep g0 hv; replace g1 := cell_keep g1 hv; replace h0 := cell_keep h0 hv; replace h1 := cell_keep h1 hv; replace i0 := cell_keep i0 hv; replace i1 := cell_keep i1 hv; replace j0 := cell_keep j0 hv; replace j1 := cell_keep j1 hv; replace MO := hide (MO.out.later hv); replace MN := hide (MN.out.later hv); replace MC := hide (MC.out.later hv); replace MD := hide (MD.out.later hv); replace ME := hide (ME.out.later hv); replace MF := hide (MF.out.later hv); replace MG := hide (MG.out.later hv); replace MH := hide (MH.out.later hv); replace hB := below_next hB hB.size hv; clear R8 X8; clear hv)
      | (go_at_call_of 20 A6; refine (sameM_true A8 B8 A6 Bn c8 d8 c6 dn s2 s2 b8 bn _ R8.out MH.out rfl (X8.out.trans XN.out.symm)).mono ?_; rintro x vv ⟨rfl, hv⟩; replace q0 := cell_keep q0 hv; replace q1 := cell_keep q1 hv; replace n0 := cell_keep n0 hv; replace n1 := cell_keep n1 hv; replace e0 := cell_keep e0 hv; replace e1 := cell_keep e1 hv; replace f0 := cell_keep f0 hv; replace f1 := cell_keep f1 hv; replace g0 := cell_keep g0 hv; replace g1 := cell_keep g1 hv; replace h0 := cell_keep h0 hv; replace h1 := cell_keep h1 hv; replace i0 := cell_keep i0 hv; replace i1 := cell_keep i1 hv; replace j0 := cell_keep j0 hv; replace j1 := cell_keep j1 hv; replace MO := hide (MO.out.later hv); replace MN := hide (MN.out.later hv); replace MC := hide (MC.out.later hv); replace MD := hide (MD.out.later hv); replace ME := hide (ME.out.later hv); replace MF := hide (MF.out.later hv); replace MG := hide (MG.out.later hv); replace MH := hide (MH.out.later hv); replace hB := below_next hB hB.size hv; clear R8 X8; clear hv)
      | (go_at_call_of 20 An; refine (sameM_true A8 B8 An Bn c8 d8 cn dn ws ws b8 bn _ R8.out MN.out rfl (X8.out.trans XN.out.symm)).mono ?_; rintro x vv ⟨rfl, hv⟩; replace q0 := cell_keep q0 hv; replace q1 := cell_keep q1 hv; replace n0 := cell_keep n0 hv; replace n1 := cell_keep n1 hv; replace e0 := cell_keep e0 hv; replace e1 := cell_keep e1 hv; replace f0 := cell_keep f0 hv; replace f1 := cell_keep f1 hv; replace g0 := cell_keep g0 hv; replace g1 := cell_keep g1 hv; replace h0 := cell_keep h0 hv; replace h1 := cell_keep h1 hv; replace i0 := cell_keep i0 hv; replace i1 := cell_keep i1 hv; replace j0 := cell_keep j0 hv; replace j1 := cell_keep j1 hv; replace MO := hide (MO.out.later hv); replace MN := hide (MN.out.later hv); replace MC := hide (MC.out.later hv); replace MD := hide (MD.out.later hv); replace ME := hide (ME.out.later hv); replace MF := hide (MF.out.later hv); replace MG := hide (MG.out.later hv); replace MH := hide (MH.out.later hv); replace hB := below_next hB hB.size hv; clear R8 X8; clear hv))
  go_wp2
  go_ret
  exact ⟨rfl, hB⟩
end Go.Proofs.Ytkiagdlcbfdgnaa
