/- The law's 'shown' returns true. -/
import Derived.Test.YtkiagdlcbfdgnaaNewR
namespace Go.Proofs.Ytkiagdlcbfdgnaa
open Go.RowKit

/-- A memory's box, just laid, and what is seen of the memory there. -/
theorem MemOk.boxed {w : World} {A B : Option Addr} {ws : List Int} {bs : List Bt} (m : MemOk w A ws B bs) (o : Obj) : MemOk (w.alloc o) A ws B bs := m.later ((Below.refl _ _).alloc (Nat.le_refl _) _)

set_option maxRecDepth 100000 in
set_option maxHeartbeats 4000000 in
theorem shown_any (w : World) : Calls Try.prog 10 #[] w (BoolPost true w) := by
  obtain ⟨s0, hs0⟩ : ∃ x, List.replicate (cntV 2) (0 : Int) = x := ⟨_, rfl⟩
  obtain ⟨s1, hs1⟩ : ∃ x, stV s0 1 7 = x := ⟨_, rfl⟩
  obtain ⟨s2, hs2⟩ : ∃ x, stV s1 1 9 = x := ⟨_, rfl⟩
  obtain ⟨s3, hs3⟩ : ∃ x, casV s2 1 9 4 = x := ⟨_, rfl⟩
  have e0 : s0 = [0, 0] := by rw [← hs0]; decide
  have e1 : s1 = [0, 7] := by rw [← hs1, e0]; decide
  have e2 : s2 = [0, 9] := by rw [← hs2, e1]; decide
  have e3 : s3 = [0, 4] := by rw [← hs3, e2]; decide
  have K0 := hide (new_any 2 1 w)
  rw [hs0, show List.replicate (cntV 1) ([] : List E3) = [[]] from by decide] at K0
  have k1 : ∀ A B c d bs u, MemOk u A s0 B bs → Calls Try.prog 14 #[.agg #[.slice A s0.length c, .slice B bs.length d], .int .i64 1, .int .i64 7] u (MEPost A s1 B bs.length d 0 u) := fun A B c d bs u m => by
    have := store_any A B c d s0 bs 1 7 u m
    rwa [hs1, show erV s0.length 1 = 0 from by rw [e0]; decide] at this
  have k2 : ∀ A B c d bs u, MemOk u A s1 B bs → Calls Try.prog 16 #[.agg #[.slice A s1.length c, .slice B bs.length d], .int .i64 1, .int .i64 9] u (MIEPost A s2 B bs.length d 7 0 u) := fun A B c d bs u m => by
    have := swap_any A B c d s1 bs 1 9 u m
    rwa [hs2, show erV s1.length 1 = 0 from by rw [e1]; decide, show ldV s1 1 = 7 from by rw [e1]; decide] at this
  have k3 : ∀ A B c d bs u, MemOk u A s2 B bs → Calls Try.prog 18 #[.agg #[.slice A s2.length c, .slice B bs.length d], .int .i64 1, .int .i64 9, .int .i64 4] u (MBEPost A s3 B bs.length d true 0 u) := fun A B c d bs u m => by
    have := cas_any A B c d s2 bs 1 9 4 u m
    rwa [hs3, show erV s2.length 1 = 0 from by rw [e2]; decide, show casB s2 1 9 = true from by rw [e2]; decide] at this
  have k4 : ∀ A B c d bs u, MemOk u A s3 B bs → Calls Try.prog 12 #[.agg #[.slice A s3.length c, .slice B bs.length d], .int .i64 1] u (IEPost 4 0 u) := fun A B c d bs u m => by
    have := load_any A B c d s3 bs 1 u m
    rwa [show erV s3.length 1 = 0 from by rw [e3]; decide, show ldV s3 1 = 4 from by rw [e3]; decide] at this
  have k5 : ∀ A B E c d n bs u, boxes bs = [[]] → MemOk u A s3 B bs → Sees u u.heap.size 3 E 1 (ecells [(3, 1, 2)]) → Calls Try.prog 23 #[.agg #[.slice A s3.length c, .slice B bs.length d], .int .i64 0, .slice E 1 n] u (MPPost A s3.length c B bs [[(3, 1, 2)]] [(3, 1, 2)] 0 u) := fun A B E c d n bs u hb m he => by
    have := put_mem A B E c d n s3 bs [(3, 1, 2)] 0 u m (by simp) he
    rwa [hb, show ptV [[]] 0 [(3, 1, 2)] = [[(3, 1, 2)]] from by decide, show erV bs.length 0 = 0 from by rw [← boxes_length, hb]; decide] at this
  have k6 : ∀ A B c d bs u, boxes bs = [[(3, 1, 2)]] → MemOk u A s3 B bs → Calls Try.prog 21 #[.agg #[.slice A s3.length c, .slice B bs.length d], .int .i64 0] u (REPost [(3, 1, 2)] 0 u) := fun A B c d bs u hb m => by
    have := box_any A B c d s3 bs 0 u m
    rwa [hb, show bxV [[(3, 1, 2)]] 0 = [(3, 1, 2)] from by decide, show erV bs.length 0 = 0 from by rw [← boxes_length, hb]; decide] at this
  have k7 : ∀ A B c d bs u, MemOk u A s0 B bs → Calls Try.prog 12 #[.agg #[.slice A s0.length c, .slice B bs.length d], .int .i64 2] u (IEPost 0 30 u) := fun A B c d bs u m => by
    have := load_any A B c d s0 bs 2 u m
    rwa [show erV s0.length 2 = 30 from by rw [e0]; decide, show ldV s0 2 = 0 from by rw [e0]; decide] at this
  have K1 := hide k1
  have K2 := hide k2
  have K3 := hide k3
  have K4 := hide k4
  have K5 := hide k5
  have K6 := hide k6
  have K7 := hide k7
  have l01 : s1.length = s0.length := by rw [e1, e0]; rfl
  have l12 : s2.length = s1.length := by rw [e2, e1]; rfl
  have l23 : s3.length = s2.length := by rw [e3, e2]; rfl
  have hl : ((s0.length : Int) == 2) = true := by rw [e0]; decide
  have L01 := hide l01
  have L12 := hide l12
  have L23 := hide l23
  clear k1 k2 k3 k4 k5 k6 k7 l01 l12 l23 hs0 hs1 hs2 hs3 e0 e1 e2 e3
  go_enter Try.func10, Try.ntmps10
  go_wp2_with fail
  refine K0.out.mono ?_
  rintro x w1 ⟨A0, c0, B0, d0, bs0, rfl, hbx, m0, hB⟩
  have HX := hide hbx
  have M1 := hide (m0.boxed (.cells #[.slice A0 s0.length c0, .slice B0 bs0.length d0] 25))
  have hB1 : Below w.heap.size w (w1.alloc (.cells #[.slice A0 s0.length c0, .slice B0 bs0.length d0] 25)) := hB.alloc hB.size _
  clear hbx hB K0 m0
  go_wp2_with fail
  refine (K1.out A0 B0 c0 d0 bs0 _ M1.out).mono ?_
  rintro x w2 ⟨A1, c1, rfl, t1, _, hb⟩
  have p0 : w2.cell? ⟨w1.heap.size, 0, none⟩ = some (.slice A0 s0.length c0) := cell_keep (by simp [go_sem]) hb
  have p1 : w2.cell? ⟨w1.heap.size, 1, none⟩ = some (.slice B0 bs0.length d0) := cell_keep (by simp [go_sem]) hb
  have M2 := hide (M1.out.words_at hb t1 L01.out)
  have N2 := hide (M1.out.later hb)
  have hB2 := below_next hB1 hB1.size hb
  clear M1 t1 hb hB1
  have M2' := hide (M2.out.boxed (.cells #[.slice A1 s1.length c1, .slice B0 bs0.length d0] 25))
  have hb' : Below w2.heap.size w2 (w2.alloc (.cells #[.slice A1 s1.length c1, .slice B0 bs0.length d0] 25)) := (Below.refl _ _).alloc (Nat.le_refl _) _
  go_wp2_with fail
  refine (K2.out A1 B0 c1 d0 bs0 _ M2'.out).mono ?_
  rintro x w3 ⟨A2, c2, rfl, t1, _, hb⟩
  have p0' := cell_keep (cell_keep p0 hb') hb
  have p1' := cell_keep (cell_keep p1 hb') hb
  have M3 := hide (M2'.out.words_at hb t1 L12.out)
  have N3 := hide ((N2.out.later hb').later hb)
  have hB3 := below_next (below_next hB2 hB2.size hb') (Nat.le_trans hB2.size hb'.size) hb
  clear M2 M2' N2 t1 hb hb' hB2 p0 p1
  have M3' := hide (M3.out.boxed (.cells #[.slice A2 s2.length c2, .slice B0 bs0.length d0] 25))
  have hb' : Below w3.heap.size w3 (w3.alloc (.cells #[.slice A2 s2.length c2, .slice B0 bs0.length d0] 25)) := (Below.refl _ _).alloc (Nat.le_refl _) _
  go_wp2_with fail
  refine (K3.out A2 B0 c2 d0 bs0 _ M3'.out).mono ?_
  rintro x w4 ⟨A3, c3, rfl, t1, _, hb⟩
  have p0 := cell_keep (cell_keep p0' hb') hb
  have p1 := cell_keep (cell_keep p1' hb') hb
  have M4 := hide (M3'.out.words_at hb t1 L23.out)
  have N4 := hide ((N3.out.later hb').later hb)
  have hB4 := below_next (below_next hB3 hB3.size hb') (Nat.le_trans hB3.size hb'.size) hb
  clear M3 M3' N3 t1 hb hb' hB3 p0' p1'
  have M4' := hide (M4.out.boxed (.cells #[.slice A3 s3.length c3, .slice B0 bs0.length d0] 25))
  have hb' : Below w4.heap.size w4 (w4.alloc (.cells #[.slice A3 s3.length c3, .slice B0 bs0.length d0] 25)) := (Below.refl _ _).alloc (Nat.le_refl _) _
  go_wp2_with fail
  refine (K4.out A3 B0 c3 d0 bs0 _ M4'.out).mono ?_
  rintro x w5 ⟨rfl, hb⟩
  have p0' := cell_keep (cell_keep p0 hb') hb
  have p1' := cell_keep (cell_keep p1 hb') hb
  have r0 : w5.cell? ⟨w4.heap.size, 0, none⟩ = some (.slice A3 s3.length c3) := cell_keep (by simp [go_sem]) hb
  have r1 : w5.cell? ⟨w4.heap.size, 1, none⟩ = some (.slice B0 bs0.length d0) := cell_keep (by simp [go_sem]) hb
  have M5 := hide (M4'.out.later hb)
  have N5 := hide ((N4.out.later hb').later hb)
  have hB5 := below_next (below_next hB4 hB4.size hb') (Nat.le_trans hB4.size hb'.size) hb
  clear M4 M4' N4 hb hb' hB4 p0 p1
  go_wp2_with fail
  have hb' : Below w5.heap.size w5 (w5.alloc (.cells #[.int .i64 3, .int .i64 1, .int .i64 2] 68)) := (Below.refl _ _).alloc (Nat.le_refl _) _
  have he : Sees (w5.alloc (.cells #[.int .i64 3, .int .i64 1, .int .i64 2] 68)) (w5.alloc (.cells #[.int .i64 3, .int .i64 1, .int .i64 2] 68)).heap.size 3 (some ⟨w5.heap.size, 0, none⟩) 1 (ecells [(3, 1, 2)]) := sees_new w5 (ecells [(3, 1, 2)]) 68 3 1 rfl
  refine (K5.out A3 B0 (some ⟨w5.heap.size, 0, none⟩) c3 d0 1 bs0 _ HX.out (M5.out.later hb') he).mono ?_
  rintro x w6 ⟨B6, d6, bs6, rfl, hbx6, hok6, hb⟩
  have p0 := cell_keep (cell_keep p0' hb') hb
  have p1 := cell_keep (cell_keep p1' hb') hb
  have M6 := hide (hok6.mem (M5.out.later hb') hb (by simp))
  have HX6 := hide hbx6
  have N6 := hide ((N5.out.later hb').later hb)
  have hB6 := below_next (below_next hB5 hB5.size hb') (Nat.le_trans hB5.size hb'.size) hb
  clear M5 N5 hb hb' hB5 p0' p1' he hok6 hbx6 r0 r1
  have M6' := hide (M6.out.boxed (.cells #[.slice A3 s3.length c3, .slice B6 bs6.length d6] 25))
  have hb' : Below w6.heap.size w6 (w6.alloc (.cells #[.slice A3 s3.length c3, .slice B6 bs6.length d6] 25)) := (Below.refl _ _).alloc (Nat.le_refl _) _
  go_wp2_with fail
  refine (K6.out A3 B6 c3 d6 bs6 _ HX6.out M6'.out).mono ?_
  rintro x w7 ⟨A7, c7, rfl, t7, hb⟩
  have p0' := cell_keep (cell_keep p0 hb') hb
  have p1' := cell_keep (cell_keep p1 hb') hb
  have N7 := hide ((N6.out.later hb').later hb)
  have hB7 := below_next (below_next hB6 hB6.size hb') (Nat.le_trans hB6.size hb'.size) hb
  clear M6 M6' N6 hb hb' hB6 p0 p1
  go_wp2_with fail
  refine (K7.out A0 B0 c0 d0 bs0 _ N7.out).mono ?_
  rintro x w8 ⟨rfl, hb⟩
  have p0 := cell_keep p0' hb
  have t8 := t7.later hb
  have hB8 := below_next hB7 hB7.size hb
  obtain ⟨b, off, rfl, hbb, hc⟩ := t8.2 (by simp)
  have cc := hc 0 (.int .i64 3) rfl
  rw [Nat.add_zero] at cc
  clear N7 hb hB7 p0' p1' t7 t8 hc
  go_wp2
  go_ret
  exact ⟨rfl, hB8⟩
end Go.Proofs.Ytkiagdlcbfdgnaa
