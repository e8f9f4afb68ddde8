/- The walk of WmemBoxes. -/
import Derived.Test.YtkiagdlcbfdgnaaW3Base
import Derived.Deep.Cut
namespace Go.Proofs.Ytkiagdlcbfdgnaa
open Go.RowKit

set_option maxRecDepth 100000 in
set_option maxHeartbeats 8000000 in
theorem walkBoxes (A B : Option Addr) (c d : Nat) (ws : List Int) (bs : List Bt) (i : Int) (E : Option Addr) (n : Nat) (lb : List E3) (x y : Int) (w : World) (m : MemAt w A ws B bs) (hE : Sees w w.heap.size 3 E lb.length (ecells lb)) :
    Calls Try.prog 4 #[.agg #[.slice A ws.length c, .slice B bs.length d], .int .i64 i, .slice E lb.length n, .int .i64 x, .int .i64 y] w (BoolPost true w) := by
  have hb0 : Below w.heap.size w (w.alloc (.cells #[.slice A ws.length c, .slice B bs.length d] 25)) := (Below.refl _ w).alloc (Nat.le_refl _) _
  have KL := hide (long_any A B c d ws bs _ (m.later hb0))
  by_cases hL : longB ws bs = true
  · rw [hL] at KL
    clear hL m
    go_enter Try.func4, Try.ntmps4
    go_wp2_with fail
    refine KL.out.mono ?_
    rintro x w1 ⟨rfl, hb1⟩
    have q0 : w1.cell? ⟨w.heap.size, 0, none⟩ = some (.slice A ws.length c) := cell_keep (by simp [go_sem]) hb1
    have q1 : w1.cell? ⟨w.heap.size, 1, none⟩ = some (.slice B bs.length d) := cell_keep (by simp [go_sem]) hb1
    have hB1 := below_next hb0 (by simp) hb1
    clear hb1 KL
    go_wp2_with fail
    refine (shown_any _).mono ?_
    rintro x w2 ⟨rfl, hb2⟩
    go_wp2
    go_ret
    exact ⟨rfl, below_next hB1 hB1.size hb2⟩
  have hL' : longB ws bs = false := by simpa using hL
  have mo := mem_small m hL'
  rw [hL'] at KL
  clear hL hL' m
  by_cases h5 : 50 < lb.length
  · have h50 : (50 : Int) < (lb.length : Int) := by omega
    clear h5 mo
    go_enter Try.func4, Try.ntmps4
    go_wp2_with fail
    refine KL.out.mono ?_
    rintro x w1 ⟨rfl, hb1⟩
    have q0 : w1.cell? ⟨w.heap.size, 0, none⟩ = some (.slice A ws.length c) := cell_keep (by simp [go_sem]) hb1
    have q1 : w1.cell? ⟨w.heap.size, 1, none⟩ = some (.slice B bs.length d) := cell_keep (by simp [go_sem]) hb1
    have hB1 := below_next hb0 (by simp) hb1
    clear hb1 KL
    go_wp2_with fail
    all_goals
      refine (shown_any _).mono ?_
      rintro x w2 ⟨rfl, hb2⟩
      go_wp2
      go_ret
      exact ⟨rfl, below_next hB1 hB1.size hb2⟩
  have h50 : ¬ (50 : Int) < (lb.length : Int) := by omega
  have hl : lb.length ≤ 20000 := by omega
  clear h5
  by_cases h4 : 400 < x ∧ x ≤ 10000
  · obtain ⟨h41, h42⟩ := id h4
    clear h4 mo
    go_enter Try.func4, Try.ntmps4
    go_wp2_with fail
    refine KL.out.mono ?_
    rintro x w1 ⟨rfl, hb1⟩
    have q0 : w1.cell? ⟨w.heap.size, 0, none⟩ = some (.slice A ws.length c) := cell_keep (by simp [go_sem]) hb1
    have q1 : w1.cell? ⟨w.heap.size, 1, none⟩ = some (.slice B bs.length d) := cell_keep (by simp [go_sem]) hb1
    have hB1 := below_next hb0 (by simp) hb1
    clear hb1 KL
    go_wp2_with fail
    all_goals
      refine (shown_any _).mono ?_
      rintro x w2 ⟨rfl, hb2⟩
      go_wp2
      go_ret
      exact ⟨rfl, below_next hB1 hB1.size hb2⟩
  by_cases h6 : 400 < y ∧ y ≤ 10000
  · obtain ⟨h61, h62⟩ := id h6
    clear h6 mo
    go_enter Try.func4, Try.ntmps4
    go_wp2_with fail
    refine KL.out.mono ?_
    rintro x w1 ⟨rfl, hb1⟩
    have q0 : w1.cell? ⟨w.heap.size, 0, none⟩ = some (.slice A ws.length c) := cell_keep (by simp [go_sem]) hb1
    have q1 : w1.cell? ⟨w.heap.size, 1, none⟩ = some (.slice B bs.length d) := cell_keep (by simp [go_sem]) hb1
    have hB1 := below_next hb0 (by simp) hb1
    clear hb1 KL
    go_wp2_with fail
    all_goals
      refine (shown_any _).mono ?_
      rintro x w2 ⟨rfl, hb2⟩
      go_wp2
      go_ret
      exact ⟨rfl, below_next hB1 hB1.size hb2⟩
  have MO := hide mo
  clear mo
  obtain ⟨ev, hev⟩ : ∃ e, erV bs.length i = e := ⟨_, rfl⟩
  obtain ⟨la, hla⟩ : ∃ l, bxV (boxes bs) i = l := ⟨_, rfl⟩
  obtain ⟨nb, hnb⟩ : ∃ l, ptV (boxes bs) i lb = l := ⟨_, rfl⟩
  obtain ⟨nw, hnw⟩ : ∃ l, List.replicate (cntV x) (0 : Int) = l := ⟨_, rfl⟩
  obtain ⟨nx, hnx⟩ : ∃ l, List.replicate (cntV y) ([] : List E3) = l := ⟨_, rfl⟩
  have hal : la.length ≤ 20000 := by
    rw [← hla]
    unfold bxV
    split
    · cases hj : (boxes bs)[i.toNat]? with
      | none => simp
      | some b =>
        obtain ⟨q, hq, rfl⟩ := List.mem_map.1 (List.mem_of_getElem? hj)
        exact MO.out.short q hq
    · simp
  have kb : ∀ y', MemOk y' A ws B bs → Calls Try.prog 21 #[.agg #[.slice A ws.length c, .slice B bs.length d], .int .i64 i] y' (REPost la ev y') := fun y' hy => by
    have := box_any A B c d ws bs i y' hy
    rwa [hla, hev] at this
  have krb : ∀ A B c d bs' y', boxes bs' = boxes bs → MemOk y' A ws B bs' → Calls Try.prog 22 #[.agg #[.slice A ws.length c, .slice B bs'.length d], .int .i64 i] y' (REPost la ev y') := fun A B c d bs' y' hb hy => by
    have := rbox_any A B c d ws bs' i y' hy
    have e : erV bs'.length i = ev := by rw [← boxes_length bs', hb, boxes_length, hev]
    rwa [hb, hla, e] at this
  have kp : ∀ y', MemOk y' A ws B bs → Sees y' y'.heap.size 3 E lb.length (ecells lb) → Calls Try.prog 23 #[.agg #[.slice A ws.length c, .slice B bs.length d], .int .i64 i, .slice E lb.length n] y' (MPPost A ws.length c B bs nb lb ev y') := fun y' hy he => by
    have := put_mem A B E c d n ws bs lb i y' hy hl he
    rwa [hnb, hev] at this
  have krp : ∀ A B E c d n bs' y', boxes bs' = boxes bs → MemOk y' A ws B bs' → Sees y' y'.heap.size 3 E lb.length (ecells lb) → Calls Try.prog 24 #[.agg #[.slice A ws.length c, .slice B bs'.length d], .int .i64 i, .slice E lb.length n] y' (MPPost A ws.length c B bs' nb lb ev y') := fun A B E c d n bs' y' hb hy he => by
    have := rput_any A B E c d n ws bs' lb i y' hy hl he
    have e : erV bs'.length i = ev := by rw [← boxes_length bs', hb, boxes_length, hev]
    rwa [hb, hnb, e] at this
  have kn : ∀ y', Calls Try.prog 27 #[.int .i64 x, .int .i64 y] y' (MPost nw nx y') := fun y' => by
    have := new_any x y y'
    rwa [hnw, hnx] at this
  have krn : ∀ y', Calls Try.prog 28 #[.int .i64 x, .int .i64 y] y' (MPost nw nx y') := fun y' => by
    have := rnew_any x y y'
    rwa [hnw, hnx] at this
  have KB := hide kb; have KRB := hide krb; have KP := hide kp; have KRP := hide krp; have KN := hide kn; have KRN := hide krn
  have HE := hide hE
  clear kb krb kp krp kn krn hev hla hnb hnw hnx hE
  go_enter Try.func4, Try.ntmps4
  go_upto_region 1 with fail
  go_cut [46] from 20 (fun t wc => t = .bool false ∧ wc.cell? ⟨w.heap.size, 0, none⟩ = some (.slice A ws.length c) ∧ wc.cell? ⟨w.heap.size, 1, none⟩ = some (.slice B bs.length d) ∧ Below w.heap.size w wc)
  case first =>
    go_wp2_with fail
    refine KL.out.mono ?_
    rintro x w1 ⟨rfl, hb1⟩
    have q0 : w1.cell? ⟨w.heap.size, 0, none⟩ = some (.slice A ws.length c) := cell_keep (by simp [go_sem]) hb1
    have q1 : w1.cell? ⟨w.heap.size, 1, none⟩ = some (.slice B bs.length d) := cell_keep (by simp [go_sem]) hb1
    have hB := below_next hb0 (by simp) hb1
    clear KL hb0 hb1
    go_wp2_with fail
    all_goals
      refine (shown_any _).mono ?_
      rintro x w2 ⟨rfl, hb2⟩
      go_wp2_with fail
      go_meet
      case rel => exact ⟨by first | rfl | (simp; omega), cell_keep q0 hb2, cell_keep q1 hb2, below_next hB hB.size hb2⟩
  case rest =>
    obtain ⟨rfl, q0, q1, hB⟩ := hcut
    replace MO := hide (MO.out.later hB)
    replace HE := hide (HE.out.later hB)
    clear KL hb0 h4 h6
    go_wp2_with fail
    refine (itsM_any A B c d ws bs _ MO.out).mono ?_
    rintro x w3 ⟨An, cn, Bn, dn, bn, rfl, hxn, mn, hb⟩
    have XN := hide hxn
    have MN := hide mn
    clear hxn mn
    replace q0 := cell_keep q0 hb
    replace q1 := cell_keep q1 hb
    replace MO := hide (MO.out.later hb)
    replace HE := hide (HE.out.later hb)
    replace hB := below_next hB hB.size hb
    clear hb
    have hb : Below w3.heap.size w3 (w3.alloc (.cells #[.slice An ws.length cn, .slice Bn bn.length dn] 30)) := (Below.refl _ _).alloc (Nat.le_refl _) _
    have n0 : (w3.alloc (.cells #[.slice An ws.length cn, .slice Bn bn.length dn] 30)).cell? ⟨w3.heap.size, 0, none⟩ = some (.slice An ws.length cn) := by simp [go_sem]
    have n1 : (w3.alloc (.cells #[.slice An ws.length cn, .slice Bn bn.length dn] 30)).cell? ⟨w3.heap.size, 1, none⟩ = some (.slice Bn bn.length dn) := by simp [go_sem]
    replace q0 := cell_keep q0 hb
    replace q1 := cell_keep q1 hb
    replace MO := hide (MO.out.later hb)
    replace MN := hide (MN.out.later hb)
    replace HE := hide (HE.out.later hb)
    replace hB := below_next hB hB.size hb
    clear hb
    go_wp2_with fail
    refine (KB.out _ MO.out).mono ?_
    rintro x w4 ⟨A4, c4, rfl, t4, hb⟩
    have TA := hide t4
    clear t4
    replace q0 := cell_keep q0 hb
    replace q1 := cell_keep q1 hb
    replace n0 := cell_keep n0 hb
    replace n1 := cell_keep n1 hb
    replace MO := hide (MO.out.later hb)
    replace MN := hide (MN.out.later hb)
    replace HE := hide (HE.out.later hb)
    replace hB := below_next hB hB.size hb
    clear hb
    replace TA := TA
    go_wp2_with fail
    refine (KRB.out An Bn cn dn bn _ XN.out MN.out).mono ?_
    rintro x w5 ⟨A5, c5, rfl, t5, hb⟩
    have TB := hide t5
    clear t5
    replace q0 := cell_keep q0 hb
    replace q1 := cell_keep q1 hb
    replace n0 := cell_keep n0 hb
    replace n1 := cell_keep n1 hb
    replace MO := hide (MO.out.later hb)
    replace MN := hide (MN.out.later hb)
    replace HE := hide (HE.out.later hb)
    replace TA := hide (TA.out.later hb)
    replace hB := below_next hB hB.size hb
    clear hb
    go_wp2_with fail
    refine (KP.out _ MO.out HE.out).mono ?_
    rintro x w6 ⟨B6, d6, b6, rfl, hx6, ok6, hb⟩
    have MD := hide (ok6.mem MO.out hb hl)
    have X6 := hide hx6
    clear ok6 hx6
    replace q0 := cell_keep q0 hb
    replace q1 := cell_keep q1 hb
    replace n0 := cell_keep n0 hb
    replace n1 := cell_keep n1 hb
    replace MO := hide (MO.out.later hb)
    replace MN := hide (MN.out.later hb)
    replace HE := hide (HE.out.later hb)
    replace TA := hide (TA.out.later hb)
    replace TB := hide (TB.out.later hb)
    replace hB := below_next hB hB.size hb
    clear hb
    have hb : Below w6.heap.size w6 (w6.alloc (.cells #[.slice A ws.length c, .slice B6 b6.length d6] 25)) := (Below.refl _ _).alloc (Nat.le_refl _) _
    have e0 : (w6.alloc (.cells #[.slice A ws.length c, .slice B6 b6.length d6] 25)).cell? ⟨w6.heap.size, 0, none⟩ = some (.slice A ws.length c) := by simp [go_sem]
    have e1 : (w6.alloc (.cells #[.slice A ws.length c, .slice B6 b6.length d6] 25)).cell? ⟨w6.heap.size, 1, none⟩ = some (.slice B6 b6.length d6) := by simp [go_sem]
    replace q0 := cell_keep q0 hb
    replace q1 := cell_keep q1 hb
    replace n0 := cell_keep n0 hb
    replace n1 := cell_keep n1 hb
    replace MO := hide (MO.out.later hb)
    replace MN := hide (MN.out.later hb)
    replace MD := hide (MD.out.later hb)
    replace HE := hide (HE.out.later hb)
    replace TA := hide (TA.out.later hb)
    replace TB := hide (TB.out.later hb)
    replace hB := below_next hB hB.size hb
    clear hb
    go_wp2_with fail
    generalize (w6.alloc (.cells #[.slice A ws.length c, .slice B6 b6.length d6] 25)) = wz at *
    have hnz : w3.heap.size < wz.heap.size := World.block_lt_of_cell? wz _ n0
    have b0 : Below wz.heap.size wz wz.drew := (Below.refl _ _).drew
    have b0a : Below wz.heap.size wz (wz.drew.alloc (.cells #[.slice none 0 0, .slice none 0 0] 30)) := b0.alloc b0.size _
    have z00 : (wz.drew.alloc (.cells #[.slice none 0 0, .slice none 0 0] 30)).cell? ⟨wz.heap.size, 0, none⟩ = some (.slice none 0 0) := by simp [go_sem]
    have z01 : (wz.drew.alloc (.cells #[.slice none 0 0, .slice none 0 0] 30)).cell? ⟨wz.heap.size, 1, none⟩ = some (.slice none 0 0) := by simp [go_sem]
    have y00 : (wz.drew.alloc (.cells #[.slice none 0 0, .slice none 0 0] 30)).frozen? ⟨wz.heap.size, 0, none⟩ = false := by simp [go_sem]
    have y01 : (wz.drew.alloc (.cells #[.slice none 0 0, .slice none 0 0] 30)).frozen? ⟨wz.heap.size, 1, none⟩ = false := by simp [go_sem]
    go_cut [18, 19] from 69 (fun p e wc => ∃ g B9 d9 b9, p = .pointer (some ⟨g, 0, none⟩) ∧ e = .int .i64 ev ∧ wc.cell? ⟨g, 0, none⟩ = some (.slice An ws.length cn) ∧ wc.cell? ⟨g, 1, none⟩ = some (.slice B9 (List.length b9) d9) ∧ boxes b9 = nb ∧ MemOk wc An ws B9 b9 ∧ Below wz.heap.size wz wc)
    case first =>
      go_region_held3 (fun w' => w'.cell? ⟨w3.heap.size, 0, none⟩ = some (.slice An ws.length cn) ∧ w'.cell? ⟨w3.heap.size, 1, none⟩ = some (.slice Bn bn.length dn))
        (first | (exact ⟨cell_keep n0 hB2a, cell_keep n1 hB2a⟩) | (exact ⟨cell_keep n0 hB2z, cell_keep n1 hB2z⟩) | (exact ⟨cell_keep n0 hB2, cell_keep n1 hB2⟩) | (exact ⟨cell_keep n0 hB1a, cell_keep n1 hB1a⟩) | (exact ⟨cell_keep n0 hB1, cell_keep n1 hB1⟩) | (exact ⟨cell_keep n0 b0a, cell_keep n1 b0a⟩) | (exact ⟨cell_keep n0 b0, cell_keep n1 b0⟩) | (exact ⟨(two_far' (Nat.ne_of_lt (Nat.lt_of_lt_of_le hnz (by first | exact Nat.le_refl _ | exact hB1.size)))).trans (cell_keep n0 hB2), (two_far' (Nat.ne_of_lt (Nat.lt_of_lt_of_le hnz (by first | exact Nat.le_refl _ | exact hB1.size)))).trans (cell_keep n1 hB2)⟩))
        (first
          | (go_at_call 25; refine (ents_any E n lb lb.length rfl (by omega) wz.drew (HE.out.later b0)).mono ?_; rintro x v1 ⟨A7, c7, rfl, hc7, t7, f7, hv1⟩; have hB1 := below_next b0 b0.size hv1; have hB1a : Below wz.heap.size wz (v1.alloc (.cells #[.slice none 0 0, .slice none 0 0] 30)) := hB1.alloc hB1.size _; have t7a := t7.later (show Below v1.heap.size v1 (v1.alloc (.cells #[.slice none 0 0, .slice none 0 0] 30)) from (Below.refl _ _).alloc (Nat.le_refl _) _); have M1 := MN.out.later hB1; have M1a := MN.out.later hB1a; clear f7)
          | (go_at_call 25; refine (ents_any E n lb lb.length rfl (by omega) (wz.drew.alloc (.cells #[.slice none 0 0, .slice none 0 0] 30)) (HE.out.later b0a)).mono ?_; rintro x v1 ⟨A7, c7, rfl, hc7, t7, f7, hv1⟩; have hB1 := below_next b0a b0a.size hv1; have hB1a : Below wz.heap.size wz (v1.alloc (.cells #[.slice none 0 0, .slice none 0 0] 30)) := hB1.alloc hB1.size _; have t7a := t7.later (show Below v1.heap.size v1 (v1.alloc (.cells #[.slice none 0 0, .slice none 0 0] 30)) from (Below.refl _ _).alloc (Nat.le_refl _) _); have M1 := MN.out.later hB1; have M1a := MN.out.later hB1a; clear f7; have z10 := cell_keep z00 hv1; have z11 := cell_keep z01 hv1; have y10 := frozen_keep hv1 (by simp) y00; have y11 := frozen_keep hv1 (by simp) y01; have wA := hide (True.intro))
          | (go_at_call 24; refine (KRP.out An Bn A7 cn dn c7 bn v1 XN.out M1 t7).mono ?_; rintro x v2 ⟨B9, d9, b9, rfl, hx9, ok9, hv2⟩; have hB2 := below_next hB1 hB1.size hv2; have hB2a : Below wz.heap.size wz (v2.alloc (.cells #[.slice An ws.length cn, .slice B9 b9.length d9] 30)) := hB2.alloc hB2.size _; have hB2z : Below wz.heap.size wz (v2.alloc (.cells #[.slice none 0 0, .slice none 0 0] 30)) := hB2.alloc hB2.size _; have X9 := hide hx9; clear hx9; (try have z20 := cell_keep z10 hv2); (try have z21 := cell_keep z11 hv2); (try have y20 := frozen_keep hv2 (World.block_lt_of_cell? v1 _ z10) y10); (try have y21 := frozen_keep hv2 (World.block_lt_of_cell? v1 _ z11) y11))
          | (go_at_call 24; refine (KRP.out An Bn A7 cn dn c7 bn (v1.alloc (.cells #[.slice none 0 0, .slice none 0 0] 30)) XN.out M1a t7a).mono ?_; rintro x v2 ⟨B9, d9, b9, rfl, hx9, ok9, hv2⟩; have hB2 := below_next hB1a hB1a.size hv2; have hB2a : Below wz.heap.size wz (v2.alloc (.cells #[.slice An ws.length cn, .slice B9 b9.length d9] 30)) := hB2.alloc hB2.size _; have hB2z : Below wz.heap.size wz (v2.alloc (.cells #[.slice none 0 0, .slice none 0 0] 30)) := hB2.alloc hB2.size _; have X9 := hide hx9; clear hx9; have z20 : v2.cell? ⟨v1.heap.size, 0, none⟩ = some (.slice none 0 0) := cell_keep (by simp [go_sem]) hv2; have z21 : v2.cell? ⟨v1.heap.size, 1, none⟩ = some (.slice none 0 0) := cell_keep (by simp [go_sem]) hv2; have y20 : v2.frozen? ⟨v1.heap.size, 0, none⟩ = false := frozen_keep hv2 (by simp) (by simp [go_sem]); have y21 : v2.frozen? ⟨v1.heap.size, 1, none⟩ = false := frozen_keep hv2 (by simp) (by simp [go_sem])))
      all_goals go_wp2_with fail
      all_goals go_meet
      all_goals case rel =>
        first
        | exact ⟨v2.heap.size, B9, d9, b9, rfl, rfl, by simp [go_sem], by simp [go_sem], X9.out, (ok9.mem M1 hv2 hl).later ((Below.refl _ _).alloc (Nat.le_refl _) _), hB2a⟩
        | exact ⟨wz.heap.size, B9, d9, b9, rfl, rfl, (two_at z20 z21).1, (two_at z20 z21).2, X9.out, put_box _ _ ok9 MN.out hB2 (Nat.le_refl _) (by have := hv1.size; simp at this; omega) hl, (hB2.setCell (Nat.le_refl _) _).setCell (Nat.le_refl _) _⟩
        | exact ⟨v1.heap.size, B9, d9, b9, rfl, rfl, (two_at z20 z21).1, (two_at z20 z21).2, X9.out, put_box _ _ ok9 M1 (below_next (show Below v1.heap.size v1 (v1.alloc (.cells #[.slice none 0 0, .slice none 0 0] 30)) from (Below.refl _ _).alloc (Nat.le_refl _) _) (by simp) hv2) (Nat.le_refl _) (by simp) hl, (hB2.setCell hB1.size _).setCell hB1.size _⟩
    case rest =>
      clear b0 b0a z00 z01 y00 y01 hnz
      obtain ⟨gh, B9, d9, b9, rfl, rfl, h0, h1, hx9, m9, hb⟩ := hcut
      have X9 := hide hx9
      have MH := hide m9
      clear hx9 m9
      replace q0 := cell_keep q0 hb
      replace q1 := cell_keep q1 hb
      replace n0 := cell_keep n0 hb
      replace n1 := cell_keep n1 hb
      replace e0 := cell_keep e0 hb
      replace e1 := cell_keep e1 hb
      replace MO := hide (MO.out.later hb)
      replace MN := hide (MN.out.later hb)
      replace MD := hide (MD.out.later hb)
      replace HE := hide (HE.out.later hb)
      replace TA := hide (TA.out.later hb)
      replace TB := hide (TB.out.later hb)
      replace hB := below_next hB hB.size hb
      clear hb
      go_wp2_with fail
      clear HE KB KRB KP KRP
      replace q0 : wc.drew.cell? ⟨w.heap.size, 0, none⟩ = some (.slice A ws.length c) := q0
      replace q1 : wc.drew.cell? ⟨w.heap.size, 1, none⟩ = some (.slice B bs.length d) := q1
      replace n0 : wc.drew.cell? ⟨w3.heap.size, 0, none⟩ = some (.slice An ws.length cn) := n0
      replace n1 : wc.drew.cell? ⟨w3.heap.size, 1, none⟩ = some (.slice Bn bn.length dn) := n1
      replace e0 : wc.drew.cell? ⟨w6.heap.size, 0, none⟩ = some (.slice A ws.length c) := e0
      replace e1 : wc.drew.cell? ⟨w6.heap.size, 1, none⟩ = some (.slice B6 b6.length d6) := e1
      replace h0 : wc.drew.cell? ⟨gh, 0, none⟩ = some (.slice An ws.length cn) := h0
      replace h1 : wc.drew.cell? ⟨gh, 1, none⟩ = some (.slice B9 b9.length d9) := h1
      replace MO := hide (MO.out.later ((Below.refl _ _).drew))
      replace MN := hide (MN.out.later ((Below.refl _ _).drew))
      replace MD := hide (MD.out.later ((Below.refl _ _).drew))
      replace MH := hide (MH.out.later ((Below.refl _ _).drew))
      replace TA := hide (TA.out.later ((Below.refl _ _).drew))
      replace TB := hide (TB.out.later ((Below.refl _ _).drew))
      replace hB := hB.drew
      go_region_held3 (fun w' => w'.cell? ⟨w.heap.size, 0, none⟩ = some (.slice A ws.length c) ∧ w'.cell? ⟨w.heap.size, 1, none⟩ = some (.slice B bs.length d) ∧ w'.cell? ⟨w3.heap.size, 0, none⟩ = some (.slice An ws.length cn) ∧ w'.cell? ⟨w3.heap.size, 1, none⟩ = some (.slice Bn bn.length dn) ∧ w'.cell? ⟨w6.heap.size, 0, none⟩ = some (.slice A ws.length c) ∧ w'.cell? ⟨w6.heap.size, 1, none⟩ = some (.slice B6 b6.length d6) ∧ w'.cell? ⟨gh, 0, none⟩ = some (.slice An ws.length cn) ∧ w'.cell? ⟨gh, 1, none⟩ = some (.slice B9 b9.length d9))
        (exact ⟨q0, q1, n0, n1, e0, e1, h0, h1⟩)
        (first
          | (go_at_call 25; refine (ents_any A4 c4 la la.length rfl (by omega) _ TA.out).mono ?_; rintro x vv ⟨A7, c7, rfl, hc7, t7, f7, hv⟩; have T7 := hide t7; clear t7 f7 hc7; replace q0 := cell_keep q0 hv; replace q1 := cell_keep q1 hv; replace n0 := cell_keep n0 hv; replace n1 := cell_keep n1 hv; replace e0 := cell_keep e0 hv; replace e1 := cell_keep e1 hv; replace h0 := cell_keep h0 hv; replace h1 := cell_keep h1 hv; replace MO := hide (MO.out.later hv); replace MN := hide (MN.out.later hv); replace MD := hide (MD.out.later hv); replace MH := hide (MH.out.later hv); replace TA := hide (TA.out.later hv); replace TB := hide (TB.out.later hv); replace hB := below_next hB hB.size hv; clear hv)
          | (go_at_call 26; refine (sameE_true A7 A5 c7 c5 la hal _ T7.out TB.out).mono ?_; rintro x vv ⟨rfl, hv⟩; replace q0 := cell_keep q0 hv; replace q1 := cell_keep q1 hv; replace n0 := cell_keep n0 hv; replace n1 := cell_keep n1 hv; replace e0 := cell_keep e0 hv; replace e1 := cell_keep e1 hv; replace h0 := cell_keep h0 hv; replace h1 := cell_keep h1 hv; replace MO := hide (MO.out.later hv); replace MN := hide (MN.out.later hv); replace MD := hide (MD.out.later hv); replace MH := hide (MH.out.later hv); replace TA := hide (TA.out.later hv); replace TB := hide (TB.out.later hv); replace hB := below_next hB hB.size hv; clear T7; clear hv)
          | (go_at_call_of 11 B6; refine (itsM_any A B6 c d6 ws b6 _ MD.out).mono ?_; rintro x vv ⟨Ap, cp, Bp, dp, bp, rfl, hxp, mp, hv⟩; have Xp := hide hxp; have Rp := hide mp; clear hxp mp; replace q0 := cell_keep q0 hv; replace q1 := cell_keep q1 hv; replace n0 := cell_keep n0 hv; replace n1 := cell_keep n1 hv; replace e0 := cell_keep e0 hv; replace e1 := cell_keep e1 hv; replace h0 := cell_keep h0 hv; replace h1 := cell_keep h1 hv; replace MO := hide (MO.out.later hv); replace MN := hide (MN.out.later hv); replace MD := hide (MD.out.later hv); replace MH := hide (MH.out.later hv); replace TA := hide (TA.out.later hv); replace TB := hide (TB.out.later hv); replace hB := below_next hB hB.size hv; clear hv)
          | (go_at_call_of 20 B9; refine (sameM_true Ap Bp An B9 cp dp cn d9 ws ws bp b9 _ Rp.out MH.out rfl (Xp.out.trans (X6.out.trans X9.out.symm))).mono ?_; rintro x vv ⟨rfl, hv⟩; replace q0 := cell_keep q0 hv; replace q1 := cell_keep q1 hv; replace n0 := cell_keep n0 hv; replace n1 := cell_keep n1 hv; replace e0 := cell_keep e0 hv; replace e1 := cell_keep e1 hv; replace h0 := cell_keep h0 hv; replace h1 := cell_keep h1 hv; replace MO := hide (MO.out.later hv); replace MN := hide (MN.out.later hv); replace MD := hide (MD.out.later hv); replace MH := hide (MH.out.later hv); replace TA := hide (TA.out.later hv); replace TB := hide (TB.out.later hv); replace hB := below_next hB hB.size hv; clear Rp Xp; clear hv)
          | (go_at_call 27; refine (KN.out _).mono ?_; rintro x vv ⟨Aq, cq, Bq, dq, bq, rfl, hxq, mq, hv⟩; have Xq := hide hxq; have Rq := hide mq; clear hxq mq; replace q0 := cell_keep q0 hv; replace q1 := cell_keep q1 hv; replace n0 := cell_keep n0 hv; replace n1 := cell_keep n1 hv; replace e0 := cell_keep e0 hv; replace e1 := cell_keep e1 hv; replace h0 := cell_keep h0 hv; replace h1 := cell_keep h1 hv; replace MO := hide (MO.out.later hv); replace MN := hide (MN.out.later hv); replace MD := hide (MD.out.later hv); replace MH := hide (MH.out.later hv); replace TA := hide (TA.out.later hv); replace TB := hide (TB.out.later hv); replace hB := below_next hB hB.size hv; clear hv)
          | (go_at_call_of 11 Aq; refine (itsM_any Aq Bq cq dq nw bq _ Rq.out).mono ?_; rintro x vv ⟨Ar, cr, Br, dr, br, rfl, hxr, mr, hv⟩; have Xr := hide hxr; have Rr := hide mr; clear hxr mr; replace q0 := cell_keep q0 hv; replace q1 := cell_keep q1 hv; replace n0 := cell_keep n0 hv; replace n1 := cell_keep n1 hv; replace e0 := cell_keep e0 hv; replace e1 := cell_keep e1 hv; replace h0 := cell_keep h0 hv; replace h1 := cell_keep h1 hv; replace MO := hide (MO.out.later hv); replace MN := hide (MN.out.later hv); replace MD := hide (MD.out.later hv); replace MH := hide (MH.out.later hv); replace TA := hide (TA.out.later hv); replace TB := hide (TB.out.later hv); replace hB := below_next hB hB.size hv; clear hv)
          | (go_at_call 28; refine (KRN.out _).mono ?_; rintro x vv ⟨Av, cv, Bv, dv, bv, rfl, hxv, mv, hv⟩; have Xv := hide hxv; have Rv := hide mv; clear hxv mv; replace Rr := hide (Rr.out.later hv); replace q0 := cell_keep q0 hv; replace q1 := cell_keep q1 hv; replace n0 := cell_keep n0 hv; replace n1 := cell_keep n1 hv; replace e0 := cell_keep e0 hv; replace e1 := cell_keep e1 hv; replace h0 := cell_keep h0 hv; replace h1 := cell_keep h1 hv; replace MO := hide (MO.out.later hv); replace MN := hide (MN.out.later hv); replace MD := hide (MD.out.later hv); replace MH := hide (MH.out.later hv); replace TA := hide (TA.out.later hv); replace TB := hide (TB.out.later hv); replace hB := below_next hB hB.size hv; clear hv)
          | (go_at_call_of 20 Av; refine (sameM_true Ar Br Av Bv cr dr cv dv nw nw br bv _ Rr.out Rv.out rfl (Xr.out.trans (Xq.out.trans Xv.out.symm))).mono ?_; rintro x vv ⟨rfl, hv⟩; replace q0 := cell_keep q0 hv; replace q1 := cell_keep q1 hv; replace n0 := cell_keep n0 hv; replace n1 := cell_keep n1 hv; replace e0 := cell_keep e0 hv; replace e1 := cell_keep e1 hv; replace h0 := cell_keep h0 hv; replace h1 := cell_keep h1 hv; replace MO := hide (MO.out.later hv); replace MN := hide (MN.out.later hv); replace MD := hide (MD.out.later hv); replace MH := hide (MH.out.later hv); replace TA := hide (TA.out.later hv); replace TB := hide (TB.out.later hv); replace hB := below_next hB hB.size hv; clear Rr Xr Rv Xv Rq Xq; clear hv)
          | (go_at_call_of 11 B; refine (itsM_any A B c d ws bs _ MO.out).mono ?_; rintro x vv ⟨Ak, ck, Bk, dk, bk, rfl, hxk, mk, hv⟩; have Xk := hide hxk; have Rk := hide mk; clear hxk mk; replace q0 := cell_keep q0 hv; replace q1 := cell_keep q1 hv; replace n0 := cell_keep n0 hv; replace n1 := cell_keep n1 hv; replace e0 := cell_keep e0 hv; replace e1 := cell_keep e1 hv; replace h0 := cell_keep h0 hv; replace h1 := cell_keep h1 hv; replace MO := hide (MO.out.later hv); replace MN := hide (MN.out.later hv); replace MD := hide (MD.out.later hv); replace MH := hide (MH.out.later hv); replace TA := hide (TA.out.later hv); replace TB := hide (TB.out.later hv); replace hB := below_next hB hB.size hv; clear hv)
          | (go_at_call_of 20 Bn; refine (sameM_true Ak Bk An Bn ck dk cn dn ws ws bk bn _ Rk.out MN.out rfl (Xk.out.trans XN.out.symm)).mono ?_; rintro x vv ⟨rfl, hv⟩; replace q0 := cell_keep q0 hv; replace q1 := cell_keep q1 hv; replace n0 := cell_keep n0 hv; replace n1 := cell_keep n1 hv; replace e0 := cell_keep e0 hv; replace e1 := cell_keep e1 hv; replace h0 := cell_keep h0 hv; replace h1 := cell_keep h1 hv; replace MO := hide (MO.out.later hv); replace MN := hide (MN.out.later hv); replace MD := hide (MD.out.later hv); replace MH := hide (MH.out.later hv); replace TA := hide (TA.out.later hv); replace TB := hide (TB.out.later hv); replace hB := below_next hB hB.size hv; clear hv))
      go_wp2
      go_ret
      exact ⟨rfl, hB⟩
end Go.Proofs.Ytkiagdlcbfdgnaa
