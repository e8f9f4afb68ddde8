/- The walk of TapeTells. -/
import Derived.Test.YtneidedipgchiaaW4Base
namespace Go.Proofs.Ytneidedipgchiaa
open Go.RowKit Go.Conc

theorem sameT_true (A A2 : Option Addr) (c c2 : Nat) (l : List Int) (a : Int) (w : World) (hl : l.length ≤ 20000) (hs : Sees w w.heap.size 1 A l.length (l.map (Value.int .i64))) (hs2 : Sees w w.heap.size 1 A2 l.length (l.map (Value.int .i64))) :
    Calls Try.prog 15 #[.agg #[.slice A l.length c, .int .i64 a], .agg #[.slice A2 l.length c2, .int .i64 a]] w (BoolPost true w) := by
  have := sameT_any A A2 c c2 l l a a w hl hs hs2
  rwa [decide_eq_true ⟨rfl, rfl⟩] at this

set_option maxRecDepth 100000 in
set_option maxHeartbeats 8000000 in
theorem walkTells (A : Option Addr) (c : Nat) (l : List Int) (a : Int) (n : Int) (w : World) (hs : Sees w w.heap.size 1 A l.length (l.map (Value.int .i64))) (ha : I64 a) (hn : I64 n) :
    Calls Try.prog 3 #[.agg #[.slice A l.length c, .int .i64 a], .int .i64 n] w (BoolPost true w) := by
  have hb0 : Below w.heap.size w (w.alloc (.cells #[.slice A l.length c, .int .i64 a] 24)) := (Below.refl _ w).alloc (Nat.le_refl _) _
  have HB0 : Hid (Below w.heap.size w (w.alloc (.cells #[.slice A l.length c, .int .i64 a] 24))) := hide hb0
  by_cases h1 : (300 : Int) < (l.length : Int)
  · clear hs ha hn hb0
    go_enter Try.func3, Try.ntmps3
    go_wp2_with fail
    refine (shownT_any _).mono ?_
    rintro x w1 ⟨rfl, hb1⟩
    go_wp2
    go_ret
    exact ⟨rfl, below_next HB0.out HB0.out.size hb1⟩
  have h1' : (l.length : Int) ≤ 300 := by omega
  clear h1
  have HN := hide hn
  clear hn
  have q0 : (w.alloc (.cells #[.slice A l.length c, .int .i64 a] 24)).cell? ⟨w.heap.size, 0, none⟩ = some (.slice A l.length c) := by simp [go_sem]
  have q1 : (w.alloc (.cells #[.slice A l.length c, .int .i64 a] 24)).cell? ⟨w.heap.size, 1, none⟩ = some (.int .i64 a) := by simp [go_sem]
  have SL := hide (hs.later hb0)
  have hB := hb0
  have HL : Hid (l.length ≤ 20000) := hide (by omega)
  have HA := hide ha
  have hfd := fieldT
  clear hb0 HB0 hs ha
  have KN := hide (fun y hy => next_any A c l a y HL.out hy HA.out)
  have KB := hide (fun y hy => below_any A c l a n y HL.out hy HA.out HN.out)
  have RN := hide (fun y hy => rnext_any A c l a y HL.out hy)
  have RB := hide (fun y hy => rbelow_any A c l a n y HL.out hy HN.out)
  have KK := hide (fun y hy => skip_any A c l a n y HL.out hy HA.out)
  have RK := hide (fun y hy => rskip_any A c l a n y HL.out hy)
  have KL := hide (fun y => left_any A c l a y HL.out)
  have RL := hide (fun y => rleft_any A c l a y HL.out)
  obtain ⟨d, hd⟩ : ∃ d, nxD l a = d := ⟨_, rfl⟩
  obtain ⟨b, hbb⟩ : ∃ b, nxA l a = b := ⟨_, rfl⟩
  obtain ⟨f, hf⟩ : ∃ f, blD l a n = f := ⟨_, rfl⟩
  obtain ⟨e, he⟩ : ∃ e, blA l a n = e := ⟨_, rfl⟩
  obtain ⟨k, hk⟩ : ∃ k, skA l a n = k := ⟨_, rfl⟩
  obtain ⟨m, hm⟩ : ∃ m : Int, ((restT l a).length : Int) = m := ⟨_, rfl⟩
  rw [hd, hbb] at KN RN
  rw [hf, he] at KB RB
  rw [hk] at KK RK
  rw [hm] at KL RL
  clear hd hbb hf he hk hm hfd
  go_enter Try.func3, Try.ntmps3
  go_wp2_with fail
  refine (shownT_any _).mono ?_
  rintro x w1 ⟨rfl, hb⟩
  replace q0 := cell_keep q0 hb
  replace q1 := cell_keep q1 hb
  replace SL := hide (SL.out.later hb)
  replace hB := below_next hB hB.size hb
  clear hb
  go_wp2_with fail
  refine (KN.out _ SL.out).mono ?_
  rintro x w2 ⟨A1, c1, rfl, t1, _, hb⟩
  replace q0 := cell_keep q0 hb
  replace q1 := cell_keep q1 hb
  replace SL := hide (SL.out.later hb)
  replace hB := below_next hB hB.size hb
  clear hb
  have S1 := hide t1
  clear t1
  have hb : Below w2.heap.size w2 (w2.alloc (.cells #[.slice A1 l.length c1, .int .i64 b] 24)) := (Below.refl _ _).alloc (Nat.le_refl _) _
  have x10 : (w2.alloc (.cells #[.slice A1 l.length c1, .int .i64 b] 24)).cell? ⟨w2.heap.size, 0, none⟩ = some (.slice A1 l.length c1) := by simp [go_sem]
  have x11 : (w2.alloc (.cells #[.slice A1 l.length c1, .int .i64 b] 24)).cell? ⟨w2.heap.size, 1, none⟩ = some (.int .i64 b) := by simp [go_sem]
  replace q0 := cell_keep q0 hb
  replace q1 := cell_keep q1 hb
  replace SL := hide (SL.out.later hb)
  replace S1 := hide (S1.out.later hb)
  replace hB := below_next hB hB.size hb
  clear hb
  go_wp2_with fail
  refine (itsT_any _ _ _ _ _).mono ?_
  rintro x w3 ⟨rfl, hb⟩
  replace q0 := cell_keep q0 hb
  replace q1 := cell_keep q1 hb
  replace x10 := cell_keep x10 hb
  replace x11 := cell_keep x11 hb
  replace SL := hide (SL.out.later hb)
  replace S1 := hide (S1.out.later hb)
  replace hB := below_next hB hB.size hb
  clear hb
  go_wp2_with fail
  refine (RN.out _ SL.out).mono ?_
  rintro x w4 ⟨rfl, hb⟩
  replace q0 := cell_keep q0 hb
  replace q1 := cell_keep q1 hb
  replace x10 := cell_keep x10 hb
  replace x11 := cell_keep x11 hb
  replace SL := hide (SL.out.later hb)
  replace S1 := hide (S1.out.later hb)
  replace hB := below_next hB hB.size hb
  clear hb
  have hb : Below w4.heap.size w4 (w4.alloc (.cells #[.slice A l.length c, .int .i64 b] 28)) := (Below.refl _ _).alloc (Nat.le_refl _) _
  have x20 : (w4.alloc (.cells #[.slice A l.length c, .int .i64 b] 28)).cell? ⟨w4.heap.size, 0, none⟩ = some (.slice A l.length c) := by simp [go_sem]
  have x21 : (w4.alloc (.cells #[.slice A l.length c, .int .i64 b] 28)).cell? ⟨w4.heap.size, 1, none⟩ = some (.int .i64 b) := by simp [go_sem]
  replace q0 := cell_keep q0 hb
  replace q1 := cell_keep q1 hb
  replace x10 := cell_keep x10 hb
  replace x11 := cell_keep x11 hb
  replace SL := hide (SL.out.later hb)
  replace S1 := hide (S1.out.later hb)
  replace hB := below_next hB hB.size hb
  clear hb
  go_wp2_with fail
  refine (KB.out _ SL.out).mono ?_
  rintro x w5 ⟨A3, c3, rfl, t3, _, hb⟩
  replace q0 := cell_keep q0 hb
  replace q1 := cell_keep q1 hb
  replace x10 := cell_keep x10 hb
  replace x11 := cell_keep x11 hb
  replace x20 := cell_keep x20 hb
  replace x21 := cell_keep x21 hb
  replace SL := hide (SL.out.later hb)
  replace S1 := hide (S1.out.later hb)
  replace hB := below_next hB hB.size hb
  clear hb
  have S3 := hide t3
  clear t3
  have hb : Below w5.heap.size w5 (w5.alloc (.cells #[.slice A3 l.length c3, .int .i64 e] 24)) := (Below.refl _ _).alloc (Nat.le_refl _) _
  have x30 : (w5.alloc (.cells #[.slice A3 l.length c3, .int .i64 e] 24)).cell? ⟨w5.heap.size, 0, none⟩ = some (.slice A3 l.length c3) := by simp [go_sem]
  have x31 : (w5.alloc (.cells #[.slice A3 l.length c3, .int .i64 e] 24)).cell? ⟨w5.heap.size, 1, none⟩ = some (.int .i64 e) := by simp [go_sem]
  replace q0 := cell_keep q0 hb
  replace q1 := cell_keep q1 hb
  replace x10 := cell_keep x10 hb
  replace x11 := cell_keep x11 hb
  replace x20 := cell_keep x20 hb
  replace x21 := cell_keep x21 hb
  replace SL := hide (SL.out.later hb)
  replace S1 := hide (S1.out.later hb)
  replace S3 := hide (S3.out.later hb)
  replace hB := below_next hB hB.size hb
  clear hb
  go_wp2_with fail
  refine (itsT_any _ _ _ _ _).mono ?_
  rintro x w6 ⟨rfl, hb⟩
  replace q0 := cell_keep q0 hb
  replace q1 := cell_keep q1 hb
  replace x10 := cell_keep x10 hb
  replace x11 := cell_keep x11 hb
  replace x20 := cell_keep x20 hb
  replace x21 := cell_keep x21 hb
  replace x30 := cell_keep x30 hb
  replace x31 := cell_keep x31 hb
  replace SL := hide (SL.out.later hb)
  replace S1 := hide (S1.out.later hb)
  replace S3 := hide (S3.out.later hb)
  replace hB := below_next hB hB.size hb
  clear hb
  go_wp2_with fail
  refine (RB.out _ SL.out).mono ?_
  rintro x w7 ⟨rfl, hb⟩
  replace q0 := cell_keep q0 hb
  replace q1 := cell_keep q1 hb
  replace x10 := cell_keep x10 hb
  replace x11 := cell_keep x11 hb
  replace x20 := cell_keep x20 hb
  replace x21 := cell_keep x21 hb
  replace x30 := cell_keep x30 hb
  replace x31 := cell_keep x31 hb
  replace SL := hide (SL.out.later hb)
  replace S1 := hide (S1.out.later hb)
  replace S3 := hide (S3.out.later hb)
  replace hB := below_next hB hB.size hb
  clear hb
  have hb : Below w7.heap.size w7 (w7.alloc (.cells #[.slice A l.length c, .int .i64 e] 28)) := (Below.refl _ _).alloc (Nat.le_refl _) _
  have x40 : (w7.alloc (.cells #[.slice A l.length c, .int .i64 e] 28)).cell? ⟨w7.heap.size, 0, none⟩ = some (.slice A l.length c) := by simp [go_sem]
  have x41 : (w7.alloc (.cells #[.slice A l.length c, .int .i64 e] 28)).cell? ⟨w7.heap.size, 1, none⟩ = some (.int .i64 e) := by simp [go_sem]
  replace q0 := cell_keep q0 hb
  replace q1 := cell_keep q1 hb
  replace x10 := cell_keep x10 hb
  replace x11 := cell_keep x11 hb
  replace x20 := cell_keep x20 hb
  replace x21 := cell_keep x21 hb
  replace x30 := cell_keep x30 hb
  replace x31 := cell_keep x31 hb
  replace SL := hide (SL.out.later hb)
  replace S1 := hide (S1.out.later hb)
  replace S3 := hide (S3.out.later hb)
  replace hB := below_next hB hB.size hb
  clear hb
  go_wp2_with fail
  generalize (w7.alloc (.cells #[.slice A l.length c, .int .i64 e] 28)) = wz at *
  replace q0 : wz.drew.cell? ⟨w.heap.size, 0, none⟩ = some (.slice A l.length c) := q0
  replace q1 : wz.drew.cell? ⟨w.heap.size, 1, none⟩ = some (.int .i64 a) := q1
  replace x10 : wz.drew.cell? ⟨w2.heap.size, 0, none⟩ = some (.slice A1 l.length c1) := x10
  replace x11 : wz.drew.cell? ⟨w2.heap.size, 1, none⟩ = some (.int .i64 b) := x11
  replace x20 : wz.drew.cell? ⟨w4.heap.size, 0, none⟩ = some (.slice A l.length c) := x20
  replace x21 : wz.drew.cell? ⟨w4.heap.size, 1, none⟩ = some (.int .i64 b) := x21
  replace x30 : wz.drew.cell? ⟨w5.heap.size, 0, none⟩ = some (.slice A3 l.length c3) := x30
  replace x31 : wz.drew.cell? ⟨w5.heap.size, 1, none⟩ = some (.int .i64 e) := x31
  replace x40 : wz.drew.cell? ⟨w7.heap.size, 0, none⟩ = some (.slice A l.length c) := x40
  replace x41 : wz.drew.cell? ⟨w7.heap.size, 1, none⟩ = some (.int .i64 e) := x41
  replace SL := hide (SL.out.later ((Below.refl _ _).drew))
  replace S1 := hide (S1.out.later ((Below.refl _ _).drew))
  replace S3 := hide (S3.out.later ((Below.refl _ _).drew))
  replace hB := hB.drew
  go_region_held3 (fun w' => w'.cell? ⟨w.heap.size, 0, none⟩ = some (.slice A l.length c) ∧ w'.cell? ⟨w.heap.size, 1, none⟩ = some (.int .i64 a) ∧ w'.cell? ⟨w2.heap.size, 0, none⟩ = some (.slice A1 l.length c1) ∧ w'.cell? ⟨w2.heap.size, 1, none⟩ = some (.int .i64 b) ∧ w'.cell? ⟨w4.heap.size, 0, none⟩ = some (.slice A l.length c) ∧ w'.cell? ⟨w4.heap.size, 1, none⟩ = some (.int .i64 b) ∧ w'.cell? ⟨w5.heap.size, 0, none⟩ = some (.slice A3 l.length c3) ∧ w'.cell? ⟨w5.heap.size, 1, none⟩ = some (.int .i64 e) ∧ w'.cell? ⟨w7.heap.size, 0, none⟩ = some (.slice A l.length c) ∧ w'.cell? ⟨w7.heap.size, 1, none⟩ = some (.int .i64 e))
    (exact ⟨q0, q1, x10, x11, x20, x21, x30, x31, x40, x41⟩)
    (first
      | (go_at_call 12; refine (itsT_any _ _ _ _ _).mono ?_; rintro x vv ⟨rfl, hv⟩; replace q0 := cell_keep q0 hv; replace q1 := cell_keep q1 hv; replace x10 := cell_keep x10 hv; replace x11 := cell_keep x11 hv; replace x20 := cell_keep x20 hv; replace x21 := cell_keep x21 hv; replace x30 := cell_keep x30 hv; replace x31 := cell_keep x31 hv; replace x40 := cell_keep x40 hv; replace x41 := cell_keep x41 hv; replace SL := hide (SL.out.later hv); replace S1 := hide (S1.out.later hv); replace S3 := hide (S3.out.later hv); replace hB := below_next hB hB.size hv; (try replace S9 := hide (S9.out.later hv)); clear hv)
      | (go_at_call_of 15 A1; refine (sameT_true A1 A c1 c l b _ HL.out S1.out SL.out).mono ?_; rintro x vv ⟨rfl, hv⟩; replace q0 := cell_keep q0 hv; replace q1 := cell_keep q1 hv; replace x10 := cell_keep x10 hv; replace x11 := cell_keep x11 hv; replace x20 := cell_keep x20 hv; replace x21 := cell_keep x21 hv; replace x30 := cell_keep x30 hv; replace x31 := cell_keep x31 hv; replace x40 := cell_keep x40 hv; replace x41 := cell_keep x41 hv; replace SL := hide (SL.out.later hv); replace S1 := hide (S1.out.later hv); replace S3 := hide (S3.out.later hv); replace hB := below_next hB hB.size hv; (try replace S9 := hide (S9.out.later hv)); clear hv)
      | (go_at_call_of 15 A3; refine (sameT_true A3 A c3 c l e _ HL.out S3.out SL.out).mono ?_; rintro x vv ⟨rfl, hv⟩; replace q0 := cell_keep q0 hv; replace q1 := cell_keep q1 hv; replace x10 := cell_keep x10 hv; replace x11 := cell_keep x11 hv; replace x20 := cell_keep x20 hv; replace x21 := cell_keep x21 hv; replace x30 := cell_keep x30 hv; replace x31 := cell_keep x31 hv; replace x40 := cell_keep x40 hv; replace x41 := cell_keep x41 hv; replace SL := hide (SL.out.later hv); replace S1 := hide (S1.out.later hv); replace S3 := hide (S3.out.later hv); replace hB := below_next hB hB.size hv; (try replace S9 := hide (S9.out.later hv)); clear hv)
      | (go_at_call_of 15 A9; refine (sameT_true A9 A c9 c l k _ HL.out S9.out SL.out).mono ?_; rintro x vv ⟨rfl, hv⟩; replace q0 := cell_keep q0 hv; replace q1 := cell_keep q1 hv; replace x10 := cell_keep x10 hv; replace x11 := cell_keep x11 hv; replace x20 := cell_keep x20 hv; replace x21 := cell_keep x21 hv; replace x30 := cell_keep x30 hv; replace x31 := cell_keep x31 hv; replace x40 := cell_keep x40 hv; replace x41 := cell_keep x41 hv; replace SL := hide (SL.out.later hv); replace S1 := hide (S1.out.later hv); replace S3 := hide (S3.out.later hv); replace hB := below_next hB hB.size hv; (try replace S9 := hide (S9.out.later hv)); clear hv)
      | (go_at_call 16; refine (KL.out _).mono ?_; rintro x vv ⟨rfl, hv⟩; replace q0 := cell_keep q0 hv; replace q1 := cell_keep q1 hv; replace x10 := cell_keep x10 hv; replace x11 := cell_keep x11 hv; replace x20 := cell_keep x20 hv; replace x21 := cell_keep x21 hv; replace x30 := cell_keep x30 hv; replace x31 := cell_keep x31 hv; replace x40 := cell_keep x40 hv; replace x41 := cell_keep x41 hv; replace SL := hide (SL.out.later hv); replace S1 := hide (S1.out.later hv); replace S3 := hide (S3.out.later hv); replace hB := below_next hB hB.size hv; (try replace S9 := hide (S9.out.later hv)); clear hv)
      | (go_at_call 17; refine (RL.out _).mono ?_; rintro x vv ⟨rfl, hv⟩; replace q0 := cell_keep q0 hv; replace q1 := cell_keep q1 hv; replace x10 := cell_keep x10 hv; replace x11 := cell_keep x11 hv; replace x20 := cell_keep x20 hv; replace x21 := cell_keep x21 hv; replace x30 := cell_keep x30 hv; replace x31 := cell_keep x31 hv; replace x40 := cell_keep x40 hv; replace x41 := cell_keep x41 hv; replace SL := hide (SL.out.later hv); replace S1 := hide (S1.out.later hv); replace S3 := hide (S3.out.later hv); replace hB := below_next hB hB.size hv; (try replace S9 := hide (S9.out.later hv)); clear hv)
      | (go_at_call 18; refine (KK.out _ SL.out).mono ?_; rintro x vv ⟨A9, c9, rfl, t9, _, hv⟩; replace q0 := cell_keep q0 hv; replace q1 := cell_keep q1 hv; replace x10 := cell_keep x10 hv; replace x11 := cell_keep x11 hv; replace x20 := cell_keep x20 hv; replace x21 := cell_keep x21 hv; replace x30 := cell_keep x30 hv; replace x31 := cell_keep x31 hv; replace x40 := cell_keep x40 hv; replace x41 := cell_keep x41 hv; replace SL := hide (SL.out.later hv); replace S1 := hide (S1.out.later hv); replace S3 := hide (S3.out.later hv); replace hB := below_next hB hB.size hv; have S9 := hide t9; clear t9; clear hv)
      | (go_at_call 19; refine (RK.out _ SL.out).mono ?_; rintro x vv ⟨rfl, hv⟩; replace q0 := cell_keep q0 hv; replace q1 := cell_keep q1 hv; replace x10 := cell_keep x10 hv; replace x11 := cell_keep x11 hv; replace x20 := cell_keep x20 hv; replace x21 := cell_keep x21 hv; replace x30 := cell_keep x30 hv; replace x31 := cell_keep x31 hv; replace x40 := cell_keep x40 hv; replace x41 := cell_keep x41 hv; replace SL := hide (SL.out.later hv); replace S1 := hide (S1.out.later hv); replace S3 := hide (S3.out.later hv); replace hB := below_next hB hB.size hv; (try replace S9 := hide (S9.out.later hv)); clear hv))
  go_wp2
  go_ret
  exact ⟨rfl, hB⟩
end Go.Proofs.Ytneidedipgchiaa
