/- The walk of TapeOrder. -/
import Derived.Test.YtneidedipgchiaaW4Base
namespace Go.Proofs.Ytneidedipgchiaa
open Go.RowKit Go.Conc

theorem nxt_here {l : List Int} {j : Nat} {v : Int} (h : l[j]? = some v) : nxD l (j : Int) = v ∧ nxA l (j : Int) = ((j + 1 : Nat) : Int) := by
  obtain ⟨h1, h2⟩ := nxD_at (restT_at h)
  exact ⟨h1, by rw [h2]; omega⟩
theorem left_here {l : List Int} {j : Nat} (h : j ≤ l.length) : ((restT l (j : Int)).length : Int) = (l.length : Int) - j := by
  rw [restT_length, if_neg (by omega)]; omega

set_option maxRecDepth 100000 in
set_option maxHeartbeats 4000000 in
theorem walkOrder (A : Option Addr) (c : Nat) (l : List Int) (x : Nat) (w : World) (hs : Sees w w.heap.size 1 A l.length (l.map (Value.int .i64))) (hx : x < 256) :
    Calls Try.prog 4 #[.slice A l.length c, .int .u8 x] w (BoolPost true w) := by
  by_cases h1 : (200 : Int) < (l.length : Int)
  · clear hs
    go_enter Try.func4, Try.ntmps4
    go_wp2_with fail
    refine (shownT_any _).mono ?_
    rintro x w1 ⟨rfl, hb1⟩
    go_wp2
    go_ret
    exact ⟨rfl, hb1⟩
  have h1' : (l.length : Int) ≤ 200 := by omega
  clear h1
  have HL : Hid (l.length ≤ 20000) := hide (by omega)
  have HS0 := hide hs
  obtain ⟨mo, hmo⟩ : ∃ mo : Nat, x % 5 = mo := ⟨_, rfl⟩
  have hm5 : mo < 5 := by omega
  have hm1 : Int.tmod (x : Int) 5 = (mo : Int) := by rw [Int.tmod_eq_emod_of_nonneg (by omega)]; omega
  have hm2 : (x : Int) % 5 = (mo : Int) := by omega
  obtain ⟨tt, htt⟩ : ∃ tt : Nat, l.length + mo = tt := ⟨_, rfl⟩
  have hw1 : IntKind.i64.wrap ((l.length : Int) + (mo : Int)) = (tt : Int) := wrapI (by omega) (by omega) (by omega)
  have hw1' : wrap64 ((l.length : Int) + (mo : Int)) = (tt : Int) := wrapW (by omega) (by omega) (by omega)
  have HW1 := hide (And.intro hw1 hw1')
  have HT := hide htt
  have HM5 := hide hm5
  have hB : Below w.heap.size w w := Below.refl _ _
  clear hs hmo htt hm5 hw1 hw1'
  go_enter Try.func4, Try.ntmps4
  go_wp2_with fail
  refine (shownT_any _).mono ?_
  rintro x w1 ⟨rfl, hb⟩
  replace hB := below_next hB hB.size hb
  clear hb
  have hw01 : w.heap.size ≤ w1.heap.size := hB.size
  have hb : Below w1.heap.size w1 (w1.alloc (.cells #[.slice A l.length c, .int .i64 0] 24)) := (Below.refl _ _).alloc (Nat.le_refl _) _
  have q0 : (w1.alloc (.cells #[.slice A l.length c, .int .i64 0] 24)).cell? ⟨w1.heap.size, 0, none⟩ = some (.slice A l.length c) := by simp [go_sem]
  have q1 : (w1.alloc (.cells #[.slice A l.length c, .int .i64 0] 24)).cell? ⟨w1.heap.size, 1, none⟩ = some (.int .i64 0) := by simp [go_sem]
  replace hB := below_next hB hB.size hb
  clear hb
  have f0 : (w1.alloc (.cells #[.slice A l.length c, .int .i64 0] 24)).frozen? ⟨w1.heap.size, 0, none⟩ = false := by simp [go_sem]
  have f1 : (w1.alloc (.cells #[.slice A l.length c, .int .i64 0] 24)).frozen? ⟨w1.heap.size, 1, none⟩ = false := by simp [go_sem]
  have hwB : Below w.heap.size w (w1.alloc (.cells #[.slice A l.length c, .int .i64 0] 24)) := hB
  go_wp2
  go_loopw [6] (fun i wr => ∃ (j : Nat) (A' : Option Addr) (c' : Nat), i = .int .i64 j ∧ j ≤ tt ∧ wr.cell? ⟨w1.heap.size, 0, none⟩ = some (.slice A' l.length c') ∧ wr.cell? ⟨w1.heap.size, 1, none⟩ = some (.int .i64 ((min j l.length : Nat) : Int)) ∧ wr.frozen? ⟨w1.heap.size, 0, none⟩ = false ∧ wr.frozen? ⟨w1.heap.size, 1, none⟩ = false ∧ Sees wr wr.heap.size 1 A' l.length (l.map (Value.int .i64)) ∧ Below w.heap.size w wr) (fun i _ => tt - (intOf i).toNat)
  case atStart => exact ⟨0, A, c, rfl, Nat.zero_le _, q0, by simp, f0, f1, HS0.out.later hB, hB⟩
  case round =>
    obtain ⟨j, A', c', rfl, hj, p0, p1, g0, g1, hs', hB'⟩ := hrel
    have SA := hide hs'
    clear hs' q0 q1 f0 f1 hB hwB
    by_cases hlt : (j : Int) < (tt : Int)
    · by_cases hjl : j < l.length
      · obtain ⟨b, off, v, rfl, hbl, hv, hcv⟩ := (HS0.out.later hB').num hjl
        have hmin : min j l.length = j := by omega
        rw [hmin] at p1
        obtain ⟨e1, e2⟩ := nxt_here hv
        have KL := hide (fun A' c' y => left_any A' c' l (j : Int) y HL.out)
        rw [left_here (by omega)] at KL
        have KN := hide (fun A' c' y hy => next_any A' c' l (j : Int) y HL.out hy (by unfold I64; omega))
        rw [e1, e2] at KN
        obtain ⟨q, hq⟩ : ∃ q : Int, (l.length : Int) - j = q := ⟨_, rfl⟩
        rw [hq] at KL
        obtain ⟨jn, hjn⟩ : ∃ jn : Nat, j + 1 = jn := ⟨_, rfl⟩
        rw [hjn] at KN
        have hq0 : 0 < q := by omega
        have hj0 : (0 : Int) ≤ (j : Int) := Int.natCast_nonneg _
        have hj1 : (j : Int) < (l.length : Int) := by omega
        have HF : Hid (jn ≤ tt ∧ min jn l.length = jn ∧ tt - jn < tt - j) := hide ⟨by omega, by omega, by omega⟩
        obtain ⟨hw2, hw2', hw3, hw3'⟩ : IntKind.i64.wrap ((l.length : Int) - (j : Int)) = q ∧ wrap64 ((l.length : Int) - (j : Int)) = q ∧ IntKind.i64.wrap ((j : Int) + 1) = (jn : Int) ∧ wrap64 ((j : Int) + 1) = (jn : Int) :=
          ⟨wrapI hq (by omega) (by omega), wrapW hq (by omega) (by omega), wrapI (by omega) (by omega) (by omega), wrapW (by omega) (by omega) (by omega)⟩
        obtain ⟨hw1, hw1'⟩ := HW1.out
        clear hmin e1 e2 hq hv hjn hjl
        have hB := hB'
        clear hB'
        have z5 : w1.heap.size < wr.heap.size := World.block_lt_of_cell? wr _ p0
        go_wp2_with fail
        refine (KL.out _ _ _).mono ?_
        rintro x w2 ⟨rfl, hb⟩
        replace g0 := frozen_keep hb z5 g0
        replace g1 := frozen_keep hb z5 g1
        replace z5 := Nat.lt_of_lt_of_le z5 hb.size
        replace p0 := cell_keep p0 hb
        replace p1 := cell_keep p1 hb
        replace hcv := cell_keep hcv hb
        replace SA := hide (SA.out.later hb)
        replace hB := below_next hB hB.size hb
        clear hb
        go_wp2_with fail
        refine (KN.out _ _ _ SA.out).mono ?_
        rintro x w3 ⟨A3, c3, rfl, t3, r3, hb⟩
        replace g0 := frozen_keep hb z5 g0
        replace g1 := frozen_keep hb z5 g1
        have RR := hide (show ∀ p, A3 = some p → p.block ≠ w1.heap.size from fun p hp => Ne.symm (Nat.ne_of_lt (Nat.lt_of_lt_of_le z5 (r3 p hp))))
        clear r3
        replace z5 := Nat.lt_of_lt_of_le z5 hb.size
        replace p0 := cell_keep p0 hb
        replace p1 := cell_keep p1 hb
        replace hcv := cell_keep hcv hb
        replace SA := hide (SA.out.later hb)
        replace hB := below_next hB hB.size hb
        clear hb
        have S3 := hide t3
        clear t3
        have hb : Below w3.heap.size w3 (w3.alloc (.cells #[.slice A3 l.length c3, .int .i64 (jn : Int)] 24)) := (Below.refl _ _).alloc (Nat.le_refl _) _
        have x0 : (w3.alloc (.cells #[.slice A3 l.length c3, .int .i64 (jn : Int)] 24)).cell? ⟨w3.heap.size, 0, none⟩ = some (.slice A3 l.length c3) := by simp [go_sem]
        have x1 : (w3.alloc (.cells #[.slice A3 l.length c3, .int .i64 (jn : Int)] 24)).cell? ⟨w3.heap.size, 1, none⟩ = some (.int .i64 (jn : Int)) := by simp [go_sem]
        replace p0 := cell_keep p0 hb
        replace p1 := cell_keep p1 hb
        replace hcv := cell_keep hcv hb
        replace SA := hide (SA.out.later hb)
        replace S3 := hide (S3.out.later hb)
        replace hB := below_next hB hB.size hb
        clear hb
        replace g0 : (w3.alloc (.cells #[.slice A3 l.length c3, .int .i64 (jn : Int)] 24)).frozen? ⟨w1.heap.size, 0, none⟩ = false := frozen_keep (show Below w3.heap.size w3 (w3.alloc (.cells #[.slice A3 l.length c3, .int .i64 (jn : Int)] 24)) from (Below.refl _ _).alloc (Nat.le_refl _) _) z5 g0
        replace g1 : (w3.alloc (.cells #[.slice A3 l.length c3, .int .i64 (jn : Int)] 24)).frozen? ⟨w1.heap.size, 1, none⟩ = false := frozen_keep (show Below w3.heap.size w3 (w3.alloc (.cells #[.slice A3 l.length c3, .int .i64 (jn : Int)] 24)) from (Below.refl _ _).alloc (Nat.le_refl _) _) z5 g1
        have hne : w1.heap.size ≠ w3.heap.size := Nat.ne_of_lt z5
        go_upto_region 12 with fail
        generalize hwz : (w3.alloc (.cells #[.slice A3 l.length c3, .int .i64 (jn : Int)] 24)) = wz at *
        have HWZ := hide hwz
        clear hwz
        go_wp2
        refine ⟨⟨jn, A3, c3, rfl, HF.out.1, by simp [go_sem, p0], ?_, by simp [g0], by simp [g1], ((S3.out.far _ 0 _ RR.out).far _ 1 _ RR.out).up (by simp), (hB.setCell hw01 _).setCell hw01 _⟩, by simpa [intOf] using HF.out.2.2⟩
        rw [HF.out.2.1]
        simp [go_sem, p1]
      · have hmin : min j l.length = l.length := by omega
        rw [hmin] at p1
        have hR : restT l (l.length : Int) = [] := restT_spent (by omega)
        obtain ⟨e1, e2⟩ := nxD_no hR
        have KL := hide (fun A' c' y => left_any A' c' l (l.length : Int) y HL.out)
        rw [show ((restT l (l.length : Int)).length : Int) = 0 by rw [hR]; rfl] at KL
        have KN := hide (fun A' c' y hy => next_any A' c' l (l.length : Int) y HL.out hy (by unfold I64; omega))
        rw [e1, e2] at KN
        obtain ⟨q, hq⟩ : ∃ q : Int, (l.length : Int) - j = q := ⟨_, rfl⟩
        have hmax : (if 0 < q then q else (0 : Int)) = 0 := by split <;> omega
        have hj1 : (l.length : Int) ≤ (j : Int) := by omega
        have HT' := HT.out
        have HM' := HM5.out
        obtain ⟨jn, hjn⟩ : ∃ jn : Nat, j + 1 = jn := ⟨_, rfl⟩
        have HF : Hid (jn ≤ tt ∧ min jn l.length = l.length ∧ tt - jn < tt - j) := hide ⟨by omega, by omega, by omega⟩
        obtain ⟨hw2, hw2', hw3, hw3'⟩ : IntKind.i64.wrap ((l.length : Int) - (j : Int)) = q ∧ wrap64 ((l.length : Int) - (j : Int)) = q ∧ IntKind.i64.wrap ((j : Int) + 1) = (jn : Int) ∧ wrap64 ((j : Int) + 1) = (jn : Int) :=
          ⟨wrapI hq (by omega) (by omega), wrapW hq (by omega) (by omega), wrapI (by omega) (by omega) (by omega), wrapW (by omega) (by omega) (by omega)⟩
        obtain ⟨hw1, hw1'⟩ := HW1.out
        clear hmin e1 e2 hq hR hjn hjl HT' HM'
        have hB := hB'
        clear hB'
        have z5 : w1.heap.size < wr.heap.size := World.block_lt_of_cell? wr _ p0
        go_wp2_with fail
        refine (KL.out _ _ _).mono ?_
        rintro x w2 ⟨rfl, hb⟩
        replace g0 := frozen_keep hb z5 g0
        replace g1 := frozen_keep hb z5 g1
        replace z5 := Nat.lt_of_lt_of_le z5 hb.size
        replace p0 := cell_keep p0 hb
        replace p1 := cell_keep p1 hb
        replace SA := hide (SA.out.later hb)
        replace hB := below_next hB hB.size hb
        clear hb
        go_wp2_with fail
        refine (KN.out _ _ _ SA.out).mono ?_
        rintro x w3 ⟨A3, c3, rfl, t3, r3, hb⟩
        replace g0 := frozen_keep hb z5 g0
        replace g1 := frozen_keep hb z5 g1
        have RR := hide (show ∀ p, A3 = some p → p.block ≠ w1.heap.size from fun p hp => Ne.symm (Nat.ne_of_lt (Nat.lt_of_lt_of_le z5 (r3 p hp))))
        clear r3
        replace z5 := Nat.lt_of_lt_of_le z5 hb.size
        replace p0 := cell_keep p0 hb
        replace p1 := cell_keep p1 hb
        replace SA := hide (SA.out.later hb)
        replace hB := below_next hB hB.size hb
        clear hb
        have S3 := hide t3
        clear t3
        have hb : Below w3.heap.size w3 (w3.alloc (.cells #[.slice A3 l.length c3, .int .i64 (l.length : Int)] 24)) := (Below.refl _ _).alloc (Nat.le_refl _) _
        have x0 : (w3.alloc (.cells #[.slice A3 l.length c3, .int .i64 (l.length : Int)] 24)).cell? ⟨w3.heap.size, 0, none⟩ = some (.slice A3 l.length c3) := by simp [go_sem]
        have x1 : (w3.alloc (.cells #[.slice A3 l.length c3, .int .i64 (l.length : Int)] 24)).cell? ⟨w3.heap.size, 1, none⟩ = some (.int .i64 (l.length : Int)) := by simp [go_sem]
        replace p0 := cell_keep p0 hb
        replace p1 := cell_keep p1 hb
        replace SA := hide (SA.out.later hb)
        replace S3 := hide (S3.out.later hb)
        replace hB := below_next hB hB.size hb
        clear hb
        replace g0 : (w3.alloc (.cells #[.slice A3 l.length c3, .int .i64 (l.length : Int)] 24)).frozen? ⟨w1.heap.size, 0, none⟩ = false := frozen_keep (show Below w3.heap.size w3 (w3.alloc (.cells #[.slice A3 l.length c3, .int .i64 (l.length : Int)] 24)) from (Below.refl _ _).alloc (Nat.le_refl _) _) z5 g0
        replace g1 : (w3.alloc (.cells #[.slice A3 l.length c3, .int .i64 (l.length : Int)] 24)).frozen? ⟨w1.heap.size, 1, none⟩ = false := frozen_keep (show Below w3.heap.size w3 (w3.alloc (.cells #[.slice A3 l.length c3, .int .i64 (l.length : Int)] 24)) from (Below.refl _ _).alloc (Nat.le_refl _) _) z5 g1
        have hne : w1.heap.size ≠ w3.heap.size := Nat.ne_of_lt z5
        go_upto_region 12 with fail
        generalize hwz : (w3.alloc (.cells #[.slice A3 l.length c3, .int .i64 (l.length : Int)] 24)) = wz at *
        have HWZ := hide hwz
        clear hwz
        go_wp2
        refine ⟨⟨jn, A3, c3, rfl, HF.out.1, by simp [go_sem, p0], ?_, by simp [g0], by simp [g1], ((S3.out.far _ 0 _ RR.out).far _ 1 _ RR.out).up (by simp), (hB.setCell hw01 _).setCell hw01 _⟩, by simpa [intOf] using HF.out.2.2⟩
        rw [HF.out.2.1]
        simp [go_sem, p1]
    · obtain ⟨hw1, hw1'⟩ := HW1.out
      go_wp2
      go_ret
      exact ⟨rfl, hB'⟩
end Go.Proofs.Ytneidedipgchiaa
