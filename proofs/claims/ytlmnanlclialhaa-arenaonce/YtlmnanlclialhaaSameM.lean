/- Contracts of the document's Same on memories, and of the law's 'long'. -/
import Derived.Test.YtlmnanlclialhaaBoxesR
import Derived.Lib.QuietBelow
namespace Go.Proofs.Ytlmnanlclialhaa
open Go.RowKit Go.Sort

set_option maxRecDepth 100000 in
set_option maxHeartbeats 2000000 in
theorem sameM_any (A B A2 B2 : Option Addr) (c d c2 d2 : Nat) (ws ws2 : List Int) (bs bs2 : List Bt) (w : World) (m : MemOk w A ws B bs) (m2 : MemOk w A2 ws2 B2 bs2) :
    Calls Try.prog 25 #[.agg #[.slice A ws.length c, .slice B bs.length d], .agg #[.slice A2 ws2.length c2, .slice B2 bs2.length d2]] w (BoolPost (decide (ws = ws2) && decide (boxes bs = boxes bs2)) w) := by
  have hb : Below w.heap.size w ((w.alloc (.cells #[.slice A ws.length c, .slice B bs.length d] 44)).alloc (.cells #[.slice A2 ws2.length c2, .slice B2 bs2.length d2] 44)) := ((Below.refl _ w).alloc (Nat.le_refl _) _).alloc (by simp) _
  have n1 := m.later hb
  have n2 := m2.later hb
  have KI := hide (ints_any A A2 c c2 ws.length ws2.length ws ws2 (by have := m.few; omega) ((w.alloc (.cells #[.slice A ws.length c, .slice B bs.length d] 44)).alloc (.cells #[.slice A2 ws2.length c2, .slice B2 bs2.length d2] 44)) n1.words n2.words)
  have HM := hide m
  have HM2 := hide m2
  clear m m2 n1 n2
  by_cases hw : ws = ws2
  · rw [decide_eq_true hw] at KI ⊢
    rw [Bool.true_and]
    by_cases hl : bs.length = bs2.length
    · have hli : ((bs.length : Int) != (bs2.length : Int)) = false := by simp [hl]
      have HLL := hide hl
      clear hl hw
      go_enter Try.func25, Try.ntmps25
      go_wp2_with fail
      refine KI.out.mono ?_
      rintro x w1 ⟨rfl, hb1⟩
      have q0 : w1.cell? ⟨w.heap.size, 1, none⟩ = some (.slice B bs.length d) := cell_keep (by simp [go_sem]) hb1
      have q1 : w1.cell? ⟨w.heap.size + 1, 1, none⟩ = some (.slice B2 bs2.length d2) := cell_keep (by simp [go_sem]) hb1
      have hB1 := below_next hb (by simp; omega) hb1
      have s1 := HM.out.later hB1
      have s2 := HM2.out.later hB1
      clear KI hb hb1
      go_wp2
      go_loopw [5] (fun i wr => ∃ j : Nat, j ≤ bs.length ∧ i = .int .i64 j ∧ (boxes bs).take j = (boxes bs2).take j ∧ Below w1.heap.size w1 wr) (fun i _ => bs.length - (intOf i).toNat)
      case atStart => exact ⟨0, Nat.zero_le _, rfl, rfl, Below.refl _ _⟩
      case round =>
        obtain ⟨j, hj, rfl, htk, hB⟩ := hrel
        have p0 := cell_keep q0 hB
        have p1 := cell_keep q1 hB
        by_cases hlt : j < bs.length
        · have t1 := s1.later hB
          have t2 := s2.later hB
          have hlt2 : j < bs2.length := by have := HLL.out; omega
          obtain ⟨b, off, rfl, hb', hc⟩ := t1.bxs.2 (by omega)
          obtain ⟨b2, off2, rfl, hb2', hc2⟩ := t2.bxs.2 (by omega)
          obtain ⟨q, hq⟩ : ∃ q, bs[j]? = some q := ⟨bs[j], List.getElem?_eq_getElem hlt⟩
          obtain ⟨r, hr⟩ : ∃ q, bs2[j]? = some q := ⟨bs2[j], List.getElem?_eq_getElem hlt2⟩
          have hcq := hc j q.val (by simp [hq])
          have hcr := hc2 j r.val (by simp [hr])
          have hqs : Sees wr wr.heap.size 3 q.A q.l.length (ecells q.l) := t1.each q (List.mem_of_getElem? hq)
          have hrs : Sees wr wr.heap.size 3 r.A r.l.length (ecells r.l) := t2.each r (List.mem_of_getElem? hr)
          have hfb := t1.fewb
          have hqn := t1.short q (List.mem_of_getElem? hq)
          have HA := hide (boxes_at hq)
          have HA2 := hide (boxes_at hr)
          obtain ⟨qA, qc, ql⟩ := q
          obtain ⟨rA, rc, rl⟩ := r
          simp only [Bt.val] at hcq hcr hqs hrs hqn
          have HTK := hide htk
          have k1 := cell_regrown p0
          have k2 := cell_regrown p1
          have k3 := cell_regrown hcq
          have k4 := cell_regrown hcr
          obtain ⟨eq, heq⟩ : ∃ x, decide (ql = rl) = x := ⟨_, rfl⟩
          have q5 : ∀ dd os, Calls Try.prog 42 #[.slice qA ql.length qc, .slice rA rl.length rc] (grow (redrawn wr dd) os) fun e w'' => e = .returned (.bool eq) ∧ ∃ p : Regrown, w'' = grow (redrawn wr p.d) p.os :=
            fun dd os => Calls.regrown_of (heq ▸ same_any qA rA qc rc ql.length rl.length ql rl rfl rfl (by omega) _ (hqs.later (below_regrown wr dd os)) (hrs.later (below_regrown wr dd os)))
          have Q5 := hide q5
          have HEQ := hide heq
          have hj0 : (0 : Int) ≤ (j : Int) := Int.natCast_nonneg _
          have hj1 : (j : Int) < (bs.length : Int) := by omega
          have hj2 : (j : Int) < (bs2.length : Int) := by omega
          clear hq hr hc hc2 t1 t2 hqs hrs htk q5 hcq hcr heq s1 s2 q0 q1
          go_wp2_with fail
          refine wp_region_quiet_below (by kernel_rfl) (by kernel_rfl) ?_
          repeat (quiet_step (first | (go_at_call 42; exact Q5.out _ _)))
          refine wpQuiet_nil ?_
          intro _ hw'
          obtain ⟨⟨dq, osq⟩, hw''⟩ := hw'
          subst hw''
          have hBn := below_next hB hB.size (below_regrown wr dq osq)
          cases eq with
          | true =>
            go_wp2
            go_roundw
            case rel => exact ⟨j + 1, by omega, by go_num, take_eq_step HTK.out HA.out HA2.out (of_decide_eq_true HEQ.out), hBn⟩
            case measure => simp [intOf]; omega
          | false =>
            go_wp2
            go_ret
            exact ⟨ret_b (decide_eq_false (ne_at HA.out HA2.out (of_decide_eq_false HEQ.out))), below_next hB1 hB1.size hBn⟩
        · obtain rfl : j = bs.length := by omega
          have HE : Hid (boxes bs = boxes bs2) := by
            have h1 := List.take_of_length_le (l := boxes bs) (i := bs.length) (by rw [boxes_length]; exact Nat.le_refl _)
            have h2 := List.take_of_length_le (l := boxes bs2) (i := bs.length) (by rw [boxes_length, HLL.out]; exact Nat.le_refl _)
            exact h1.symm.trans (htk.trans h2)
          clear htk
          go_wp2
          go_ret
          exact ⟨ret_b (decide_eq_true HE.out), below_next hB1 hB1.size hB⟩
    · have HE : Hid (boxes bs ≠ boxes bs2) := fun e => hl (by rw [← boxes_length bs, ← boxes_length bs2, e])
      have hli : ((bs.length : Int) != (bs2.length : Int)) = true := by simp; omega
      clear hl hw
      go_enter Try.func25, Try.ntmps25
      go_wp2_with fail
      refine KI.out.mono ?_
      rintro x w1 ⟨rfl, hb1⟩
      have q0 : w1.cell? ⟨w.heap.size, 1, none⟩ = some (.slice B bs.length d) := cell_keep (by simp [go_sem]) hb1
      have q1 : w1.cell? ⟨w.heap.size + 1, 1, none⟩ = some (.slice B2 bs2.length d2) := cell_keep (by simp [go_sem]) hb1
      have hB1 := below_next hb (by simp; omega) hb1
      go_wp2
      go_ret
      exact ⟨ret_b (decide_eq_false HE.out), hB1⟩
  · rw [decide_eq_false hw] at KI ⊢
    rw [Bool.false_and]
    clear hw
    go_enter Try.func25, Try.ntmps25
    go_wp2_with fail
    refine KI.out.mono ?_
    rintro x w1 ⟨rfl, hb1⟩
    have hB1 := below_next hb (by simp; omega) hb1
    go_wp2
    go_ret
    exact ⟨rfl, hB1⟩

/-- What the law's 'long' tells. -/
def longB (ws : List Int) (bs : List Bt) : Bool := (bs.take 60).any (fun q => decide (50 < q.l.length)) || (decide (300 < ws.length) || decide (50 < bs.length))
theorem longB_no {ws : List Int} {bs : List Bt} (h : longB ws bs = false) : ws.length ≤ 300 ∧ bs.length ≤ 50 ∧ ∀ q ∈ bs, q.l.length ≤ 50 := by
  simp only [longB, Bool.or_eq_false_iff, decide_eq_false_iff_not] at h
  obtain ⟨h1, h2, h3⟩ := h
  refine ⟨by omega, by omega, fun q hq => ?_⟩
  rw [List.take_of_length_le (by omega)] at h1
  rw [List.any_eq_false] at h1
  have := h1 q hq
  simp at this
  omega

end Go.Proofs.Ytlmnanlclialhaa
