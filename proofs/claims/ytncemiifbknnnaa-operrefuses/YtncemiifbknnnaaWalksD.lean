/- The walk of OperRefuses: it returns true, and turns nothing that was there. -/
import Derived.Test.YtncemiifbknnnaaWalksA
namespace Go.Proofs.Ytncemiifbknnnaa
open Go.RowKit

theorem known_is (t : Int) (b : Bool) (w : World) (hb : knownB t = b) : Calls Try.prog 14 #[.int .i64 t] w fun e w' => e = .returned (.bool b) ∧ w = w' := by
  subst hb; exact known_any t w
def Bo (b : Bool) (w : World) (e : Ending) (w' : World) : Prop := e = .returned (.bool b) ∧ Below w.heap.size w w'
theorem may_is (t v : Int) (b c : Bool) (w : World) (hb : mayB t v b = c) : Calls Try.prog 12 #[.agg #[.int .i64 t, .int .i64 v], .bool b] w (Bo c w) := by
  subst hb; exact (may_any t v b w).mono fun _ _ h => h

theorem refuses (t v x lo hi : Int) : (apB t v x lo hi = false ∧ apV t v x lo hi = x ∧ mayB t v false = false) ∨ (apB t v x lo hi = true ∧ knownB t = true ∧ (mayB t v false = false ∨ mayB t v false = true ∧ mayB t v true = false)) := by
  cases h : apB t v x lo hi
  · refine .inl ⟨rfl, ?_, ?_⟩
    · unfold apB at h
      have h7 : ¬ (1 ≤ t ∧ t ≤ 7) := by intro hc; simp [hc] at h
      rw [if_neg h7] at h
      by_cases h8 : t = 8
      · subst h8; rw [(apV8 _ _ _ _).1]; simp at h; simp [putV, h]
      · by_cases h9 : t = 9
        · subst h9; rw [(apV9 _ _ _ _).1]; simp at h; simp [takeV, h]
        · exact (apV_else t v x lo hi (by omega)).1
    · unfold apB at h
      have h7 : ¬ (1 ≤ t ∧ t ≤ 7) := by intro hc; simp [hc] at h
      simp [mayB]; omega
  · refine .inr ⟨rfl, ?_, ?_⟩
    · unfold apB at h
      simp only [knownB, Bool.and_eq_true, decide_eq_true_eq]
      by_cases h7 : 1 ≤ t ∧ t ≤ 7
      · omega
      · rw [if_neg h7] at h
        by_cases h8 : t = 8
        · omega
        · by_cases h9 : t = 9
          · omega
          · simp [h8, h9] at h
    · cases hm : mayB t v false
      · exact .inl rfl
      · refine .inr ⟨rfl, ?_⟩
        simp [mayB] at hm ⊢
        omega

set_option maxHeartbeats 1000000 in
theorem walkRefuses (t v x lo hi : Int) (wv : I64 v) (w1 : I64 x) (w2 : I64 lo) (w3 : I64 hi) (w : World) :
    Calls Try.prog 8 #[.agg #[.int .i64 t, .int .i64 v], .int .i64 x, .int .i64 lo, .int .i64 hi] w (ShownPost w) := by
  rcases refuses t v x lo hi with ⟨e1, e2, e3⟩ | ⟨e1, e2, e3⟩
  · obtain ⟨k, e4⟩ : ∃ k, knownB t = k := ⟨_, rfl⟩
    have E1 := hide e1; have E2 := hide e2; have E3 := hide e3; have E4 := hide e4
    clear e1 e2 e3 e4
    go_enter Try.func8, Try.ntmps8
    go_wp2_with fail
    refine (apply_is _ _ _ _ _ _ _ _ w1 wv w2 w3 E2.out E1.out).mono ?_
    rintro e u1 ⟨rfl, hb1⟩
    have c1 := hb1.cell (p := ⟨w.heap.size, 0, none⟩) (by simp)
    have c2 := hb1.cell (p := ⟨w.heap.size, 1, none⟩) (by simp)
    have s1 : w.heap.size + 1 ≤ u1.heap.size := by simpa using hb1.size
    go_wp2_with fail
    refine (known_is _ _ _ E4.out).mono ?_
    rintro e _ ⟨rfl, rfl⟩
    go_wp2_with fail
    all_goals
      refine (may_is _ _ _ _ _ E3.out).mono ?_
      rintro e u2 ⟨rfl, hb2⟩
      have c3 := hb2.cell (p := ⟨w.heap.size, 0, none⟩) (by simp; omega)
      have c4 := hb2.cell (p := ⟨w.heap.size, 1, none⟩) (by simp; omega)
      have s2 := hb2.size
      go_wp2_with fail
      refine (shown_any _).mono ?_
      rintro e u3 ⟨rfl, hb3⟩
      have c5 := hb3.cell (p := ⟨w.heap.size, 0, none⟩) (by simp; omega)
      have c6 := hb3.cell (p := ⟨w.heap.size, 1, none⟩) (by simp; omega)
      have s3 := hb3.size
      go_wp2_with fail
      refine (may_is _ _ _ _ _ E3.out).mono ?_
      rintro e u4 ⟨rfl, hb4⟩
      have hB : Below w.heap.size w u4 := (((((Below.refl _ _).alloc (Nat.le_refl _) _).trans (hb1.mono (by simp))).trans (hb2.mono (by omega))).trans (hb3.mono (by omega))).trans (hb4.mono (by omega))
      go_wp2
      go_ret
      exact ⟨rfl, hB⟩
  · obtain ⟨y, e4⟩ : ∃ k, apV t v x lo hi = k := ⟨_, rfl⟩
    have E1 := hide e1; have E2 := hide e2; have E4 := hide e4
    clear e1 e2 e4
    rcases e3 with e3 | ⟨e3, e5⟩
    · have E3 := hide e3
      clear e3
      go_enter Try.func8, Try.ntmps8
      go_wp2_with fail
      refine (apply_is _ _ _ _ _ _ _ _ w1 wv w2 w3 E4.out E1.out).mono ?_
      rintro e u1 ⟨rfl, hb1⟩
      have c1 := hb1.cell (p := ⟨w.heap.size, 0, none⟩) (by simp)
      have c2 := hb1.cell (p := ⟨w.heap.size, 1, none⟩) (by simp)
      have s1 : w.heap.size + 1 ≤ u1.heap.size := by simpa using hb1.size
      go_wp2_with fail
      refine (known_is _ _ _ E2.out).mono ?_
      rintro e _ ⟨rfl, rfl⟩
      go_wp2_with fail
      refine (may_is _ _ _ _ _ E3.out).mono ?_
      rintro e u2 ⟨rfl, hb2⟩
      have c3 := hb2.cell (p := ⟨w.heap.size, 0, none⟩) (by simp; omega)
      have c4 := hb2.cell (p := ⟨w.heap.size, 1, none⟩) (by simp; omega)
      have s2 := hb2.size
      go_wp2_with fail
      refine (shown_any _).mono ?_
      rintro e u3 ⟨rfl, hb3⟩
      have c5 := hb3.cell (p := ⟨w.heap.size, 0, none⟩) (by simp; omega)
      have c6 := hb3.cell (p := ⟨w.heap.size, 1, none⟩) (by simp; omega)
      have s3 := hb3.size
      go_wp2_with fail
      refine (may_is _ _ _ _ _ E3.out).mono ?_
      rintro e u4 ⟨rfl, hb4⟩
      have hB : Below w.heap.size w u4 := (((((Below.refl _ _).alloc (Nat.le_refl _) _).trans (hb1.mono (by simp))).trans (hb2.mono (by omega))).trans (hb3.mono (by omega))).trans (hb4.mono (by omega))
      go_wp2
      go_ret
      exact ⟨rfl, hB⟩
    · have E3 := hide e3; have E5 := hide e5
      clear e3 e5
      go_enter Try.func8, Try.ntmps8
      go_wp2_with fail
      refine (apply_is _ _ _ _ _ _ _ _ w1 wv w2 w3 E4.out E1.out).mono ?_
      rintro e u1 ⟨rfl, hb1⟩
      have c1 := hb1.cell (p := ⟨w.heap.size, 0, none⟩) (by simp)
      have c2 := hb1.cell (p := ⟨w.heap.size, 1, none⟩) (by simp)
      have s1 : w.heap.size + 1 ≤ u1.heap.size := by simpa using hb1.size
      go_wp2_with fail
      refine (known_is _ _ _ E2.out).mono ?_
      rintro e _ ⟨rfl, rfl⟩
      go_wp2_with fail
      refine (may_is _ _ _ _ _ E3.out).mono ?_
      rintro e u2 ⟨rfl, hb2⟩
      have c3 := hb2.cell (p := ⟨w.heap.size, 0, none⟩) (by simp; omega)
      have c4 := hb2.cell (p := ⟨w.heap.size, 1, none⟩) (by simp; omega)
      have s2 := hb2.size
      go_wp2_with fail
      refine (shown_any _).mono ?_
      rintro e u3 ⟨rfl, hb3⟩
      have c5 := hb3.cell (p := ⟨w.heap.size, 0, none⟩) (by simp; omega)
      have c6 := hb3.cell (p := ⟨w.heap.size, 1, none⟩) (by simp; omega)
      have s3 := hb3.size
      go_wp2_with fail
      refine (may_is _ _ _ _ _ E3.out).mono ?_
      rintro e u4 ⟨rfl, hb4⟩
      have c7 := hb4.cell (p := ⟨w.heap.size, 0, none⟩) (by simp; omega)
      have c8 := hb4.cell (p := ⟨w.heap.size, 1, none⟩) (by simp; omega)
      have s4 := hb4.size
      go_wp2_with fail
      refine (may_is _ _ _ _ _ E5.out).mono ?_
      rintro e u5 ⟨rfl, hb5⟩
      have hB : Below w.heap.size w u5 := ((((((Below.refl _ _).alloc (Nat.le_refl _) _).trans (hb1.mono (by simp))).trans (hb2.mono (by omega))).trans (hb3.mono (by omega))).trans (hb4.mono (by omega))).trans (hb5.mono (by omega))
      go_wp2
      go_ret
      exact ⟨rfl, hB⟩

end Go.Proofs.Ytncemiifbknnnaa
