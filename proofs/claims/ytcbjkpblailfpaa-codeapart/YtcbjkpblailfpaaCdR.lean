/- Contracts of the document's own calls of layer 8. -/
import Derived.Test.YtcbjkpblailfpaaCdD
namespace Go.Proofs.Ytcbjkpblailfpaa
open Go.RowKit Go.Sort

theorem rfirst_any (t : Int) (ht : 0 ≤ t ∧ t ≤ 15) (w : World) : Calls Try.prog 16 #[.int .i64 t] w (fun e w' => e = .returned (.int .i64 (frV 1 t)) ∧ w' = w) := by
  have HP : Hid (8 * (t + 1) + 1 = frV 1 t) := hide rfl
  go_enter Try.func16, Try.ntmps16
  go_wp2
  go_ret
  exact ⟨ret_n HP.out.symm, rfl⟩
theorem rjoined_any (t : Int) (ht : 0 ≤ t ∧ t ≤ 15) (w : World) : Calls Try.prog 18 #[.int .i64 t] w (fun e w' => e = .returned (.int .i64 (frV 2 t)) ∧ w' = w) := by
  have HP : Hid (8 * (t + 1) + 2 = frV 2 t) := hide rfl
  go_enter Try.func18, Try.ntmps18
  go_wp2
  go_ret
  exact ⟨ret_n HP.out.symm, rfl⟩
theorem rdeposited_any (t : Int) (ht : 0 ≤ t ∧ t ≤ 15) (w : World) : Calls Try.prog 20 #[.int .i64 t] w (fun e w' => e = .returned (.int .i64 (frV 3 t)) ∧ w' = w) := by
  have HP : Hid (8 * (t + 1) + 3 = frV 3 t) := hide rfl
  go_enter Try.func20, Try.ntmps20
  go_wp2
  go_ret
  exact ⟨ret_n HP.out.symm, rfl⟩
theorem ropen_any (i l : Int) (hi : 0 ≤ i ∧ i ≤ 3) (hl : 1 ≤ l ∧ l ≤ 3) (w : World) : Calls Try.prog 22 #[.int .i64 i, .int .i64 l] w (fun e w' => e = .returned (.int .i64 (opV i l)) ∧ w' = w) := by
  have HP : Hid (8 * (16 * i + l + 1) + 4 = opV i l) := hide rfl
  go_enter Try.func22, Try.ntmps22
  go_wp2
  go_ret
  exact ⟨ret_n HP.out.symm, rfl⟩
theorem rtold_any (w : World) : Calls Try.prog 24 #[] w (fun e w' => e = .returned (.int .i64 5) ∧ w' = w) := by
  go_enter Try.func24, Try.ntmps24
  go_wp2
  go_ret
  exact ⟨rfl, rfl⟩

theorem kd_first {x t k : Int} (hk : 1 ≤ k ∧ k ≤ 3) (ht : 0 ≤ t ∧ t ≤ 15) (h : x = frV k t) : kdV x = k := by rw [h]; exact (kd_fr hk ht).1

theorem kd_none {x : Int} (h0 : x ≠ 0) (h5 : x ≠ 5) (h1 : ∀ t : Int, 0 ≤ t → t ≤ 15 → x ≠ frV 1 t ∧ x ≠ frV 2 t ∧ x ≠ frV 3 t) (h2 : ∀ i l : Int, 0 ≤ i → i < 4 → 1 ≤ l → l ≤ 3 → x ≠ opV i l) : kdV x = -1 := by
  unfold kdV
  rw [if_neg h0, if_neg h5, if_neg, if_neg]
  · rintro ⟨ha, hb, hc, hd, he⟩
    refine h2 ((x / 8 - 1) / 16) ((x / 8 - 1) % 16) hb (by omega) hd he ?_
    unfold opV
    omega
  · rintro ⟨ha, hb, hc, hd⟩
    have h := h1 (x / 8 - 1) hc hd
    unfold frV at h
    omega

set_option maxRecDepth 100000 in
set_option maxHeartbeats 1000000 in
theorem rkind_any (x : Int) (hx : I64 x) (w : World) : Calls Try.prog 11 #[.int .i64 x] w (fun e w' => e = .returned (.int .i64 (kdV x)) ∧ w' = w) := by
  by_cases h0 : x = 0
  · subst h0
    go_enter Try.func11, Try.ntmps11
    go_wp2
    go_ret
    exact ⟨rfl, rfl⟩
  · by_cases h5 : x = 5
    · subst h5
      go_enter Try.func11, Try.ntmps11
      go_wp2_with (first | (go_at_call 24; refine (rtold_any _).mono ?_; rintro e w1 ⟨rfl, rfl⟩))
      go_ret
      exact ⟨rfl, rfl⟩
    · have z0 : (x == 0) = false := beq_eq_false_iff_ne.2 h0
      have z5 : (x == 5) = false := beq_eq_false_iff_ne.2 h5
      go_enter Try.func11, Try.ntmps11
      go_wp2_with (first | (go_at_call 24; refine (rtold_any _).mono ?_; rintro e w1 ⟨rfl, rfl⟩))
      have K1 := fun t ht => hide (fun w => rfirst_any t ht w)
      have K2 := fun t ht => hide (fun w => rjoined_any t ht w)
      have K3 := fun t ht => hide (fun w => rdeposited_any t ht w)
      have K4 := fun i l hi hl => hide (fun w => ropen_any i l hi hl w)
      go_loopw [3] (fun i wr => ∃ j : Nat, j ≤ 16 ∧ i = .int .i64 j ∧ wr = w1 ∧ ∀ t : Int, 0 ≤ t → t < j → x ≠ frV 1 t ∧ x ≠ frV 2 t ∧ x ≠ frV 3 t) (fun i _ => 16 - (intOf i).toNat)
      case atStart => exact ⟨0, Nat.zero_le _, rfl, rfl, fun t h1 h2 => by omega⟩
      case round =>
        obtain ⟨j, hj, rfl, rfl, hno⟩ := hrel
        have HN := hide hno
        clear hno
        by_cases hlt : j < 16
        · have hj2 : 0 ≤ (j : Int) ∧ (j : Int) ≤ 15 := by omega
          have C1 := K1 j hj2
          have C2 := K2 j hj2
          have C3 := K3 j hj2
          have D1 := hide (fun h : x = frV 1 j => kd_first (by omega) hj2 h)
          have D2 := hide (fun h : x = frV 2 j => kd_first (by omega) hj2 h)
          have D3 := hide (fun h : x = frV 3 j => kd_first (by omega) hj2 h)
          have HE : Hid ((x ≠ frV 1 j ∧ x ≠ frV 2 j ∧ x ≠ frV 3 j) → ∀ t : Int, 0 ≤ t → t < (j : Int) + 1 → x ≠ frV 1 t ∧ x ≠ frV 2 t ∧ x ≠ frV 3 t) := hide (fun h t h1 h2 => by
            by_cases ht : t < j
            · exact HN.out t h1 ht
            · obtain rfl : t = j := by omega
              exact h)
          generalize frV 1 j = y1 at C1 D1 HE
          generalize frV 2 j = y2 at C2 D2 HE
          generalize frV 3 j = y3 at C3 D3 HE
          clear K1 K2 K3 K4 HN
          by_cases h1 : x = y1
          · have b1 : (x == y1) = true := beq_iff_eq.2 h1
            have HP := hide (D1.out h1)
            clear h1 HE
            go_wp2_with (first | (go_at_call 16; refine (C1.out _).mono ?_; rintro e w2 ⟨rfl, rfl⟩))
            go_ret
            exact ⟨ret_n HP.out, rfl⟩
          · have b1 : (x == y1) = false := beq_eq_false_iff_ne.2 h1
            by_cases h2 : x = y2
            · have b2 : (x == y2) = true := beq_iff_eq.2 h2
              have HP := hide (D2.out h2)
              clear h1 h2 HE
              go_wp2_with (first | (go_at_call 16; refine (C1.out _).mono ?_; rintro e w2 ⟨rfl, rfl⟩) | (go_at_call 18; refine (C2.out _).mono ?_; rintro e w2 ⟨rfl, rfl⟩))
              go_ret
              exact ⟨ret_n HP.out, rfl⟩
            · have b2 : (x == y2) = false := beq_eq_false_iff_ne.2 h2
              by_cases h3 : x = y3
              · have b3 : (x == y3) = true := beq_iff_eq.2 h3
                have HP := hide (D3.out h3)
                clear h1 h2 h3 HE
                go_wp2_with (first | (go_at_call 16; refine (C1.out _).mono ?_; rintro e w2 ⟨rfl, rfl⟩) | (go_at_call 18; refine (C2.out _).mono ?_; rintro e w2 ⟨rfl, rfl⟩) | (go_at_call 20; refine (C3.out _).mono ?_; rintro e w2 ⟨rfl, rfl⟩))
                go_ret
                exact ⟨ret_n HP.out, rfl⟩
              · have b3 : (x == y3) = false := beq_eq_false_iff_ne.2 h3
                have HP := hide (HE.out ⟨h1, h2, h3⟩)
                clear h1 h2 h3 HE D1 D2 D3
                go_wp2_with (first | (go_at_call 16; refine (C1.out _).mono ?_; rintro e w2 ⟨rfl, rfl⟩) | (go_at_call 18; refine (C2.out _).mono ?_; rintro e w2 ⟨rfl, rfl⟩) | (go_at_call 20; refine (C3.out _).mono ?_; rintro e w2 ⟨rfl, rfl⟩))
                go_roundw
                case rel => exact ⟨j + 1, by omega, by go_num, trivial, by rw [Int.natCast_succ]; exact HP.out⟩
                case measure => simp [intOf]; omega
        · have hj16 : ¬ (j : Int) < 16 := by omega
          have HN16 : Hid (∀ t : Int, 0 ≤ t → t ≤ 15 → x ≠ frV 1 t ∧ x ≠ frV 2 t ∧ x ≠ frV 3 t) := hide (fun t h1 h2 => HN.out t h1 (by omega))
          clear HN K1 K2 K3
          have HF := hide (fun h => kd_none h0 h5 HN16.out h)
          clear HN16 hlt hj h0 h5
          go_wp2
          go_loopw [4] (fun i wz => ∃ a : Nat, a ≤ 4 ∧ i = .int .i64 a ∧ wz = wr ∧ ∀ i l : Int, 0 ≤ i → i < a → 1 ≤ l → l ≤ 3 → x ≠ opV i l) (fun i _ => 4 - (intOf i).toNat)
          case atStart => exact ⟨0, Nat.zero_le _, rfl, rfl, fun i l h1 h2 => by omega⟩
          case round =>
            obtain ⟨a, ha, rfl, rfl, hno⟩ := hrel
            have HN := hide hno
            clear hno
            by_cases hlt : a < 4
            · have ha2 : 0 ≤ (a : Int) ∧ (a : Int) ≤ 3 := by omega
              have hd4 : decide ((a : Int) < 4) = true := decide_eq_true (by omega)
              go_wp2
              go_loopw [5] (fun i wy => ∃ b : Nat, b ≤ 3 ∧ i = .int .i64 ((b : Int) + 1) ∧ wy = wr ∧ ∀ l : Int, 1 ≤ l → l ≤ b → x ≠ opV a l) (fun i _ => 4 - (intOf i).toNat)
              case atStart => exact ⟨0, Nat.zero_le _, rfl, rfl, fun l h1 h2 => by omega⟩
              case round =>
                obtain ⟨b, hb, rfl, rfl, hno⟩ := hrel
                have HM := hide hno
                clear hno
                by_cases hlb : b < 3
                · have hb2 : 1 ≤ (b : Int) + 1 ∧ (b : Int) + 1 ≤ 3 := by omega
                  have C4 := K4 a ((b : Int) + 1) ha2 hb2
                  have D4 := hide (fun h : x = opV a ((b : Int) + 1) => show kdV x = 4 by rw [h]; exact (kd_op ha2 hb2).1)
                  have HE : Hid (x ≠ opV a ((b : Int) + 1) → ∀ l : Int, 1 ≤ l → l ≤ (b : Int) + 1 → x ≠ opV a l) := hide (fun h l h1 h2 => by
                    by_cases hl : l ≤ b
                    · exact HM.out l h1 hl
                    · obtain rfl : l = (b : Int) + 1 := by omega
                      exact h)
                  generalize opV a ((b : Int) + 1) = y4 at C4 D4 HE
                  clear K4 HN HM HF
                  by_cases h4 : x = y4
                  · have b4 : (x == y4) = true := beq_iff_eq.2 h4
                    have HP := hide (D4.out h4)
                    clear h4 HE
                    go_wp2_with (first | (go_at_call 22; refine (C4.out _).mono ?_; rintro e w2 ⟨rfl, rfl⟩))
                    go_ret
                    exact ⟨ret_n HP.out, rfl⟩
                  · have b4 : (x == y4) = false := beq_eq_false_iff_ne.2 h4
                    have HP := hide (HE.out h4)
                    clear h4 HE D4
                    go_wp2_with (first | (go_at_call 22; refine (C4.out _).mono ?_; rintro e w2 ⟨rfl, rfl⟩))
                    go_roundw
                    case rel => exact ⟨b + 1, by omega, by go_num, trivial, by rw [Int.natCast_succ]; exact HP.out⟩
                    case measure => simp [intOf]; omega
                · have HP : Hid (∀ i l : Int, 0 ≤ i → i < (a : Int) + 1 → 1 ≤ l → l ≤ 3 → x ≠ opV i l) := hide (fun i l h1 h2 h3 h4 => by
                    by_cases hi : i < a
                    · exact HN.out i l h1 hi h3 h4
                    · obtain rfl : i = a := by omega
                      exact HM.out l h3 (by omega))
                  clear HN HM HF K4
                  go_wp2
                  go_roundw
                  case rel => exact ⟨a + 1, by omega, by go_num, trivial, by rw [Int.natCast_succ]; exact HP.out⟩
                  case measure => simp [intOf]; omega
            · have HP := hide (HF.out (fun i l h1 h2 h3 h4 => HN.out i l h1 (by omega) h3 h4))
              clear HF HN K4
              go_wp2
              go_ret
              exact ⟨ret_n HP.out, rfl⟩

theorem quo8 {x : Int} (h : 0 ≤ x) : x.tdiv 8 = x / 8 := Int.tdiv_eq_ediv_of_nonneg h
theorem rwho_any (x : Int) (hx : I64 x) (w : World) : Calls Try.prog 13 #[.int .i64 x] w (fun e w' => e = .returned (.int .i64 (whV x)) ∧ w' = w) := by
  have c := fun w => hide (rkind_any x hx w)
  obtain ⟨k, hk⟩ : ∃ k, kdV x = k := ⟨_, rfl⟩
  rw [hk] at c
  by_cases h1 : k < 1
  · have HP : Hid (whV x = -1) := hide (by unfold whV; rw [hk, if_neg (by omega)])
    clear hk
    go_enter Try.func13, Try.ntmps13
    go_wp2_with (first | (go_at_call 11; refine ((c _).out).mono ?_; rintro e w1 ⟨rfl, rfl⟩))
    go_ret
    exact ⟨ret_n HP.out, rfl⟩
  · by_cases h3 : 3 < k
    · have HP : Hid (whV x = -1) := hide (by unfold whV; rw [hk, if_neg (by omega)])
      clear hk
      go_enter Try.func13, Try.ntmps13
      go_wp2_with (first | (go_at_call 11; refine ((c _).out).mono ?_; rintro e w1 ⟨rfl, rfl⟩))
      go_ret
      exact ⟨ret_n HP.out, rfl⟩
    · have hb : 0 ≤ x ∧ x ≤ 1000 := by
        unfold kdV at hk
        repeat' split at hk
        all_goals omega
      have HP : Hid (whV x = x.tdiv 8 - 1) := hide (by unfold whV; rw [hk, if_pos (by omega), quo8 hb.1])
      have hd : 0 ≤ x.tdiv 8 ∧ x.tdiv 8 ≤ 1000 := by rw [quo8 hb.1]; omega
      clear hk
      go_enter Try.func13, Try.ntmps13
      go_wp2_with (first | (go_at_call 11; refine ((c _).out).mono ?_; rintro e w1 ⟨rfl, rfl⟩))
      go_ret
      exact ⟨ret_n HP.out, rfl⟩

theorem rwhere_any (x : Int) (hx : I64 x) (w : World) : Calls Try.prog 9 #[.int .i64 x] w (fun e w' => e = .returned (.tuple #[.int .i64 (itV x), .int .i64 (lyV x)]) ∧ w' = w) := by
  have c := fun w => hide (rkind_any x hx w)
  obtain ⟨k, hk⟩ : ∃ k, kdV x = k := ⟨_, rfl⟩
  rw [hk] at c
  by_cases h4 : k = 4
  · subst h4
    have hb : 0 ≤ x ∧ x ≤ 1000 ∧ 0 ≤ x / 8 - 1 := by
      unfold kdV at hk
      repeat' split at hk
      all_goals omega
    obtain ⟨_, h1, h2⟩ := say_open hk
    rw [h1, h2]
    obtain ⟨q, hq⟩ : ∃ q, x / 8 - 1 = q := ⟨_, rfl⟩
    have hd : 0 ≤ x.tdiv 8 ∧ x.tdiv 8 ≤ 1000 := by rw [quo8 hb.1]; omega
    have hs : x.tdiv 8 - 1 = q := by rw [quo8 hb.1]; exact hq
    have hq0 : 0 ≤ q ∧ q ≤ 1000 := by omega
    have e1 : q.tdiv 16 = q / 16 := Int.tdiv_eq_ediv_of_nonneg hq0.1
    have e2 : q.tmod 16 = q % 16 := Int.tmod_eq_emod_of_nonneg hq0.1
    rw [hq]
    clear hk h1 h2 hq
    go_enter Try.func9, Try.ntmps9
    go_wp2_with (first | (go_at_call 11; refine ((c _).out).mono ?_; rintro e w1 ⟨rfl, rfl⟩))
    go_ret2
    exact ⟨rfl, rfl⟩
  · have z4 : (k == 4) = false := beq_eq_false_iff_ne.2 h4
    have z5 : (k != 4) = true := bne_iff_ne.2 h4
    have hit : itV x = -1 := by unfold itV; rw [hk, if_neg h4]
    have hly : lyV x = 0 := by unfold lyV; rw [hk, if_neg h4]
    rw [hit, hly]
    clear hit hly hk h4
    go_enter Try.func9, Try.ntmps9
    go_wp2_with (first | (go_at_call 11; refine ((c _).out).mono ?_; rintro e w1 ⟨rfl, rfl⟩))
    go_ret2
    exact ⟨rfl, rfl⟩
end Go.Proofs.Ytcbjkpblailfpaa
