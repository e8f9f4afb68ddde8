/- Contracts of the program's known, oneOf and Check, and of the document's Check. -/
import Derived.Test.YtlmkbfbiohocpaaScD
import Derived.Test.YtlmkbfbiohocpaaMay
import Derived.Test.YtlmkbfbiohocpaaCfgC
namespace Go.Proofs.Ytlmkbfbiohocpaa
open Go.RowKit

theorem kn_yes (k : Int) (h : 1 ≤ k ∧ k ≤ 3) (w : World) : Calls Try.prog 22 #[.int .i64 k] w fun x w' => x = .returned (.bool true) ∧ w = w' := by
  obtain ⟨h1, h2⟩ := h
  go_enter Try.func22, Try.ntmps22
  go_wp2
  go_ret
  exact ⟨rfl, rfl⟩
theorem kn_no (k : Int) (h : k < 1 ∨ 3 < k) (w : World) : Calls Try.prog 22 #[.int .i64 k] w fun x w' => x = .returned (.bool false) ∧ w = w' := by
  rcases h with h | h
  · go_enter Try.func22, Try.ntmps22
    go_wp2
    go_ret
    exact ⟨rfl, rfl⟩
  · have h' : 1 ≤ k := by omega
    have e := hide (decide_eq_false (show ¬ k ≤ 3 by omega)).symm
    go_enter Try.func22, Try.ntmps22
    go_wp2
    go_ret
    exact ⟨ret_b e.out, rfl⟩
theorem of_yes (n m : Int) (h : 0 ≤ n ∧ n < m) (w : World) : Calls Try.prog 23 #[.int .i64 n, .int .i64 m] w fun x w' => x = .returned (.bool true) ∧ w = w' := by
  obtain ⟨h1, h2⟩ := h
  go_enter Try.func23, Try.ntmps23
  go_wp2
  go_ret
  exact ⟨rfl, rfl⟩
theorem of_no (n m : Int) (h : n < 0 ∨ m ≤ n) (w : World) : Calls Try.prog 23 #[.int .i64 n, .int .i64 m] w fun x w' => x = .returned (.bool false) ∧ w = w' := by
  by_cases h0 : n < 0
  · clear h
    go_enter Try.func23, Try.ntmps23
    go_wp2
    go_ret
    exact ⟨rfl, rfl⟩
  · have h' : 0 ≤ n := by omega
    have e := hide (decide_eq_false (show ¬ n < m by omega)).symm
    clear h h0
    go_enter Try.func23, Try.ntmps23
    go_wp2
    go_ret
    exact ⟨ret_b e.out, rfl⟩

set_option maxRecDepth 100000 in
set_option maxHeartbeats 4000000 in
theorem check9_any (x0 x1 x2 x3 x4 x5 x6 x7 : Int) (b : Bool) (x9 x10 x11 : Int) (k t i g v : Int) (w : World) : Calls Try.prog 14 #[.agg #[.int .i64 x0, .int .i64 x1, .int .i64 x2, .int .i64 x3, .int .i64 x4, .int .i64 x5, .int .i64 x6, .int .i64 x7, .bool b, .int .i64 x9, .int .i64 x10, .int .i64 x11], .agg #[.int .i64 k, .int .i64 t, .int .i64 i, .int .i64 g, .int .i64 v]] w (IntPost (chV x0 x1 b (k, t, i, g, v)) w) := by
  by_cases hk : k < 1 ∨ 3 < k
  · rw [show chV x0 x1 b (k, t, i, g, v) = 90 from if_pos hk]
    have K0 := hide (kn_no k hk)
    clear hk
    go_enter Try.func14, Try.ntmps14
    go_wp2_with (first | (go_at_call 22; refine (K0.out _).mono ?_; rintro x w' ⟨rfl, rfl⟩; clear K0))
    go_ret
    exact ⟨rfl, ((Below.refl _ w).alloc (Nat.le_refl _) _).alloc (by simp) _⟩
  · have ek : chV x0 x1 b (k, t, i, g, v) = if k = 3 then 0 else if t < 0 ∨ x0 ≤ t then 91 else if k = 2 then 0 else if i < 0 ∨ x1 ≤ i then 92 else if mayB g v b = true then 0 else 93 := if_neg hk
    rw [ek]
    clear ek
    replace hk : 1 ≤ k ∧ k ≤ 3 := by omega
    have K0 := hide (kn_yes k hk)
    by_cases h3 : k = 3
    · subst h3
      rw [if_pos rfl]
      clear hk
      go_enter Try.func14, Try.ntmps14
      go_wp2_with (first | (go_at_call 22; refine (K0.out _).mono ?_; rintro x w' ⟨rfl, rfl⟩; clear K0))
      go_ret
      exact ⟨rfl, ((Below.refl _ w).alloc (Nat.le_refl _) _).alloc (by simp) _⟩
    · rw [if_neg h3]
      have b3 : (k == 3) = false := beq_eq_false_iff_ne.2 h3
      by_cases ht : t < 0 ∨ x0 ≤ t
      · rw [if_pos ht]
        clear h3
        have K1 := hide (of_no t x0 ht)
        clear hk ht
        go_enter Try.func14, Try.ntmps14
        go_wp2_with (first | (go_at_call 22; refine (K0.out _).mono ?_; rintro x w' ⟨rfl, rfl⟩; clear K0) | (go_at_call 23; refine (K1.out _).mono ?_; rintro x w' ⟨rfl, rfl⟩; clear K1))
        go_ret
        exact ⟨rfl, ((Below.refl _ w).alloc (Nat.le_refl _) _).alloc (by simp) _⟩
      · rw [if_neg ht]
        replace ht : 0 ≤ t ∧ t < x0 := by omega
        have K1 := hide (of_yes t x0 ht)
        by_cases h2 : k = 2
        · subst h2
          rw [if_pos rfl]
          clear h3 b3 hk
          clear ht
          go_enter Try.func14, Try.ntmps14
          go_wp2_with (first | (go_at_call 22; refine (K0.out _).mono ?_; rintro x w' ⟨rfl, rfl⟩; clear K0) | (go_at_call 23; refine (K1.out _).mono ?_; rintro x w' ⟨rfl, rfl⟩; clear K1))
          go_ret
          exact ⟨rfl, ((Below.refl _ w).alloc (Nat.le_refl _) _).alloc (by simp) _⟩
        · rw [if_neg h2]
          have b2 : (k == 2) = false := beq_eq_false_iff_ne.2 h2
          clear h2 h3
          by_cases hi : i < 0 ∨ x1 ≤ i
          · rw [if_pos hi]
            have K2 := hide (of_no i x1 hi)
            clear hk ht hi
            go_enter Try.func14, Try.ntmps14
            go_wp2_with (first | (go_at_call 22; refine (K0.out _).mono ?_; rintro x w' ⟨rfl, rfl⟩; clear K0) | (go_at_call 23; refine (K1.out _).mono ?_; rintro x w' ⟨rfl, rfl⟩; clear K1) | (go_at_call 23; refine (K2.out _).mono ?_; rintro x w' ⟨rfl, rfl⟩; clear K2))
            go_ret
            exact ⟨rfl, ((Below.refl _ w).alloc (Nat.le_refl _) _).alloc (by simp) _⟩
          · rw [if_neg hi]
            replace hi : 0 ≤ i ∧ i < x1 := by omega
            have K2 := hide (of_yes i x1 hi)
            clear hk ht hi
            have M : Hid (∀ w : World, Calls Try.prog 24 #[.agg #[.int .i64 g, .int .i64 v], .bool b] w (BoolPost (mayB g v b) w)) := may_any g v b
            cases hm : mayB g v b
            · rw [hm] at M
              rw [if_neg (by decide)]
              clear hm
              go_enter Try.func14, Try.ntmps14
              go_wp2_with (first | (go_at_call 22; refine (K0.out _).mono ?_; rintro x w' ⟨rfl, rfl⟩; clear K0) | (go_at_call 23; refine (K1.out _).mono ?_; rintro x w' ⟨rfl, rfl⟩; clear K1) | (go_at_call 23; refine (K2.out _).mono ?_; rintro x w' ⟨rfl, rfl⟩; clear K2) | (go_at_call 24; refine (M.out _).mono ?_; rintro x w' ⟨rfl, hv⟩))
              go_ret
              exact ⟨rfl, below_next (((Below.refl _ w).alloc (Nat.le_refl _) _).alloc (by simp) _) (by simp; omega) hv⟩
            · rw [hm] at M
              rw [if_pos rfl]
              clear hm
              go_enter Try.func14, Try.ntmps14
              go_wp2_with (first | (go_at_call 22; refine (K0.out _).mono ?_; rintro x w' ⟨rfl, rfl⟩; clear K0) | (go_at_call 23; refine (K1.out _).mono ?_; rintro x w' ⟨rfl, rfl⟩; clear K1) | (go_at_call 23; refine (K2.out _).mono ?_; rintro x w' ⟨rfl, rfl⟩; clear K2) | (go_at_call 24; refine (M.out _).mono ?_; rintro x w' ⟨rfl, hv⟩))
              go_ret
              exact ⟨rfl, below_next (((Below.refl _ w).alloc (Nat.le_refl _) _).alloc (by simp) _) (by simp; omega) hv⟩

set_option maxRecDepth 100000 in
set_option maxHeartbeats 4000000 in
theorem rcheck9_any (x0 x1 x2 x3 x4 x5 x6 x7 : Int) (b : Bool) (x9 x10 x11 : Int) (k t i g v : Int) (w : World) : Calls Try.prog 15 #[.agg #[.int .i64 x0, .int .i64 x1, .int .i64 x2, .int .i64 x3, .int .i64 x4, .int .i64 x5, .int .i64 x6, .int .i64 x7, .bool b, .int .i64 x9, .int .i64 x10, .int .i64 x11], .agg #[.int .i64 k, .int .i64 t, .int .i64 i, .int .i64 g, .int .i64 v]] w (IntPost (chV x0 x1 b (k, t, i, g, v)) w) := by
  by_cases hk : k < 1 ∨ 3 < k
  · rw [show chV x0 x1 b (k, t, i, g, v) = 90 from if_pos hk]
    by_cases h1 : k < 1
    · clear hk
      go_enter Try.func15, Try.ntmps15
      go_wp2
      go_ret
      exact ⟨rfl, ((Below.refl _ w).alloc (Nat.le_refl _) _).alloc (by simp) _⟩
    · have h2 : 3 < k := by omega
      clear hk
      go_enter Try.func15, Try.ntmps15
      go_wp2
      go_ret
      exact ⟨rfl, ((Below.refl _ w).alloc (Nat.le_refl _) _).alloc (by simp) _⟩
  · have ek : chV x0 x1 b (k, t, i, g, v) = if k = 3 then 0 else if t < 0 ∨ x0 ≤ t then 91 else if k = 2 then 0 else if i < 0 ∨ x1 ≤ i then 92 else if mayB g v b = true then 0 else 93 := if_neg hk
    rw [ek]
    clear ek
    replace hk : 1 ≤ k ∧ k ≤ 3 := by omega
    by_cases h3 : k = 3
    · subst h3
      rw [if_pos rfl]
      clear hk
      go_enter Try.func15, Try.ntmps15
      go_wp2
      go_ret
      exact ⟨rfl, ((Below.refl _ w).alloc (Nat.le_refl _) _).alloc (by simp) _⟩
    · rw [if_neg h3]
      have b3 : (k == 3) = false := beq_eq_false_iff_ne.2 h3
      by_cases ht : t < 0 ∨ x0 ≤ t
      · rw [if_pos ht]
        clear h3
        obtain ⟨k1, k2⟩ := hk
        by_cases h1 : t < 0
        · clear ht
          go_enter Try.func15, Try.ntmps15
          go_wp2
          go_ret
          exact ⟨rfl, ((Below.refl _ w).alloc (Nat.le_refl _) _).alloc (by simp) _⟩
        · have h2 : x0 ≤ t := by omega
          clear ht
          go_enter Try.func15, Try.ntmps15
          go_wp2
          go_ret
          exact ⟨rfl, ((Below.refl _ w).alloc (Nat.le_refl _) _).alloc (by simp) _⟩
      · rw [if_neg ht]
        replace ht : 0 ≤ t ∧ t < x0 := by omega
        by_cases h2 : k = 2
        · subst h2
          rw [if_pos rfl]
          clear h3 b3 hk
          obtain ⟨t1, t2⟩ := ht
          go_enter Try.func15, Try.ntmps15
          go_wp2
          go_ret
          exact ⟨rfl, ((Below.refl _ w).alloc (Nat.le_refl _) _).alloc (by simp) _⟩
        · rw [if_neg h2]
          have b2 : (k == 2) = false := beq_eq_false_iff_ne.2 h2
          clear h2 h3
          by_cases hi : i < 0 ∨ x1 ≤ i
          · rw [if_pos hi]
            obtain ⟨k1, k2⟩ := hk
            obtain ⟨t1, t2⟩ := ht
            by_cases h1 : i < 0
            · clear hi
              go_enter Try.func15, Try.ntmps15
              go_wp2
              go_ret
              exact ⟨rfl, ((Below.refl _ w).alloc (Nat.le_refl _) _).alloc (by simp) _⟩
            · have h2 : x1 ≤ i := by omega
              clear hi
              go_enter Try.func15, Try.ntmps15
              go_wp2
              go_ret
              exact ⟨rfl, ((Below.refl _ w).alloc (Nat.le_refl _) _).alloc (by simp) _⟩
          · rw [if_neg hi]
            replace hi : 0 ≤ i ∧ i < x1 := by omega
            obtain ⟨k1, k2⟩ := hk
            obtain ⟨t1, t2⟩ := ht
            obtain ⟨i1, i2⟩ := hi
            have M : Hid (∀ w : World, Calls Try.prog 25 #[.agg #[.int .i64 g, .int .i64 v], .bool b] w (BoolPost (mayB g v b) w)) := rmay_any g v b
            cases hm : mayB g v b
            · rw [hm] at M
              rw [if_neg (by decide)]
              clear hm
              go_enter Try.func15, Try.ntmps15
              go_wp2_with (first | (go_at_call 25; refine (M.out _).mono ?_; rintro x w' ⟨rfl, hv⟩))
              go_ret
              exact ⟨rfl, below_next (((Below.refl _ w).alloc (Nat.le_refl _) _).alloc (by simp) _) (by simp; omega) hv⟩
            · rw [hm] at M
              rw [if_pos rfl]
              clear hm
              go_enter Try.func15, Try.ntmps15
              go_wp2_with (first | (go_at_call 25; refine (M.out _).mono ?_; rintro x w' ⟨rfl, hv⟩))
              go_ret
              exact ⟨rfl, below_next (((Below.refl _ w).alloc (Nat.le_refl _) _).alloc (by simp) _) (by simp; omega) hv⟩

end Go.Proofs.Ytlmkbfbiohocpaa
