/- The document's Decode of layer 9. -/
import Derived.Test.YtlmkbfbiohocpaaScH
namespace Go.Proofs.Ytlmkbfbiohocpaa
open Go.RowKit

/-- A byte of a text, at a place that is told. -/
theorem idx_at (s : ByteArray) (z : Int) (p : Nat) (hz : z = (p : Int)) (hp : p < s.size) (w : World) : (Instr.index 9 (.string s) (.int .i64 z)).run Try.prog w = .ok (.int .u8 (nth (nums s) p)) w := by
  subst hz
  rw [run_index_string w 9 s .i64 (p : Int) Try.underlying9, dif_pos (by omega)]
  have := nums_nth s p hp
  simp only [Int.toNat_natCast]
  rw [this]

theorem u64_fold (u b : Int) : (256 * u + b) % 18446744073709551616 = IntKind.u64.wrap (IntKind.u64.wrap (256 * u) + b) := by
  rw [u64_wrap, u64_wrap]
  omega

set_option maxRecDepth 100000 in
set_option maxHeartbeats 4000000 in
theorem rdec_any (s : ByteArray) (hs : s.size ≤ 1000000) (w : World) : Calls Try.prog 19 #[.string s] w (DecPost (decG (nums s) 0 []) w) := by
  obtain ⟨i0, hi0, hz0, hz1, hz2⟩ := info_parts info42
  obtain ⟨res, hres⟩ : ∃ r, decG (nums s) 0 [] = r := ⟨_, rfl⟩
  rw [hres]
  have HRES := hide hres
  clear hres
  have hsz : (s.size : Int) ≤ 1000000 := by omega
  go_enter Try.func19, Try.ntmps19
  go_wp2
  go_loopw [5, 6] (fun ov q wr => ∃ (p : Nat) (acc : List E5), q = .int .i64 p ∧ p ≤ s.size ∧ acc.length ≤ p ∧ decG (nums s) 0 [] = decG (nums s) p acc ∧ wr.ownsRow w.heap.size 42 5 ov acc.length (ec5 acc) ∧ Below w.heap.size w wr) (fun _ q _ => s.size - (intOf q).toNat)
  case atStart => exact ⟨0, [], rfl, Nat.zero_le _, Nat.le_refl _, rfl, own_empty w _ _ _ (Nat.le_refl _), (Below.refl _ _).alloc (Nat.le_refl _) _⟩
  case round =>
    obtain ⟨p, acc, rfl, hp, hal, hdec, hown, hB⟩ := hrel
    generalize wr = wo at *
    generalize u5 = ov at *
    have HDEC := hide hdec
    clear hdec
    by_cases hlt : p < s.size
    · have hlt' : p < (nums s).length := by rw [nums_length]; exact hlt
      have x0 := idx_at s (p : Int) p rfl hlt
      have hd := hide (dec_kind (bs := nums s) (acc := acc) hlt')
      have hsh := hide (dec_short (bs := nums s) (acc := acc) hlt')
      have hnx := hide (dec_next (bs := nums s) (acc := acc) hlt')
      obtain ⟨hby0, hby1⟩ := (nums_bytes s).at p
      obtain ⟨kk, hkk⟩ : ∃ kk, nth (nums s) p = kk := ⟨_, rfl⟩
      rw [hkk] at x0 hd hsh hnx hby0 hby1
      have HKK := hide hkk
      clear hkk
      by_cases hb : kk < 1 ∨ 3 < kk
      · have HN : Hid (res = ([], p, 90)) := HRES.out.symm.trans (HDEC.out.trans (hd.out hb))
        clear hd hsh hnx
        by_cases hb1 : kk < 1
        · clear hb
          go_wp2
          go_ret3
          rw [HN.out]
          exact ⟨none, 0, rfl, Nat.le_refl _, Sees.empty, hB⟩
        · have hb2 : 3 < kk := by omega
          clear hb
          go_wp2
          go_ret3
          rw [HN.out]
          exact ⟨none, 0, rfl, Nat.le_refl _, Sees.empty, hB⟩
      · obtain rfl | rfl | rfl : kk = 1 ∨ kk = 2 ∨ kk = 3 := by omega
        · by_cases hfit : s.size < p + 12
          · have HN : Hid (res = ([], p, 94)) := HRES.out.symm.trans (HDEC.out.trans (hsh.out hb (by rw [nums_length]; exact hfit)))
            have f1 : decide ((s.size : Int) < (p : Int) + 12) = true := decide_eq_true (by omega)
            clear hd hsh hnx hb
            go_wp2
            go_ret3
            rw [HN.out]
            exact ⟨none, 0, rfl, Nat.le_refl _, Sees.empty, hB⟩
          · have hn8 : decide ((s.size : Int) < (p : Int) + 12) = false := decide_eq_false (by omega)
            have hq := HDEC.out.trans (hnx.out hb (by rw [nums_length]; show p + 12 ≤ s.size; omega))
            have x1 := idx_at s ((p : Int) + 1) (p + 1) (by omega) (by omega)
            have x2 := idx_at s ((p : Int) + 2) (p + 2) (by omega) (by omega)
            have x3 := idx_at s ((p : Int) + 3) (p + 3) (by omega) (by omega)
            obtain ⟨y10, y11⟩ := (nums_bytes s).at (p + 1)
            obtain ⟨y20, y21⟩ := (nums_bytes s).at (p + 2)
            obtain ⟨y30, y31⟩ := (nums_bytes s).at (p + 3)
            have hr : rdE ((nums s).drop p) = (1, nth (nums s) (p + 1), nth (nums s) (p + 2), nth (nums s) (p + 3), numV (((nums s).drop (p + 4)).take 8)) := by
              unfold rdE
              rw [nth_drop (nums s) p 0, nth_drop (nums s) p 1, nth_drop (nums s) p 2, nth_drop (nums s) p 3, Nat.add_zero, HKK.out, List.drop_drop]
              rfl
            rw [hr] at hq
            obtain ⟨b1, e1⟩ : ∃ b, nth (nums s) (p + 1) = b := ⟨_, rfl⟩
            obtain ⟨b2, e2⟩ : ∃ b, nth (nums s) (p + 2) = b := ⟨_, rfl⟩
            obtain ⟨b3, e3⟩ : ∃ b, nth (nums s) (p + 3) = b := ⟨_, rfl⟩
            rw [e1] at x1 y10 y11 hq
            rw [e2] at x2 y20 y21 hq
            rw [e3] at x3 y30 y31 hq
            have HN := hide hq
            clear hd hsh hnx hb hq hr e1 e2 e3
            go_wp2
            go_loop [10, 11] (fun u q => ∃ n : Nat, n ≤ 8 ∧ q = .int .i64 n ∧ u = .int .u64 (numU (((nums s).drop (p + 4)).take n))) (fun _ q => 8 - (intOf q).toNat)
            case atStart => exact ⟨0, Nat.zero_le _, rfl, rfl⟩
            case round =>
              obtain ⟨n, hn, rfl, rfl⟩ := hrel
              by_cases hn8' : n < 8
              · have x4 := idx_at s ((p : Int) + 4 + (n : Int)) (p + 4 + n) (by omega) (by omega)
                obtain ⟨y40, y41⟩ := (nums_bytes s).at (p + 4 + n)
                have ht : ((nums s).drop (p + 4)).take (n + 1) = ((nums s).drop (p + 4)).take n ++ [nth (nums s) (p + 4 + n)] := take_snoc _ n _ (by
                  rw [List.getElem?_drop]
                  have h1 : p + 4 + n < (nums s).length := by rw [nums_length]; omega
                  rw [List.getElem?_eq_getElem h1]
                  unfold nth
                  rw [List.getElem?_eq_getElem h1]
                  rfl)
                have hu := numU_snoc (((nums s).drop (p + 4)).take n) (nth (nums s) (p + 4 + n))
                rw [← ht] at hu
                obtain ⟨b4, e4⟩ : ∃ b, nth (nums s) (p + 4 + n) = b := ⟨_, rfl⟩
                rw [e4] at x4 y40 y41 hu
                obtain ⟨u, eu⟩ : ∃ u, numU (((nums s).drop (p + 4)).take n) = u := ⟨_, rfl⟩
                rw [eu] at hu ⊢
                have HU := hide hu
                clear hu ht e4 eu
                go_wp2
                go_round
                case rel => exact ⟨n + 1, by omega, by go_num, by rw [HU.out, u64_fold]⟩
                case measure => simp [intOf]; omega
              · obtain rfl : n = 8 := by omega
                have HV := hide (numU_eq (((nums s).drop (p + 4)).take 8))
                obtain ⟨vv, ev⟩ : ∃ v, numV (((nums s).drop (p + 4)).take 8) = v := ⟨_, rfl⟩
                rw [ev] at HN HV
                clear ev
                obtain ⟨u, eu⟩ : ∃ u, numU (((nums s).drop (p + 4)).take 8) = u := ⟨_, rfl⟩
                rw [eu] at HV ⊢
                clear eu
                have ev := HV.out
                go_wp2_with (at_builtin; refine wpList_app _ rfl _ _ 27 rfl w.heap.size 42 i0 _ 5 40 Try.underlying27 hi0 hz0 hz1 hz2 rfl (by omega) ov acc.length (ec5 acc) rfl ((hown.alloc _).alloc _) _ _ 1 1 [.int .i64 1, .int .i64 b1, .int .i64 b2, .int .i64 b3, .int .i64 vv] rfl (sees_at _ [.int .i64 1, .int .i64 b1, .int .i64 b2, .int .i64 b3, .int .i64 vv] 42 5 1 (wo.heap.size + 1) (by simp) rfl) (by simp [Value.oneCell']) (by unfold maxLen; omega) (by omega) (by have := hB.size; simp; omega) ?_; intro v1 w4 hown4 hg4)
                have HB4 := hide (((hB.alloc hB.size _).alloc (by have := hB.size; simp; omega) _).grown hg4 (by have := hB.size; simp; omega) (own_at hown))
                have HO4 := hide hown4
                clear hown hown4 hg4 hB
                go_wp2
                go_roundw
                case rel => exact ⟨p + 12, acc ++ [(1, b1, b2, b3, vv)], by go_num, by omega, by rw [List.length_append]; simp; omega, HN.out, by rw [List.length_append, ec5_append]; exact HO4.out, HB4.out⟩
                case measure => simp [intOf]; omega
        · by_cases hfit : s.size < p + 2
          · have HN : Hid (res = ([], p, 94)) := HRES.out.symm.trans (HDEC.out.trans (hsh.out hb (by rw [nums_length]; exact hfit)))
            have f1 : decide ((s.size : Int) < (p : Int) + 2) = true := decide_eq_true (by omega)
            clear hd hsh hnx hb
            go_wp2
            go_ret3
            rw [HN.out]
            exact ⟨none, 0, rfl, Nat.le_refl _, Sees.empty, hB⟩
          · have hn8 : decide ((s.size : Int) < (p : Int) + 2) = false := decide_eq_false (by omega)
            have hq := HDEC.out.trans (hnx.out hb (by rw [nums_length]; show p + 2 ≤ s.size; omega))
            have x1 := idx_at s ((p : Int) + 1) (p + 1) (by omega) (by omega)
            obtain ⟨y10, y11⟩ := (nums_bytes s).at (p + 1)
            have hr : rdE ((nums s).drop p) = (2, nth (nums s) (p + 1), 0, 0, 0) := by
              unfold rdE
              rw [nth_drop (nums s) p 0, nth_drop (nums s) p 1, Nat.add_zero, HKK.out]
              rfl
            rw [hr] at hq
            obtain ⟨b1, e1⟩ : ∃ b, nth (nums s) (p + 1) = b := ⟨_, rfl⟩
            rw [e1] at x1 y10 y11 hq
            have HN := hide hq
            clear hd hsh hnx hb hq hr e1
            go_wp2_with (at_builtin; refine wpList_app _ rfl _ _ 27 rfl w.heap.size 42 i0 _ 5 40 Try.underlying27 hi0 hz0 hz1 hz2 rfl (by omega) ov acc.length (ec5 acc) rfl ((hown.alloc _).alloc _) _ _ 1 1 [.int .i64 2, .int .i64 b1, .int .i64 0, .int .i64 0, .int .i64 0] rfl (sees_at _ [.int .i64 2, .int .i64 b1, .int .i64 0, .int .i64 0, .int .i64 0] 42 5 1 (wo.heap.size + 1) (by simp) rfl) (by simp [Value.oneCell']) (by unfold maxLen; omega) (by omega) (by have := hB.size; simp; omega) ?_; intro v1 w4 hown4 hg4)
            have HB4 := hide (((hB.alloc hB.size _).alloc (by have := hB.size; simp; omega) _).grown hg4 (by have := hB.size; simp; omega) (own_at hown))
            have HO4 := hide hown4
            clear hown hown4 hg4 hB
            go_wp2
            go_roundw
            case rel => exact ⟨p + 2, acc ++ [(2, b1, 0, 0, 0)], by go_num, by omega, by rw [List.length_append]; simp; omega, HN.out, by rw [List.length_append, ec5_append]; exact HO4.out, HB4.out⟩
            case measure => simp [intOf]; omega
        · have hn8 : decide ((s.size : Int) < (p : Int) + 1) = false := decide_eq_false (by omega)
          have hq := HDEC.out.trans (hnx.out hb (by rw [nums_length]; show p + 1 ≤ s.size; omega))
          have hr : rdE ((nums s).drop p) = (3, 0, 0, 0, 0) := by
            unfold rdE
            rw [nth_drop (nums s) p 0, Nat.add_zero, HKK.out]
            rfl
          rw [hr] at hq
          have HN := hide hq
          clear hd hsh hnx hb hq hr
          go_wp2_with (at_builtin; refine wpList_app _ rfl _ _ 27 rfl w.heap.size 42 i0 _ 5 40 Try.underlying27 hi0 hz0 hz1 hz2 rfl (by omega) ov acc.length (ec5 acc) rfl ((hown.alloc _).alloc _) _ _ 1 1 [.int .i64 3, .int .i64 0, .int .i64 0, .int .i64 0, .int .i64 0] rfl (sees_at _ [.int .i64 3, .int .i64 0, .int .i64 0, .int .i64 0, .int .i64 0] 42 5 1 (wo.heap.size + 1) (by simp) rfl) (by simp [Value.oneCell']) (by unfold maxLen; omega) (by omega) (by have := hB.size; simp; omega) ?_; intro v1 w4 hown4 hg4)
          have HB4 := hide (((hB.alloc hB.size _).alloc (by have := hB.size; simp; omega) _).grown hg4 (by have := hB.size; simp; omega) (own_at hown))
          have HO4 := hide hown4
          clear hown hown4 hg4 hB
          go_wp2
          go_roundw
          case rel => exact ⟨p + 1, acc ++ [(3, 0, 0, 0, 0)], by go_num, by omega, by rw [List.length_append]; simp; omega, HN.out, by rw [List.length_append, ec5_append]; exact HO4.out, HB4.out⟩
          case measure => simp [intOf]; omega
    · have HN : Hid (res = (acc, 0, 0)) := HRES.out.symm.trans (HDEC.out.trans (dec_end (by rw [nums_length]; omega)))
      obtain ⟨A', c', rfl, hc'⟩ := own_form hown
      go_wp2
      go_ret3
      rw [HN.out]
      exact ⟨A', c', rfl, hc', Sees.of_own hown, hB⟩
end Go.Proofs.Ytlmkbfbiohocpaa
