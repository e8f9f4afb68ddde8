/- Walks of the laws BatchFolds and BatchUpto. -/
import Derived.Test.YtjibnocgbbohlaaWalksB
namespace Go.Proofs.Ytjibnocgbbohlaa
open Go.RowKit

set_option maxRecDepth 100000 in
set_option maxHeartbeats 2000000 in
theorem walkFolds (a b : Option Addr) (ca cb na nb : Nat) (la lb : List E3) (ha : na = la.length) (hb : nb = lb.length) (ga : Good la) (gb : Good lb) (x lo hi : Int) (hx : I64 x) (hl : I64 lo) (hh : I64 hi) (w : World)
    (sa : Sees w w.heap.size 3 a na (ecells la)) (sb : Sees w w.heap.size 3 b nb (ecells lb)) :
    Calls Try.prog 5 #[.slice a na ca, .slice b nb cb, .int .i64 x, .int .i64 lo, .int .i64 hi] w (BoolPost true w) := by
  obtain ⟨i0, hi0, hz0, hz1, hz2⟩ := info_parts info3
  have HA := hide ha
  have HB := hide hb
  clear ha hb
  by_cases h1 : (50 : Int) < (na : Int)
  · go_enter Try.func5, Try.ntmps5
    go_wp2_with (go_at_call 10; refine (shown_any _).mono ?_; rintro e w' ⟨rfl, hb⟩)
    go_ret
    exact ⟨rfl, hb⟩
  by_cases h2 : (50 : Int) < (nb : Int)
  · go_enter Try.func5, Try.ntmps5
    go_wp2_with (go_at_call 10; refine (shown_any _).mono ?_; rintro e w' ⟨rfl, hb⟩)
    go_ret
    exact ⟨rfl, hb⟩
  go_enter Try.func5, Try.ntmps5
  go_wp2_with fail
  refine (shown_any _).mono ?_
  rintro e w1 ⟨rfl, hb1⟩
  have sa1 := sa.later hb1
  have sb1 := sb.later hb1
  clear sa sb
  go_wp2_with fail
  refine (all_any a ca la na HA.out (by omega) x lo hi hx hl hh ga w1 sa1).mono ?_
  rintro e w2 ⟨rfl, hb2⟩
  have sa2 := sa1.later hb2
  have sb2 := sb1.later hb2
  have hB2 : Below w.heap.size w w2 := below_next hb1 hb1.size hb2
  have hy0 : I64 (allV la x lo hi) := allV_i64 ga hx hl hh
  obtain ⟨y, hy⟩ : ∃ y, allV la x lo hi = y := ⟨_, rfl⟩
  rw [hy] at hy0 ⊢
  have HY := hide hy
  clear hy sa1 sb1 hb1 hb2
  go_wp2_with fail
  have hB3 : Below w2.heap.size w2 (w2.alloc (.cells #[] 3)) := (Below.refl _ _).alloc (Nat.le_refl _) _
  have own3 := own_empty w2 w2.heap.size 3 1 (Nat.le_refl _)
  have sa3 := sa2.later hB3
  have sb3 := sb2.later hB3
  refine (priors_any a ca la na HA.out (by omega) x lo hi hx hl hh ga _ sa3).mono ?_
  rintro e w4 ⟨A4, c4, rfl, hc4, p4, hb4⟩
  have own4 := own_below own3 hb4
  have sa4 := sa3.later hb4
  have sb4 := sb3.later hb4
  have hB4 : Below w2.heap.size w2 w4 := below_next hB3 hB3.size hb4
  clear own3 sa3 sb3 hB3 hb4 hc4
  go_wp2_with (first
    | (at_builtin; refine wpList_app _ rfl (.tmp 32) (.tmp 37) 29 rfl w2.heap.size 3 i0 _ 1 8 Try.underlying29 hi0 hz0 hz1 hz2 rfl (by omega) _ 0 [] rfl own4 w4.heap.size A4 na c4 ((prs la x lo hi).map (Value.int .i64)) rfl p4 (ints_oneCell _ _) (by unfold maxLen; omega) (by omega) hB4.size ?_; intro v5 w5 own5 hg5)
    | fail)
  have hB5 : Below w2.heap.size w2 w5 := hB4.grown hg5 hB4.size (own_at own4)
  have sa5 := sa2.later hB5
  have sb5 := sb2.later hB5
  clear own4 sa4 sb4 hB4 hg5 p4
  refine (priors_any b cb lb nb HB.out (by omega) y lo hi hy0 hl hh gb w5 sb5).mono ?_
  rintro e w6 ⟨A6, c6, rfl, hc6, p6, hb6⟩
  have own6 := own_below own5 hb6
  have hB6 : Below w2.heap.size w2 w6 := below_next hB5 hB5.size hb6
  clear own5 sa5 sb5 hB5 hb6 hc6
  go_wp2_with (first
    | (at_builtin; refine wpList_app _ rfl (.tmp 38) (.tmp 43) 29 rfl w2.heap.size 3 i0 _ 1 8 Try.underlying29 hi0 hz0 hz1 hz2 rfl (by omega) _ (0 + na) ([] ++ (prs la x lo hi).map (Value.int .i64)) rfl own6 w6.heap.size A6 nb c6 ((prs lb y lo hi).map (Value.int .i64)) rfl p6 (ints_oneCell _ _) (by unfold maxLen; omega) (by omega) hB6.size ?_; intro v7 w7 own7 hg7; have hB7 : Below w2.heap.size w2 w7 := hB6.grown hg7 hB6.size (own_at own6))
    | fail)
  have sa7 := sa2.later hB7
  have sb7 := sb2.later hB7
  have hW7 : Below w.heap.size w w7 := below_next hB2 hB2.size hB7
  obtain ⟨A7, c7, rfl, hc7⟩ := own_form own7
  have r7 := Sees.of_own own7
  rw [Nat.zero_add, List.nil_append, ← List.map_append] at r7
  rw [Nat.zero_add]
  clear own7 own6 hB6 hg7 hB7 p6 sa2 sb2 hB2 hc7
  refine (join2 a b ca cb na nb la lb HA.out HB.out (by omega) (by omega) w7 _ rfl sa7 sb7).mono ?_
  rintro e w8 ⟨A8, c8, rfl, hc8, j8, hb8⟩
  have sb8 := sb7.later hb8
  have r8 := r7.later hb8
  have hW8 : Below w.heap.size w w8 := below_next hW7 hW7.size hb8
  obtain ⟨N, hN⟩ : ∃ N, na + nb = N := ⟨_, rfl⟩
  have hNL : N = (la ++ lb).length := by rw [List.length_append, ← HA.out, ← HB.out, hN]
  have hN1 : N ≤ 150 := by omega
  rw [hN] at j8 r8 ⊢
  have HN := hide hN
  have HNL := hide hNL
  clear hN hNL sa7 sb7 r7 hW7 hb8 hc8
  go_wp2_with fail
  refine (all_any A8 c8 (la ++ lb) N HNL.out (by omega) x lo hi hx hl hh (ga.append gb) w8 j8).mono ?_
  rintro e w9 ⟨rfl, hb9⟩
  rw [show allV (la ++ lb) x lo hi = allV lb y lo hi by rw [allV_append, HY.out]]
  have sb9 := sb8.later hb9
  have r9 := r8.later hb9
  have j9 := j8.later hb9
  have hW9 : Below w.heap.size w w9 := below_next hW8 hW8.size hb9
  clear sb8 r8 j8 hW8 hb9
  go_wp2_with fail
  refine (all_any b cb lb nb HB.out (by omega) y lo hi hy0 hl hh gb w9 sb9).mono ?_
  rintro e w10 ⟨rfl, hb10⟩
  have r10 := r9.later hb10
  have j10 := j9.later hb10
  have hW10 : Below w.heap.size w w10 := below_next hW9 hW9.size hb10
  clear sb9 r9 j9 hW9 hb10
  go_wp2_with fail
  refine (priors_any A8 c8 (la ++ lb) N HNL.out (by omega) x lo hi hx hl hh (ga.append gb) w10 j10).mono ?_
  rintro e w11 ⟨A11, c11, rfl, hc11, p11, hb11⟩
  have r11 := r10.later hb11
  have hW11 : Below w.heap.size w w11 := below_next hW10 hW10.size hb11
  clear r10 j10 hW10 hb11
  go_wp2_with fail
  refine (ints_any A11 A7 c11 c7 N N _ _ (by omega) w11 p11 r11).mono ?_
  rintro e w12 ⟨rfl, hb12⟩
  rw [show decide (prs (la ++ lb) x lo hi = prs la x lo hi ++ prs lb y lo hi) = true from decide_eq_true (by rw [prs_append, HY.out])]
  go_wp2
  go_ret
  exact ⟨by simp, below_next hW11 hW11.size hb12⟩
end Go.Proofs.Ytjibnocgbbohlaa
