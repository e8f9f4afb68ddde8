/- Walks of the laws BatchJoins and BatchFolds. -/
import Derived.Test.YtjibnocgbbohlaaShown
namespace Go.Proofs.Ytjibnocgbbohlaa
open Go.RowKit

def tri (a b c : Option Addr) (ca cb cc : Nat) (la lb lc : List E3) : List Bt := [⟨a, ca, la⟩, ⟨b, cb, lb⟩, ⟨c, cc, lc⟩]
theorem tri_flat (a b c : Option Addr) (ca cb cc : Nat) (la lb lc : List E3) : flat (tri a b c ca cb cc la lb lc) = la ++ (lb ++ lc) := by simp [flat, tri]
def duo (a b : Option Addr) (ca cb : Nat) (la lb : List E3) : List Bt := [⟨a, ca, la⟩, ⟨b, cb, lb⟩]
theorem duo_flat (a b : Option Addr) (ca cb : Nat) (la lb : List E3) : flat (duo a b ca cb la lb) = la ++ lb := by simp [flat, duo]

set_option maxHeartbeats 1000000 in
theorem join3 (a b c : Option Addr) (ca cb cc na nb nc : Nat) (la lb lc : List E3) (ha : na = la.length) (hb : nb = lb.length) (hc : nc = lc.length) (h1 : na ≤ 200) (h2 : nb ≤ 200) (h3 : nc ≤ 200) (w : World) (g : Nat) (hg : g = w.heap.size)
    (sa : Sees w w.heap.size 3 a na (ecells la)) (sb : Sees w w.heap.size 3 b nb (ecells lb)) (sc : Sees w w.heap.size 3 c nc (ecells lc)) :
    Calls Try.prog 20 #[.slice (some ⟨g, 0, none⟩) 3 3] (w.alloc (.cells #[.slice a na ca, .slice b nb cb, .slice c nc cc] 22)) (RowPost 3 (na + (nb + nc)) (ecells (la ++ (lb ++ lc))) w) := by
  subst ha hb hc hg
  have hB1 : Below w.heap.size w (w.alloc (.cells #[.slice a la.length ca, .slice b lb.length cb, .slice c lc.length cc] 22)) := (Below.refl _ w).alloc (Nat.le_refl _) _
  have h := join_any (some ⟨w.heap.size, 0, none⟩) 3 (tri a b c ca cb cc la lb lc) 3 rfl (by omega) (by rw [tri_flat]; simp; omega) (w.alloc (.cells #[.slice a la.length ca, .slice b lb.length cb, .slice c lc.length cc] 22))
    (sees_new w [.slice a la.length ca, .slice b lb.length cb, .slice c lc.length cc] 22 1 3 rfl)
    (by intro q hq; simp only [tri, List.mem_cons, List.not_mem_nil, or_false] at hq; rcases hq with rfl | rfl | rfl <;> first | exact sa.later hB1 | exact sb.later hB1 | exact sc.later hB1)
  rw [tri_flat, List.length_append, List.length_append] at h
  refine h.mono ?_
  rintro e w' ⟨A', c', rfl, hc', h2, h3⟩
  exact ⟨A', c', rfl, hc', h2, below_next hB1 hB1.size h3⟩

set_option maxHeartbeats 1000000 in
theorem rjoin3 (a b c : Option Addr) (ca cb cc na nb nc : Nat) (la lb lc : List E3) (ha : na = la.length) (hb : nb = lb.length) (hc : nc = lc.length) (h1 : na ≤ 200) (h2 : nb ≤ 200) (h3 : nc ≤ 200) (w : World) (g : Nat) (hg : g = w.heap.size)
    (sa : Sees w w.heap.size 3 a na (ecells la)) (sb : Sees w w.heap.size 3 b nb (ecells lb)) (sc : Sees w w.heap.size 3 c nc (ecells lc)) :
    Calls Try.prog 21 #[.slice (some ⟨g, 0, none⟩) 3 3] (w.alloc (.cells #[.slice a na ca, .slice b nb cb, .slice c nc cc] 24)) (RowPost 3 (na + (nb + nc)) (ecells (la ++ (lb ++ lc))) w) := by
  subst ha hb hc hg
  have hB1 : Below w.heap.size w (w.alloc (.cells #[.slice a la.length ca, .slice b lb.length cb, .slice c lc.length cc] 24)) := (Below.refl _ w).alloc (Nat.le_refl _) _
  have h := rjoin_any (some ⟨w.heap.size, 0, none⟩) 3 (tri a b c ca cb cc la lb lc) 3 rfl (by omega) (by rw [tri_flat]; simp; omega) (w.alloc (.cells #[.slice a la.length ca, .slice b lb.length cb, .slice c lc.length cc] 24))
    (sees_new w [.slice a la.length ca, .slice b lb.length cb, .slice c lc.length cc] 24 1 3 rfl)
    (by intro q hq; simp only [tri, List.mem_cons, List.not_mem_nil, or_false] at hq; rcases hq with rfl | rfl | rfl <;> first | exact sa.later hB1 | exact sb.later hB1 | exact sc.later hB1)
  rw [tri_flat, List.length_append, List.length_append] at h
  refine h.mono ?_
  rintro e w' ⟨A', c', rfl, hc', h2, h3⟩
  exact ⟨A', c', rfl, hc', h2, below_next hB1 hB1.size h3⟩

set_option maxHeartbeats 1000000 in
theorem join2 (a b : Option Addr) (ca cb na nb : Nat) (la lb : List E3) (ha : na = la.length) (hb : nb = lb.length) (h1 : na ≤ 200) (h2 : nb ≤ 200) (w : World) (g : Nat) (hg : g = w.heap.size)
    (sa : Sees w w.heap.size 3 a na (ecells la)) (sb : Sees w w.heap.size 3 b nb (ecells lb)) :
    Calls Try.prog 20 #[.slice (some ⟨g, 0, none⟩) 2 2] (w.alloc (.cells #[.slice a na ca, .slice b nb cb] 22)) (RowPost 3 (na + nb) (ecells (la ++ lb)) w) := by
  subst ha hb hg
  have hB1 : Below w.heap.size w (w.alloc (.cells #[.slice a la.length ca, .slice b lb.length cb] 22)) := (Below.refl _ w).alloc (Nat.le_refl _) _
  have h := join_any (some ⟨w.heap.size, 0, none⟩) 2 (duo a b ca cb la lb) 2 rfl (by omega) (by rw [duo_flat]; simp; omega) (w.alloc (.cells #[.slice a la.length ca, .slice b lb.length cb] 22))
    (sees_new w [.slice a la.length ca, .slice b lb.length cb] 22 1 2 rfl)
    (by intro q hq; simp only [duo, List.mem_cons, List.not_mem_nil, or_false] at hq; rcases hq with rfl | rfl <;> first | exact sa.later hB1 | exact sb.later hB1)
  rw [duo_flat, List.length_append] at h
  refine h.mono ?_
  rintro e w' ⟨A', c', rfl, hc', h2, h3⟩
  exact ⟨A', c', rfl, hc', h2, below_next hB1 hB1.size h3⟩

theorem join0 (w : World) : Calls Try.prog 20 #[.slice none 0 0] w (RowPost 3 0 [] w) := join_any none 0 [] 0 rfl (by omega) (by simp [flat]) w Sees.empty (by simp)

set_option maxRecDepth 100000 in
set_option maxHeartbeats 2000000 in
theorem walkJoins (a b c : Option Addr) (ca cb cc na nb nc : Nat) (la lb lc : List E3) (ha : na = la.length) (hb : nb = lb.length) (hc : nc = lc.length) (hca : na ≤ ca) (m : Int) (w : World)
    (sa : Sees w w.heap.size 3 a na (ecells la)) (sb : Sees w w.heap.size 3 b nb (ecells lb)) (sc : Sees w w.heap.size 3 c nc (ecells lc)) :
    Calls Try.prog 4 #[.slice a na ca, .slice b nb cb, .slice c nc cc, .int .i64 m] w (BoolPost true w) := by
  have HA := hide ha
  have HB := hide hb
  have HC := hide hc
  clear ha hb hc
  by_cases h1 : (50 : Int) < (na : Int)
  · go_enter Try.func4, Try.ntmps4
    go_wp2_with (go_at_call 10; refine (shown_any _).mono ?_; rintro e w' ⟨rfl, hb⟩)
    go_ret
    exact ⟨rfl, hb⟩
  by_cases h2 : (50 : Int) < (nb : Int)
  · go_enter Try.func4, Try.ntmps4
    go_wp2_with (go_at_call 10; refine (shown_any _).mono ?_; rintro e w' ⟨rfl, hb⟩)
    go_ret
    exact ⟨rfl, hb⟩
  by_cases h3 : (50 : Int) < (nc : Int)
  · go_enter Try.func4, Try.ntmps4
    go_wp2_with (go_at_call 10; refine (shown_any _).mono ?_; rintro e w' ⟨rfl, hb⟩)
    go_ret
    exact ⟨rfl, hb⟩
  go_enter Try.func4, Try.ntmps4
  go_wp2_with fail
  refine (shown_any _).mono ?_
  rintro e w1 ⟨rfl, hb1⟩
  have sa1 := sa.later hb1
  have sb1 := sb.later hb1
  have sc1 := sc.later hb1
  clear sa sb sc
  go_wp2_with fail
  refine (join3 a b c ca cb cc na nb nc la lb lc HA.out HB.out HC.out (by omega) (by omega) (by omega) w1 _ rfl sa1 sb1 sc1).mono ?_
  rintro e w2 ⟨A2, c2, rfl, hc2, j2, hb2⟩
  have sa2 := sa1.later hb2
  have sb2 := sb1.later hb2
  have sc2 := sc1.later hb2
  have hB2 : Below w.heap.size w w2 := below_next hb1 hb1.size hb2
  obtain ⟨N, hN⟩ : ∃ N, na + (nb + nc) = N := ⟨_, rfl⟩
  have hNL : N = (la ++ (lb ++ lc)).length := by rw [List.length_append, List.length_append, ← HA.out, ← HB.out, ← HC.out, hN]
  have hN1 : N ≤ 150 := by omega
  rw [hN] at j2 ⊢
  have HN := hide hN
  have HNL := hide hNL
  clear hN hNL sa1 sb1 sc1 hb1 hb2 hc2
  go_wp2_with fail
  refine (its_any A2 c2 (la ++ (lb ++ lc)) N HNL.out (by omega) w2 j2).mono ?_
  rintro e w3 ⟨A3, c3, rfl, hc3, j3, hb3⟩
  have sa3 := sa2.later hb3
  have sb3 := sb2.later hb3
  have sc3 := sc2.later hb3
  have hB3 : Below w.heap.size w w3 := below_next hB2 hB2.size hb3
  clear sa2 sb2 sc2 j2 hB2 hb3
  go_wp2_with fail
  refine (its_any a ca la na HA.out (by omega) w3 sa3).mono ?_
  rintro e w4 ⟨A4, c4, rfl, hc4, ra4, hb4⟩
  have sa4 := sa3.later hb4
  have sb4 := sb3.later hb4
  have sc4 := sc3.later hb4
  have j4 := j3.later hb4
  have hB4 : Below w.heap.size w w4 := below_next hB3 hB3.size hb4
  clear sa3 sb3 sc3 j3 hB3 hb4
  go_wp2_with fail
  refine (its_any b cb lb nb HB.out (by omega) w4 sb4).mono ?_
  rintro e w5 ⟨A5, c5, rfl, hc5, rb5, hb5⟩
  have sa5 := sa4.later hb5
  have sc5 := sc4.later hb5
  have j5 := j4.later hb5
  have ra5 := ra4.later hb5
  have hB5 : Below w.heap.size w w5 := below_next hB4 hB4.size hb5
  clear sa4 sb4 sc4 j4 ra4 hB4 hb5
  go_wp2_with fail
  refine (its_any c cc lc nc HC.out (by omega) w5 sc5).mono ?_
  rintro e w6 ⟨A6, c6, rfl, hc6, rc6, hb6⟩
  have sa6 := sa5.later hb6
  have j6 := j5.later hb6
  have ra6 := ra5.later hb6
  have rb6 := rb5.later hb6
  have hB6 : Below w.heap.size w w6 := below_next hB5 hB5.size hb6
  clear sa5 sc5 j5 ra5 rb5 hB5 hb6
  go_wp2_with fail
  refine (rjoin3 A4 A5 A6 c4 c5 c6 na nb nc la lb lc HA.out HB.out HC.out (by omega) (by omega) (by omega) w6 _ rfl ra6 rb6 rc6).mono ?_
  rintro e w7 ⟨A7, c7, rfl, hc7, k7, hb7⟩
  rw [HN.out] at k7 ⊢
  have sa7 := sa6.later hb7
  have j7 := j6.later hb7
  have hB7 : Below w.heap.size w w7 := below_next hB6 hB6.size hb7
  clear sa6 j6 ra6 rb6 rc6 hB6 hb7
  go_wp2_with fail
  refine (same_any A3 A7 c3 c7 N N _ _ HNL.out HNL.out (by omega) w7 j7 k7).mono ?_
  rintro e w8 ⟨rfl, hb8⟩
  rw [show decide (la ++ (lb ++ lc) = la ++ (lb ++ lc)) = true from decide_eq_true rfl]
  have sa8 := sa7.later hb8
  have hB8 : Below w.heap.size w w8 := below_next hB7 hB7.size hb8
  clear sa7 j7 k7 hB7 hb8
  go_wp2_with fail
  refine (upto_any a ca la na HA.out (by omega) hca m w8 sa8).mono ?_
  rintro e w9 ⟨A9, c9, rfl, hc9, u9, hb9⟩
  have sa9 := sa8.later hb9
  have hB9 : Below w.heap.size w w9 := below_next hB8 hB8.size hb9
  obtain ⟨M, hM⟩ : ∃ M, upN m na = M := ⟨_, rfl⟩
  have hM1 : M ≤ na := by rw [← hM]; unfold upN; omega
  have hML : M = (la.take M).length := by rw [List.length_take, ← HA.out]; omega
  rw [hM] at u9 ⊢
  have HM := hide hM
  have HML := hide hML
  clear hM hML sa8 hB8 hb9 hc9
  go_wp2_with fail
  refine (its_any A9 c9 (la.take M) M HML.out (by omega) w9 u9).mono ?_
  rintro e w10 ⟨A10, c10, rfl, hc10, u10, hb10⟩
  have sa10 := sa9.later hb10
  have hB10 : Below w.heap.size w w10 := below_next hB9 hB9.size hb10
  clear sa9 u9 hB9 hb10
  go_wp2_with fail
  refine (its_any a ca la na HA.out (by omega) w10 sa10).mono ?_
  rintro e w11 ⟨A11, c11, rfl, hc11, ra11, hb11⟩
  have u11 := u10.later hb11
  have hB11 : Below w.heap.size w w11 := below_next hB10 hB10.size hb11
  clear sa10 u10 hB10 hb11
  go_wp2_with fail
  refine (rupto_any A11 c11 la na HA.out (by omega) m w11 ra11).mono ?_
  rintro e w12 ⟨A12, c12, rfl, hc12, v12, hb12⟩
  rw [HM.out] at v12 ⊢
  have u12 := u11.later hb12
  have hB12 : Below w.heap.size w w12 := below_next hB11 hB11.size hb12
  clear u11 hB11 hb12 ra11 hc12
  go_wp2_with fail
  refine (same_any A10 A12 c10 c12 M M _ _ HML.out HML.out (by omega) w12 u12 v12).mono ?_
  rintro e w13 ⟨rfl, hb13⟩
  rw [show decide (la.take M = la.take M) = true from decide_eq_true rfl]
  have hB13 : Below w.heap.size w w13 := below_next hB12 hB12.size hb13
  clear u12 v12 hB12 hb13
  go_wp2_with fail
  refine (join0 w13).mono ?_
  rintro e w14 ⟨A14, c14, rfl, hc14, v14, hb14⟩
  go_wp2
  go_ret
  exact ⟨rfl, below_next hB13 hB13.size hb14⟩
end Go.Proofs.Ytjibnocgbbohlaa
