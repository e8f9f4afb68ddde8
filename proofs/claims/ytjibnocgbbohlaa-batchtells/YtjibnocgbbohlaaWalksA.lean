/- Walks of the laws BatchTells, BatchJoins, BatchFolds. -/
import Derived.Test.YtjibnocgbbohlaaShown
namespace Go.Proofs.Ytjibnocgbbohlaa
open Go.RowKit

set_option maxRecDepth 100000 in
set_option maxHeartbeats 1000000 in
theorem walkTells (A : Option Addr) (cap : Nat) (l : List E3) (n : Nat) (hlen : n = l.length) (x lo hi : Int) (hx : I64 x) (hl : I64 lo) (hh : I64 hi) (hg : Good l) (w : World)
    (hs : Sees w w.heap.size 3 A n (ecells l)) :
    Calls Try.prog 3 #[.slice A n cap, .int .i64 x, .int .i64 lo, .int .i64 hi] w (BoolPost true w) := by
  have HL := hide hlen
  clear hlen
  by_cases h100 : 100 < n
  · go_enter Try.func3, Try.ntmps3
    go_wp2_with (go_at_call 10; refine (shown_any _).mono ?_; rintro e w' ⟨rfl, hb⟩)
    go_ret
    exact ⟨rfl, hb⟩
  · have hn : n ≤ 1000 := by omega
    have hn' : ¬ (100 : Int) < (n : Int) := by omega
    go_enter Try.func3, Try.ntmps3
    go_wp2_with fail
    refine (shown_any _).mono ?_
    rintro e w1 ⟨rfl, hb1⟩
    have s1 := hs.later hb1
    clear hs
    go_wp2_with fail
    refine (its_any A cap l n HL.out hn w1 s1).mono ?_
    rintro e w2 ⟨A2, c2, rfl, hc2, t2, hb2⟩
    have s2 := s1.later hb2
    have hB2 : Below w.heap.size w w2 := below_next hb1 hb1.size hb2
    clear s1 hb1 hb2
    go_wp2_with fail
    refine (all_any A cap l n HL.out hn x lo hi hx hl hh hg w2 s2).mono ?_
    rintro e w3 ⟨rfl, hb3⟩
    have s3 := s2.later hb3
    have t3 := t2.later hb3
    have hB3 : Below w.heap.size w w3 := below_next hB2 hB2.size hb3
    clear s2 t2 hB2 hb3
    go_wp2_with fail
    refine (rall_any A2 c2 l n HL.out hn x lo hi hx hl hh hg w3 t3).mono ?_
    rintro e w4 ⟨rfl, hb4⟩
    have s4 := s3.later hb4
    have t4 := t3.later hb4
    have hB4 : Below w.heap.size w w4 := below_next hB3 hB3.size hb4
    clear s3 t3 hB3 hb4
    go_wp2_with fail
    refine (priors_any A cap l n HL.out hn x lo hi hx hl hh hg w4 s4).mono ?_
    rintro e w5 ⟨A5, c5, rfl, hc5, p5, hb5⟩
    have s5 := s4.later hb5
    have t5 := t4.later hb5
    have hB5 : Below w.heap.size w w5 := below_next hB4 hB4.size hb5
    clear s4 t4 hB4 hb5
    go_wp2_with fail
    refine (rpriors_any A2 c2 l n HL.out hn x lo hi hx hl hh hg w5 t5).mono ?_
    rintro e w6 ⟨A6, c6, rfl, hc6, p6, hb6⟩
    have s6 := s5.later hb6
    have t6 := t5.later hb6
    have q6 := p5.later hb6
    have hB6 : Below w.heap.size w w6 := below_next hB5 hB5.size hb6
    clear s5 t5 p5 hB5 hb6
    go_wp2_with fail
    refine (ints_any A5 A6 c5 c6 n n (prs l x lo hi) (prs l x lo hi) hn w6 q6 p6).mono ?_
    rintro e w7 ⟨rfl, hb7⟩
    have s7 := s6.later hb7
    have t7 := t6.later hb7
    have hB7 : Below w.heap.size w w7 := below_next hB6 hB6.size hb7
    rw [show decide (prs l x lo hi = prs l x lo hi) = true from decide_eq_true rfl]
    clear s6 t6 hB6 hb7 q6 p6
    go_wp2_with fail
    refine (still_any A cap l n HL.out hn x lo hi hx hl hh hg w7 s7).mono ?_
    rintro e w8 ⟨rfl, hb8⟩
    have t8 := t7.later hb8
    have hB8 : Below w.heap.size w w8 := below_next hB7 hB7.size hb8
    clear s7 t7 hB7 hb8
    go_wp2_with fail
    refine (rstill_any A2 c2 l n HL.out hn x lo hi hx hl hh hg w8 t8).mono ?_
    rintro e w9 ⟨rfl, hb9⟩
    go_wp2
    go_ret
    exact ⟨by simp, below_next hB8 hB8.size hb9⟩
end Go.Proofs.Ytjibnocgbbohlaa
