/- The anchor 'shown': it returns true. -/
import Derived.Test.YtjibnocgbbohlaaSame
namespace Go.Proofs.Ytjibnocgbbohlaa
open Go.RowKit

def shl : List E3 := [(1, 1, 3), (0, 2, 3), (2, 7, 9)]
theorem i64_lit {x : Int} (h : -1000 ≤ x ∧ x ≤ 1000) : I64 x := by unfold I64; omega
theorem shl_good : Good shl := by
  intro e he
  simp [shl] at he
  rcases he with rfl | rfl | rfl <;> exact i64_lit (by simp)
theorem shl_all : allV shl 5 0 0 = 9 := by simp [allV, shl, stp, apV, wrap64]
theorem shl_prs : prs shl 5 0 0 = [5, 8, 5] := by simp [prs, shl, stp, apV, wrap64]
theorem shl_two : shl.take (upN 2 3) = [(1, 1, 3), (0, 2, 3)] := rfl
theorem shl_still : allV [(1, 1, 3), (0, 2, 3)] 5 0 0 = 5 := by simp [allV, stp, apV, wrap64]

def shBs (n : Nat) : List Bt := [⟨some ⟨n, 0, none⟩, 1, [(1, 1, 3)]⟩, ⟨none, 0, []⟩, ⟨some ⟨n + 1, 0, none⟩, 2, [(0, 2, 3), (2, 7, 9)]⟩]

set_option maxRecDepth 100000 in
set_option maxHeartbeats 1000000 in
theorem shown_any (w : World) : Calls Try.prog 10 #[] w (BoolPost true w) := by
  go_enter Try.func10, Try.ntmps10
  go_wp2_with fail
  have hB0 : Below w.heap.size w (((w.alloc (.cells #[.int .i64 1, .int .i64 1, .int .i64 3] 48)).alloc (.cells #[.int .i64 0, .int .i64 2, .int .i64 3, .int .i64 2, .int .i64 7, .int .i64 9] 48)).alloc (.cells #[.slice (some ⟨w.heap.size, 0, none⟩) 1 1, .slice none 0 0, .slice (some ⟨w.heap.size + 1, 0, none⟩) 2 2] 22)) :=
    (((Below.refl _ w).alloc (Nat.le_refl _) _).alloc (by simp) _).alloc (by simp; omega) _
  refine (join_any (some ⟨w.heap.size + 1 + 1, 0, none⟩) 3 (shBs w.heap.size) 3 rfl (by omega) (by simp [flat, shBs]) (((w.alloc (.cells #[.int .i64 1, .int .i64 1, .int .i64 3] 48)).alloc (.cells #[.int .i64 0, .int .i64 2, .int .i64 3, .int .i64 2, .int .i64 7, .int .i64 9] 48)).alloc (.cells #[.slice (some ⟨w.heap.size, 0, none⟩) 1 1, .slice none 0 0, .slice (some ⟨w.heap.size + 1, 0, none⟩) 2 2] 22)) ?c1 ?c2).mono ?_
  case c1 =>
    have := sees_new ((w.alloc (.cells #[.int .i64 1, .int .i64 1, .int .i64 3] 48)).alloc (.cells #[.int .i64 0, .int .i64 2, .int .i64 3, .int .i64 2, .int .i64 7, .int .i64 9] 48)) [.slice (some ⟨w.heap.size, 0, none⟩) 1 1, .slice none 0 0, .slice (some ⟨w.heap.size + 1, 0, none⟩) 2 2] 22 1 3 rfl
    simpa [shBs, Bt.val] using this
  case c2 =>
    intro q hq
    simp [shBs] at hq
    rcases hq with rfl | rfl | rfl
    · exact ((sees_new w (ecells [(1, 1, 3)]) 48 3 1 rfl).later ((Below.refl _ _).alloc (Nat.le_refl _) _)).later ((Below.refl _ _).alloc (Nat.le_refl _) _)
    · exact Sees.empty
    · have h0 := sees_new (w.alloc (.cells #[.int .i64 1, .int .i64 1, .int .i64 3] 48)) (ecells [(0, 2, 3), (2, 7, 9)]) 48 3 2 rfl
      rw [show (w.alloc (.cells #[.int .i64 1, .int .i64 1, .int .i64 3] 48)).heap.size = w.heap.size + 1 from World.size_alloc _ _] at h0
      exact h0.later ((Below.refl _ _).alloc (Nat.le_refl _) (.cells #[.slice (some ⟨w.heap.size, 0, none⟩) 1 1, .slice none 0 0, .slice (some ⟨w.heap.size + 1, 0, none⟩) 2 2] 22))
  rintro e w1 ⟨A1, c1, rfl, hc1, hs1, hb1⟩
  have hs1' : Sees w1 w1.heap.size 3 A1 3 (ecells shl) := hs1
  have hc1' : 3 ≤ c1 := hc1
  have hB1 : Below w.heap.size w w1 := below_next hB0 hB0.size hb1
  rw [show (flat (shBs w.heap.size)).length = 3 from rfl]
  clear hs1 hc1 hb1 hB0
  go_wp2_with fail
  refine (priors_any A1 c1 shl 3 rfl (by omega) 5 0 0 (i64_lit (by omega)) (i64_lit (by omega)) (i64_lit (by omega)) shl_good w1 hs1').mono ?_
  rintro e w2 ⟨A2, c2, rfl, hc2, hs2, hb2⟩
  rw [shl_prs] at hs2
  obtain ⟨b, off, rfl, hb, hcell⟩ := hs2.2 (by omega)
  have p0 : w2.cell? ⟨b, off + 0, none⟩ = some (.int .i64 5) := hcell 0 _ rfl
  have p1 : w2.cell? ⟨b, off + 1, none⟩ = some (.int .i64 8) := hcell 1 _ rfl
  have p2 : w2.cell? ⟨b, off + 2, none⟩ = some (.int .i64 5) := hcell 2 _ rfl
  rw [Nat.add_zero] at p0
  have hs3 := hs1'.later hb2
  have hB2 : Below w.heap.size w w2 := below_next hB1 hB1.size hb2
  clear hcell hs2 hb2 hs1'
  go_wp2_with fail
  refine (all_any A1 c1 shl 3 rfl (by omega) 5 0 0 (i64_lit (by omega)) (i64_lit (by omega)) (i64_lit (by omega)) shl_good w2 hs3).mono ?_
  rintro e w3 ⟨rfl, hb3⟩
  rw [shl_all]
  have hs4 := hs3.later hb3
  have hB3 : Below w.heap.size w w3 := below_next hB2 hB2.size hb3
  clear hs3 hb3
  go_wp2_with fail
  refine (upto_any A1 c1 shl 3 rfl (by omega) hc1' 2 w3 hs4).mono ?_
  rintro e w4 ⟨A4, c4, rfl, hc4, hs5, hb4⟩
  rw [shl_two] at hs5
  rw [show upN 2 3 = 2 from rfl] at hs5 ⊢
  have hB4 : Below w.heap.size w w4 := below_next hB3 hB3.size hb4
  clear hb4 hs4 hc4
  go_wp2_with fail
  refine (still_any A4 c4 [(1, 1, 3), (0, 2, 3)] 2 rfl (by omega) 5 0 0 (i64_lit (by omega)) (i64_lit (by omega)) (i64_lit (by omega)) (fun e he => shl_good e (by simp [shl] at he ⊢; rcases he with h | h <;> simp [h])) w4 hs5).mono ?_
  rintro e w5 ⟨rfl, hb5⟩
  rw [shl_still]
  go_wp2
  go_ret
  exact ⟨rfl, below_next hB4 hB4.size hb5⟩
end Go.Proofs.Ytjibnocgbbohlaa
