/- Walk of the law BatchMeets. -/
import Derived.Test.YtjibnocgbbohlaaWalksE
namespace Go.Proofs.Ytjibnocgbbohlaa
open Go.RowKit

def metA (l : List Int) (j : Nat) : List E3 := mkE (fun i => (i : Int)) (nth l) 1 j
def metB (l : List Int) (j : Nat) : List E3 := mkE (fun i => (i : Int)) (nth l) 2 j
def metC (m : Int) (l : List Int) (j : Nat) : List E3 := mkE (fun _ => m) (nth l) 1 j

set_option maxRecDepth 100000 in
set_option maxHeartbeats 4000000 in
theorem walkMeets (A : Option Addr) (cap : Nat) (l : List Int) (n : Nat) (hlen : n = l.length) (hg : ∀ v ∈ l, I64 v) (x : Int) (hx : I64 x) (m : Int) (hm0 : 0 ≤ m) (hm1 : m ≤ 255) (w : World)
    (hs : Sees w w.heap.size 1 A n (l.map (Value.int .i64))) :
    Calls Try.prog 9 #[.slice A n cap, .int .i64 x, .int .u8 m] w (BoolPost true w) := by
  obtain ⟨i0, hi0, hz0, hz1, hz2⟩ := info_parts info48
  have HL := hide hlen
  clear hlen
  by_cases h50 : (50 : Int) < (n : Int)
  · go_enter Try.func9, Try.ntmps9
    go_wp2_with (go_at_call 10; refine (shown_any _).mono ?_; rintro e w' ⟨rfl, hb⟩)
    go_ret
    exact ⟨rfl, hb⟩
  have hn : n ≤ 50 := by omega
  go_enter Try.func9, Try.ntmps9
  go_wp2_with fail
  refine (shown_any _).mono ?_
  rintro e w1 ⟨rfl, hb1⟩
  have s1 := hs.later hb1
  clear hs
  go_wp2_with fail
  go_loopw [7, 8, 9, 10] (fun a b c i wr => ∃ j : Nat, j ≤ n ∧ i = .int .i64 j ∧ wr.ownsRow w1.heap.size 48 3 a j (ecells (metA l j)) ∧ wr.ownsRow w1.heap.size 48 3 b j (ecells (metB l j)) ∧ wr.ownsRow w1.heap.size 48 3 c j (ecells (metC m l j)) ∧
      a.ownBlock ≠ b.ownBlock ∧ a.ownBlock ≠ c.ownBlock ∧ b.ownBlock ≠ c.ownBlock ∧ Below w1.heap.size w1 wr)
    (fun _ _ _ i _ => n - (intOf i).toNat)
  case atStart =>
    refine ⟨0, Nat.zero_le _, rfl, ((own_empty_at _ _ _ _ _ ?_ ?_).alloc _).alloc _, (own_empty_at _ _ _ _ _ ?_ ?_).alloc _, own_empty_at _ _ _ _ _ ?_ ?_, ?_, ?_, ?_, (((Below.refl _ _).alloc (Nat.le_refl _) _).alloc ?_ _).alloc ?_ _⟩
    · rfl
    · simp
    · simp
    · simp
    · simp
    · simp; omega
    · simp [Value.ownBlock]
    · simp [Value.ownBlock]; omega
    · simp [Value.ownBlock]
    · simp
    · simp; omega
  case round =>
    obtain ⟨j, hj, rfl, ho1, ho2, ho3, hab, hac, hbc, hB⟩ := hrel
    have hbs := hB.size
    by_cases hlt : j < n
    · obtain ⟨b, off, rfl, hb, hc⟩ := num_nth s1 hlt
      have hcr : wr.cell? ⟨b, off + j, none⟩ = some (.int .i64 (nth l j)) := (hB.cell (p := ⟨b, off + j, none⟩) hb).trans hc
      have HC' := hide hc
      clear hc
      go_wp2_with (first
        | (at_builtin; refine wpList_append_own_at _ rfl (.tmp 28) (.tmp 36) 22 rfl w1.heap.size 48 i0 _ 3 24 Try.underlying22 hi0 hz0 hz1 hz2 rfl (by omega) _ j _ rfl (ho1.alloc _) ⟨wr.heap.size, 0, none⟩ 1 1 (ecells [((j : Int), 1, nth l j)]) rfl rfl (World.news_of_block (cs := #[.int .i64 ((j : Int)), .int .i64 1, .int .i64 (nth l j)]) (t := 48) (fr := (0, 0)) (heap_alloc_new wr _)) (ecells_one _) (by unfold maxLen; omega) (by omega) (by simp; omega) ?_; intro v2 w2 ow2 hg2 _ hat2; obtain ⟨ob2, nba2⟩ := row_kept ho2 hg2 (Ne.symm hab) hat2; obtain ⟨oc2, nca2⟩ := row_kept ho3 hg2 (Ne.symm hac) hat2; have hB2 : Below w1.heap.size w1 w2 := (hB.alloc hB.size _).grown hg2 (by simp; omega) (own_at ho1); have hbs2 := hB2.size; have hc2 : w2.cell? ⟨b, off + j, none⟩ = some (.int .i64 (nth l j)) := (hB2.cell (p := ⟨b, off + j, none⟩) hb).trans HC'.out)
        | (at_builtin; refine wpList_append_own_at _ rfl (.tmp 38) (.tmp 47) 22 rfl w1.heap.size 48 i0 _ 3 24 Try.underlying22 hi0 hz0 hz1 hz2 rfl (by omega) _ j _ rfl (oc2.alloc _) ⟨w2.heap.size, 0, none⟩ 1 1 (ecells [(m, 1, nth l j)]) rfl rfl (World.news_of_block (cs := #[.int .i64 (m), .int .i64 1, .int .i64 (nth l j)]) (t := 48) (fr := (0, 0)) (heap_alloc_new w2 _)) (ecells_one _) (by unfold maxLen; omega) (by omega) (by simp; omega) ?_; intro v3 w3 oc3 hg3 _ hat3; obtain ⟨oa3, nac3⟩ := row_kept ow2 hg3 (Ne.symm nca2) hat3; obtain ⟨ob3, nbc3⟩ := row_kept ob2 hg3 hbc hat3; have hB3 : Below w1.heap.size w1 w3 := (hB2.alloc hB2.size _).grown hg3 (by simp; omega) (own_at oc2); have hbs3 := hB3.size; have hc3 : w3.cell? ⟨b, off + j, none⟩ = some (.int .i64 (nth l j)) := (hB3.cell (p := ⟨b, off + j, none⟩) hb).trans HC'.out)
        | (at_builtin; refine wpList_append_own_at _ rfl (.tmp 49) (.tmp 57) 22 rfl w1.heap.size 48 i0 _ 3 24 Try.underlying22 hi0 hz0 hz1 hz2 rfl (by omega) _ j _ rfl (ob3.alloc _) ⟨w3.heap.size, 0, none⟩ 1 1 (ecells [((j : Int), 2, nth l j)]) rfl rfl (World.news_of_block (cs := #[.int .i64 ((j : Int)), .int .i64 2, .int .i64 (nth l j)]) (t := 48) (fr := (0, 0)) (heap_alloc_new w3 _)) (ecells_one _) (by unfold maxLen; omega) (by omega) (by simp; omega) ?_; intro v4 w4 ob4 hg4 _ hat4; obtain ⟨oa4, nab4⟩ := row_kept oa3 hg4 (Ne.symm nba2) hat4; obtain ⟨oc4, ncb4⟩ := row_kept oc3 hg4 (Ne.symm nbc3) hat4; have hB4 : Below w1.heap.size w1 w4 := (hB3.alloc hB3.size _).grown hg4 (by simp; omega) (own_at ob3)))
      go_roundw
      case rel => exact ⟨j + 1, by omega, by go_num, by rw [metA, mkE_succ, ecells_append]; exact oa4, by rw [metB, mkE_succ, ecells_append]; exact ob4, by rw [metC, mkE_succ, ecells_append]; exact oc4, nab4, nac3, Ne.symm ncb4, hB4⟩
      case measure => simp [intOf]; omega
    · obtain rfl : j = n := by omega
      obtain ⟨A1, c1, rfl, _⟩ := own_form ho1
      obtain ⟨A2, c2, rfl, _⟩ := own_form ho2
      obtain ⟨A3, c3, rfl, _⟩ := own_form ho3
      have r1 := Sees.of_own ho1
      have r2 := Sees.of_own ho2
      have r3 := Sees.of_own ho3
      have hB1 : Below w.heap.size w wr := below_next hb1 hb1.size hB
      have g1 : Good (metA l j) := mkE_good fun i _ => nth_i64 hg i
      have g2 : Good (metB l j) := mkE_good fun i _ => nth_i64 hg i
      have g3 : Good (metC m l j) := mkE_good fun i _ => nth_i64 hg i
      have L1 := hide (show j = (metA l j).length from (mkE_length _ _ _ _).symm)
      have L2 := hide (show j = (metB l j).length from (mkE_length _ _ _ _).symm)
      have L3 := hide (show j = (metC m l j).length from (mkE_length _ _ _ _).symm)
      have HM := hide (show allV (metA l j ++ metB l j) x 0 0 = x ∧ allV (metB l j ++ metA l j) x 0 0 = x by rw [HL.out]; exact meet_is _ _ l x hx)
      have HO := hide (show allV (metA l j) x 0 0 = allV (metC m l j) x 0 0 by rw [HL.out]; exact (adds_is _ l x hx).trans (adds_is _ l x hx).symm)
      clear ho1 ho2 ho3 hab hac hbc hg hB hb1 s1
      have i0' : I64 0 := i64_lit (by omega)
      go_wp2_with fail
      refine (join2 A1 A2 c1 c2 j j (metA l j) (metB l j) L1.out L2.out (by omega) (by omega) wr _ rfl r1 r2).mono ?_
      rintro e w2 ⟨A4, c4, rfl, hc4, j4, hb2⟩
      have q1 := r1.later hb2
      have q2 := r2.later hb2
      have q3 := r3.later hb2
      have hB2 : Below w.heap.size w w2 := below_next hB1 hB1.size hb2
      have L4 := hide (show j + j = (metA l j ++ metB l j).length by rw [List.length_append, ← L1.out, ← L2.out])
      have L5 := hide (show j + j = (metB l j ++ metA l j).length by rw [List.length_append, ← L1.out, ← L2.out])
      clear r1 r2 r3 hB1 hb2 hc4
      go_wp2_with fail
      refine (still_any A4 c4 _ (j + j) L4.out (by omega) x 0 0 hx i0' i0' (g1.append g2) w2 j4).mono ?_
      rintro e w3 ⟨rfl, hb3⟩
      rw [HM.out.1, show (x == x) = true from beq_self_eq_true x]
      have p1 := q1.later hb3
      have p2 := q2.later hb3
      have p3 := q3.later hb3
      have hB3 : Below w.heap.size w w3 := below_next hB2 hB2.size hb3
      clear q1 q2 q3 hB2 hb3 j4
      go_wp2_with fail
      refine (join2 A2 A1 c2 c1 j j (metB l j) (metA l j) L2.out L1.out (by omega) (by omega) w3 _ rfl p2 p1).mono ?_
      rintro e w4 ⟨A5, c5, rfl, hc5, j5, hb4⟩
      have o1 := p1.later hb4
      have o3 := p3.later hb4
      have hB4 : Below w.heap.size w w4 := below_next hB3 hB3.size hb4
      clear p1 p2 p3 hB3 hb4 hc5
      go_wp2_with fail
      refine (still_any A5 c5 _ (j + j) L5.out (by omega) x 0 0 hx i0' i0' (g2.append g1) w4 j5).mono ?_
      rintro e w5 ⟨rfl, hb5⟩
      rw [HM.out.2, show (x == x) = true from beq_self_eq_true x]
      have n1 := o1.later hb5
      have n3 := o3.later hb5
      have hB5 : Below w.heap.size w w5 := below_next hB4 hB4.size hb5
      clear o1 o3 hB4 hb5 j5
      go_wp2_with fail
      refine (all_any A1 c1 _ j L1.out (by omega) x 0 0 hx i0' i0' g1 w5 n1).mono ?_
      rintro e w6 ⟨rfl, hb6⟩
      rw [HO.out]
      have k3 := n3.later hb6
      have hB6 : Below w.heap.size w w6 := below_next hB5 hB5.size hb6
      clear n1 n3 hB5 hb6
      go_wp2_with fail
      refine (all_any A3 c3 _ j L3.out (by omega) x 0 0 hx i0' i0' g3 w6 k3).mono ?_
      rintro e w7 ⟨rfl, hb7⟩
      go_wp2
      go_ret
      exact ⟨by simp, below_next hB6 hB6.size hb7⟩
end Go.Proofs.Ytjibnocgbbohlaa
