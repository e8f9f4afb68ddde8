/- Walk of the law BatchOrder. -/
import Derived.Test.YtjibnocgbbohlaaWalksB
import Derived.Test.YtjibnocgbbohlaaRows2
namespace Go.Proofs.Ytjibnocgbbohlaa
open Go.RowKit

theorem num_nth {w : World} {B : Nat} {A : Option Addr} {n : Nat} {l : List Int} (h : Sees w B 1 A n (l.map (Value.int .i64))) {k : Nat} (hk : k < n) :
    ∃ (b off : Nat), A = some ⟨b, off, none⟩ ∧ b < B ∧ w.cell? ⟨b, off + k, none⟩ = some (.int .i64 (nth l k)) := by
  obtain ⟨b, off, v, e, hb, hv, hc⟩ := h.num hk
  exact ⟨b, off, e, hb, by rw [hc]; simp [nth, hv]⟩

theorem own_empty_at (w : World) (B g : Nat) (e : TypeId) (sz : Nat) (hg : g = w.heap.size) (hB : B ≤ w.heap.size) : (w.alloc (.cells #[] e)).ownsRow B e sz (.slice (some ⟨g, 0, none⟩) 0 0) 0 [] := by
  subst hg
  exact own_empty w B e sz hB

def ordA (l : List Int) (T : Int) (j : Nat) : List E3 := mkE (fun i => (i : Int)) (nth l) T j
def ordB (l : List Int) (n : Nat) (T : Int) (j : Nat) : List E3 := mkE (fun i => (i : Int)) (fun i => nth l (n - 1 - i)) T j

set_option maxRecDepth 100000 in
set_option maxHeartbeats 4000000 in
theorem walkOrder (m : Int) (hm0 : 0 ≤ m) (hm1 : m ≤ 255) (A : Option Addr) (cap : Nat) (l : List Int) (n : Nat) (hlen : n = l.length) (hg : ∀ v ∈ l, I64 v) (x : Int) (hx : I64 x) (w : World)
    (hs : Sees w w.heap.size 1 A n (l.map (Value.int .i64))) :
    Calls Try.prog 8 #[.int .u8 m, .slice A n cap, .int .i64 x] w (BoolPost true w) := by
  obtain ⟨i0, hi0, hz0, hz1, hz2⟩ := info_parts info48
  have HL := hide hlen
  clear hlen
  by_cases h50 : (50 : Int) < (n : Int)
  · go_enter Try.func8, Try.ntmps8
    go_wp2_with (go_at_call 10; refine (shown_any _).mono ?_; rintro e w' ⟨rfl, hb⟩)
    go_ret
    exact ⟨rfl, hb⟩
  have h3 : m % 3 = 0 ∨ m % 3 = 1 ∨ m % 3 = 2 := by omega
  have hn : n ≤ 50 := by omega
  rcases h3 with h3 | h3 | h3
  · go_enter Try.func8, Try.ntmps8
    go_wp2_with fail
    refine (shown_any _).mono ?_
    rintro e w1 ⟨rfl, hb1⟩
    have s1 := hs.later hb1
    clear hs
    go_wp2_with fail
    clear h3
    go_loopw [8, 9, 10] (fun a b i wr => ∃ j : Nat, j ≤ n ∧ i = .int .i64 j ∧ wr.ownsRow w1.heap.size 48 3 a j (ecells (ordA l 1 j)) ∧ wr.ownsRow w1.heap.size 48 3 b j (ecells (ordB l n 1 j)) ∧ a.ownBlock ≠ b.ownBlock ∧ Below w1.heap.size w1 wr)
      (fun _ _ i _ => n - (intOf i).toNat)
    case atStart =>
      refine ⟨0, Nat.zero_le _, rfl, (own_empty_at _ _ _ _ _ ?_ ?_).alloc _, own_empty_at _ _ _ _ _ ?_ ?_, ?_, (((Below.refl _ _).alloc (Nat.le_refl _) _).alloc ?_ _).alloc ?_ _⟩
      · simp
      · simp
      · simp
      · simp; omega
      · simp [Value.ownBlock]
      · simp
      · simp; omega
    case round =>
      obtain ⟨j, hj, rfl, ho1, ho2, hne, hB⟩ := hrel
      have hbs := hB.size
      by_cases hlt : j < n
      · obtain ⟨q, hq⟩ : ∃ q : Nat, (n : Int) - 1 - (j : Int) = (q : Int) := ⟨n - 1 - j, by omega⟩
        have hqn : q < n := by omega
        have HQ := hide (show n - 1 - j = q by omega)
        obtain ⟨b, off, rfl, hb, hc⟩ := num_nth s1 hlt
        obtain ⟨b', off', e', hb', hc'⟩ := num_nth s1 hqn
        simp only [Option.some.injEq, Addr.mk.injEq, and_true] at e'
        obtain ⟨rfl, rfl⟩ := e'
        have hcr : wr.cell? ⟨b, off + j, none⟩ = some (.int .i64 (nth l j)) := (hB.cell (p := ⟨b, off + j, none⟩) hb).trans hc
        have HC' := hide hc'
        clear hc hc'
        go_wp2_with (first
          | (at_builtin; refine wpList_append_own_at _ rfl (.tmp 33) (.tmp 42) 22 rfl w1.heap.size 48 i0 _ 3 24 Try.underlying22 hi0 hz0 hz1 hz2 rfl (by omega) _ j _ rfl (ho1.alloc _) ⟨wr.heap.size, 0, none⟩ 1 1 (ecells [((j : Int), 1, nth l j)]) rfl rfl (World.news_of_block (cs := #[.int .i64 j, .int .i64 1, .int .i64 (nth l j)]) (t := 48) (fr := (0, 0)) (heap_alloc_new wr _)) (ecells_one _) (by unfold maxLen; omega) (by omega) (by simp; omega) ?_; intro v2 w2 ow2 hg2 _ hat2; obtain ⟨ob2, hne2⟩ := row_kept ho2 hg2 (Ne.symm hne) hat2; have hB2 : Below w1.heap.size w1 w2 := (hB.alloc hB.size _).grown hg2 (by simp; omega) (own_at ho1); have hbs2 := hB2.size; have hc2 : w2.cell? ⟨b, off + q, none⟩ = some (.int .i64 (nth l q)) := (hB2.cell (p := ⟨b, off + q, none⟩) hb).trans HC'.out)
          | (at_builtin; refine wpList_append_own_at _ rfl (.tmp 44) (.tmp 57) 22 rfl w1.heap.size 48 i0 _ 3 24 Try.underlying22 hi0 hz0 hz1 hz2 rfl (by omega) _ j _ rfl (ob2.alloc _) ⟨w2.heap.size, 0, none⟩ 1 1 (ecells [((j : Int), 1, nth l q)]) rfl rfl (World.news_of_block (cs := #[.int .i64 j, .int .i64 1, .int .i64 (nth l q)]) (t := 48) (fr := (0, 0)) (heap_alloc_new w2 _)) (ecells_one _) (by unfold maxLen; omega) (by omega) (by simp; omega) ?_; intro v3 w3 ow3 hg3 _ hat3; obtain ⟨oa3, hne3⟩ := row_kept ow2 hg3 (Ne.symm hne2) hat3; have hB3 : Below w1.heap.size w1 w3 := (hB2.alloc hB2.size _).grown hg3 (by simp; omega) (own_at ob2)))
        go_roundw
        case rel => exact ⟨j + 1, by omega, by go_num, by rw [ordA, mkE_succ, ecells_append]; exact oa3, by rw [ordB, mkE_succ, ecells_append, HQ.out]; exact ow3, hne3, hB3⟩
        case measure => simp [intOf]; omega
      · obtain rfl : j = n := by omega
        obtain ⟨A1, c1, rfl, _⟩ := own_form ho1
        obtain ⟨A2, c2, rfl, _⟩ := own_form ho2
        have r1 := Sees.of_own ho1
        have r2 := Sees.of_own ho2
        have hB1 : Below w.heap.size w wr := below_next hb1 hb1.size hB
        have g1 : Good (ordA l 1 j) := mkE_good fun i _ => nth_i64 hg i
        have g2 : Good (ordB l j 1 j) := mkE_good fun i _ => nth_i64 hg _
        have L1 := hide (show j = (ordA l 1 j).length from (mkE_length _ _ _ _).symm)
        have L2 := hide (show j = (ordB l j 1 j).length from (mkE_length _ _ _ _).symm)
        have HO := hide (show allV (ordA l 1 j) x 0 0 = allV (ordB l j 1 j) x 0 0 by rw [HL.out]; exact order_all 1 (by omega) _ _ l x)
        clear ho1 ho2 hne hg
        go_wp2_with fail
        refine (all_any A1 c1 (ordA l 1 j) j L1.out (by omega) x 0 0 hx (i64_lit (by omega)) (i64_lit (by omega)) g1 wr r1).mono ?_
        rintro e w2 ⟨rfl, hb2⟩
        have r3 := r2.later hb2
        rw [HO.out]
        go_wp2_with fail
        refine (all_any A2 c2 (ordB l j 1 j) j L2.out (by omega) x 0 0 hx (i64_lit (by omega)) (i64_lit (by omega)) g2 w2 r3).mono ?_
        rintro e w3 ⟨rfl, hb3⟩
        go_wp2
        go_ret
        exact ⟨by simp, below_next (below_next hB1 hB1.size hb2) (Nat.le_trans hB1.size hb2.size) hb3⟩
  · go_enter Try.func8, Try.ntmps8
    go_wp2_with fail
    refine (shown_any _).mono ?_
    rintro e w1 ⟨rfl, hb1⟩
    have s1 := hs.later hb1
    clear hs
    go_wp2_with fail
    clear h3
    go_loopw [8, 9, 10] (fun a b i wr => ∃ j : Nat, j ≤ n ∧ i = .int .i64 j ∧ wr.ownsRow w1.heap.size 48 3 a j (ecells (ordA l 5 j)) ∧ wr.ownsRow w1.heap.size 48 3 b j (ecells (ordB l n 5 j)) ∧ a.ownBlock ≠ b.ownBlock ∧ Below w1.heap.size w1 wr)
      (fun _ _ i _ => n - (intOf i).toNat)
    case atStart =>
      refine ⟨0, Nat.zero_le _, rfl, (own_empty_at _ _ _ _ _ ?_ ?_).alloc _, own_empty_at _ _ _ _ _ ?_ ?_, ?_, (((Below.refl _ _).alloc (Nat.le_refl _) _).alloc ?_ _).alloc ?_ _⟩
      · simp
      · simp
      · simp
      · simp; omega
      · simp [Value.ownBlock]
      · simp
      · simp; omega
    case round =>
      obtain ⟨j, hj, rfl, ho1, ho2, hne, hB⟩ := hrel
      have hbs := hB.size
      by_cases hlt : j < n
      · obtain ⟨q, hq⟩ : ∃ q : Nat, (n : Int) - 1 - (j : Int) = (q : Int) := ⟨n - 1 - j, by omega⟩
        have hqn : q < n := by omega
        have HQ := hide (show n - 1 - j = q by omega)
        obtain ⟨b, off, rfl, hb, hc⟩ := num_nth s1 hlt
        obtain ⟨b', off', e', hb', hc'⟩ := num_nth s1 hqn
        simp only [Option.some.injEq, Addr.mk.injEq, and_true] at e'
        obtain ⟨rfl, rfl⟩ := e'
        have hcr : wr.cell? ⟨b, off + j, none⟩ = some (.int .i64 (nth l j)) := (hB.cell (p := ⟨b, off + j, none⟩) hb).trans hc
        have HC' := hide hc'
        clear hc hc'
        go_wp2_with (first
          | (at_builtin; refine wpList_append_own_at _ rfl (.tmp 33) (.tmp 42) 22 rfl w1.heap.size 48 i0 _ 3 24 Try.underlying22 hi0 hz0 hz1 hz2 rfl (by omega) _ j _ rfl (ho1.alloc _) ⟨wr.heap.size, 0, none⟩ 1 1 (ecells [((j : Int), 5, nth l j)]) rfl rfl (World.news_of_block (cs := #[.int .i64 j, .int .i64 5, .int .i64 (nth l j)]) (t := 48) (fr := (0, 0)) (heap_alloc_new wr _)) (ecells_one _) (by unfold maxLen; omega) (by omega) (by simp; omega) ?_; intro v2 w2 ow2 hg2 _ hat2; obtain ⟨ob2, hne2⟩ := row_kept ho2 hg2 (Ne.symm hne) hat2; have hB2 : Below w1.heap.size w1 w2 := (hB.alloc hB.size _).grown hg2 (by simp; omega) (own_at ho1); have hbs2 := hB2.size; have hc2 : w2.cell? ⟨b, off + q, none⟩ = some (.int .i64 (nth l q)) := (hB2.cell (p := ⟨b, off + q, none⟩) hb).trans HC'.out)
          | (at_builtin; refine wpList_append_own_at _ rfl (.tmp 44) (.tmp 57) 22 rfl w1.heap.size 48 i0 _ 3 24 Try.underlying22 hi0 hz0 hz1 hz2 rfl (by omega) _ j _ rfl (ob2.alloc _) ⟨w2.heap.size, 0, none⟩ 1 1 (ecells [((j : Int), 5, nth l q)]) rfl rfl (World.news_of_block (cs := #[.int .i64 j, .int .i64 5, .int .i64 (nth l q)]) (t := 48) (fr := (0, 0)) (heap_alloc_new w2 _)) (ecells_one _) (by unfold maxLen; omega) (by omega) (by simp; omega) ?_; intro v3 w3 ow3 hg3 _ hat3; obtain ⟨oa3, hne3⟩ := row_kept ow2 hg3 (Ne.symm hne2) hat3; have hB3 : Below w1.heap.size w1 w3 := (hB2.alloc hB2.size _).grown hg3 (by simp; omega) (own_at ob2)))
        go_roundw
        case rel => exact ⟨j + 1, by omega, by go_num, by rw [ordA, mkE_succ, ecells_append]; exact oa3, by rw [ordB, mkE_succ, ecells_append, HQ.out]; exact ow3, hne3, hB3⟩
        case measure => simp [intOf]; omega
      · obtain rfl : j = n := by omega
        obtain ⟨A1, c1, rfl, _⟩ := own_form ho1
        obtain ⟨A2, c2, rfl, _⟩ := own_form ho2
        have r1 := Sees.of_own ho1
        have r2 := Sees.of_own ho2
        have hB1 : Below w.heap.size w wr := below_next hb1 hb1.size hB
        have g1 : Good (ordA l 5 j) := mkE_good fun i _ => nth_i64 hg i
        have g2 : Good (ordB l j 5 j) := mkE_good fun i _ => nth_i64 hg _
        have L1 := hide (show j = (ordA l 5 j).length from (mkE_length _ _ _ _).symm)
        have L2 := hide (show j = (ordB l j 5 j).length from (mkE_length _ _ _ _).symm)
        have HO := hide (show allV (ordA l 5 j) x 0 0 = allV (ordB l j 5 j) x 0 0 by rw [HL.out]; exact order_all 5 (by omega) _ _ l x)
        clear ho1 ho2 hne hg
        go_wp2_with fail
        refine (all_any A1 c1 (ordA l 5 j) j L1.out (by omega) x 0 0 hx (i64_lit (by omega)) (i64_lit (by omega)) g1 wr r1).mono ?_
        rintro e w2 ⟨rfl, hb2⟩
        have r3 := r2.later hb2
        rw [HO.out]
        go_wp2_with fail
        refine (all_any A2 c2 (ordB l j 5 j) j L2.out (by omega) x 0 0 hx (i64_lit (by omega)) (i64_lit (by omega)) g2 w2 r3).mono ?_
        rintro e w3 ⟨rfl, hb3⟩
        go_wp2
        go_ret
        exact ⟨by simp, below_next (below_next hB1 hB1.size hb2) (Nat.le_trans hB1.size hb2.size) hb3⟩
  · go_enter Try.func8, Try.ntmps8
    go_wp2_with fail
    refine (shown_any _).mono ?_
    rintro e w1 ⟨rfl, hb1⟩
    have s1 := hs.later hb1
    clear hs
    go_wp2_with fail
    clear h3
    go_loopw [8, 9, 10] (fun a b i wr => ∃ j : Nat, j ≤ n ∧ i = .int .i64 j ∧ wr.ownsRow w1.heap.size 48 3 a j (ecells (ordA l 3 j)) ∧ wr.ownsRow w1.heap.size 48 3 b j (ecells (ordB l n 3 j)) ∧ a.ownBlock ≠ b.ownBlock ∧ Below w1.heap.size w1 wr)
      (fun _ _ i _ => n - (intOf i).toNat)
    case atStart =>
      refine ⟨0, Nat.zero_le _, rfl, (own_empty_at _ _ _ _ _ ?_ ?_).alloc _, own_empty_at _ _ _ _ _ ?_ ?_, ?_, (((Below.refl _ _).alloc (Nat.le_refl _) _).alloc ?_ _).alloc ?_ _⟩
      · simp
      · simp
      · simp
      · simp; omega
      · simp [Value.ownBlock]
      · simp
      · simp; omega
    case round =>
      obtain ⟨j, hj, rfl, ho1, ho2, hne, hB⟩ := hrel
      have hbs := hB.size
      by_cases hlt : j < n
      · obtain ⟨q, hq⟩ : ∃ q : Nat, (n : Int) - 1 - (j : Int) = (q : Int) := ⟨n - 1 - j, by omega⟩
        have hqn : q < n := by omega
        have HQ := hide (show n - 1 - j = q by omega)
        obtain ⟨b, off, rfl, hb, hc⟩ := num_nth s1 hlt
        obtain ⟨b', off', e', hb', hc'⟩ := num_nth s1 hqn
        simp only [Option.some.injEq, Addr.mk.injEq, and_true] at e'
        obtain ⟨rfl, rfl⟩ := e'
        have hcr : wr.cell? ⟨b, off + j, none⟩ = some (.int .i64 (nth l j)) := (hB.cell (p := ⟨b, off + j, none⟩) hb).trans hc
        have HC' := hide hc'
        clear hc hc'
        go_wp2_with (first
          | (at_builtin; refine wpList_append_own_at _ rfl (.tmp 33) (.tmp 42) 22 rfl w1.heap.size 48 i0 _ 3 24 Try.underlying22 hi0 hz0 hz1 hz2 rfl (by omega) _ j _ rfl (ho1.alloc _) ⟨wr.heap.size, 0, none⟩ 1 1 (ecells [((j : Int), 3, nth l j)]) rfl rfl (World.news_of_block (cs := #[.int .i64 j, .int .i64 3, .int .i64 (nth l j)]) (t := 48) (fr := (0, 0)) (heap_alloc_new wr _)) (ecells_one _) (by unfold maxLen; omega) (by omega) (by simp; omega) ?_; intro v2 w2 ow2 hg2 _ hat2; obtain ⟨ob2, hne2⟩ := row_kept ho2 hg2 (Ne.symm hne) hat2; have hB2 : Below w1.heap.size w1 w2 := (hB.alloc hB.size _).grown hg2 (by simp; omega) (own_at ho1); have hbs2 := hB2.size; have hc2 : w2.cell? ⟨b, off + q, none⟩ = some (.int .i64 (nth l q)) := (hB2.cell (p := ⟨b, off + q, none⟩) hb).trans HC'.out)
          | (at_builtin; refine wpList_append_own_at _ rfl (.tmp 44) (.tmp 57) 22 rfl w1.heap.size 48 i0 _ 3 24 Try.underlying22 hi0 hz0 hz1 hz2 rfl (by omega) _ j _ rfl (ob2.alloc _) ⟨w2.heap.size, 0, none⟩ 1 1 (ecells [((j : Int), 3, nth l q)]) rfl rfl (World.news_of_block (cs := #[.int .i64 j, .int .i64 3, .int .i64 (nth l q)]) (t := 48) (fr := (0, 0)) (heap_alloc_new w2 _)) (ecells_one _) (by unfold maxLen; omega) (by omega) (by simp; omega) ?_; intro v3 w3 ow3 hg3 _ hat3; obtain ⟨oa3, hne3⟩ := row_kept ow2 hg3 (Ne.symm hne2) hat3; have hB3 : Below w1.heap.size w1 w3 := (hB2.alloc hB2.size _).grown hg3 (by simp; omega) (own_at ob2)))
        go_roundw
        case rel => exact ⟨j + 1, by omega, by go_num, by rw [ordA, mkE_succ, ecells_append]; exact oa3, by rw [ordB, mkE_succ, ecells_append, HQ.out]; exact ow3, hne3, hB3⟩
        case measure => simp [intOf]; omega
      · obtain rfl : j = n := by omega
        obtain ⟨A1, c1, rfl, _⟩ := own_form ho1
        obtain ⟨A2, c2, rfl, _⟩ := own_form ho2
        have r1 := Sees.of_own ho1
        have r2 := Sees.of_own ho2
        have hB1 : Below w.heap.size w wr := below_next hb1 hb1.size hB
        have g1 : Good (ordA l 3 j) := mkE_good fun i _ => nth_i64 hg i
        have g2 : Good (ordB l j 3 j) := mkE_good fun i _ => nth_i64 hg _
        have L1 := hide (show j = (ordA l 3 j).length from (mkE_length _ _ _ _).symm)
        have L2 := hide (show j = (ordB l j 3 j).length from (mkE_length _ _ _ _).symm)
        have HO := hide (show allV (ordA l 3 j) x 0 0 = allV (ordB l j 3 j) x 0 0 by rw [HL.out]; exact order_all 3 (by omega) _ _ l x)
        clear ho1 ho2 hne hg
        go_wp2_with fail
        refine (all_any A1 c1 (ordA l 3 j) j L1.out (by omega) x 0 0 hx (i64_lit (by omega)) (i64_lit (by omega)) g1 wr r1).mono ?_
        rintro e w2 ⟨rfl, hb2⟩
        have r3 := r2.later hb2
        rw [HO.out]
        go_wp2_with fail
        refine (all_any A2 c2 (ordB l j 3 j) j L2.out (by omega) x 0 0 hx (i64_lit (by omega)) (i64_lit (by omega)) g2 w2 r3).mono ?_
        rintro e w3 ⟨rfl, hb3⟩
        go_wp2
        go_ret
        exact ⟨by simp, below_next (below_next hB1 hB1.size hb2) (Nat.le_trans hB1.size hb2.size) hb3⟩
end Go.Proofs.Ytjibnocgbbohlaa
