/- Contracts of Same and of its. -/
import Derived.Test.YtjibnocgbbohlaaRefs
import Derived.Deep.RegionHeld3
import Derived.Deep.AppendLies
namespace Go.Proofs.Ytjibnocgbbohlaa
open Go.RowKit

set_option maxRecDepth 100000 in
set_option maxHeartbeats 1000000 in
theorem same_any (A B : Option Addr) (cap cap' n m : Nat) (xs ys : List E3) (hnx : n = xs.length) (hmy : m = ys.length) (hn : n ≤ 1000) (w : World) (hx : Sees w w.heap.size 3 A n (ecells xs)) (hy : Sees w w.heap.size 3 B m (ecells ys)) :
    Calls Try.prog 19 #[.slice A n cap, .slice B m cap'] w (BoolPost (decide (xs = ys)) w) := by
  by_cases hnm : n = m
  · subst hnm
    have HX := hide hnx
    have HY := hide hmy
    clear hnx hmy
    go_enter Try.func19, Try.ntmps19
    go_wp2
    go_loopw [5] (fun i wr => ∃ j : Nat, j ≤ n ∧ i = .int .i64 j ∧ xs.take j = ys.take j ∧ ∃ q, wr = w.drewN q) (fun i _ => n - (intOf i).toNat)
    case atStart => exact ⟨0, Nat.zero_le _, rfl, rfl, 0, rfl⟩
    case round =>
      obtain ⟨j, hj, rfl, htk, q, rfl⟩ := hrel
      by_cases hlt : j < n
      · have hx' := hx
        have hy' := hy
        rw [HX.out] at hx'
        rw [HY.out] at hy'
        obtain ⟨b, off, t, g, v, rfl, hb, ha, c1, c2, c3⟩ := hx'.entry (k := j) (by have := HX.out; omega)
        obtain ⟨b', off', t', g', v', rfl, hb', ha', d1, d2, d3⟩ := hy'.entry (k := j) (by have := HY.out; omega)
        have HTK := hide htk
        have HA := hide ha
        have HA' := hide ha'
        clear htk ha ha' hx' hy'
        by_cases hne : (t, g, v) = (t', g', v')
        · simp only [Prod.mk.injEq] at hne
          obtain ⟨rfl, rfl, rfl⟩ := hne
          go_wp2_with fail
          go_quiet (fail)
          go_wp2
          go_roundw
          case rel => exact ⟨j + 1, by omega, by go_num, take_eq_step HTK.out HA.out HA'.out rfl, _, rfl⟩
          case measure => simp [intOf]; omega
        · have HN := hide hne
          clear hne
          by_cases h1 : t = t'
          · subst h1
            by_cases h2 : g = g'
            · subst h2
              have hv : v ≠ v' := fun e => HN.out (by rw [e])
              have hb1 : (v == v') = false := beq_eq_false_iff_ne.2 hv
              have hb2 : (v != v') = true := bne_iff_ne.2 hv
              clear hv
              go_wp2_with fail
              go_quiet (fail)
              go_wp2
              go_ret
              exact ⟨ret_b (decide_eq_false (ne_at HA.out HA'.out HN.out)), below_drewN (below_drewN (Below.refl _ _) _) _⟩
            · have hb1 : (g == g') = false := beq_eq_false_iff_ne.2 h2
              have hb2 : (g != g') = true := bne_iff_ne.2 h2
              clear h2
              go_wp2_with fail
              go_quiet (fail)
              go_wp2
              go_ret
              exact ⟨ret_b (decide_eq_false (ne_at HA.out HA'.out HN.out)), below_drewN (below_drewN (Below.refl _ _) _) _⟩
          · have hb1 : (t == t') = false := beq_eq_false_iff_ne.2 h1
            have hb2 : (t != t') = true := bne_iff_ne.2 h1
            clear h1
            go_wp2_with fail
            go_quiet (fail)
            go_wp2
            go_ret
            exact ⟨ret_b (decide_eq_false (ne_at HA.out HA'.out HN.out)), below_drewN (below_drewN (Below.refl _ _) _) _⟩
      · obtain rfl : j = n := by omega
        have HE : Hid (xs = ys) := by
          have h1 := List.take_of_length_le (l := xs) (i := j) (by rw [HX.out]; exact Nat.le_refl _)
          have h2 := List.take_of_length_le (l := ys) (i := j) (by rw [HY.out]; exact Nat.le_refl _)
          exact h1.symm.trans (htk.trans h2)
        clear htk
        go_wp2
        go_ret
        exact ⟨ret_b (decide_eq_true HE.out), below_drewN (Below.refl _ _) _⟩
  · have HE : Hid (xs ≠ ys) := fun e => hnm (by rw [hnx, hmy, e])
    have hb1 : ((n : Int) == (m : Int)) = false := beq_eq_false_iff_ne.2 (by omega)
    have hb2 : ((n : Int) != (m : Int)) = true := bne_iff_ne.2 (by omega)
    clear hnx hmy
    go_enter Try.func19, Try.ntmps19
    go_wp2
    go_ret
    exact ⟨ret_b (decide_eq_false HE.out), Below.refl _ _⟩

theorem own_ne {w : World} {base : Nat} {e : TypeId} {sz n b : Nat} {v : Value} {xs : List Value} (h : w.ownsRow base e sz v n xs) (hb : b < base) : v.ownBlock ≠ some b :=
  fun hv => absurd (own_at h b hv) (Nat.not_le.2 hb)

set_option maxRecDepth 100000 in
set_option maxHeartbeats 3200000 in
theorem its_any (A : Option Addr) (cap : Nat) (l : List E3) (len : Nat) (hlen : len = l.length) (hmax : len ≤ 1000) (w : World) (hs : Sees w w.heap.size 3 A len (ecells l)) :
    Calls Try.prog 11 #[.slice A len cap] w (RowPost 3 len (ecells l) w) := by
  obtain ⟨i0, hi0, hz0, hz1, hz2⟩ := info_parts info52
  have HL := hide hlen
  clear hlen
  go_enter Try.func11, Try.ntmps11
  go_wp2
  go_loopw [3, 4] (fun a i wr => ∃ j : Nat, j ≤ len ∧ i = .int .i64 j ∧ wr.ownsRow w.heap.size 52 3 a j (ecells (l.take j)) ∧ Below w.heap.size w wr)
    (fun _ i _ => len - (intOf i).toNat)
  case atStart => exact ⟨0, Nat.zero_le _, rfl, own_empty w _ _ _ (Nat.le_refl _), (Below.refl _ _).alloc (Nat.le_refl _) _⟩
  case round =>
    obtain ⟨j, hj, rfl, hown, hB⟩ := hrel
    by_cases hlt : j < len
    · have hs' := hs.below hB
      rw [HL.out] at hs'
      obtain ⟨b, off, t, g, v, rfl, hb, he, c1, c2, c3⟩ := hs'.entry (k := j) (by have := HL.out; omega)
      have HT := hide (take_snoc l j _ he)
      clear he hs'
      go_wp2_with fail
      have hj0 : (0 : Int) ≤ (j : Int) := Int.natCast_nonneg _
      have hj1 : (j : Int) < (len : Int) := by omega
      have ag := own_ne hown hb
      have lb : b < wr.heap.size := Nat.lt_of_lt_of_le hb hB.size
      have hbs := hB.size
      go_region_held3 (fun w' => w'.cell? ⟨b, off + j * 3, none⟩ = some (.int .i64 t) ∧ w'.cell? ⟨b, off + j * 3 + 1, none⟩ = some (.int .i64 g) ∧ w'.cell? ⟨b, off + j * 3 + 2, none⟩ = some (.int .i64 v))
        (first
          | go_keep
          | (go_split_ands
             refine ⟨?_, ?_, ?_⟩
             · (rw [hgrow.cell_far _ (by simp; omega) (Ne.symm ag)]; assumption)
             · (rw [hgrow.cell_far _ (by simp; omega) (Ne.symm ag)]; assumption)
             · (rw [hgrow.cell_far _ (by simp; omega) (Ne.symm ag)]; assumption)))
        ((refine step_append_lies _ (by rfl) _ _ _ (by rfl) w.heap.size 52 i0 _ 3 24 Try.underlying24 hi0 hz0 hz1 hz2 rfl (by omega) _ j _ (by rfl) ((hown.alloc _).drew)
            ⟨wr.heap.size, 0, none⟩ 1 1 (ecells [(t, g, v)]) (by rfl) (by rfl) (World.news_of_block (cs := #[.int .i64 t, .int .i64 g, .int .i64 v]) (t := 52) (fr := (0, 0)) (heap_alloc_new wr _)) (ecells_one _)
            (by omega) (by unfold maxLen; omega) (by omega) (by simp; omega) (wr.heap.size + 1) (by simp) ?_; intro gg cap w1 hown1 hgrow hat hlt))
      go_wp2
      go_roundw
      case rel => exact ⟨j + 1, by omega, by go_num, by rw [HT.out, ecells_append]; exact hown1, ((hB.alloc hB.size _).drew).grown hgrow (by simp; omega) (own_at hown)⟩
      case measure => simp [intOf]; omega
    · obtain rfl : j = len := by omega
      have HT := hide (show l.take j = l by rw [HL.out, List.take_length])
      go_wp2
      go_ret
      rw [HT.out] at hown
      obtain ⟨A', c', rfl, hc'⟩ := own_form hown
      exact ⟨A', c', rfl, hc', Sees.of_own hown, hB⟩
end Go.Proofs.Ytjibnocgbbohlaa
