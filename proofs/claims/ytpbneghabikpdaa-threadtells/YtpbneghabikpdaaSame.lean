/- Contracts of Same and of its. -/
import Derived.Test.YtpbneghabikpdaaRefs
import Derived.Deep.RegionHeld3
import Derived.Deep.AppendLies
namespace Go.Proofs.Ytpbneghabikpdaa
open Go.RowKit

set_option maxRecDepth 100000 in
set_option maxHeartbeats 1000000 in
theorem same_any (A B : Option Addr) (cap cap' n m : Nat) (xs ys : List E3) (hnx : n = xs.length) (hmy : m = ys.length) (hn : n ≤ 100000) (w : World) (hx : Sees w w.heap.size 3 A n (ecells xs)) (hy : Sees w w.heap.size 3 B m (ecells ys)) :
    Calls Try.prog 26 #[.slice A n cap, .slice B m cap'] w (BoolPost (decide (xs = ys)) w) := by
  by_cases hnm : n = m
  · subst hnm
    have HX := hide hnx
    have HY := hide hmy
    clear hnx hmy
    go_enter Try.func26, Try.ntmps26
    go_wp2
    go_loopw [5] (fun i wr => ∃ j : Nat, j ≤ n ∧ i = .int .i64 j ∧ xs.take j = ys.take j ∧ ∃ q, wr = w.drewN q) (fun i _ => n - (intOf i).toNat)
    case atStart => exact ⟨0, Nat.zero_le _, rfl, rfl, 0, rfl⟩
    case round =>
      obtain ⟨j, hj, rfl, htk, q, rfl⟩ := hrel
      by_cases hlt : j < n
      · have hx' := hx
        have hy' := hy
        rw [HX.out] at hx'
        rw [HY.out] at hy'
        obtain ⟨b, off, t, g, v, rfl, hb, ha, c1, c2, c3⟩ := hx'.entry (k := j) (by have := HX.out; omega)
        obtain ⟨b', off', t', g', v', rfl, hb', ha', d1, d2, d3⟩ := hy'.entry (k := j) (by have := HY.out; omega)
        have HTK := hide htk
        have HA := hide ha
        have HA' := hide ha'
        clear htk ha ha' hx' hy'
        by_cases hne : (t, g, v) = (t', g', v')
        · simp only [Prod.mk.injEq] at hne
          obtain ⟨rfl, rfl, rfl⟩ := hne
          go_wp2_with fail
          go_quiet (fail)
          go_wp2
          go_roundw
          case rel => exact ⟨j + 1, by omega, by go_num, take_eq_step HTK.out HA.out HA'.out rfl, _, rfl⟩
          case measure => simp [intOf]; omega
        · have HN := hide hne
          clear hne
          by_cases h1 : t = t'
          · subst h1
            by_cases h2 : g = g'
            · subst h2
              have hv : v ≠ v' := fun e => HN.out (by rw [e])
              have hb1 : (v == v') = false := beq_eq_false_iff_ne.2 hv
              have hb2 : (v != v') = true := bne_iff_ne.2 hv
              clear hv
              go_wp2_with fail
              go_quiet (fail)
              go_wp2
              go_ret
              exact ⟨ret_b (decide_eq_false (ne_at HA.out HA'.out HN.out)), below_drewN (below_drewN (Below.refl _ _) _) _⟩
            · have hb1 : (g == g') = false := beq_eq_false_iff_ne.2 h2
              have hb2 : (g != g') = true := bne_iff_ne.2 h2
              clear h2
              go_wp2_with fail
              go_quiet (fail)
              go_wp2
              go_ret
              exact ⟨ret_b (decide_eq_false (ne_at HA.out HA'.out HN.out)), below_drewN (below_drewN (Below.refl _ _) _) _⟩
          · have hb1 : (t == t') = false := beq_eq_false_iff_ne.2 h1
            have hb2 : (t != t') = true := bne_iff_ne.2 h1
            clear h1
            go_wp2_with fail
            go_quiet (fail)
            go_wp2
            go_ret
            exact ⟨ret_b (decide_eq_false (ne_at HA.out HA'.out HN.out)), below_drewN (below_drewN (Below.refl _ _) _) _⟩
      · obtain rfl : j = n := by omega
        have HE : Hid (xs = ys) := by
          have h1 := List.take_of_length_le (l := xs) (i := j) (by rw [HX.out]; exact Nat.le_refl _)
          have h2 := List.take_of_length_le (l := ys) (i := j) (by rw [HY.out]; exact Nat.le_refl _)
          exact h1.symm.trans (htk.trans h2)
        clear htk
        go_wp2
        go_ret
        exact ⟨ret_b (decide_eq_true HE.out), below_drewN (Below.refl _ _) _⟩
  · have HE : Hid (xs ≠ ys) := fun e => hnm (by rw [hnx, hmy, e])
    have hb1 : ((n : Int) == (m : Int)) = false := beq_eq_false_iff_ne.2 (by omega)
    have hb2 : ((n : Int) != (m : Int)) = true := bne_iff_ne.2 (by omega)
    clear hnx hmy
    go_enter Try.func26, Try.ntmps26
    go_wp2
    go_ret
    exact ⟨ret_b (decide_eq_false HE.out), Below.refl _ _⟩

theorem own_ne {w : World} {base : Nat} {e : TypeId} {sz n b : Nat} {v : Value} {xs : List Value} (h : w.ownsRow base e sz v n xs) (hb : b < base) : v.ownBlock ≠ some b :=
  fun hv => absurd (own_at h b hv) (Nat.not_le.2 hb)

end Go.Proofs.Ytpbneghabikpdaa
