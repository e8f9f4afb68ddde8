/- Contracts of the document's own answers for layer 2, and of the turning of entries. -/
import Derived.Test.YtpbneghabikpdaaJoin
namespace Go.Proofs.Ytpbneghabikpdaa
open Go.RowKit

/-- An empty row that the call makes. -/
theorem own_empty (w : World) (B : Nat) (e : TypeId) (sz : Nat) (hB : B ≤ w.heap.size) : (w.alloc (.cells #[] e)).ownsRow B e sz (.slice (some ⟨w.heap.size, 0, none⟩) 0 0) 0 [] :=
  World.ownsRow_made w #[] 0 hB (by unfold maxLen; omega) (by simp)

theorem prs_take_snoc (l : List E3) (k : Nat) (e : E3) (h : l[k]? = some e) (x lo hi : Int) : prs (l.take (k + 1)) x lo hi = prs (l.take k) x lo hi ++ [allV (l.take k) x lo hi] := by
  rw [take_snoc l k e h, prs_snoc]

theorem take_eq_step {α : Type} [DecidableEq α] {xs ys : List α} {j : Nat} {a b : α} (h : xs.take j = ys.take j) (ha : xs[j]? = some a) (hb : ys[j]? = some b) (he : a = b) : xs.take (j + 1) = ys.take (j + 1) := by
  rw [take_snoc xs j a ha, take_snoc ys j b hb, h, he]
theorem ne_at {α : Type} {xs ys : List α} {j : Nat} {a b : α} (ha : xs[j]? = some a) (hb : ys[j]? = some b) (he : a ≠ b) : xs ≠ ys := by
  rintro rfl
  rw [ha] at hb
  exact he (by injection hb)

set_option maxRecDepth 100000 in
set_option maxHeartbeats 1000000 in
theorem ints_any (A B : Option Addr) (cap cap' n m : Nat) (xs ys : List Int) (hn : n ≤ 100000) (w : World) (hx : Sees w w.heap.size 1 A n (xs.map (Value.int .i64))) (hy : Sees w w.heap.size 1 B m (ys.map (Value.int .i64))) :
    Calls Try.prog 27 #[.slice A n cap, .slice B m cap'] w (BoolPost (decide (xs = ys)) w) := by
  have hlx : xs.length = n := by have := hx.1; simpa using this
  have hly : ys.length = m := by have := hy.1; simpa using this
  by_cases hnm : n = m
  · subst hnm
    have HX := hide hlx
    have HY := hide hly
    clear hlx hly
    go_enter Try.func27, Try.ntmps27
    go_wp2
    go_loopw [5] (fun i wr => ∃ j : Nat, j ≤ n ∧ i = .int .i64 j ∧ xs.take j = ys.take j ∧ ∃ q, wr = w.drewN q) (fun i _ => n - (intOf i).toNat)
    case atStart => exact ⟨0, Nat.zero_le _, rfl, rfl, 0, rfl⟩
    case round =>
      obtain ⟨j, hj, rfl, htk, q, rfl⟩ := hrel
      by_cases hlt : j < n
      · obtain ⟨b, off, a, rfl, hb, ha, hc⟩ := hx.num hlt
        obtain ⟨b', off', a', rfl, hb', ha', hc'⟩ := hy.num hlt
        have HTK := hide htk
        have HA := hide ha
        have HA' := hide ha'
        clear htk ha ha'
        by_cases hne : a = a'
        · subst hne
          go_wp2_with fail
          go_quiet (fail)
          go_wp2
          go_roundw
          case rel => exact ⟨j + 1, by omega, by go_num, take_eq_step HTK.out HA.out HA'.out rfl, _, rfl⟩
          case measure => simp [intOf]; omega
        · have HN := hide hne
          have hb1 : (a == a') = false := beq_eq_false_iff_ne.2 hne
          have hb2 : (a != a') = true := bne_iff_ne.2 hne
          clear hne
          go_wp2_with fail
          go_quiet (fail)
          go_wp2
          go_ret
          exact ⟨ret_b (decide_eq_false (ne_at HA.out HA'.out HN.out)), below_drewN (below_drewN (Below.refl _ _) _) _⟩
      · obtain rfl : j = n := by omega
        have HE : Hid (xs = ys) := by
          have h1 := List.take_of_length_le (l := xs) (i := j) (by rw [HX.out]; exact Nat.le_refl _)
          have h2 := List.take_of_length_le (l := ys) (i := j) (by rw [HY.out]; exact Nat.le_refl _)
          exact h1.symm.trans (htk.trans h2)
        clear htk
        go_wp2
        go_ret
        exact ⟨ret_b (decide_eq_true HE.out), below_drewN (Below.refl _ _) _⟩
  · have HE : Hid (xs ≠ ys) := fun e => hnm (by rw [← hlx, ← hly, e])
    have hb1 : ((n : Int) == (m : Int)) = false := beq_eq_false_iff_ne.2 (by omega)
    have hb2 : ((n : Int) != (m : Int)) = true := bne_iff_ne.2 (by omega)
    clear hlx hly
    go_enter Try.func27, Try.ntmps27
    go_wp2
    go_ret
    exact ⟨ret_b (decide_eq_false HE.out), Below.refl _ _⟩
end Go.Proofs.Ytpbneghabikpdaa
