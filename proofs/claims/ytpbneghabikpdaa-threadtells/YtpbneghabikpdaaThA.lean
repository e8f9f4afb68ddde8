/- Contracts of alike and numbers. -/
import Derived.Test.YtpbneghabikpdaaTh
import Derived.BigQuiet
namespace Go.Proofs.Ytpbneghabikpdaa
open Go.RowKit
set_option linter.unusedVariables false

set_option maxRecDepth 100000 in
set_option maxHeartbeats 4000000 in
theorem alikeI_any (A B : Option Addr) (cap cap' n m : Nat) (xs ys : List Int) (hnx : n = xs.length) (hmy : m = ys.length) (hn : n ≤ 100000) (w : World) (hx : Sees w w.heap.size 1 A n (xs.map (Value.int .i64))) (hy : Sees w w.heap.size 1 B m (ys.map (Value.int .i64))) :
    Calls Try.prog 35 #[.slice A n cap, .slice B m cap'] w (BoolPost (decide (xs = ys)) w) := by
  by_cases hnm : n = m
  · subst hnm
    have HX := hide hnx
    have HY := hide hmy
    clear hnx hmy
    go_enter Try.func35, Try.ntmps35
    go_wp2
    go_loopw [13] (fun i wr => ∃ j : Nat, j ≤ n ∧ i = .int .i64 j ∧ xs.take j = ys.take j ∧ ∃ q, wr = w.drewN q) (fun i _ => n - (intOf i).toNat)
    case atStart => exact ⟨0, Nat.zero_le _, rfl, rfl, 0, rfl⟩
    case round =>
      obtain ⟨j, hj, rfl, htk, q, rfl⟩ := hrel
      by_cases hlt : j < n
      · have hx' := hx
        have hy' := hy
        obtain ⟨b, boff, a, rfl, blt, ha, c1⟩ := hx'.num (k := j) hlt
        obtain ⟨b', b'off, a', rfl, b'lt, ha', d1⟩ := hy'.num (k := j) hlt
        have HTK := hide htk
        have HA := hide ha
        have HA' := hide ha'
        clear htk ha ha' hx' hy'
        by_cases hne : a = a'
        · subst hne
          go_wp2_with fail
          go_quiet (fail)
          go_wp2
          go_roundw
          case rel => exact ⟨j + 1, by omega, by go_num, take_eq_step HTK.out HA.out HA'.out rfl, _, rfl⟩
          case measure => simp [intOf]; omega
        · have HN := hide hne
          clear hne
          have hv : a ≠ a' := HN.out
          have hb1 : (a == a') = false := beq_eq_false_iff_ne.2 hv
          have hb2 : (a != a') = true := bne_iff_ne.2 hv
          clear hv
          go_wp2_with fail
          go_quiet (fail)
          go_wp2
          go_ret
          exact ⟨ret_b (decide_eq_false (ne_at HA.out HA'.out HN.out)), below_drewN (below_drewN (Below.refl _ _) _) _⟩
      · obtain rfl : j = n := by omega
        have HE : Hid (xs = ys) := by
          have h1 := List.take_of_length_le (l := xs) (i := j) (by rw [HX.out]; exact Nat.le_refl _)
          have h2 := List.take_of_length_le (l := ys) (i := j) (by rw [HY.out]; exact Nat.le_refl _)
          exact h1.symm.trans (htk.trans h2)
        clear htk
        go_wp2
        go_ret
        exact ⟨ret_b (decide_eq_true HE.out), below_drewN (Below.refl _ _) _⟩
  · have HE : Hid (xs ≠ ys) := fun e => hnm (by rw [hnx, hmy, e])
    have hb1 : ((n : Int) == (m : Int)) = false := beq_eq_false_iff_ne.2 (by omega)
    have hb2 : ((n : Int) != (m : Int)) = true := bne_iff_ne.2 (by omega)
    clear hnx hmy
    go_enter Try.func35, Try.ntmps35
    go_wp2
    go_ret
    exact ⟨ret_b (decide_eq_false HE.out), Below.refl _ _⟩

set_option maxRecDepth 100000 in
set_option maxHeartbeats 4000000 in
theorem alikeE_any (A B : Option Addr) (cap cap' n m : Nat) (xs ys : List E3) (hnx : n = xs.length) (hmy : m = ys.length) (hn : n ≤ 100000) (w : World) (hx : Sees w w.heap.size 3 A n (ecells xs)) (hy : Sees w w.heap.size 3 B m (ecells ys)) :
    Calls Try.prog 33 #[.slice A n cap, .slice B m cap'] w (BoolPost (decide (xs = ys)) w) := by
  by_cases hnm : n = m
  · subst hnm
    have HX := hide hnx
    have HY := hide hmy
    clear hnx hmy
    go_enter Try.func33, Try.ntmps33
    go_wp2
    go_loopw [13] (fun i wr => ∃ j : Nat, j ≤ n ∧ i = .int .i64 j ∧ xs.take j = ys.take j ∧ ∃ q, wr = w.drewN q) (fun i _ => n - (intOf i).toNat)
    case atStart => exact ⟨0, Nat.zero_le _, rfl, rfl, 0, rfl⟩
    case round =>
      obtain ⟨j, hj, rfl, htk, q, rfl⟩ := hrel
      by_cases hlt : j < n
      · have hx' := hx
        have hy' := hy
        rw [HX.out] at hx'
        rw [HY.out] at hy'
        obtain ⟨b, boff, t, g, v, rfl, blt, ha, c1, c2, c3⟩ := hx'.entry (k := j) (by have := HX.out; omega)
        obtain ⟨b', b'off, t', g', v', rfl, b'lt, ha', d1, d2, d3⟩ := hy'.entry (k := j) (by have := HY.out; omega)
        have HTK := hide htk
        have HA := hide ha
        have HA' := hide ha'
        clear htk ha ha' hx' hy'
        by_cases hne : (t, g, v) = (t', g', v')
        · simp only [Prod.mk.injEq] at hne
          obtain ⟨rfl, rfl, rfl⟩ := hne
          go_wp2_with fail
          go_quiet (fail)
          go_wp2
          go_roundw
          case rel => exact ⟨j + 1, by omega, by go_num, take_eq_step HTK.out HA.out HA'.out rfl, _, rfl⟩
          case measure => simp [intOf]; omega
        · have HN := hide hne
          clear hne
          by_cases hv : t = t'
          · subst hv
            by_cases hv : g = g'
            · subst hv
              have hv : v ≠ v' := fun e => HN.out (by rw [e])
              have hb1 : (v == v') = false := beq_eq_false_iff_ne.2 hv
              have hb2 : (v != v') = true := bne_iff_ne.2 hv
              clear hv
              go_wp2_with fail
              go_quiet (fail)
              go_wp2
              go_ret
              exact ⟨ret_b (decide_eq_false (ne_at HA.out HA'.out HN.out)), below_drewN (below_drewN (Below.refl _ _) _) _⟩
            · have hb1 : (g == g') = false := beq_eq_false_iff_ne.2 hv
              have hb2 : (g != g') = true := bne_iff_ne.2 hv
              clear hv
              go_wp2_with fail
              go_quiet (fail)
              go_wp2
              go_ret
              exact ⟨ret_b (decide_eq_false (ne_at HA.out HA'.out HN.out)), below_drewN (below_drewN (Below.refl _ _) _) _⟩
          · have hb1 : (t == t') = false := beq_eq_false_iff_ne.2 hv
            have hb2 : (t != t') = true := bne_iff_ne.2 hv
            clear hv
            go_wp2_with fail
            go_quiet (fail)
            go_wp2
            go_ret
            exact ⟨ret_b (decide_eq_false (ne_at HA.out HA'.out HN.out)), below_drewN (below_drewN (Below.refl _ _) _) _⟩
      · obtain rfl : j = n := by omega
        have HE : Hid (xs = ys) := by
          have h1 := List.take_of_length_le (l := xs) (i := j) (by rw [HX.out]; exact Nat.le_refl _)
          have h2 := List.take_of_length_le (l := ys) (i := j) (by rw [HY.out]; exact Nat.le_refl _)
          exact h1.symm.trans (htk.trans h2)
        clear htk
        go_wp2
        go_ret
        exact ⟨ret_b (decide_eq_true HE.out), below_drewN (Below.refl _ _) _⟩
  · have HE : Hid (xs ≠ ys) := fun e => hnm (by rw [hnx, hmy, e])
    have hb1 : ((n : Int) == (m : Int)) = false := beq_eq_false_iff_ne.2 (by omega)
    have hb2 : ((n : Int) != (m : Int)) = true := bne_iff_ne.2 (by omega)
    clear hnx hmy
    go_enter Try.func33, Try.ntmps33
    go_wp2
    go_ret
    exact ⟨ret_b (decide_eq_false HE.out), Below.refl _ _⟩

set_option maxRecDepth 100000 in
set_option maxHeartbeats 4000000 in
theorem alikeK_any (A B : Option Addr) (cap cap' n m : Nat) (xs ys : List (Int × Int)) (hnx : n = xs.length) (hmy : m = ys.length) (hn : n ≤ 100000) (w : World) (hx : Sees w w.heap.size 2 A n (kcells xs)) (hy : Sees w w.heap.size 2 B m (kcells ys)) :
    Calls Try.prog 34 #[.slice A n cap, .slice B m cap'] w (BoolPost (decide (xs = ys)) w) := by
  by_cases hnm : n = m
  · subst hnm
    have HX := hide hnx
    have HY := hide hmy
    clear hnx hmy
    go_enter Try.func34, Try.ntmps34
    go_wp2
    go_loopw [13] (fun i wr => ∃ j : Nat, j ≤ n ∧ i = .int .i64 j ∧ xs.take j = ys.take j ∧ ∃ q, wr = w.drewN q) (fun i _ => n - (intOf i).toNat)
    case atStart => exact ⟨0, Nat.zero_le _, rfl, rfl, 0, rfl⟩
    case round =>
      obtain ⟨j, hj, rfl, htk, q, rfl⟩ := hrel
      by_cases hlt : j < n
      · have hx' := hx
        have hy' := hy
        rw [HX.out] at hx'
        rw [HY.out] at hy'
        obtain ⟨b, boff, t, g, rfl, blt, ha, c1, c2⟩ := hx'.kid (k := j) (by have := HX.out; omega)
        obtain ⟨b', b'off, t', g', rfl, b'lt, ha', d1, d2⟩ := hy'.kid (k := j) (by have := HY.out; omega)
        have HTK := hide htk
        have HA := hide ha
        have HA' := hide ha'
        clear htk ha ha' hx' hy'
        by_cases hne : (t, g) = (t', g')
        · simp only [Prod.mk.injEq] at hne
          obtain ⟨rfl, rfl⟩ := hne
          go_wp2_with fail
          go_quiet (fail)
          go_wp2
          go_roundw
          case rel => exact ⟨j + 1, by omega, by go_num, take_eq_step HTK.out HA.out HA'.out rfl, _, rfl⟩
          case measure => simp [intOf]; omega
        · have HN := hide hne
          clear hne
          by_cases hv : t = t'
          · subst hv
            have hv : g ≠ g' := fun e => HN.out (by rw [e])
            have hb1 : (g == g') = false := beq_eq_false_iff_ne.2 hv
            have hb2 : (g != g') = true := bne_iff_ne.2 hv
            clear hv
            go_wp2_with fail
            go_quiet (fail)
            go_wp2
            go_ret
            exact ⟨ret_b (decide_eq_false (ne_at HA.out HA'.out HN.out)), below_drewN (below_drewN (Below.refl _ _) _) _⟩
          · have hb1 : (t == t') = false := beq_eq_false_iff_ne.2 hv
            have hb2 : (t != t') = true := bne_iff_ne.2 hv
            clear hv
            go_wp2_with fail
            go_quiet (fail)
            go_wp2
            go_ret
            exact ⟨ret_b (decide_eq_false (ne_at HA.out HA'.out HN.out)), below_drewN (below_drewN (Below.refl _ _) _) _⟩
      · obtain rfl : j = n := by omega
        have HE : Hid (xs = ys) := by
          have h1 := List.take_of_length_le (l := xs) (i := j) (by rw [HX.out]; exact Nat.le_refl _)
          have h2 := List.take_of_length_le (l := ys) (i := j) (by rw [HY.out]; exact Nat.le_refl _)
          exact h1.symm.trans (htk.trans h2)
        clear htk
        go_wp2
        go_ret
        exact ⟨ret_b (decide_eq_true HE.out), below_drewN (Below.refl _ _) _⟩
  · have HE : Hid (xs ≠ ys) := fun e => hnm (by rw [hnx, hmy, e])
    have hb1 : ((n : Int) == (m : Int)) = false := beq_eq_false_iff_ne.2 (by omega)
    have hb2 : ((n : Int) != (m : Int)) = true := bne_iff_ne.2 (by omega)
    clear hnx hmy
    go_enter Try.func34, Try.ntmps34
    go_wp2
    go_ret
    exact ⟨ret_b (decide_eq_false HE.out), Below.refl _ _⟩

theorem numbers_any (d : Dt) (p : Ad) (w : World) : Calls Try.prog 32 #[.agg #[.int .i64 d.ph, .int .i64 d.it, .int .i64 d.tg, .int .i64 d.v, .slice p.bA d.bl.length p.bc, .slice p.kA d.kl.length p.kc, .slice p.hA d.hl.length p.hc, .int .i64 d.st, .int .i64 d.nd, .int .i64 d.pl, .int .i64 d.ly, .int .i64 d.lf, .int .i64 d.wd, .int .i64 d.who, .int .i64 d.x, .int .i64 d.y, .int .i64 d.un]] w (fun e w' => e = .returned (.agg #[.int .i64 d.ph, .int .i64 d.it, .int .i64 d.st, .int .i64 d.nd, .int .i64 d.pl, .int .i64 d.ly, .int .i64 d.lf, .int .i64 d.wd, .int .i64 d.who, .int .i64 d.x, .int .i64 d.y, .int .i64 d.un]) ∧ Below w.heap.size w w') := by
  have hB : Below w.heap.size w (w.alloc (.cells #[.int .i64 d.ph, .int .i64 d.it, .int .i64 d.tg, .int .i64 d.v, .slice p.bA d.bl.length p.bc, .slice p.kA d.kl.length p.kc, .slice p.hA d.hl.length p.hc, .int .i64 d.st, .int .i64 d.nd, .int .i64 d.pl, .int .i64 d.ly, .int .i64 d.lf, .int .i64 d.wd, .int .i64 d.who, .int .i64 d.x, .int .i64 d.y, .int .i64 d.un] 30)) := (Below.refl _ _).alloc (Nat.le_refl _) _
  go_enter Try.func32, Try.ntmps32
  go_wp2
  refine bodyPost_ret (v := .agg #[.int .i64 d.ph, .int .i64 d.it, .int .i64 d.st, .int .i64 d.nd, .int .i64 d.pl, .int .i64 d.ly, .int .i64 d.lf, .int .i64 d.wd, .int .i64 d.who, .int .i64 d.x, .int .i64 d.y, .int .i64 d.un]) (by simp [results, Try.results32, go_sem]) rfl ⟨rfl, ?_⟩
  exact hB.alloc hB.size _

end Go.Proofs.Ytpbneghabikpdaa
