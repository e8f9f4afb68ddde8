/- The law's 'its' of layer 9, and the document's Same. -/
import Derived.Test.YtlmkbfbiohocpaaScF
import Derived.Deep.RegionHeld3
namespace Go.Proofs.Ytlmkbfbiohocpaa
open Go.RowKit

theorem info42 : (Try.prog.info? 42).map (fun i => (i.zero, i.size, i.bytes)) = some (some (.agg #[.int .i64 0, .int .i64 0, .int .i64 0, .int .i64 0, .int .i64 0]), 5, 40) := by kernel_rfl

set_option maxRecDepth 100000 in
set_option maxHeartbeats 3200000 in
theorem its9_any (A : Option Addr) (cap : Nat) (l : List E5) (len : Nat) (hlen : len = l.length) (hmax : len ≤ 100000) (w : World) (hs : Sees w w.heap.size 5 A len (ec5 l)) :
    Calls Try.prog 10 #[.slice A len cap] w (RowPost 5 len (ec5 l) w) := by
  obtain ⟨i0, hi0, hz0, hz1, hz2⟩ := info_parts info42
  have HL := hide hlen
  clear hlen
  go_enter Try.func10, Try.ntmps10
  go_wp2
  go_loopw [3, 4] (fun a i wr => ∃ j : Nat, j ≤ len ∧ i = .int .i64 j ∧ wr.ownsRow w.heap.size 42 5 a j (ec5 (l.take j)) ∧ Below w.heap.size w wr)
    (fun _ i _ => len - (intOf i).toNat)
  case atStart => exact ⟨0, Nat.zero_le _, rfl, own_empty w _ _ _ (Nat.le_refl _), (Below.refl _ _).alloc (Nat.le_refl _) _⟩
  case round =>
    obtain ⟨j, hj, rfl, hown, hB⟩ := hrel
    by_cases hlt : j < len
    · have hs' := hs.below hB
      rw [HL.out] at hs'
      obtain ⟨b, off, k, t, i, g, v, rfl, hb, he, c0, c1, c2, c3, c4⟩ := hs'.ent5 (k := j) (by have := HL.out; omega)
      have HT := hide (take_snoc l j _ he)
      clear he hs'
      go_wp2_with fail
      have hj0 : (0 : Int) ≤ (j : Int) := Int.natCast_nonneg _
      have hj1 : (j : Int) < (len : Int) := by omega
      have ag := own_ne hown hb
      have lb : b < wr.heap.size := Nat.lt_of_lt_of_le hb hB.size
      have hbs := hB.size
      go_region_held3 (fun w' => w'.cell? ⟨b, off + j * 5, none⟩ = some (.int .i64 k) ∧ w'.cell? ⟨b, off + j * 5 + 1, none⟩ = some (.int .i64 t) ∧ w'.cell? ⟨b, off + j * 5 + 2, none⟩ = some (.int .i64 i) ∧ w'.cell? ⟨b, off + j * 5 + 3, none⟩ = some (.int .i64 g) ∧ w'.cell? ⟨b, off + j * 5 + 4, none⟩ = some (.int .i64 v))
        (first
          | go_keep
          | (go_split_ands
             refine ⟨?_, ?_, ?_, ?_, ?_⟩
             · (rw [hgrow.cell_far _ (by simp; omega) (Ne.symm ag)]; assumption)
             · (rw [hgrow.cell_far _ (by simp; omega) (Ne.symm ag)]; assumption)
             · (rw [hgrow.cell_far _ (by simp; omega) (Ne.symm ag)]; assumption)
             · (rw [hgrow.cell_far _ (by simp; omega) (Ne.symm ag)]; assumption)
             · (rw [hgrow.cell_far _ (by simp; omega) (Ne.symm ag)]; assumption)))
        ((refine step_append_lies _ (by rfl) _ _ _ (by rfl) w.heap.size 42 i0 _ 5 40 Try.underlying27 hi0 hz0 hz1 hz2 rfl (by omega) _ j _ (by rfl) ((hown.alloc _).drew)
            ⟨wr.heap.size, 0, none⟩ 1 1 (ec5 [(k, t, i, g, v)]) (by rfl) (by rfl) (World.news_of_block (cs := #[.int .i64 k, .int .i64 t, .int .i64 i, .int .i64 g, .int .i64 v]) (t := 42) (fr := (0, 0)) (heap_alloc_new wr _)) (ec5_one _)
            (by omega) (by unfold maxLen; omega) (by omega) (by simp; omega) (wr.heap.size + 1) (by simp) ?_; intro gg cap w1 hown1 hgrow hat hlt))
      go_wp2
      go_roundw
      case rel => exact ⟨j + 1, by omega, by go_num, by rw [HT.out, ec5_append]; exact hown1, ((hB.alloc hB.size _).drew).grown hgrow (by simp; omega) (own_at hown)⟩
      case measure => simp [intOf]; omega
    · obtain rfl : j = len := by omega
      have HT := hide (show l.take j = l by rw [HL.out, List.take_length])
      go_wp2
      go_ret
      rw [HT.out] at hown
      obtain ⟨A', c', rfl, hc'⟩ := own_form hown
      exact ⟨A', c', rfl, hc', Sees.of_own hown, hB⟩

/-- Two entries compared. -/
theorem neq_yes (e e' : E5) (h : e ≠ e') (u : World) : (binOp .neq 42 (.agg #[.int .i64 e.1, .int .i64 e.2.1, .int .i64 e.2.2.1, .int .i64 e.2.2.2.1, .int .i64 e.2.2.2.2]) (.agg #[.int .i64 e'.1, .int .i64 e'.2.1, .int .i64 e'.2.2.1, .int .i64 e'.2.2.2.1, .int .i64 e'.2.2.2.2])).run Try.prog u = .ok (.bool true) u := by
  obtain ⟨k, t, i, g, v⟩ := e
  obtain ⟨k', t', i', g', v'⟩ := e'
  by_cases h1 : k = k'
  · subst h1
    by_cases h2 : t = t'
    · subst h2
      by_cases h3 : i = i'
      · subst h3
        by_cases h4 : g = g'
        · subst h4
          have h5 : v ≠ v' := fun e => h (by rw [e])
          simp [go_sem, h5]
        · simp [go_sem, h4]
      · simp [go_sem, h3]
    · simp [go_sem, h2]
  · simp [go_sem, h1]
theorem neq_no (k t i g v : Int) (u : World) : (binOp .neq 42 (.agg #[.int .i64 k, .int .i64 t, .int .i64 i, .int .i64 g, .int .i64 v]) (.agg #[.int .i64 k, .int .i64 t, .int .i64 i, .int .i64 g, .int .i64 v])).run Try.prog u = .ok (.bool false) u := by
  simp [go_sem]

set_option maxRecDepth 100000 in
set_option maxHeartbeats 1000000 in
theorem same9_any (A B : Option Addr) (cap cap' n m : Nat) (xs ys : List E5) (hnx : n = xs.length) (hmy : m = ys.length) (hn : n ≤ 100000) (w : World) (hx : Sees w w.heap.size 5 A n (ec5 xs)) (hy : Sees w w.heap.size 5 B m (ec5 ys)) :
    Calls Try.prog 20 #[.slice A n cap, .slice B m cap'] w (BoolPost (decide (xs = ys)) w) := by
  by_cases hnm : n = m
  · subst hnm
    have HX := hide hnx
    have HY := hide hmy
    clear hnx hmy
    go_enter Try.func20, Try.ntmps20
    go_wp2
    go_loopw [5] (fun i wr => ∃ j : Nat, j ≤ n ∧ i = .int .i64 j ∧ xs.take j = ys.take j ∧ ∃ q, wr = w.drewN q) (fun i _ => n - (intOf i).toNat)
    case atStart => exact ⟨0, Nat.zero_le _, rfl, rfl, 0, rfl⟩
    case round =>
      obtain ⟨j, hj, rfl, htk, q, rfl⟩ := hrel
      by_cases hlt : j < n
      · have hx' := hx
        have hy' := hy
        rw [HX.out] at hx'
        rw [HY.out] at hy'
        obtain ⟨b, off, k, t, i, g, v, rfl, hb, ha, c0, c1, c2, c3, c4⟩ := hx'.ent5 (k := j) (by have := HX.out; omega)
        obtain ⟨b', off', k', t', i', g', v', rfl, hb', ha', d0, d1, d2, d3, d4⟩ := hy'.ent5 (k := j) (by have := HY.out; omega)
        have HTK := hide htk
        have HA := hide ha
        have HA' := hide ha'
        clear htk ha ha' hx' hy'
        by_cases hne : (k, t, i, g, v) = (k', t', i', g', v')
        · simp only [Prod.mk.injEq] at hne
          obtain ⟨rfl, rfl, rfl, rfl, rfl⟩ := hne
          have hq := neq_no k t i g v
          go_wp2_with fail
          go_quiet (fail)
          go_wp2
          go_roundw
          case rel => exact ⟨j + 1, by omega, by go_num, take_eq_step HTK.out HA.out HA'.out rfl, _, rfl⟩
          case measure => simp [intOf]; omega
        · have HN := hide hne
          have hq := neq_yes (k, t, i, g, v) (k', t', i', g', v') hne
          simp only [] at hq
          clear hne
          go_wp2_with fail
          go_quiet (fail)
          go_wp2
          go_ret
          exact ⟨ret_b (decide_eq_false (ne_at HA.out HA'.out HN.out)), below_drewN (below_drewN (Below.refl _ _) _) _⟩
      · obtain rfl : j = n := by omega
        have HE : Hid (xs = ys) := by
          have h1 := List.take_of_length_le (l := xs) (i := j) (by rw [HX.out]; exact Nat.le_refl _)
          have h2 := List.take_of_length_le (l := ys) (i := j) (by rw [HY.out]; exact Nat.le_refl _)
          exact h1.symm.trans (htk.trans h2)
        clear htk
        go_wp2
        go_ret
        exact ⟨ret_b (decide_eq_true HE.out), below_drewN (Below.refl _ _) _⟩
  · have HE : Hid (xs ≠ ys) := fun e => hnm (by rw [hnx, hmy, e])
    have hb1 : ((n : Int) == (m : Int)) = false := beq_eq_false_iff_ne.2 (by omega)
    have hb2 : ((n : Int) != (m : Int)) = true := bne_iff_ne.2 (by omega)
    clear hnx hmy
    go_enter Try.func20, Try.ntmps20
    go_wp2
    go_ret
    exact ⟨ret_b (decide_eq_false HE.out), Below.refl _ _⟩
end Go.Proofs.Ytlmkbfbiohocpaa
