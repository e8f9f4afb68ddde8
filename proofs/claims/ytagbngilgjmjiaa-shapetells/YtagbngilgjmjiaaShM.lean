/- Contracts of slices.Contains and of shape.Meet. -/
import Derived.Test.YtagbngilgjmjiaaShC
namespace Go.Proofs.Ytagbngilgjmjiaa
open Go.RowKit Go.Shelf

attribute [local go_sem] Oper.semAt_some

def FindPost (v : Int) (xs : List Int) (w : World) (e : Ending) (w' : World) : Prop := ∃ r : Int, e = .returned (.int .i64 r) ∧ (0 ≤ r ↔ v ∈ xs) ∧ Below w.heap.size w w'

set_option maxRecDepth 100000 in
set_option maxHeartbeats 1000000 in
theorem index_any (A : Option Addr) (n c : Nat) (xs : List Int) (v : Int) (hn : n ≤ 100000) (w : World) (hs : Sees w w.heap.size 1 A n (xs.map (Value.int .i64))) :
    Calls Try.prog 27 #[.slice A n c, .int .i64 v] w (FindPost v xs w) := by
  have hlx : xs.length = n := by have := hs.1; simpa using this
  have HX := hide hlx
  clear hlx
  go_enter Try.func27, Try.ntmps27
  go_wp2
  go_loopw [8] (fun i wr => ∃ j : Nat, j ≤ n ∧ i = .int .i64 j ∧ v ∉ xs.take j ∧ wr = w) (fun i _ => n - (intOf i).toNat)
  case atStart => exact ⟨0, Nat.zero_le _, rfl, by simp, rfl⟩
  case round =>
    obtain ⟨j, hj, rfl, hno, rfl⟩ := hrel
    have HN := hide hno
    clear hno
    by_cases hlt : j < n
    · obtain ⟨b, off, a, rfl, hb, ha, hc⟩ := hs.num hlt
      have HA := hide ha
      have HT := hide (take_snoc xs j a ha)
      clear ha
      by_cases he : v = a
      · subst he
        go_wp2
        go_ret
        exact ⟨_, rfl, ⟨fun _ => List.mem_of_getElem? HA.out, fun _ => by omega⟩, Below.refl _ _⟩
      · have HE := hide he
        have hb1 : (v == a) = false := beq_eq_false_iff_ne.2 he
        clear he
        go_wp2
        go_roundw
        case rel => exact ⟨j + 1, by omega, by go_num, by rw [HT.out]; simp [HN.out, HE.out], trivial⟩
        case measure => simp [intOf]; omega
    · obtain rfl : j = n := by omega
      have HE : Hid (xs.take j = xs) := hide (List.take_of_length_le (by rw [HX.out]; exact Nat.le_refl _))
      go_wp2
      go_ret
      exact ⟨_, rfl, ⟨fun h => absurd h (by decide), fun h => absurd (show v ∈ xs.take j by rw [HE.out]; exact h) HN.out⟩, Below.refl _ _⟩

theorem contains_any (A : Option Addr) (n c : Nat) (xs : List Int) (v : Int) (hn : n ≤ 100000) (w : World) (hs : Sees w w.heap.size 1 A n (xs.map (Value.int .i64))) :
    Calls Try.prog 24 #[.slice A n c, .int .i64 v] w (BoolPost (decide (v ∈ xs)) w) := by
  go_enter Try.func24, Try.ntmps24
  go_wp2_with (go_at_call 27; refine (index_any A n c xs v hn _ hs).mono ?_; rintro e w1 ⟨r, rfl, hr, hb⟩)
  go_ret
  exact ⟨ret_b rfl, hb⟩

theorem find_first {xs q : List Int} {y : Int} (l r : List Int) (hl : l = q ++ [y] ++ r) (hq : ∀ z ∈ q, z ∉ xs) (hy : y ∈ xs) : meetL l xs = y := by
  subst hl
  unfold meetL
  have : q.find? (fun n => decide (n ∈ xs)) = none := List.find?_eq_none.2 (by simpa using hq)
  simp [List.find?_append, this, hy]
theorem find_none {xs l : List Int} (hq : ∀ z ∈ l, z ∉ xs) : meetL l xs = 0 := by
  unfold meetL
  rw [List.find?_eq_none.2 (by simpa using hq)]
  rfl

set_option maxRecDepth 100000 in
set_option maxHeartbeats 2000000 in
theorem meet_any (D t u : Int) (hD : 0 ≤ D ∧ D ≤ 4) (h0 : 0 ≤ t) (ht : I64 t) (h0' : 0 ≤ u) (hu : I64 u) (w : World) :
    Calls Try.prog 18 #[.int .i64 D, .int .i64 t, .int .i64 u] w (IntPost (meetV D t u) w) := by
  have hlen := upV_length (leaf_i64 D u hD h0')
  have HM : Hid (meetV D t u = meetL (upV (leafV D t)) (pathV D u)) := hide rfl
  obtain ⟨xs, hxs⟩ : ∃ xs, pathV D u = xs := ⟨_, rfl⟩
  have hlen' : xs.length ≤ 63 := by rw [← hxs]; exact hlen
  clear hlen
  have HXS := hide hxs
  clear hxs
  refine (callsIn_wide (n := 5)).1 ?_
  refine callsIn_of_wp_marks Try.func18 rfl trivial ?_ rfl
  simp only [Try.ntmps18, List.size_toArray, List.length_cons, List.length_nil, Nat.reduceAdd, Nat.reduceSub, Array.replicate_succ, Array.replicate_zero, List.push_toArray, List.append_toArray, List.nil_append, List.cons_append]
  have bS := Boxed.new w 3 (.int .i64 0)
  have hB0 : Below w.heap.size w (w.alloc (.cells #[.int .i64 0] 3)) := (Below.refl _ w).alloc (Nat.le_refl _) _
  gi_wp2_with (first
    | (refine ⟨trivial, ?_⟩; gi_at_call 16; refine (callsIn_wide.2 (path_any D u hD h0' hu _)).mono ?_; rintro e w1 ⟨A, c, rfl, hcc, hs1, hb1⟩; rw [HXS.out] at hs1 hcc ⊢)
    | (refine ⟨trivial, ?_⟩; gi_at_call 23; refine (callsIn_wide.2 (way_any D t hD h0 ht _)).mono ?_; rintro e w2 ⟨m, rfl, hm1, hm2, hc, hb2⟩))
  have hz1 : w.heap.size + 1 ≤ w1.heap.size := by have := hb1.size; simpa using this
  have hz2 : w1.heap.size + 1 ≤ w2.heap.size := by have := hb2.size; simpa using this
  have bT := Boxed.new w1 26 (.slice A xs.length c)
  have ha1 : Below w1.heap.size w1 (w1.alloc (.cells #[.slice A xs.length c] 26)) := (Below.refl _ w1).alloc (Nat.le_refl _) _
  have hb2' : Below (w1.heap.size + 1) (w1.alloc (.cells #[.slice A xs.length c] 26)) w2 := by rwa [World.size_alloc] at hb2
  have hb12 : Below w1.heap.size w1 w2 := ha1.trans (hb2'.mono (by omega))
  have hb02 : Below (w.heap.size + 1) (w.alloc (.cells #[.int .i64 0] 3)) w2 := by
    have := below_next hb1 hb1.size hb12
    rwa [World.size_alloc] at this
  have hB2 : Below w.heap.size w w2 := hB0.trans (hb02.mono (by omega))
  have hcS : w2.cell? ⟨w.heap.size, 0, none⟩ = some (.int .i64 0) := (hb02.cell (p := ⟨w.heap.size, 0, none⟩) (by simp)).trans bS.cell
  have hfS : w2.frozen? ⟨w.heap.size, 0, none⟩ = false := (hb02.frozen (p := ⟨w.heap.size, 0, none⟩) (by simp)).trans bS.frozen
  have hcT : w2.cell? ⟨w1.heap.size, 0, none⟩ = some (.slice A xs.length c) := (hb2'.cell (p := ⟨w1.heap.size, 0, none⟩) (by simp)).trans bT.cell
  have hs2 : Sees w2 w2.heap.size 1 A xs.length (xs.map (Value.int .i64)) := hs1.later hb12
  clear hb1 hb2 bT ha1 hb2' hb12 hb02 hs1 bS hB0
  refine wpIn_rangeFunc_ownF rfl (by omega) (gf := 25) (lb := #[.pointer (some ⟨m, 0, none⟩)]) rfl trivial (enters_of Try.func25 (by kernel_rfl) rfl)
    (up_stops (5 - 1) (by omega) m (leafV D t) (leaf_i64 D t hD h0) _ hm2 hc) (fun _ _ => trivial) (fun _ _ _ _ _ _ _ _ => trivial) (Below.refl _ _) (fun _ => rfl)
    (fun (pre : List Int) W => (∀ y ∈ pre, y ∉ xs) ∧ Below w2.heap.size w2 W)
    (fun cd (pre : List Int) W => (cd = .ret ∧ (∃ q y, pre = q ++ [y] ∧ (∀ z ∈ q, z ∉ xs) ∧ y ∈ xs ∧ W.cell? ⟨w.heap.size, 0, none⟩ = some (.int .i64 y))) ∧ Below w.heap.size w W)
    (OwnFrom.and (ownFrom_pure _ (fun (pre : List Int) => ∀ y ∈ pre, y ∉ xs)) (ownFrom_below (Nat.le_refl _) (Nat.le_refl _)))
    (fun cd => OwnFrom.and (Own.from (fun s A B row hs hg hr => by obtain ⟨h1, q, y, h2, h3, h4, h5⟩ := hs; exact ⟨h1, q, y, h2, h3, h4, cell_kept h5 hg hr⟩) _) (ownFrom_below (Nat.le_refl _) (by omega)))
    ⟨by simp, Below.refl _ _⟩
    (fun p => { tmps := #[.int .i64 D, .int .i64 t, .int .i64 u, undef, undef, undef, .pointer (some ⟨w.heap.size, 0, none⟩), .pointer (some ⟨w1.heap.size, 0, none⟩), .int .i64 p, .int .i64 D, .int .i64 u, .slice A xs.length c, .int .i64 D, .int .i64 t, .func (.func 25) #[] #[.pointer (some ⟨m, 0, none⟩)], .int .i64 p, undef, undef, undef, undef], defers := [] }) ?assign ?body ?done ?stop
  case assign =>
    intro l x W K hK
    gi_wp2
    exact hK
  case body =>
    rintro lp pre p W ⟨hno, hB⟩ hlt
    have HNO := hide hno
    clear hno
    have hsz := hB.size
    have hcT' : W.cell? ⟨w1.heap.size, 0, none⟩ = some (.slice A xs.length c) := (hB.cell (p := ⟨w1.heap.size, 0, none⟩) (by simp; omega)).trans hcT
    have hsW := hs2.later hB
    by_cases hin : p ∈ xs
    · have HIN := hide hin
      have hdec : decide (p ∈ xs) = true := decide_eq_true hin
      clear hin
      gi_wp2_with (refine ⟨trivial, ?_⟩; gi_at_call 24; refine (CallsIn.inRound lp (callsIn_wide.2 (contains_any A xs.length c xs p (by omega) W hsW))).mono ?_; rintro e w5 ⟨rfl, hb5⟩; have hcS5 : w5.cell? ⟨w.heap.size, 0, none⟩ = some (.int .i64 0) := (hb5.cell (p := ⟨w.heap.size, 0, none⟩) (by simp; omega)).trans ((hB.cell (p := ⟨w.heap.size, 0, none⟩) (by simp; omega)).trans hcS); have hfS5 : w5.frozen? ⟨w.heap.size, 0, none⟩ = false := (hb5.frozen (p := ⟨w.heap.size, 0, none⟩) (by simp; omega)).trans ((hB.frozen (p := ⟨w.heap.size, 0, none⟩) (by simp; omega)).trans hfS))
      exact ⟨(KeepsOthers.of_grownBy (grown_of_below hb5 none) (fun j o e => by cases e)).trans (KeepsOthers.setCell _ _ _), ⟨rfl, pre, p, rfl, HNO.out, HIN.out, World.cell?_setCell_same' _ _ _ (by rw [hcS5]; rfl)⟩, (below_next (below_next hB2 (by omega) hB) (by omega) hb5).setCell (p := ⟨w.heap.size, 0, none⟩) (by simp) _⟩
    · have HIN := hide hin
      have hdec : decide (p ∈ xs) = false := decide_eq_false hin
      clear hin
      gi_wp2_with (refine ⟨trivial, ?_⟩; gi_at_call 24; refine (CallsIn.inRound lp (callsIn_wide.2 (contains_any A xs.length c xs p (by omega) W hsW))).mono ?_; rintro e w5 ⟨rfl, hb5⟩)
      exact ⟨KeepsOthers.of_grownBy (grown_of_below hb5 none) (fun j o e => by cases e), trivial, fun y hy => (List.mem_append.1 hy).elim (HNO.out y) (fun e => by simp at e; subst e; exact HIN.out), below_next hB hB.size hb5⟩
  case done =>
    rintro D' ys W hD' rfl ⟨hno, hB⟩ hK
    have HNO := hide hno
    clear hno
    have hsz := hB.size
    have hcr : W.cell? ⟨w.heap.size, 0, none⟩ = some (.int .i64 0) := (hB.cell (p := ⟨w.heap.size, 0, none⟩) (by simp; omega)).trans hcS
    have hfr : W.frozen? ⟨w.heap.size, 0, none⟩ = false := (hB.frozen (p := ⟨w.heap.size, 0, none⟩) (by simp; omega)).trans hfS
    gi_wp2
    have hK' := (KeepsOthers.setCell W ⟨w.heap.size, 0, none⟩ (.int .i64 0)).same D' _ hK rfl
    refine ⟨by simp, .inl ⟨_, _, rfl, run_takeDeferred hK', ?_⟩⟩
    have hc5 := cell_kept (World.cell?_setCell_same' W ⟨w.heap.size, 0, none⟩ (.int .i64 0) (by rw [hcr]; rfl)) (grownBy_putObj' _ D' (.deferred none)) (fun r e => by cases e; exact ⟨_, hK', rfl⟩)
    refine ⟨.int .i64 0, ?_, ret_n (by rw [HM.out, HXS.out]; exact find_none HNO.out), ((below_next hB2 (by omega) hB).setCell (p := ⟨w.heap.size, 0, none⟩) (by simp) _).trans (belowK_b (w := w) (Nat.le_refl _) _ D' _ _ (by omega) hK' rfl rfl)⟩
    simp [results, Try.f18, go_sem, hc5]
  case stop =>
    rintro D' cd pre W hD' hpre ⟨⟨rfl, q, y, rfl, hq, hy, hcr⟩, hB⟩ hK
    obtain ⟨r, hr⟩ := hpre
    have HR := hide hr
    clear hr
    gi_wp2
    refine ⟨by simp, .inl ⟨_, _, rfl, run_takeDeferred hK, ?_⟩⟩
    have hc5 := cell_kept hcr (grownBy_putObj' _ D' (.deferred none)) (fun r e => by cases e; exact ⟨_, hK, rfl⟩)
    refine ⟨.int .i64 y, ?_, ret_n (by rw [HM.out, HXS.out]; exact find_first _ r HR.out.symm hq hy), hB.trans (belowK_b (w := w) (Nat.le_refl _) W D' _ _ (by omega) hK rfl rfl)⟩
    simp [results, Try.f18, go_sem, hc5]
end Go.Proofs.Ytagbngilgjmjiaa
