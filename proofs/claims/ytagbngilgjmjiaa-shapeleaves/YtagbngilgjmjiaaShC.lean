/- Contracts of shape.Path and shape.Level. -/
import Derived.Test.YtagbngilgjmjiaaShI
namespace Go.Proofs.Ytagbngilgjmjiaa
open Go.RowKit Go.Shelf

attribute [local go_sem] Oper.semAt_some

set_option maxRecDepth 100000 in
set_option maxHeartbeats 2000000 in
theorem appendSeq_any (m : Nat) (x : Int) (hx : I64 x) (w : World) (hm : m < w.heap.size) (hcb : w.cell? ⟨m, 0, none⟩ = some (.int .i64 x)) :
    Calls Try.prog 26 #[.slice none 0 0, .func (.func 25) #[] #[.pointer (some ⟨m, 0, none⟩)]] w (RowPost 1 (upV x).length ((upV x).map (Value.int .i64)) w) := by
  obtain ⟨i0, hi0, hz0, hz1, hz2⟩ := info_parts info3
  refine (callsIn_wide (n := 5)).1 ?_
  refine callsIn_of_wp_marks Try.func26 rfl trivial ?_ rfl
  simp only [Try.ntmps26, List.size_toArray, List.length_cons, List.length_nil, Nat.reduceAdd, Nat.reduceSub, Array.replicate_succ, Array.replicate_zero, List.push_toArray, List.append_toArray, List.nil_append, List.cons_append]
  gi_wp2
  have bS := Boxed.new w 26 (.slice none 0 0)
  have hB0 : Below w.heap.size w (w.alloc (.cells #[.slice none 0 0] 26)) := (Below.refl _ w).alloc (Nat.le_refl _) _
  refine wpIn_rangeFunc_ownG rfl (by omega) (gf := 25) (lb := #[.pointer (some ⟨m, 0, none⟩)]) rfl trivial (enters_of Try.func25 (by kernel_rfl) rfl)
    (up_stops (5 - 1) (by omega) m x hx _ (by simp; omega) ((hB0.cell (p := ⟨m, 0, none⟩) hm).trans hcb)) (fun _ _ => trivial) (fun _ _ _ _ _ _ _ _ => trivial) (Below.refl _ _) (fun _ => rfl)
    (fun (pre : List Int) W => (∃ v, Boxed W w.heap.size 26 v ∧ W.ownsRow w.heap.size 3 1 v pre.length (pre.map (Value.int .i64)) ∧ True) ∧ Below w.heap.size w W ∧ w.heap.size + 1 ≤ W.heap.size)
    (fun _ _ _ => False)
    (OwnFrom.and (Own.from (holdsRow_own w.heap.size w.heap.size 26 3 1 (fun (pre : List Int) => pre.length) (fun pre => pre.map (Value.int .i64)) (fun _ _ => True)) _) (OwnFrom.and (ownFrom_below (Nat.le_refl _) (by simp)) (fun s W W' row h hg _ => Nat.le_trans h hg.size)))
    (fun _ _ _ _ _ hs _ _ => hs)
    ⟨⟨_, bS, World.ownsRow_nil _ _ _ _, trivial⟩, hB0, by simp⟩
    (fun p => { tmps := #[.slice none 0 0, .func (.func 25) #[] #[.pointer (some ⟨m, 0, none⟩)], .pointer (some ⟨w.heap.size, 0, none⟩), undef, .slice none 0 0, .int .i64 p, .func (.func 25) #[] #[.pointer (some ⟨m, 0, none⟩)], .int .i64 p, undef, undef, undef, undef, undef], defers := [] }) ?assign ?body ?done ?stop
  case assign =>
    intro l x W K hK
    gi_wp2
    exact hK
  case body =>
    rintro lp pre p W ⟨⟨v, hv, hrow, _⟩, hB, hsz⟩ hlt
    have hc := hv.cell
    gi_wp2_with (gi_at_builtin; refine wpListIn_append_own _ rfl _ _ 26 rfl w.heap.size 3 i0 (.int .i64 0) 1 8 Try.underlying26 hi0 hz0 hz1 hz2 rfl (by decide) _ _ _ rfl (hrow.alloc _) ⟨W.heap.size, 0, none⟩ 1 1 [.int .i64 p] rfl rfl (cell_one_new _ _ _) (by simp [Value.oneCell']) (by unfold maxLen; omega) (by omega) (by have := hB.size; simp; omega) ?_; intro v' w2 hown' hgrow _; obtain ⟨g', cap', rfl⟩ := ownsRow_succ hown'; obtain ⟨hv1, hv2, hr2, hk2, hb2⟩ := hv.appended (by decide) hrow hB.size (Nat.le_refl _) hown' hgrow; have hc1 := hv1.cell; have hf1 := hv1.frozen)
    refine ⟨hk2.from _, trivial, ⟨_, hv2, ?_, trivial⟩, hB.trans hb2, Nat.le_trans hsz hb2.size⟩
    simpa using hr2
  case done =>
    rintro D ys W hD rfl ⟨⟨v, hv, hrow, _⟩, hB, _⟩ hK
    have hc := hv.cell
    gi_wp2
    refine ⟨by simp, .inl ⟨_, _, rfl, run_takeDeferred hK, ?_⟩⟩
    have hrow' := ownsRow_putObj hrow (.deferred none) hK rfl
    obtain ⟨A, c, rfl, hcc⟩ := own_form hrow'
    exact ⟨_, results_tmp rfl _ _ _, A, c, rfl, hcc, Sees.of_own hrow', hB.trans (belowK_b (w := w) (Nat.le_refl _) W D _ _ (by simp at hD; omega) hK rfl rfl)⟩
  case stop =>
    rintro D c pre W _ _ h _
    exact h.elim

theorem collect_any (m : Nat) (x : Int) (hx : I64 x) (w : World) (hm : m < w.heap.size) (hcb : w.cell? ⟨m, 0, none⟩ = some (.int .i64 x)) :
    Calls Try.prog 22 #[.func (.func 25) #[] #[.pointer (some ⟨m, 0, none⟩)]] w (RowPost 1 (upV x).length ((upV x).map (Value.int .i64)) w) := by
  go_enter Try.func22, Try.ntmps22
  go_wp2_with (go_at_call 26; refine (appendSeq_any m x hx _ hm hcb).mono ?_; rintro e w1 ⟨A, c, rfl, hcc, hs, hb⟩)
  go_ret
  exact ⟨A, c, rfl, hcc, hs, hb⟩

theorem path_any (D t : Int) (hD : 0 ≤ D ∧ D ≤ 4) (h0 : 0 ≤ t) (ht : I64 t) (w : World) : Calls Try.prog 16 #[.int .i64 D, .int .i64 t] w (RowPost 1 (pathV D t).length ((pathV D t).map (Value.int .i64)) w) := by
  go_enter Try.func16, Try.ntmps16
  go_wp2_with (first
    | (go_at_call 23; refine (way_any D t hD h0 ht _).mono ?_; rintro e w1 ⟨m, rfl, hm1, hm2, hc, hb1⟩)
    | (go_at_call 22; refine (collect_any m _ (leaf_i64 D t hD h0) _ hm2 hc).mono ?_; rintro e w2 ⟨A, c, rfl, hcc, hs, hb2⟩))
  go_ret
  exact ⟨A, c, rfl, hcc, hs, below_next hb1 hb1.size hb2⟩

set_option maxRecDepth 100000 in
set_option maxHeartbeats 2000000 in
theorem level_any (n : Int) (hn : I64 n) (w : World) : Calls Try.prog 13 #[.int .i64 n] w (IntPost (levV n) w) := by
  refine (callsIn_wide (n := 5)).1 ?_
  refine callsIn_of_wp_marks Try.func13 rfl trivial ?_ rfl
  simp only [Try.ntmps13, List.size_toArray, List.length_cons, List.length_nil, Nat.reduceAdd, Nat.reduceSub, Array.replicate_succ, Array.replicate_zero, List.push_toArray, List.append_toArray, List.nil_append, List.cons_append]
  have bS := Boxed.new w 3 (.int .i64 0)
  have hB0 : Below w.heap.size w (w.alloc (.cells #[.int .i64 0] 3)) := (Below.refl _ w).alloc (Nat.le_refl _) _
  gi_wp2_with (first
    | (refine ⟨trivial, ?_⟩; gi_at_call 11; refine (callsIn_wide.2 (parent_any n hn _)).mono ?_; rintro e w1 ⟨rfl, hb1⟩)
    | (refine ⟨trivial, ?_⟩; gi_at_call 21; refine (callsIn_wide.2 (up_any (parV n) _)).mono ?_; rintro e w2 ⟨m, rfl, hm1, hm2, hc, hb2⟩))
  have hz1 : w.heap.size + 1 ≤ w1.heap.size := by have := hb1.size; simpa using this
  have hz2 := hb2.size
  have hb12 : Below (w.heap.size + 1) (w.alloc (.cells #[.int .i64 0] 3)) w2 := by
    have := below_next hb1 hb1.size hb2
    rwa [World.size_alloc] at this
  have hB2 : Below w.heap.size w w2 := hB0.trans (hb12.mono (by omega))
  have hcS : w2.cell? ⟨w.heap.size, 0, none⟩ = some (.int .i64 0) := (hb12.cell (p := ⟨w.heap.size, 0, none⟩) (by simp)).trans bS.cell
  have hfS : w2.frozen? ⟨w.heap.size, 0, none⟩ = false := (hb12.frozen (p := ⟨w.heap.size, 0, none⟩) (by simp)).trans bS.frozen
  refine wpIn_rangeFunc_ownF rfl (by omega) (gf := 25) (lb := #[.pointer (some ⟨m, 0, none⟩)]) rfl trivial (enters_of Try.func25 (by kernel_rfl) rfl)
    (up_stops (5 - 1) (by omega) m (parV n) (par_i64 hn) _ hm2 hc) (fun _ _ => trivial) (fun _ _ _ _ _ _ _ _ => trivial) (Below.refl _ _) (fun _ => rfl)
    (fun (pre : List Int) W => (W.cell? ⟨w.heap.size, 0, none⟩ = some (.int .i64 (pre.length : Int)) ∧ W.frozen? ⟨w.heap.size, 0, none⟩ = false) ∧ Below w.heap.size w W)
    (fun _ _ _ => False)
    (OwnFrom.and (Own.from (fun s A B row hs hg hr => ⟨cell_kept hs.1 hg hr, (frozen_kept hs.1 hg hr).trans hs.2⟩) _) (ownFrom_below (Nat.le_refl _) (by omega)))
    (fun _ _ _ _ _ hs _ _ => hs)
    ⟨⟨hcS, hfS⟩, hB2⟩
    (fun p => { tmps := #[.int .i64 n, undef, .int .i64 0, .pointer (some ⟨w.heap.size, 0, none⟩), .int .i64 n, .int .i64 (parV n), .func (.func 25) #[] #[.pointer (some ⟨m, 0, none⟩)], .int .i64 p, undef, undef, undef], defers := [] }) ?assign ?body ?done ?stop
  case assign =>
    intro l x W K hK
    gi_wp2
    simpa [encI] using hK
  case body =>
    rintro lp pre p W ⟨⟨hc, hf⟩, hB⟩ hlt
    have HW : Hid ((pre.length : Int) + 1 = ((pre ++ [p]).length : Int)) := hide (by simp)
    gi_wp2
    refine ⟨KeepsOthers.setCell _ _ _, trivial, ⟨?_, ?_⟩, hB.setCell (p := ⟨w.heap.size, 0, none⟩) (Nat.le_refl _) _⟩
    · rw [← HW.out]; exact World.cell?_setCell_same' _ _ _ (by rw [hc]; rfl)
    · rw [World.frozen?_setCell]; exact hf
  case done =>
    rintro D ys W hD rfl ⟨⟨hc, hf⟩, hB⟩ hK
    gi_wp2
    refine ⟨by simp, .inl ⟨_, _, rfl, run_takeDeferred hK, ?_⟩⟩
    exact ⟨_, results_tmp rfl _ _ _, rfl, hB.trans (belowK_b (w := w) (Nat.le_refl _) W D _ _ (by omega) hK rfl rfl)⟩
  case stop =>
    rintro D c pre W _ _ h _
    exact h.elim
end Go.Proofs.Ytagbngilgjmjiaa
