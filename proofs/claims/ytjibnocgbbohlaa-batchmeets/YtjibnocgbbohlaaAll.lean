/- Contracts of batch.All, batch.Priors and batch.Still. -/
import Derived.Test.YtjibnocgbbohlaaIter
namespace Go.Proofs.Ytjibnocgbbohlaa
open Go.RowKit Go.Shelf

attribute [local go_sem] Oper.semAt_some

def IntPost (a : Int) (w : World) (e : Ending) (w' : World) : Prop := e = .returned (.int .i64 a) ∧ Below w.heap.size w w'
def BoolPost (p : Bool) (w : World) (e : Ending) (w' : World) : Prop := e = .returned (.bool p) ∧ Below w.heap.size w w'

set_option maxRecDepth 100000 in
set_option maxHeartbeats 2000000 in
theorem all_any (A : Option Addr) (cap : Nat) (l : List E3) (len : Nat) (hlen : len = l.length) (hmax : len ≤ 1000) (x lo hi : Int) (hx : I64 x) (hl : I64 lo) (hh : I64 hi) (hg : Good l) (w : World)
    (hs : Sees w w.heap.size 3 A len (ecells l)) :
    Calls Try.prog 12 #[.slice A len cap, .int .i64 x, .int .i64 lo, .int .i64 hi] w (IntPost (allV l x lo hi) w) := by
  have HL := hide hlen
  clear hlen
  refine (callsIn_wide (n := 5)).1 ?_
  refine callsIn_of_wp_marks Try.func12 rfl trivial ?_ rfl
  simp only [Try.ntmps12, List.size_toArray, List.length_cons, List.length_nil, Nat.reduceAdd, Nat.reduceSub, Array.replicate_succ, Array.replicate_zero, List.push_toArray, List.append_toArray, List.nil_append, List.cons_append]
  gi_wp2_with (refine ⟨trivial, ?_⟩; gi_at_call 25; refine (contents_in _ _ _ _ _ _ _ _).mono ?_; rintro e w' ⟨rfl, rfl⟩)
  have bS := Boxed.new w 3 (.int .i64 x)
  have b0 := Boxed.new (w.alloc (.cells #[.int .i64 x] 3)) 22 (.slice A len cap)
  have b1 := Boxed.new ((w.alloc (.cells #[.int .i64 x] 3)).alloc (.cells #[.slice A len cap] 22)) 3 (.int .i64 x)
  have b2 := Boxed.new (((w.alloc (.cells #[.int .i64 x] 3)).alloc (.cells #[.slice A len cap] 22)).alloc (.cells #[.int .i64 x] 3)) 3 (.int .i64 lo)
  have b3 := Boxed.new ((((w.alloc (.cells #[.int .i64 x] 3)).alloc (.cells #[.slice A len cap] 22)).alloc (.cells #[.int .i64 x] 3)).alloc (.cells #[.int .i64 lo] 3)) 3 (.int .i64 hi)
  simp only [World.size_alloc] at b0 b1 b2 b3
  have hB0 : Below w.heap.size w (((((w.alloc (.cells #[.int .i64 x] 3)).alloc (.cells #[.slice A len cap] 22)).alloc (.cells #[.int .i64 x] 3)).alloc (.cells #[.int .i64 lo] 3)).alloc (.cells #[.int .i64 hi] 3)) :=
    (((((Below.refl _ w).alloc (Nat.le_refl _) _).alloc (by simp) _).alloc (by simp; omega) _).alloc (by simp; omega) _).alloc (by simp; omega) _
  refine wpIn_rangeFunc_ownF rfl (by omega) (gf := 27) (lb := #[.pointer (some ⟨w.heap.size + 1 + 1, 0, none⟩), .pointer (some ⟨w.heap.size + 1, 0, none⟩), .pointer (some ⟨w.heap.size + 1 + 1 + 1, 0, none⟩), .pointer (some ⟨w.heap.size + 1 + 1 + 1 + 1, 0, none⟩)]) rfl trivial (enters_of Try.func27 (by kernel_rfl) rfl)
    (contents_stops (5 - 1) (by omega) w.heap.size (w.heap.size + 1) (w.heap.size + 5) len A cap l HL.out hmax x lo hi hx hl hh hg _ (by simp; omega) (by simp) (by omega)
      (((b0.alloc _).alloc _).alloc _).cell ((b1.alloc _).alloc _).cell (b2.alloc _).cell b3.cell (hs.below hB0)) (fun h k => h.trans k) (fun W l o o' => Keep.put (by simp; omega) (by simp) W l o o') (Below.refl _ _) (fun _ => rfl)
    (fun pre W => (W.cell? ⟨w.heap.size, 0, none⟩ = some (.int .i64 (lastOf x pre)) ∧ W.frozen? ⟨w.heap.size, 0, none⟩ = false) ∧ Below w.heap.size w W)
    (fun _ _ _ => False)
    (OwnFrom.and (Own.from (fun s A B row hs hg hr => ⟨cell_kept hs.1 hg hr, (frozen_kept hs.1 hg hr).trans hs.2⟩) _) (ownFrom_below (Nat.le_refl _) (by simp; omega)))
    (fun _ _ _ _ _ hs _ _ => hs)
    ⟨⟨((((bS.alloc _).alloc _).alloc _).alloc _).cell, ((((bS.alloc _).alloc _).alloc _).alloc _).frozen⟩, hB0⟩
    (fun p => { tmps := #[.slice A len cap, .int .i64 x, .int .i64 lo, .int .i64 hi, undef, undef, undef, undef, .int .i64 0, .pointer (some ⟨w.heap.size, 0, none⟩), undef, .int .i64 p.2, .int .i64 x, .slice A len cap, .int .i64 x, .int .i64 lo, .int .i64 hi,
      .func (.func 27) #[] #[.pointer (some ⟨w.heap.size + 1 + 1, 0, none⟩), .pointer (some ⟨w.heap.size + 1, 0, none⟩), .pointer (some ⟨w.heap.size + 1 + 1 + 1, 0, none⟩), .pointer (some ⟨w.heap.size + 1 + 1 + 1 + 1, 0, none⟩)], .int .i64 p.1, .int .i64 p.2, undef, undef], defers := [] }) ?assign ?body ?done ?stop
  case assign =>
    intro l x W K hK
    gi_wp2
    exact hK
  case body =>
    rintro lp pre p W ⟨⟨hc, hf⟩, hB⟩ _
    gi_wp2
    refine ⟨KeepsOthers.setCell _ _ _, ⟨(KeepsWalks.setCell W _ _).size, fun b hb => Below.heap_setCell W _ _ b (by simp; omega)⟩, ⟨?_, ?_⟩, hB.setCell (p := ⟨w.heap.size, 0, none⟩) (Nat.le_refl _) _⟩
    · rw [lastOf_snoc]; exact World.cell?_setCell_same' _ _ _ (by rw [hc]; rfl)
    · rw [World.frozen?_setCell]; exact hf
  case done =>
    rintro D ys W hD rfl ⟨⟨hc, hf⟩, hB⟩ hK
    rw [lastOf_pairs] at hc
    gi_wp2
    refine ⟨by simp, .inl ⟨_, _, rfl, run_takeDeferred hK, ?_⟩⟩
    exact ⟨_, results_tmp rfl _ _ _, rfl, hB.trans (belowK_b (w := w) (Nat.le_refl _) W D _ _ (by simp at hD; omega) hK rfl rfl)⟩
  case stop =>
    rintro D c pre W _ _ h _
    exact h.elim

def RowPost (sz n : Nat) (xs : List Value) (w : World) (e : Ending) (w' : World) : Prop := ∃ A c, e = .returned (.slice A n c) ∧ n ≤ c ∧ Sees w' w'.heap.size sz A n xs ∧ Below w.heap.size w w'

theorem info3 : (Try.prog.info? 3).map (fun i => (i.zero, i.size, i.bytes)) = some (some (.int .i64 0), 1, 8) := by kernel_rfl

set_option maxRecDepth 100000 in
set_option maxHeartbeats 2000000 in
theorem priors_any (A : Option Addr) (cap : Nat) (l : List E3) (len : Nat) (hlen : len = l.length) (hmax : len ≤ 1000) (x lo hi : Int) (hx : I64 x) (hl : I64 lo) (hh : I64 hi) (hg : Good l) (w : World)
    (hs : Sees w w.heap.size 3 A len (ecells l)) :
    Calls Try.prog 15 #[.slice A len cap, .int .i64 x, .int .i64 lo, .int .i64 hi] w (RowPost 1 len ((prs l x lo hi).map (Value.int .i64)) w) := by
  obtain ⟨i0, hi0, hz0, hz1, hz2⟩ := info_parts info3
  have HL := hide hlen
  clear hlen
  refine (callsIn_wide (n := 5)).1 ?_
  refine callsIn_of_wp_marks Try.func15 rfl trivial ?_ rfl
  simp only [Try.ntmps15, List.size_toArray, List.length_cons, List.length_nil, Nat.reduceAdd, Nat.reduceSub, Array.replicate_succ, Array.replicate_zero, List.push_toArray, List.append_toArray, List.nil_append, List.cons_append]
  gi_wp2_with (first
    | (gi_at_make; refine wpListIn_make_own _ rfl _ _ 29 rfl w.heap.size 3 i0 (.int .i64 0) 1 Try.underlying29 hi0 hz0 hz1 .i64 .i64 (len : Int) len rfl rfl rfl (by rw [hz2]; omega) (by unfold maxLen; omega) (Nat.le_refl _) ?_; intro w1 hown1 hgrow1)
    | (refine ⟨trivial, ?_⟩; gi_at_call 25; refine (contents_in _ _ _ _ _ _ _ _).mono ?_; rintro e w' ⟨rfl, rfl⟩))
  have hlt1 : w.heap.size < w1.heap.size := (hown1.lt w.heap.size rfl).2
  have hBw1 : Below w.heap.size w w1 := (Below.refl _ _).grown hgrow1 (Nat.le_refl _) (fun k e => by cases e)
  have bS := Boxed.new w1 29 (.slice (some ⟨w.heap.size, 0, none⟩) 0 len)
  have b0 := Boxed.new (w1.alloc (.cells #[.slice (some ⟨w.heap.size, 0, none⟩) 0 len] 29)) 22 (.slice A len cap)
  have b1 := Boxed.new ((w1.alloc (.cells #[.slice (some ⟨w.heap.size, 0, none⟩) 0 len] 29)).alloc (.cells #[.slice A len cap] 22)) 3 (.int .i64 x)
  have b2 := Boxed.new (((w1.alloc (.cells #[.slice (some ⟨w.heap.size, 0, none⟩) 0 len] 29)).alloc (.cells #[.slice A len cap] 22)).alloc (.cells #[.int .i64 x] 3)) 3 (.int .i64 lo)
  have b3 := Boxed.new ((((w1.alloc (.cells #[.slice (some ⟨w.heap.size, 0, none⟩) 0 len] 29)).alloc (.cells #[.slice A len cap] 22)).alloc (.cells #[.int .i64 x] 3)).alloc (.cells #[.int .i64 lo] 3)) 3 (.int .i64 hi)
  simp only [World.size_alloc] at b0 b1 b2 b3
  have hB0 : Below w.heap.size w (((((w1.alloc (.cells #[.slice (some ⟨w.heap.size, 0, none⟩) 0 len] 29)).alloc (.cells #[.slice A len cap] 22)).alloc (.cells #[.int .i64 x] 3)).alloc (.cells #[.int .i64 lo] 3)).alloc (.cells #[.int .i64 hi] 3)) :=
    ((((hBw1.alloc (by omega) _).alloc (by simp; omega) _).alloc (by simp; omega) _).alloc (by simp; omega) _).alloc (by simp; omega) _
  refine wpIn_rangeFunc_ownG rfl (by omega) (gf := 27) (lb := #[.pointer (some ⟨w1.heap.size + 1 + 1, 0, none⟩), .pointer (some ⟨w1.heap.size + 1, 0, none⟩), .pointer (some ⟨w1.heap.size + 1 + 1 + 1, 0, none⟩), .pointer (some ⟨w1.heap.size + 1 + 1 + 1 + 1, 0, none⟩)]) rfl trivial (enters_of Try.func27 (by kernel_rfl) rfl)
    (contents_stops (5 - 1) (by omega) w.heap.size (w1.heap.size + 1) (w1.heap.size + 5) len A cap l HL.out hmax x lo hi hx hl hh hg _ (by simp; omega) (by simp) (by omega)
      (((b0.alloc _).alloc _).alloc _).cell ((b1.alloc _).alloc _).cell (b2.alloc _).cell b3.cell (hs.below hB0)) (fun h k => h.trans k) (fun W l o o' => Keep.put (by simp; omega) (by simp) W l o o') (Below.refl _ _) (fun _ => rfl)
    (fun (pre : List (Int × Int)) W => (∃ v, Boxed W w1.heap.size 29 v ∧ W.ownsRow w.heap.size 3 1 v pre.length ((pre.map (·.1)).map (Value.int .i64)) ∧ v = .slice (some ⟨w.heap.size, 0, none⟩) pre.length len) ∧ Below w.heap.size w W ∧ w1.heap.size + 5 ≤ W.heap.size)
    (fun _ _ _ => False)
    (OwnFrom.and (Own.from (holdsRow_own w.heap.size w1.heap.size 29 3 1 (fun (pre : List (Int × Int)) => pre.length) (fun pre => (pre.map (·.1)).map (Value.int .i64)) (fun pre v => v = .slice (some ⟨w.heap.size, 0, none⟩) pre.length len)) _) (OwnFrom.and (ownFrom_below (Nat.le_refl _) (by simp; omega)) (fun s W W' row h hg _ => Nat.le_trans h hg.size)))
    (fun _ _ _ _ _ hs _ _ => hs)
    ⟨⟨_, (((bS.alloc _).alloc _).alloc _).alloc _, ((((hown1.alloc _).alloc _).alloc _).alloc _).alloc _, rfl⟩, hB0, by simp⟩
    (fun p => { tmps := #[.slice A len cap, .int .i64 x, .int .i64 lo, .int .i64 hi, undef, undef, undef, undef, .slice none 0 0, .pointer (some ⟨w1.heap.size, 0, none⟩), .int .i64 p.1, .slice A len cap, .int .i64 len, .slice (some ⟨w.heap.size, 0, none⟩) 0 len, .slice A len cap, .int .i64 x, .int .i64 lo, .int .i64 hi,
      .func (.func 27) #[] #[.pointer (some ⟨w1.heap.size + 1 + 1, 0, none⟩), .pointer (some ⟨w1.heap.size + 1, 0, none⟩), .pointer (some ⟨w1.heap.size + 1 + 1 + 1, 0, none⟩), .pointer (some ⟨w1.heap.size + 1 + 1 + 1 + 1, 0, none⟩)], .int .i64 p.1, .int .i64 p.2, undef, undef, undef, undef, undef], defers := [] }) ?assign ?body ?done ?stop
  case assign =>
    intro l x W K hK
    gi_wp2
    exact hK
  case body =>
    rintro lp pre p W ⟨⟨v, hv, hrow, rfl⟩, hB, hsz⟩ hlt
    have hc := hv.cell
    gi_wp2_with (gi_at_builtin; refine wpListIn_append_fits _ rfl _ _ 29 rfl w.heap.size 3 i0 1 Try.underlying29 hi0 hz1 w.heap.size pre.length len _ rfl (hrow.alloc _) ⟨W.heap.size, 0, none⟩ 1 1 [.int .i64 p.1] rfl rfl (cell_one_new _ _ _) (by simp [Value.oneCell']) (by omega) ?_; intro w2 hown' hgrow; obtain ⟨hv1, hv2, hr2, hk2, hb2⟩ := hv.appended (by decide) hrow hB.size (by omega) hown' hgrow; have hc1 := hv1.cell; have hf1 := hv1.frozen)
    refine ⟨hk2.from _, ⟨hb2.size, fun b hb => (Below.heap_setCell w2 _ _ b (by simp; omega)).trans ((hgrow.block b (by simp; omega) (by simp; omega)).trans (Below.heap_alloc W _ b (by omega)))⟩, ⟨_, hv2, ?_, ?_⟩, hB.trans hb2, Nat.le_trans hsz hb2.size⟩
    · simpa using hr2
    · simp
  case done =>
    rintro D ys W hD rfl ⟨⟨v, hv, hrow, rfl⟩, hB, _⟩ hK
    have hc := hv.cell
    gi_wp2
    refine ⟨by simp, .inl ⟨_, _, rfl, run_takeDeferred hK, ?_⟩⟩
    have hrow' := ownsRow_putObj hrow (.deferred none) hK rfl
    rw [pairs_fst, pairs_length, ← HL.out] at hrow'
    exact ⟨_, results_tmp rfl _ _ _, some ⟨w.heap.size, 0, none⟩, len, by simp [pairs_length, ← HL.out], Nat.le_refl _, Sees.of_own hrow', hB.trans (belowK_b (w := w) (Nat.le_refl _) W D _ _ (by simp at hD; omega) hK rfl rfl)⟩
  case stop =>
    rintro D c pre W _ _ h _
    exact h.elim
end Go.Proofs.Ytjibnocgbbohlaa
