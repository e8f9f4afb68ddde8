/- The contract of the law's marks. -/
import Derived.Test.YtjghdbkkjhnpfaaM4
import Derived.Test.YtjghdbkkjhnpfaaOpenT
import Derived.Deep.RegionHeld3
import Derived.Deep.AppendLies
namespace Go.Proofs.Ytjghdbkkjhnpfaa
open Go.RowKit
set_option linter.unusedVariables false

theorem infoMk : (Try.prog.info? 141).map (fun i => (i.zero, i.size, i.bytes)) = some (some (.agg #[.int .i64 0, .int .i64 0, .int .i64 0, .int .i64 0, .int .i64 0, .int .i64 0]), 6, 48) := by kernel_rfl
theorem mcells_length (l : List M6) : (mcells l).length = l.length * 6 := by
  induction l with
  | nil => rfl
  | cons e l ih => simp only [mcells, List.flatMap_cons, List.length_append] at ih ⊢; rw [ih]; simp; omega
theorem mcells_append (a b : List M6) : mcells (a ++ b) = mcells a ++ mcells b := List.flatMap_append
theorem mcells_at {l : List M6} {k : Nat} {e : M6} (h : l[k]? = some e) (j : Nat) (u : Value) (hu : ([.int .i64 e.1, .int .i64 e.2.1, .int .i64 e.2.2.1, .int .i64 e.2.2.2.1, .int .i64 e.2.2.2.2.1, .int .i64 e.2.2.2.2.2] : List Value)[j]? = some u) : (mcells l)[k * 6 + j]? = some u := by
  have hj : j < 6 := (List.getElem?_eq_some_iff.1 hu).1
  induction l generalizing k with
  | nil => simp at h
  | cons d l ih =>
    cases k with
    | zero =>
      simp at h
      subst h
      rw [show mcells (d :: l) = [.int .i64 d.1, .int .i64 d.2.1, .int .i64 d.2.2.1, .int .i64 d.2.2.2.1, .int .i64 d.2.2.2.2.1, .int .i64 d.2.2.2.2.2] ++ mcells l from rfl, List.getElem?_append_left (by simp; omega)]
      simpa using hu
    | succ k =>
      have ih := ih (k := k) (by simpa using h)
      rw [show mcells (d :: l) = [.int .i64 d.1, .int .i64 d.2.1, .int .i64 d.2.2.1, .int .i64 d.2.2.2.1, .int .i64 d.2.2.2.2.1, .int .i64 d.2.2.2.2.2] ++ mcells l from rfl, List.getElem?_append_right (by simp; omega)]
      simp only [List.length_cons, List.length_nil]
      rw [show (k + 1) * 6 + j - (0 + 1 + 1 + 1 + 1 + 1 + 1) = k * 6 + j by omega]
      exact ih
theorem mcells_one (l : List M6) : ∀ u ∈ mcells l, u.oneCell' = true := by
  intro u hu
  simp only [mcells, List.mem_flatMap] at hu
  obtain ⟨e, _, h⟩ := hu
  simp at h
  rcases h with rfl | rfl | rfl | rfl | rfl | rfl <;> rfl
theorem Sees.mark {w : World} {B : Nat} {A : Option Addr} {l : List M6} (h : Sees w B 6 A l.length (mcells l)) {k : Nat} (hk : k < l.length) :
    ∃ (b off : Nat) (a0 a1 a2 a3 a4 a5 : Int), A = some ⟨b, off, none⟩ ∧ b < B ∧ l[k]? = some (a0, a1, a2, a3, a4, a5) ∧ w.cell? ⟨b, off + k * 6, none⟩ = some (.int .i64 a0) ∧ w.cell? ⟨b, off + k * 6 + 1, none⟩ = some (.int .i64 a1) ∧ w.cell? ⟨b, off + k * 6 + 2, none⟩ = some (.int .i64 a2) ∧ w.cell? ⟨b, off + k * 6 + 3, none⟩ = some (.int .i64 a3) ∧ w.cell? ⟨b, off + k * 6 + 4, none⟩ = some (.int .i64 a4) ∧ w.cell? ⟨b, off + k * 6 + 5, none⟩ = some (.int .i64 a5) := by
  obtain ⟨b, off, e, hb, hc⟩ := h.2 (by omega)
  obtain ⟨⟨a0, a1, a2, a3, a4, a5⟩, he⟩ : ∃ e, l[k]? = some e := ⟨l[k], List.getElem?_eq_getElem hk⟩
  have f := mcells_at he
  exact ⟨b, off, a0, a1, a2, a3, a4, a5, e, hb, he, hc _ _ (f 0 _ rfl), (by have := hc _ _ (f 1 _ rfl); rwa [← Nat.add_assoc] at this), (by have := hc _ _ (f 2 _ rfl); rwa [← Nat.add_assoc] at this), (by have := hc _ _ (f 3 _ rfl); rwa [← Nat.add_assoc] at this), (by have := hc _ _ (f 4 _ rfl); rwa [← Nat.add_assoc] at this), (by have := hc _ _ (f 5 _ rfl); rwa [← Nat.add_assoc] at this)⟩

set_option maxRecDepth 100000 in
set_option maxHeartbeats 4000000 in
theorem marks_any (A : Option Addr) (cap : Nat) (l : List M6) (len : Nat) (hlen : len = l.length) (hmax : len ≤ 100000) (w : World) (hs : Sees w w.heap.size 6 A len (mcells l)) :
    Calls Try.prog 35 #[.slice A len cap] w (FRowPost 6 len (mcells l) w) := by
  obtain ⟨i0, hi0, hz0, hz1, hz2⟩ := info_parts infoMk
  have HL := hide hlen
  clear hlen
  go_enter Try.func35, Try.ntmps35
  go_wp2
  go_loopw [3, 4] (fun a i wr => ∃ j : Nat, j ≤ len ∧ i = .int .i64 j ∧ wr.ownsRow w.heap.size 141 6 a j (mcells (l.take j)) ∧ Below w.heap.size w wr)
    (fun _ i _ => len - (intOf i).toNat)
  case atStart => exact ⟨0, Nat.zero_le _, rfl, own_empty w _ _ _ (Nat.le_refl _), (Below.refl _ _).alloc (Nat.le_refl _) _⟩
  case round =>
    obtain ⟨j, hj, rfl, hown, hB⟩ := hrel
    by_cases hlt : j < len
    · have hs' := hs.below hB
      rw [HL.out] at hs'
      obtain ⟨b, off, a0, a1, a2, a3, a4, a5, rfl, hb, he, c1, c2, c3, c4, c5, c6⟩ := hs'.mark (k := j) (by have := HL.out; omega)
      have HT := hide (take_snoc l j _ he)
      clear he hs'
      go_wp2_with fail
      have hj0 : (0 : Int) ≤ (j : Int) := Int.natCast_nonneg _
      have hj1 : (j : Int) < (len : Int) := by omega
      have ag := own_ne hown hb
      have lb : b < wr.heap.size := Nat.lt_of_lt_of_le hb hB.size
      have hbs := hB.size
      go_region_held3 (fun w' => w'.cell? ⟨b, off + j * 6, none⟩ = some (.int .i64 a0) ∧ w'.cell? ⟨b, off + j * 6 + 1, none⟩ = some (.int .i64 a1) ∧ w'.cell? ⟨b, off + j * 6 + 2, none⟩ = some (.int .i64 a2) ∧ w'.cell? ⟨b, off + j * 6 + 3, none⟩ = some (.int .i64 a3) ∧ w'.cell? ⟨b, off + j * 6 + 4, none⟩ = some (.int .i64 a4) ∧ w'.cell? ⟨b, off + j * 6 + 5, none⟩ = some (.int .i64 a5))
        (first
          | go_keep
          | (go_split_ands
             refine ⟨?_, ?_, ?_, ?_, ?_, ?_⟩
             · (rw [hgrow.cell_far _ (by simp; omega) (Ne.symm ag)]; assumption)
             · (rw [hgrow.cell_far _ (by simp; omega) (Ne.symm ag)]; assumption)
             · (rw [hgrow.cell_far _ (by simp; omega) (Ne.symm ag)]; assumption)
             · (rw [hgrow.cell_far _ (by simp; omega) (Ne.symm ag)]; assumption)
             · (rw [hgrow.cell_far _ (by simp; omega) (Ne.symm ag)]; assumption)
             · (rw [hgrow.cell_far _ (by simp; omega) (Ne.symm ag)]; assumption)))
        ((refine step_append_lies _ (by rfl) _ _ _ (by rfl) w.heap.size 141 i0 _ 6 48 Try.underlying62 hi0 hz0 hz1 hz2 rfl (by omega) _ j _ (by rfl) ((hown.alloc _).drew)
            ⟨wr.heap.size, 0, none⟩ 1 1 (mcells [(a0, a1, a2, a3, a4, a5)]) (by rfl) (by rfl) (World.news_of_block (cs := #[.int .i64 a0, .int .i64 a1, .int .i64 a2, .int .i64 a3, .int .i64 a4, .int .i64 a5]) (t := 141) (fr := (0, 0)) (heap_alloc_new wr _)) (mcells_one _)
            (by omega) (by unfold maxLen; omega) (by omega) (by simp; omega) (wr.heap.size + 1) (by simp) ?_; intro gg cap w1 hown1 hgrow hat hlt))
      go_wp2
      go_roundw
      case rel => exact ⟨j + 1, by omega, by go_num, by rw [HT.out, mcells_append]; exact hown1, ((hB.alloc hB.size _).drew).grown hgrow (by simp; omega) (own_at hown)⟩
      case measure => simp [intOf]; omega
    · obtain rfl : j = len := by omega
      have HT := hide (show l.take j = l by rw [HL.out, List.take_length])
      go_wp2
      go_ret
      rw [HT.out] at hown
      obtain ⟨A', c', rfl, hc'⟩ := own_form hown
      exact ⟨A', c', rfl, hc', Sees.of_own hown, fresh_own hown, hB⟩
end Go.Proofs.Ytjghdbkkjhnpfaa
