/- The contract of the law's entries: the row is one's own. -/
import Derived.Test.YtjghdbkkjhnpfaaM4
import Derived.Deep.RegionHeld3
import Derived.Deep.AppendLies
namespace Go.Proofs.Ytjghdbkkjhnpfaa
open Go.RowKit
set_option linter.unusedVariables false

set_option maxRecDepth 100000 in
set_option maxHeartbeats 3200000 in
theorem ents_own (A : Option Addr) (cap : Nat) (l : List E3) (len : Nat) (hlen : len = l.length) (hmax : len ≤ 100000) (w : World) (hs : Sees w w.heap.size 3 A len (ecells l)) :
    Calls Try.prog 17 #[.slice A len cap] w (fun e w' => ∃ v, e = .returned v ∧ w'.ownsRow w.heap.size 84 3 v len (ecells l) ∧ Below w.heap.size w w') := by
  obtain ⟨i0, hi0, hz0, hz1, hz2⟩ := info_parts info52
  have HL := hide hlen
  clear hlen
  go_enter Try.func17, Try.ntmps17
  go_wp2
  go_loopw [3, 4] (fun a i wr => ∃ j : Nat, j ≤ len ∧ i = .int .i64 j ∧ wr.ownsRow w.heap.size 84 3 a j (ecells (l.take j)) ∧ Below w.heap.size w wr)
    (fun _ i _ => len - (intOf i).toNat)
  case atStart => exact ⟨0, Nat.zero_le _, rfl, own_empty w _ _ _ (Nat.le_refl _), (Below.refl _ _).alloc (Nat.le_refl _) _⟩
  case round =>
    obtain ⟨j, hj, rfl, hown, hB⟩ := hrel
    by_cases hlt : j < len
    · have hs' := hs.below hB
      rw [HL.out] at hs'
      obtain ⟨b, off, t, g, v, rfl, hb, he, c1, c2, c3⟩ := hs'.entry (k := j) (by have := HL.out; omega)
      have HT := hide (take_snoc l j _ he)
      clear he hs'
      go_wp2_with fail
      have hj0 : (0 : Int) ≤ (j : Int) := Int.natCast_nonneg _
      have hj1 : (j : Int) < (len : Int) := by omega
      have ag := own_ne hown hb
      have lb : b < wr.heap.size := Nat.lt_of_lt_of_le hb hB.size
      have hbs := hB.size
      go_region_held3 (fun w' => w'.cell? ⟨b, off + j * 3, none⟩ = some (.int .i64 t) ∧ w'.cell? ⟨b, off + j * 3 + 1, none⟩ = some (.int .i64 g) ∧ w'.cell? ⟨b, off + j * 3 + 2, none⟩ = some (.int .i64 v))
        (first
          | go_keep
          | (go_split_ands
             refine ⟨?_, ?_, ?_⟩
             · (rw [hgrow.cell_far _ (by simp; omega) (Ne.symm ag)]; assumption)
             · (rw [hgrow.cell_far _ (by simp; omega) (Ne.symm ag)]; assumption)
             · (rw [hgrow.cell_far _ (by simp; omega) (Ne.symm ag)]; assumption)))
        ((refine step_append_lies _ (by rfl) _ _ _ (by rfl) w.heap.size 84 i0 _ 3 24 Try.underlying48 hi0 hz0 hz1 hz2 rfl (by omega) _ j _ (by rfl) ((hown.alloc _).drew)
            ⟨wr.heap.size, 0, none⟩ 1 1 (ecells [(t, g, v)]) (by rfl) (by rfl) (World.news_of_block (cs := #[.int .i64 t, .int .i64 g, .int .i64 v]) (t := 84) (fr := (0, 0)) (heap_alloc_new wr _)) (ecells_one _)
            (by omega) (by unfold maxLen; omega) (by omega) (by simp; omega) (wr.heap.size + 1) (by simp) ?_; intro gg cap w1 hown1 hgrow hat hlt))
      go_wp2
      go_roundw
      case rel => exact ⟨j + 1, by omega, by go_num, by rw [HT.out, ecells_append]; exact hown1, ((hB.alloc hB.size _).drew).grown hgrow (by simp; omega) (own_at hown)⟩
      case measure => simp [intOf]; omega
    · obtain rfl : j = len := by omega
      have HT := hide (show l.take j = l by rw [HL.out, List.take_length])
      go_wp2
      go_ret
      rw [HT.out] at hown
      exact ⟨_, rfl, hown, hB⟩

end Go.Proofs.Ytjghdbkkjhnpfaa
