/- Contracts of the document's own answers for layer 7: ways up, levels, and where two ways meet. -/
import Derived.Test.YtlmlmmkichkkhaaM3
import Derived.Test.YtlmlmmkichkkhaaM1
namespace Go.Proofs.Ytlmlmmkichkkhaa
open Go.RowKit

set_option maxRecDepth 100000 in
set_option maxHeartbeats 1000000 in
theorem rpath_any (D t : Int) (hD : 0 ≤ D ∧ D ≤ 4) (h0 : 0 ≤ t) (ht : I64 t) (w : World) : Calls Try.prog 23 #[.int .i64 D, .int .i64 t] w (RowPost 1 (pathV D t).length ((pathV D t).map (Value.int .i64)) w) := by
  obtain ⟨i0, hi0, hz0, hz1, hz2⟩ := info_parts info3
  have hx := leaf_i64 D t hD h0
  have hlen := upV_length hx
  have HP : Hid (pathV D t = upV (leafV D t)) := hide rfl
  go_enter Try.func23, Try.ntmps23
  go_wp2_with (go_at_call 20; refine (rleaf_any D t hD h0 ht _).mono ?_; rintro e w1 ⟨rfl, hb1⟩)
  have hown0 := own_below (own_empty w w.heap.size 3 1 (Nat.le_refl _)) hb1
  have hB1 : Below w.heap.size w w1 := below_next ((Below.refl _ w).alloc (Nat.le_refl _) _) (by simp) hb1
  go_loopw [5, 6] (fun a b wr => ∃ (y : Int) (pre : List Int), b = .int .i64 y ∧ I64 y ∧ pathV D t = pre ++ upV y ∧ wr.ownsRow w.heap.size 3 1 a pre.length (pre.map (Value.int .i64)) ∧ Below w.heap.size w wr) (fun _ b _ => (intOf b).toNat)
  case atStart => exact ⟨leafV D t, [], rfl, hx, rfl, hown0, hB1⟩
  case round =>
    obtain ⟨y, pre, rfl, hy, hsp, hown, hB⟩ := hrel
    have hpl : pre.length ≤ 63 := by rw [HP.out] at hsp; rw [hsp, List.length_append] at hlen; omega
    have HS := hide hsp
    clear hsp hlen
    by_cases hlt : 0 < y
    · have HU := hide (upV_some hlt)
      go_wp2_with (first
        | (at_builtin; refine wpList_app _ rfl _ _ 24 rfl w.heap.size 3 i0 _ 1 8 Try.underlying24 hi0 hz0 hz1 hz2 rfl (by omega) _ pre.length _ rfl (hown.alloc _) _ _ 1 1 [.int .i64 y] rfl (sees_new _ [.int .i64 y] 3 1 1 rfl) (by simp [Value.oneCell']) (by unfold maxLen; omega) (by omega) (by have := hB.size; simp; omega) ?_; intro v1 w3 hown1 hg1)
        | (go_at_call 41; refine (rparent_any y hy _).mono ?_; rintro e w4 ⟨rfl, hb4⟩))
      have hB3 : Below w.heap.size w w3 := (hB.alloc hB.size _).grown hg1 (by have := hB.size; simp; omega) (own_at hown)
      go_roundw
      case rel => exact ⟨parV y, pre ++ [y], rfl, par_i64 hy, by rw [HS.out, HU.out]; simp, by simpa using own_below hown1 hb4, below_next hB3 hB3.size hb4⟩
      case measure => have := par_lt hlt; simp [intOf]; omega
    · have HU := hide (upV_none (x := y) (by omega))
      go_wp2
      go_ret
      have hE : pathV D t = pre := by rw [HS.out, HU.out]; simp
      rw [hE]
      obtain ⟨A', c', rfl, hc'⟩ := own_form hown
      exact ⟨A', c', rfl, hc', Sees.of_own hown, hB⟩

theorem rmeet_drop {a b : List Int} {j : Nat} {x y : Int} (ha : a[j]? = some x) (hb : b[j]? = some y) : rmeetL (a.drop j) (b.drop j) = if x = y then x else rmeetL (a.drop (j + 1)) (b.drop (j + 1)) := by
  obtain ⟨h1, rfl⟩ := List.getElem?_eq_some_iff.1 ha
  obtain ⟨h2, rfl⟩ := List.getElem?_eq_some_iff.1 hb
  rw [List.drop_eq_getElem_cons h1, List.drop_eq_getElem_cons h2]
  rfl
theorem rmeet_end {a b : List Int} {j : Nat} (h : a.length ≤ j) : rmeetL (a.drop j) (b.drop j) = 0 := by
  rw [List.drop_eq_nil_of_le h]
  cases b.drop j <;> rfl

end Go.Proofs.Ytlmlmmkichkkhaa
