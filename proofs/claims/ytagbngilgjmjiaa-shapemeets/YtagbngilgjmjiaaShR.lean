/- Contracts of the document's own answers for layer 7: ways up, levels, and where two ways meet. -/
import Derived.Test.YtagbngilgjmjiaaShC
namespace Go.Proofs.Ytagbngilgjmjiaa
open Go.RowKit

set_option maxRecDepth 100000 in
set_option maxHeartbeats 1000000 in
theorem rlevel_any (n : Int) (hn : I64 n) (w : World) : Calls Try.prog 14 #[.int .i64 n] w (IntPost (levV n) w) := by
  go_enter Try.func14, Try.ntmps14
  go_wp2
  go_loopw [0, 3] (fun a k wr => ∃ (y : Int) (j : Int), a = .int .i64 y ∧ I64 y ∧ k = .int .i64 j ∧ 0 ≤ j ∧ levV n = j + levV y ∧ Below w.heap.size w wr) (fun a _ _ => (intOf a).toNat)
  case atStart => exact ⟨n, 0, rfl, hn, rfl, by omega, by omega, Below.refl _ _⟩
  case round =>
    obtain ⟨y, j, rfl, hy, rfl, hj, hl, hB⟩ := hrel
    have HL := hide hl
    have hhi := lev_hi hn
    have hlo := lev_lo y
    have hjj : j ≤ 63 := by omega
    clear hl hhi hlo
    by_cases hlt : 1 < y
    · have HS := hide (lev_step hlt)
      have HW : Hid (wrap64 (j + 1) = j + 1) := hide (wrap64_id (by unfold I64; omega))
      go_wp2_with (go_at_call 12; refine (rparent_any y hy _).mono ?_; rintro e w2 ⟨rfl, hb2⟩)
      go_roundw
      case rel => exact ⟨parV y, j + 1, rfl, par_i64 hy, by go_num, by omega, by rw [HL.out, HS.out]; omega, below_next hB hB.size hb2⟩
      case measure => have := par_lt (x := y) (by omega); simp [intOf]; omega
    · have HS := hide (lev_low (n := y) (by omega))
      go_wp2
      go_ret
      exact ⟨ret_n (by rw [HL.out, HS.out]; omega), hB⟩

set_option maxRecDepth 100000 in
set_option maxHeartbeats 1000000 in
theorem rpath_any (D t : Int) (hD : 0 ≤ D ∧ D ≤ 4) (h0 : 0 ≤ t) (ht : I64 t) (w : World) : Calls Try.prog 17 #[.int .i64 D, .int .i64 t] w (RowPost 1 (pathV D t).length ((pathV D t).map (Value.int .i64)) w) := by
  obtain ⟨i0, hi0, hz0, hz1, hz2⟩ := info_parts info3
  have hx := leaf_i64 D t hD h0
  have hlen := upV_length hx
  have HP : Hid (pathV D t = upV (leafV D t)) := hide rfl
  go_enter Try.func17, Try.ntmps17
  go_wp2_with (go_at_call 10; refine (rleaf_any D t hD h0 ht _).mono ?_; rintro e w1 ⟨rfl, hb1⟩)
  have hown0 := own_below (own_empty w w.heap.size 3 1 (Nat.le_refl _)) hb1
  have hB1 : Below w.heap.size w w1 := below_next ((Below.refl _ w).alloc (Nat.le_refl _) _) (by simp) hb1
  go_loopw [5, 6] (fun a b wr => ∃ (y : Int) (pre : List Int), b = .int .i64 y ∧ I64 y ∧ pathV D t = pre ++ upV y ∧ wr.ownsRow w.heap.size 3 1 a pre.length (pre.map (Value.int .i64)) ∧ Below w.heap.size w wr) (fun _ b _ => (intOf b).toNat)
  case atStart => exact ⟨leafV D t, [], rfl, hx, rfl, hown0, hB1⟩
  case round =>
    obtain ⟨y, pre, rfl, hy, hsp, hown, hB⟩ := hrel
    have hpl : pre.length ≤ 63 := by rw [HP.out] at hsp; rw [hsp, List.length_append] at hlen; omega
    have HS := hide hsp
    clear hsp hlen
    by_cases hlt : 0 < y
    · have HU := hide (upV_some hlt)
      go_wp2_with (first
        | (at_builtin; refine wpList_app _ rfl _ _ 26 rfl w.heap.size 3 i0 _ 1 8 Try.underlying26 hi0 hz0 hz1 hz2 rfl (by omega) _ pre.length _ rfl (hown.alloc _) _ _ 1 1 [.int .i64 y] rfl (sees_new _ [.int .i64 y] 3 1 1 rfl) (by simp [Value.oneCell']) (by unfold maxLen; omega) (by omega) (by have := hB.size; simp; omega) ?_; intro v1 w3 hown1 hg1)
        | (go_at_call 12; refine (rparent_any y hy _).mono ?_; rintro e w4 ⟨rfl, hb4⟩))
      have hB3 : Below w.heap.size w w3 := (hB.alloc hB.size _).grown hg1 (by have := hB.size; simp; omega) (own_at hown)
      go_roundw
      case rel => exact ⟨parV y, pre ++ [y], rfl, par_i64 hy, by rw [HS.out, HU.out]; simp, by simpa using own_below hown1 hb4, below_next hB3 hB3.size hb4⟩
      case measure => have := par_lt hlt; simp [intOf]; omega
    · have HU := hide (upV_none (x := y) (by omega))
      go_wp2
      go_ret
      have hE : pathV D t = pre := by rw [HS.out, HU.out]; simp
      rw [hE]
      obtain ⟨A', c', rfl, hc'⟩ := own_form hown
      exact ⟨A', c', rfl, hc', Sees.of_own hown, hB⟩

theorem rmeet_drop {a b : List Int} {j : Nat} {x y : Int} (ha : a[j]? = some x) (hb : b[j]? = some y) : rmeetL (a.drop j) (b.drop j) = if x = y then x else rmeetL (a.drop (j + 1)) (b.drop (j + 1)) := by
  obtain ⟨h1, rfl⟩ := List.getElem?_eq_some_iff.1 ha
  obtain ⟨h2, rfl⟩ := List.getElem?_eq_some_iff.1 hb
  rw [List.drop_eq_getElem_cons h1, List.drop_eq_getElem_cons h2]
  rfl
theorem rmeet_end {a b : List Int} {j : Nat} (h : a.length ≤ j) : rmeetL (a.drop j) (b.drop j) = 0 := by
  rw [List.drop_eq_nil_of_le h]
  cases b.drop j <;> rfl

set_option maxRecDepth 100000 in
set_option maxHeartbeats 1000000 in
theorem rmeet_any (D t u : Int) (hD : 0 ≤ D ∧ D ≤ 4) (h0 : 0 ≤ t) (ht : I64 t) (h0' : 0 ≤ u) (hu : I64 u) (hll : (pathV D t).length = (pathV D u).length) (w : World) :
    Calls Try.prog 19 #[.int .i64 D, .int .i64 t, .int .i64 u] w (IntPost (rmeetL (pathV D t) (pathV D u)) w) := by
  obtain ⟨a, ha⟩ : ∃ a, pathV D t = a := ⟨_, rfl⟩
  obtain ⟨b, hb⟩ : ∃ b, pathV D u = b := ⟨_, rfl⟩
  have hlen : a.length ≤ 63 := by rw [← ha]; exact upV_length (leaf_i64 D t hD h0)
  rw [ha, hb] at hll ⊢
  have HA := hide ha
  have HB := hide hb
  have HLL := hide hll
  clear ha hb hll
  go_enter Try.func19, Try.ntmps19
  have hca := fun w => hide (rpath_any D t hD h0 ht w)
  have hcb := fun w => hide (rpath_any D u hD h0' hu w)
  go_wp2_with (first
    | (go_at_call 17; refine ((hca _).out).mono ?_; clear hca; rintro e w1 ⟨A, c, rfl, hcc, hs1, hb1⟩; rw [HA.out] at hs1 hcc ⊢)
    | (go_at_call 17; refine ((hcb _).out).mono ?_; clear hcb; rintro e w2 ⟨B, d, rfl, hdd, hs2, hb2⟩; rw [HB.out, ← HLL.out] at hs2 hdd ⊢))
  have hs1' := hs1.later hb2
  have hB2 : Below w.heap.size w w2 := below_next hb1 hb1.size hb2
  clear hs1 hb1 hb2
  obtain ⟨n, hn⟩ : ∃ n, a.length = n := ⟨_, rfl⟩
  rw [hn] at hs1' hs2 hcc hdd hlen ⊢
  have HN := hide hn
  clear hn
  go_loopw [9] (fun i wr => ∃ j : Nat, j ≤ n ∧ i = .int .i64 j ∧ rmeetL a b = rmeetL (a.drop j) (b.drop j) ∧ ∃ q, wr = w2.drewN q) (fun i _ => n - (intOf i).toNat)
  case atStart => exact ⟨0, Nat.zero_le _, rfl, rfl, 0, rfl⟩
  case round =>
    obtain ⟨j, hj, rfl, htk, q, rfl⟩ := hrel
    have HT := hide htk
    clear htk
    by_cases hlt : j < n
    · obtain ⟨k, off, x, rfl, hk, hx, hc⟩ := hs1'.num hlt
      obtain ⟨k', off', y, rfl, hk', hy, hc'⟩ := hs2.num hlt
      have HD := hide (rmeet_drop hx hy)
      clear hx hy
      by_cases hne : x = y
      · subst hne
        have HD' : Hid (rmeetL a b = x) := hide (by rw [HT.out, HD.out, if_pos rfl])
        go_wp2_with fail
        go_quiet (fail)
        go_wp2
        go_ret
        exact ⟨ret_n HD'.out, below_drewN hB2 _⟩
      · have HD' : Hid (rmeetL a b = rmeetL (a.drop (j + 1)) (b.drop (j + 1))) := hide (by rw [HT.out, HD.out, if_neg hne])
        have hb1 : (x == y) = false := beq_eq_false_iff_ne.2 hne
        clear hne
        go_wp2_with fail
        go_quiet (fail)
        go_wp2
        go_roundw
        case rel => exact ⟨j + 1, by omega, by go_num, HD'.out, _, rfl⟩
        case measure => simp [intOf]; omega
    · obtain rfl : j = n := by omega
      have HE : Hid (rmeetL a b = 0) := hide (by rw [HT.out, rmeet_end (by rw [HN.out]; exact Nat.le_refl _)])
      go_wp2
      go_ret
      exact ⟨ret_n HE.out, below_drewN hB2 _⟩
end Go.Proofs.Ytagbngilgjmjiaa
