/- Concat of kids, of batches; adopt, Take. -/
import Derived.Test.YtjghdbkkjhnpfaaGaA
import Derived.Test.YtjghdbkkjhnpfaaTnZ
import Derived.Test.YtjghdbkkjhnpfaaM1
import Derived.Test.YtjghdbkkjhnpfaaM2
import Derived.Test.YtjghdbkkjhnpfaaM4
import Derived.Lib.AppendZerosOnto
import Derived.Lib.SliceRun
import Derived.WalkKit
import Derived.Lib.QuietBelow
import Derived.Deep.QuietTactic
import Derived.BigQuiet
namespace Go.Proofs.Ytjghdbkkjhnpfaa
open Go.RowKit Go.Lib
set_option linter.unusedVariables false
set_option linter.unusedSimpArgs false

def bcells (l : List Bt) : List Value := l.map Bt.val
theorem bcells_append (a b : List Bt) : bcells (a ++ b) = bcells a ++ bcells b := List.map_append
theorem infoCK : (Try.prog.info? 51).map (fun i => (i.zero, i.size, i.bytes)) = some (some (.agg #[.int .i64 0, .int .i64 0]), 2, 16) := by kernel_rfl
def GrowKPost (w : World) (e : Ending) (w' : World) : Prop := ∃ A c, e = .returned (.slice A 0 c) ∧ w'.ownsRow w.heap.size 51 2 (.slice A 0 c) 0 [] ∧ Below w.heap.size w w'
set_option maxRecDepth 100000 in
set_option maxHeartbeats 4000000 in
theorem growK_any (n : Nat) (hn : n ≤ 1000) (w : World) : Calls Try.prog 99 #[.slice none 0 0, .int .i64 n] w (GrowKPost w) := by
  obtain ⟨i0, hi0, hz0, hz1, hz2⟩ := info_parts infoCK
  rcases Nat.eq_zero_or_pos n with h0 | h0
  · subst h0
    go_enter Try.func99, Try.ntmps99
    go_wp2
    go_ret
    exact ⟨none, 0, rfl, World.ownsRow_nil _ _ _ _, Below.refl _ _⟩
  · have h1 : ¬ ((n : Int) < 0) := by omega
    have h2 : wrap64 (n : Int) = (n : Int) := wrap64_id (by unfold I64; omega)
    have h4 : (n : Int) > 0 := by omega
    have h5 : (0 : Int) < (n : Int) := by omega
    have hold : (Builtin.firstCells i0.size 0 (.slice none 0 0)).run Try.prog w.drew = .ok ([] : List Value).toArray w.drew := run_firstCells_none w.drew i0.size 0 0 0
    have hcap : Builtin.nextslicecap (0 + n) 0 * i0.bytes ≤ 281474976710656 := growslice_fits (by omega) (by rw [hz2]; omega)
    have hrz := fun ty => run_append_grow_zeros w 31 3 ty 51 i0 _ .i64 .i64 Try.underlying31 Try.underlying3 hi0 hz0 none 0 0 [] hold n h0 (by omega) (by omega) (by omega) (by rw [hz2]; omega) hcap
    rw [Nat.zero_add] at hrz
    obtain ⟨G, hG⟩ : ∃ G, G = grownCap w n 0 51 := ⟨_, rfl⟩
    have hGn : n ≤ G := by rw [hG]; exact grownCap_ge w _ _ _
    have hG63 : G ≤ maxLen := by rw [hG]; exact grownCap_le_maxLen w n 0 51 (by unfold maxLen; omega)
    obtain ⟨Z, hZ⟩ : ∃ Z, Z = (([] : List Value).toArray ++ Builtin.zeroCells (.agg #[.int .i64 0, .int .i64 0] : Value).cells n ++ Builtin.zeroCells (.agg #[.int .i64 0, .int .i64 0] : Value).cells (grownCap w n 0 51 - n)) := ⟨_, rfl⟩
    have hZs : Z.size = G * 2 := by
      rw [hZ, ← hG, Array.size_append, Array.size_append, size_zeroCells, size_zeroCells]
      simp [Value.cells]
      omega
    rw [← hZ, ← hG] at hrz
    clear hZ hG hold hcap
    have hG64 : G ≤ 9223372036854775807 := by unfold maxLen at hG63; omega
    go_enter Try.func99, Try.ntmps99
    go_wp2_with (at_builtin; refine Lib.wpList_append_run _ rfl _ _ _ _ rfl _ _ rfl rfl _ _ (hrz _) ?_)
    all_goals
      go_ret
      exact ⟨_, _, rfl, World.ownsRow_made _ Z G (by simp) hG63 hZs, (Below.refl w.heap.size w).drew.alloc (by simp) _⟩
/-- Two lists, one behind the other. -/
def preK (l1 l2 : List (Int × Int)) : Nat → List (Int × Int)
  | 0 => []
  | 1 => l1
  | _ => l1 ++ l2
set_option maxRecDepth 100000 in
set_option maxHeartbeats 4000000 in
theorem concatK_any (l1 l2 : List (Int × Int)) (A1 A2 : Option Addr) (c1 c2 b c : Nat) (hl : l1.length + l2.length ≤ 1000) (w : World) (h1 : Sees w w.heap.size 2 A1 l1.length (kcells l1)) (h2 : Sees w w.heap.size 2 A2 l2.length (kcells l2))
    (hb : b < w.heap.size) (k0 : w.cell? ⟨b, 0, none⟩ = some (.slice A1 l1.length c1)) (k1 : w.cell? ⟨b, 1, none⟩ = some (.slice A2 l2.length c2)) :
    Calls Try.prog 97 #[.slice (some ⟨b, 0, none⟩) 2 c] w (FRowPost 2 (l1.length + l2.length) (kcells (l1 ++ l2)) w) := by
  obtain ⟨i0, hi0, hz0, hz1, hz2⟩ := info_parts infoCK
  obtain ⟨n1, hn1⟩ : ∃ n, l1.length = n := ⟨_, rfl⟩
  obtain ⟨n2, hn2⟩ : ∃ n, l2.length = n := ⟨_, rfl⟩
  rw [hn1] at k0 h1
  rw [hn2] at k1 h2
  rw [hn1, hn2] at hl ⊢
  have H1 := hide hn1
  have H2 := hide hn2
  have KG := fun W => hide (growK_any (n1 + n2) hl W)
  clear hn1 hn2
  have e1 : wrap64 ((0 : Int) + (n1 : Int)) = (n1 : Int) := by unfold wrap64; omega
  have e1' : wrap64 (n1 : Int) = (n1 : Int) := by unfold wrap64; omega
  have e2 : wrap64 ((n1 : Int) + (n2 : Int)) = ((n1 + n2 : Nat) : Int) := by unfold wrap64; omega
  go_enter Try.func97, Try.ntmps97
  go_wp2
  go_loopw [3, 11] (fun s i wr => ∃ j : Nat, j ≤ 2 ∧ i = .int .i64 j ∧ s = .int .i64 (if j = 0 then 0 else if j = 1 then (n1 : Int) else ((n1 + n2 : Nat) : Int)) ∧ wr = w)
    (fun _ i _ => 2 - (intOf i).toNat)
  case atStart => exact ⟨0, by omega, rfl, rfl, rfl⟩
  case round =>
    obtain ⟨j, hj, rfl, rfl, hw⟩ := hrel
    subst hw
    generalize wr = wq at *
    obtain rfl | rfl | rfl : j = 0 ∨ j = 1 ∨ j = 2 := by omega
    · go_wp2
      go_roundw
      case rel => exact ⟨1, by omega, by go_num, by simp [e1, e1'], by trivial⟩
      case measure => simp [intOf]
    · go_wp2
      go_roundw
      case rel => exact ⟨2, by omega, by go_num, by simp [e2], by trivial⟩
      case measure => simp [intOf]
    · clear e1 e1' e2
      go_wp2_with fail
      refine (KG _).out.mono ?_
      rintro e w1 ⟨A, cA, rfl, hown, hB⟩
      go_wp2
      clear KG
      go_loopw [6, 27] (fun a i wr => ∃ j : Nat, j ≤ 2 ∧ i = .int .i64 j ∧ wr.ownsRow wq.heap.size 51 2 a (preK l1 l2 j).length (kcells (preK l1 l2 j)) ∧ Below wq.heap.size wq wr)
        (fun _ i _ => 2 - (intOf i).toNat)
      case atStart => exact ⟨0, by omega, rfl, hown, hB⟩
      case round =>
        obtain ⟨j, hj, rfl, hown, hB⟩ := hrel
        have k0 := cell_keep k0 hB
        have k1 := cell_keep k1 hB
        have s1 := h1.later hB
        have s2 := h2.later hB
        obtain rfl | rfl | rfl : j = 0 ∨ j = 1 ∨ j = 2 := by omega
        · go_wp2_with (at_builtin; refine wpList_app _ rfl _ _ 31 rfl wq.heap.size 51 i0 _ 2 16 Try.underlying31 hi0 hz0 hz1 hz2 rfl (by omega) _ 0 _ rfl hown _ _ n1 c1 _ rfl s1 (kcells_one _) (by unfold maxLen; omega) (by omega) hB.size ?_; intro v1 w1 hown1 hg1)
          go_roundw
          case rel => exact ⟨1, by omega, by go_num, by simpa [preK, H1.out, kcells] using hown1, hB.grown hg1 hB.size (own_at hown)⟩
          case measure => simp [intOf]
        · have hown' := hown
          rw [show preK l1 l2 1 = l1 from rfl, H1.out] at hown'
          go_wp2_with (at_builtin; refine wpList_app _ rfl _ _ 31 rfl wq.heap.size 51 i0 _ 2 16 Try.underlying31 hi0 hz0 hz1 hz2 rfl (by omega) _ n1 _ rfl hown' _ _ n2 c2 _ rfl s2 (kcells_one _) (by unfold maxLen; omega) (by omega) hB.size ?_; intro v1 w1 hown1 hg1)
          go_roundw
          case rel => exact ⟨2, by omega, by go_num, by simpa [preK, H1.out, H2.out, kcells_append] using hown1, hB.grown hg1 hB.size (own_at hown)⟩
          case measure => simp [intOf]
        · go_wp2
          go_ret
          obtain ⟨A', c', rfl, hc'⟩ := own_form hown
          have hlen : (preK l1 l2 2).length = n1 + n2 := by simp [preK, H1.out, H2.out]
          rw [hlen] at hown hc' ⊢
          exact ⟨A', c', rfl, hc', Sees.of_own hown, fresh_own hown, hB⟩
theorem infoCB : (Try.prog.info? 30).map (fun i => (i.zero, i.size, i.bytes)) = some (some (.slice none 0 0), 1, 24) := by kernel_rfl
def GrowBPost (w : World) (e : Ending) (w' : World) : Prop := ∃ A c, e = .returned (.slice A 0 c) ∧ w'.ownsRow w.heap.size 30 1 (.slice A 0 c) 0 [] ∧ Below w.heap.size w w'
set_option maxRecDepth 100000 in
set_option maxHeartbeats 4000000 in
theorem growB_any (n : Nat) (hn : n ≤ 1000) (w : World) : Calls Try.prog 100 #[.slice none 0 0, .int .i64 n] w (GrowBPost w) := by
  obtain ⟨i0, hi0, hz0, hz1, hz2⟩ := info_parts infoCB
  rcases Nat.eq_zero_or_pos n with h0 | h0
  · subst h0
    go_enter Try.func100, Try.ntmps100
    go_wp2
    go_ret
    exact ⟨none, 0, rfl, World.ownsRow_nil _ _ _ _, Below.refl _ _⟩
  · have h1 : ¬ ((n : Int) < 0) := by omega
    have h2 : wrap64 (n : Int) = (n : Int) := wrap64_id (by unfold I64; omega)
    have h4 : (n : Int) > 0 := by omega
    have h5 : (0 : Int) < (n : Int) := by omega
    have hold : (Builtin.firstCells i0.size 0 (.slice none 0 0)).run Try.prog w.drew = .ok ([] : List Value).toArray w.drew := run_firstCells_none w.drew i0.size 0 0 0
    have hcap : Builtin.nextslicecap (0 + n) 0 * i0.bytes ≤ 281474976710656 := growslice_fits (by omega) (by rw [hz2]; omega)
    have hrz := fun ty => run_append_grow_zeros w 25 3 ty 30 i0 _ .i64 .i64 Try.underlying25 Try.underlying3 hi0 hz0 none 0 0 [] hold n h0 (by omega) (by omega) (by omega) (by rw [hz2]; omega) hcap
    rw [Nat.zero_add] at hrz
    obtain ⟨G, hG⟩ : ∃ G, G = grownCap w n 0 30 := ⟨_, rfl⟩
    have hGn : n ≤ G := by rw [hG]; exact grownCap_ge w _ _ _
    have hG63 : G ≤ maxLen := by rw [hG]; exact grownCap_le_maxLen w n 0 30 (by unfold maxLen; omega)
    obtain ⟨Z, hZ⟩ : ∃ Z, Z = (([] : List Value).toArray ++ Builtin.zeroCells (.slice none 0 0 : Value).cells n ++ Builtin.zeroCells (.slice none 0 0 : Value).cells (grownCap w n 0 30 - n)) := ⟨_, rfl⟩
    have hZs : Z.size = G * 1 := by
      rw [hZ, ← hG, Array.size_append, Array.size_append, size_zeroCells, size_zeroCells]
      simp [Value.cells]
      omega
    rw [← hZ, ← hG] at hrz
    clear hZ hG hold hcap
    have hG64 : G ≤ 9223372036854775807 := by unfold maxLen at hG63; omega
    go_enter Try.func100, Try.ntmps100
    go_wp2_with (at_builtin; refine Lib.wpList_append_run _ rfl _ _ _ _ rfl _ _ rfl rfl _ _ (hrz _) ?_)
    all_goals
      go_ret
      exact ⟨_, _, rfl, World.ownsRow_made _ Z G (by simp) hG63 hZs, (Below.refl w.heap.size w).drew.alloc (by simp) _⟩
/-- Two lists, one behind the other. -/
def preB (l1 l2 : List Bt) : Nat → List Bt
  | 0 => []
  | 1 => l1
  | _ => l1 ++ l2
set_option maxRecDepth 100000 in
set_option maxHeartbeats 4000000 in
theorem concatB_any (l1 l2 : List Bt) (A1 A2 : Option Addr) (c1 c2 b c : Nat) (hl : l1.length + l2.length ≤ 1000) (w : World) (h1 : Sees w w.heap.size 1 A1 l1.length (bcells l1)) (h2 : Sees w w.heap.size 1 A2 l2.length (bcells l2))
    (hb : b < w.heap.size) (k0 : w.cell? ⟨b, 0, none⟩ = some (.slice A1 l1.length c1)) (k1 : w.cell? ⟨b, 1, none⟩ = some (.slice A2 l2.length c2)) :
    Calls Try.prog 98 #[.slice (some ⟨b, 0, none⟩) 2 c] w (FRowPost 1 (l1.length + l2.length) (bcells (l1 ++ l2)) w) := by
  obtain ⟨i0, hi0, hz0, hz1, hz2⟩ := info_parts infoCB
  obtain ⟨n1, hn1⟩ : ∃ n, l1.length = n := ⟨_, rfl⟩
  obtain ⟨n2, hn2⟩ : ∃ n, l2.length = n := ⟨_, rfl⟩
  rw [hn1] at k0 h1
  rw [hn2] at k1 h2
  rw [hn1, hn2] at hl ⊢
  have H1 := hide hn1
  have H2 := hide hn2
  have KG := fun W => hide (growB_any (n1 + n2) hl W)
  clear hn1 hn2
  have e1 : wrap64 ((0 : Int) + (n1 : Int)) = (n1 : Int) := by unfold wrap64; omega
  have e1' : wrap64 (n1 : Int) = (n1 : Int) := by unfold wrap64; omega
  have e2 : wrap64 ((n1 : Int) + (n2 : Int)) = ((n1 + n2 : Nat) : Int) := by unfold wrap64; omega
  go_enter Try.func98, Try.ntmps98
  go_wp2
  go_loopw [3, 11] (fun s i wr => ∃ j : Nat, j ≤ 2 ∧ i = .int .i64 j ∧ s = .int .i64 (if j = 0 then 0 else if j = 1 then (n1 : Int) else ((n1 + n2 : Nat) : Int)) ∧ wr = w)
    (fun _ i _ => 2 - (intOf i).toNat)
  case atStart => exact ⟨0, by omega, rfl, rfl, rfl⟩
  case round =>
    obtain ⟨j, hj, rfl, rfl, hw⟩ := hrel
    subst hw
    generalize wr = wq at *
    obtain rfl | rfl | rfl : j = 0 ∨ j = 1 ∨ j = 2 := by omega
    · go_wp2
      go_roundw
      case rel => exact ⟨1, by omega, by go_num, by simp [e1, e1'], by trivial⟩
      case measure => simp [intOf]
    · go_wp2
      go_roundw
      case rel => exact ⟨2, by omega, by go_num, by simp [e2], by trivial⟩
      case measure => simp [intOf]
    · clear e1 e1' e2
      go_wp2_with fail
      refine (KG _).out.mono ?_
      rintro e w1 ⟨A, cA, rfl, hown, hB⟩
      go_wp2
      clear KG
      go_loopw [6, 27] (fun a i wr => ∃ j : Nat, j ≤ 2 ∧ i = .int .i64 j ∧ wr.ownsRow wq.heap.size 30 1 a (preB l1 l2 j).length (bcells (preB l1 l2 j)) ∧ Below wq.heap.size wq wr)
        (fun _ i _ => 2 - (intOf i).toNat)
      case atStart => exact ⟨0, by omega, rfl, hown, hB⟩
      case round =>
        obtain ⟨j, hj, rfl, hown, hB⟩ := hrel
        have k0 := cell_keep k0 hB
        have k1 := cell_keep k1 hB
        have s1 := h1.later hB
        have s2 := h2.later hB
        obtain rfl | rfl | rfl : j = 0 ∨ j = 1 ∨ j = 2 := by omega
        · go_wp2_with (at_builtin; refine wpList_app _ rfl _ _ 25 rfl wq.heap.size 30 i0 _ 1 24 Try.underlying25 hi0 hz0 hz1 hz2 rfl (by omega) _ 0 _ rfl hown _ _ n1 c1 _ rfl s1 (val_one _) (by unfold maxLen; omega) (by omega) hB.size ?_; intro v1 w1 hown1 hg1)
          go_roundw
          case rel => exact ⟨1, by omega, by go_num, by simpa [preB, H1.out, bcells] using hown1, hB.grown hg1 hB.size (own_at hown)⟩
          case measure => simp [intOf]
        · have hown' := hown
          rw [show preB l1 l2 1 = l1 from rfl, H1.out] at hown'
          go_wp2_with (at_builtin; refine wpList_app _ rfl _ _ 25 rfl wq.heap.size 30 i0 _ 1 24 Try.underlying25 hi0 hz0 hz1 hz2 rfl (by omega) _ n1 _ rfl hown' _ _ n2 c2 _ rfl s2 (val_one _) (by unfold maxLen; omega) (by omega) hB.size ?_; intro v1 w1 hown1 hg1)
          go_roundw
          case rel => exact ⟨2, by omega, by go_num, by simpa [preB, H1.out, H2.out, bcells_append] using hown1, hB.grown hg1 hB.size (own_at hown)⟩
          case measure => simp [intOf]
        · go_wp2
          go_ret
          obtain ⟨A', c', rfl, hc'⟩ := own_form hown
          have hlen : (preB l1 l2 2).length = n1 + n2 := by simp [preB, H1.out, H2.out]
          rw [hlen] at hown hc' ⊢
          exact ⟨A', c', rfl, hc', Sees.of_own hown, fresh_own hown, hB⟩
end Go.Proofs.Ytjghdbkkjhnpfaa
