/- Layer 15: what may happen behind a step, phase by phase. -/
import Derived.Test.YtjghdbkkjhnpfaaCoA
import Derived.Lib.QuietBelow
import Derived.Deep.QuietTactic
import Derived.BigQuiet
import Derived.Laws.EntriesVeiled
import Derived.Deep.RegionHeld3
import Derived.Deep.RegionWith
namespace Go.Proofs.Ytjghdbkkjhnpfaa
open Go.RowKit Go.Sort
set_option linter.unusedVariables false
set_option linter.unusedSimpArgs false

set_option maxRecDepth 100000 in
set_option maxHeartbeats 4000000 in
theorem chances_17 (w : World) : Calls Try.prog 52 #[.int .i64 17] w (fun e w' => ∃ gb g0, e = .returned (.slice (some ⟨gb, 0, none⟩) 1 1) ∧ boxOf w' gb = some [.func (.func 91) #[] #[.pointer (some ⟨g0, 0, none⟩)], .slice none 0 0] ∧ boxOf w' g0 = some [.int .i64 18] ∧ Below w.heap.size w w') := by
  go_enter Try.func52, Try.ntmps52
  have hB : Below w.heap.size w w := Below.refl _ _
  go_wp2_with fail
  refine (cto_any _ _).mono ?_
  rintro e w1 ⟨g0, rfl, kg0, hb⟩
  replace hB := below_next hB hB.size hb
  clear hb
  go_wp2_with fail
  refine (cmay_any _ _ _ _ _ _ _).mono ?_
  rintro e w2 ⟨rfl, hb⟩
  replace kg0 := boxOf_keep kg0 hb
  replace hB := below_next hB hB.size hb
  clear hb
  go_wp2
  go_ret
  exact ⟨_, _, rfl, boxOf_newA _ _ _ _ rfl, boxOf_keep kg0 (belowN _ _), hB.alloc hB.size _⟩
set_option maxRecDepth 100000 in
set_option maxHeartbeats 4000000 in
theorem chances_18 (w : World) : Calls Try.prog 52 #[.int .i64 18] w (fun e w' => ∃ gb g0, e = .returned (.slice (some ⟨gb, 0, none⟩) 1 1) ∧ boxOf w' gb = some [.func (.func 91) #[] #[.pointer (some ⟨g0, 0, none⟩)], .slice none 0 0] ∧ boxOf w' g0 = some [.int .i64 19] ∧ Below w.heap.size w w') := by
  go_enter Try.func52, Try.ntmps52
  have hB : Below w.heap.size w w := Below.refl _ _
  go_wp2_with fail
  refine (cto_any _ _).mono ?_
  rintro e w1 ⟨g0, rfl, kg0, hb⟩
  replace hB := below_next hB hB.size hb
  clear hb
  go_wp2_with fail
  refine (cmay_any _ _ _ _ _ _ _).mono ?_
  rintro e w2 ⟨rfl, hb⟩
  replace kg0 := boxOf_keep kg0 hb
  replace hB := below_next hB hB.size hb
  clear hb
  go_wp2
  go_ret
  exact ⟨_, _, rfl, boxOf_newA _ _ _ _ rfl, boxOf_keep kg0 (belowN _ _), hB.alloc hB.size _⟩
set_option maxRecDepth 100000 in
set_option maxHeartbeats 4000000 in
theorem chances_22 (w : World) : Calls Try.prog 52 #[.int .i64 22] w (fun e w' => ∃ gb, e = .returned (.slice (some ⟨gb, 0, none⟩) 1 1) ∧ boxOf w' gb = some [.func (.func 79) #[] #[], .slice none 0 0] ∧ Below w.heap.size w w') := by
  go_enter Try.func52, Try.ntmps52
  have hB : Below w.heap.size w w := Below.refl _ _
  go_wp2_with fail
  refine (cmay_any _ _ _ _ _ _ _).mono ?_
  rintro e w1 ⟨rfl, hb⟩
  replace hB := below_next hB hB.size hb
  clear hb
  go_wp2
  go_ret
  exact ⟨_, rfl, boxOf_newA _ _ _ _ rfl, hB.alloc hB.size _⟩
set_option maxRecDepth 100000 in
set_option maxHeartbeats 4000000 in
theorem chances_24 (w : World) : Calls Try.prog 52 #[.int .i64 24] w (fun e w' => ∃ gb, e = .returned (.slice (some ⟨gb, 0, none⟩) 1 1) ∧ boxOf w' gb = some [.func (.func 77) #[] #[], .slice none 0 0] ∧ Below w.heap.size w w') := by
  go_enter Try.func52, Try.ntmps52
  have hB : Below w.heap.size w w := Below.refl _ _
  go_wp2_with fail
  refine (cmay_any _ _ _ _ _ _ _).mono ?_
  rintro e w1 ⟨rfl, hb⟩
  replace hB := below_next hB hB.size hb
  clear hb
  go_wp2
  go_ret
  exact ⟨_, rfl, boxOf_newA _ _ _ _ rfl, hB.alloc hB.size _⟩
set_option maxRecDepth 100000 in
set_option maxHeartbeats 4000000 in
theorem chances_19 (w : World) : Calls Try.prog 52 #[.int .i64 19] w (fun e w' => ∃ gb c0, e = .returned (.slice (some ⟨gb, 0, none⟩) 2 2) ∧ boxOf w' gb = some [.func (.func 74) #[] #[], .slice (some ⟨c0, 0, none⟩) 2 2, .func (.func 77) #[] #[], .slice none 0 0] ∧ boxOf w' c0 = some [.func (.func 75) #[] #[], .func (.func 76) #[] #[]] ∧ Below w.heap.size w w') := by
  go_enter Try.func52, Try.ntmps52
  have hB : Below w.heap.size w w := Below.refl _ _
  go_wp2_with fail
  refine (cmay_any _ _ _ _ _ _ _).mono ?_
  rintro e w1 ⟨rfl, hb⟩
  have kc0 := (box_newk hb).1
  replace hB := below_next (hB.alloc hB.size _) (by have := hB.size; first | omega | (simp; done) | (simp; omega)) hb
  clear hb
  go_wp2_with fail
  refine (cmay_any _ _ _ _ _ _ _).mono ?_
  rintro e w2 ⟨rfl, hb⟩
  replace kc0 := boxOf_keep kc0 hb
  replace hB := below_next hB hB.size hb
  clear hb
  go_wp2
  go_ret
  exact ⟨_, _, rfl, boxOf_newA _ _ _ _ rfl, boxOf_keep kc0 (belowN _ _), hB.alloc hB.size _⟩
set_option maxRecDepth 100000 in
set_option maxHeartbeats 4000000 in
theorem chances_26 (w : World) : Calls Try.prog 52 #[.int .i64 26] w (fun e w' => ∃ gb c0 g1, e = .returned (.slice (some ⟨gb, 0, none⟩) 2 2) ∧ boxOf w' gb = some [.func (.func 83) #[] #[], .slice (some ⟨c0, 0, none⟩) 1 1, .func (.func 91) #[] #[.pointer (some ⟨g1, 0, none⟩)], .slice none 0 0] ∧ boxOf w' c0 = some [.func (.func 78) #[] #[]] ∧ boxOf w' g1 = some [.int .i64 13] ∧ Below w.heap.size w w') := by
  go_enter Try.func52, Try.ntmps52
  have hB : Below w.heap.size w w := Below.refl _ _
  go_wp2_with fail
  refine (cmay_any _ _ _ _ _ _ _).mono ?_
  rintro e w1 ⟨rfl, hb⟩
  have kc0 := (box_newk hb).1
  replace hB := below_next (hB.alloc hB.size _) (by have := hB.size; first | omega | (simp; done) | (simp; omega)) hb
  clear hb
  go_wp2_with fail
  refine (cto_any _ _).mono ?_
  rintro e w2 ⟨g1, rfl, kg1, hb⟩
  replace kc0 := boxOf_keep kc0 hb
  replace hB := below_next hB hB.size hb
  clear hb
  go_wp2_with fail
  refine (cmay_any _ _ _ _ _ _ _).mono ?_
  rintro e w3 ⟨rfl, hb⟩
  replace kc0 := boxOf_keep kc0 hb
  replace kg1 := boxOf_keep kg1 hb
  replace hB := below_next hB hB.size hb
  clear hb
  go_wp2
  go_ret
  exact ⟨_, _, _, rfl, boxOf_newA _ _ _ _ rfl, boxOf_keep kc0 (belowN _ _), boxOf_keep kg1 (belowN _ _), hB.alloc hB.size _⟩
set_option maxRecDepth 100000 in
set_option maxHeartbeats 4000000 in
theorem chances_20 (w : World) : Calls Try.prog 52 #[.int .i64 20] w (fun e w' => ∃ gb g0 c0 g1, e = .returned (.slice (some ⟨gb, 0, none⟩) 2 2) ∧ boxOf w' gb = some [.func (.func 91) #[] #[.pointer (some ⟨g0, 0, none⟩)], .slice (some ⟨c0, 0, none⟩) 1 1, .func (.func 91) #[] #[.pointer (some ⟨g1, 0, none⟩)], .slice none 0 0] ∧ boxOf w' g0 = some [.int .i64 21] ∧ boxOf w' c0 = some [.func (.func 78) #[] #[]] ∧ boxOf w' g1 = some [.int .i64 13] ∧ Below w.heap.size w w') := by
  go_enter Try.func52, Try.ntmps52
  have hB : Below w.heap.size w w := Below.refl _ _
  go_wp2_with fail
  refine (cto_any _ _).mono ?_
  rintro e w1 ⟨g0, rfl, kg0, hb⟩
  replace hB := below_next hB hB.size hb
  clear hb
  go_wp2_with fail
  refine (cmay_any _ _ _ _ _ _ _).mono ?_
  rintro e w2 ⟨rfl, hb⟩
  have kc0 := (box_newk hb).1
  replace kg0 := boxOf_keep (boxOf_keep kg0 (belowN _ _)) hb
  replace hB := below_next (hB.alloc hB.size _) (by have := hB.size; first | omega | (simp; done) | (simp; omega)) hb
  clear hb
  go_wp2_with fail
  refine (cto_any _ _).mono ?_
  rintro e w3 ⟨g1, rfl, kg1, hb⟩
  replace kg0 := boxOf_keep kg0 hb
  replace kc0 := boxOf_keep kc0 hb
  replace hB := below_next hB hB.size hb
  clear hb
  go_wp2_with fail
  refine (cmay_any _ _ _ _ _ _ _).mono ?_
  rintro e w4 ⟨rfl, hb⟩
  replace kg0 := boxOf_keep kg0 hb
  replace kc0 := boxOf_keep kc0 hb
  replace kg1 := boxOf_keep kg1 hb
  replace hB := below_next hB hB.size hb
  clear hb
  go_wp2
  go_ret
  exact ⟨_, _, _, _, rfl, boxOf_newA _ _ _ _ rfl, boxOf_keep kg0 (belowN _ _), boxOf_keep kc0 (belowN _ _), boxOf_keep kg1 (belowN _ _), hB.alloc hB.size _⟩
set_option maxRecDepth 100000 in
set_option maxHeartbeats 4000000 in
theorem chances_21 (w : World) : Calls Try.prog 52 #[.int .i64 21] w (fun e w' => ∃ gb g0 c0 g1, e = .returned (.slice (some ⟨gb, 0, none⟩) 2 2) ∧ boxOf w' gb = some [.func (.func 91) #[] #[.pointer (some ⟨g0, 0, none⟩)], .slice (some ⟨c0, 0, none⟩) 1 1, .func (.func 91) #[] #[.pointer (some ⟨g1, 0, none⟩)], .slice none 0 0] ∧ boxOf w' g0 = some [.int .i64 22] ∧ boxOf w' c0 = some [.func (.func 78) #[] #[]] ∧ boxOf w' g1 = some [.int .i64 24] ∧ Below w.heap.size w w') := by
  go_enter Try.func52, Try.ntmps52
  have hB : Below w.heap.size w w := Below.refl _ _
  go_wp2_with fail
  refine (cto_any _ _).mono ?_
  rintro e w1 ⟨g0, rfl, kg0, hb⟩
  replace hB := below_next hB hB.size hb
  clear hb
  go_wp2_with fail
  refine (cmay_any _ _ _ _ _ _ _).mono ?_
  rintro e w2 ⟨rfl, hb⟩
  have kc0 := (box_newk hb).1
  replace kg0 := boxOf_keep (boxOf_keep kg0 (belowN _ _)) hb
  replace hB := below_next (hB.alloc hB.size _) (by have := hB.size; first | omega | (simp; done) | (simp; omega)) hb
  clear hb
  go_wp2_with fail
  refine (cto_any _ _).mono ?_
  rintro e w3 ⟨g1, rfl, kg1, hb⟩
  replace kg0 := boxOf_keep kg0 hb
  replace kc0 := boxOf_keep kc0 hb
  replace hB := below_next hB hB.size hb
  clear hb
  go_wp2_with fail
  refine (cmay_any _ _ _ _ _ _ _).mono ?_
  rintro e w4 ⟨rfl, hb⟩
  replace kg0 := boxOf_keep kg0 hb
  replace kc0 := boxOf_keep kc0 hb
  replace kg1 := boxOf_keep kg1 hb
  replace hB := below_next hB hB.size hb
  clear hb
  go_wp2
  go_ret
  exact ⟨_, _, _, _, rfl, boxOf_newA _ _ _ _ rfl, boxOf_keep kg0 (belowN _ _), boxOf_keep kc0 (belowN _ _), boxOf_keep kg1 (belowN _ _), hB.alloc hB.size _⟩
set_option maxRecDepth 100000 in
set_option maxHeartbeats 4000000 in
theorem chances_23 (w : World) : Calls Try.prog 52 #[.int .i64 23] w (fun e w' => ∃ gb c0 g1 c1 g2, e = .returned (.slice (some ⟨gb, 0, none⟩) 3 3) ∧ boxOf w' gb = some [.func (.func 80) #[] #[], .slice (some ⟨c0, 0, none⟩) 3 3, .func (.func 91) #[] #[.pointer (some ⟨g1, 0, none⟩)], .slice (some ⟨c1, 0, none⟩) 1 1, .func (.func 91) #[] #[.pointer (some ⟨g2, 0, none⟩)], .slice none 0 0] ∧ boxOf w' c0 = some [.func (.func 78) #[] #[], .func (.func 81) #[] #[], .func (.func 82) #[] #[]] ∧ boxOf w' g1 = some [.int .i64 26] ∧ boxOf w' c1 = some [.func (.func 78) #[] #[]] ∧ boxOf w' g2 = some [.int .i64 13] ∧ Below w.heap.size w w') := by
  go_enter Try.func52, Try.ntmps52
  have hB : Below w.heap.size w w := Below.refl _ _
  go_wp2_with fail
  refine (cmay_any _ _ _ _ _ _ _).mono ?_
  rintro e w1 ⟨rfl, hb⟩
  have kc0 := (box_newk hb).1
  replace hB := below_next (hB.alloc hB.size _) (by have := hB.size; first | omega | (simp; done) | (simp; omega)) hb
  clear hb
  go_wp2_with fail
  refine (cto_any _ _).mono ?_
  rintro e w2 ⟨g1, rfl, kg1, hb⟩
  replace kc0 := boxOf_keep kc0 hb
  replace hB := below_next hB hB.size hb
  clear hb
  go_wp2_with fail
  refine (cmay_any _ _ _ _ _ _ _).mono ?_
  rintro e w3 ⟨rfl, hb⟩
  have kc1 := (box_newk hb).1
  replace kc0 := boxOf_keep (boxOf_keep kc0 (belowN _ _)) hb
  replace kg1 := boxOf_keep (boxOf_keep kg1 (belowN _ _)) hb
  replace hB := below_next (hB.alloc hB.size _) (by have := hB.size; first | omega | (simp; done) | (simp; omega)) hb
  clear hb
  go_wp2_with fail
  refine (cto_any _ _).mono ?_
  rintro e w4 ⟨g2, rfl, kg2, hb⟩
  replace kc0 := boxOf_keep kc0 hb
  replace kg1 := boxOf_keep kg1 hb
  replace kc1 := boxOf_keep kc1 hb
  replace hB := below_next hB hB.size hb
  clear hb
  go_wp2_with fail
  refine (cmay_any _ _ _ _ _ _ _).mono ?_
  rintro e w5 ⟨rfl, hb⟩
  replace kc0 := boxOf_keep kc0 hb
  replace kg1 := boxOf_keep kg1 hb
  replace kc1 := boxOf_keep kc1 hb
  replace kg2 := boxOf_keep kg2 hb
  replace hB := below_next hB hB.size hb
  clear hb
  go_wp2
  go_ret
  exact ⟨_, _, _, _, _, rfl, boxOf_newA _ _ _ _ rfl, boxOf_keep kc0 (belowN _ _), boxOf_keep kg1 (belowN _ _), boxOf_keep kc1 (belowN _ _), boxOf_keep kg2 (belowN _ _), hB.alloc hB.size _⟩
end Go.Proofs.Ytjghdbkkjhnpfaa
