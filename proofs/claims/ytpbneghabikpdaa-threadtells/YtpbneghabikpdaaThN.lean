/- Contracts of New, Busy, Late, until, of the program and of the document. -/
import Derived.Test.YtpbneghabikpdaaThS
import Derived.Test.YtpbneghabikpdaaShA
import Derived.Lib.QuietBelow
import Derived.Deep.QuietTactic
import Derived.BigQuiet
namespace Go.Proofs.Ytpbneghabikpdaa
open Go.RowKit Go.Sort
set_option linter.unusedVariables false

attribute [local go_sem ↓] ldTh_is
attribute [local go_sem] run_ldTh
attribute [local go_sem ↓] ldRh_is
attribute [local go_sem] run_ldRh

attribute [local go_sem ↓] stTh_is
attribute [local go_sem] run_stTh run_stTh_there
attribute [local go_sem ↓] stRh_is
attribute [local go_sem] run_stRh run_stRh_there
attribute [local go_sem] one_int one_slice one_bool

/-- Is it late? -/
def lateB (un now : Int) : Bool := decide (0 < un) && decide (un ≤ now)
/-- Until when it waits. -/
def untilV (now wt : Int) : Int := if wt ≤ 0 then 0 else wrap64 (now + wt)
/-- What begins. -/
def newD : Dt := ⟨0, 0, 0, 0, [], [], [], 0, 0, 0, 0, 0, 1, 0, 0, 0, 0⟩
def newA : Ad := ⟨none, 0, none, 0, none, 0⟩
def begD (D wt t wd it tg v now : Int) : Dt := ⟨1, it, tg, v, [(t, tg, v)], [], [], 0, leafV D t, 0, 0, 0, wd, 0, 0, 0, untilV now wt⟩
def NewPost (w : World) (e : Ending) (w' : World) : Prop := e = .returned (.agg #[.int .i64 0, .int .i64 0, .int .i64 0, .int .i64 0, .slice none 0 0, .slice none 0 0, .slice none 0 0, .int .i64 0, .int .i64 0, .int .i64 0, .int .i64 0, .int .i64 0, .int .i64 1, .int .i64 0, .int .i64 0, .int .i64 0, .int .i64 0]) ∧ Below w.heap.size w w'
theorem newAt (w : World) : ThAt w newD newA := ⟨Sees.empty, Sees.empty, Sees.empty⟩
theorem newOk : DtOk newD := ⟨by decide, by decide, by decide⟩

set_option maxRecDepth 100000 in
set_option maxHeartbeats 4000000 in
theorem new_any (w : World) : Calls Try.prog 15 #[] w (NewPost w) := by
  go_enter Try.func15, Try.ntmps15
  go_wp2
  refine bodyPost_ret (v := .agg #[.int .i64 0, .int .i64 0, .int .i64 0, .int .i64 0, .slice none 0 0, .slice none 0 0, .slice none 0 0, .int .i64 0, .int .i64 0, .int .i64 0, .int .i64 0, .int .i64 0, .int .i64 1, .int .i64 0, .int .i64 0, .int .i64 0, .int .i64 0]) (results_at Try.results15 _ _ w.heap.size [.int .i64 0, .int .i64 0, .int .i64 0, .int .i64 0, .slice none 0 0, .slice none 0 0, .slice none 0 0, .int .i64 0, .int .i64 0, .int .i64 0, .int .i64 0, .int .i64 0, .int .i64 1, .int .i64 0, .int .i64 0, .int .i64 0, .int .i64 0] _ rfl (range_new w [.int .i64 0, .int .i64 0, .int .i64 0, .int .i64 0, .slice none 0 0, .slice none 0 0, .slice none 0 0, .int .i64 0, .int .i64 0, .int .i64 0, .int .i64 0, .int .i64 0, .int .i64 1, .int .i64 0, .int .i64 0, .int .i64 0, .int .i64 0] 30) Try.underlying30 rfl (by kernel_rfl)) rfl ⟨rfl, ?_⟩
  exact (Below.refl _ w).alloc (Nat.le_refl _) _

set_option maxRecDepth 100000 in
set_option maxHeartbeats 4000000 in
theorem rnew_any (w : World) : Calls Try.prog 16 #[] w (NewPost w) := by
  go_enter Try.func16, Try.ntmps16
  go_wp2
  refine bodyPost_ret (v := .agg #[.int .i64 0, .int .i64 0, .int .i64 0, .int .i64 0, .slice none 0 0, .slice none 0 0, .slice none 0 0, .int .i64 0, .int .i64 0, .int .i64 0, .int .i64 0, .int .i64 0, .int .i64 1, .int .i64 0, .int .i64 0, .int .i64 0, .int .i64 0]) (results_at Try.results16 _ _ w.heap.size [.int .i64 0, .int .i64 0, .int .i64 0, .int .i64 0, .slice none 0 0, .slice none 0 0, .slice none 0 0, .int .i64 0, .int .i64 0, .int .i64 0, .int .i64 0, .int .i64 0, .int .i64 1, .int .i64 0, .int .i64 0, .int .i64 0, .int .i64 0] _ rfl (range_new w [.int .i64 0, .int .i64 0, .int .i64 0, .int .i64 0, .slice none 0 0, .slice none 0 0, .slice none 0 0, .int .i64 0, .int .i64 0, .int .i64 0, .int .i64 0, .int .i64 0, .int .i64 1, .int .i64 0, .int .i64 0, .int .i64 0, .int .i64 0] 41) Try.underlying41 rfl (by kernel_rfl)) rfl ⟨rfl, ?_⟩
  exact (Below.refl _ w).alloc (Nat.le_refl _) _

set_option maxRecDepth 100000 in
set_option maxHeartbeats 4000000 in
theorem busy_any (ph : Int) (c1 c2 c3 c4 c5 c6 c7 c8 c9 c10 c11 c12 c13 c14 c15 c16 : Value) (w : World) : Calls Try.prog 17 #[.agg #[.int .i64 ph, c1, c2, c3, c4, c5, c6, c7, c8, c9, c10, c11, c12, c13, c14, c15, c16]] w (BoolPost (ph != 0) w) := by
  go_enter Try.func17, Try.ntmps17
  go_wp2
  go_ret
  exact ⟨rfl, (Below.refl _ w).alloc (Nat.le_refl _) _⟩

set_option maxRecDepth 100000 in
set_option maxHeartbeats 4000000 in
theorem rbusy_any (ph : Int) (c1 c2 c3 c4 c5 c6 c7 c8 c9 c10 c11 c12 c13 c14 c15 c16 : Value) (w : World) : Calls Try.prog 19 #[.agg #[.int .i64 ph, c1, c2, c3, c4, c5, c6, c7, c8, c9, c10, c11, c12, c13, c14, c15, c16]] w (BoolPost (ph != 0) w) := by
  go_enter Try.func19, Try.ntmps19
  go_wp2
  go_ret
  exact ⟨rfl, (Below.refl _ w).alloc (Nat.le_refl _) _⟩

set_option maxRecDepth 100000 in
set_option maxHeartbeats 4000000 in
theorem late_any (now un : Int) (k0 k1 k2 k3 k4 k5 k6 k7 k8 k9 k10 k11 k12 k14 k15 k16 k17 k18 k19 k20 k21 k22 k23 k24 k25 k26 k27 k28 k29 k30 k31 k33 k34 k35 k36 : Value) (w : World) : Calls Try.prog 20 #[.agg (List.toArray (k0 :: k1 :: k2 :: k3 :: k4 :: k5 :: k6 :: k7 :: k8 :: k9 :: k10 :: k11 :: k12 :: .int .i64 now :: k14 :: k15 :: k16 :: k17 :: k18 :: k19 :: k20 :: k21 :: k22 :: k23 :: k24 :: k25 :: k26 :: k27 :: k28 :: k29 :: k30 :: k31 :: .int .i64 un :: k33 :: k34 :: k35 :: k36 :: []))] w (BoolPost (lateB un now) w) := by
  by_cases h : 0 < un
  · have HL : Hid (lateB un now = decide (un ≤ now)) := hide (by simp [lateB, h])
    go_enter Try.func20, Try.ntmps20
    go_wp2
    go_ret
    exact ⟨ret_b HL.out, (Below.refl _ w).alloc (Nat.le_refl _) _⟩
  · have HL : Hid (lateB un now = false) := hide (by simp [lateB, h])
    go_enter Try.func20, Try.ntmps20
    go_wp2
    go_ret
    exact ⟨ret_b HL.out, (Below.refl _ w).alloc (Nat.le_refl _) _⟩

set_option maxRecDepth 100000 in
set_option maxHeartbeats 4000000 in
theorem rlate_any (now un : Int) (k0 k1 k2 k3 k4 k5 k6 k7 k8 k9 k10 k11 k12 k14 k15 k16 k17 k18 k19 k20 k21 k22 k23 k24 k25 k26 k27 k28 k29 k30 k31 k33 k34 k35 k36 : Value) (w : World) : Calls Try.prog 21 #[.agg (List.toArray (k0 :: k1 :: k2 :: k3 :: k4 :: k5 :: k6 :: k7 :: k8 :: k9 :: k10 :: k11 :: k12 :: .int .i64 now :: k14 :: k15 :: k16 :: k17 :: k18 :: k19 :: k20 :: k21 :: k22 :: k23 :: k24 :: k25 :: k26 :: k27 :: k28 :: k29 :: k30 :: k31 :: .int .i64 un :: k33 :: k34 :: k35 :: k36 :: []))] w (BoolPost (lateB un now) w) := by
  by_cases h : 0 < un
  · have HL : Hid (lateB un now = decide (un ≤ now)) := hide (by simp [lateB, h])
    go_enter Try.func21, Try.ntmps21
    go_wp2
    go_ret
    exact ⟨ret_b HL.out, (Below.refl _ w).alloc (Nat.le_refl _) _⟩
  · have HL : Hid (lateB un now = false) := hide (by simp [lateB, h])
    go_enter Try.func21, Try.ntmps21
    go_wp2
    go_ret
    exact ⟨ret_b HL.out, (Below.refl _ w).alloc (Nat.le_refl _) _⟩

theorem until_any (now wt : Int) (w : World) : Calls Try.prog 25 #[.int .i64 now, .int .i64 wt] w (IntPost (untilV now wt) w) := by
  by_cases h : wt ≤ 0
  · have HL : Hid (untilV now wt = 0) := hide (by simp [untilV, h])
    go_enter Try.func25, Try.ntmps25
    go_wp2
    go_ret
    exact ⟨ret_n HL.out, Below.refl _ w⟩
  · have HL : Hid (untilV now wt = wrap64 (now + wt)) := hide (by simp [untilV, h])
    go_enter Try.func25, Try.ntmps25
    go_wp2
    go_ret
    exact ⟨ret_n HL.out, Below.refl _ w⟩

end Go.Proofs.Ytpbneghabikpdaa
