/- The contracts of step: what a step does. -/
import Derived.Test.YtlbekjnpaiiilaaGaP
import Derived.Test.YtlbekjnpaiiilaaGaX
import Derived.Test.YtlbekjnpaiiilaaGaW
import Derived.Test.YtlbekjnpaiiilaaGaR
import Derived.Test.YtlbekjnpaiiilaaGaO
import Derived.Test.YtlbekjnpaiiilaaGaC
import Derived.Test.YtlbekjnpaiiilaaGaA
import Derived.Lib.QuietBelow
import Derived.Deep.QuietTactic
import Derived.BigQuiet
import Derived.Deep.RegionHeld3
namespace Go.Proofs.Ytlbekjnpaiiilaa
open Go.RowKit Go.Sort
set_option linter.unusedVariables false
set_option linter.unusedSimpArgs false

def WrPost (v1 v2 : Value) (w : World) (e : Ending) (w' : World) : Prop := ∃ g1 g2, e = .returned (.func (.func 63) #[] #[.pointer (some ⟨g1, 0, none⟩), .pointer (some ⟨g2, 0, none⟩)]) ∧ boxOf w' g1 = some [v1] ∧ boxOf w' g2 = some [v2] ∧ Below w.heap.size w w'
set_option maxRecDepth 100000 in
set_option maxHeartbeats 4000000 in
theorem write_any (f1 f2 : FuncId) (xs : Array Value) (w : World) : Calls Try.prog 42 #[.func (.func f1) #[] #[], .func (.func f2) #[] xs] w (WrPost (.func (.func f1) #[] #[]) (.func (.func f2) #[] xs) w) := by
  go_enter Try.func42, Try.ntmps42
  go_wp2
  go_ret
  exact ⟨_, _, rfl, boxOf_keep (boxOf_newA _ _ _ _ rfl) (belowN _ _), boxOf_newA _ _ _ _ (by simp), (belowN w _).alloc (by simp) _⟩
set_option maxRecDepth 100000 in
set_option maxHeartbeats 4000000 in
theorem to_any (k : Int) (w : World) : Calls Try.prog 48 #[.int .i64 k] w (fun e w' => ∃ g, e = .returned (.func (.func 68) #[] #[.pointer (some ⟨g, 0, none⟩)]) ∧ boxOf w' g = some [.int .i64 k] ∧ Below w.heap.size w w') := by
  go_enter Try.func48, Try.ntmps48
  go_wp2
  go_ret
  exact ⟨_, rfl, boxOf_newA _ _ _ _ rfl, belowN w _⟩
set_option maxRecDepth 100000 in
set_option maxHeartbeats 4000000 in
theorem step_7 (w : World) : Calls Try.prog 26 #[.int .i64 7] w (fun e w' => e = .returned (.func (.func 39) #[] #[]) ∧ Below w.heap.size w w') := by
  go_enter Try.func26, Try.ntmps26
  go_wp2
  go_ret
  exact ⟨rfl, (by repeat first | exact Below.refl _ _ | refine Below.alloc ?_ (by simp) _)⟩
set_option maxRecDepth 100000 in
set_option maxHeartbeats 4000000 in
theorem step_8 (w : World) : Calls Try.prog 26 #[.int .i64 8] w (fun e w' => e = .returned (.func (.func 40) #[] #[]) ∧ Below w.heap.size w w') := by
  go_enter Try.func26, Try.ntmps26
  go_wp2
  go_ret
  exact ⟨rfl, (by repeat first | exact Below.refl _ _ | refine Below.alloc ?_ (by simp) _)⟩
set_option maxRecDepth 100000 in
set_option maxHeartbeats 4000000 in
theorem step_9 (w : World) : Calls Try.prog 26 #[.int .i64 9] w (fun e w' => e = .returned (.func (.func 41) #[] #[]) ∧ Below w.heap.size w w') := by
  go_enter Try.func26, Try.ntmps26
  go_wp2
  go_ret
  exact ⟨rfl, (by repeat first | exact Below.refl _ _ | refine Below.alloc ?_ (by simp) _)⟩
set_option maxRecDepth 100000 in
set_option maxHeartbeats 4000000 in
theorem step_10 (w : World) : Calls Try.prog 26 #[.int .i64 10] w (WrPost (.func (.func 43) #[] #[]) (.func (.func 45) #[] #[]) w) := by
  go_enter Try.func26, Try.ntmps26
  go_wp2_with fail
  refine (write_any _ _ _ _).mono ?_
  rintro e w1 ⟨g1, g2, rfl, k1, k2, hb⟩
  go_wp2
  go_ret
  exact ⟨g1, g2, rfl, k1, k2, hb⟩
set_option maxRecDepth 100000 in
set_option maxHeartbeats 4000000 in
theorem step_11 (w : World) : Calls Try.prog 26 #[.int .i64 11] w (fun e w' => ∃ g1 g2 g3, e = .returned (.func (.func 63) #[] #[.pointer (some ⟨g1, 0, none⟩), .pointer (some ⟨g2, 0, none⟩)]) ∧ boxOf w' g1 = some [.func (.func 46) #[] #[]] ∧ boxOf w' g2 = some [.func (.func 68) #[] #[.pointer (some ⟨g3, 0, none⟩)]] ∧ boxOf w' g3 = some [.int .i64 12] ∧ Below w.heap.size w w') := by
  go_enter Try.func26, Try.ntmps26
  go_wp2_with fail
  refine (to_any 12 _).mono ?_
  rintro e w1 ⟨g3, rfl, k3, hb⟩
  go_wp2_with fail
  refine (write_any _ _ _ _).mono ?_
  rintro e w2 ⟨g1, g2, rfl, k1, k2, hb2⟩
  have k3' := boxOf_keep k3 hb2
  have hb' := below_next hb hb.size hb2
  clear k3 hb hb2
  go_wp2
  go_ret
  exact ⟨g1, g2, g3, rfl, k1, k2, k3', hb'⟩
set_option maxRecDepth 100000 in
set_option maxHeartbeats 4000000 in
theorem step_12 (w : World) : Calls Try.prog 26 #[.int .i64 12] w (fun e w' => ∃ g1 g2 g3, e = .returned (.func (.func 63) #[] #[.pointer (some ⟨g1, 0, none⟩), .pointer (some ⟨g2, 0, none⟩)]) ∧ boxOf w' g1 = some [.func (.func 49) #[] #[]] ∧ boxOf w' g2 = some [.func (.func 68) #[] #[.pointer (some ⟨g3, 0, none⟩)]] ∧ boxOf w' g3 = some [.int .i64 13] ∧ Below w.heap.size w w') := by
  go_enter Try.func26, Try.ntmps26
  go_wp2_with fail
  refine (to_any 13 _).mono ?_
  rintro e w1 ⟨g3, rfl, k3, hb⟩
  go_wp2_with fail
  refine (write_any _ _ _ _).mono ?_
  rintro e w2 ⟨g1, g2, rfl, k1, k2, hb2⟩
  have k3' := boxOf_keep k3 hb2
  have hb' := below_next hb hb.size hb2
  clear k3 hb hb2
  go_wp2
  go_ret
  exact ⟨g1, g2, g3, rfl, k1, k2, k3', hb'⟩
set_option maxRecDepth 100000 in
set_option maxHeartbeats 4000000 in
theorem step_n (k : Int) (h7 : (k == 7) = false) (h8 : (k == 8) = false) (h9 : (k == 9) = false) (h10 : (k == 10) = false) (h11 : (k == 11) = false) (h12 : (k == 12) = false) (w : World) : Calls Try.prog 26 #[.int .i64 k] w (fun e w' => e = .returned .nilFunc ∧ Below w.heap.size w w') := by
  go_enter Try.func26, Try.ntmps26
  go_wp2
  go_ret
  exact ⟨rfl, Below.refl _ _⟩
theorem fre_lk (u : Tn) : LkW u (freG u) := by
  unfold freG; split
  · have l := nx_lk { u with ws := stV u.ws (hdP u) 0 }
    exact ⟨by rw [l.ws]; exact stV_length _ _ _, l.bx, l.bl, l.kl, l.hl, l.tl, l.ll⟩
  · exact ⟨rfl, rfl, rfl, rfl, rfl, rfl, rfl⟩
theorem dep_lk (u : Tn) : LkW u (depG u) := by
  unfold depG; split
  · exact ⟨stV_length _ _ _, rfl, rfl, rfl, rfl, rfl, rfl⟩
  · exact ⟨rfl, rfl, rfl, rfl, rfl, rfl, rfl⟩
theorem pub_gp {u : Tn} {a : TA} {w w' : World} {e : Ending} (h : TnAt w u a) (p : PbPost (pubG u) a w e w') : GPost (pubG u) u a w e w' := by
  apply pb_gp h _ _ _ _ _ _ p <;> (unfold pubG; split <;> rfl)
end Go.Proofs.Ytlbekjnpaiiilaa
