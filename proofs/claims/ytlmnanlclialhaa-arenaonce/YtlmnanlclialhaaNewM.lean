/- Contracts of New, the program's and the document's. -/
import Derived.Test.YtlmnanlclialhaaItsM
import Derived.Deep.OwnRows
import Derived.Deep.RegionWith
namespace Go.Proofs.Ytlmnanlclialhaa
open Go.RowKit

/-- How many there are, if n are asked for. -/
def cntV (n : Int) : Nat := if 1 ≤ n ∧ n ≤ 10000 then n.toNat else 0
theorem cntV_le (n : Int) : cntV n ≤ 10000 := by unfold cntV; split <;> omega

theorem number_any (n : Int) (w : World) : Calls Try.prog 48 #[.int .i64 n] w (fun x w' => x = .returned (.int .i64 (cntV n : Nat)) ∧ w' = w) := by
  by_cases h1 : n < 1
  · have e : cntV n = 0 := by unfold cntV; rw [if_neg (by omega)]
    rw [e]
    go_enter Try.func48, Try.ntmps48
    go_wp2
    go_ret
    exact ⟨rfl, rfl⟩
  · by_cases h2 : n > 10000
    · have e : cntV n = 0 := by unfold cntV; rw [if_neg (by omega)]
      rw [e]
      have h3 : decide (n < 1) = false := decide_eq_false h1
      go_enter Try.func48, Try.ntmps48
      go_wp2
      go_ret
      exact ⟨rfl, rfl⟩
    · have e : ((cntV n : Nat) : Int) = n := by unfold cntV; rw [if_pos (by omega)]; omega
      rw [e]
      have h3 : decide (n < 1) = false := decide_eq_false h1
      have h4 : ¬ (10000 : Int) < n := by omega
      clear e
      go_enter Try.func48, Try.ntmps48
      go_wp2
      go_ret
      exact ⟨rfl, rfl⟩

theorem sees_made (w : World) (z : Value) (t : TypeId) (n : Nat) : Sees (w.alloc (.cells (madeCells #[z] n) t)) (w.alloc (.cells (madeCells #[z] n) t)).heap.size 1 (some ⟨w.heap.size, 0, none⟩) n (List.replicate n z) := by
  refine ⟨by simp, fun hn => ⟨w.heap.size, 0, rfl, by simp, fun j u hu => ?_⟩⟩
  have h := World.rowIs_made w z n t
  rw [List.getElem?_replicate] at hu
  split at hu
  · rename_i hj
    injection hu with hu
    subst hu
    rw [Nat.zero_add]
    exact h.cell hj
  · cases hu

theorem boxes_replicate (k : Nat) : boxes (List.replicate k ⟨none, 0, []⟩) = List.replicate k [] := by simp [boxes]
theorem sees_boxes {w : World} {B : Nat} {A : Option Addr} {n k : Nat} (h : Sees w B 1 A k (List.replicate k (.slice none 0 0))) (e : n = k) : Sees w B 1 A n ((List.replicate k (⟨none, 0, []⟩ : Bt)).map Bt.val) := by
  subst e
  simpa [Bt.val] using h
theorem sees_words {w : World} {B : Nat} {A : Option Addr} {n k : Nat} (h : Sees w B 1 A k (List.replicate k (.int .i64 0))) (e : n = k) : Sees w B 1 A n ((List.replicate k (0 : Int)).map (Value.int .i64)) := by
  subst e
  simpa using h
theorem mem_made (w' : World) {A B : Option Addr} {n k : Nat} (hn : n ≤ 10000) (hk : k ≤ 10000) (h1 : Sees w' w'.heap.size 1 A n (List.replicate n (.int .i64 0))) (h2 : Sees w' w'.heap.size 1 B k (List.replicate k (.slice none 0 0))) :
    MemOk w' A (List.replicate n 0) B (List.replicate k ⟨none, 0, []⟩) :=
  ⟨⟨sees_words h1 (by simp), sees_boxes h2 (by simp), fun q hq => by rw [List.eq_of_mem_replicate hq]; exact Sees.empty⟩, by simp; omega, by simp; omega, fun q hq => by rw [List.eq_of_mem_replicate hq]; simp⟩

/-- A memory alone, whose words and boxes were not there. -/
def MFPost (ws : List Int) (bx : List (List E3)) (w : World) (x : Ending) (w' : World) : Prop :=
  ∃ A c B d bs, x = .returned (.agg #[.slice A ws.length c, .slice B (List.length bs) d]) ∧ boxes bs = bx ∧ MemOk w' A ws B bs ∧ Fresh w A ∧ Fresh w B ∧ Below w.heap.size w w'
theorem MFPost.plain {ws : List Int} {bx : List (List E3)} {w w' : World} {x : Ending} (h : MFPost ws bx w x w') : MPost ws bx w x w' := by
  obtain ⟨A, c, B, d, bs, h1, h2, h3, _, _, h4⟩ := h
  exact ⟨A, c, B, d, bs, h1, h2, h3, h4⟩
theorem fresh_at {w : World} {g : Nat} (h : w.heap.size ≤ g) : Fresh w (some ⟨g, 0, none⟩) := fun p hp => by cases hp; exact h

set_option maxRecDepth 100000 in
set_option maxHeartbeats 2000000 in
theorem newF_any (x y : Int) (w : World) : Calls Try.prog 39 #[.int .i64 x, .int .i64 y] w (MFPost (List.replicate (cntV x) 0) (List.replicate (cntV y) []) w) := by
  have K1 := hide (fun u => number_any x u)
  have K2 := hide (fun u => number_any y u)
  have hx := cntV_le x
  have hy := cntV_le y
  obtain ⟨n, hn⟩ : ∃ n, cntV x = n := ⟨_, rfl⟩
  obtain ⟨k, hk⟩ : ∃ n, cntV y = n := ⟨_, rfl⟩
  simp only [hn] at K1 hx ⊢
  simp only [hk] at K2 hy ⊢
  clear hn hk
  have mk1 := run_make_row' (P := Try.prog) 36 3 (.int .i64 0) 8 Try.underlying36 info3 rfl .i64 .i64 n (by omega) (by omega)
  have mk2 := run_make_row' (P := Try.prog) 37 61 (.slice none 0 0) 24 Try.underlying37 infoRow rfl .i64 .i64 k (by omega) (by omega)
  go_enter Try.func39, Try.ntmps39
  go_wp2_with fail
  go_region_with (first | (go_at_call_of 48 x; refine (K1.out _).mono ?_; rintro e w1 ⟨rfl, rfl⟩) | (go_at_call_of 48 y; refine (K2.out _).mono ?_; rintro e w1 ⟨rfl, rfl⟩))
  all_goals go_wp2
  all_goals (try simp only [Exit.inBlock, Exit.then])
  all_goals first
  |
    (refine bodyPost_ret (v := .agg #[.slice (some ⟨w.heap.size + 1, 0, none⟩) n n, .slice (some ⟨w.heap.size + 1 + 1, 0, none⟩) k k]) (by simp [results, Try.results39, go_sem]) rfl ?_
     have hB0 : Below w.heap.size w (w.alloc (.cells #[.slice (some ⟨w.heap.size + 1, 0, none⟩) n n, .slice (some ⟨w.heap.size + 1 + 1, 0, none⟩) k k] 39)) := (Below.refl _ w).alloc (Nat.le_refl _) _
     have hB1 : Below w.heap.size w ((w.alloc (.cells #[.slice (some ⟨w.heap.size + 1, 0, none⟩) n n, .slice (some ⟨w.heap.size + 1 + 1, 0, none⟩) k k] 39)).alloc (.cells (madeCells #[.int .i64 0] n) 3)) := hB0.alloc (by simp) _
     have hB2 : Below w.heap.size w (((w.alloc (.cells #[.slice (some ⟨w.heap.size + 1, 0, none⟩) n n, .slice (some ⟨w.heap.size + 1 + 1, 0, none⟩) k k] 39)).alloc (.cells (madeCells #[.int .i64 0] n) 3)).alloc (.cells (madeCells #[.slice none 0 0] k) 61)) := hB1.alloc (by simp; omega) _
     have e1 := (sees_made (w.alloc (.cells #[.slice (some ⟨w.heap.size + 1, 0, none⟩) n n, .slice (some ⟨w.heap.size + 1 + 1, 0, none⟩) k k] 39)) (.int .i64 0) 3 n).later ((Below.refl _ _).alloc (Nat.le_refl _) (.cells (madeCells #[.slice none 0 0] k) 61))
     have e2 := sees_made ((w.alloc (.cells #[.slice (some ⟨w.heap.size + 1, 0, none⟩) n n, .slice (some ⟨w.heap.size + 1 + 1, 0, none⟩) k k] 39)).alloc (.cells (madeCells #[.int .i64 0] n) 3)) (.slice none 0 0) 61 k
     have h1 := e1.later ((Below.refl _ _).drew)
     have h2 := e2.later ((Below.refl _ _).drew)
     have z1 : (w.alloc (.cells #[.slice (some ⟨w.heap.size + 1, 0, none⟩) n n, .slice (some ⟨w.heap.size + 1 + 1, 0, none⟩) k k] 39)).heap.size = w.heap.size + 1 := by simp
     have z2 : ((w.alloc (.cells #[.slice (some ⟨w.heap.size + 1, 0, none⟩) n n, .slice (some ⟨w.heap.size + 1 + 1, 0, none⟩) k k] 39)).alloc (.cells (madeCells #[.int .i64 0] n) 3)).heap.size = w.heap.size + 1 + 1 := by simp
     rw [z1] at h1
     rw [z2] at h2
     exact ⟨some ⟨w.heap.size + 1, 0, none⟩, n, some ⟨w.heap.size + 1 + 1, 0, none⟩, k, List.replicate k ⟨none, 0, []⟩, by rw [List.length_replicate, List.length_replicate], boxes_replicate k, mem_made _ hx hy h1 h2, fresh_at (by omega), fresh_at (by omega), hB2.drew⟩)
  |
    (refine bodyPost_ret (v := .agg #[.slice (some ⟨w.heap.size + 1 + 1, 0, none⟩) n n, .slice (some ⟨w.heap.size + 1, 0, none⟩) k k]) (by simp [results, Try.results39, go_sem]) rfl ?_
     have hB0 : Below w.heap.size w (w.alloc (.cells #[.slice (some ⟨w.heap.size + 1 + 1, 0, none⟩) n n, .slice (some ⟨w.heap.size + 1, 0, none⟩) k k] 39)) := (Below.refl _ w).alloc (Nat.le_refl _) _
     have hB1 : Below w.heap.size w ((w.alloc (.cells #[.slice (some ⟨w.heap.size + 1 + 1, 0, none⟩) n n, .slice (some ⟨w.heap.size + 1, 0, none⟩) k k] 39)).alloc (.cells (madeCells #[.slice none 0 0] k) 61)) := hB0.alloc (by simp) _
     have hB2 : Below w.heap.size w (((w.alloc (.cells #[.slice (some ⟨w.heap.size + 1 + 1, 0, none⟩) n n, .slice (some ⟨w.heap.size + 1, 0, none⟩) k k] 39)).alloc (.cells (madeCells #[.slice none 0 0] k) 61)).alloc (.cells (madeCells #[.int .i64 0] n) 3)) := hB1.alloc (by simp; omega) _
     have e1 := (sees_made (w.alloc (.cells #[.slice (some ⟨w.heap.size + 1 + 1, 0, none⟩) n n, .slice (some ⟨w.heap.size + 1, 0, none⟩) k k] 39)) (.slice none 0 0) 61 k).later ((Below.refl _ _).alloc (Nat.le_refl _) (.cells (madeCells #[.int .i64 0] n) 3))
     have e2 := sees_made ((w.alloc (.cells #[.slice (some ⟨w.heap.size + 1 + 1, 0, none⟩) n n, .slice (some ⟨w.heap.size + 1, 0, none⟩) k k] 39)).alloc (.cells (madeCells #[.slice none 0 0] k) 61)) (.int .i64 0) 3 n
     have h1 := e1.later ((Below.refl _ _).drew)
     have h2 := e2.later ((Below.refl _ _).drew)
     have z1 : (w.alloc (.cells #[.slice (some ⟨w.heap.size + 1 + 1, 0, none⟩) n n, .slice (some ⟨w.heap.size + 1, 0, none⟩) k k] 39)).heap.size = w.heap.size + 1 := by simp
     have z2 : ((w.alloc (.cells #[.slice (some ⟨w.heap.size + 1 + 1, 0, none⟩) n n, .slice (some ⟨w.heap.size + 1, 0, none⟩) k k] 39)).alloc (.cells (madeCells #[.slice none 0 0] k) 61)).heap.size = w.heap.size + 1 + 1 := by simp
     rw [z1] at h1
     rw [z2] at h2
     exact ⟨some ⟨w.heap.size + 1 + 1, 0, none⟩, n, some ⟨w.heap.size + 1, 0, none⟩, k, List.replicate k ⟨none, 0, []⟩, by rw [List.length_replicate, List.length_replicate], boxes_replicate k, mem_made _ hx hy h2 h1, fresh_at (by omega), fresh_at (by omega), hB2.drew⟩)
theorem new_any (x y : Int) (w : World) : Calls Try.prog 39 #[.int .i64 x, .int .i64 y] w (MPost (List.replicate (cntV x) 0) (List.replicate (cntV y) []) w) :=
  (newF_any x y w).mono fun _ _ h => h.plain
end Go.Proofs.Ytlmnanlclialhaa
