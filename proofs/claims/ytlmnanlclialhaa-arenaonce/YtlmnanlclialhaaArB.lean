/- Contracts of the program's sizes: ofItems, Size; of row and what it makes. -/
import Derived.Test.YtlmnanlclialhaaArA
namespace Go.Proofs.Ytlmnanlclialhaa
open Go.RowKit

set_option maxRecDepth 100000 in
set_option maxHeartbeats 4000000 in
theorem ofItems_any (x0 x1 x2 x3 x4 x5 x6 x7 : Int) (b : Bool) (x9 x10 x11 : Int) (ok : CfOk x0 x1 x2 x3 x4 x5 x6 x7 b x9 x10 x11) (w : World) : Calls Try.prog 29 #[.agg #[.int .i64 x0, .int .i64 x1, .int .i64 x2, .int .i64 x3, .int .i64 x4, .int .i64 x5, .int .i64 x6, .int .i64 x7, .bool b, .int .i64 x9, .int .i64 x10, .int .i64 x11]] w (IntPost (x1 * bkV x3 x4 x5) w) := by
  have hB : Below w.heap.size w (w.alloc (.cells #[.int .i64 x0, .int .i64 x1, .int .i64 x2, .int .i64 x3, .int .i64 x4, .int .i64 x5, .int .i64 x6, .int .i64 x7, .bool b, .int .i64 x9, .int .i64 x10, .int .i64 x11] 23)) := (Below.refl _ _).alloc (Nat.le_refl _) _
  have H0 : (w.alloc (.cells #[.int .i64 x0, .int .i64 x1, .int .i64 x2, .int .i64 x3, .int .i64 x4, .int .i64 x5, .int .i64 x6, .int .i64 x7, .bool b, .int .i64 x9, .int .i64 x10, .int .i64 x11] 23)).cell? ⟨w.heap.size, 0, none⟩ = some (.int .i64 x0) ∧ (w.alloc (.cells #[.int .i64 x0, .int .i64 x1, .int .i64 x2, .int .i64 x3, .int .i64 x4, .int .i64 x5, .int .i64 x6, .int .i64 x7, .bool b, .int .i64 x9, .int .i64 x10, .int .i64 x11] 23)).cell? ⟨w.heap.size, 1, none⟩ = some (.int .i64 x1) ∧ (w.alloc (.cells #[.int .i64 x0, .int .i64 x1, .int .i64 x2, .int .i64 x3, .int .i64 x4, .int .i64 x5, .int .i64 x6, .int .i64 x7, .bool b, .int .i64 x9, .int .i64 x10, .int .i64 x11] 23)).cell? ⟨w.heap.size, 2, none⟩ = some (.int .i64 x2) ∧ (w.alloc (.cells #[.int .i64 x0, .int .i64 x1, .int .i64 x2, .int .i64 x3, .int .i64 x4, .int .i64 x5, .int .i64 x6, .int .i64 x7, .bool b, .int .i64 x9, .int .i64 x10, .int .i64 x11] 23)).cell? ⟨w.heap.size, 3, none⟩ = some (.int .i64 x3) ∧ (w.alloc (.cells #[.int .i64 x0, .int .i64 x1, .int .i64 x2, .int .i64 x3, .int .i64 x4, .int .i64 x5, .int .i64 x6, .int .i64 x7, .bool b, .int .i64 x9, .int .i64 x10, .int .i64 x11] 23)).cell? ⟨w.heap.size, 4, none⟩ = some (.int .i64 x4) ∧ (w.alloc (.cells #[.int .i64 x0, .int .i64 x1, .int .i64 x2, .int .i64 x3, .int .i64 x4, .int .i64 x5, .int .i64 x6, .int .i64 x7, .bool b, .int .i64 x9, .int .i64 x10, .int .i64 x11] 23)).cell? ⟨w.heap.size, 5, none⟩ = some (.int .i64 x5) ∧ (w.alloc (.cells #[.int .i64 x0, .int .i64 x1, .int .i64 x2, .int .i64 x3, .int .i64 x4, .int .i64 x5, .int .i64 x6, .int .i64 x7, .bool b, .int .i64 x9, .int .i64 x10, .int .i64 x11] 23)).cell? ⟨w.heap.size, 6, none⟩ = some (.int .i64 x6) ∧ (w.alloc (.cells #[.int .i64 x0, .int .i64 x1, .int .i64 x2, .int .i64 x3, .int .i64 x4, .int .i64 x5, .int .i64 x6, .int .i64 x7, .bool b, .int .i64 x9, .int .i64 x10, .int .i64 x11] 23)).cell? ⟨w.heap.size, 7, none⟩ = some (.int .i64 x7) ∧ (w.alloc (.cells #[.int .i64 x0, .int .i64 x1, .int .i64 x2, .int .i64 x3, .int .i64 x4, .int .i64 x5, .int .i64 x6, .int .i64 x7, .bool b, .int .i64 x9, .int .i64 x10, .int .i64 x11] 23)).cell? ⟨w.heap.size, 8, none⟩ = some (.bool b) ∧ (w.alloc (.cells #[.int .i64 x0, .int .i64 x1, .int .i64 x2, .int .i64 x3, .int .i64 x4, .int .i64 x5, .int .i64 x6, .int .i64 x7, .bool b, .int .i64 x9, .int .i64 x10, .int .i64 x11] 23)).cell? ⟨w.heap.size, 9, none⟩ = some (.int .i64 x9) ∧ (w.alloc (.cells #[.int .i64 x0, .int .i64 x1, .int .i64 x2, .int .i64 x3, .int .i64 x4, .int .i64 x5, .int .i64 x6, .int .i64 x7, .bool b, .int .i64 x9, .int .i64 x10, .int .i64 x11] 23)).cell? ⟨w.heap.size, 10, none⟩ = some (.int .i64 x10) ∧ (w.alloc (.cells #[.int .i64 x0, .int .i64 x1, .int .i64 x2, .int .i64 x3, .int .i64 x4, .int .i64 x5, .int .i64 x6, .int .i64 x7, .bool b, .int .i64 x9, .int .i64 x10, .int .i64 x11] 23)).cell? ⟨w.heap.size, 11, none⟩ = some (.int .i64 x11) := by simp [go_sem]
  have K := hide (perItem_any x0 x1 x2 x3 x4 x5 x6 x7 b x9 x10 x11 ok)
  have h1 := bk_le ok.h3 ok.h4 ok.h5
  obtain ⟨bk, hbk⟩ : ∃ n, bkV x3 x4 x5 = n := ⟨_, rfl⟩
  rw [hbk] at K h1 ⊢
  have h2 := mul_le (a := x1) (b := bk) ⟨by have := ok.h1; omega, ok.h1.2⟩ ⟨by omega, h1.2⟩
  have e2 := w64 (x := x1 * bk) (by omega)
  clear hbk h1 h2 ok
  go_enter Try.func29, Try.ntmps29
  go_upto_region 1 with fail
  generalize (w.alloc (.cells #[.int .i64 x0, .int .i64 x1, .int .i64 x2, .int .i64 x3, .int .i64 x4, .int .i64 x5, .int .i64 x6, .int .i64 x7, .bool b, .int .i64 x9, .int .i64 x10, .int .i64 x11] 23)) = wz at *
  replace H0 := keep12 H0 ((Below.refl _ wz).drew)
  replace hB := hB.drew
  go_region_held3 (fun w' => w'.cell? ⟨w.heap.size, 0, none⟩ = some (.int .i64 x0) ∧ w'.cell? ⟨w.heap.size, 1, none⟩ = some (.int .i64 x1) ∧ w'.cell? ⟨w.heap.size, 2, none⟩ = some (.int .i64 x2) ∧ w'.cell? ⟨w.heap.size, 3, none⟩ = some (.int .i64 x3) ∧ w'.cell? ⟨w.heap.size, 4, none⟩ = some (.int .i64 x4) ∧ w'.cell? ⟨w.heap.size, 5, none⟩ = some (.int .i64 x5) ∧ w'.cell? ⟨w.heap.size, 6, none⟩ = some (.int .i64 x6) ∧ w'.cell? ⟨w.heap.size, 7, none⟩ = some (.int .i64 x7) ∧ w'.cell? ⟨w.heap.size, 8, none⟩ = some (.bool b) ∧ w'.cell? ⟨w.heap.size, 9, none⟩ = some (.int .i64 x9) ∧ w'.cell? ⟨w.heap.size, 10, none⟩ = some (.int .i64 x10) ∧ w'.cell? ⟨w.heap.size, 11, none⟩ = some (.int .i64 x11))
    (exact H0)
    (first
      | (go_at_call 45; refine (K.out _).mono ?_; rintro x v ⟨rfl, hv⟩; replace H0 := keep12 H0 hv; replace hB := below_next hB hB.size hv))
  go_wp2
  go_ret
  exact ⟨rfl, hB⟩

set_option maxRecDepth 100000 in
set_option maxHeartbeats 4000000 in
theorem size_any (x0 x1 x2 x3 x4 x5 x6 x7 : Int) (b : Bool) (x9 x10 x11 : Int) (ok : CfOk x0 x1 x2 x3 x4 x5 x6 x7 b x9 x10 x11) (w : World) : Calls Try.prog 12 #[.agg #[.int .i64 x0, .int .i64 x1, .int .i64 x2, .int .i64 x3, .int .i64 x4, .int .i64 x5, .int .i64 x6, .int .i64 x7, .bool b, .int .i64 x9, .int .i64 x10, .int .i64 x11]] w (IntPost (sizeV x1 (bkV x3 x4 x5) x0) w) := by
  have hB : Below w.heap.size w (w.alloc (.cells #[.int .i64 x0, .int .i64 x1, .int .i64 x2, .int .i64 x3, .int .i64 x4, .int .i64 x5, .int .i64 x6, .int .i64 x7, .bool b, .int .i64 x9, .int .i64 x10, .int .i64 x11] 23)) := (Below.refl _ _).alloc (Nat.le_refl _) _
  have H0 : (w.alloc (.cells #[.int .i64 x0, .int .i64 x1, .int .i64 x2, .int .i64 x3, .int .i64 x4, .int .i64 x5, .int .i64 x6, .int .i64 x7, .bool b, .int .i64 x9, .int .i64 x10, .int .i64 x11] 23)).cell? ⟨w.heap.size, 0, none⟩ = some (.int .i64 x0) ∧ (w.alloc (.cells #[.int .i64 x0, .int .i64 x1, .int .i64 x2, .int .i64 x3, .int .i64 x4, .int .i64 x5, .int .i64 x6, .int .i64 x7, .bool b, .int .i64 x9, .int .i64 x10, .int .i64 x11] 23)).cell? ⟨w.heap.size, 1, none⟩ = some (.int .i64 x1) ∧ (w.alloc (.cells #[.int .i64 x0, .int .i64 x1, .int .i64 x2, .int .i64 x3, .int .i64 x4, .int .i64 x5, .int .i64 x6, .int .i64 x7, .bool b, .int .i64 x9, .int .i64 x10, .int .i64 x11] 23)).cell? ⟨w.heap.size, 2, none⟩ = some (.int .i64 x2) ∧ (w.alloc (.cells #[.int .i64 x0, .int .i64 x1, .int .i64 x2, .int .i64 x3, .int .i64 x4, .int .i64 x5, .int .i64 x6, .int .i64 x7, .bool b, .int .i64 x9, .int .i64 x10, .int .i64 x11] 23)).cell? ⟨w.heap.size, 3, none⟩ = some (.int .i64 x3) ∧ (w.alloc (.cells #[.int .i64 x0, .int .i64 x1, .int .i64 x2, .int .i64 x3, .int .i64 x4, .int .i64 x5, .int .i64 x6, .int .i64 x7, .bool b, .int .i64 x9, .int .i64 x10, .int .i64 x11] 23)).cell? ⟨w.heap.size, 4, none⟩ = some (.int .i64 x4) ∧ (w.alloc (.cells #[.int .i64 x0, .int .i64 x1, .int .i64 x2, .int .i64 x3, .int .i64 x4, .int .i64 x5, .int .i64 x6, .int .i64 x7, .bool b, .int .i64 x9, .int .i64 x10, .int .i64 x11] 23)).cell? ⟨w.heap.size, 5, none⟩ = some (.int .i64 x5) ∧ (w.alloc (.cells #[.int .i64 x0, .int .i64 x1, .int .i64 x2, .int .i64 x3, .int .i64 x4, .int .i64 x5, .int .i64 x6, .int .i64 x7, .bool b, .int .i64 x9, .int .i64 x10, .int .i64 x11] 23)).cell? ⟨w.heap.size, 6, none⟩ = some (.int .i64 x6) ∧ (w.alloc (.cells #[.int .i64 x0, .int .i64 x1, .int .i64 x2, .int .i64 x3, .int .i64 x4, .int .i64 x5, .int .i64 x6, .int .i64 x7, .bool b, .int .i64 x9, .int .i64 x10, .int .i64 x11] 23)).cell? ⟨w.heap.size, 7, none⟩ = some (.int .i64 x7) ∧ (w.alloc (.cells #[.int .i64 x0, .int .i64 x1, .int .i64 x2, .int .i64 x3, .int .i64 x4, .int .i64 x5, .int .i64 x6, .int .i64 x7, .bool b, .int .i64 x9, .int .i64 x10, .int .i64 x11] 23)).cell? ⟨w.heap.size, 8, none⟩ = some (.bool b) ∧ (w.alloc (.cells #[.int .i64 x0, .int .i64 x1, .int .i64 x2, .int .i64 x3, .int .i64 x4, .int .i64 x5, .int .i64 x6, .int .i64 x7, .bool b, .int .i64 x9, .int .i64 x10, .int .i64 x11] 23)).cell? ⟨w.heap.size, 9, none⟩ = some (.int .i64 x9) ∧ (w.alloc (.cells #[.int .i64 x0, .int .i64 x1, .int .i64 x2, .int .i64 x3, .int .i64 x4, .int .i64 x5, .int .i64 x6, .int .i64 x7, .bool b, .int .i64 x9, .int .i64 x10, .int .i64 x11] 23)).cell? ⟨w.heap.size, 10, none⟩ = some (.int .i64 x10) ∧ (w.alloc (.cells #[.int .i64 x0, .int .i64 x1, .int .i64 x2, .int .i64 x3, .int .i64 x4, .int .i64 x5, .int .i64 x6, .int .i64 x7, .bool b, .int .i64 x9, .int .i64 x10, .int .i64 x11] 23)).cell? ⟨w.heap.size, 11, none⟩ = some (.int .i64 x11) := by simp [go_sem]
  have K := hide (ofItems_any x0 x1 x2 x3 x4 x5 x6 x7 b x9 x10 x11 ok)
  have h1 := bk_le ok.h3 ok.h4 ok.h5
  obtain ⟨bk, hbk⟩ : ∃ n, bkV x3 x4 x5 = n := ⟨_, rfl⟩
  rw [hbk] at K h1 ⊢
  have h2 := mul_le (a := x1) (b := bk) ⟨by have := ok.h1; omega, ok.h1.2⟩ ⟨by omega, h1.2⟩
  have h0 := ok.h0
  unfold sizeV
  obtain ⟨m, hm⟩ : ∃ m, x1 * bk = m := ⟨_, rfl⟩
  rw [hm] at K h2 ⊢
  have e1 := w64 (x := 2 * x0) (by omega)
  have e2 := w64 (x := m + 2 * x0) (by omega)
  clear hbk h1 h2 ok h0 hm
  go_enter Try.func12, Try.ntmps12
  go_upto_region 1 with fail
  generalize (w.alloc (.cells #[.int .i64 x0, .int .i64 x1, .int .i64 x2, .int .i64 x3, .int .i64 x4, .int .i64 x5, .int .i64 x6, .int .i64 x7, .bool b, .int .i64 x9, .int .i64 x10, .int .i64 x11] 23)) = wz at *
  replace H0 := keep12 H0 ((Below.refl _ wz).drew)
  replace hB := hB.drew
  go_region_held3 (fun w' => w'.cell? ⟨w.heap.size, 0, none⟩ = some (.int .i64 x0) ∧ w'.cell? ⟨w.heap.size, 1, none⟩ = some (.int .i64 x1) ∧ w'.cell? ⟨w.heap.size, 2, none⟩ = some (.int .i64 x2) ∧ w'.cell? ⟨w.heap.size, 3, none⟩ = some (.int .i64 x3) ∧ w'.cell? ⟨w.heap.size, 4, none⟩ = some (.int .i64 x4) ∧ w'.cell? ⟨w.heap.size, 5, none⟩ = some (.int .i64 x5) ∧ w'.cell? ⟨w.heap.size, 6, none⟩ = some (.int .i64 x6) ∧ w'.cell? ⟨w.heap.size, 7, none⟩ = some (.int .i64 x7) ∧ w'.cell? ⟨w.heap.size, 8, none⟩ = some (.bool b) ∧ w'.cell? ⟨w.heap.size, 9, none⟩ = some (.int .i64 x9) ∧ w'.cell? ⟨w.heap.size, 10, none⟩ = some (.int .i64 x10) ∧ w'.cell? ⟨w.heap.size, 11, none⟩ = some (.int .i64 x11))
    (exact H0)
    (first
      | (go_at_call 29; refine (K.out _).mono ?_; rintro x v ⟨rfl, hv⟩; replace H0 := keep12 H0 hv; replace hB := below_next hB hB.size hv))
  go_wp2
  go_ret
  exact ⟨rfl, hB⟩

/-- A function that tells places: its captured variables. -/
def PlAt (w : World) (a b c d : Nat) (s f m k : Int) : Prop :=
  w.cell? ⟨a, 0, none⟩ = some (.int .i64 f) ∧ w.cell? ⟨b, 0, none⟩ = some (.int .i64 m) ∧ w.cell? ⟨c, 0, none⟩ = some (.int .i64 s) ∧ w.cell? ⟨d, 0, none⟩ = some (.int .i64 k)
def PlPost (s f m k : Int) (w : World) (x : Ending) (w' : World) : Prop :=
  ∃ a b c d, x = .returned (.func (.func 50) #[] #[.pointer (some ⟨a, 0, none⟩), .pointer (some ⟨b, 0, none⟩), .pointer (some ⟨c, 0, none⟩), .pointer (some ⟨d, 0, none⟩)]) ∧ PlAt w' a b c d s f m k ∧ Below w.heap.size w w'
theorem PlAt.later {w w' : World} {a b c d : Nat} {s f m k : Int} (h : PlAt w a b c d s f m k) (hb : Below w.heap.size w w') : PlAt w' a b c d s f m k :=
  ⟨cell_keep h.1 hb, cell_keep h.2.1 hb, cell_keep h.2.2.1 hb, cell_keep h.2.2.2 hb⟩

set_option maxRecDepth 100000 in
set_option maxHeartbeats 4000000 in
theorem row_any (s f m k : Int) (w : World) : Calls Try.prog 46 #[.int .i64 s, .int .i64 f, .int .i64 m, .int .i64 k] w (PlPost s f m k w) := by
  go_enter Try.func46, Try.ntmps46
  go_wp2
  go_ret
  refine ⟨_, _, _, _, rfl, ⟨by simp [go_sem], by simp [go_sem], by simp [go_sem], by simp [go_sem]⟩, ?_⟩
  exact ((((Below.refl _ w).alloc (Nat.le_refl _) _).alloc (by simp) _).alloc (by simp; omega) _).alloc (by simp; omega) _

theorem row_no1 {s f m k n : Int} (h : n < f) : rowV s f m k n = -1 := by rw [rowV, if_pos (.inl h)]
theorem row_no2 {s f m k n : Int} (h : m ≤ n - f) : rowV s f m k n = -1 := by rw [rowV, if_pos (.inr h)]
theorem row_in {s f m k n : Int} (h : ¬ n < f) (h' : ¬ m ≤ n - f) : rowV s f m k n = s + (n - f) * k := by rw [rowV, if_neg (by omega)]

set_option maxRecDepth 100000 in
set_option maxHeartbeats 4000000 in
theorem row1_any (a b c d : Nat) (s f m k n : Int) (hf : 0 ≤ f ∧ f ≤ 1) (hm : 0 ≤ m ∧ m ≤ 1000) (hk : 0 ≤ k ∧ k ≤ 100) (hs : 0 ≤ s ∧ s ≤ 1000) (hn : I64 n) (w : World) (h : PlAt w a b c d s f m k) :
    Calls Try.prog 50 #[.int .i64 n, .pointer (some ⟨a, 0, none⟩), .pointer (some ⟨b, 0, none⟩), .pointer (some ⟨c, 0, none⟩), .pointer (some ⟨d, 0, none⟩)] w (fun x w' => x = .returned (.int .i64 (rowV s f m k n)) ∧ w' = w) := by
  obtain ⟨ha, hb, hc, hd⟩ := h
  unfold I64 at hn
  by_cases h1 : n < f
  · rw [row_no1 h1]
    clear hf hm hk hs hn
    go_enter Try.func50, Try.ntmps50
    go_wp2
    go_ret
    exact ⟨rfl, rfl⟩
  · have h2 : decide (n < f) = false := decide_eq_false h1
    by_cases h3 : m ≤ n - f
    · rw [row_no2 h3]
      clear hk hs
      go_enter Try.func50, Try.ntmps50
      go_wp2
      go_ret
      exact ⟨rfl, rfl⟩
    · rw [row_in h1 h3]
      have h4 := mul_le (a := n - f) (b := k) (p := 1000) (q := 100) (by omega) hk
      go_enter Try.func50, Try.ntmps50
      go_wp2
      go_ret
      exact ⟨rfl, rfl⟩

end Go.Proofs.Ytlmnanlclialhaa
