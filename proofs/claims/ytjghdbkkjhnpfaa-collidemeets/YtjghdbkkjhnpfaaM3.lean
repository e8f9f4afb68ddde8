/- Texts of the elder layers in one file. -/
import Derived.Test.YtjghdbkkjhnpfaaRows
import Derived.Test.YtjghdbkkjhnpfaaM2
import Derived.Deep.RegionHeld3
import Derived.Deep.CutRange
import Derived.Test.YtjghdbkkjhnpfaaM1
import Derived.Lib.SmallJoins
/- Configs: what Check and Steps answer, as plain mathematics. Nothing of the program. -/
namespace Go.Proofs.Ytjghdbkkjhnpfaa
open Go.RowKit

theorem ret_i {a b : Int} (h : b = a) : Ending.returned (.int .i64 a) = .returned (.int .i64 b) := by rw [h]

/-- The error of the first number that is not within its bounds: a number, its least, its greatest, its error. -/
def ckL : List (Int × Int × Int × Int) → Int
  | [] => 0
  | n :: t => if n.1 < n.2.1 ∨ n.2.2.1 < n.1 then n.2.2.2 else ckL t
/-- The numbers of a config, with their bounds and errors. -/
def numsL (x0 x1 x2 x3 x4 x5 x6 x7 : Int) (b : Bool) (x9 x10 x11 : Int) : List (Int × Int × Int × Int) :=
  [(x0, 1, 16, 50), (x1, 1, 4, 51), (x2, 1, 3, 52), (x3, 0, 4, 53), (x4, 0, 3, 54), (x5, 1, 8, 55), (x6, 0, 20, 56), (x7, 0, 1000, 57), (x11, if b then x9 else x11, if b then x10 else x11, 58)]
/-- What Check answers. -/
def ckV (x0 x1 x2 x3 x4 x5 x6 x7 : Int) (b : Bool) (x9 x10 x11 : Int) : Int := ckL (numsL x0 x1 x2 x3 x4 x5 x6 x7 b x9 x10 x11)
/-- What Steps answers, of a config that may be. -/
def spV (d l s : Int) : Int := 20 + 8 * d + l * (20 + 2 * s)

theorem ckL_bad {l : List (Int × Int × Int × Int)} {k : Nat} {n : Int × Int × Int × Int} (h : l[k]? = some n) (hb : n.1 < n.2.1 ∨ n.2.2.1 < n.1) : ckL (l.drop k) = n.2.2.2 := by
  rw [List.getElem?_eq_some_iff] at h
  obtain ⟨hk, rfl⟩ := h
  rw [List.drop_eq_getElem_cons hk, ckL, if_pos hb]
theorem ckL_good {l : List (Int × Int × Int × Int)} {k : Nat} {n : Int × Int × Int × Int} (h : l[k]? = some n) (hb : ¬(n.1 < n.2.1 ∨ n.2.2.1 < n.1)) : ckL (l.drop k) = ckL (l.drop (k + 1)) := by
  rw [List.getElem?_eq_some_iff] at h
  obtain ⟨hk, rfl⟩ := h
  rw [List.drop_eq_getElem_cons hk, ckL, if_neg hb]

/-- May it be? -/
structure CfOk (x0 x1 x2 x3 x4 x5 x6 x7 : Int) (b : Bool) (x9 x10 x11 : Int) : Prop where
  h0 : 1 ≤ x0 ∧ x0 ≤ 16
  h1 : 1 ≤ x1 ∧ x1 ≤ 4
  h2 : 1 ≤ x2 ∧ x2 ≤ 3
  h3 : 0 ≤ x3 ∧ x3 ≤ 4
  h4 : 0 ≤ x4 ∧ x4 ≤ 3
  h5 : 1 ≤ x5 ∧ x5 ≤ 8
  h6 : 0 ≤ x6 ∧ x6 ≤ 20
  h7 : 0 ≤ x7 ∧ x7 ≤ 1000
  hb : b = true → x9 ≤ x11 ∧ x11 ≤ x10
theorem ck_ok (x0 x1 x2 x3 x4 x5 x6 x7 : Int) (b : Bool) (x9 x10 x11 : Int) : ckV x0 x1 x2 x3 x4 x5 x6 x7 b x9 x10 x11 = 0 ↔ CfOk x0 x1 x2 x3 x4 x5 x6 x7 b x9 x10 x11 := by
  constructor
  · intro h
    have hx : ¬(x11 < (if b then x9 else x11) ∨ (if b then x10 else x11) < x11) ∧ (1 ≤ x0 ∧ x0 ≤ 16) ∧ (1 ≤ x1 ∧ x1 ≤ 4) ∧ (1 ≤ x2 ∧ x2 ≤ 3) ∧ (0 ≤ x3 ∧ x3 ≤ 4) ∧ (0 ≤ x4 ∧ x4 ≤ 3) ∧ (1 ≤ x5 ∧ x5 ≤ 8) ∧ (0 ≤ x6 ∧ x6 ≤ 20) ∧ (0 ≤ x7 ∧ x7 ≤ 1000) := by
      simp only [ckV, numsL, ckL] at h
      repeat (first | omega | (split at h; next => omega))
    obtain ⟨hx, h0, h1, h2, h3, h4, h5, h6, h7⟩ := hx
    refine ⟨h0, h1, h2, h3, h4, h5, h6, h7, fun hb => ?_⟩
    subst hb
    simp at hx
    omega
  · intro ⟨h0, h1, h2, h3, h4, h5, h6, h7, hb⟩
    simp only [ckV, numsL, ckL]
    repeat (rw [if_neg (by omega)])
    cases b
    · simp
    · have := hb rfl
      simp; omega
end Go.Proofs.Ytjghdbkkjhnpfaa
/- Contracts of the document's Check and Steps, and of the program's beginning and Steps. -/
namespace Go.Proofs.Ytjghdbkkjhnpfaa
open Go.RowKit

theorem sp_eq {d l s : Int} (h3 : 0 ≤ d ∧ d ≤ 4) (h4 : 0 ≤ l ∧ l ≤ 3) (h6 : 0 ≤ s ∧ s ≤ 20) : spV d l s = wrap64 (20 + 8 * d + wrap64 (l * (20 + 2 * s))) := by
  have h : l = 0 ∨ l = 1 ∨ l = 2 ∨ l = 3 := by omega
  unfold spV wrap64
  rcases h with rfl | rfl | rfl | rfl <;> omega

/-- A number with its bounds and its error. -/
def N4Post (n l m e : Int) (w : World) (x : Ending) (w' : World) : Prop := x = .returned (.agg #[.int .i64 n, .int .i64 l, .int .i64 m, .int .i64 e]) ∧ Below w.heap.size w w'

set_option maxRecDepth 100000 in
set_option maxHeartbeats 1000000 in
theorem beginning_is (x0 x1 x2 x3 x4 x5 x6 x7 : Int) (b : Bool) (x9 x10 x11 : Int) (w : World) : Calls Try.prog 54 #[.agg #[.int .i64 x0, .int .i64 x1, .int .i64 x2, .int .i64 x3, .int .i64 x4, .int .i64 x5, .int .i64 x6, .int .i64 x7, .bool b, .int .i64 x9, .int .i64 x10, .int .i64 x11]] w fun x w' => x = .returned (.agg #[.int .i64 x11, .int .i64 (if b then x9 else x11), .int .i64 (if b then x10 else x11), .int .i64 58]) ∧
    w' = (w.alloc (.cells #[.int .i64 x0, .int .i64 x1, .int .i64 x2, .int .i64 x3, .int .i64 x4, .int .i64 x5, .int .i64 x6, .int .i64 x7, .bool b, .int .i64 x9, .int .i64 x10, .int .i64 x11] 23)).alloc (.cells #[.int .i64 x11, .int .i64 (if b then x9 else x11), .int .i64 (if b then x10 else x11), .int .i64 58] 145) := by
  cases b
  · go_enter Try.func54, Try.ntmps54
    go_wp2
    refine bodyPost_ret (v := .agg #[.int .i64 x11, .int .i64 x11, .int .i64 x11, .int .i64 58]) (by simp [results, Try.results54, go_sem]) rfl ⟨rfl, rfl⟩
  · go_enter Try.func54, Try.ntmps54
    go_wp2
    refine bodyPost_ret (v := .agg #[.int .i64 x11, .int .i64 x9, .int .i64 x10, .int .i64 58]) (by simp [results, Try.results54, go_sem]) rfl ⟨rfl, rfl⟩
theorem beginning_any (x0 x1 x2 x3 x4 x5 x6 x7 : Int) (b : Bool) (x9 x10 x11 : Int) (w : World) : Calls Try.prog 54 #[.agg #[.int .i64 x0, .int .i64 x1, .int .i64 x2, .int .i64 x3, .int .i64 x4, .int .i64 x5, .int .i64 x6, .int .i64 x7, .bool b, .int .i64 x9, .int .i64 x10, .int .i64 x11]] w (N4Post x11 (if b then x9 else x11) (if b then x10 else x11) 58 w) :=
  (beginning_is x0 x1 x2 x3 x4 x5 x6 x7 b x9 x10 x11 w).mono fun _ _ ⟨h1, h2⟩ => ⟨h1, by subst h2; exact ((Below.refl _ _).alloc (Nat.le_refl _) _).alloc (by simp) _⟩

set_option maxRecDepth 100000 in
set_option maxHeartbeats 4000000 in
theorem rcheck_any (x0 x1 x2 x3 x4 x5 x6 x7 : Int) (b : Bool) (x9 x10 x11 : Int) (w : World) : Calls Try.prog 36 #[.agg #[.int .i64 x0, .int .i64 x1, .int .i64 x2, .int .i64 x3, .int .i64 x4, .int .i64 x5, .int .i64 x6, .int .i64 x7, .bool b, .int .i64 x9, .int .i64 x10, .int .i64 x11]] w (IntPost (ckV x0 x1 x2 x3 x4 x5 x6 x7 b x9 x10 x11) w) := by
  have HB : Hid (Below w.heap.size w (w.alloc (.cells #[.int .i64 x0, .int .i64 x1, .int .i64 x2, .int .i64 x3, .int .i64 x4, .int .i64 x5, .int .i64 x6, .int .i64 x7, .bool b, .int .i64 x9, .int .i64 x10, .int .i64 x11] 39))) := hide ((Below.refl _ _).alloc (Nat.le_refl _) _)
  cases b
  all_goals
    go_enter Try.func36, Try.ntmps36
    go_wp2
    all_goals
      go_ret
      refine ⟨ret_i ?_, HB.out⟩
      clear HB
      simp only [ckV, numsL, ckL, if_true, Bool.false_eq_true, if_false]
      repeat (first | rfl | rw [if_pos (by omega)] | rw [if_neg (by omega)])
end Go.Proofs.Ytjghdbkkjhnpfaa
/- The contract of the program's Check. -/
namespace Go.Proofs.Ytjghdbkkjhnpfaa
open Go.RowKit

theorem keep12 {w w' : World} {g : Nat} {x0 x1 x2 x3 x4 x5 x6 x7 : Int} {b : Bool} {x9 x10 x11 : Int} (h : w.cell? ⟨g, 0, none⟩ = some (.int .i64 x0) ∧ w.cell? ⟨g, 1, none⟩ = some (.int .i64 x1) ∧ w.cell? ⟨g, 2, none⟩ = some (.int .i64 x2) ∧ w.cell? ⟨g, 3, none⟩ = some (.int .i64 x3) ∧ w.cell? ⟨g, 4, none⟩ = some (.int .i64 x4) ∧ w.cell? ⟨g, 5, none⟩ = some (.int .i64 x5) ∧ w.cell? ⟨g, 6, none⟩ = some (.int .i64 x6) ∧ w.cell? ⟨g, 7, none⟩ = some (.int .i64 x7) ∧ w.cell? ⟨g, 8, none⟩ = some (.bool b) ∧ w.cell? ⟨g, 9, none⟩ = some (.int .i64 x9) ∧ w.cell? ⟨g, 10, none⟩ = some (.int .i64 x10) ∧ w.cell? ⟨g, 11, none⟩ = some (.int .i64 x11)) (hb : Below w.heap.size w w') : w'.cell? ⟨g, 0, none⟩ = some (.int .i64 x0) ∧ w'.cell? ⟨g, 1, none⟩ = some (.int .i64 x1) ∧ w'.cell? ⟨g, 2, none⟩ = some (.int .i64 x2) ∧ w'.cell? ⟨g, 3, none⟩ = some (.int .i64 x3) ∧ w'.cell? ⟨g, 4, none⟩ = some (.int .i64 x4) ∧ w'.cell? ⟨g, 5, none⟩ = some (.int .i64 x5) ∧ w'.cell? ⟨g, 6, none⟩ = some (.int .i64 x6) ∧ w'.cell? ⟨g, 7, none⟩ = some (.int .i64 x7) ∧ w'.cell? ⟨g, 8, none⟩ = some (.bool b) ∧ w'.cell? ⟨g, 9, none⟩ = some (.int .i64 x9) ∧ w'.cell? ⟨g, 10, none⟩ = some (.int .i64 x10) ∧ w'.cell? ⟨g, 11, none⟩ = some (.int .i64 x11) := by
  obtain ⟨h0, h1, h2, h3, h4, h5, h6, h7, h8, h9, h10, h11⟩ := h
  exact ⟨cell_keep h0 hb, cell_keep h1 hb, cell_keep h2 hb, cell_keep h3 hb, cell_keep h4 hb, cell_keep h5 hb, cell_keep h6 hb, cell_keep h7 hb, cell_keep h8 hb, cell_keep h9 hb, cell_keep h10 hb, cell_keep h11 hb⟩
theorem far12 {w : World} {g k : Nat} {vs : List Value} {x0 x1 x2 x3 x4 x5 x6 x7 : Int} {b : Bool} {x9 x10 x11 : Int} (h : w.cell? ⟨g, 0, none⟩ = some (.int .i64 x0) ∧ w.cell? ⟨g, 1, none⟩ = some (.int .i64 x1) ∧ w.cell? ⟨g, 2, none⟩ = some (.int .i64 x2) ∧ w.cell? ⟨g, 3, none⟩ = some (.int .i64 x3) ∧ w.cell? ⟨g, 4, none⟩ = some (.int .i64 x4) ∧ w.cell? ⟨g, 5, none⟩ = some (.int .i64 x5) ∧ w.cell? ⟨g, 6, none⟩ = some (.int .i64 x6) ∧ w.cell? ⟨g, 7, none⟩ = some (.int .i64 x7) ∧ w.cell? ⟨g, 8, none⟩ = some (.bool b) ∧ w.cell? ⟨g, 9, none⟩ = some (.int .i64 x9) ∧ w.cell? ⟨g, 10, none⟩ = some (.int .i64 x10) ∧ w.cell? ⟨g, 11, none⟩ = some (.int .i64 x11)) (hk : g ≠ k) : (w.setCells k 0 vs).cell? ⟨g, 0, none⟩ = some (.int .i64 x0) ∧ (w.setCells k 0 vs).cell? ⟨g, 1, none⟩ = some (.int .i64 x1) ∧ (w.setCells k 0 vs).cell? ⟨g, 2, none⟩ = some (.int .i64 x2) ∧ (w.setCells k 0 vs).cell? ⟨g, 3, none⟩ = some (.int .i64 x3) ∧ (w.setCells k 0 vs).cell? ⟨g, 4, none⟩ = some (.int .i64 x4) ∧ (w.setCells k 0 vs).cell? ⟨g, 5, none⟩ = some (.int .i64 x5) ∧ (w.setCells k 0 vs).cell? ⟨g, 6, none⟩ = some (.int .i64 x6) ∧ (w.setCells k 0 vs).cell? ⟨g, 7, none⟩ = some (.int .i64 x7) ∧ (w.setCells k 0 vs).cell? ⟨g, 8, none⟩ = some (.bool b) ∧ (w.setCells k 0 vs).cell? ⟨g, 9, none⟩ = some (.int .i64 x9) ∧ (w.setCells k 0 vs).cell? ⟨g, 10, none⟩ = some (.int .i64 x10) ∧ (w.setCells k 0 vs).cell? ⟨g, 11, none⟩ = some (.int .i64 x11) := by
  have key : ∀ (i : Nat) (v : Value), w.cell? ⟨g, i, none⟩ = some v → (w.setCells k 0 vs).cell? ⟨g, i, none⟩ = some v := fun i v hv => by
    rw [World.cell?_setCells_out k vs 0 w ⟨g, i, none⟩ (fun e _ => absurd e hk)]; exact hv
  obtain ⟨h0, h1, h2, h3, h4, h5, h6, h7, h8, h9, h10, h11⟩ := h
  exact ⟨key _ _ h0, key _ _ h1, key _ _ h2, key _ _ h3, key _ _ h4, key _ _ h5, key _ _ h6, key _ _ h7, key _ _ h8, key _ _ h9, key _ _ h10, key _ _ h11⟩
theorem below_setCells {B : Nat} {a : World} {k : Nat} (hk : B ≤ k) : ∀ (vs : List Value) (o : Nat) (w : World), Below B a w → Below B a (w.setCells k o vs)
  | [], _, _, h => h
  | v :: r, o, _, h => below_setCells hk r (o + 1) _ (h.setCell (p := ⟨k, o, none⟩) hk v)
theorem there_new (w : World) (cs : Array Value) (t : TypeId) : (w.alloc (.cells cs t)).there w.heap.size 0 cs.size := fun j hj => by
  constructor
  · simp [go_sem, hj]
  · simp [go_sem]
theorem there_keep {w w' : World} {g n : Nat} (h : w.there g 0 n) (hb : Below w.heap.size w w') : w'.there g 0 n := fun j hj => by
  obtain ⟨h1, h2⟩ := h j hj
  obtain ⟨u, hu⟩ := Option.isSome_iff_exists.1 h1
  have hl := World.block_lt_of_cell? w _ hu
  exact ⟨by rw [hb.cell hl]; exact h1, by rw [hb.frozen hl]; exact h2⟩

/-- Its k-th number. -/
theorem idx9 (x0 x1 x2 x3 x4 x5 x6 x7 x11 y1 y2 : Int) (n : Int × Int × Int × Int) (k : Nat) (h : ([(x0, 1, 16, 50), (x1, 1, 4, 51), (x2, 1, 3, 52), (x3, 0, 4, 53), (x4, 0, 3, 54), (x5, 1, 8, 55), (x6, 0, 20, 56), (x7, 0, 1000, 57), (x11, y1, y2, 58)] : List (Int × Int × Int × Int))[k]? = some n) (w : World) :
    (Instr.index 147 (.agg (List.toArray (Value.int .i64 x0 :: Value.int .i64 1 :: Value.int .i64 16 :: Value.int .i64 50 :: Value.int .i64 x1 :: Value.int .i64 1 :: Value.int .i64 4 :: Value.int .i64 51 :: Value.int .i64 x2 :: Value.int .i64 1 :: Value.int .i64 3 :: Value.int .i64 52 :: Value.int .i64 x3 :: Value.int .i64 0 :: Value.int .i64 4 :: Value.int .i64 53 :: Value.int .i64 x4 :: Value.int .i64 0 :: Value.int .i64 3 :: Value.int .i64 54 :: Value.int .i64 x5 :: Value.int .i64 1 :: Value.int .i64 8 :: Value.int .i64 55 :: Value.int .i64 x6 :: Value.int .i64 0 :: Value.int .i64 20 :: Value.int .i64 56 :: Value.int .i64 x7 :: Value.int .i64 0 :: Value.int .i64 1000 :: Value.int .i64 57 :: Value.int .i64 x11 :: Value.int .i64 y1 :: Value.int .i64 y2 :: Value.int .i64 58 :: []))) (.int .i64 (k : Int))).run Try.prog w = .ok (.agg #[.int .i64 n.1, .int .i64 n.2.1, .int .i64 n.2.2.1, .int .i64 n.2.2.2]) w := by
  have hk : k < 9 := by
    rw [List.getElem?_eq_some_iff] at h
    obtain ⟨hk, _⟩ := h
    exact hk
  have hk : k = 0 ∨ k = 1 ∨ k = 2 ∨ k = 3 ∨ k = 4 ∨ k = 5 ∨ k = 6 ∨ k = 7 ∨ k = 8 := by omega
  have e0 : (Instr.index 147 (.agg (List.toArray (Value.int .i64 x0 :: Value.int .i64 1 :: Value.int .i64 16 :: Value.int .i64 50 :: Value.int .i64 x1 :: Value.int .i64 1 :: Value.int .i64 4 :: Value.int .i64 51 :: Value.int .i64 x2 :: Value.int .i64 1 :: Value.int .i64 3 :: Value.int .i64 52 :: Value.int .i64 x3 :: Value.int .i64 0 :: Value.int .i64 4 :: Value.int .i64 53 :: Value.int .i64 x4 :: Value.int .i64 0 :: Value.int .i64 3 :: Value.int .i64 54 :: Value.int .i64 x5 :: Value.int .i64 1 :: Value.int .i64 8 :: Value.int .i64 55 :: Value.int .i64 x6 :: Value.int .i64 0 :: Value.int .i64 20 :: Value.int .i64 56 :: Value.int .i64 x7 :: Value.int .i64 0 :: Value.int .i64 1000 :: Value.int .i64 57 :: Value.int .i64 x11 :: Value.int .i64 y1 :: Value.int .i64 y2 :: Value.int .i64 58 :: []))) (.int .i64 0)).run Try.prog w = .ok (.agg #[.int .i64 x0, .int .i64 1, .int .i64 16, .int .i64 50]) w := by kernel_rfl
  have e1 : (Instr.index 147 (.agg (List.toArray (Value.int .i64 x0 :: Value.int .i64 1 :: Value.int .i64 16 :: Value.int .i64 50 :: Value.int .i64 x1 :: Value.int .i64 1 :: Value.int .i64 4 :: Value.int .i64 51 :: Value.int .i64 x2 :: Value.int .i64 1 :: Value.int .i64 3 :: Value.int .i64 52 :: Value.int .i64 x3 :: Value.int .i64 0 :: Value.int .i64 4 :: Value.int .i64 53 :: Value.int .i64 x4 :: Value.int .i64 0 :: Value.int .i64 3 :: Value.int .i64 54 :: Value.int .i64 x5 :: Value.int .i64 1 :: Value.int .i64 8 :: Value.int .i64 55 :: Value.int .i64 x6 :: Value.int .i64 0 :: Value.int .i64 20 :: Value.int .i64 56 :: Value.int .i64 x7 :: Value.int .i64 0 :: Value.int .i64 1000 :: Value.int .i64 57 :: Value.int .i64 x11 :: Value.int .i64 y1 :: Value.int .i64 y2 :: Value.int .i64 58 :: []))) (.int .i64 1)).run Try.prog w = .ok (.agg #[.int .i64 x1, .int .i64 1, .int .i64 4, .int .i64 51]) w := by kernel_rfl
  have e2 : (Instr.index 147 (.agg (List.toArray (Value.int .i64 x0 :: Value.int .i64 1 :: Value.int .i64 16 :: Value.int .i64 50 :: Value.int .i64 x1 :: Value.int .i64 1 :: Value.int .i64 4 :: Value.int .i64 51 :: Value.int .i64 x2 :: Value.int .i64 1 :: Value.int .i64 3 :: Value.int .i64 52 :: Value.int .i64 x3 :: Value.int .i64 0 :: Value.int .i64 4 :: Value.int .i64 53 :: Value.int .i64 x4 :: Value.int .i64 0 :: Value.int .i64 3 :: Value.int .i64 54 :: Value.int .i64 x5 :: Value.int .i64 1 :: Value.int .i64 8 :: Value.int .i64 55 :: Value.int .i64 x6 :: Value.int .i64 0 :: Value.int .i64 20 :: Value.int .i64 56 :: Value.int .i64 x7 :: Value.int .i64 0 :: Value.int .i64 1000 :: Value.int .i64 57 :: Value.int .i64 x11 :: Value.int .i64 y1 :: Value.int .i64 y2 :: Value.int .i64 58 :: []))) (.int .i64 2)).run Try.prog w = .ok (.agg #[.int .i64 x2, .int .i64 1, .int .i64 3, .int .i64 52]) w := by kernel_rfl
  have e3 : (Instr.index 147 (.agg (List.toArray (Value.int .i64 x0 :: Value.int .i64 1 :: Value.int .i64 16 :: Value.int .i64 50 :: Value.int .i64 x1 :: Value.int .i64 1 :: Value.int .i64 4 :: Value.int .i64 51 :: Value.int .i64 x2 :: Value.int .i64 1 :: Value.int .i64 3 :: Value.int .i64 52 :: Value.int .i64 x3 :: Value.int .i64 0 :: Value.int .i64 4 :: Value.int .i64 53 :: Value.int .i64 x4 :: Value.int .i64 0 :: Value.int .i64 3 :: Value.int .i64 54 :: Value.int .i64 x5 :: Value.int .i64 1 :: Value.int .i64 8 :: Value.int .i64 55 :: Value.int .i64 x6 :: Value.int .i64 0 :: Value.int .i64 20 :: Value.int .i64 56 :: Value.int .i64 x7 :: Value.int .i64 0 :: Value.int .i64 1000 :: Value.int .i64 57 :: Value.int .i64 x11 :: Value.int .i64 y1 :: Value.int .i64 y2 :: Value.int .i64 58 :: []))) (.int .i64 3)).run Try.prog w = .ok (.agg #[.int .i64 x3, .int .i64 0, .int .i64 4, .int .i64 53]) w := by kernel_rfl
  have e4 : (Instr.index 147 (.agg (List.toArray (Value.int .i64 x0 :: Value.int .i64 1 :: Value.int .i64 16 :: Value.int .i64 50 :: Value.int .i64 x1 :: Value.int .i64 1 :: Value.int .i64 4 :: Value.int .i64 51 :: Value.int .i64 x2 :: Value.int .i64 1 :: Value.int .i64 3 :: Value.int .i64 52 :: Value.int .i64 x3 :: Value.int .i64 0 :: Value.int .i64 4 :: Value.int .i64 53 :: Value.int .i64 x4 :: Value.int .i64 0 :: Value.int .i64 3 :: Value.int .i64 54 :: Value.int .i64 x5 :: Value.int .i64 1 :: Value.int .i64 8 :: Value.int .i64 55 :: Value.int .i64 x6 :: Value.int .i64 0 :: Value.int .i64 20 :: Value.int .i64 56 :: Value.int .i64 x7 :: Value.int .i64 0 :: Value.int .i64 1000 :: Value.int .i64 57 :: Value.int .i64 x11 :: Value.int .i64 y1 :: Value.int .i64 y2 :: Value.int .i64 58 :: []))) (.int .i64 4)).run Try.prog w = .ok (.agg #[.int .i64 x4, .int .i64 0, .int .i64 3, .int .i64 54]) w := by kernel_rfl
  have e5 : (Instr.index 147 (.agg (List.toArray (Value.int .i64 x0 :: Value.int .i64 1 :: Value.int .i64 16 :: Value.int .i64 50 :: Value.int .i64 x1 :: Value.int .i64 1 :: Value.int .i64 4 :: Value.int .i64 51 :: Value.int .i64 x2 :: Value.int .i64 1 :: Value.int .i64 3 :: Value.int .i64 52 :: Value.int .i64 x3 :: Value.int .i64 0 :: Value.int .i64 4 :: Value.int .i64 53 :: Value.int .i64 x4 :: Value.int .i64 0 :: Value.int .i64 3 :: Value.int .i64 54 :: Value.int .i64 x5 :: Value.int .i64 1 :: Value.int .i64 8 :: Value.int .i64 55 :: Value.int .i64 x6 :: Value.int .i64 0 :: Value.int .i64 20 :: Value.int .i64 56 :: Value.int .i64 x7 :: Value.int .i64 0 :: Value.int .i64 1000 :: Value.int .i64 57 :: Value.int .i64 x11 :: Value.int .i64 y1 :: Value.int .i64 y2 :: Value.int .i64 58 :: []))) (.int .i64 5)).run Try.prog w = .ok (.agg #[.int .i64 x5, .int .i64 1, .int .i64 8, .int .i64 55]) w := by kernel_rfl
  have e6 : (Instr.index 147 (.agg (List.toArray (Value.int .i64 x0 :: Value.int .i64 1 :: Value.int .i64 16 :: Value.int .i64 50 :: Value.int .i64 x1 :: Value.int .i64 1 :: Value.int .i64 4 :: Value.int .i64 51 :: Value.int .i64 x2 :: Value.int .i64 1 :: Value.int .i64 3 :: Value.int .i64 52 :: Value.int .i64 x3 :: Value.int .i64 0 :: Value.int .i64 4 :: Value.int .i64 53 :: Value.int .i64 x4 :: Value.int .i64 0 :: Value.int .i64 3 :: Value.int .i64 54 :: Value.int .i64 x5 :: Value.int .i64 1 :: Value.int .i64 8 :: Value.int .i64 55 :: Value.int .i64 x6 :: Value.int .i64 0 :: Value.int .i64 20 :: Value.int .i64 56 :: Value.int .i64 x7 :: Value.int .i64 0 :: Value.int .i64 1000 :: Value.int .i64 57 :: Value.int .i64 x11 :: Value.int .i64 y1 :: Value.int .i64 y2 :: Value.int .i64 58 :: []))) (.int .i64 6)).run Try.prog w = .ok (.agg #[.int .i64 x6, .int .i64 0, .int .i64 20, .int .i64 56]) w := by kernel_rfl
  have e7 : (Instr.index 147 (.agg (List.toArray (Value.int .i64 x0 :: Value.int .i64 1 :: Value.int .i64 16 :: Value.int .i64 50 :: Value.int .i64 x1 :: Value.int .i64 1 :: Value.int .i64 4 :: Value.int .i64 51 :: Value.int .i64 x2 :: Value.int .i64 1 :: Value.int .i64 3 :: Value.int .i64 52 :: Value.int .i64 x3 :: Value.int .i64 0 :: Value.int .i64 4 :: Value.int .i64 53 :: Value.int .i64 x4 :: Value.int .i64 0 :: Value.int .i64 3 :: Value.int .i64 54 :: Value.int .i64 x5 :: Value.int .i64 1 :: Value.int .i64 8 :: Value.int .i64 55 :: Value.int .i64 x6 :: Value.int .i64 0 :: Value.int .i64 20 :: Value.int .i64 56 :: Value.int .i64 x7 :: Value.int .i64 0 :: Value.int .i64 1000 :: Value.int .i64 57 :: Value.int .i64 x11 :: Value.int .i64 y1 :: Value.int .i64 y2 :: Value.int .i64 58 :: []))) (.int .i64 7)).run Try.prog w = .ok (.agg #[.int .i64 x7, .int .i64 0, .int .i64 1000, .int .i64 57]) w := by kernel_rfl
  have e8 : (Instr.index 147 (.agg (List.toArray (Value.int .i64 x0 :: Value.int .i64 1 :: Value.int .i64 16 :: Value.int .i64 50 :: Value.int .i64 x1 :: Value.int .i64 1 :: Value.int .i64 4 :: Value.int .i64 51 :: Value.int .i64 x2 :: Value.int .i64 1 :: Value.int .i64 3 :: Value.int .i64 52 :: Value.int .i64 x3 :: Value.int .i64 0 :: Value.int .i64 4 :: Value.int .i64 53 :: Value.int .i64 x4 :: Value.int .i64 0 :: Value.int .i64 3 :: Value.int .i64 54 :: Value.int .i64 x5 :: Value.int .i64 1 :: Value.int .i64 8 :: Value.int .i64 55 :: Value.int .i64 x6 :: Value.int .i64 0 :: Value.int .i64 20 :: Value.int .i64 56 :: Value.int .i64 x7 :: Value.int .i64 0 :: Value.int .i64 1000 :: Value.int .i64 57 :: Value.int .i64 x11 :: Value.int .i64 y1 :: Value.int .i64 y2 :: Value.int .i64 58 :: []))) (.int .i64 8)).run Try.prog w = .ok (.agg #[.int .i64 x11, .int .i64 y1, .int .i64 y2, .int .i64 58]) w := by kernel_rfl
  rcases hk with rfl | rfl | rfl | rfl | rfl | rfl | rfl | rfl | rfl <;> cases h
  · exact e0
  · exact e1
  · exact e2
  · exact e3
  · exact e4
  · exact e5
  · exact e6
  · exact e7
  · exact e8

set_option maxRecDepth 100000 in
set_option maxHeartbeats 4000000 in
theorem check_any (x0 x1 x2 x3 x4 x5 x6 x7 : Int) (b : Bool) (x9 x10 x11 : Int) (w : World) : Calls Try.prog 38 #[.agg #[.int .i64 x0, .int .i64 x1, .int .i64 x2, .int .i64 x3, .int .i64 x4, .int .i64 x5, .int .i64 x6, .int .i64 x7, .bool b, .int .i64 x9, .int .i64 x10, .int .i64 x11]] w (IntPost (ckV x0 x1 x2 x3 x4 x5 x6 x7 b x9 x10 x11) w) := by
  have hB : Below w.heap.size w (w.alloc (.cells #[.int .i64 x0, .int .i64 x1, .int .i64 x2, .int .i64 x3, .int .i64 x4, .int .i64 x5, .int .i64 x6, .int .i64 x7, .bool b, .int .i64 x9, .int .i64 x10, .int .i64 x11] 23)) := (Below.refl _ _).alloc (Nat.le_refl _) _
  have hsz : w.heap.size < (w.alloc (.cells #[.int .i64 x0, .int .i64 x1, .int .i64 x2, .int .i64 x3, .int .i64 x4, .int .i64 x5, .int .i64 x6, .int .i64 x7, .bool b, .int .i64 x9, .int .i64 x10, .int .i64 x11] 23)).heap.size := by simp
  have H0 : (w.alloc (.cells #[.int .i64 x0, .int .i64 x1, .int .i64 x2, .int .i64 x3, .int .i64 x4, .int .i64 x5, .int .i64 x6, .int .i64 x7, .bool b, .int .i64 x9, .int .i64 x10, .int .i64 x11] 23)).cell? ⟨w.heap.size, 0, none⟩ = some (.int .i64 x0) ∧ (w.alloc (.cells #[.int .i64 x0, .int .i64 x1, .int .i64 x2, .int .i64 x3, .int .i64 x4, .int .i64 x5, .int .i64 x6, .int .i64 x7, .bool b, .int .i64 x9, .int .i64 x10, .int .i64 x11] 23)).cell? ⟨w.heap.size, 1, none⟩ = some (.int .i64 x1) ∧ (w.alloc (.cells #[.int .i64 x0, .int .i64 x1, .int .i64 x2, .int .i64 x3, .int .i64 x4, .int .i64 x5, .int .i64 x6, .int .i64 x7, .bool b, .int .i64 x9, .int .i64 x10, .int .i64 x11] 23)).cell? ⟨w.heap.size, 2, none⟩ = some (.int .i64 x2) ∧ (w.alloc (.cells #[.int .i64 x0, .int .i64 x1, .int .i64 x2, .int .i64 x3, .int .i64 x4, .int .i64 x5, .int .i64 x6, .int .i64 x7, .bool b, .int .i64 x9, .int .i64 x10, .int .i64 x11] 23)).cell? ⟨w.heap.size, 3, none⟩ = some (.int .i64 x3) ∧ (w.alloc (.cells #[.int .i64 x0, .int .i64 x1, .int .i64 x2, .int .i64 x3, .int .i64 x4, .int .i64 x5, .int .i64 x6, .int .i64 x7, .bool b, .int .i64 x9, .int .i64 x10, .int .i64 x11] 23)).cell? ⟨w.heap.size, 4, none⟩ = some (.int .i64 x4) ∧ (w.alloc (.cells #[.int .i64 x0, .int .i64 x1, .int .i64 x2, .int .i64 x3, .int .i64 x4, .int .i64 x5, .int .i64 x6, .int .i64 x7, .bool b, .int .i64 x9, .int .i64 x10, .int .i64 x11] 23)).cell? ⟨w.heap.size, 5, none⟩ = some (.int .i64 x5) ∧ (w.alloc (.cells #[.int .i64 x0, .int .i64 x1, .int .i64 x2, .int .i64 x3, .int .i64 x4, .int .i64 x5, .int .i64 x6, .int .i64 x7, .bool b, .int .i64 x9, .int .i64 x10, .int .i64 x11] 23)).cell? ⟨w.heap.size, 6, none⟩ = some (.int .i64 x6) ∧ (w.alloc (.cells #[.int .i64 x0, .int .i64 x1, .int .i64 x2, .int .i64 x3, .int .i64 x4, .int .i64 x5, .int .i64 x6, .int .i64 x7, .bool b, .int .i64 x9, .int .i64 x10, .int .i64 x11] 23)).cell? ⟨w.heap.size, 7, none⟩ = some (.int .i64 x7) ∧ (w.alloc (.cells #[.int .i64 x0, .int .i64 x1, .int .i64 x2, .int .i64 x3, .int .i64 x4, .int .i64 x5, .int .i64 x6, .int .i64 x7, .bool b, .int .i64 x9, .int .i64 x10, .int .i64 x11] 23)).cell? ⟨w.heap.size, 8, none⟩ = some (.bool b) ∧ (w.alloc (.cells #[.int .i64 x0, .int .i64 x1, .int .i64 x2, .int .i64 x3, .int .i64 x4, .int .i64 x5, .int .i64 x6, .int .i64 x7, .bool b, .int .i64 x9, .int .i64 x10, .int .i64 x11] 23)).cell? ⟨w.heap.size, 9, none⟩ = some (.int .i64 x9) ∧ (w.alloc (.cells #[.int .i64 x0, .int .i64 x1, .int .i64 x2, .int .i64 x3, .int .i64 x4, .int .i64 x5, .int .i64 x6, .int .i64 x7, .bool b, .int .i64 x9, .int .i64 x10, .int .i64 x11] 23)).cell? ⟨w.heap.size, 10, none⟩ = some (.int .i64 x10) ∧ (w.alloc (.cells #[.int .i64 x0, .int .i64 x1, .int .i64 x2, .int .i64 x3, .int .i64 x4, .int .i64 x5, .int .i64 x6, .int .i64 x7, .bool b, .int .i64 x9, .int .i64 x10, .int .i64 x11] 23)).cell? ⟨w.heap.size, 11, none⟩ = some (.int .i64 x11) := by simp [go_sem]
  obtain ⟨y1, hy1⟩ : ∃ y, (if b then x9 else x11) = y := ⟨_, rfl⟩
  obtain ⟨y2, hy2⟩ : ∃ y, (if b then x10 else x11) = y := ⟨_, rfl⟩
  have KB := hide (beginning_any x0 x1 x2 x3 x4 x5 x6 x7 b x9 x10 x11)
  obtain ⟨ns, hns⟩ : ∃ ns, ns = ([(x0, 1, 16, 50), (x1, 1, 4, 51), (x2, 1, 3, 52), (x3, 0, 4, 53), (x4, 0, 3, 54), (x5, 1, 8, 55), (x6, 0, 20, 56), (x7, 0, 1000, 57), (x11, y1, y2, 58)] : List (Int × Int × Int × Int)) := ⟨_, rfl⟩
  have HV : Hid (ckV x0 x1 x2 x3 x4 x5 x6 x7 b x9 x10 x11 = ckL ns) := hide (by rw [ckV, numsL, hns, hy1, hy2])
  have HI := hide (fun n k h wx => idx9 x0 x1 x2 x3 x4 x5 x6 x7 x11 y1 y2 n k (hns ▸ h) wx)
  have HL : Hid (ns.length = 9) := hide (by rw [hns]; rfl)
  rw [hy1, hy2] at KB
  clear hns hy1 hy2
  have hone : ∀ v : Value, v ∈ (Value.int .i64 x0 :: Value.int .i64 1 :: Value.int .i64 16 :: Value.int .i64 50 :: Value.int .i64 x1 :: Value.int .i64 1 :: Value.int .i64 4 :: Value.int .i64 51 :: Value.int .i64 x2 :: Value.int .i64 1 :: Value.int .i64 3 :: Value.int .i64 52 :: Value.int .i64 x3 :: Value.int .i64 0 :: Value.int .i64 4 :: Value.int .i64 53 :: Value.int .i64 x4 :: Value.int .i64 0 :: Value.int .i64 3 :: Value.int .i64 54 :: Value.int .i64 x5 :: Value.int .i64 1 :: Value.int .i64 8 :: Value.int .i64 55 :: Value.int .i64 x6 :: Value.int .i64 0 :: Value.int .i64 20 :: Value.int .i64 56 :: Value.int .i64 x7 :: Value.int .i64 0 :: Value.int .i64 1000 :: Value.int .i64 57 :: Value.int .i64 x11 :: Value.int .i64 y1 :: Value.int .i64 y2 :: Value.int .i64 58 :: []) → v.oneCell' = true := by
    intro v hv
    simp only [List.mem_cons, List.not_mem_nil, or_false] at hv
    rcases hv with rfl | rfl | rfl | rfl | rfl | rfl | rfl | rfl | rfl | rfl | rfl | rfl | rfl | rfl | rfl | rfl | rfl | rfl | rfl | rfl | rfl | rfl | rfl | rfl | rfl | rfl | rfl | rfl | rfl | rfl | rfl | rfl | rfl | rfl | rfl | rfl <;> rfl
  have hlen : (Value.int .i64 x0 :: Value.int .i64 1 :: Value.int .i64 16 :: Value.int .i64 50 :: Value.int .i64 x1 :: Value.int .i64 1 :: Value.int .i64 4 :: Value.int .i64 51 :: Value.int .i64 x2 :: Value.int .i64 1 :: Value.int .i64 3 :: Value.int .i64 52 :: Value.int .i64 x3 :: Value.int .i64 0 :: Value.int .i64 4 :: Value.int .i64 53 :: Value.int .i64 x4 :: Value.int .i64 0 :: Value.int .i64 3 :: Value.int .i64 54 :: Value.int .i64 x5 :: Value.int .i64 1 :: Value.int .i64 8 :: Value.int .i64 55 :: Value.int .i64 x6 :: Value.int .i64 0 :: Value.int .i64 20 :: Value.int .i64 56 :: Value.int .i64 x7 :: Value.int .i64 0 :: Value.int .i64 1000 :: Value.int .i64 57 :: Value.int .i64 x11 :: Value.int .i64 y1 :: Value.int .i64 y2 :: Value.int .i64 58 :: []).length = 36 := rfl
  have hi39 : (Try.prog.info? 147).map (·.size) = some (Value.int .i64 x0 :: Value.int .i64 1 :: Value.int .i64 16 :: Value.int .i64 50 :: Value.int .i64 x1 :: Value.int .i64 1 :: Value.int .i64 4 :: Value.int .i64 51 :: Value.int .i64 x2 :: Value.int .i64 1 :: Value.int .i64 3 :: Value.int .i64 52 :: Value.int .i64 x3 :: Value.int .i64 0 :: Value.int .i64 4 :: Value.int .i64 53 :: Value.int .i64 x4 :: Value.int .i64 0 :: Value.int .i64 3 :: Value.int .i64 54 :: Value.int .i64 x5 :: Value.int .i64 1 :: Value.int .i64 8 :: Value.int .i64 55 :: Value.int .i64 x6 :: Value.int .i64 0 :: Value.int .i64 20 :: Value.int .i64 56 :: Value.int .i64 x7 :: Value.int .i64 0 :: Value.int .i64 1000 :: Value.int .i64 57 :: Value.int .i64 x11 :: Value.int .i64 y1 :: Value.int .i64 y2 :: Value.int .i64 58 :: []).length := by kernel_rfl
  go_enter Try.func38, Try.ntmps38
  go_upto_region 1 with fail
  generalize (w.alloc (.cells #[.int .i64 x0, .int .i64 x1, .int .i64 x2, .int .i64 x3, .int .i64 x4, .int .i64 x5, .int .i64 x6, .int .i64 x7, .bool b, .int .i64 x9, .int .i64 x10, .int .i64 x11] 23)) = wz at *
  have b0 : Below wz.heap.size wz wz.drew := (Below.refl _ _).drew
  have b0a : Below wz.heap.size wz (wz.alloc (.cells (List.toArray (Value.int .i64 0 :: Value.int .i64 0 :: Value.int .i64 0 :: Value.int .i64 0 :: Value.int .i64 0 :: Value.int .i64 0 :: Value.int .i64 0 :: Value.int .i64 0 :: Value.int .i64 0 :: Value.int .i64 0 :: Value.int .i64 0 :: Value.int .i64 0 :: Value.int .i64 0 :: Value.int .i64 0 :: Value.int .i64 0 :: Value.int .i64 0 :: Value.int .i64 0 :: Value.int .i64 0 :: Value.int .i64 0 :: Value.int .i64 0 :: Value.int .i64 0 :: Value.int .i64 0 :: Value.int .i64 0 :: Value.int .i64 0 :: Value.int .i64 0 :: Value.int .i64 0 :: Value.int .i64 0 :: Value.int .i64 0 :: Value.int .i64 0 :: Value.int .i64 0 :: Value.int .i64 0 :: Value.int .i64 0 :: Value.int .i64 0 :: Value.int .i64 0 :: Value.int .i64 0 :: Value.int .i64 0 :: [])) 147)).drew := ((Below.refl _ _).alloc (Nat.le_refl _) _).drew
  have t0 : (wz.alloc (.cells (List.toArray (Value.int .i64 0 :: Value.int .i64 0 :: Value.int .i64 0 :: Value.int .i64 0 :: Value.int .i64 0 :: Value.int .i64 0 :: Value.int .i64 0 :: Value.int .i64 0 :: Value.int .i64 0 :: Value.int .i64 0 :: Value.int .i64 0 :: Value.int .i64 0 :: Value.int .i64 0 :: Value.int .i64 0 :: Value.int .i64 0 :: Value.int .i64 0 :: Value.int .i64 0 :: Value.int .i64 0 :: Value.int .i64 0 :: Value.int .i64 0 :: Value.int .i64 0 :: Value.int .i64 0 :: Value.int .i64 0 :: Value.int .i64 0 :: Value.int .i64 0 :: Value.int .i64 0 :: Value.int .i64 0 :: Value.int .i64 0 :: Value.int .i64 0 :: Value.int .i64 0 :: Value.int .i64 0 :: Value.int .i64 0 :: Value.int .i64 0 :: Value.int .i64 0 :: Value.int .i64 0 :: Value.int .i64 0 :: [])) 147)).drew.there wz.heap.size 0 36 := (World.there_drew _ _ _ _).2 (there_new wz _ _)
  have H0d := keep12 H0 b0
  have H0a := keep12 H0 b0a
  go_cut [3] from 6 (fun p wc => ∃ k, p = .pointer (some ⟨k, 0, none⟩) ∧ wc.rangeAt k 0 (Value.int .i64 x0 :: Value.int .i64 1 :: Value.int .i64 16 :: Value.int .i64 50 :: Value.int .i64 x1 :: Value.int .i64 1 :: Value.int .i64 4 :: Value.int .i64 51 :: Value.int .i64 x2 :: Value.int .i64 1 :: Value.int .i64 3 :: Value.int .i64 52 :: Value.int .i64 x3 :: Value.int .i64 0 :: Value.int .i64 4 :: Value.int .i64 53 :: Value.int .i64 x4 :: Value.int .i64 0 :: Value.int .i64 3 :: Value.int .i64 54 :: Value.int .i64 x5 :: Value.int .i64 1 :: Value.int .i64 8 :: Value.int .i64 55 :: Value.int .i64 x6 :: Value.int .i64 0 :: Value.int .i64 20 :: Value.int .i64 56 :: Value.int .i64 x7 :: Value.int .i64 0 :: Value.int .i64 1000 :: Value.int .i64 57 :: Value.int .i64 x11 :: Value.int .i64 y1 :: Value.int .i64 y2 :: Value.int .i64 58 :: []) ∧ Below w.heap.size w wc)
  case first =>
    go_region_held3 (fun w' => w'.cell? ⟨w.heap.size, 0, none⟩ = some (.int .i64 x0) ∧ w'.cell? ⟨w.heap.size, 1, none⟩ = some (.int .i64 x1) ∧ w'.cell? ⟨w.heap.size, 2, none⟩ = some (.int .i64 x2) ∧ w'.cell? ⟨w.heap.size, 3, none⟩ = some (.int .i64 x3) ∧ w'.cell? ⟨w.heap.size, 4, none⟩ = some (.int .i64 x4) ∧ w'.cell? ⟨w.heap.size, 5, none⟩ = some (.int .i64 x5) ∧ w'.cell? ⟨w.heap.size, 6, none⟩ = some (.int .i64 x6) ∧ w'.cell? ⟨w.heap.size, 7, none⟩ = some (.int .i64 x7) ∧ w'.cell? ⟨w.heap.size, 8, none⟩ = some (.bool b) ∧ w'.cell? ⟨w.heap.size, 9, none⟩ = some (.int .i64 x9) ∧ w'.cell? ⟨w.heap.size, 10, none⟩ = some (.int .i64 x10) ∧ w'.cell? ⟨w.heap.size, 11, none⟩ = some (.int .i64 x11))
      (first | (with_reducible exact H0d) | (with_reducible exact H0a) | (with_reducible exact H1) | (with_reducible exact H1a) | (with_reducible exact far12 H1a (Nat.ne_of_lt hk)) | (with_reducible exact far12 H1 (Nat.ne_of_lt hk)))
      (first
        | (go_at_call 54; (with_reducible refine (KB.out wz.drew).mono ?_); rintro x v1 ⟨rfl, hv⟩; have H1 := keep12 H0d hv; have hA : Below v1.heap.size v1 (v1.alloc (.cells (List.toArray (Value.int .i64 0 :: Value.int .i64 0 :: Value.int .i64 0 :: Value.int .i64 0 :: Value.int .i64 0 :: Value.int .i64 0 :: Value.int .i64 0 :: Value.int .i64 0 :: Value.int .i64 0 :: Value.int .i64 0 :: Value.int .i64 0 :: Value.int .i64 0 :: Value.int .i64 0 :: Value.int .i64 0 :: Value.int .i64 0 :: Value.int .i64 0 :: Value.int .i64 0 :: Value.int .i64 0 :: Value.int .i64 0 :: Value.int .i64 0 :: Value.int .i64 0 :: Value.int .i64 0 :: Value.int .i64 0 :: Value.int .i64 0 :: Value.int .i64 0 :: Value.int .i64 0 :: Value.int .i64 0 :: Value.int .i64 0 :: Value.int .i64 0 :: Value.int .i64 0 :: Value.int .i64 0 :: Value.int .i64 0 :: Value.int .i64 0 :: Value.int .i64 0 :: Value.int .i64 0 :: Value.int .i64 0 :: [])) 147)) := (Below.refl _ _).alloc (Nat.le_refl _) _; have H1a := keep12 H1 hA; have ht : (v1.alloc (.cells (List.toArray (Value.int .i64 0 :: Value.int .i64 0 :: Value.int .i64 0 :: Value.int .i64 0 :: Value.int .i64 0 :: Value.int .i64 0 :: Value.int .i64 0 :: Value.int .i64 0 :: Value.int .i64 0 :: Value.int .i64 0 :: Value.int .i64 0 :: Value.int .i64 0 :: Value.int .i64 0 :: Value.int .i64 0 :: Value.int .i64 0 :: Value.int .i64 0 :: Value.int .i64 0 :: Value.int .i64 0 :: Value.int .i64 0 :: Value.int .i64 0 :: Value.int .i64 0 :: Value.int .i64 0 :: Value.int .i64 0 :: Value.int .i64 0 :: Value.int .i64 0 :: Value.int .i64 0 :: Value.int .i64 0 :: Value.int .i64 0 :: Value.int .i64 0 :: Value.int .i64 0 :: Value.int .i64 0 :: Value.int .i64 0 :: Value.int .i64 0 :: Value.int .i64 0 :: Value.int .i64 0 :: Value.int .i64 0 :: [])) 147)).there v1.heap.size 0 36 := there_new v1 _ _; have hk : w.heap.size < v1.heap.size := Nat.lt_of_lt_of_le hsz hv.size; have hE := below_next hB (Nat.le_of_lt hsz) (below_next (below_next b0 b0.size hv) hv.size hA))
        | (go_at_call 54; (with_reducible refine (KB.out _).mono ?_); rintro x v1 ⟨rfl, hv⟩; have H1 := keep12 H0a hv; have ht : v1.there wz.heap.size 0 36 := there_keep t0 hv; have hk : w.heap.size < wz.heap.size := hsz; have hE := below_next hB (Nat.le_of_lt hsz) (below_next b0a b0a.size hv)))
    all_goals go_wp2_with fail
    all_goals go_meet
    all_goals exact ⟨_, rfl, World.rangeAt_setCells_same _ _ _ _ ht, below_setCells (Nat.le_of_lt hk) _ _ _ hE⟩
  case rest =>
    obtain ⟨k, rfl, hr, hB2⟩ := hcut
    go_wp2_with (refine wpList_load_mid rfl _ _ rfl k 0 rfl _ _ hr Try.underlying147 rfl hi39 ?_)
    clear hr hi39 hlen hone H0 H0d H0a t0 b0 b0a hB hsz KB
    go_loopw [34] (fun i wr => ∃ j : Nat, j ≤ 9 ∧ i = .int .i64 j ∧ Hid (ckL ns = ckL (ns.drop j)) ∧ Below w.heap.size w wr) (fun i _ => 9 - (intOf i).toNat)
    case atStart => exact ⟨0, Nat.zero_le _, rfl, hide rfl, hB2⟩
    case round =>
      obtain ⟨j, hj, rfl, HC, hB3⟩ := hrel
      by_cases hlt : j < 9
      · obtain ⟨⟨n0, n1, n2, n3⟩, hn⟩ : ∃ n, ns[j]? = some n := ⟨ns[j]'(by have := HL.out; omega), List.getElem?_eq_getElem _⟩
        have hx := fun wx => HI.out _ j hn wx
        have HN := hide hn
        clear hn
        have hB4 : Below w.heap.size w (wr.alloc (.cells #[.int .i64 n0, .int .i64 n1, .int .i64 n2, .int .i64 n3] 145)) := hB3.alloc hB3.size _
        go_wp2
        · go_ret
          exact ⟨ret_i (HV.out.trans (HC.out.trans (ckL_bad HN.out (show n0 < n1 ∨ n2 < n0 by omega)))), hB4⟩
        · go_roundw
          case rel => exact ⟨j + 1, by omega, by go_num, hide (HC.out.trans (ckL_good HN.out (show ¬(n0 < n1 ∨ n2 < n0) by omega))), hB4⟩
          case measure => simp [intOf]; omega
        · go_ret
          exact ⟨ret_i (HV.out.trans (HC.out.trans (ckL_bad HN.out (show n0 < n1 ∨ n2 < n0 by omega)))), hB4⟩
      · obtain rfl : j = 9 := by omega
        go_wp2
        go_ret
        have hd : ns.drop 9 = [] := by rw [List.drop_eq_nil_iff]; have := HL.out; omega
        exact ⟨ret_i (HV.out.trans (HC.out.trans (by rw [hd]; rfl))), hB3⟩
end Go.Proofs.Ytjghdbkkjhnpfaa
/- Arguments opened: configs, a struct of twelve cells by value. Nothing of the program but its types. -/
namespace Go.Proofs.Ytjghdbkkjhnpfaa
open Go.RowKit Go.ChangeShapes Go.WideShapes Go.Deep Go.Joins

section
variable {H : Type} {enc : TypeId × Value → H} {P : Program} {w : World} {base : Nat} {spare : Nat → Bool} {held : Bool}

theorem array12 {α : Type} {cs : Array α} (h : cs.size = 12) : ∃ c0 c1 c2 c3 c4 c5 c6 c7 c8 c9 c10 c11, cs = #[c0, c1, c2, c3, c4, c5, c6, c7, c8, c9, c10, c11] := by
  obtain ⟨l⟩ := cs
  match l, h with
  | [c0, c1, c2, c3, c4, c5, c6, c7, c8, c9, c10, c11], _ => exact ⟨c0, c1, c2, c3, c4, c5, c6, c7, c8, c9, c10, c11, rfl⟩

theorem open_cfg {r : Reach} {b0 : Nat} {t i k : TypeId} {f0 f1 f2 f3 f4 f5 f6 f7 f8 f9 f10 f11 : Field} {v : Value} {d : DataW H} {p : List MemPlace}
    (hs : P.underlying t = some (.struct #[f0, f1, f2, f3, f4, f5, f6, f7, f8, f9, f10, f11])) (hone : oneCellFields P #[f0, f1, f2, f3, f4, f5, f6, f7, f8, f9, f10, f11] = true) (hC : P.cellsOf t = 12)
    (hi : P.underlying i = some (.int .i64)) (hk : P.underlying k = some .bool) (ht : (f0.type = i ∧ f1.type = i ∧ f2.type = i ∧ f3.type = i ∧ f4.type = i ∧ f5.type = i ∧ f6.type = i ∧ f7.type = i ∧ f8.type = k ∧ f9.type = i ∧ f10.type = i ∧ f11.type = i))
    (hv : Value.okWide P w r b0 t v) (h : DataW.Trod enc P w base spare held t v d p) :
    ∃ (x0 x1 x2 x3 x4 x5 x6 x7 : Int) (b : Bool) (x9 x10 x11 : Int), v = .agg #[.int .i64 x0, .int .i64 x1, .int .i64 x2, .int .i64 x3, .int .i64 x4, .int .i64 x5, .int .i64 x6, .int .i64 x7, .bool b, .int .i64 x9, .int .i64 x10, .int .i64 x11] ∧ I64 x0 ∧ I64 x1 ∧ I64 x2 ∧ I64 x3 ∧ I64 x4 ∧ I64 x5 ∧ I64 x6 ∧ I64 x7 ∧ I64 x9 ∧ I64 x10 ∧ I64 x11 := by
  obtain ⟨cs, rfl, hsz⟩ := okWide_struct hs hv
  obtain ⟨c0, c1, c2, c3, c4, c5, c6, c7, c8, c9, c10, c11, rfl⟩ := array12 (hsz.trans hC)
  obtain ⟨fuel, hf⟩ := h
  obtain ⟨ys, n, _, _, _, hyl, hfl⟩ := DataW.trod_struct hs hf
  obtain ⟨t0, t1, t2, t3, t4, t5, t6, t7, t8, t9, t10, t11⟩ := ht
  obtain ⟨o0, k0⟩ := hone_of hone 0 f0 rfl
  have g0 := hfl 0 f0 rfl
  obtain ⟨y0, e0⟩ : ∃ y, ys[0]? = some y := ⟨ys[0]'(by rw [hyl]; simp), List.getElem?_eq_getElem _⟩
  rw [o0, k0, t0, e0] at g0
  obtain ⟨x0, u0, _, w0⟩ := DataW.trod_int hi g0
  simp [Value.cells] at u0
  subst u0
  obtain ⟨o1, k1⟩ := hone_of hone 1 f1 rfl
  have g1 := hfl 1 f1 rfl
  obtain ⟨y1, e1⟩ : ∃ y, ys[1]? = some y := ⟨ys[1]'(by rw [hyl]; simp), List.getElem?_eq_getElem _⟩
  rw [o1, k1, t1, e1] at g1
  obtain ⟨x1, u1, _, w1⟩ := DataW.trod_int hi g1
  simp [Value.cells] at u1
  subst u1
  obtain ⟨o2, k2⟩ := hone_of hone 2 f2 rfl
  have g2 := hfl 2 f2 rfl
  obtain ⟨y2, e2⟩ : ∃ y, ys[2]? = some y := ⟨ys[2]'(by rw [hyl]; simp), List.getElem?_eq_getElem _⟩
  rw [o2, k2, t2, e2] at g2
  obtain ⟨x2, u2, _, w2⟩ := DataW.trod_int hi g2
  simp [Value.cells] at u2
  subst u2
  obtain ⟨o3, k3⟩ := hone_of hone 3 f3 rfl
  have g3 := hfl 3 f3 rfl
  obtain ⟨y3, e3⟩ : ∃ y, ys[3]? = some y := ⟨ys[3]'(by rw [hyl]; simp), List.getElem?_eq_getElem _⟩
  rw [o3, k3, t3, e3] at g3
  obtain ⟨x3, u3, _, w3⟩ := DataW.trod_int hi g3
  simp [Value.cells] at u3
  subst u3
  obtain ⟨o4, k4⟩ := hone_of hone 4 f4 rfl
  have g4 := hfl 4 f4 rfl
  obtain ⟨y4, e4⟩ : ∃ y, ys[4]? = some y := ⟨ys[4]'(by rw [hyl]; simp), List.getElem?_eq_getElem _⟩
  rw [o4, k4, t4, e4] at g4
  obtain ⟨x4, u4, _, w4⟩ := DataW.trod_int hi g4
  simp [Value.cells] at u4
  subst u4
  obtain ⟨o5, k5⟩ := hone_of hone 5 f5 rfl
  have g5 := hfl 5 f5 rfl
  obtain ⟨y5, e5⟩ : ∃ y, ys[5]? = some y := ⟨ys[5]'(by rw [hyl]; simp), List.getElem?_eq_getElem _⟩
  rw [o5, k5, t5, e5] at g5
  obtain ⟨x5, u5, _, w5⟩ := DataW.trod_int hi g5
  simp [Value.cells] at u5
  subst u5
  obtain ⟨o6, k6⟩ := hone_of hone 6 f6 rfl
  have g6 := hfl 6 f6 rfl
  obtain ⟨y6, e6⟩ : ∃ y, ys[6]? = some y := ⟨ys[6]'(by rw [hyl]; simp), List.getElem?_eq_getElem _⟩
  rw [o6, k6, t6, e6] at g6
  obtain ⟨x6, u6, _, w6⟩ := DataW.trod_int hi g6
  simp [Value.cells] at u6
  subst u6
  obtain ⟨o7, k7⟩ := hone_of hone 7 f7 rfl
  have g7 := hfl 7 f7 rfl
  obtain ⟨y7, e7⟩ : ∃ y, ys[7]? = some y := ⟨ys[7]'(by rw [hyl]; simp), List.getElem?_eq_getElem _⟩
  rw [o7, k7, t7, e7] at g7
  obtain ⟨x7, u7, _, w7⟩ := DataW.trod_int hi g7
  simp [Value.cells] at u7
  subst u7
  obtain ⟨o8, k8⟩ := hone_of hone 8 f8 rfl
  have g8 := hfl 8 f8 rfl
  obtain ⟨y8, e8⟩ : ∃ y, ys[8]? = some y := ⟨ys[8]'(by rw [hyl]; simp), List.getElem?_eq_getElem _⟩
  rw [o8, k8, t8, e8] at g8
  obtain ⟨x8, u8, _⟩ := DataW.trod_bool hk g8
  simp [Value.cells] at u8
  subst u8
  obtain ⟨o9, k9⟩ := hone_of hone 9 f9 rfl
  have g9 := hfl 9 f9 rfl
  obtain ⟨y9, e9⟩ : ∃ y, ys[9]? = some y := ⟨ys[9]'(by rw [hyl]; simp), List.getElem?_eq_getElem _⟩
  rw [o9, k9, t9, e9] at g9
  obtain ⟨x9, u9, _, w9⟩ := DataW.trod_int hi g9
  simp [Value.cells] at u9
  subst u9
  obtain ⟨o10, k10⟩ := hone_of hone 10 f10 rfl
  have g10 := hfl 10 f10 rfl
  obtain ⟨y10, e10⟩ : ∃ y, ys[10]? = some y := ⟨ys[10]'(by rw [hyl]; simp), List.getElem?_eq_getElem _⟩
  rw [o10, k10, t10, e10] at g10
  obtain ⟨x10, u10, _, w10⟩ := DataW.trod_int hi g10
  simp [Value.cells] at u10
  subst u10
  obtain ⟨o11, k11⟩ := hone_of hone 11 f11 rfl
  have g11 := hfl 11 f11 rfl
  obtain ⟨y11, e11⟩ : ∃ y, ys[11]? = some y := ⟨ys[11]'(by rw [hyl]; simp), List.getElem?_eq_getElem _⟩
  rw [o11, k11, t11, e11] at g11
  obtain ⟨x11, u11, _, w11⟩ := DataW.trod_int hi g11
  simp [Value.cells] at u11
  subst u11
  exact ⟨x0, x1, x2, x3, x4, x5, x6, x7, x8, x9, x10, x11, rfl, i64_of_wf w0, i64_of_wf w1, i64_of_wf w2, i64_of_wf w3, i64_of_wf w4, i64_of_wf w5, i64_of_wf w6, i64_of_wf w7, i64_of_wf w9, i64_of_wf w10, i64_of_wf w11⟩
end
end Go.Proofs.Ytjghdbkkjhnpfaa
/- Plain mathematics of layer 7: parents, leaves, ways up, and where two of them meet. Nothing of the program. -/
namespace Go.Proofs.Ytjghdbkkjhnpfaa
open Go.RowKit

def parV (n : Int) : Int := if n ≤ 1 then 0 else n / 2
def kV (D : Int) : Int := if D = 1 then 1 else if D = 2 then 2 else if D = 3 then 4 else 8
def leafV (D t : Int) : Int := if D = 0 then 0 else kV D + t / 2 % kV D

def upsF : Nat → Nat → List Int
  | 0, _ => []
  | f + 1, n => if n = 0 then [] else (n : Int) :: upsF f (n / 2)
/-- n, its parent, and so on, up to 1. -/
def ups (n : Nat) : List Int := upsF n n
def upV (x : Int) : List Int := ups x.toNat
def levV (n : Int) : Int := (upV (parV n)).length
def pathV (D t : Int) : List Int := upV (leafV D t)
def meetL (a b : List Int) : Int := (a.find? (fun n => decide (n ∈ b))).getD 0
def meetV (D t u : Int) : Int := meetL (pathV D t) (pathV D u)
/-- The first place at which two rows are the same. -/
def rmeetL : List Int → List Int → Int
  | a :: l, b :: m => if a = b then a else rmeetL l m
  | _, _ => 0

theorem upsF_fuel : ∀ (f g n : Nat), n ≤ f → n ≤ g → upsF f n = upsF g n
  | 0, 0, _, _, _ => rfl
  | 0, g + 1, n, h, _ => by obtain rfl : n = 0 := by omega
                            simp [upsF]
  | f + 1, 0, n, _, h => by obtain rfl : n = 0 := by omega
                            simp [upsF]
  | f + 1, g + 1, n, h, h' => by
    by_cases hn : n = 0
    · simp [upsF, hn]
    · simp only [upsF, hn, if_false]
      rw [upsF_fuel f g (n / 2) (by omega) (by omega)]
theorem ups_zero : ups 0 = [] := rfl
theorem ups_pos {n : Nat} (h : 0 < n) : ups n = (n : Int) :: ups (n / 2) := by
  obtain ⟨m, rfl⟩ : ∃ m, n = m + 1 := ⟨n - 1, by omega⟩
  show upsF (m + 1) (m + 1) = _
  simp only [upsF, Nat.add_one_ne_zero, if_false]
  rw [upsF_fuel m ((m + 1) / 2) ((m + 1) / 2) (by omega) (by omega)]
  rfl
theorem ups_length_le : ∀ (k n : Nat), n < 2 ^ k → (ups n).length ≤ k
  | 0, n, h => by obtain rfl : n = 0 := by simpa using h
                  simp [ups_zero]
  | k + 1, n, h => by
    rcases Nat.eq_zero_or_pos n with rfl | hp
    · simp [ups_zero]
    · rw [ups_pos hp, List.length_cons]
      have := ups_length_le k (n / 2) (by rw [Nat.pow_succ] at h; omega)
      omega
theorem upV_none {x : Int} (h : x ≤ 0) : upV x = [] := by
  unfold upV; rw [show x.toNat = 0 by omega, ups_zero]
theorem par_nat {x : Int} (h : 0 ≤ x) : (parV x).toNat = x.toNat / 2 := by
  unfold parV; split <;> omega
theorem upV_some {x : Int} (h : 0 < x) : upV x = x :: upV (parV x) := by
  unfold upV
  rw [ups_pos (by omega), par_nat (by omega)]
  rw [show ((x.toNat : Nat) : Int) = x by omega]
theorem par_lo (x : Int) : 0 ≤ parV x := by unfold parV; split <;> omega
theorem par_lt {x : Int} (h : 0 < x) : parV x < x := by unfold parV; split <;> omega
theorem par_i64 {x : Int} (h : I64 x) : I64 (parV x) := by unfold I64 at *; unfold parV; split <;> omega
theorem upV_length {x : Int} (h : I64 x) : (upV x).length ≤ 63 := by
  refine ups_length_le 63 _ ?_
  unfold I64 at h
  have : (2 : Nat) ^ 63 = 9223372036854775808 := by decide
  omega
theorem lev_low {n : Int} (h : n ≤ 1) : levV n = 0 := by
  unfold levV parV
  simp [h, upV_none]
theorem lev_step {n : Int} (h : 1 < n) : levV n = levV (parV n) + 1 := by
  unfold levV
  have : 0 < parV n := by unfold parV; split <;> omega
  rw [upV_some this, List.length_cons]
  omega
theorem lev_lo (n : Int) : 0 ≤ levV n := by unfold levV; omega
theorem lev_hi {n : Int} (h : I64 n) : levV n ≤ 63 := by
  unfold levV
  have := upV_length (par_i64 h)
  omega
theorem lev_i64 {n : Int} (h : I64 n) : I64 (levV n) := by
  have := lev_lo n
  have := lev_hi h
  unfold I64; omega

/-- The lowest bits are the rest. -/
theorem bits_low (x : Int) (k : Nat) (hk : k ≤ 8) (hx : I64 x) (h0 : 0 ≤ x) : bits .and .i64 x (((2 ^ k - 1 : Nat) : Int)) = x % ((2 ^ k : Nat) : Int) := by
  rw [bits_and_def]
  obtain ⟨n, rfl⟩ : ∃ n : Nat, x = (n : Int) := ⟨x.toNat, by omega⟩
  have hn : n < 9223372036854775808 := by unfold I64 at hx; omega
  have h2 : (2 : Nat) ^ k ≤ 2 ^ 8 := Nat.pow_le_pow_right (by decide) hk
  have h3 : 0 < (2 : Nat) ^ k := Nat.pow_pos (by decide)
  rw [BitVec.toNat_and, BitVec.ofInt_natCast, BitVec.ofInt_natCast, BitVec.toNat_ofNat, BitVec.toNat_ofNat, Nat.mod_eq_of_lt (a := n) (by omega), Nat.mod_eq_of_lt (a := 2 ^ k - 1) (by omega), Nat.and_two_pow_sub_one_eq_mod]
  have h4 := Nat.mod_lt n h3
  obtain ⟨r, hr⟩ : ∃ r, n % 2 ^ k = r := ⟨_, rfl⟩
  rw [← Int.natCast_emod, hr]
  rw [hr] at h4
  rw [IntKind.wrap_i64]
  omega

theorem leaf_lo (D t : Int) (_ : 0 ≤ D ∧ D ≤ 4) (_ : 0 ≤ t) : 0 ≤ leafV D t ∧ leafV D t < 16 := by
  unfold leafV kV
  repeat' split
  all_goals omega
theorem leaf_i64 (D t : Int) (hD : 0 ≤ D ∧ D ≤ 4) (ht : 0 ≤ t) : I64 (leafV D t) := by
  have := leaf_lo D t hD ht
  unfold I64; omega
end Go.Proofs.Ytjghdbkkjhnpfaa
/- Contracts of shape.Leaf and shape.Parent, and of the document's. -/
namespace Go.Proofs.Ytjghdbkkjhnpfaa
open Go.RowKit

theorem ret_n {a b : Int} (h : b = a) : Ending.returned (.int .i64 a) = .returned (.int .i64 b) := by rw [h]
theorem half_wrap {n : Int} (hn : I64 n) (h : 0 ≤ n) : wrap64 (n.tdiv 2) = n / 2 := by
  rw [Int.tdiv_eq_ediv_of_nonneg h]
  unfold I64 at hn
  exact wrap64_id (by unfold I64; omega)
theorem leaf_wrap (k : Nat) (hk : k ≤ 3) (c m t : Int) (hc : c = ((2 ^ k : Nat) : Int)) (hm : m = ((2 ^ k - 1 : Nat) : Int)) (ht : I64 t) (h0 : 0 ≤ t) : wrap64 (c + bits .and .i64 (t / 2) m) = c + t / 2 % c := by
  subst hm
  unfold I64 at ht
  rw [bits_low _ k (by omega) (by unfold I64; omega) (by omega), ← hc]
  have hk' : k = 0 ∨ k = 1 ∨ k = 2 ∨ k = 3 := by omega
  rcases hk' with rfl | rfl | rfl | rfl <;> simp at hc <;> subst hc <;> exact wrap64_id (by unfold I64; omega)

/-- 2 to the j. -/
def p2 (j : Nat) : Int := ((2 ^ j : Nat) : Int)

end Go.Proofs.Ytjghdbkkjhnpfaa
