/- Arguments opened: threads, turns, and what they are made of. -/
import Derived.Test.YtjghdbkkjhnpfaaM4
import Derived.Test.YtjghdbkkjhnpfaaM2
import Derived.Lib.SmallJoins
namespace Go.Proofs.Ytjghdbkkjhnpfaa
open Go.RowKit Go.ChangeShapes Go.WideShapes Go.Deep Go.Joins
set_option linter.unusedVariables false

theorem co_int : Try.prog.cellsOf 3 = 1 := by kernel_rfl
theorem co_op : Try.prog.cellsOf 29 = 2 := by kernel_rfl
theorem co_ent : Try.prog.cellsOf 71 = 3 := by kernel_rfl
theorem co_bat : Try.prog.cellsOf 30 = 1 := by kernel_rfl
theorem co_kid : Try.prog.cellsOf 51 = 2 := by kernel_rfl
theorem co_kids : Try.prog.cellsOf 31 = 1 := by kernel_rfl
theorem co_nums : Try.prog.cellsOf 24 = 1 := by kernel_rfl
theorem co_boxes : Try.prog.cellsOf 25 = 1 := by kernel_rfl
theorem co_mem : Try.prog.cellsOf 27 = 2 := by kernel_rfl
theorem co_tape : Try.prog.cellsOf 35 = 2 := by kernel_rfl
theorem co_mark : Try.prog.cellsOf 143 = 6 := by kernel_rfl
theorem co_log : Try.prog.cellsOf 36 = 1 := by kernel_rfl
theorem co_cfg : Try.prog.cellsOf 23 = 12 := by kernel_rfl
theorem co_turn : Try.prog.cellsOf 38 = 37 := by kernel_rfl
theorem co_bool : Try.prog.cellsOf 4 = 1 := by kernel_rfl
theorem co_th : Try.prog.cellsOf 33 = 17 := by kernel_rfl

/-- What a mark holds: thread, item, tag, number, prior, step. -/
abbrev M6 := Int × Int × Int × Int × Int × Int
def mcells (l : List M6) : List Value := l.flatMap fun e => [.int .i64 e.1, .int .i64 e.2.1, .int .i64 e.2.2.1, .int .i64 e.2.2.2.1, .int .i64 e.2.2.2.2.1, .int .i64 e.2.2.2.2.2]
/-- What a config holds. -/
structure Cf where
  x0 : Int
  x1 : Int
  x2 : Int
  x3 : Int
  x4 : Int
  x5 : Int
  x6 : Int
  x7 : Int
  b : Bool
  x9 : Int
  x10 : Int
  x11 : Int
/-- Numbers of a thread are numbers of 64 bits. -/
structure DtWf (d : Dt) : Prop where
  n : ∀ x ∈ d.nums, I64 x
  t : I64 d.tg
  v : I64 d.v
  b : Good d.bl
  h : ∀ x ∈ d.hl, I64 x
  k : ∀ e ∈ d.kl, I64 e.1 ∧ I64 e.2
section
variable {H : Type} {enc : TypeId × Value → H} {w : World} {base : Nat} {spare : Nat → Bool} {held : Bool} {n : Nat} {cs : List Value} {y : DataW H × List MemPlace}
theorem fieldOf {P : Program} {t : TypeId} {fs : Array Field} {fuel : Nat} (hs : P.underlying t = some (.struct fs)) (h : DataW.trod enc P w base spare held fuel t cs = some y) :
    cs.length = P.cellsOf t ∧ ∃ n, ∀ (i : Nat) (f : Field), fs[i]? = some f → ∃ y, DataW.trod enc P w base spare held n f.type ((cs.drop f.offset).take (P.cellsOf f.type)) = some y := by
  obtain ⟨xs, n, _, _, hl, hx, hf⟩ := DataW.trod_struct hs h
  refine ⟨hl, n, fun i f hi => ?_⟩
  have hi' : i < xs.length := by rw [hx]; exact (Array.getElem?_eq_some_iff.1 hi).1
  exact ⟨xs[i], (hf i f hi).trans (List.getElem?_eq_getElem hi')⟩
theorem one_of_slice {P : Program} {t e : TypeId} {fuel : Nat} (ht : P.underlying t = some (.slice e)) (h : DataW.trod enc P w base spare held fuel t cs = some y) : ∃ v, cs = [v] := by
  rcases open_slice ht h with ⟨rfl, _⟩ | ⟨a, len, cap, m, n, D, Pl, rfl, _⟩ <;> exact ⟨_, rfl⟩
/-- A slice of structs of numbers: what opens one element opens all. -/
theorem open_rows {P : Program} {t e : TypeId} {fuel sz : Nat} {v : Value} (ht : P.underlying t = some (.slice e)) (hce : P.cellsOf e = sz) (hz : 0 < sz)
    (hel : ∀ {fuel : Nat} {cs : List Value} {x : DataW H × List MemPlace}, DataW.trod enc P w base spare held fuel e cs = some x → ∃ l : List Int, cs = l.map (Value.int .i64) ∧ ∀ z ∈ l, I64 z)
    (hf : DataW.trod enc P w base spare held fuel t [v] = some y) :
    ∃ (A : Option Addr) (cap : Nat) (ll : List (List Int)), v = .slice A ll.length cap ∧ (∀ l ∈ ll, l.length = sz ∧ ∀ z ∈ l, I64 z) ∧ Sees w w.heap.size sz A ll.length (ll.flatMap fun l => l.map (Value.int .i64)) := by
  rcases open_slice ht hf with ⟨hcs', hx⟩ | ⟨a, len, cap, m, n, D, Pl, hcs', _, hl, hm, hmm, hx, hi⟩
  · simp at hcs'
    subst hcs'
    exact ⟨none, 0, [], rfl, fun e he => (by cases he), Sees.empty⟩
  · simp at hcs'
    subst hcs'
    have hlm : len ≤ m := by rw [hmm]; split <;> omega
    have key : ∀ i, i < len → ∃ q : List Int, q.length = sz ∧ (∀ z ∈ q, I64 z) ∧ ∀ k z, q[k]? = some z → w.cell? ((a.add (i * sz)).add k) = some (.int .i64 z) := by
      intro i hil
      obtain ⟨cs, hc, htr⟩ := hi i (by omega)
      rw [hce] at hc
      obtain ⟨_, hcl, hat⟩ := World.cells?_some hc
      obtain ⟨q, rfl, hq⟩ := hel htr
      have hql : q.length = sz := by simpa using hcl
      refine ⟨q, hql, hq, fun k z hk => ?_⟩
      have hk' : k < q.length := (List.getElem?_eq_some_iff.1 hk).1
      rw [hat k (by omega), List.getElem?_map, hk]
      rfl
    obtain ⟨ll, hll, hlp⟩ := choose_list len key
    have hlen : ∀ l ∈ ll, l.length = sz := fun l hl => by
      obtain ⟨i, hi⟩ := List.getElem?_of_mem hl
      exact (hlp i l hi).1
    have fl : ∀ (ll : List (List Int)), (∀ l ∈ ll, l.length = sz) → (ll.flatMap fun l => l.map (Value.int .i64)).length = ll.length * sz := fun ll => by
      induction ll with
      | nil => intro _; simp
      | cons a t ih => intro h; rw [List.flatMap_cons, List.length_append, ih (fun l hl => h l (List.mem_cons_of_mem _ hl)), List.length_map, h a (by simp), List.length_cons, Nat.succ_mul]; omega
    have at' : ∀ (ll : List (List Int)), (∀ l ∈ ll, l.length = sz) → ∀ j u, (ll.flatMap fun l => l.map (Value.int .i64))[j]? = some u → ∃ i k l z, ll[i]? = some l ∧ l[k]? = some z ∧ j = i * sz + k ∧ u = .int .i64 z := fun ll => by
      induction ll with
      | nil => intro _ j u hu; simp at hu
      | cons a t ih =>
        intro h j u hu
        rw [List.flatMap_cons] at hu
        have ha : (a.map (Value.int .i64)).length = sz := by rw [List.length_map]; exact h a (by simp)
        by_cases hj : j < sz
        · rw [List.getElem?_append_left (by omega), List.getElem?_map] at hu
          cases hz : a[j]? with
          | none => rw [hz] at hu; cases hu
          | some z => rw [hz] at hu; exact ⟨0, j, a, z, rfl, hz, by omega, by injection hu with hu; exact hu.symm⟩
        · rw [List.getElem?_append_right (by omega), ha] at hu
          obtain ⟨i, k, l, z, h1, h2, h3, h4⟩ := ih (fun l hl => h l (List.mem_cons_of_mem _ hl)) (j - sz) u hu
          exact ⟨i + 1, k, l, z, by simpa using h1, h2, by rw [Nat.succ_mul]; omega, h4⟩
    refine ⟨some a, cap, ll, by rw [hll], fun l hl => ?_, ⟨fl ll hlen, fun hn => ?_⟩⟩
    · obtain ⟨i, hi⟩ := List.getElem?_of_mem hl
      exact ⟨(hlp i l hi).1, (hlp i l hi).2.1⟩
    · obtain ⟨q, hq⟩ : ∃ q, ll[0]? = some q := ⟨ll[0]'(by omega), List.getElem?_eq_getElem _⟩
      obtain ⟨hq1, _, hq3⟩ := hlp 0 q hq
      obtain ⟨z, hz⟩ : ∃ z, q[0]? = some z := ⟨q[0]'(by omega), List.getElem?_eq_getElem _⟩
      have h00 := hq3 0 z hz
      rw [Nat.zero_mul, show (a.add 0).add 0 = a from by simp [Addr.add]] at h00
      obtain ⟨b, off, rfl⟩ := plain_addr h00
      refine ⟨b, off, rfl, World.block_lt_of_cell? w _ h00, fun j u hu => ?_⟩
      obtain ⟨i, k, l, z, h1, h2, rfl, rfl⟩ := at' ll hlen j u hu
      have := (hlp i l h1).2.2 k z h2
      rw [addr_add, addr_add] at this
      rwa [← Nat.add_assoc]
theorem op_int (h : DataW.trod enc Try.prog w base spare held n 3 cs = some y) : ∃ z, cs = [.int .i64 z] ∧ I64 z := by
  obtain ⟨z, e, _, hw⟩ := DataW.trod_int Try.underlying3 h
  exact ⟨z, e, i64_of_wf hw⟩
theorem op_bool (h : DataW.trod enc Try.prog w base spare held n 4 cs = some y) : ∃ z, cs = [.bool z] := by
  obtain ⟨z, e, _⟩ := DataW.trod_bool Try.underlying4 h
  exact ⟨z, e⟩
theorem op_cap {t e : TypeId} {fuel : Nat} (ht : Try.prog.underlying t = some (.slice e)) (h : DataW.trod enc Try.prog w base spare held fuel t cs = some y) : ∃ (A : Option Addr) (n c : Nat), cs = [.slice A n c] ∧ n ≤ c := by
  rcases open_slice ht h with ⟨rfl, _⟩ | ⟨a, len, cap, m, n, D, Pl, rfl, _, hl, _⟩
  · exact ⟨none, 0, 0, rfl, Nat.le_refl _⟩
  · exact ⟨some a, len, cap, rfl, hl⟩
theorem op_bat (h : DataW.trod enc Try.prog w base spare held n 30 cs = some y) : ∃ (A : Option Addr) (cap : Nat) (l : List E3), cs = [.slice A l.length cap] ∧ Sees w w.heap.size 3 A l.length (ecells l) ∧ Good l := by
  obtain ⟨v, rfl⟩ := one_of_slice Try.underlying30 h
  obtain ⟨A, cap, l, rfl, h1, h2⟩ := open_ents' Try.underlying30 Try.underlying71 Try.underlying29 co_ent co_op Try.underlying3 rfl co_int rfl rfl Try.underlying3 rfl co_int Try.underlying3 rfl co_int h
  exact ⟨A, cap, l, rfl, h1, h2⟩
theorem op_nums (h : DataW.trod enc Try.prog w base spare held n 24 cs = some y) : ∃ (A : Option Addr) (cap : Nat) (l : List Int), cs = [.slice A l.length cap] ∧ Sees w w.heap.size 1 A l.length (l.map (Value.int .i64)) ∧ ∀ x ∈ l, I64 x := by
  obtain ⟨v, rfl⟩ := one_of_slice Try.underlying24 h
  obtain ⟨A, cap, l, rfl, h1, h2⟩ := open_nums' Try.underlying24 Try.underlying3 co_int h
  exact ⟨A, cap, l, rfl, h1, h2⟩
theorem op_boxes (h : DataW.trod enc Try.prog w base spare held n 25 cs = some y) : ∃ (B : Option Addr) (cap : Nat) (bs : List Bt), cs = [.slice B bs.length cap] ∧ Sees w w.heap.size 1 B bs.length (bs.map Bt.val) ∧ ∀ q ∈ bs, q.Ok w ∧ Good q.l := by
  obtain ⟨v, rfl⟩ := one_of_slice Try.underlying25 h
  obtain ⟨B, cap, bs, rfl, h1, h2⟩ := open_bxs Try.underlying25 co_bat (fun h => (by obtain ⟨A, cap, l, e, h1, h2⟩ := op_bat h; injection e with e; exact ⟨A, cap, l, e, h1, h2⟩)) h
  exact ⟨B, cap, bs, rfl, h1, h2⟩
theorem list2 {α : Type} {l : List α} (h : l.length = 2) : ∃ c0 c1, l = (c0 :: c1 :: []) := by
  match l, h with
  | (c0 :: c1 :: []), _ => exact ⟨c0, c1, rfl⟩
theorem list6 {α : Type} {l : List α} (h : l.length = 6) : ∃ c0 c1 c2 c3 c4 c5, l = (c0 :: c1 :: c2 :: c3 :: c4 :: c5 :: []) := by
  match l, h with
  | (c0 :: c1 :: c2 :: c3 :: c4 :: c5 :: []), _ => exact ⟨c0, c1, c2, c3, c4, c5, rfl⟩
theorem list12 {α : Type} {l : List α} (h : l.length = 12) : ∃ c0 c1 c2 c3 c4 c5 c6 c7 c8 c9 c10 c11, l = (c0 :: c1 :: c2 :: c3 :: c4 :: c5 :: c6 :: c7 :: c8 :: c9 :: c10 :: c11 :: []) := by
  match l, h with
  | (c0 :: c1 :: c2 :: c3 :: c4 :: c5 :: c6 :: c7 :: c8 :: c9 :: c10 :: c11 :: []), _ => exact ⟨c0, c1, c2, c3, c4, c5, c6, c7, c8, c9, c10, c11, rfl⟩
theorem list17 {α : Type} {l : List α} (h : l.length = 17) : ∃ c0 c1 c2 c3 c4 c5 c6 c7 c8 c9 c10 c11 c12 c13 c14 c15 c16, l = (c0 :: c1 :: c2 :: c3 :: c4 :: c5 :: c6 :: c7 :: c8 :: c9 :: c10 :: c11 :: c12 :: c13 :: c14 :: c15 :: c16 :: []) := by
  match l, h with
  | (c0 :: c1 :: c2 :: c3 :: c4 :: c5 :: c6 :: c7 :: c8 :: c9 :: c10 :: c11 :: c12 :: c13 :: c14 :: c15 :: c16 :: []), _ => exact ⟨c0, c1, c2, c3, c4, c5, c6, c7, c8, c9, c10, c11, c12, c13, c14, c15, c16, rfl⟩
theorem list37 {α : Type} {l : List α} (h : l.length = 37) : ∃ c0 c1 c2 c3 c4 c5 c6 c7 c8 c9 c10 c11 c12 c13 c14 c15 c16 c17 c18 c19 c20 c21 c22 c23 c24 c25 c26 c27 c28 c29 c30 c31 c32 c33 c34 c35 c36, l = (c0 :: c1 :: c2 :: c3 :: c4 :: c5 :: c6 :: c7 :: c8 :: c9 :: c10 :: c11 :: c12 :: c13 :: c14 :: c15 :: c16 :: c17 :: c18 :: c19 :: c20 :: c21 :: c22 :: c23 :: c24 :: c25 :: c26 :: c27 :: c28 :: c29 :: c30 :: c31 :: c32 :: c33 :: c34 :: c35 :: c36 :: []) := by
  match l, h with
  | (c0 :: c1 :: c2 :: c3 :: c4 :: c5 :: c6 :: c7 :: c8 :: c9 :: c10 :: c11 :: c12 :: c13 :: c14 :: c15 :: c16 :: c17 :: c18 :: c19 :: c20 :: c21 :: c22 :: c23 :: c24 :: c25 :: c26 :: c27 :: c28 :: c29 :: c30 :: c31 :: c32 :: c33 :: c34 :: c35 :: c36 :: []), _ => exact ⟨c0, c1, c2, c3, c4, c5, c6, c7, c8, c9, c10, c11, c12, c13, c14, c15, c16, c17, c18, c19, c20, c21, c22, c23, c24, c25, c26, c27, c28, c29, c30, c31, c32, c33, c34, c35, c36, rfl⟩
theorem op_op (h : DataW.trod enc Try.prog w base spare held n 29 cs = some y) : ∃ a b, cs = [.int .i64 a, .int .i64 b] ∧ I64 a ∧ I64 b := by
  obtain ⟨hl, n1, hf⟩ := fieldOf Try.underlying29 h
  rw [co_op] at hl
  obtain ⟨c0, c1, rfl⟩ := list2 hl
  obtain ⟨y0, g0⟩ : ∃ y, DataW.trod enc Try.prog w base spare held n1 3 (c0 :: []) = some y := (by have e : ∃ y, DataW.trod enc Try.prog w base spare held n1 3 (((c0 :: c1 :: []).drop 0).take (Try.prog.cellsOf 3)) = some y := hf 0 _ rfl; rw [co_int] at e; exact e)
  obtain ⟨y1, g1⟩ : ∃ y, DataW.trod enc Try.prog w base spare held n1 3 (c1 :: []) = some y := (by have e : ∃ y, DataW.trod enc Try.prog w base spare held n1 3 (((c0 :: c1 :: []).drop 1).take (Try.prog.cellsOf 3)) = some y := hf 1 _ rfl; rw [co_int] at e; exact e)
  obtain ⟨a, u0, ha⟩ := op_int g0
  injection u0 with u0
  subst u0
  obtain ⟨b, u1, hb⟩ := op_int g1
  injection u1 with u1
  subst u1
  exact ⟨a, b, rfl, ha, hb⟩
theorem op_kid (h : DataW.trod enc Try.prog w base spare held n 51 cs = some y) : ∃ a b, cs = [.int .i64 a, .int .i64 b] ∧ I64 a ∧ I64 b := by
  obtain ⟨hl, n1, hf⟩ := fieldOf Try.underlying51 h
  rw [co_kid] at hl
  obtain ⟨c0, c1, rfl⟩ := list2 hl
  obtain ⟨y0, g0⟩ : ∃ y, DataW.trod enc Try.prog w base spare held n1 3 (c0 :: []) = some y := (by have e : ∃ y, DataW.trod enc Try.prog w base spare held n1 3 (((c0 :: c1 :: []).drop 0).take (Try.prog.cellsOf 3)) = some y := hf 0 _ rfl; rw [co_int] at e; exact e)
  obtain ⟨y1, g1⟩ : ∃ y, DataW.trod enc Try.prog w base spare held n1 3 (c1 :: []) = some y := (by have e : ∃ y, DataW.trod enc Try.prog w base spare held n1 3 (((c0 :: c1 :: []).drop 1).take (Try.prog.cellsOf 3)) = some y := hf 1 _ rfl; rw [co_int] at e; exact e)
  obtain ⟨a, u0, ha⟩ := op_int g0
  injection u0 with u0
  subst u0
  obtain ⟨b, u1, hb⟩ := op_int g1
  injection u1 with u1
  subst u1
  exact ⟨a, b, rfl, ha, hb⟩
theorem op_mark (h : DataW.trod enc Try.prog w base spare held n 143 cs = some y) : ∃ a0 a1 a2 a3 a4 a5, cs = [.int .i64 a0, .int .i64 a1, .int .i64 a2, .int .i64 a3, .int .i64 a4, .int .i64 a5] ∧ I64 a0 ∧ I64 a1 ∧ I64 a2 ∧ I64 a3 ∧ I64 a4 ∧ I64 a5 := by
  obtain ⟨hl, n1, hf⟩ := fieldOf Try.underlying143 h
  rw [co_mark] at hl
  obtain ⟨c0, c1, c2, c3, c4, c5, rfl⟩ := list6 hl
  obtain ⟨y0, g0⟩ : ∃ y, DataW.trod enc Try.prog w base spare held n1 3 (c0 :: []) = some y := (by have e : ∃ y, DataW.trod enc Try.prog w base spare held n1 3 (((c0 :: c1 :: c2 :: c3 :: c4 :: c5 :: []).drop 0).take (Try.prog.cellsOf 3)) = some y := hf 0 _ rfl; rw [co_int] at e; exact e)
  obtain ⟨y1, g1⟩ : ∃ y, DataW.trod enc Try.prog w base spare held n1 3 (c1 :: []) = some y := (by have e : ∃ y, DataW.trod enc Try.prog w base spare held n1 3 (((c0 :: c1 :: c2 :: c3 :: c4 :: c5 :: []).drop 1).take (Try.prog.cellsOf 3)) = some y := hf 1 _ rfl; rw [co_int] at e; exact e)
  obtain ⟨y2, g2⟩ : ∃ y, DataW.trod enc Try.prog w base spare held n1 29 (c2 :: c3 :: []) = some y := (by have e : ∃ y, DataW.trod enc Try.prog w base spare held n1 29 (((c0 :: c1 :: c2 :: c3 :: c4 :: c5 :: []).drop 2).take (Try.prog.cellsOf 29)) = some y := hf 2 _ rfl; rw [co_op] at e; exact e)
  obtain ⟨y3, g3⟩ : ∃ y, DataW.trod enc Try.prog w base spare held n1 3 (c4 :: []) = some y := (by have e : ∃ y, DataW.trod enc Try.prog w base spare held n1 3 (((c0 :: c1 :: c2 :: c3 :: c4 :: c5 :: []).drop 4).take (Try.prog.cellsOf 3)) = some y := hf 3 _ rfl; rw [co_int] at e; exact e)
  obtain ⟨y4, g4⟩ : ∃ y, DataW.trod enc Try.prog w base spare held n1 3 (c5 :: []) = some y := (by have e : ∃ y, DataW.trod enc Try.prog w base spare held n1 3 (((c0 :: c1 :: c2 :: c3 :: c4 :: c5 :: []).drop 5).take (Try.prog.cellsOf 3)) = some y := hf 4 _ rfl; rw [co_int] at e; exact e)
  obtain ⟨a0, u0, h0⟩ := op_int g0
  injection u0 with u0
  subst u0
  obtain ⟨a1, u1, h1⟩ := op_int g1
  injection u1 with u1
  subst u1
  obtain ⟨a2, a3, u2, h2, h3⟩ := op_op g2
  simp only [List.cons.injEq, and_true] at u2
  obtain ⟨rfl, rfl⟩ := u2
  obtain ⟨a4, u3, h4⟩ := op_int g3
  injection u3 with u3
  subst u3
  obtain ⟨a5, u4, h5⟩ := op_int g4
  injection u4 with u4
  subst u4
  exact ⟨a0, a1, a2, a3, a4, a5, rfl, h0, h1, h2, h3, h4, h5⟩
theorem op_kids (h : DataW.trod enc Try.prog w base spare held n 31 cs = some y) : ∃ (A : Option Addr) (cap : Nat) (l : List (Int × Int)), cs = [.slice A l.length cap] ∧ Sees w w.heap.size 2 A l.length (kcells l) ∧ ∀ e ∈ l, I64 e.1 ∧ I64 e.2 := by
  obtain ⟨v, rfl⟩ := one_of_slice Try.underlying31 h
  obtain ⟨A, cap, ll, rfl, h1, h2⟩ := open_rows Try.underlying31 co_kid (by omega) (fun h => (by obtain ⟨a, b, e, ha, hb⟩ := op_kid h; exact ⟨[a, b], e, fun z hz => by simp at hz; rcases hz with rfl | rfl <;> assumption⟩)) h
  have key : ∃ l : List (Int × Int), l.length = ll.length ∧ kcells l = (ll.flatMap fun l => l.map (Value.int .i64)) ∧ ∀ e ∈ l, I64 e.1 ∧ I64 e.2 := by
    clear h2 h
    induction ll with
    | nil => exact ⟨[], rfl, rfl, by simp⟩
    | cons a t ih =>
      obtain ⟨l, e1, e2, e3⟩ := ih (fun l hl => h1 l (List.mem_cons_of_mem _ hl))
      obtain ⟨p, q, rfl⟩ := list2 (h1 a (by simp)).1
      refine ⟨(p, q) :: l, by simp [e1], by rw [List.flatMap_cons, ← e2]; rfl, fun e he => ?_⟩
      rcases List.mem_cons.1 he with rfl | he
      · exact ⟨(h1 [p, q] (by simp)).2 p (by simp), (h1 [p, q] (by simp)).2 q (by simp)⟩
      · exact e3 e he
  obtain ⟨l, e1, e2, e3⟩ := key
  exact ⟨A, cap, l, by rw [e1], by rw [e1, e2]; exact h2, e3⟩
theorem op_log (h : DataW.trod enc Try.prog w base spare held n 36 cs = some y) : ∃ (A : Option Addr) (cap : Nat) (l : List M6), cs = [.slice A l.length cap] ∧ Sees w w.heap.size 6 A l.length (mcells l) := by
  obtain ⟨v, rfl⟩ := one_of_slice Try.underlying36 h
  obtain ⟨A, cap, ll, rfl, h1, h2⟩ := open_rows Try.underlying36 co_mark (by omega) (fun h => (by obtain ⟨a0, a1, a2, a3, a4, a5, e, q0, q1, q2, q3, q4, q5⟩ := op_mark h; exact ⟨[a0, a1, a2, a3, a4, a5], e, fun z hz => by simp at hz; rcases hz with rfl | rfl | rfl | rfl | rfl | rfl <;> assumption⟩)) h
  have key : ∃ l : List M6, l.length = ll.length ∧ mcells l = ll.flatMap fun l => l.map (Value.int .i64) := by
    clear h2 h
    induction ll with
    | nil => exact ⟨[], rfl, rfl⟩
    | cons a t ih =>
      obtain ⟨l, e1, e2⟩ := ih (fun l hl => h1 l (List.mem_cons_of_mem _ hl))
      obtain ⟨p0, p1, p2, p3, p4, p5, rfl⟩ := list6 (h1 a (by simp)).1
      exact ⟨(p0, p1, p2, p3, p4, p5) :: l, by simp [e1], by rw [List.flatMap_cons, ← e2]; rfl⟩
  obtain ⟨l, e1, e2⟩ := key
  exact ⟨A, cap, l, by rw [e1], by rw [e1, e2]; exact h2⟩
theorem op_cfg (h : DataW.trod enc Try.prog w base spare held n 23 cs = some y) : ∃ c : Cf, cs = (.int .i64 c.x0 :: .int .i64 c.x1 :: .int .i64 c.x2 :: .int .i64 c.x3 :: .int .i64 c.x4 :: .int .i64 c.x5 :: .int .i64 c.x6 :: .int .i64 c.x7 :: .bool c.b :: .int .i64 c.x9 :: .int .i64 c.x10 :: .int .i64 c.x11 :: []) ∧ I64 c.x9 ∧ I64 c.x10 ∧ I64 c.x11 := by
  obtain ⟨hl, n1, hf⟩ := fieldOf Try.underlying23 h
  rw [co_cfg] at hl
  obtain ⟨c0, c1, c2, c3, c4, c5, c6, c7, c8, c9, c10, c11, rfl⟩ := list12 hl
  obtain ⟨y0, g0⟩ : ∃ y, DataW.trod enc Try.prog w base spare held n1 3 (c0 :: []) = some y := (by have e : ∃ y, DataW.trod enc Try.prog w base spare held n1 3 (((c0 :: c1 :: c2 :: c3 :: c4 :: c5 :: c6 :: c7 :: c8 :: c9 :: c10 :: c11 :: []).drop 0).take (Try.prog.cellsOf 3)) = some y := hf 0 _ rfl; rw [co_int] at e; exact e)
  obtain ⟨y1, g1⟩ : ∃ y, DataW.trod enc Try.prog w base spare held n1 3 (c1 :: []) = some y := (by have e : ∃ y, DataW.trod enc Try.prog w base spare held n1 3 (((c0 :: c1 :: c2 :: c3 :: c4 :: c5 :: c6 :: c7 :: c8 :: c9 :: c10 :: c11 :: []).drop 1).take (Try.prog.cellsOf 3)) = some y := hf 1 _ rfl; rw [co_int] at e; exact e)
  obtain ⟨y2, g2⟩ : ∃ y, DataW.trod enc Try.prog w base spare held n1 3 (c2 :: []) = some y := (by have e : ∃ y, DataW.trod enc Try.prog w base spare held n1 3 (((c0 :: c1 :: c2 :: c3 :: c4 :: c5 :: c6 :: c7 :: c8 :: c9 :: c10 :: c11 :: []).drop 2).take (Try.prog.cellsOf 3)) = some y := hf 2 _ rfl; rw [co_int] at e; exact e)
  obtain ⟨y3, g3⟩ : ∃ y, DataW.trod enc Try.prog w base spare held n1 3 (c3 :: []) = some y := (by have e : ∃ y, DataW.trod enc Try.prog w base spare held n1 3 (((c0 :: c1 :: c2 :: c3 :: c4 :: c5 :: c6 :: c7 :: c8 :: c9 :: c10 :: c11 :: []).drop 3).take (Try.prog.cellsOf 3)) = some y := hf 3 _ rfl; rw [co_int] at e; exact e)
  obtain ⟨y4, g4⟩ : ∃ y, DataW.trod enc Try.prog w base spare held n1 3 (c4 :: []) = some y := (by have e : ∃ y, DataW.trod enc Try.prog w base spare held n1 3 (((c0 :: c1 :: c2 :: c3 :: c4 :: c5 :: c6 :: c7 :: c8 :: c9 :: c10 :: c11 :: []).drop 4).take (Try.prog.cellsOf 3)) = some y := hf 4 _ rfl; rw [co_int] at e; exact e)
  obtain ⟨y5, g5⟩ : ∃ y, DataW.trod enc Try.prog w base spare held n1 3 (c5 :: []) = some y := (by have e : ∃ y, DataW.trod enc Try.prog w base spare held n1 3 (((c0 :: c1 :: c2 :: c3 :: c4 :: c5 :: c6 :: c7 :: c8 :: c9 :: c10 :: c11 :: []).drop 5).take (Try.prog.cellsOf 3)) = some y := hf 5 _ rfl; rw [co_int] at e; exact e)
  obtain ⟨y6, g6⟩ : ∃ y, DataW.trod enc Try.prog w base spare held n1 3 (c6 :: []) = some y := (by have e : ∃ y, DataW.trod enc Try.prog w base spare held n1 3 (((c0 :: c1 :: c2 :: c3 :: c4 :: c5 :: c6 :: c7 :: c8 :: c9 :: c10 :: c11 :: []).drop 6).take (Try.prog.cellsOf 3)) = some y := hf 6 _ rfl; rw [co_int] at e; exact e)
  obtain ⟨y7, g7⟩ : ∃ y, DataW.trod enc Try.prog w base spare held n1 3 (c7 :: []) = some y := (by have e : ∃ y, DataW.trod enc Try.prog w base spare held n1 3 (((c0 :: c1 :: c2 :: c3 :: c4 :: c5 :: c6 :: c7 :: c8 :: c9 :: c10 :: c11 :: []).drop 7).take (Try.prog.cellsOf 3)) = some y := hf 7 _ rfl; rw [co_int] at e; exact e)
  obtain ⟨y8, g8⟩ : ∃ y, DataW.trod enc Try.prog w base spare held n1 4 (c8 :: []) = some y := (by have e : ∃ y, DataW.trod enc Try.prog w base spare held n1 4 (((c0 :: c1 :: c2 :: c3 :: c4 :: c5 :: c6 :: c7 :: c8 :: c9 :: c10 :: c11 :: []).drop 8).take (Try.prog.cellsOf 4)) = some y := hf 8 _ rfl; rw [co_bool] at e; exact e)
  obtain ⟨y9, g9⟩ : ∃ y, DataW.trod enc Try.prog w base spare held n1 3 (c9 :: []) = some y := (by have e : ∃ y, DataW.trod enc Try.prog w base spare held n1 3 (((c0 :: c1 :: c2 :: c3 :: c4 :: c5 :: c6 :: c7 :: c8 :: c9 :: c10 :: c11 :: []).drop 9).take (Try.prog.cellsOf 3)) = some y := hf 9 _ rfl; rw [co_int] at e; exact e)
  obtain ⟨y10, g10⟩ : ∃ y, DataW.trod enc Try.prog w base spare held n1 3 (c10 :: []) = some y := (by have e : ∃ y, DataW.trod enc Try.prog w base spare held n1 3 (((c0 :: c1 :: c2 :: c3 :: c4 :: c5 :: c6 :: c7 :: c8 :: c9 :: c10 :: c11 :: []).drop 10).take (Try.prog.cellsOf 3)) = some y := hf 10 _ rfl; rw [co_int] at e; exact e)
  obtain ⟨y11, g11⟩ : ∃ y, DataW.trod enc Try.prog w base spare held n1 3 (c11 :: []) = some y := (by have e : ∃ y, DataW.trod enc Try.prog w base spare held n1 3 (((c0 :: c1 :: c2 :: c3 :: c4 :: c5 :: c6 :: c7 :: c8 :: c9 :: c10 :: c11 :: []).drop 11).take (Try.prog.cellsOf 3)) = some y := hf 11 _ rfl; rw [co_int] at e; exact e)
  obtain ⟨x0, u0, h0⟩ := op_int g0
  injection u0 with u0
  subst u0
  obtain ⟨x1, u1, h1⟩ := op_int g1
  injection u1 with u1
  subst u1
  obtain ⟨x2, u2, h2⟩ := op_int g2
  injection u2 with u2
  subst u2
  obtain ⟨x3, u3, h3⟩ := op_int g3
  injection u3 with u3
  subst u3
  obtain ⟨x4, u4, h4⟩ := op_int g4
  injection u4 with u4
  subst u4
  obtain ⟨x5, u5, h5⟩ := op_int g5
  injection u5 with u5
  subst u5
  obtain ⟨x6, u6, h6⟩ := op_int g6
  injection u6 with u6
  subst u6
  obtain ⟨x7, u7, h7⟩ := op_int g7
  injection u7 with u7
  subst u7
  obtain ⟨b, u8⟩ := op_bool g8
  injection u8 with u8
  subst u8
  obtain ⟨x9, u9, h9⟩ := op_int g9
  injection u9 with u9
  subst u9
  obtain ⟨x10, u10, h10⟩ := op_int g10
  injection u10 with u10
  subst u10
  obtain ⟨x11, u11, h11⟩ := op_int g11
  injection u11 with u11
  subst u11
  exact ⟨⟨x0, x1, x2, x3, x4, x5, x6, x7, b, x9, x10, x11⟩, rfl, h9, h10, h11⟩
theorem op_mem (h : DataW.trod enc Try.prog w base spare held n 27 cs = some y) : ∃ (A : Option Addr) (c : Nat) (ws : List Int) (B : Option Addr) (d : Nat) (bs : List Bt), cs = [.slice A ws.length c, .slice B bs.length d] ∧ MemAt w A ws B bs ∧ (∀ x ∈ ws, I64 x) ∧ ∀ q ∈ bs, Good q.l := by
  obtain ⟨hl, n1, hf⟩ := fieldOf Try.underlying27 h
  rw [co_mem] at hl
  obtain ⟨c0, c1, rfl⟩ := list2 hl
  obtain ⟨y0, g0⟩ : ∃ y, DataW.trod enc Try.prog w base spare held n1 24 (c0 :: []) = some y := (by have e : ∃ y, DataW.trod enc Try.prog w base spare held n1 24 (((c0 :: c1 :: []).drop 0).take (Try.prog.cellsOf 24)) = some y := hf 0 _ rfl; rw [co_nums] at e; exact e)
  obtain ⟨y1, g1⟩ : ∃ y, DataW.trod enc Try.prog w base spare held n1 25 (c1 :: []) = some y := (by have e : ∃ y, DataW.trod enc Try.prog w base spare held n1 25 (((c0 :: c1 :: []).drop 1).take (Try.prog.cellsOf 25)) = some y := hf 1 _ rfl; rw [co_boxes] at e; exact e)
  obtain ⟨A, c, ws, u0, hA, hw⟩ := op_nums g0
  injection u0 with u0
  subst u0
  obtain ⟨B, d, bs, u1, hB, hb⟩ := op_boxes g1
  injection u1 with u1
  subst u1
  exact ⟨A, c, ws, B, d, bs, rfl, ⟨hA, hB, fun q hq => (hb q hq).1⟩, hw, fun q hq => (hb q hq).2⟩
theorem op_tape (h : DataW.trod enc Try.prog w base spare held n 35 cs = some y) : ∃ (A : Option Addr) (c : Nat) (l : List Int) (a : Int), cs = [.slice A l.length c, .int .i64 a] ∧ Sees w w.heap.size 1 A l.length (l.map (Value.int .i64)) ∧ (∀ x ∈ l, I64 x) ∧ I64 a := by
  obtain ⟨hl, n1, hf⟩ := fieldOf Try.underlying35 h
  rw [co_tape] at hl
  obtain ⟨c0, c1, rfl⟩ := list2 hl
  obtain ⟨y0, g0⟩ : ∃ y, DataW.trod enc Try.prog w base spare held n1 24 (c0 :: []) = some y := (by have e : ∃ y, DataW.trod enc Try.prog w base spare held n1 24 (((c0 :: c1 :: []).drop 0).take (Try.prog.cellsOf 24)) = some y := hf 0 _ rfl; rw [co_nums] at e; exact e)
  obtain ⟨y1, g1⟩ : ∃ y, DataW.trod enc Try.prog w base spare held n1 3 (c1 :: []) = some y := (by have e : ∃ y, DataW.trod enc Try.prog w base spare held n1 3 (((c0 :: c1 :: []).drop 1).take (Try.prog.cellsOf 3)) = some y := hf 1 _ rfl; rw [co_int] at e; exact e)
  obtain ⟨A, c, l, u0, hA, hw⟩ := op_nums g0
  injection u0 with u0
  subst u0
  obtain ⟨a, u1, ha⟩ := op_int g1
  injection u1 with u1
  subst u1
  exact ⟨A, c, l, a, rfl, hA, hw, ha⟩
theorem op_th (h : DataW.trod enc Try.prog w base spare held n 33 cs = some y) : ∃ (d : Dt) (p : Ad), cs = (.int .i64 d.ph :: .int .i64 d.it :: .int .i64 d.tg :: .int .i64 d.v :: .slice p.bA d.bl.length p.bc :: .slice p.kA d.kl.length p.kc :: .slice p.hA d.hl.length p.hc :: .int .i64 d.st :: .int .i64 d.nd :: .int .i64 d.pl :: .int .i64 d.ly :: .int .i64 d.lf :: .int .i64 d.wd :: .int .i64 d.who :: .int .i64 d.x :: .int .i64 d.y :: .int .i64 d.un :: []) ∧ ThAt w d p ∧ DtWf d ∧ d.bl.length ≤ p.bc := by
  obtain ⟨hl, n1, hf⟩ := fieldOf Try.underlying33 h
  rw [co_th] at hl
  obtain ⟨c0, c1, c2, c3, c4, c5, c6, c7, c8, c9, c10, c11, c12, c13, c14, c15, c16, rfl⟩ := list17 hl
  obtain ⟨y0, g0⟩ : ∃ y, DataW.trod enc Try.prog w base spare held n1 3 (c0 :: []) = some y := (by have e : ∃ y, DataW.trod enc Try.prog w base spare held n1 3 (((c0 :: c1 :: c2 :: c3 :: c4 :: c5 :: c6 :: c7 :: c8 :: c9 :: c10 :: c11 :: c12 :: c13 :: c14 :: c15 :: c16 :: []).drop 0).take (Try.prog.cellsOf 3)) = some y := hf 0 _ rfl; rw [co_int] at e; exact e)
  obtain ⟨y1, g1⟩ : ∃ y, DataW.trod enc Try.prog w base spare held n1 3 (c1 :: []) = some y := (by have e : ∃ y, DataW.trod enc Try.prog w base spare held n1 3 (((c0 :: c1 :: c2 :: c3 :: c4 :: c5 :: c6 :: c7 :: c8 :: c9 :: c10 :: c11 :: c12 :: c13 :: c14 :: c15 :: c16 :: []).drop 1).take (Try.prog.cellsOf 3)) = some y := hf 1 _ rfl; rw [co_int] at e; exact e)
  obtain ⟨y2, g2⟩ : ∃ y, DataW.trod enc Try.prog w base spare held n1 29 (c2 :: c3 :: []) = some y := (by have e : ∃ y, DataW.trod enc Try.prog w base spare held n1 29 (((c0 :: c1 :: c2 :: c3 :: c4 :: c5 :: c6 :: c7 :: c8 :: c9 :: c10 :: c11 :: c12 :: c13 :: c14 :: c15 :: c16 :: []).drop 2).take (Try.prog.cellsOf 29)) = some y := hf 2 _ rfl; rw [co_op] at e; exact e)
  obtain ⟨y3, g3⟩ : ∃ y, DataW.trod enc Try.prog w base spare held n1 30 (c4 :: []) = some y := (by have e : ∃ y, DataW.trod enc Try.prog w base spare held n1 30 (((c0 :: c1 :: c2 :: c3 :: c4 :: c5 :: c6 :: c7 :: c8 :: c9 :: c10 :: c11 :: c12 :: c13 :: c14 :: c15 :: c16 :: []).drop 4).take (Try.prog.cellsOf 30)) = some y := hf 3 _ rfl; rw [co_bat] at e; exact e)
  obtain ⟨y4, g4⟩ : ∃ y, DataW.trod enc Try.prog w base spare held n1 31 (c5 :: []) = some y := (by have e : ∃ y, DataW.trod enc Try.prog w base spare held n1 31 (((c0 :: c1 :: c2 :: c3 :: c4 :: c5 :: c6 :: c7 :: c8 :: c9 :: c10 :: c11 :: c12 :: c13 :: c14 :: c15 :: c16 :: []).drop 5).take (Try.prog.cellsOf 31)) = some y := hf 4 _ rfl; rw [co_kids] at e; exact e)
  obtain ⟨y5, g5⟩ : ∃ y, DataW.trod enc Try.prog w base spare held n1 24 (c6 :: []) = some y := (by have e : ∃ y, DataW.trod enc Try.prog w base spare held n1 24 (((c0 :: c1 :: c2 :: c3 :: c4 :: c5 :: c6 :: c7 :: c8 :: c9 :: c10 :: c11 :: c12 :: c13 :: c14 :: c15 :: c16 :: []).drop 6).take (Try.prog.cellsOf 24)) = some y := hf 5 _ rfl; rw [co_nums] at e; exact e)
  obtain ⟨y6, g6⟩ : ∃ y, DataW.trod enc Try.prog w base spare held n1 3 (c7 :: []) = some y := (by have e : ∃ y, DataW.trod enc Try.prog w base spare held n1 3 (((c0 :: c1 :: c2 :: c3 :: c4 :: c5 :: c6 :: c7 :: c8 :: c9 :: c10 :: c11 :: c12 :: c13 :: c14 :: c15 :: c16 :: []).drop 7).take (Try.prog.cellsOf 3)) = some y := hf 6 _ rfl; rw [co_int] at e; exact e)
  obtain ⟨y7, g7⟩ : ∃ y, DataW.trod enc Try.prog w base spare held n1 3 (c8 :: []) = some y := (by have e : ∃ y, DataW.trod enc Try.prog w base spare held n1 3 (((c0 :: c1 :: c2 :: c3 :: c4 :: c5 :: c6 :: c7 :: c8 :: c9 :: c10 :: c11 :: c12 :: c13 :: c14 :: c15 :: c16 :: []).drop 8).take (Try.prog.cellsOf 3)) = some y := hf 7 _ rfl; rw [co_int] at e; exact e)
  obtain ⟨y8, g8⟩ : ∃ y, DataW.trod enc Try.prog w base spare held n1 3 (c9 :: []) = some y := (by have e : ∃ y, DataW.trod enc Try.prog w base spare held n1 3 (((c0 :: c1 :: c2 :: c3 :: c4 :: c5 :: c6 :: c7 :: c8 :: c9 :: c10 :: c11 :: c12 :: c13 :: c14 :: c15 :: c16 :: []).drop 9).take (Try.prog.cellsOf 3)) = some y := hf 8 _ rfl; rw [co_int] at e; exact e)
  obtain ⟨y9, g9⟩ : ∃ y, DataW.trod enc Try.prog w base spare held n1 3 (c10 :: []) = some y := (by have e : ∃ y, DataW.trod enc Try.prog w base spare held n1 3 (((c0 :: c1 :: c2 :: c3 :: c4 :: c5 :: c6 :: c7 :: c8 :: c9 :: c10 :: c11 :: c12 :: c13 :: c14 :: c15 :: c16 :: []).drop 10).take (Try.prog.cellsOf 3)) = some y := hf 9 _ rfl; rw [co_int] at e; exact e)
  obtain ⟨y10, g10⟩ : ∃ y, DataW.trod enc Try.prog w base spare held n1 3 (c11 :: []) = some y := (by have e : ∃ y, DataW.trod enc Try.prog w base spare held n1 3 (((c0 :: c1 :: c2 :: c3 :: c4 :: c5 :: c6 :: c7 :: c8 :: c9 :: c10 :: c11 :: c12 :: c13 :: c14 :: c15 :: c16 :: []).drop 11).take (Try.prog.cellsOf 3)) = some y := hf 10 _ rfl; rw [co_int] at e; exact e)
  obtain ⟨y11, g11⟩ : ∃ y, DataW.trod enc Try.prog w base spare held n1 3 (c12 :: []) = some y := (by have e : ∃ y, DataW.trod enc Try.prog w base spare held n1 3 (((c0 :: c1 :: c2 :: c3 :: c4 :: c5 :: c6 :: c7 :: c8 :: c9 :: c10 :: c11 :: c12 :: c13 :: c14 :: c15 :: c16 :: []).drop 12).take (Try.prog.cellsOf 3)) = some y := hf 11 _ rfl; rw [co_int] at e; exact e)
  obtain ⟨y12, g12⟩ : ∃ y, DataW.trod enc Try.prog w base spare held n1 3 (c13 :: []) = some y := (by have e : ∃ y, DataW.trod enc Try.prog w base spare held n1 3 (((c0 :: c1 :: c2 :: c3 :: c4 :: c5 :: c6 :: c7 :: c8 :: c9 :: c10 :: c11 :: c12 :: c13 :: c14 :: c15 :: c16 :: []).drop 13).take (Try.prog.cellsOf 3)) = some y := hf 12 _ rfl; rw [co_int] at e; exact e)
  obtain ⟨y13, g13⟩ : ∃ y, DataW.trod enc Try.prog w base spare held n1 3 (c14 :: []) = some y := (by have e : ∃ y, DataW.trod enc Try.prog w base spare held n1 3 (((c0 :: c1 :: c2 :: c3 :: c4 :: c5 :: c6 :: c7 :: c8 :: c9 :: c10 :: c11 :: c12 :: c13 :: c14 :: c15 :: c16 :: []).drop 14).take (Try.prog.cellsOf 3)) = some y := hf 13 _ rfl; rw [co_int] at e; exact e)
  obtain ⟨y14, g14⟩ : ∃ y, DataW.trod enc Try.prog w base spare held n1 3 (c15 :: []) = some y := (by have e : ∃ y, DataW.trod enc Try.prog w base spare held n1 3 (((c0 :: c1 :: c2 :: c3 :: c4 :: c5 :: c6 :: c7 :: c8 :: c9 :: c10 :: c11 :: c12 :: c13 :: c14 :: c15 :: c16 :: []).drop 15).take (Try.prog.cellsOf 3)) = some y := hf 14 _ rfl; rw [co_int] at e; exact e)
  obtain ⟨y15, g15⟩ : ∃ y, DataW.trod enc Try.prog w base spare held n1 3 (c16 :: []) = some y := (by have e : ∃ y, DataW.trod enc Try.prog w base spare held n1 3 (((c0 :: c1 :: c2 :: c3 :: c4 :: c5 :: c6 :: c7 :: c8 :: c9 :: c10 :: c11 :: c12 :: c13 :: c14 :: c15 :: c16 :: []).drop 16).take (Try.prog.cellsOf 3)) = some y := hf 15 _ rfl; rw [co_int] at e; exact e)
  obtain ⟨zph, u0, hph⟩ := op_int g0
  injection u0 with u0
  subst u0
  obtain ⟨zit, u1, hit⟩ := op_int g1
  injection u1 with u1
  subst u1
  obtain ⟨ztg, zv, u2, htg, hv⟩ := op_op g2
  simp only [List.cons.injEq, and_true] at u2
  obtain ⟨rfl, rfl⟩ := u2
  obtain ⟨kA3, kn3, kc3, e3, hcap⟩ := op_cap Try.underlying30 g3
  obtain ⟨bA, bc, zbl, u3, hbl, hbg⟩ := op_bat g3
  injection u3 with u3
  subst u3
  simp only [List.cons.injEq, Value.slice.injEq, and_true] at e3
  replace hcap : zbl.length ≤ bc := by omega
  obtain ⟨kA, kc, zkl, u4, hkl, hkg⟩ := op_kids g4
  injection u4 with u4
  subst u4
  obtain ⟨hA, hc, zhl, u5, hhl, hhg⟩ := op_nums g5
  injection u5 with u5
  subst u5
  obtain ⟨zst, u6, hst⟩ := op_int g6
  injection u6 with u6
  subst u6
  obtain ⟨znd, u7, hnd⟩ := op_int g7
  injection u7 with u7
  subst u7
  obtain ⟨zpl, u8, hpl⟩ := op_int g8
  injection u8 with u8
  subst u8
  obtain ⟨zly, u9, hly⟩ := op_int g9
  injection u9 with u9
  subst u9
  obtain ⟨zlf, u10, hlf⟩ := op_int g10
  injection u10 with u10
  subst u10
  obtain ⟨zwd, u11, hwd⟩ := op_int g11
  injection u11 with u11
  subst u11
  obtain ⟨zwho, u12, hwho⟩ := op_int g12
  injection u12 with u12
  subst u12
  obtain ⟨zx, u13, hx⟩ := op_int g13
  injection u13 with u13
  subst u13
  obtain ⟨zy, u14, hy⟩ := op_int g14
  injection u14 with u14
  subst u14
  obtain ⟨zun, u15, hun⟩ := op_int g15
  injection u15 with u15
  subst u15
  exact ⟨⟨zph, zit, ztg, zv, zbl, zkl, zhl, zst, znd, zpl, zly, zlf, zwd, zwho, zx, zy, zun⟩, ⟨bA, bc, kA, kc, hA, hc⟩, rfl, ⟨hbl, hkl, hhl⟩, ⟨(by intro x hx; simp only [Dt.nums, List.mem_cons, List.not_mem_nil, or_false] at hx; rcases hx with rfl | rfl | rfl | rfl | rfl | rfl | rfl | rfl | rfl | rfl | rfl | rfl <;> assumption), htg, hv, hbg, hhg, hkg⟩, hcap⟩
theorem op_turn (h : DataW.trod enc Try.prog w base spare held n 38 cs = some y) : ∃ (c : Cf) (tt now : Int) (mA : Option Addr) (mc : Nat) (ws : List Int) (mB : Option Addr) (md : Nat) (bs : List Bt) (d : Dt) (p : Ad) (tA : Option Addr) (tc : Nat) (tl : List Int) (ta : Int) (lA : Option Addr) (lc : Nat) (ll : List M6) (dn : Bool), cs = (.int .i64 c.x0 :: .int .i64 c.x1 :: .int .i64 c.x2 :: .int .i64 c.x3 :: .int .i64 c.x4 :: .int .i64 c.x5 :: .int .i64 c.x6 :: .int .i64 c.x7 :: .bool c.b :: .int .i64 c.x9 :: .int .i64 c.x10 :: .int .i64 c.x11 :: .int .i64 tt :: .int .i64 now :: .slice mA ws.length mc :: .slice mB bs.length md :: .int .i64 d.ph :: .int .i64 d.it :: .int .i64 d.tg :: .int .i64 d.v :: .slice p.bA d.bl.length p.bc :: .slice p.kA d.kl.length p.kc :: .slice p.hA d.hl.length p.hc :: .int .i64 d.st :: .int .i64 d.nd :: .int .i64 d.pl :: .int .i64 d.ly :: .int .i64 d.lf :: .int .i64 d.wd :: .int .i64 d.who :: .int .i64 d.x :: .int .i64 d.y :: .int .i64 d.un :: .slice tA tl.length tc :: .int .i64 ta :: .slice lA ll.length lc :: .bool dn :: []) ∧ MemAt w mA ws mB bs ∧ ThAt w d p ∧ DtWf d ∧ Sees w w.heap.size 1 tA tl.length (tl.map (Value.int .i64)) ∧ Sees w w.heap.size 6 lA ll.length (mcells ll) ∧ I64 now ∧ d.bl.length ≤ p.bc ∧ (I64 c.x9 ∧ I64 c.x10 ∧ I64 c.x11) ∧ I64 tt ∧ ∀ x ∈ ws, I64 x := by
  obtain ⟨hl, n1, hf⟩ := fieldOf Try.underlying38 h
  rw [co_turn] at hl
  obtain ⟨c0, c1, c2, c3, c4, c5, c6, c7, c8, c9, c10, c11, c12, c13, c14, c15, c16, c17, c18, c19, c20, c21, c22, c23, c24, c25, c26, c27, c28, c29, c30, c31, c32, c33, c34, c35, c36, rfl⟩ := list37 hl
  obtain ⟨y0, g0⟩ : ∃ y, DataW.trod enc Try.prog w base spare held n1 23 (c0 :: c1 :: c2 :: c3 :: c4 :: c5 :: c6 :: c7 :: c8 :: c9 :: c10 :: c11 :: []) = some y := (by have e : ∃ y, DataW.trod enc Try.prog w base spare held n1 23 (((c0 :: c1 :: c2 :: c3 :: c4 :: c5 :: c6 :: c7 :: c8 :: c9 :: c10 :: c11 :: c12 :: c13 :: c14 :: c15 :: c16 :: c17 :: c18 :: c19 :: c20 :: c21 :: c22 :: c23 :: c24 :: c25 :: c26 :: c27 :: c28 :: c29 :: c30 :: c31 :: c32 :: c33 :: c34 :: c35 :: c36 :: []).drop 0).take (Try.prog.cellsOf 23)) = some y := hf 0 _ rfl; rw [co_cfg] at e; exact e)
  obtain ⟨y1, g1⟩ : ∃ y, DataW.trod enc Try.prog w base spare held n1 3 (c12 :: []) = some y := (by have e : ∃ y, DataW.trod enc Try.prog w base spare held n1 3 (((c0 :: c1 :: c2 :: c3 :: c4 :: c5 :: c6 :: c7 :: c8 :: c9 :: c10 :: c11 :: c12 :: c13 :: c14 :: c15 :: c16 :: c17 :: c18 :: c19 :: c20 :: c21 :: c22 :: c23 :: c24 :: c25 :: c26 :: c27 :: c28 :: c29 :: c30 :: c31 :: c32 :: c33 :: c34 :: c35 :: c36 :: []).drop 12).take (Try.prog.cellsOf 3)) = some y := hf 1 _ rfl; rw [co_int] at e; exact e)
  obtain ⟨y2, g2⟩ : ∃ y, DataW.trod enc Try.prog w base spare held n1 3 (c13 :: []) = some y := (by have e : ∃ y, DataW.trod enc Try.prog w base spare held n1 3 (((c0 :: c1 :: c2 :: c3 :: c4 :: c5 :: c6 :: c7 :: c8 :: c9 :: c10 :: c11 :: c12 :: c13 :: c14 :: c15 :: c16 :: c17 :: c18 :: c19 :: c20 :: c21 :: c22 :: c23 :: c24 :: c25 :: c26 :: c27 :: c28 :: c29 :: c30 :: c31 :: c32 :: c33 :: c34 :: c35 :: c36 :: []).drop 13).take (Try.prog.cellsOf 3)) = some y := hf 2 _ rfl; rw [co_int] at e; exact e)
  obtain ⟨y3, g3⟩ : ∃ y, DataW.trod enc Try.prog w base spare held n1 27 (c14 :: c15 :: []) = some y := (by have e : ∃ y, DataW.trod enc Try.prog w base spare held n1 27 (((c0 :: c1 :: c2 :: c3 :: c4 :: c5 :: c6 :: c7 :: c8 :: c9 :: c10 :: c11 :: c12 :: c13 :: c14 :: c15 :: c16 :: c17 :: c18 :: c19 :: c20 :: c21 :: c22 :: c23 :: c24 :: c25 :: c26 :: c27 :: c28 :: c29 :: c30 :: c31 :: c32 :: c33 :: c34 :: c35 :: c36 :: []).drop 14).take (Try.prog.cellsOf 27)) = some y := hf 3 _ rfl; rw [co_mem] at e; exact e)
  obtain ⟨y4, g4⟩ : ∃ y, DataW.trod enc Try.prog w base spare held n1 33 (c16 :: c17 :: c18 :: c19 :: c20 :: c21 :: c22 :: c23 :: c24 :: c25 :: c26 :: c27 :: c28 :: c29 :: c30 :: c31 :: c32 :: []) = some y := (by have e : ∃ y, DataW.trod enc Try.prog w base spare held n1 33 (((c0 :: c1 :: c2 :: c3 :: c4 :: c5 :: c6 :: c7 :: c8 :: c9 :: c10 :: c11 :: c12 :: c13 :: c14 :: c15 :: c16 :: c17 :: c18 :: c19 :: c20 :: c21 :: c22 :: c23 :: c24 :: c25 :: c26 :: c27 :: c28 :: c29 :: c30 :: c31 :: c32 :: c33 :: c34 :: c35 :: c36 :: []).drop 16).take (Try.prog.cellsOf 33)) = some y := hf 4 _ rfl; rw [co_th] at e; exact e)
  obtain ⟨y5, g5⟩ : ∃ y, DataW.trod enc Try.prog w base spare held n1 35 (c33 :: c34 :: []) = some y := (by have e : ∃ y, DataW.trod enc Try.prog w base spare held n1 35 (((c0 :: c1 :: c2 :: c3 :: c4 :: c5 :: c6 :: c7 :: c8 :: c9 :: c10 :: c11 :: c12 :: c13 :: c14 :: c15 :: c16 :: c17 :: c18 :: c19 :: c20 :: c21 :: c22 :: c23 :: c24 :: c25 :: c26 :: c27 :: c28 :: c29 :: c30 :: c31 :: c32 :: c33 :: c34 :: c35 :: c36 :: []).drop 33).take (Try.prog.cellsOf 35)) = some y := hf 5 _ rfl; rw [co_tape] at e; exact e)
  obtain ⟨y6, g6⟩ : ∃ y, DataW.trod enc Try.prog w base spare held n1 36 (c35 :: []) = some y := (by have e : ∃ y, DataW.trod enc Try.prog w base spare held n1 36 (((c0 :: c1 :: c2 :: c3 :: c4 :: c5 :: c6 :: c7 :: c8 :: c9 :: c10 :: c11 :: c12 :: c13 :: c14 :: c15 :: c16 :: c17 :: c18 :: c19 :: c20 :: c21 :: c22 :: c23 :: c24 :: c25 :: c26 :: c27 :: c28 :: c29 :: c30 :: c31 :: c32 :: c33 :: c34 :: c35 :: c36 :: []).drop 35).take (Try.prog.cellsOf 36)) = some y := hf 6 _ rfl; rw [co_log] at e; exact e)
  obtain ⟨y7, g7⟩ : ∃ y, DataW.trod enc Try.prog w base spare held n1 4 (c36 :: []) = some y := (by have e : ∃ y, DataW.trod enc Try.prog w base spare held n1 4 (((c0 :: c1 :: c2 :: c3 :: c4 :: c5 :: c6 :: c7 :: c8 :: c9 :: c10 :: c11 :: c12 :: c13 :: c14 :: c15 :: c16 :: c17 :: c18 :: c19 :: c20 :: c21 :: c22 :: c23 :: c24 :: c25 :: c26 :: c27 :: c28 :: c29 :: c30 :: c31 :: c32 :: c33 :: c34 :: c35 :: c36 :: []).drop 36).take (Try.prog.cellsOf 4)) = some y := hf 7 _ rfl; rw [co_bool] at e; exact e)
  obtain ⟨c, u0, hcf⟩ := op_cfg g0
  simp only [List.cons.injEq, and_true] at u0
  obtain ⟨rfl, rfl, rfl, rfl, rfl, rfl, rfl, rfl, rfl, rfl, rfl, rfl⟩ := u0
  obtain ⟨tt, u1, htt⟩ := op_int g1
  injection u1 with u1
  subst u1
  obtain ⟨now, u2, hnow⟩ := op_int g2
  injection u2 with u2
  subst u2
  obtain ⟨mA, mc, ws, mB, md, bs, u3, hm, hmw, hmb⟩ := op_mem g3
  simp only [List.cons.injEq, and_true] at u3
  obtain ⟨rfl, rfl⟩ := u3
  obtain ⟨d, p, u4, hth, hwf, hcap⟩ := op_th g4
  simp only [List.cons.injEq, and_true] at u4
  obtain ⟨rfl, rfl, rfl, rfl, rfl, rfl, rfl, rfl, rfl, rfl, rfl, rfl, rfl, rfl, rfl, rfl, rfl⟩ := u4
  obtain ⟨tA, tc, tl, ta, u5, htp, htl, hta⟩ := op_tape g5
  simp only [List.cons.injEq, and_true] at u5
  obtain ⟨rfl, rfl⟩ := u5
  obtain ⟨lA, lc, ll, u6, hlog⟩ := op_log g6
  injection u6 with u6
  subst u6
  obtain ⟨dn, u7⟩ := op_bool g7
  injection u7 with u7
  subst u7
  exact ⟨c, tt, now, mA, mc, ws, mB, md, bs, d, p, tA, tc, tl, ta, lA, lc, ll, dn, rfl, hm, hth, hwf, htp, hlog, hnow, hcap, hcf, htt, hmw⟩
set_option maxRecDepth 20000 in
/-- A thread that came in. -/
theorem open_th {r : Reach} {b0 : Nat} {v : Value} {D : DataW H} {pl : List MemPlace} (hv : Value.okWide Try.prog w r b0 33 v) (h : DataW.Trod enc Try.prog w base spare held 33 v D pl) :
    ∃ (d : Dt) (p : Ad), v = .agg #[.int .i64 d.ph, .int .i64 d.it, .int .i64 d.tg, .int .i64 d.v, .slice p.bA d.bl.length p.bc, .slice p.kA d.kl.length p.kc, .slice p.hA d.hl.length p.hc, .int .i64 d.st, .int .i64 d.nd, .int .i64 d.pl, .int .i64 d.ly, .int .i64 d.lf, .int .i64 d.wd, .int .i64 d.who, .int .i64 d.x, .int .i64 d.y, .int .i64 d.un] ∧ ThAt w d p ∧ DtWf d := by
  obtain ⟨cs, rfl, _⟩ := okWide_struct Try.underlying33 hv
  obtain ⟨fuel, hf⟩ := h
  obtain ⟨d, p, e, h1, h2, _⟩ := op_th hf
  obtain ⟨l⟩ := cs
  exact ⟨d, p, by rw [show l = _ from e], h1, h2⟩
set_option maxRecDepth 20000 in
/-- A turn that came in. -/
theorem open_tn {r : Reach} {b0 : Nat} {v : Value} {D : DataW H} {pl : List MemPlace} (hv : Value.okWide Try.prog w r b0 38 v) (h : DataW.Trod enc Try.prog w base spare held 38 v D pl) :
    ∃ (c : Cf) (tt now : Int) (mA : Option Addr) (mc : Nat) (ws : List Int) (mB : Option Addr) (md : Nat) (bs : List Bt) (d : Dt) (p : Ad) (tA : Option Addr) (tc : Nat) (tl : List Int) (ta : Int) (lA : Option Addr) (lc : Nat) (ll : List M6) (dn : Bool), v = .agg (List.toArray (.int .i64 c.x0 :: .int .i64 c.x1 :: .int .i64 c.x2 :: .int .i64 c.x3 :: .int .i64 c.x4 :: .int .i64 c.x5 :: .int .i64 c.x6 :: .int .i64 c.x7 :: .bool c.b :: .int .i64 c.x9 :: .int .i64 c.x10 :: .int .i64 c.x11 :: .int .i64 tt :: .int .i64 now :: .slice mA ws.length mc :: .slice mB bs.length md :: .int .i64 d.ph :: .int .i64 d.it :: .int .i64 d.tg :: .int .i64 d.v :: .slice p.bA d.bl.length p.bc :: .slice p.kA d.kl.length p.kc :: .slice p.hA d.hl.length p.hc :: .int .i64 d.st :: .int .i64 d.nd :: .int .i64 d.pl :: .int .i64 d.ly :: .int .i64 d.lf :: .int .i64 d.wd :: .int .i64 d.who :: .int .i64 d.x :: .int .i64 d.y :: .int .i64 d.un :: .slice tA tl.length tc :: .int .i64 ta :: .slice lA ll.length lc :: .bool dn :: [])) ∧ MemAt w mA ws mB bs ∧ ThAt w d p ∧ DtWf d ∧ Sees w w.heap.size 1 tA tl.length (tl.map (Value.int .i64)) ∧ Sees w w.heap.size 6 lA ll.length (mcells ll) ∧ I64 now ∧ d.bl.length ≤ p.bc ∧ (I64 c.x9 ∧ I64 c.x10 ∧ I64 c.x11) ∧ I64 tt ∧ ∀ x ∈ ws, I64 x := by
  obtain ⟨cs, rfl, _⟩ := okWide_struct Try.underlying38 hv
  obtain ⟨fuel, hf⟩ := h
  obtain ⟨c, tt, now, mA, mc, ws, mB, md, bs, d, p, tA, tc, tl, ta, lA, lc, ll, dn, e, h1⟩ := op_turn hf
  obtain ⟨l⟩ := cs
  exact ⟨c, tt, now, mA, mc, ws, mB, md, bs, d, p, tA, tc, tl, ta, lA, lc, ll, dn, by rw [show l = _ from e], h1⟩
end
end Go.Proofs.Ytjghdbkkjhnpfaa
