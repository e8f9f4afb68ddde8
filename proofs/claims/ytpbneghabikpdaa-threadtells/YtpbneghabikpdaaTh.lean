/- Threads: what one holds, as plain data, and how its lists lie. Nothing of the program. -/
import Derived.Test.YtpbneghabikpdaaMem
import Derived.Deep.MidRow
import Derived.ChangeKeysEq
namespace Go.Proofs.Ytpbneghabikpdaa
open Go.RowKit
set_option linter.unusedVariables false

/-- What a thread holds. -/
structure Dt where
  ph : Int
  it : Int
  tg : Int
  v : Int
  bl : List E3
  kl : List (Int × Int)
  hl : List Int
  st : Int
  nd : Int
  pl : Int
  ly : Int
  lf : Int
  wd : Int
  who : Int
  x : Int
  y : Int
  un : Int
/-- Where its lists lie. -/
structure Ad where
  bA : Option Addr
  bc : Nat
  kA : Option Addr
  kc : Nat
  hA : Option Addr
  hc : Nat

/-- The cells of kids. -/
def kcells (l : List (Int × Int)) : List Value := l.flatMap fun e => [.int .i64 e.1, .int .i64 e.2]
theorem kcells_length (l : List (Int × Int)) : (kcells l).length = l.length * 2 := by
  induction l with
  | nil => rfl
  | cons e l ih => simp only [kcells, List.flatMap_cons, List.length_append] at ih ⊢; rw [ih]; simp; omega
theorem kcells_append (a b : List (Int × Int)) : kcells (a ++ b) = kcells a ++ kcells b := List.flatMap_append
theorem kcells_at {l : List (Int × Int)} {k : Nat} {e : Int × Int} (h : l[k]? = some e) :
    (kcells l)[k * 2]? = some (.int .i64 e.1) ∧ (kcells l)[k * 2 + 1]? = some (.int .i64 e.2) := by
  induction l generalizing k with
  | nil => simp at h
  | cons d l ih =>
    cases k with
    | zero => simp at h; subst h; simp [kcells]
    | succ k =>
      have ih := ih (k := k) (by simpa using h)
      have e1 : ∀ j, (kcells (d :: l))[(k + 1) * 2 + j]? = (kcells l)[k * 2 + j]? := fun j => by
        show (_ :: _ :: kcells l)[(k + 1) * 2 + j]? = _
        rw [show (k + 1) * 2 + j = k * 2 + j + 1 + 1 by omega]
        simp
      exact ⟨by have := e1 0; simp only [Nat.add_zero] at this; rw [this]; exact ih.1, by rw [e1 1]; exact ih.2⟩
theorem kcells_one (l : List (Int × Int)) : ∀ u ∈ kcells l, u.oneCell' = true := by
  intro u hu
  simp only [kcells, List.mem_flatMap] at hu
  obtain ⟨e, _, h⟩ := hu
  simp at h
  rcases h with rfl | rfl <;> rfl
theorem Sees.kid {w : World} {B : Nat} {A : Option Addr} {l : List (Int × Int)} (h : Sees w B 2 A l.length (kcells l)) {k : Nat} (hk : k < l.length) :
    ∃ (b off : Nat) (t g : Int), A = some ⟨b, off, none⟩ ∧ b < B ∧ l[k]? = some (t, g) ∧ w.cell? ⟨b, off + k * 2, none⟩ = some (.int .i64 t) ∧ w.cell? ⟨b, off + k * 2 + 1, none⟩ = some (.int .i64 g) := by
  obtain ⟨b, off, e, hb, hc⟩ := h.2 (by omega)
  obtain ⟨⟨t, g⟩, he⟩ : ∃ e, l[k]? = some e := ⟨l[k], List.getElem?_eq_getElem hk⟩
  obtain ⟨h1, h2⟩ := kcells_at he
  exact ⟨b, off, t, g, e, hb, he, hc _ _ h1, by have := hc _ _ h2; rwa [← Nat.add_assoc] at this⟩

/-- How a thread's lists lie. -/
structure ThAt (w : World) (d : Dt) (p : Ad) : Prop where
  b : Sees w w.heap.size 3 p.bA d.bl.length (ecells d.bl)
  k : Sees w w.heap.size 2 p.kA d.kl.length (kcells d.kl)
  h : Sees w w.heap.size 1 p.hA d.hl.length (d.hl.map (Value.int .i64))
theorem ThAt.later {w w' : World} {d : Dt} {p : Ad} (h : ThAt w d p) (hb : Below w.heap.size w w') : ThAt w' d p := ⟨h.b.later hb, h.k.later hb, h.h.later hb⟩
/-- .. and they are not long. -/
structure DtOk (d : Dt) : Prop where
  b : d.bl.length ≤ 20000
  k : d.kl.length ≤ 20000
  h : d.hl.length ≤ 20000

/-- The numbers of a thread, but its op's. -/
def Dt.nums (d : Dt) : List Int := [d.ph, d.it, d.st, d.nd, d.pl, d.ly, d.lf, d.wd, d.who, d.x, d.y, d.un]
/-- Are two threads the same? -/
def sameB (a b : Dt) : Bool := decide (a.nums = b.nums) && decide (a.tg = b.tg ∧ a.v = b.v) && decide (a.bl = b.bl) && decide (a.kl = b.kl) && decide (a.hl = b.hl)
theorem sameB_iff (a b : Dt) : sameB a b = true ↔ a = b := by
  obtain ⟨a_ph, a_it, a_tg, a_v, a_bl, a_kl, a_hl, a_st, a_nd, a_pl, a_ly, a_lf, a_wd, a_who, a_x, a_y, a_un⟩ := a
  obtain ⟨b_ph, b_it, b_tg, b_v, b_bl, b_kl, b_hl, b_st, b_nd, b_pl, b_ly, b_lf, b_wd, b_who, b_x, b_y, b_un⟩ := b
  simp only [sameB, Dt.nums, Bool.and_eq_true, decide_eq_true_eq, Dt.mk.injEq, List.cons.injEq, and_true]
  constructor
  · rintro ⟨⟨⟨⟨⟨h0, h1, h2, h3, h4, h5, h6, h7, h8, h9, h10, h11⟩, h12, h13⟩, h14⟩, h15⟩, h16⟩
    exact ⟨h0, h1, h12, h13, h14, h15, h16, h2, h3, h4, h5, h6, h7, h8, h9, h10, h11⟩
  · rintro ⟨h0, h1, h12, h13, h14, h15, h16, h2, h3, h4, h5, h6, h7, h8, h9, h10, h11⟩
    exact ⟨⟨⟨⟨⟨h0, h1, h2, h3, h4, h5, h6, h7, h8, h9, h10, h11⟩, h12, h13⟩, h14⟩, h15⟩, h16⟩
theorem sameB_self (a : Dt) : sameB a a = true := (sameB_iff a a).2 rfl

/-- A cell of a range. -/
theorem rg {w : World} {g : Nat} {cs : List Value} (h : w.rangeAt g 0 cs) (j : Nat) {v : Value} (hv : cs[j]? = some v) : w.cell? ⟨g, j, none⟩ = some v := by
  have := h j v hv
  rwa [Nat.zero_add] at this
theorem range_keep {w w' : World} {g o : Nat} {cs : List Value} (h : w.rangeAt g o cs) (hb : Below w.heap.size w w') : w'.rangeAt g o cs := fun j v hv => cell_keep (h j v hv) hb
theorem range_new (w : World) (cs : List Value) (t : TypeId) : (w.alloc (.cells cs.toArray t)).rangeAt w.heap.size 0 cs := fun j v hv => by
  rw [Nat.zero_add, cell_of_row _ w.heap.size j cs.toArray t (0, 0) (heap_alloc_new w _)]
  simpa using hv
theorem there_keep' {w w' : World} {g o n : Nat} (h : w.there g o n) (hb : Below w.heap.size w w') : w'.there g o n := fun j hj => by
  obtain ⟨h1, h2⟩ := h j hj
  obtain ⟨u, hu⟩ := Option.isSome_iff_exists.1 h1
  have hl : g < w.heap.size := World.block_lt_of_cell? w _ hu
  exact ⟨by rw [cell_keep hu hb]; rfl, by rw [hb.frozen (p := ⟨g, o + j, none⟩) hl]; exact h2⟩
theorem box17 {w : World} {g : Nat} {c0 c1 c2 c3 c4 c5 c6 c7 c8 c9 c10 c11 c12 c13 c14 c15 c16 : Value} (h : w.rangeAt g 0 [c0, c1, c2, c3, c4, c5, c6, c7, c8, c9, c10, c11, c12, c13, c14, c15, c16]) : w.cell? ⟨g, 0, none⟩ = some (c0) ∧ w.cell? ⟨g, 1, none⟩ = some (c1) ∧ w.cell? ⟨g, 2, none⟩ = some (c2) ∧ w.cell? ⟨g, 3, none⟩ = some (c3) ∧ w.cell? ⟨g, 4, none⟩ = some (c4) ∧ w.cell? ⟨g, 5, none⟩ = some (c5) ∧ w.cell? ⟨g, 6, none⟩ = some (c6) ∧ w.cell? ⟨g, 7, none⟩ = some (c7) ∧ w.cell? ⟨g, 8, none⟩ = some (c8) ∧ w.cell? ⟨g, 9, none⟩ = some (c9) ∧ w.cell? ⟨g, 10, none⟩ = some (c10) ∧ w.cell? ⟨g, 11, none⟩ = some (c11) ∧ w.cell? ⟨g, 12, none⟩ = some (c12) ∧ w.cell? ⟨g, 13, none⟩ = some (c13) ∧ w.cell? ⟨g, 14, none⟩ = some (c14) ∧ w.cell? ⟨g, 15, none⟩ = some (c15) ∧ w.cell? ⟨g, 16, none⟩ = some (c16) :=
  ⟨rg h 0 rfl, rg h 1 rfl, rg h 2 rfl, rg h 3 rfl, rg h 4 rfl, rg h 5 rfl, rg h 6 rfl, rg h 7 rfl, rg h 8 rfl, rg h 9 rfl, rg h 10 rfl, rg h 11 rfl, rg h 12 rfl, rg h 13 rfl, rg h 14 rfl, rg h 15 rfl, rg h 16 rfl⟩

/-- Arrays of numbers compared. -/
theorem run_items {P : Program} (w : World) (d : Nat) (e : TypeId) (he : P.underlying e = some (.int .i64)) (xs ys : List Int) : ∀ is : List Nat, (∀ i ∈ is, i < xs.length ∧ i < ys.length) →
    (Op.eqItems (d + 1) e 1 (xs.map (Value.int .i64)).toArray (ys.map (Value.int .i64)).toArray is).run P w = .ok (decide (∀ i ∈ is, xs[i]? = ys[i]?)) w
  | [], _ => by simp [Op.eqItems]
  | i :: is, h => by
    have ih := run_items w d e he xs ys is fun j hj => h j (List.mem_cons_of_mem _ hj)
    obtain ⟨hx, hy⟩ := h i (by simp)
    have pt : ∀ (zs : List Int) (hz : i < zs.length), (part e (zs.map (Value.int .i64)).toArray (i * 1)).run P w = .ok (.int .i64 zs[i]) w := fun zs hz => by
      have hagg : (isAgg e).run P w = .ok false w := by
        unfold isAgg
        rw [Sem.run_bind, run_underlying he w]
        rfl
      simp [part, Sem.run_bind, hagg, hz]
    simp only [Op.eqItems, Sem.run_bind, pt xs hx, pt ys hy, Result.andThen_ok, run_equalIn_int w d e .i64 .i64 _ _ he]
    by_cases hxy : xs[i] = ys[i]
    · simp [hxy, ih, hx, hy]
    · simp [hxy, hx, hy]
theorem eql_ints {P : Program} {t e : TypeId} {n : Nat} {i : TypeInfo} (ht : P.underlying t = some (.array n e)) (he : P.underlying e = some (.int .i64)) (hi : P.info? e = some i) (hc : P.cellsOf e = 1) (xs ys : List Int) (hx : xs.length = n) (hy : ys.length = n) (w : World) :
    (binOp .eql t (.agg (xs.map (Value.int .i64)).toArray) (.agg (ys.map (Value.int .i64)).toArray)).run P w = .ok (.bool (decide (xs = ys))) w := by
  rw [run_eql_struct, show (10000 : Nat) = 9998 + 1 + 1 from rfl, run_equalIn_array w _ _ _ ht hi, hc, run_items w _ e he xs ys _ (fun j hj => by rw [List.mem_range] at hj; omega)]
  simp only [Result.andThen_ok]
  congr 3
  apply propext
  constructor
  · intro h
    apply List.ext_getElem?
    intro j
    by_cases hj : j < n
    · exact h j (List.mem_range.2 hj)
    · rw [List.getElem?_eq_none (by omega), List.getElem?_eq_none (by omega)]
  · rintro rfl _ _
    rfl
end Go.Proofs.Ytpbneghabikpdaa
