/- Texts of the elder layers in one file. -/
import Derived.Test.YtjghdbkkjhnpfaaM2
import Derived.Deep.MidRow
import Derived.ChangeKeysEq
import Derived.BigQuiet
import Derived.Lib.QuietBelow
import Derived.Deep.QuietTactic
import Derived.Test.YtjghdbkkjhnpfaaM3
import Derived.Deep.RegionHeld3
import Derived.Deep.CutRange
import Derived.Deep.AppendLies
import Derived.Test.YtjghdbkkjhnpfaaM1
/- Threads: what one holds, as plain data, and how its lists lie. Nothing of the program. -/
namespace Go.Proofs.Ytjghdbkkjhnpfaa
open Go.RowKit
set_option linter.unusedVariables false

/-- What a thread holds. -/
structure Dt where
  ph : Int
  it : Int
  tg : Int
  v : Int
  bl : List E3
  kl : List (Int × Int)
  hl : List Int
  st : Int
  nd : Int
  pl : Int
  ly : Int
  lf : Int
  wd : Int
  who : Int
  x : Int
  y : Int
  un : Int
/-- Where its lists lie. -/
structure Ad where
  bA : Option Addr
  bc : Nat
  kA : Option Addr
  kc : Nat
  hA : Option Addr
  hc : Nat

/-- The cells of kids. -/
def kcells (l : List (Int × Int)) : List Value := l.flatMap fun e => [.int .i64 e.1, .int .i64 e.2]
theorem kcells_length (l : List (Int × Int)) : (kcells l).length = l.length * 2 := by
  induction l with
  | nil => rfl
  | cons e l ih => simp only [kcells, List.flatMap_cons, List.length_append] at ih ⊢; rw [ih]; simp; omega
theorem kcells_append (a b : List (Int × Int)) : kcells (a ++ b) = kcells a ++ kcells b := List.flatMap_append
theorem kcells_at {l : List (Int × Int)} {k : Nat} {e : Int × Int} (h : l[k]? = some e) :
    (kcells l)[k * 2]? = some (.int .i64 e.1) ∧ (kcells l)[k * 2 + 1]? = some (.int .i64 e.2) := by
  induction l generalizing k with
  | nil => simp at h
  | cons d l ih =>
    cases k with
    | zero => simp at h; subst h; simp [kcells]
    | succ k =>
      have ih := ih (k := k) (by simpa using h)
      have e1 : ∀ j, (kcells (d :: l))[(k + 1) * 2 + j]? = (kcells l)[k * 2 + j]? := fun j => by
        show (_ :: _ :: kcells l)[(k + 1) * 2 + j]? = _
        rw [show (k + 1) * 2 + j = k * 2 + j + 1 + 1 by omega]
        simp
      exact ⟨by have := e1 0; simp only [Nat.add_zero] at this; rw [this]; exact ih.1, by rw [e1 1]; exact ih.2⟩
theorem kcells_one (l : List (Int × Int)) : ∀ u ∈ kcells l, u.oneCell' = true := by
  intro u hu
  simp only [kcells, List.mem_flatMap] at hu
  obtain ⟨e, _, h⟩ := hu
  simp at h
  rcases h with rfl | rfl <;> rfl
theorem Sees.kid {w : World} {B : Nat} {A : Option Addr} {l : List (Int × Int)} (h : Sees w B 2 A l.length (kcells l)) {k : Nat} (hk : k < l.length) :
    ∃ (b off : Nat) (t g : Int), A = some ⟨b, off, none⟩ ∧ b < B ∧ l[k]? = some (t, g) ∧ w.cell? ⟨b, off + k * 2, none⟩ = some (.int .i64 t) ∧ w.cell? ⟨b, off + k * 2 + 1, none⟩ = some (.int .i64 g) := by
  obtain ⟨b, off, e, hb, hc⟩ := h.2 (by omega)
  obtain ⟨⟨t, g⟩, he⟩ : ∃ e, l[k]? = some e := ⟨l[k], List.getElem?_eq_getElem hk⟩
  obtain ⟨h1, h2⟩ := kcells_at he
  exact ⟨b, off, t, g, e, hb, he, hc _ _ h1, by have := hc _ _ h2; rwa [← Nat.add_assoc] at this⟩

/-- How a thread's lists lie. -/
structure ThAt (w : World) (d : Dt) (p : Ad) : Prop where
  b : Sees w w.heap.size 3 p.bA d.bl.length (ecells d.bl)
  k : Sees w w.heap.size 2 p.kA d.kl.length (kcells d.kl)
  h : Sees w w.heap.size 1 p.hA d.hl.length (d.hl.map (Value.int .i64))
theorem ThAt.later {w w' : World} {d : Dt} {p : Ad} (h : ThAt w d p) (hb : Below w.heap.size w w') : ThAt w' d p := ⟨h.b.later hb, h.k.later hb, h.h.later hb⟩
/-- .. and they are not long. -/
structure DtOk (d : Dt) : Prop where
  b : d.bl.length ≤ 20000
  k : d.kl.length ≤ 20000
  h : d.hl.length ≤ 20000

/-- The numbers of a thread, but its op's. -/
def Dt.nums (d : Dt) : List Int := [d.ph, d.it, d.st, d.nd, d.pl, d.ly, d.lf, d.wd, d.who, d.x, d.y, d.un]
/-- Are two threads the same? -/
def sameB (a b : Dt) : Bool := decide (a.nums = b.nums) && decide (a.tg = b.tg ∧ a.v = b.v) && decide (a.bl = b.bl) && decide (a.kl = b.kl) && decide (a.hl = b.hl)
theorem sameB_iff (a b : Dt) : sameB a b = true ↔ a = b := by
  obtain ⟨a_ph, a_it, a_tg, a_v, a_bl, a_kl, a_hl, a_st, a_nd, a_pl, a_ly, a_lf, a_wd, a_who, a_x, a_y, a_un⟩ := a
  obtain ⟨b_ph, b_it, b_tg, b_v, b_bl, b_kl, b_hl, b_st, b_nd, b_pl, b_ly, b_lf, b_wd, b_who, b_x, b_y, b_un⟩ := b
  simp only [sameB, Dt.nums, Bool.and_eq_true, decide_eq_true_eq, Dt.mk.injEq, List.cons.injEq, and_true]
  constructor
  · rintro ⟨⟨⟨⟨⟨h0, h1, h2, h3, h4, h5, h6, h7, h8, h9, h10, h11⟩, h12, h13⟩, h14⟩, h15⟩, h16⟩
    exact ⟨h0, h1, h12, h13, h14, h15, h16, h2, h3, h4, h5, h6, h7, h8, h9, h10, h11⟩
  · rintro ⟨h0, h1, h12, h13, h14, h15, h16, h2, h3, h4, h5, h6, h7, h8, h9, h10, h11⟩
    exact ⟨⟨⟨⟨⟨h0, h1, h2, h3, h4, h5, h6, h7, h8, h9, h10, h11⟩, h12, h13⟩, h14⟩, h15⟩, h16⟩
theorem sameB_self (a : Dt) : sameB a a = true := (sameB_iff a a).2 rfl

/-- A cell of a range. -/
theorem rg {w : World} {g : Nat} {cs : List Value} (h : w.rangeAt g 0 cs) (j : Nat) {v : Value} (hv : cs[j]? = some v) : w.cell? ⟨g, j, none⟩ = some v := by
  have := h j v hv
  rwa [Nat.zero_add] at this
theorem range_keep {w w' : World} {g o : Nat} {cs : List Value} (h : w.rangeAt g o cs) (hb : Below w.heap.size w w') : w'.rangeAt g o cs := fun j v hv => cell_keep (h j v hv) hb
theorem range_new (w : World) (cs : List Value) (t : TypeId) : (w.alloc (.cells cs.toArray t)).rangeAt w.heap.size 0 cs := fun j v hv => by
  rw [Nat.zero_add, cell_of_row _ w.heap.size j cs.toArray t (0, 0) (heap_alloc_new w _)]
  simpa using hv
theorem there_keep' {w w' : World} {g o n : Nat} (h : w.there g o n) (hb : Below w.heap.size w w') : w'.there g o n := fun j hj => by
  obtain ⟨h1, h2⟩ := h j hj
  obtain ⟨u, hu⟩ := Option.isSome_iff_exists.1 h1
  have hl : g < w.heap.size := World.block_lt_of_cell? w _ hu
  exact ⟨by rw [cell_keep hu hb]; rfl, by rw [hb.frozen (p := ⟨g, o + j, none⟩) hl]; exact h2⟩
theorem box17 {w : World} {g : Nat} {c0 c1 c2 c3 c4 c5 c6 c7 c8 c9 c10 c11 c12 c13 c14 c15 c16 : Value} (h : w.rangeAt g 0 [c0, c1, c2, c3, c4, c5, c6, c7, c8, c9, c10, c11, c12, c13, c14, c15, c16]) : w.cell? ⟨g, 0, none⟩ = some (c0) ∧ w.cell? ⟨g, 1, none⟩ = some (c1) ∧ w.cell? ⟨g, 2, none⟩ = some (c2) ∧ w.cell? ⟨g, 3, none⟩ = some (c3) ∧ w.cell? ⟨g, 4, none⟩ = some (c4) ∧ w.cell? ⟨g, 5, none⟩ = some (c5) ∧ w.cell? ⟨g, 6, none⟩ = some (c6) ∧ w.cell? ⟨g, 7, none⟩ = some (c7) ∧ w.cell? ⟨g, 8, none⟩ = some (c8) ∧ w.cell? ⟨g, 9, none⟩ = some (c9) ∧ w.cell? ⟨g, 10, none⟩ = some (c10) ∧ w.cell? ⟨g, 11, none⟩ = some (c11) ∧ w.cell? ⟨g, 12, none⟩ = some (c12) ∧ w.cell? ⟨g, 13, none⟩ = some (c13) ∧ w.cell? ⟨g, 14, none⟩ = some (c14) ∧ w.cell? ⟨g, 15, none⟩ = some (c15) ∧ w.cell? ⟨g, 16, none⟩ = some (c16) :=
  ⟨rg h 0 rfl, rg h 1 rfl, rg h 2 rfl, rg h 3 rfl, rg h 4 rfl, rg h 5 rfl, rg h 6 rfl, rg h 7 rfl, rg h 8 rfl, rg h 9 rfl, rg h 10 rfl, rg h 11 rfl, rg h 12 rfl, rg h 13 rfl, rg h 14 rfl, rg h 15 rfl, rg h 16 rfl⟩

/-- Arrays of numbers compared. -/
theorem run_items {P : Program} (w : World) (d : Nat) (e : TypeId) (he : P.underlying e = some (.int .i64)) (xs ys : List Int) : ∀ is : List Nat, (∀ i ∈ is, i < xs.length ∧ i < ys.length) →
    (Op.eqItems (d + 1) e 1 (xs.map (Value.int .i64)).toArray (ys.map (Value.int .i64)).toArray is).run P w = .ok (decide (∀ i ∈ is, xs[i]? = ys[i]?)) w
  | [], _ => by simp [Op.eqItems]
  | i :: is, h => by
    have ih := run_items w d e he xs ys is fun j hj => h j (List.mem_cons_of_mem _ hj)
    obtain ⟨hx, hy⟩ := h i (by simp)
    have pt : ∀ (zs : List Int) (hz : i < zs.length), (part e (zs.map (Value.int .i64)).toArray (i * 1)).run P w = .ok (.int .i64 zs[i]) w := fun zs hz => by
      have hagg : (isAgg e).run P w = .ok false w := by
        unfold isAgg
        rw [Sem.run_bind, run_underlying he w]
        rfl
      simp [part, Sem.run_bind, hagg, hz]
    simp only [Op.eqItems, Sem.run_bind, pt xs hx, pt ys hy, Result.andThen_ok, run_equalIn_int w d e .i64 .i64 _ _ he]
    by_cases hxy : xs[i] = ys[i]
    · simp [hxy, ih, hx, hy]
    · simp [hxy, hx, hy]
theorem eql_ints {P : Program} {t e : TypeId} {n : Nat} {i : TypeInfo} (ht : P.underlying t = some (.array n e)) (he : P.underlying e = some (.int .i64)) (hi : P.info? e = some i) (hc : P.cellsOf e = 1) (xs ys : List Int) (hx : xs.length = n) (hy : ys.length = n) (w : World) :
    (binOp .eql t (.agg (xs.map (Value.int .i64)).toArray) (.agg (ys.map (Value.int .i64)).toArray)).run P w = .ok (.bool (decide (xs = ys))) w := by
  rw [run_eql_struct, show (10000 : Nat) = 9998 + 1 + 1 from rfl, run_equalIn_array w _ _ _ ht hi, hc, run_items w _ e he xs ys _ (fun j hj => by rw [List.mem_range] at hj; omega)]
  simp only [Result.andThen_ok]
  congr 3
  apply propext
  constructor
  · intro h
    apply List.ext_getElem?
    intro j
    by_cases hj : j < n
    · exact h j (List.mem_range.2 hj)
    · rw [List.getElem?_eq_none (by omega), List.getElem?_eq_none (by omega)]
  · rintro rfl _ _
    rfl
end Go.Proofs.Ytjghdbkkjhnpfaa
/- Contracts of alike and numbers. -/
namespace Go.Proofs.Ytjghdbkkjhnpfaa
open Go.RowKit
set_option linter.unusedVariables false

end Go.Proofs.Ytjghdbkkjhnpfaa
/- Loads of structs of many cells, as one step each. -/
namespace Go.Proofs.Ytjghdbkkjhnpfaa
open Go.RowKit
set_option linter.unusedVariables false

/-- What a block holds behind a store of many cells. -/
def putCs : Array Value → Nat → List Value → Array Value
  | zs, _, [] => zs
  | zs, o, v :: r => putCs (zs.setIfInBounds o v) (o + 1) r
theorem putCs_at : ∀ (vs : List Value) (zs : Array Value) (o j : Nat), o + vs.length ≤ zs.size → (putCs zs o vs)[j]? = if o ≤ j ∧ j < o + vs.length then vs[j - o]? else zs[j]?
  | [], zs, o, j, h => by rw [if_neg (by simp)]; rfl
  | v :: r, zs, o, j, h => by
    have h' : o + (r.length + 1) ≤ zs.size := by simpa using h
    have hl : (v :: r).length = r.length + 1 := rfl
    rw [putCs, putCs_at r (zs.setIfInBounds o v) (o + 1) j (by simp; omega), hl]
    by_cases h1 : o + 1 ≤ j ∧ j < o + 1 + r.length
    · rw [if_pos h1, if_pos (by omega), show j - o = j - (o + 1) + 1 by omega]
      simp
    · rw [if_neg h1]
      by_cases h2 : j = o
      · subst h2
        rw [if_pos (by omega)]
        simp [show j < zs.size by omega]
      · rw [if_neg (by omega), Array.getElem?_setIfInBounds_ne (Ne.symm h2)]
theorem putCs_all (cs zs : Array Value) (h : cs.size = zs.size) : putCs zs 0 cs.toList = cs := by
  apply Array.ext_getElem?
  intro j
  rw [putCs_at _ _ _ _ (by simp; omega)]
  by_cases hj : j < cs.size
  · rw [if_pos (by simp; omega)]; simp
  · rw [if_neg (by simp; omega), Array.getElem?_eq_none (by omega), Array.getElem?_eq_none (by omega)]
theorem setCells_alloc (w : World) (t : TypeId) : ∀ (vs : List Value) (o : Nat) (zs : Array Value), (w.alloc (.cells zs t)).setCells w.heap.size o vs = w.alloc (.cells (putCs zs o vs) t)
  | [], _, _ => rfl
  | v :: r, o, zs => by
    rw [World.setCells, World.setCell_alloc_new, setCells_alloc w t r]
    rfl
theorem there_alloc_new (w : World) (zs : Array Value) (t : TypeId) : (w.alloc (.cells zs t)).there w.heap.size 0 zs.size := fun j hj => by
  rw [Nat.zero_add, cell_of_row _ w.heap.size j zs t (0, 0) (heap_alloc_new w _)]
  exact ⟨by simp [hj], by simp [go_sem]⟩
theorem run_store_new (w : World) (ty t : TypeId) (zs cs : Array Value) (g : Nat) (hg : g = w.heap.size) (hz : cs.size = zs.size) (hi : (Try.prog.info? ty).map (·.size) = some cs.size) (h1 : cs.all (·.oneCell') = true) :
    (storeVar ty ⟨g, 0, none⟩ (.agg cs)).run Try.prog (w.alloc (.cells zs t)) = .ok () (w.alloc (.cells cs t)) := by
  subst hg
  rw [run_storeVar_mid _ w.heap.size 0 ty cs (hz ▸ there_alloc_new w zs t) hi h1, setCells_alloc, putCs_all cs zs hz]
theorem results_at {fn : Func} {p : Tmp} {ty : TypeId} (h : fn.results = #[.cell p ty]) (tmps : Array Value) (w : World) (g : Nat) (cs : List Value) (d : TypeDesc) (hp : tmps.getD p undef = .pointer (some ⟨g, 0, none⟩)) (hc : w.rangeAt g 0 cs)
    (hu : Try.prog.underlying ty = some d) (hd : d.isRow = true) (hi : (Try.prog.info? ty).map (·.size) = some cs.length) : (results fn tmps).run Try.prog w = .ok (.agg cs.toArray) w := by
  have hp' : tmps[p]?.getD undef = .pointer (some ⟨g, 0, none⟩) := by simpa using hp
  simp [results, h, hp', asAddr, run_loadVar_mid w g 0 ty cs d hc hu hd hi]
theorem th_drew (w : World) (k n : Nat) (h : w.there k 0 n) : w.drew.there k 0 n := h
theorem th_old (w : World) (o : Obj) (k n : Nat) (h : w.there k 0 n) : (w.alloc o).there k 0 n := there_keep' h ((Below.refl _ _).alloc (Nat.le_refl _) _)
theorem th_new (w : World) (cs : Array Value) (t : TypeId) (k n : Nat) (hk : k = w.heap.size) (hn : cs.size = n) : (w.alloc (.cells cs t)).there k 0 n := by
  subst hk hn; exact there_alloc_new w cs t
theorem one_int (k : IntKind) (x : Int) : (Value.int k x).oneCell' = true := rfl
theorem one_slice (A : Option Addr) (n c : Nat) : (Value.slice A n c).oneCell' = true := rfl
theorem one_bool (b : Bool) : (Value.bool b).oneCell' = true := rfl
/-- A load of 17 cells at once. -/
def ldTh (a : Addr) : Sem Value := loadVar 33 a
theorem ldTh_is (a : Addr) : loadVar 33 a = ldTh a := rfl
theorem run_ldTh (w : World) (g o : Nat) (h : (w.cell? ⟨g, o, none⟩).isSome = true ∧ (w.cell? ⟨g, o + 1, none⟩).isSome = true ∧ (w.cell? ⟨g, o + 2, none⟩).isSome = true ∧ (w.cell? ⟨g, o + 3, none⟩).isSome = true ∧ (w.cell? ⟨g, o + 4, none⟩).isSome = true ∧ (w.cell? ⟨g, o + 5, none⟩).isSome = true ∧ (w.cell? ⟨g, o + 6, none⟩).isSome = true ∧ (w.cell? ⟨g, o + 7, none⟩).isSome = true ∧ (w.cell? ⟨g, o + 8, none⟩).isSome = true ∧ (w.cell? ⟨g, o + 9, none⟩).isSome = true ∧ (w.cell? ⟨g, o + 10, none⟩).isSome = true ∧ (w.cell? ⟨g, o + 11, none⟩).isSome = true ∧ (w.cell? ⟨g, o + 12, none⟩).isSome = true ∧ (w.cell? ⟨g, o + 13, none⟩).isSome = true ∧ (w.cell? ⟨g, o + 14, none⟩).isSome = true ∧ (w.cell? ⟨g, o + 15, none⟩).isSome = true ∧ (w.cell? ⟨g, o + 16, none⟩).isSome = true) : (ldTh ⟨g, o, none⟩).run Try.prog w = .ok (.agg (List.toArray ((w.cell? ⟨g, o, none⟩).getD undef :: (w.cell? ⟨g, o + 1, none⟩).getD undef :: (w.cell? ⟨g, o + 2, none⟩).getD undef :: (w.cell? ⟨g, o + 3, none⟩).getD undef :: (w.cell? ⟨g, o + 4, none⟩).getD undef :: (w.cell? ⟨g, o + 5, none⟩).getD undef :: (w.cell? ⟨g, o + 6, none⟩).getD undef :: (w.cell? ⟨g, o + 7, none⟩).getD undef :: (w.cell? ⟨g, o + 8, none⟩).getD undef :: (w.cell? ⟨g, o + 9, none⟩).getD undef :: (w.cell? ⟨g, o + 10, none⟩).getD undef :: (w.cell? ⟨g, o + 11, none⟩).getD undef :: (w.cell? ⟨g, o + 12, none⟩).getD undef :: (w.cell? ⟨g, o + 13, none⟩).getD undef :: (w.cell? ⟨g, o + 14, none⟩).getD undef :: (w.cell? ⟨g, o + 15, none⟩).getD undef :: (w.cell? ⟨g, o + 16, none⟩).getD undef :: []))) w := by
  obtain ⟨h0, h1, h2, h3, h4, h5, h6, h7, h8, h9, h10, h11, h12, h13, h14, h15, h16⟩ := h
  refine run_loadVar_mid w g o 33 ((w.cell? ⟨g, o, none⟩).getD undef :: (w.cell? ⟨g, o + 1, none⟩).getD undef :: (w.cell? ⟨g, o + 2, none⟩).getD undef :: (w.cell? ⟨g, o + 3, none⟩).getD undef :: (w.cell? ⟨g, o + 4, none⟩).getD undef :: (w.cell? ⟨g, o + 5, none⟩).getD undef :: (w.cell? ⟨g, o + 6, none⟩).getD undef :: (w.cell? ⟨g, o + 7, none⟩).getD undef :: (w.cell? ⟨g, o + 8, none⟩).getD undef :: (w.cell? ⟨g, o + 9, none⟩).getD undef :: (w.cell? ⟨g, o + 10, none⟩).getD undef :: (w.cell? ⟨g, o + 11, none⟩).getD undef :: (w.cell? ⟨g, o + 12, none⟩).getD undef :: (w.cell? ⟨g, o + 13, none⟩).getD undef :: (w.cell? ⟨g, o + 14, none⟩).getD undef :: (w.cell? ⟨g, o + 15, none⟩).getD undef :: (w.cell? ⟨g, o + 16, none⟩).getD undef :: []) _ ?_ Try.underlying33 rfl (by kernel_rfl)
  intro j v hv
  have hj : j < 17 := (List.getElem?_eq_some_iff.1 hv).1
  have key : ∀ (x : Addr), (w.cell? x).isSome = true → w.cell? x = some ((w.cell? x).getD undef) := fun x hx => by
    obtain ⟨u, hu⟩ := Option.isSome_iff_exists.1 hx
    rw [hu]; rfl
  match j, hj with
  | 0, _ => injection hv with hv; subst hv; exact key _ h0
  | 1, _ => injection hv with hv; subst hv; exact key _ h1
  | 2, _ => injection hv with hv; subst hv; exact key _ h2
  | 3, _ => injection hv with hv; subst hv; exact key _ h3
  | 4, _ => injection hv with hv; subst hv; exact key _ h4
  | 5, _ => injection hv with hv; subst hv; exact key _ h5
  | 6, _ => injection hv with hv; subst hv; exact key _ h6
  | 7, _ => injection hv with hv; subst hv; exact key _ h7
  | 8, _ => injection hv with hv; subst hv; exact key _ h8
  | 9, _ => injection hv with hv; subst hv; exact key _ h9
  | 10, _ => injection hv with hv; subst hv; exact key _ h10
  | 11, _ => injection hv with hv; subst hv; exact key _ h11
  | 12, _ => injection hv with hv; subst hv; exact key _ h12
  | 13, _ => injection hv with hv; subst hv; exact key _ h13
  | 14, _ => injection hv with hv; subst hv; exact key _ h14
  | 15, _ => injection hv with hv; subst hv; exact key _ h15
  | 16, _ => injection hv with hv; subst hv; exact key _ h16
  | j + 17, hj => exact absurd hj (by omega)
/-- A store of 17 cells at once, into a block that was just made. -/
def stTh (a : Addr) (v : Value) : Sem Unit := storeVar 33 a v
theorem stTh_is (a : Addr) (v : Value) : storeVar 33 a v = stTh a v := rfl
theorem run_stTh (w : World) (t : TypeId) (zs cs : Array Value) (g : Nat) (hg : g = w.heap.size) (hc : cs.size = 17) (hz : zs.size = 17) (h1 : cs.all (·.oneCell') = true) :
    (stTh ⟨g, 0, none⟩ (.agg cs)).run Try.prog (w.alloc (.cells zs t)) = .ok () (w.alloc (.cells cs t)) :=
  run_store_new w 33 t zs cs g hg (hc.trans hz.symm) (by rw [hc]; kernel_rfl) h1
theorem run_stTh_there (w : World) (cs : Array Value) (g o : Nat) (ht : w.there g o 17) (hc : cs.size = 17) (h1 : cs.all (·.oneCell') = true) :
    (stTh ⟨g, o, none⟩ (.agg cs)).run Try.prog w = .ok () (w.setCells g o cs.toList) :=
  run_storeVar_mid w g o 33 cs (hc ▸ ht) (by rw [hc]; kernel_rfl) h1
/-- A load of 17 cells at once. -/
def ldRh (a : Addr) : Sem Value := loadVar 60 a
theorem ldRh_is (a : Addr) : loadVar 60 a = ldRh a := rfl
theorem run_ldRh (w : World) (g o : Nat) (h : (w.cell? ⟨g, o, none⟩).isSome = true ∧ (w.cell? ⟨g, o + 1, none⟩).isSome = true ∧ (w.cell? ⟨g, o + 2, none⟩).isSome = true ∧ (w.cell? ⟨g, o + 3, none⟩).isSome = true ∧ (w.cell? ⟨g, o + 4, none⟩).isSome = true ∧ (w.cell? ⟨g, o + 5, none⟩).isSome = true ∧ (w.cell? ⟨g, o + 6, none⟩).isSome = true ∧ (w.cell? ⟨g, o + 7, none⟩).isSome = true ∧ (w.cell? ⟨g, o + 8, none⟩).isSome = true ∧ (w.cell? ⟨g, o + 9, none⟩).isSome = true ∧ (w.cell? ⟨g, o + 10, none⟩).isSome = true ∧ (w.cell? ⟨g, o + 11, none⟩).isSome = true ∧ (w.cell? ⟨g, o + 12, none⟩).isSome = true ∧ (w.cell? ⟨g, o + 13, none⟩).isSome = true ∧ (w.cell? ⟨g, o + 14, none⟩).isSome = true ∧ (w.cell? ⟨g, o + 15, none⟩).isSome = true ∧ (w.cell? ⟨g, o + 16, none⟩).isSome = true) : (ldRh ⟨g, o, none⟩).run Try.prog w = .ok (.agg (List.toArray ((w.cell? ⟨g, o, none⟩).getD undef :: (w.cell? ⟨g, o + 1, none⟩).getD undef :: (w.cell? ⟨g, o + 2, none⟩).getD undef :: (w.cell? ⟨g, o + 3, none⟩).getD undef :: (w.cell? ⟨g, o + 4, none⟩).getD undef :: (w.cell? ⟨g, o + 5, none⟩).getD undef :: (w.cell? ⟨g, o + 6, none⟩).getD undef :: (w.cell? ⟨g, o + 7, none⟩).getD undef :: (w.cell? ⟨g, o + 8, none⟩).getD undef :: (w.cell? ⟨g, o + 9, none⟩).getD undef :: (w.cell? ⟨g, o + 10, none⟩).getD undef :: (w.cell? ⟨g, o + 11, none⟩).getD undef :: (w.cell? ⟨g, o + 12, none⟩).getD undef :: (w.cell? ⟨g, o + 13, none⟩).getD undef :: (w.cell? ⟨g, o + 14, none⟩).getD undef :: (w.cell? ⟨g, o + 15, none⟩).getD undef :: (w.cell? ⟨g, o + 16, none⟩).getD undef :: []))) w := by
  obtain ⟨h0, h1, h2, h3, h4, h5, h6, h7, h8, h9, h10, h11, h12, h13, h14, h15, h16⟩ := h
  refine run_loadVar_mid w g o 60 ((w.cell? ⟨g, o, none⟩).getD undef :: (w.cell? ⟨g, o + 1, none⟩).getD undef :: (w.cell? ⟨g, o + 2, none⟩).getD undef :: (w.cell? ⟨g, o + 3, none⟩).getD undef :: (w.cell? ⟨g, o + 4, none⟩).getD undef :: (w.cell? ⟨g, o + 5, none⟩).getD undef :: (w.cell? ⟨g, o + 6, none⟩).getD undef :: (w.cell? ⟨g, o + 7, none⟩).getD undef :: (w.cell? ⟨g, o + 8, none⟩).getD undef :: (w.cell? ⟨g, o + 9, none⟩).getD undef :: (w.cell? ⟨g, o + 10, none⟩).getD undef :: (w.cell? ⟨g, o + 11, none⟩).getD undef :: (w.cell? ⟨g, o + 12, none⟩).getD undef :: (w.cell? ⟨g, o + 13, none⟩).getD undef :: (w.cell? ⟨g, o + 14, none⟩).getD undef :: (w.cell? ⟨g, o + 15, none⟩).getD undef :: (w.cell? ⟨g, o + 16, none⟩).getD undef :: []) _ ?_ Try.underlying60 rfl (by kernel_rfl)
  intro j v hv
  have hj : j < 17 := (List.getElem?_eq_some_iff.1 hv).1
  have key : ∀ (x : Addr), (w.cell? x).isSome = true → w.cell? x = some ((w.cell? x).getD undef) := fun x hx => by
    obtain ⟨u, hu⟩ := Option.isSome_iff_exists.1 hx
    rw [hu]; rfl
  match j, hj with
  | 0, _ => injection hv with hv; subst hv; exact key _ h0
  | 1, _ => injection hv with hv; subst hv; exact key _ h1
  | 2, _ => injection hv with hv; subst hv; exact key _ h2
  | 3, _ => injection hv with hv; subst hv; exact key _ h3
  | 4, _ => injection hv with hv; subst hv; exact key _ h4
  | 5, _ => injection hv with hv; subst hv; exact key _ h5
  | 6, _ => injection hv with hv; subst hv; exact key _ h6
  | 7, _ => injection hv with hv; subst hv; exact key _ h7
  | 8, _ => injection hv with hv; subst hv; exact key _ h8
  | 9, _ => injection hv with hv; subst hv; exact key _ h9
  | 10, _ => injection hv with hv; subst hv; exact key _ h10
  | 11, _ => injection hv with hv; subst hv; exact key _ h11
  | 12, _ => injection hv with hv; subst hv; exact key _ h12
  | 13, _ => injection hv with hv; subst hv; exact key _ h13
  | 14, _ => injection hv with hv; subst hv; exact key _ h14
  | 15, _ => injection hv with hv; subst hv; exact key _ h15
  | 16, _ => injection hv with hv; subst hv; exact key _ h16
  | j + 17, hj => exact absurd hj (by omega)
/-- A store of 17 cells at once, into a block that was just made. -/
def stRh (a : Addr) (v : Value) : Sem Unit := storeVar 60 a v
theorem stRh_is (a : Addr) (v : Value) : storeVar 60 a v = stRh a v := rfl
theorem run_stRh (w : World) (t : TypeId) (zs cs : Array Value) (g : Nat) (hg : g = w.heap.size) (hc : cs.size = 17) (hz : zs.size = 17) (h1 : cs.all (·.oneCell') = true) :
    (stRh ⟨g, 0, none⟩ (.agg cs)).run Try.prog (w.alloc (.cells zs t)) = .ok () (w.alloc (.cells cs t)) :=
  run_store_new w 60 t zs cs g hg (hc.trans hz.symm) (by rw [hc]; kernel_rfl) h1
theorem run_stRh_there (w : World) (cs : Array Value) (g o : Nat) (ht : w.there g o 17) (hc : cs.size = 17) (h1 : cs.all (·.oneCell') = true) :
    (stRh ⟨g, o, none⟩ (.agg cs)).run Try.prog w = .ok () (w.setCells g o cs.toList) :=
  run_storeVar_mid w g o 60 cs (hc ▸ ht) (by rw [hc]; kernel_rfl) h1
/-- A load of 12 cells at once. -/
def ldCf (a : Addr) : Sem Value := loadVar 23 a
theorem ldCf_is (a : Addr) : loadVar 23 a = ldCf a := rfl
theorem run_ldCf (w : World) (g o : Nat) (h : (w.cell? ⟨g, o, none⟩).isSome = true ∧ (w.cell? ⟨g, o + 1, none⟩).isSome = true ∧ (w.cell? ⟨g, o + 2, none⟩).isSome = true ∧ (w.cell? ⟨g, o + 3, none⟩).isSome = true ∧ (w.cell? ⟨g, o + 4, none⟩).isSome = true ∧ (w.cell? ⟨g, o + 5, none⟩).isSome = true ∧ (w.cell? ⟨g, o + 6, none⟩).isSome = true ∧ (w.cell? ⟨g, o + 7, none⟩).isSome = true ∧ (w.cell? ⟨g, o + 8, none⟩).isSome = true ∧ (w.cell? ⟨g, o + 9, none⟩).isSome = true ∧ (w.cell? ⟨g, o + 10, none⟩).isSome = true ∧ (w.cell? ⟨g, o + 11, none⟩).isSome = true) : (ldCf ⟨g, o, none⟩).run Try.prog w = .ok (.agg (List.toArray ((w.cell? ⟨g, o, none⟩).getD undef :: (w.cell? ⟨g, o + 1, none⟩).getD undef :: (w.cell? ⟨g, o + 2, none⟩).getD undef :: (w.cell? ⟨g, o + 3, none⟩).getD undef :: (w.cell? ⟨g, o + 4, none⟩).getD undef :: (w.cell? ⟨g, o + 5, none⟩).getD undef :: (w.cell? ⟨g, o + 6, none⟩).getD undef :: (w.cell? ⟨g, o + 7, none⟩).getD undef :: (w.cell? ⟨g, o + 8, none⟩).getD undef :: (w.cell? ⟨g, o + 9, none⟩).getD undef :: (w.cell? ⟨g, o + 10, none⟩).getD undef :: (w.cell? ⟨g, o + 11, none⟩).getD undef :: []))) w := by
  obtain ⟨h0, h1, h2, h3, h4, h5, h6, h7, h8, h9, h10, h11⟩ := h
  refine run_loadVar_mid w g o 23 ((w.cell? ⟨g, o, none⟩).getD undef :: (w.cell? ⟨g, o + 1, none⟩).getD undef :: (w.cell? ⟨g, o + 2, none⟩).getD undef :: (w.cell? ⟨g, o + 3, none⟩).getD undef :: (w.cell? ⟨g, o + 4, none⟩).getD undef :: (w.cell? ⟨g, o + 5, none⟩).getD undef :: (w.cell? ⟨g, o + 6, none⟩).getD undef :: (w.cell? ⟨g, o + 7, none⟩).getD undef :: (w.cell? ⟨g, o + 8, none⟩).getD undef :: (w.cell? ⟨g, o + 9, none⟩).getD undef :: (w.cell? ⟨g, o + 10, none⟩).getD undef :: (w.cell? ⟨g, o + 11, none⟩).getD undef :: []) _ ?_ Try.underlying23 rfl (by kernel_rfl)
  intro j v hv
  have hj : j < 12 := (List.getElem?_eq_some_iff.1 hv).1
  have key : ∀ (x : Addr), (w.cell? x).isSome = true → w.cell? x = some ((w.cell? x).getD undef) := fun x hx => by
    obtain ⟨u, hu⟩ := Option.isSome_iff_exists.1 hx
    rw [hu]; rfl
  match j, hj with
  | 0, _ => injection hv with hv; subst hv; exact key _ h0
  | 1, _ => injection hv with hv; subst hv; exact key _ h1
  | 2, _ => injection hv with hv; subst hv; exact key _ h2
  | 3, _ => injection hv with hv; subst hv; exact key _ h3
  | 4, _ => injection hv with hv; subst hv; exact key _ h4
  | 5, _ => injection hv with hv; subst hv; exact key _ h5
  | 6, _ => injection hv with hv; subst hv; exact key _ h6
  | 7, _ => injection hv with hv; subst hv; exact key _ h7
  | 8, _ => injection hv with hv; subst hv; exact key _ h8
  | 9, _ => injection hv with hv; subst hv; exact key _ h9
  | 10, _ => injection hv with hv; subst hv; exact key _ h10
  | 11, _ => injection hv with hv; subst hv; exact key _ h11
  | j + 12, hj => exact absurd hj (by omega)
/-- A store of 12 cells at once, into a block that was just made. -/
def stCf (a : Addr) (v : Value) : Sem Unit := storeVar 23 a v
theorem stCf_is (a : Addr) (v : Value) : storeVar 23 a v = stCf a v := rfl
theorem run_stCf (w : World) (t : TypeId) (zs cs : Array Value) (g : Nat) (hg : g = w.heap.size) (hc : cs.size = 12) (hz : zs.size = 12) (h1 : cs.all (·.oneCell') = true) :
    (stCf ⟨g, 0, none⟩ (.agg cs)).run Try.prog (w.alloc (.cells zs t)) = .ok () (w.alloc (.cells cs t)) :=
  run_store_new w 23 t zs cs g hg (hc.trans hz.symm) (by rw [hc]; kernel_rfl) h1
theorem run_stCf_there (w : World) (cs : Array Value) (g o : Nat) (ht : w.there g o 12) (hc : cs.size = 12) (h1 : cs.all (·.oneCell') = true) :
    (stCf ⟨g, o, none⟩ (.agg cs)).run Try.prog w = .ok () (w.setCells g o cs.toList) :=
  run_storeVar_mid w g o 23 cs (hc ▸ ht) (by rw [hc]; kernel_rfl) h1
/-- A load of 12 cells at once. -/
def ldRf (a : Addr) : Sem Value := loadVar 39 a
theorem ldRf_is (a : Addr) : loadVar 39 a = ldRf a := rfl
theorem run_ldRf (w : World) (g o : Nat) (h : (w.cell? ⟨g, o, none⟩).isSome = true ∧ (w.cell? ⟨g, o + 1, none⟩).isSome = true ∧ (w.cell? ⟨g, o + 2, none⟩).isSome = true ∧ (w.cell? ⟨g, o + 3, none⟩).isSome = true ∧ (w.cell? ⟨g, o + 4, none⟩).isSome = true ∧ (w.cell? ⟨g, o + 5, none⟩).isSome = true ∧ (w.cell? ⟨g, o + 6, none⟩).isSome = true ∧ (w.cell? ⟨g, o + 7, none⟩).isSome = true ∧ (w.cell? ⟨g, o + 8, none⟩).isSome = true ∧ (w.cell? ⟨g, o + 9, none⟩).isSome = true ∧ (w.cell? ⟨g, o + 10, none⟩).isSome = true ∧ (w.cell? ⟨g, o + 11, none⟩).isSome = true) : (ldRf ⟨g, o, none⟩).run Try.prog w = .ok (.agg (List.toArray ((w.cell? ⟨g, o, none⟩).getD undef :: (w.cell? ⟨g, o + 1, none⟩).getD undef :: (w.cell? ⟨g, o + 2, none⟩).getD undef :: (w.cell? ⟨g, o + 3, none⟩).getD undef :: (w.cell? ⟨g, o + 4, none⟩).getD undef :: (w.cell? ⟨g, o + 5, none⟩).getD undef :: (w.cell? ⟨g, o + 6, none⟩).getD undef :: (w.cell? ⟨g, o + 7, none⟩).getD undef :: (w.cell? ⟨g, o + 8, none⟩).getD undef :: (w.cell? ⟨g, o + 9, none⟩).getD undef :: (w.cell? ⟨g, o + 10, none⟩).getD undef :: (w.cell? ⟨g, o + 11, none⟩).getD undef :: []))) w := by
  obtain ⟨h0, h1, h2, h3, h4, h5, h6, h7, h8, h9, h10, h11⟩ := h
  refine run_loadVar_mid w g o 39 ((w.cell? ⟨g, o, none⟩).getD undef :: (w.cell? ⟨g, o + 1, none⟩).getD undef :: (w.cell? ⟨g, o + 2, none⟩).getD undef :: (w.cell? ⟨g, o + 3, none⟩).getD undef :: (w.cell? ⟨g, o + 4, none⟩).getD undef :: (w.cell? ⟨g, o + 5, none⟩).getD undef :: (w.cell? ⟨g, o + 6, none⟩).getD undef :: (w.cell? ⟨g, o + 7, none⟩).getD undef :: (w.cell? ⟨g, o + 8, none⟩).getD undef :: (w.cell? ⟨g, o + 9, none⟩).getD undef :: (w.cell? ⟨g, o + 10, none⟩).getD undef :: (w.cell? ⟨g, o + 11, none⟩).getD undef :: []) _ ?_ Try.underlying39 rfl (by kernel_rfl)
  intro j v hv
  have hj : j < 12 := (List.getElem?_eq_some_iff.1 hv).1
  have key : ∀ (x : Addr), (w.cell? x).isSome = true → w.cell? x = some ((w.cell? x).getD undef) := fun x hx => by
    obtain ⟨u, hu⟩ := Option.isSome_iff_exists.1 hx
    rw [hu]; rfl
  match j, hj with
  | 0, _ => injection hv with hv; subst hv; exact key _ h0
  | 1, _ => injection hv with hv; subst hv; exact key _ h1
  | 2, _ => injection hv with hv; subst hv; exact key _ h2
  | 3, _ => injection hv with hv; subst hv; exact key _ h3
  | 4, _ => injection hv with hv; subst hv; exact key _ h4
  | 5, _ => injection hv with hv; subst hv; exact key _ h5
  | 6, _ => injection hv with hv; subst hv; exact key _ h6
  | 7, _ => injection hv with hv; subst hv; exact key _ h7
  | 8, _ => injection hv with hv; subst hv; exact key _ h8
  | 9, _ => injection hv with hv; subst hv; exact key _ h9
  | 10, _ => injection hv with hv; subst hv; exact key _ h10
  | 11, _ => injection hv with hv; subst hv; exact key _ h11
  | j + 12, hj => exact absurd hj (by omega)
/-- A store of 12 cells at once, into a block that was just made. -/
def stRf (a : Addr) (v : Value) : Sem Unit := storeVar 39 a v
theorem stRf_is (a : Addr) (v : Value) : storeVar 39 a v = stRf a v := rfl
theorem run_stRf (w : World) (t : TypeId) (zs cs : Array Value) (g : Nat) (hg : g = w.heap.size) (hc : cs.size = 12) (hz : zs.size = 12) (h1 : cs.all (·.oneCell') = true) :
    (stRf ⟨g, 0, none⟩ (.agg cs)).run Try.prog (w.alloc (.cells zs t)) = .ok () (w.alloc (.cells cs t)) :=
  run_store_new w 39 t zs cs g hg (hc.trans hz.symm) (by rw [hc]; kernel_rfl) h1
theorem run_stRf_there (w : World) (cs : Array Value) (g o : Nat) (ht : w.there g o 12) (hc : cs.size = 12) (h1 : cs.all (·.oneCell') = true) :
    (stRf ⟨g, o, none⟩ (.agg cs)).run Try.prog w = .ok () (w.setCells g o cs.toList) :=
  run_storeVar_mid w g o 39 cs (hc ▸ ht) (by rw [hc]; kernel_rfl) h1
/-- A load of 37 cells at once. -/
def ldTn (a : Addr) : Sem Value := loadVar 38 a
theorem ldTn_is (a : Addr) : loadVar 38 a = ldTn a := rfl
theorem run_ldTn (w : World) (g o : Nat) (h : (w.cell? ⟨g, o, none⟩).isSome = true ∧ (w.cell? ⟨g, o + 1, none⟩).isSome = true ∧ (w.cell? ⟨g, o + 2, none⟩).isSome = true ∧ (w.cell? ⟨g, o + 3, none⟩).isSome = true ∧ (w.cell? ⟨g, o + 4, none⟩).isSome = true ∧ (w.cell? ⟨g, o + 5, none⟩).isSome = true ∧ (w.cell? ⟨g, o + 6, none⟩).isSome = true ∧ (w.cell? ⟨g, o + 7, none⟩).isSome = true ∧ (w.cell? ⟨g, o + 8, none⟩).isSome = true ∧ (w.cell? ⟨g, o + 9, none⟩).isSome = true ∧ (w.cell? ⟨g, o + 10, none⟩).isSome = true ∧ (w.cell? ⟨g, o + 11, none⟩).isSome = true ∧ (w.cell? ⟨g, o + 12, none⟩).isSome = true ∧ (w.cell? ⟨g, o + 13, none⟩).isSome = true ∧ (w.cell? ⟨g, o + 14, none⟩).isSome = true ∧ (w.cell? ⟨g, o + 15, none⟩).isSome = true ∧ (w.cell? ⟨g, o + 16, none⟩).isSome = true ∧ (w.cell? ⟨g, o + 17, none⟩).isSome = true ∧ (w.cell? ⟨g, o + 18, none⟩).isSome = true ∧ (w.cell? ⟨g, o + 19, none⟩).isSome = true ∧ (w.cell? ⟨g, o + 20, none⟩).isSome = true ∧ (w.cell? ⟨g, o + 21, none⟩).isSome = true ∧ (w.cell? ⟨g, o + 22, none⟩).isSome = true ∧ (w.cell? ⟨g, o + 23, none⟩).isSome = true ∧ (w.cell? ⟨g, o + 24, none⟩).isSome = true ∧ (w.cell? ⟨g, o + 25, none⟩).isSome = true ∧ (w.cell? ⟨g, o + 26, none⟩).isSome = true ∧ (w.cell? ⟨g, o + 27, none⟩).isSome = true ∧ (w.cell? ⟨g, o + 28, none⟩).isSome = true ∧ (w.cell? ⟨g, o + 29, none⟩).isSome = true ∧ (w.cell? ⟨g, o + 30, none⟩).isSome = true ∧ (w.cell? ⟨g, o + 31, none⟩).isSome = true ∧ (w.cell? ⟨g, o + 32, none⟩).isSome = true ∧ (w.cell? ⟨g, o + 33, none⟩).isSome = true ∧ (w.cell? ⟨g, o + 34, none⟩).isSome = true ∧ (w.cell? ⟨g, o + 35, none⟩).isSome = true ∧ (w.cell? ⟨g, o + 36, none⟩).isSome = true) : (ldTn ⟨g, o, none⟩).run Try.prog w = .ok (.agg (List.toArray ((w.cell? ⟨g, o, none⟩).getD undef :: (w.cell? ⟨g, o + 1, none⟩).getD undef :: (w.cell? ⟨g, o + 2, none⟩).getD undef :: (w.cell? ⟨g, o + 3, none⟩).getD undef :: (w.cell? ⟨g, o + 4, none⟩).getD undef :: (w.cell? ⟨g, o + 5, none⟩).getD undef :: (w.cell? ⟨g, o + 6, none⟩).getD undef :: (w.cell? ⟨g, o + 7, none⟩).getD undef :: (w.cell? ⟨g, o + 8, none⟩).getD undef :: (w.cell? ⟨g, o + 9, none⟩).getD undef :: (w.cell? ⟨g, o + 10, none⟩).getD undef :: (w.cell? ⟨g, o + 11, none⟩).getD undef :: (w.cell? ⟨g, o + 12, none⟩).getD undef :: (w.cell? ⟨g, o + 13, none⟩).getD undef :: (w.cell? ⟨g, o + 14, none⟩).getD undef :: (w.cell? ⟨g, o + 15, none⟩).getD undef :: (w.cell? ⟨g, o + 16, none⟩).getD undef :: (w.cell? ⟨g, o + 17, none⟩).getD undef :: (w.cell? ⟨g, o + 18, none⟩).getD undef :: (w.cell? ⟨g, o + 19, none⟩).getD undef :: (w.cell? ⟨g, o + 20, none⟩).getD undef :: (w.cell? ⟨g, o + 21, none⟩).getD undef :: (w.cell? ⟨g, o + 22, none⟩).getD undef :: (w.cell? ⟨g, o + 23, none⟩).getD undef :: (w.cell? ⟨g, o + 24, none⟩).getD undef :: (w.cell? ⟨g, o + 25, none⟩).getD undef :: (w.cell? ⟨g, o + 26, none⟩).getD undef :: (w.cell? ⟨g, o + 27, none⟩).getD undef :: (w.cell? ⟨g, o + 28, none⟩).getD undef :: (w.cell? ⟨g, o + 29, none⟩).getD undef :: (w.cell? ⟨g, o + 30, none⟩).getD undef :: (w.cell? ⟨g, o + 31, none⟩).getD undef :: (w.cell? ⟨g, o + 32, none⟩).getD undef :: (w.cell? ⟨g, o + 33, none⟩).getD undef :: (w.cell? ⟨g, o + 34, none⟩).getD undef :: (w.cell? ⟨g, o + 35, none⟩).getD undef :: (w.cell? ⟨g, o + 36, none⟩).getD undef :: []))) w := by
  obtain ⟨h0, h1, h2, h3, h4, h5, h6, h7, h8, h9, h10, h11, h12, h13, h14, h15, h16, h17, h18, h19, h20, h21, h22, h23, h24, h25, h26, h27, h28, h29, h30, h31, h32, h33, h34, h35, h36⟩ := h
  refine run_loadVar_mid w g o 38 ((w.cell? ⟨g, o, none⟩).getD undef :: (w.cell? ⟨g, o + 1, none⟩).getD undef :: (w.cell? ⟨g, o + 2, none⟩).getD undef :: (w.cell? ⟨g, o + 3, none⟩).getD undef :: (w.cell? ⟨g, o + 4, none⟩).getD undef :: (w.cell? ⟨g, o + 5, none⟩).getD undef :: (w.cell? ⟨g, o + 6, none⟩).getD undef :: (w.cell? ⟨g, o + 7, none⟩).getD undef :: (w.cell? ⟨g, o + 8, none⟩).getD undef :: (w.cell? ⟨g, o + 9, none⟩).getD undef :: (w.cell? ⟨g, o + 10, none⟩).getD undef :: (w.cell? ⟨g, o + 11, none⟩).getD undef :: (w.cell? ⟨g, o + 12, none⟩).getD undef :: (w.cell? ⟨g, o + 13, none⟩).getD undef :: (w.cell? ⟨g, o + 14, none⟩).getD undef :: (w.cell? ⟨g, o + 15, none⟩).getD undef :: (w.cell? ⟨g, o + 16, none⟩).getD undef :: (w.cell? ⟨g, o + 17, none⟩).getD undef :: (w.cell? ⟨g, o + 18, none⟩).getD undef :: (w.cell? ⟨g, o + 19, none⟩).getD undef :: (w.cell? ⟨g, o + 20, none⟩).getD undef :: (w.cell? ⟨g, o + 21, none⟩).getD undef :: (w.cell? ⟨g, o + 22, none⟩).getD undef :: (w.cell? ⟨g, o + 23, none⟩).getD undef :: (w.cell? ⟨g, o + 24, none⟩).getD undef :: (w.cell? ⟨g, o + 25, none⟩).getD undef :: (w.cell? ⟨g, o + 26, none⟩).getD undef :: (w.cell? ⟨g, o + 27, none⟩).getD undef :: (w.cell? ⟨g, o + 28, none⟩).getD undef :: (w.cell? ⟨g, o + 29, none⟩).getD undef :: (w.cell? ⟨g, o + 30, none⟩).getD undef :: (w.cell? ⟨g, o + 31, none⟩).getD undef :: (w.cell? ⟨g, o + 32, none⟩).getD undef :: (w.cell? ⟨g, o + 33, none⟩).getD undef :: (w.cell? ⟨g, o + 34, none⟩).getD undef :: (w.cell? ⟨g, o + 35, none⟩).getD undef :: (w.cell? ⟨g, o + 36, none⟩).getD undef :: []) _ ?_ Try.underlying38 rfl (by kernel_rfl)
  intro j v hv
  have hj : j < 37 := (List.getElem?_eq_some_iff.1 hv).1
  have key : ∀ (x : Addr), (w.cell? x).isSome = true → w.cell? x = some ((w.cell? x).getD undef) := fun x hx => by
    obtain ⟨u, hu⟩ := Option.isSome_iff_exists.1 hx
    rw [hu]; rfl
  match j, hj with
  | 0, _ => injection hv with hv; subst hv; exact key _ h0
  | 1, _ => injection hv with hv; subst hv; exact key _ h1
  | 2, _ => injection hv with hv; subst hv; exact key _ h2
  | 3, _ => injection hv with hv; subst hv; exact key _ h3
  | 4, _ => injection hv with hv; subst hv; exact key _ h4
  | 5, _ => injection hv with hv; subst hv; exact key _ h5
  | 6, _ => injection hv with hv; subst hv; exact key _ h6
  | 7, _ => injection hv with hv; subst hv; exact key _ h7
  | 8, _ => injection hv with hv; subst hv; exact key _ h8
  | 9, _ => injection hv with hv; subst hv; exact key _ h9
  | 10, _ => injection hv with hv; subst hv; exact key _ h10
  | 11, _ => injection hv with hv; subst hv; exact key _ h11
  | 12, _ => injection hv with hv; subst hv; exact key _ h12
  | 13, _ => injection hv with hv; subst hv; exact key _ h13
  | 14, _ => injection hv with hv; subst hv; exact key _ h14
  | 15, _ => injection hv with hv; subst hv; exact key _ h15
  | 16, _ => injection hv with hv; subst hv; exact key _ h16
  | 17, _ => injection hv with hv; subst hv; exact key _ h17
  | 18, _ => injection hv with hv; subst hv; exact key _ h18
  | 19, _ => injection hv with hv; subst hv; exact key _ h19
  | 20, _ => injection hv with hv; subst hv; exact key _ h20
  | 21, _ => injection hv with hv; subst hv; exact key _ h21
  | 22, _ => injection hv with hv; subst hv; exact key _ h22
  | 23, _ => injection hv with hv; subst hv; exact key _ h23
  | 24, _ => injection hv with hv; subst hv; exact key _ h24
  | 25, _ => injection hv with hv; subst hv; exact key _ h25
  | 26, _ => injection hv with hv; subst hv; exact key _ h26
  | 27, _ => injection hv with hv; subst hv; exact key _ h27
  | 28, _ => injection hv with hv; subst hv; exact key _ h28
  | 29, _ => injection hv with hv; subst hv; exact key _ h29
  | 30, _ => injection hv with hv; subst hv; exact key _ h30
  | 31, _ => injection hv with hv; subst hv; exact key _ h31
  | 32, _ => injection hv with hv; subst hv; exact key _ h32
  | 33, _ => injection hv with hv; subst hv; exact key _ h33
  | 34, _ => injection hv with hv; subst hv; exact key _ h34
  | 35, _ => injection hv with hv; subst hv; exact key _ h35
  | 36, _ => injection hv with hv; subst hv; exact key _ h36
  | j + 37, hj => exact absurd hj (by omega)
/-- A store of 37 cells at once, into a block that was just made. -/
def stTn (a : Addr) (v : Value) : Sem Unit := storeVar 38 a v
theorem stTn_is (a : Addr) (v : Value) : storeVar 38 a v = stTn a v := rfl
theorem run_stTn (w : World) (t : TypeId) (zs cs : Array Value) (g : Nat) (hg : g = w.heap.size) (hc : cs.size = 37) (hz : zs.size = 37) (h1 : cs.all (·.oneCell') = true) :
    (stTn ⟨g, 0, none⟩ (.agg cs)).run Try.prog (w.alloc (.cells zs t)) = .ok () (w.alloc (.cells cs t)) :=
  run_store_new w 38 t zs cs g hg (hc.trans hz.symm) (by rw [hc]; kernel_rfl) h1
theorem run_stTn_there (w : World) (cs : Array Value) (g o : Nat) (ht : w.there g o 37) (hc : cs.size = 37) (h1 : cs.all (·.oneCell') = true) :
    (stTn ⟨g, o, none⟩ (.agg cs)).run Try.prog w = .ok () (w.setCells g o cs.toList) :=
  run_storeVar_mid w g o 38 cs (hc ▸ ht) (by rw [hc]; kernel_rfl) h1
/-- A load of 37 cells at once. -/
def ldRn (a : Addr) : Sem Value := loadVar 64 a
theorem ldRn_is (a : Addr) : loadVar 64 a = ldRn a := rfl
theorem run_ldRn (w : World) (g o : Nat) (h : (w.cell? ⟨g, o, none⟩).isSome = true ∧ (w.cell? ⟨g, o + 1, none⟩).isSome = true ∧ (w.cell? ⟨g, o + 2, none⟩).isSome = true ∧ (w.cell? ⟨g, o + 3, none⟩).isSome = true ∧ (w.cell? ⟨g, o + 4, none⟩).isSome = true ∧ (w.cell? ⟨g, o + 5, none⟩).isSome = true ∧ (w.cell? ⟨g, o + 6, none⟩).isSome = true ∧ (w.cell? ⟨g, o + 7, none⟩).isSome = true ∧ (w.cell? ⟨g, o + 8, none⟩).isSome = true ∧ (w.cell? ⟨g, o + 9, none⟩).isSome = true ∧ (w.cell? ⟨g, o + 10, none⟩).isSome = true ∧ (w.cell? ⟨g, o + 11, none⟩).isSome = true ∧ (w.cell? ⟨g, o + 12, none⟩).isSome = true ∧ (w.cell? ⟨g, o + 13, none⟩).isSome = true ∧ (w.cell? ⟨g, o + 14, none⟩).isSome = true ∧ (w.cell? ⟨g, o + 15, none⟩).isSome = true ∧ (w.cell? ⟨g, o + 16, none⟩).isSome = true ∧ (w.cell? ⟨g, o + 17, none⟩).isSome = true ∧ (w.cell? ⟨g, o + 18, none⟩).isSome = true ∧ (w.cell? ⟨g, o + 19, none⟩).isSome = true ∧ (w.cell? ⟨g, o + 20, none⟩).isSome = true ∧ (w.cell? ⟨g, o + 21, none⟩).isSome = true ∧ (w.cell? ⟨g, o + 22, none⟩).isSome = true ∧ (w.cell? ⟨g, o + 23, none⟩).isSome = true ∧ (w.cell? ⟨g, o + 24, none⟩).isSome = true ∧ (w.cell? ⟨g, o + 25, none⟩).isSome = true ∧ (w.cell? ⟨g, o + 26, none⟩).isSome = true ∧ (w.cell? ⟨g, o + 27, none⟩).isSome = true ∧ (w.cell? ⟨g, o + 28, none⟩).isSome = true ∧ (w.cell? ⟨g, o + 29, none⟩).isSome = true ∧ (w.cell? ⟨g, o + 30, none⟩).isSome = true ∧ (w.cell? ⟨g, o + 31, none⟩).isSome = true ∧ (w.cell? ⟨g, o + 32, none⟩).isSome = true ∧ (w.cell? ⟨g, o + 33, none⟩).isSome = true ∧ (w.cell? ⟨g, o + 34, none⟩).isSome = true ∧ (w.cell? ⟨g, o + 35, none⟩).isSome = true ∧ (w.cell? ⟨g, o + 36, none⟩).isSome = true) : (ldRn ⟨g, o, none⟩).run Try.prog w = .ok (.agg (List.toArray ((w.cell? ⟨g, o, none⟩).getD undef :: (w.cell? ⟨g, o + 1, none⟩).getD undef :: (w.cell? ⟨g, o + 2, none⟩).getD undef :: (w.cell? ⟨g, o + 3, none⟩).getD undef :: (w.cell? ⟨g, o + 4, none⟩).getD undef :: (w.cell? ⟨g, o + 5, none⟩).getD undef :: (w.cell? ⟨g, o + 6, none⟩).getD undef :: (w.cell? ⟨g, o + 7, none⟩).getD undef :: (w.cell? ⟨g, o + 8, none⟩).getD undef :: (w.cell? ⟨g, o + 9, none⟩).getD undef :: (w.cell? ⟨g, o + 10, none⟩).getD undef :: (w.cell? ⟨g, o + 11, none⟩).getD undef :: (w.cell? ⟨g, o + 12, none⟩).getD undef :: (w.cell? ⟨g, o + 13, none⟩).getD undef :: (w.cell? ⟨g, o + 14, none⟩).getD undef :: (w.cell? ⟨g, o + 15, none⟩).getD undef :: (w.cell? ⟨g, o + 16, none⟩).getD undef :: (w.cell? ⟨g, o + 17, none⟩).getD undef :: (w.cell? ⟨g, o + 18, none⟩).getD undef :: (w.cell? ⟨g, o + 19, none⟩).getD undef :: (w.cell? ⟨g, o + 20, none⟩).getD undef :: (w.cell? ⟨g, o + 21, none⟩).getD undef :: (w.cell? ⟨g, o + 22, none⟩).getD undef :: (w.cell? ⟨g, o + 23, none⟩).getD undef :: (w.cell? ⟨g, o + 24, none⟩).getD undef :: (w.cell? ⟨g, o + 25, none⟩).getD undef :: (w.cell? ⟨g, o + 26, none⟩).getD undef :: (w.cell? ⟨g, o + 27, none⟩).getD undef :: (w.cell? ⟨g, o + 28, none⟩).getD undef :: (w.cell? ⟨g, o + 29, none⟩).getD undef :: (w.cell? ⟨g, o + 30, none⟩).getD undef :: (w.cell? ⟨g, o + 31, none⟩).getD undef :: (w.cell? ⟨g, o + 32, none⟩).getD undef :: (w.cell? ⟨g, o + 33, none⟩).getD undef :: (w.cell? ⟨g, o + 34, none⟩).getD undef :: (w.cell? ⟨g, o + 35, none⟩).getD undef :: (w.cell? ⟨g, o + 36, none⟩).getD undef :: []))) w := by
  obtain ⟨h0, h1, h2, h3, h4, h5, h6, h7, h8, h9, h10, h11, h12, h13, h14, h15, h16, h17, h18, h19, h20, h21, h22, h23, h24, h25, h26, h27, h28, h29, h30, h31, h32, h33, h34, h35, h36⟩ := h
  refine run_loadVar_mid w g o 64 ((w.cell? ⟨g, o, none⟩).getD undef :: (w.cell? ⟨g, o + 1, none⟩).getD undef :: (w.cell? ⟨g, o + 2, none⟩).getD undef :: (w.cell? ⟨g, o + 3, none⟩).getD undef :: (w.cell? ⟨g, o + 4, none⟩).getD undef :: (w.cell? ⟨g, o + 5, none⟩).getD undef :: (w.cell? ⟨g, o + 6, none⟩).getD undef :: (w.cell? ⟨g, o + 7, none⟩).getD undef :: (w.cell? ⟨g, o + 8, none⟩).getD undef :: (w.cell? ⟨g, o + 9, none⟩).getD undef :: (w.cell? ⟨g, o + 10, none⟩).getD undef :: (w.cell? ⟨g, o + 11, none⟩).getD undef :: (w.cell? ⟨g, o + 12, none⟩).getD undef :: (w.cell? ⟨g, o + 13, none⟩).getD undef :: (w.cell? ⟨g, o + 14, none⟩).getD undef :: (w.cell? ⟨g, o + 15, none⟩).getD undef :: (w.cell? ⟨g, o + 16, none⟩).getD undef :: (w.cell? ⟨g, o + 17, none⟩).getD undef :: (w.cell? ⟨g, o + 18, none⟩).getD undef :: (w.cell? ⟨g, o + 19, none⟩).getD undef :: (w.cell? ⟨g, o + 20, none⟩).getD undef :: (w.cell? ⟨g, o + 21, none⟩).getD undef :: (w.cell? ⟨g, o + 22, none⟩).getD undef :: (w.cell? ⟨g, o + 23, none⟩).getD undef :: (w.cell? ⟨g, o + 24, none⟩).getD undef :: (w.cell? ⟨g, o + 25, none⟩).getD undef :: (w.cell? ⟨g, o + 26, none⟩).getD undef :: (w.cell? ⟨g, o + 27, none⟩).getD undef :: (w.cell? ⟨g, o + 28, none⟩).getD undef :: (w.cell? ⟨g, o + 29, none⟩).getD undef :: (w.cell? ⟨g, o + 30, none⟩).getD undef :: (w.cell? ⟨g, o + 31, none⟩).getD undef :: (w.cell? ⟨g, o + 32, none⟩).getD undef :: (w.cell? ⟨g, o + 33, none⟩).getD undef :: (w.cell? ⟨g, o + 34, none⟩).getD undef :: (w.cell? ⟨g, o + 35, none⟩).getD undef :: (w.cell? ⟨g, o + 36, none⟩).getD undef :: []) _ ?_ Try.underlying64 rfl (by kernel_rfl)
  intro j v hv
  have hj : j < 37 := (List.getElem?_eq_some_iff.1 hv).1
  have key : ∀ (x : Addr), (w.cell? x).isSome = true → w.cell? x = some ((w.cell? x).getD undef) := fun x hx => by
    obtain ⟨u, hu⟩ := Option.isSome_iff_exists.1 hx
    rw [hu]; rfl
  match j, hj with
  | 0, _ => injection hv with hv; subst hv; exact key _ h0
  | 1, _ => injection hv with hv; subst hv; exact key _ h1
  | 2, _ => injection hv with hv; subst hv; exact key _ h2
  | 3, _ => injection hv with hv; subst hv; exact key _ h3
  | 4, _ => injection hv with hv; subst hv; exact key _ h4
  | 5, _ => injection hv with hv; subst hv; exact key _ h5
  | 6, _ => injection hv with hv; subst hv; exact key _ h6
  | 7, _ => injection hv with hv; subst hv; exact key _ h7
  | 8, _ => injection hv with hv; subst hv; exact key _ h8
  | 9, _ => injection hv with hv; subst hv; exact key _ h9
  | 10, _ => injection hv with hv; subst hv; exact key _ h10
  | 11, _ => injection hv with hv; subst hv; exact key _ h11
  | 12, _ => injection hv with hv; subst hv; exact key _ h12
  | 13, _ => injection hv with hv; subst hv; exact key _ h13
  | 14, _ => injection hv with hv; subst hv; exact key _ h14
  | 15, _ => injection hv with hv; subst hv; exact key _ h15
  | 16, _ => injection hv with hv; subst hv; exact key _ h16
  | 17, _ => injection hv with hv; subst hv; exact key _ h17
  | 18, _ => injection hv with hv; subst hv; exact key _ h18
  | 19, _ => injection hv with hv; subst hv; exact key _ h19
  | 20, _ => injection hv with hv; subst hv; exact key _ h20
  | 21, _ => injection hv with hv; subst hv; exact key _ h21
  | 22, _ => injection hv with hv; subst hv; exact key _ h22
  | 23, _ => injection hv with hv; subst hv; exact key _ h23
  | 24, _ => injection hv with hv; subst hv; exact key _ h24
  | 25, _ => injection hv with hv; subst hv; exact key _ h25
  | 26, _ => injection hv with hv; subst hv; exact key _ h26
  | 27, _ => injection hv with hv; subst hv; exact key _ h27
  | 28, _ => injection hv with hv; subst hv; exact key _ h28
  | 29, _ => injection hv with hv; subst hv; exact key _ h29
  | 30, _ => injection hv with hv; subst hv; exact key _ h30
  | 31, _ => injection hv with hv; subst hv; exact key _ h31
  | 32, _ => injection hv with hv; subst hv; exact key _ h32
  | 33, _ => injection hv with hv; subst hv; exact key _ h33
  | 34, _ => injection hv with hv; subst hv; exact key _ h34
  | 35, _ => injection hv with hv; subst hv; exact key _ h35
  | 36, _ => injection hv with hv; subst hv; exact key _ h36
  | j + 37, hj => exact absurd hj (by omega)
/-- A store of 37 cells at once, into a block that was just made. -/
def stRn (a : Addr) (v : Value) : Sem Unit := storeVar 64 a v
theorem stRn_is (a : Addr) (v : Value) : storeVar 64 a v = stRn a v := rfl
theorem run_stRn (w : World) (t : TypeId) (zs cs : Array Value) (g : Nat) (hg : g = w.heap.size) (hc : cs.size = 37) (hz : zs.size = 37) (h1 : cs.all (·.oneCell') = true) :
    (stRn ⟨g, 0, none⟩ (.agg cs)).run Try.prog (w.alloc (.cells zs t)) = .ok () (w.alloc (.cells cs t)) :=
  run_store_new w 64 t zs cs g hg (hc.trans hz.symm) (by rw [hc]; kernel_rfl) h1
theorem run_stRn_there (w : World) (cs : Array Value) (g o : Nat) (ht : w.there g o 37) (hc : cs.size = 37) (h1 : cs.all (·.oneCell') = true) :
    (stRn ⟨g, o, none⟩ (.agg cs)).run Try.prog w = .ok () (w.setCells g o cs.toList) :=
  run_storeVar_mid w g o 64 cs (hc ▸ ht) (by rw [hc]; kernel_rfl) h1
end Go.Proofs.Ytjghdbkkjhnpfaa
/- The contract of thread.Same. -/
namespace Go.Proofs.Ytjghdbkkjhnpfaa
open Go.RowKit Go.Sort
set_option linter.unusedVariables false

attribute [local go_sem ↓] ldTh_is
attribute [local go_sem] run_ldTh

theorem info_int : ∃ i, Try.prog.info? 3 = some i := by
  have h : (Try.prog.info? 3).isSome = true := by kernel_rfl
  exact Option.isSome_iff_exists.1 h
theorem cells_int : Try.prog.cellsOf 3 = 1 := by kernel_rfl
theorem eql_op (t v t' v' : Int) (u : World) : (binOp .eql 29 (.agg #[.int .i64 t, .int .i64 v]) (.agg #[.int .i64 t', .int .i64 v'])).run Try.prog u = .ok (.bool (decide (t = t' ∧ v = v'))) u := by
  by_cases h : t = t'
  · by_cases h' : v = v'
    · simp [go_sem, h, h']
    · simp [go_sem, h, h']
  · simp [go_sem, h]

end Go.Proofs.Ytjghdbkkjhnpfaa
/- Contracts of New, Busy, Late, until, of the program and of the document. -/
namespace Go.Proofs.Ytjghdbkkjhnpfaa
open Go.RowKit Go.Sort
set_option linter.unusedVariables false

attribute [local go_sem ↓] ldTh_is
attribute [local go_sem] run_ldTh
attribute [local go_sem ↓] ldRh_is
attribute [local go_sem] run_ldRh

attribute [local go_sem ↓] stTh_is
attribute [local go_sem] run_stTh run_stTh_there
attribute [local go_sem ↓] stRh_is
attribute [local go_sem] run_stRh run_stRh_there
attribute [local go_sem] one_int one_slice one_bool th_drew th_old th_new

/-- Is it late? -/
def lateB (un now : Int) : Bool := decide (0 < un) && decide (un ≤ now)
/-- Until when it waits. -/
def untilV (now wt : Int) : Int := if wt ≤ 0 then 0 else wrap64 (now + wt)
/-- What begins. -/
def newD : Dt := ⟨0, 0, 0, 0, [], [], [], 0, 0, 0, 0, 0, 1, 0, 0, 0, 0⟩
def newA : Ad := ⟨none, 0, none, 0, none, 0⟩
def begD (D wt t wd it tg v now : Int) : Dt := ⟨1, it, tg, v, [(t, tg, v)], [], [], 0, leafV D t, 0, 0, 0, wd, 0, 0, 0, untilV now wt⟩
def NewPost (w : World) (e : Ending) (w' : World) : Prop := e = .returned (.agg #[.int .i64 0, .int .i64 0, .int .i64 0, .int .i64 0, .slice none 0 0, .slice none 0 0, .slice none 0 0, .int .i64 0, .int .i64 0, .int .i64 0, .int .i64 0, .int .i64 0, .int .i64 1, .int .i64 0, .int .i64 0, .int .i64 0, .int .i64 0]) ∧ Below w.heap.size w w'
theorem newAt (w : World) : ThAt w newD newA := ⟨Sees.empty, Sees.empty, Sees.empty⟩
theorem newOk : DtOk newD := ⟨by decide, by decide, by decide⟩

set_option maxRecDepth 100000 in
set_option maxHeartbeats 4000000 in
theorem late_any (now un : Int) (k0 k1 k2 k3 k4 k5 k6 k7 k8 k9 k10 k11 k12 k14 k15 k16 k17 k18 k19 k20 k21 k22 k23 k24 k25 k26 k27 k28 k29 k30 k31 k33 k34 k35 k36 : Value) (w : World) : Calls Try.prog 20 #[.agg (List.toArray (k0 :: k1 :: k2 :: k3 :: k4 :: k5 :: k6 :: k7 :: k8 :: k9 :: k10 :: k11 :: k12 :: .int .i64 now :: k14 :: k15 :: k16 :: k17 :: k18 :: k19 :: k20 :: k21 :: k22 :: k23 :: k24 :: k25 :: k26 :: k27 :: k28 :: k29 :: k30 :: k31 :: .int .i64 un :: k33 :: k34 :: k35 :: k36 :: []))] w (BoolPost (lateB un now) w) := by
  by_cases h : 0 < un
  · have HL : Hid (lateB un now = decide (un ≤ now)) := hide (by simp [lateB, h])
    go_enter Try.func20, Try.ntmps20
    go_wp2
    go_ret
    exact ⟨ret_b HL.out, (Below.refl _ w).alloc (Nat.le_refl _) _⟩
  · have HL : Hid (lateB un now = false) := hide (by simp [lateB, h])
    go_enter Try.func20, Try.ntmps20
    go_wp2
    go_ret
    exact ⟨ret_b HL.out, (Below.refl _ w).alloc (Nat.le_refl _) _⟩

end Go.Proofs.Ytjghdbkkjhnpfaa
/- Contracts of Begin, of the program and of the document. -/
namespace Go.Proofs.Ytjghdbkkjhnpfaa
open Go.RowKit Go.Sort
set_option linter.unusedVariables false

attribute [local go_sem ↓] ldTh_is
attribute [local go_sem] run_ldTh
attribute [local go_sem ↓] ldRh_is
attribute [local go_sem] run_ldRh

attribute [local go_sem ↓] stTh_is
attribute [local go_sem] run_stTh run_stTh_there
attribute [local go_sem ↓] stRh_is
attribute [local go_sem] run_stRh run_stRh_there
attribute [local go_sem] one_int one_slice one_bool th_drew th_old th_new

/-- A thread that begins: its batch is one entry, in a new row. -/
def BegPost (D wt t wd it tg v now : Int) (w : World) (e : Ending) (w' : World) : Prop :=
  ∃ A, e = .returned (.agg #[.int .i64 1, .int .i64 it, .int .i64 tg, .int .i64 v, .slice A 1 1, .slice none 0 0, .slice none 0 0, .int .i64 0, .int .i64 (leafV D t), .int .i64 0, .int .i64 0, .int .i64 0, .int .i64 wd, .int .i64 0, .int .i64 0, .int .i64 0, .int .i64 (untilV now wt)]) ∧ Sees w' w'.heap.size 3 A 1 (ecells [(t, tg, v)]) ∧ Fresh w A ∧ Below w.heap.size w w'
theorem Sees.setCells {w : World} {sz n : Nat} {A : Option Addr} {xs : List Value} (h : Sees w w.heap.size sz A n xs) (g o : Nat) (hA : ∀ p, A = some p → p.block ≠ g) : ∀ (cs : List Value) (o : Nat), Sees (w.setCells g o cs) w.heap.size sz A n xs := fun cs o =>
  ⟨h.1, fun hn => by
    obtain ⟨b, off, e, hb, hc⟩ := h.2 hn
    refine ⟨b, off, e, hb, fun j u hu => ?_⟩
    rw [World.cell?_setCells_out g cs o w ⟨b, off + j, none⟩ (fun hb' _ => absurd hb' (hA ⟨b, off, none⟩ e))]
    exact hc j u hu⟩
theorem size_setCells (g : Nat) : ∀ (cs : List Value) (o : Nat) (w : World), (w.setCells g o cs).heap.size = w.heap.size
  | [], _, _ => rfl
  | v :: r, o, w => by rw [World.setCells, size_setCells g r]; simp
theorem below_setCells' {B : Nat} {a : World} {g : Nat} (hg : B ≤ g) : ∀ (cs : List Value) (o : Nat) (w : World), Below B a w → Below B a (w.setCells g o cs)
  | [], _, _, h => h
  | v :: r, o, w, h => by rw [World.setCells]; exact below_setCells' hg r _ _ (h.setCell hg v)
theorem beg_fin {w W : World} {g b n : Nat} {xs : List Value} (cs : List Value) (hn : cs.length = n) (hg : w.heap.size ≤ g) (hgb : b ≠ g) (hw : w.heap.size ≤ b) (hB : Below w.heap.size w W) (ht : W.there g 0 n) (hs : Sees W W.heap.size 3 (some ⟨b, 0, none⟩) 1 xs) :
    (W.setCells g 0 cs).rangeAt g 0 cs ∧ Sees (W.setCells g 0 cs) (W.setCells g 0 cs).heap.size 3 (some ⟨b, 0, none⟩) 1 xs ∧ Fresh w (some ⟨b, 0, none⟩) ∧ Below w.heap.size w (W.setCells g 0 cs) := by
  subst hn
  refine ⟨World.rangeAt_setCells_same W g 0 cs ht, ?_, fun p hp => by cases hp; exact hw, below_setCells' hg cs 0 W hB⟩
  have := hs.setCells g 0 (fun p hp => by cases hp; exact hgb) cs 0
  rwa [← size_setCells g cs 0 W] at this

theorem keepBg {w W W' : World} {D wt wd tg v : Int} (h : W.cell? ⟨w.heap.size, 3, none⟩ = some (.int .i64 D) ∧ W.cell? ⟨w.heap.size, 7, none⟩ = some (.int .i64 wt) ∧ W.cell? ⟨w.heap.size + 1, 12, none⟩ = some (.int .i64 wd) ∧ W.cell? ⟨w.heap.size + 1 + 1, 0, none⟩ = some (.int .i64 tg) ∧ W.cell? ⟨w.heap.size + 1 + 1, 1, none⟩ = some (.int .i64 v) ∧ W.there (w.heap.size + 1 + 1 + 1) 0 17 ∧ Below w.heap.size w W ∧ w.heap.size + 1 + 1 + 1 < W.heap.size) (hb : Below W.heap.size W W') : W'.cell? ⟨w.heap.size, 3, none⟩ = some (.int .i64 D) ∧ W'.cell? ⟨w.heap.size, 7, none⟩ = some (.int .i64 wt) ∧ W'.cell? ⟨w.heap.size + 1, 12, none⟩ = some (.int .i64 wd) ∧ W'.cell? ⟨w.heap.size + 1 + 1, 0, none⟩ = some (.int .i64 tg) ∧ W'.cell? ⟨w.heap.size + 1 + 1, 1, none⟩ = some (.int .i64 v) ∧ W'.there (w.heap.size + 1 + 1 + 1) 0 17 ∧ Below w.heap.size w W' ∧ w.heap.size + 1 + 1 + 1 < W'.heap.size := by
  obtain ⟨h1, h2, h3, h4, h5, h6, h7, h8⟩ := h
  exact ⟨cell_keep h1 hb, cell_keep h2 hb, cell_keep h3 hb, cell_keep h4 hb, cell_keep h5 hb, there_keep' h6 hb, below_next h7 h7.size hb, Nat.lt_of_lt_of_le h8 hb.size⟩
theorem keepSt {w W : World} {D wt wd tg v : Int} (h : W.cell? ⟨w.heap.size, 3, none⟩ = some (.int .i64 D) ∧ W.cell? ⟨w.heap.size, 7, none⟩ = some (.int .i64 wt) ∧ W.cell? ⟨w.heap.size + 1, 12, none⟩ = some (.int .i64 wd) ∧ W.cell? ⟨w.heap.size + 1 + 1, 0, none⟩ = some (.int .i64 tg) ∧ W.cell? ⟨w.heap.size + 1 + 1, 1, none⟩ = some (.int .i64 v) ∧ W.there (w.heap.size + 1 + 1 + 1) 0 17 ∧ Below w.heap.size w W ∧ w.heap.size + 1 + 1 + 1 < W.heap.size) (cs : List Value) : (W.setCells (w.heap.size + 1 + 1 + 1) 0 cs).cell? ⟨w.heap.size, 3, none⟩ = some (.int .i64 D) ∧ (W.setCells (w.heap.size + 1 + 1 + 1) 0 cs).cell? ⟨w.heap.size, 7, none⟩ = some (.int .i64 wt) ∧ (W.setCells (w.heap.size + 1 + 1 + 1) 0 cs).cell? ⟨w.heap.size + 1, 12, none⟩ = some (.int .i64 wd) ∧ (W.setCells (w.heap.size + 1 + 1 + 1) 0 cs).cell? ⟨w.heap.size + 1 + 1, 0, none⟩ = some (.int .i64 tg) ∧ (W.setCells (w.heap.size + 1 + 1 + 1) 0 cs).cell? ⟨w.heap.size + 1 + 1, 1, none⟩ = some (.int .i64 v) ∧ (W.setCells (w.heap.size + 1 + 1 + 1) 0 cs).there (w.heap.size + 1 + 1 + 1) 0 17 ∧ Below w.heap.size w (W.setCells (w.heap.size + 1 + 1 + 1) 0 cs) ∧ w.heap.size + 1 + 1 + 1 < (W.setCells (w.heap.size + 1 + 1 + 1) 0 cs).heap.size := by
  obtain ⟨h1, h2, h3, h4, h5, h6, h7, h8⟩ := h
  have f : ∀ (g o : Nat) (u : Value), g < w.heap.size + 1 + 1 + 1 → W.cell? ⟨g, o, none⟩ = some u → (W.setCells (w.heap.size + 1 + 1 + 1) 0 cs).cell? ⟨g, o, none⟩ = some u := fun g o u hg hu => by
    rw [World.cell?_setCells_out _ _ _ _ _ (fun hb _ => absurd hb (by show g ≠ _; omega))]; exact hu
  exact ⟨f _ _ _ (by omega) h1, f _ _ _ (by omega) h2, f _ _ _ (by omega) h3, f _ _ _ (by omega) h4, f _ _ _ (by omega) h5, World.there_setCells h6 _ _ _, below_setCells' (by omega) _ _ _ h7, by rw [size_setCells]; exact h8⟩
theorem belowA (W : World) (o : Obj) : Below W.heap.size W (W.alloc o) := (Below.refl _ _).alloc (Nat.le_refl _) _
theorem belowAD (W : World) (o : Obj) : Below W.drew.heap.size W.drew (W.alloc o).drew := ((Below.refl _ W.drew).alloc (Nat.le_refl _) o)
theorem seesD (w : World) (xs : List Value) (t : TypeId) (sz n : Nat) (h : xs.length = n * sz) : Sees (w.alloc (.cells xs.toArray t)).drew (w.alloc (.cells xs.toArray t)).drew.heap.size sz (some ⟨w.heap.size, 0, none⟩) n xs := sees_new w xs t sz n h
theorem belowD (W : World) : Below W.heap.size W W.drew := (Below.refl _ _).drew
end Go.Proofs.Ytjghdbkkjhnpfaa
/- The contract of the document's Begin. -/
namespace Go.Proofs.Ytjghdbkkjhnpfaa
open Go.RowKit Go.Sort
set_option linter.unusedVariables false

attribute [local go_sem ↓] ldTh_is
attribute [local go_sem] run_ldTh
attribute [local go_sem ↓] ldRh_is
attribute [local go_sem] run_ldRh

attribute [local go_sem ↓] stTh_is
attribute [local go_sem] run_stTh run_stTh_there
attribute [local go_sem ↓] stRh_is
attribute [local go_sem] run_stRh run_stRh_there
attribute [local go_sem] one_int one_slice one_bool th_drew th_old th_new

/-- How things lie when 'out' is made: its block, its batch's. -/
def OutAt (w : World) (D wt t wd it tg v u : Int) (p : Value) (wc : World) : Prop :=
  ∃ k b, p = .pointer (some ⟨k, 0, none⟩) ∧ wc.rangeAt k 0 [.int .i64 1, .int .i64 it, .int .i64 tg, .int .i64 v, .slice (some ⟨b, 0, none⟩) 1 1, .slice none 0 0, .slice none 0 0, .int .i64 0, .int .i64 (leafV D t), .int .i64 0, .int .i64 0, .int .i64 0, .int .i64 wd, .int .i64 0, .int .i64 0, .int .i64 0, .int .i64 u] ∧ wc.there k 0 17 ∧ Sees wc wc.heap.size 3 (some ⟨b, 0, none⟩) 1 (ecells [(t, tg, v)]) ∧ w.heap.size + 1 + 1 + 1 < k ∧ w.heap.size + 1 + 1 + 1 < b ∧ b ≠ k ∧ (wc.cell? ⟨w.heap.size, 3, none⟩ = some (.int .i64 D) ∧ wc.cell? ⟨w.heap.size, 7, none⟩ = some (.int .i64 wt) ∧ wc.cell? ⟨w.heap.size + 1, 12, none⟩ = some (.int .i64 wd) ∧ wc.cell? ⟨w.heap.size + 1 + 1, 0, none⟩ = some (.int .i64 tg) ∧ wc.cell? ⟨w.heap.size + 1 + 1, 1, none⟩ = some (.int .i64 v) ∧ wc.there (w.heap.size + 1 + 1 + 1) 0 17 ∧ Below w.heap.size w wc ∧ w.heap.size + 1 + 1 + 1 < wc.heap.size)
theorem seesDr {w : World} {sz n : Nat} {A : Option Addr} {xs : List Value} (h : Sees w w.heap.size sz A n xs) : Sees w.drew w.drew.heap.size sz A n xs := h
theorem rangeSet16 {w : World} {k : Nat} {c0 c1 c2 c3 c4 c5 c6 c7 c8 c9 c10 c11 c12 c13 c14 c15 c16 x : Value} (h : w.rangeAt k 0 [c0, c1, c2, c3, c4, c5, c6, c7, c8, c9, c10, c11, c12, c13, c14, c15, c16]) : (w.setCell ⟨k, 16, none⟩ x).rangeAt k 0 [c0, c1, c2, c3, c4, c5, c6, c7, c8, c9, c10, c11, c12, c13, c14, c15, x] := by
  intro j u hu
  by_cases hj : j = 16
  · subst hj
    injection hu with hu
    subst hu
    rw [Nat.zero_add]
    exact World.cell?_setCell_same _ _ _ (rg h 16 rfl)
  · rw [World.cell?_setCell_other _ _ _ _ (by intro h1; rw [Addr.mk.injEq] at h1; omega)]
    refine h j u ?_
    have hj' : j < 17 := (List.getElem?_eq_some_iff.1 hu).1
    match j, hj' with
    | 0, _ => exact hu
    | 1, _ => exact hu
    | 2, _ => exact hu
    | 3, _ => exact hu
    | 4, _ => exact hu
    | 5, _ => exact hu
    | 6, _ => exact hu
    | 7, _ => exact hu
    | 8, _ => exact hu
    | 9, _ => exact hu
    | 10, _ => exact hu
    | 11, _ => exact hu
    | 12, _ => exact hu
    | 13, _ => exact hu
    | 14, _ => exact hu
    | 15, _ => exact hu
    | 16, _ => exact absurd rfl hj
    | j + 17, hj' => exact absurd hj' (by omega)
theorem seesE (w : World) (xs : List Value) (t : TypeId) (sz n : Nat) (h : xs.length = n * sz) {k : Nat} (hk : w.heap.size = k) : Sees (w.alloc (.cells xs.toArray t)) (w.alloc (.cells xs.toArray t)).heap.size sz (some ⟨k, 0, none⟩) n xs := hk ▸ sees_new w xs t sz n h
theorem keepSt2 {w W : World} {D wt wd tg v : Int} (h : W.cell? ⟨w.heap.size, 3, none⟩ = some (.int .i64 D) ∧ W.cell? ⟨w.heap.size, 7, none⟩ = some (.int .i64 wt) ∧ W.cell? ⟨w.heap.size + 1, 12, none⟩ = some (.int .i64 wd) ∧ W.cell? ⟨w.heap.size + 1 + 1, 0, none⟩ = some (.int .i64 tg) ∧ W.cell? ⟨w.heap.size + 1 + 1, 1, none⟩ = some (.int .i64 v) ∧ W.there (w.heap.size + 1 + 1 + 1) 0 17 ∧ Below w.heap.size w W ∧ w.heap.size + 1 + 1 + 1 < W.heap.size) {g : Nat} (cs : List Value) (hg : w.heap.size + 1 + 1 + 1 < g) : (W.setCells g 0 cs).cell? ⟨w.heap.size, 3, none⟩ = some (.int .i64 D) ∧ (W.setCells g 0 cs).cell? ⟨w.heap.size, 7, none⟩ = some (.int .i64 wt) ∧ (W.setCells g 0 cs).cell? ⟨w.heap.size + 1, 12, none⟩ = some (.int .i64 wd) ∧ (W.setCells g 0 cs).cell? ⟨w.heap.size + 1 + 1, 0, none⟩ = some (.int .i64 tg) ∧ (W.setCells g 0 cs).cell? ⟨w.heap.size + 1 + 1, 1, none⟩ = some (.int .i64 v) ∧ (W.setCells g 0 cs).there (w.heap.size + 1 + 1 + 1) 0 17 ∧ Below w.heap.size w (W.setCells g 0 cs) ∧ w.heap.size + 1 + 1 + 1 < (W.setCells g 0 cs).heap.size := by
  obtain ⟨h1, h2, h3, h4, h5, h6, h7, h8⟩ := h
  have f : ∀ (g' o : Nat) (u : Value), g' < w.heap.size + 1 + 1 + 1 → W.cell? ⟨g', o, none⟩ = some u → (W.setCells g 0 cs).cell? ⟨g', o, none⟩ = some u := fun g' o u hg' hu => by
    rw [World.cell?_setCells_out _ _ _ _ _ (fun hb _ => absurd hb (by show g' ≠ _; omega))]; exact hu
  exact ⟨f _ _ _ (by omega) h1, f _ _ _ (by omega) h2, f _ _ _ (by omega) h3, f _ _ _ (by omega) h4, f _ _ _ (by omega) h5, World.there_setCells h6 _ _ _, below_setCells' (by omega) _ _ _ h7, by rw [size_setCells]; exact h8⟩
theorem out_last {w X : World} {D wt t wd it tg v u : Int} {b : Nat} (h : X.cell? ⟨w.heap.size, 3, none⟩ = some (.int .i64 D) ∧ X.cell? ⟨w.heap.size, 7, none⟩ = some (.int .i64 wt) ∧ X.cell? ⟨w.heap.size + 1, 12, none⟩ = some (.int .i64 wd) ∧ X.cell? ⟨w.heap.size + 1 + 1, 0, none⟩ = some (.int .i64 tg) ∧ X.cell? ⟨w.heap.size + 1 + 1, 1, none⟩ = some (.int .i64 v) ∧ X.there (w.heap.size + 1 + 1 + 1) 0 17 ∧ Below w.heap.size w X ∧ w.heap.size + 1 + 1 + 1 < X.heap.size) (hs : Sees X X.heap.size 3 (some ⟨b, 0, none⟩) 1 (ecells [(t, tg, v)])) (hb : w.heap.size + 1 + 1 + 1 < b) (hb' : b < X.heap.size) :
    OutAt w D wt t wd it tg v u (.pointer (some ⟨X.heap.size, 0, none⟩)) (X.alloc (.cells #[.int .i64 1, .int .i64 it, .int .i64 tg, .int .i64 v, .slice (some ⟨b, 0, none⟩) 1 1, .slice none 0 0, .slice none 0 0, .int .i64 0, .int .i64 (leafV D t), .int .i64 0, .int .i64 0, .int .i64 0, .int .i64 wd, .int .i64 0, .int .i64 0, .int .i64 0, .int .i64 u] 60)) :=
  ⟨X.heap.size, b, rfl, range_new X _ _, there_alloc_new X #[.int .i64 1, .int .i64 it, .int .i64 tg, .int .i64 v, .slice (some ⟨b, 0, none⟩) 1 1, .slice none 0 0, .slice none 0 0, .int .i64 0, .int .i64 (leafV D t), .int .i64 0, .int .i64 0, .int .i64 0, .int .i64 wd, .int .i64 0, .int .i64 0, .int .i64 0, .int .i64 u] 60, hs.later (belowA _ _), h.2.2.2.2.2.2.2, hb, Nat.ne_of_lt hb', keepBg h (belowA _ _)⟩
theorem out_set {w X : World} {D wt t wd it tg v u : Int} {b k : Nat} (h : X.cell? ⟨w.heap.size, 3, none⟩ = some (.int .i64 D) ∧ X.cell? ⟨w.heap.size, 7, none⟩ = some (.int .i64 wt) ∧ X.cell? ⟨w.heap.size + 1, 12, none⟩ = some (.int .i64 wd) ∧ X.cell? ⟨w.heap.size + 1 + 1, 0, none⟩ = some (.int .i64 tg) ∧ X.cell? ⟨w.heap.size + 1 + 1, 1, none⟩ = some (.int .i64 v) ∧ X.there (w.heap.size + 1 + 1 + 1) 0 17 ∧ Below w.heap.size w X ∧ w.heap.size + 1 + 1 + 1 < X.heap.size) (ht : X.there k 0 17) (hs : Sees X X.heap.size 3 (some ⟨b, 0, none⟩) 1 (ecells [(t, tg, v)])) (hk : w.heap.size + 1 + 1 + 1 < k) (hb : w.heap.size + 1 + 1 + 1 < b) (hbk : b ≠ k) :
    OutAt w D wt t wd it tg v u (.pointer (some ⟨k, 0, none⟩)) (X.setCells k 0 [.int .i64 1, .int .i64 it, .int .i64 tg, .int .i64 v, .slice (some ⟨b, 0, none⟩) 1 1, .slice none 0 0, .slice none 0 0, .int .i64 0, .int .i64 (leafV D t), .int .i64 0, .int .i64 0, .int .i64 0, .int .i64 wd, .int .i64 0, .int .i64 0, .int .i64 0, .int .i64 u]) :=
  ⟨k, b, rfl, World.rangeAt_setCells_same X k 0 _ ht, World.there_setCells ht _ _ _, (by have := hs.setCells k 0 (fun p hp => by cases hp; exact hbk) [.int .i64 1, .int .i64 it, .int .i64 tg, .int .i64 v, .slice (some ⟨b, 0, none⟩) 1 1, .slice none 0 0, .slice none 0 0, .int .i64 0, .int .i64 (leafV D t), .int .i64 0, .int .i64 0, .int .i64 0, .int .i64 wd, .int .i64 0, .int .i64 0, .int .i64 0, .int .i64 u] 0; rwa [← size_setCells k [.int .i64 1, .int .i64 it, .int .i64 tg, .int .i64 v, .slice (some ⟨b, 0, none⟩) 1 1, .slice none 0 0, .slice none 0 0, .int .i64 0, .int .i64 (leafV D t), .int .i64 0, .int .i64 0, .int .i64 0, .int .i64 wd, .int .i64 0, .int .i64 0, .int .i64 0, .int .i64 u] 0 X] at this), hk, hb, hbk, keepSt2 h _ hk⟩

end Go.Proofs.Ytjghdbkkjhnpfaa
/- Struct literals of turns, as one step each. -/
namespace Go.Proofs.Ytjghdbkkjhnpfaa
open Go.RowKit
set_option linter.unusedVariables false

/-- A struct literal of that type, as one step. -/
def bdTn (parts : Array (Nat × Value)) : Sem Value := Instr.build 38 parts
theorem bdTn_is (parts : Array (Nat × Value)) : Instr.build 38 parts = bdTn parts := rfl
theorem run_bdNow (now : Int) (c0 c1 c2 c3 c4 c5 c6 c7 c8 c9 c10 c11 c12 c13 c14 c15 c16 : Value) (w : World) : (bdTn #[(2, .int .i64 now), (4, .agg #[c0, c1, c2, c3, c4, c5, c6, c7, c8, c9, c10, c11, c12, c13, c14, c15, c16])]).run Try.prog w = .ok (.agg (List.toArray (.int .i64 0 :: .int .i64 0 :: .int .i64 0 :: .int .i64 0 :: .int .i64 0 :: .int .i64 0 :: .int .i64 0 :: .int .i64 0 :: .bool false :: .int .i64 0 :: .int .i64 0 :: .int .i64 0 :: .int .i64 0 :: .int .i64 now :: .slice none 0 0 :: .slice none 0 0 :: c0 :: c1 :: c2 :: c3 :: c4 :: c5 :: c6 :: c7 :: c8 :: c9 :: c10 :: c11 :: c12 :: c13 :: c14 :: c15 :: c16 :: .slice none 0 0 :: .int .i64 0 :: .slice none 0 0 :: .bool false :: []))) w := by kernel_rfl
theorem run_bdCfg (now : Int) (k0 k1 k2 k3 k4 k5 k6 k7 k8 k9 k10 k11 c0 c1 c2 c3 c4 c5 c6 c7 c8 c9 c10 c11 c12 c13 c14 c15 c16 : Value) (w : World) : (bdTn #[(0, .agg #[k0, k1, k2, k3, k4, k5, k6, k7, k8, k9, k10, k11]), (2, .int .i64 now), (4, .agg #[c0, c1, c2, c3, c4, c5, c6, c7, c8, c9, c10, c11, c12, c13, c14, c15, c16])]).run Try.prog w = .ok (.agg (List.toArray (k0 :: k1 :: k2 :: k3 :: k4 :: k5 :: k6 :: k7 :: k8 :: k9 :: k10 :: k11 :: .int .i64 0 :: .int .i64 now :: .slice none 0 0 :: .slice none 0 0 :: c0 :: c1 :: c2 :: c3 :: c4 :: c5 :: c6 :: c7 :: c8 :: c9 :: c10 :: c11 :: c12 :: c13 :: c14 :: c15 :: c16 :: .slice none 0 0 :: .int .i64 0 :: .slice none 0 0 :: .bool false :: []))) w := by kernel_rfl
end Go.Proofs.Ytjghdbkkjhnpfaa
/- A thread that begins and is kept in a variable. -/
namespace Go.Proofs.Ytjghdbkkjhnpfaa
open Go.RowKit Go.Sort
set_option linter.unusedVariables false

theorem keepC {wz W W' : World} {g : Nat} {c0 c1 c2 c3 c4 c5 c6 c7 c8 c9 c10 c11 : Value} (h : W.cell? ⟨g, 0, none⟩ = some (c0) ∧ W.cell? ⟨g, 1, none⟩ = some (c1) ∧ W.cell? ⟨g, 2, none⟩ = some (c2) ∧ W.cell? ⟨g, 3, none⟩ = some (c3) ∧ W.cell? ⟨g, 4, none⟩ = some (c4) ∧ W.cell? ⟨g, 5, none⟩ = some (c5) ∧ W.cell? ⟨g, 6, none⟩ = some (c6) ∧ W.cell? ⟨g, 7, none⟩ = some (c7) ∧ W.cell? ⟨g, 8, none⟩ = some (c8) ∧ W.cell? ⟨g, 9, none⟩ = some (c9) ∧ W.cell? ⟨g, 10, none⟩ = some (c10) ∧ W.cell? ⟨g, 11, none⟩ = some (c11) ∧ Below wz.heap.size wz W) (hb : Below W.heap.size W W') : W'.cell? ⟨g, 0, none⟩ = some (c0) ∧ W'.cell? ⟨g, 1, none⟩ = some (c1) ∧ W'.cell? ⟨g, 2, none⟩ = some (c2) ∧ W'.cell? ⟨g, 3, none⟩ = some (c3) ∧ W'.cell? ⟨g, 4, none⟩ = some (c4) ∧ W'.cell? ⟨g, 5, none⟩ = some (c5) ∧ W'.cell? ⟨g, 6, none⟩ = some (c6) ∧ W'.cell? ⟨g, 7, none⟩ = some (c7) ∧ W'.cell? ⟨g, 8, none⟩ = some (c8) ∧ W'.cell? ⟨g, 9, none⟩ = some (c9) ∧ W'.cell? ⟨g, 10, none⟩ = some (c10) ∧ W'.cell? ⟨g, 11, none⟩ = some (c11) ∧ Below wz.heap.size wz W' := by
  obtain ⟨h0, h1, h2, h3, h4, h5, h6, h7, h8, h9, h10, h11, hB⟩ := h
  exact ⟨cell_keep h0 hb, cell_keep h1 hb, cell_keep h2 hb, cell_keep h3 hb, cell_keep h4 hb, cell_keep h5 hb, cell_keep h6 hb, cell_keep h7 hb, cell_keep h8 hb, cell_keep h9 hb, cell_keep h10 hb, cell_keep h11 hb, below_next hB hB.size hb⟩
theorem keepC2 {wz W : World} {g k : Nat} {c0 c1 c2 c3 c4 c5 c6 c7 c8 c9 c10 c11 : Value} (h : W.cell? ⟨g, 0, none⟩ = some (c0) ∧ W.cell? ⟨g, 1, none⟩ = some (c1) ∧ W.cell? ⟨g, 2, none⟩ = some (c2) ∧ W.cell? ⟨g, 3, none⟩ = some (c3) ∧ W.cell? ⟨g, 4, none⟩ = some (c4) ∧ W.cell? ⟨g, 5, none⟩ = some (c5) ∧ W.cell? ⟨g, 6, none⟩ = some (c6) ∧ W.cell? ⟨g, 7, none⟩ = some (c7) ∧ W.cell? ⟨g, 8, none⟩ = some (c8) ∧ W.cell? ⟨g, 9, none⟩ = some (c9) ∧ W.cell? ⟨g, 10, none⟩ = some (c10) ∧ W.cell? ⟨g, 11, none⟩ = some (c11) ∧ Below wz.heap.size wz W) (hg : g < wz.heap.size) (cs : List Value) (hk : wz.heap.size ≤ k) : (W.setCells k 0 cs).cell? ⟨g, 0, none⟩ = some (c0) ∧ (W.setCells k 0 cs).cell? ⟨g, 1, none⟩ = some (c1) ∧ (W.setCells k 0 cs).cell? ⟨g, 2, none⟩ = some (c2) ∧ (W.setCells k 0 cs).cell? ⟨g, 3, none⟩ = some (c3) ∧ (W.setCells k 0 cs).cell? ⟨g, 4, none⟩ = some (c4) ∧ (W.setCells k 0 cs).cell? ⟨g, 5, none⟩ = some (c5) ∧ (W.setCells k 0 cs).cell? ⟨g, 6, none⟩ = some (c6) ∧ (W.setCells k 0 cs).cell? ⟨g, 7, none⟩ = some (c7) ∧ (W.setCells k 0 cs).cell? ⟨g, 8, none⟩ = some (c8) ∧ (W.setCells k 0 cs).cell? ⟨g, 9, none⟩ = some (c9) ∧ (W.setCells k 0 cs).cell? ⟨g, 10, none⟩ = some (c10) ∧ (W.setCells k 0 cs).cell? ⟨g, 11, none⟩ = some (c11) ∧ Below wz.heap.size wz (W.setCells k 0 cs) := by
  obtain ⟨h0, h1, h2, h3, h4, h5, h6, h7, h8, h9, h10, h11, hB⟩ := h
  have f : ∀ (o : Nat) (u : Value), W.cell? ⟨g, o, none⟩ = some u → (W.setCells k 0 cs).cell? ⟨g, o, none⟩ = some u := fun o u hu => by
    rw [World.cell?_setCells_out _ _ _ _ _ (fun hb _ => absurd hb (by show g ≠ _; omega))]; exact hu
  exact ⟨f _ _ h0, f _ _ h1, f _ _ h2, f _ _ h3, f _ _ h4, f _ _ h5, f _ _ h6, f _ _ h7, f _ _ h8, f _ _ h9, f _ _ h10, f _ _ h11, below_setCells' hk _ _ _ hB⟩
theorem bo_set {wz X : World} {g k : Nat} {c0 c1 c2 c3 c4 c5 c6 c7 c8 c9 c10 c11 : Value} {A : Option Addr} {cs xs : List Value} (h : X.cell? ⟨g, 0, none⟩ = some (c0) ∧ X.cell? ⟨g, 1, none⟩ = some (c1) ∧ X.cell? ⟨g, 2, none⟩ = some (c2) ∧ X.cell? ⟨g, 3, none⟩ = some (c3) ∧ X.cell? ⟨g, 4, none⟩ = some (c4) ∧ X.cell? ⟨g, 5, none⟩ = some (c5) ∧ X.cell? ⟨g, 6, none⟩ = some (c6) ∧ X.cell? ⟨g, 7, none⟩ = some (c7) ∧ X.cell? ⟨g, 8, none⟩ = some (c8) ∧ X.cell? ⟨g, 9, none⟩ = some (c9) ∧ X.cell? ⟨g, 10, none⟩ = some (c10) ∧ X.cell? ⟨g, 11, none⟩ = some (c11) ∧ Below wz.heap.size wz X) (ht : X.there k 0 cs.length) (hs : Sees X X.heap.size 3 A 1 xs) (hA : ∀ p, A = some p → p.block ≠ k) (hk : wz.heap.size ≤ k) :
    (X.setCells k 0 cs).rangeAt k 0 cs ∧ Sees (X.setCells k 0 cs) (X.setCells k 0 cs).heap.size 3 A 1 xs ∧ Below wz.heap.size wz (X.setCells k 0 cs) := by
  refine ⟨World.rangeAt_setCells_same X k 0 cs ht, ?_, below_setCells' hk cs 0 X h.2.2.2.2.2.2.2.2.2.2.2.2⟩
  have := hs.setCells k 0 hA cs 0
  rwa [← size_setCells k cs 0 X] at this
theorem box12 {w : World} {g : Nat} {c0 c1 c2 c3 c4 c5 c6 c7 c8 c9 c10 c11 : Value} (h : w.rangeAt g 0 [c0, c1, c2, c3, c4, c5, c6, c7, c8, c9, c10, c11]) : w.cell? ⟨g, 0, none⟩ = some (c0) ∧ w.cell? ⟨g, 1, none⟩ = some (c1) ∧ w.cell? ⟨g, 2, none⟩ = some (c2) ∧ w.cell? ⟨g, 3, none⟩ = some (c3) ∧ w.cell? ⟨g, 4, none⟩ = some (c4) ∧ w.cell? ⟨g, 5, none⟩ = some (c5) ∧ w.cell? ⟨g, 6, none⟩ = some (c6) ∧ w.cell? ⟨g, 7, none⟩ = some (c7) ∧ w.cell? ⟨g, 8, none⟩ = some (c8) ∧ w.cell? ⟨g, 9, none⟩ = some (c9) ∧ w.cell? ⟨g, 10, none⟩ = some (c10) ∧ w.cell? ⟨g, 11, none⟩ = some (c11) :=
  ⟨rg h 0 rfl, rg h 1 rfl, rg h 2 rfl, rg h 3 rfl, rg h 4 rfl, rg h 5 rfl, rg h 6 rfl, rg h 7 rfl, rg h 8 rfl, rg h 9 rfl, rg h 10 rfl, rg h 11 rfl⟩
end Go.Proofs.Ytjghdbkkjhnpfaa
/- Ranges: behind a store into one of their cells, and into another block. -/
namespace Go.Proofs.Ytjghdbkkjhnpfaa
open Go.RowKit
set_option linter.unusedVariables false

theorem rangeE (w : World) (cs : List Value) (t : TypeId) {k : Nat} (hk : w.heap.size = k) : (w.alloc (.cells cs.toArray t)).rangeAt k 0 cs := hk ▸ range_new w cs t
theorem rangeSet {w : World} {k i : Nat} {cs : List Value} {x : Value} (h : w.rangeAt k 0 cs) (hi : i < cs.length) : (w.setCell ⟨k, i, none⟩ x).rangeAt k 0 (cs.set i x) := by
  intro j u hu
  rw [List.getElem?_set] at hu
  by_cases hj : i = j
  · subst hj
    rw [if_pos rfl, if_pos hi] at hu
    injection hu with hu
    subst hu
    rw [Nat.zero_add]
    exact World.cell?_setCell_same _ _ _ (rg h i (List.getElem?_eq_getElem hi))
  · rw [if_neg hj] at hu
    rw [World.cell?_setCell_other _ _ _ _ (by intro h1; rw [Addr.mk.injEq] at h1; omega)]
    exact h j u hu
theorem rangeSet12 {w : World} {k : Nat} {c0 c1 c2 c3 c4 c5 c6 c7 c8 c9 c10 c11 c12 c13 c14 c15 c16 x : Value} (h : w.rangeAt k 0 [c0, c1, c2, c3, c4, c5, c6, c7, c8, c9, c10, c11, c12, c13, c14, c15, c16]) : (w.setCell ⟨k, 12, none⟩ x).rangeAt k 0 [c0, c1, c2, c3, c4, c5, c6, c7, c8, c9, c10, c11, x, c13, c14, c15, c16] := rangeSet (i := 12) h (by simp)
theorem rangeFar {w : World} {k b o : Nat} {cs : List Value} {x : Value} (h : w.rangeAt k 0 cs) (hk : k ≠ b) : (w.setCell ⟨b, o, none⟩ x).rangeAt k 0 cs := by
  intro j u hu
  rw [World.cell?_setCell_other _ _ _ _ (by intro h1; rw [Addr.mk.injEq] at h1; exact hk h1.1.symm)]
  exact h j u hu
end Go.Proofs.Ytjghdbkkjhnpfaa
/- The contract of the law's entries. -/
namespace Go.Proofs.Ytjghdbkkjhnpfaa
open Go.RowKit
set_option linter.unusedVariables false

set_option maxRecDepth 100000 in
set_option maxHeartbeats 3200000 in
theorem ents_any (A : Option Addr) (cap : Nat) (l : List E3) (len : Nat) (hlen : len = l.length) (hmax : len ≤ 100000) (w : World) (hs : Sees w w.heap.size 3 A len (ecells l)) :
    Calls Try.prog 17 #[.slice A len cap] w (FRowPost 3 len (ecells l) w) := by
  obtain ⟨i0, hi0, hz0, hz1, hz2⟩ := info_parts info52
  have HL := hide hlen
  clear hlen
  go_enter Try.func17, Try.ntmps17
  go_wp2
  go_loopw [3, 4] (fun a i wr => ∃ j : Nat, j ≤ len ∧ i = .int .i64 j ∧ wr.ownsRow w.heap.size 84 3 a j (ecells (l.take j)) ∧ Below w.heap.size w wr)
    (fun _ i _ => len - (intOf i).toNat)
  case atStart => exact ⟨0, Nat.zero_le _, rfl, own_empty w _ _ _ (Nat.le_refl _), (Below.refl _ _).alloc (Nat.le_refl _) _⟩
  case round =>
    obtain ⟨j, hj, rfl, hown, hB⟩ := hrel
    by_cases hlt : j < len
    · have hs' := hs.below hB
      rw [HL.out] at hs'
      obtain ⟨b, off, t, g, v, rfl, hb, he, c1, c2, c3⟩ := hs'.entry (k := j) (by have := HL.out; omega)
      have HT := hide (take_snoc l j _ he)
      clear he hs'
      go_wp2_with fail
      have hj0 : (0 : Int) ≤ (j : Int) := Int.natCast_nonneg _
      have hj1 : (j : Int) < (len : Int) := by omega
      have ag := own_ne hown hb
      have lb : b < wr.heap.size := Nat.lt_of_lt_of_le hb hB.size
      have hbs := hB.size
      go_region_held3 (fun w' => w'.cell? ⟨b, off + j * 3, none⟩ = some (.int .i64 t) ∧ w'.cell? ⟨b, off + j * 3 + 1, none⟩ = some (.int .i64 g) ∧ w'.cell? ⟨b, off + j * 3 + 2, none⟩ = some (.int .i64 v))
        (first
          | go_keep
          | (go_split_ands
             refine ⟨?_, ?_, ?_⟩
             · (rw [hgrow.cell_far _ (by simp; omega) (Ne.symm ag)]; assumption)
             · (rw [hgrow.cell_far _ (by simp; omega) (Ne.symm ag)]; assumption)
             · (rw [hgrow.cell_far _ (by simp; omega) (Ne.symm ag)]; assumption)))
        ((refine step_append_lies _ (by rfl) _ _ _ (by rfl) w.heap.size 84 i0 _ 3 24 Try.underlying48 hi0 hz0 hz1 hz2 rfl (by omega) _ j _ (by rfl) ((hown.alloc _).drew)
            ⟨wr.heap.size, 0, none⟩ 1 1 (ecells [(t, g, v)]) (by rfl) (by rfl) (World.news_of_block (cs := #[.int .i64 t, .int .i64 g, .int .i64 v]) (t := 84) (fr := (0, 0)) (heap_alloc_new wr _)) (ecells_one _)
            (by omega) (by unfold maxLen; omega) (by omega) (by simp; omega) (wr.heap.size + 1) (by simp) ?_; intro gg cap w1 hown1 hgrow hat hlt))
      go_wp2
      go_roundw
      case rel => exact ⟨j + 1, by omega, by go_num, by rw [HT.out, ecells_append]; exact hown1, ((hB.alloc hB.size _).drew).grown hgrow (by simp; omega) (own_at hown)⟩
      case measure => simp [intOf]; omega
    · obtain rfl : j = len := by omega
      have HT := hide (show l.take j = l by rw [HL.out, List.take_length])
      go_wp2
      go_ret
      rw [HT.out] at hown
      obtain ⟨A', c', rfl, hc'⟩ := own_form hown
      exact ⟨A', c', rfl, hc', Sees.of_own hown, fresh_own hown, hB⟩

end Go.Proofs.Ytjghdbkkjhnpfaa
/- The document's Same of threads. -/
namespace Go.Proofs.Ytjghdbkkjhnpfaa
open Go.RowKit Go.Sort
set_option linter.unusedVariables false

theorem belowA' (W : World) (o : Obj) : Below W.heap.size W (W.alloc o) := (Below.refl _ _).alloc (Nat.le_refl _) _
set_option maxRecDepth 100000 in
set_option maxHeartbeats 4000000 in
theorem rsame_yes (d : Dt) (p q : Ad) (o : DtOk d) (w : World) (ha : ThAt w d p) (hb : ThAt w d q) : Calls Try.prog 30 #[.agg #[.int .i64 d.ph, .int .i64 d.it, .int .i64 d.tg, .int .i64 d.v, .slice p.bA d.bl.length p.bc, .slice p.kA d.kl.length p.kc, .slice p.hA d.hl.length p.hc, .int .i64 d.st, .int .i64 d.nd, .int .i64 d.pl, .int .i64 d.ly, .int .i64 d.lf, .int .i64 d.wd, .int .i64 d.who, .int .i64 d.x, .int .i64 d.y, .int .i64 d.un], .agg #[.int .i64 d.ph, .int .i64 d.it, .int .i64 d.tg, .int .i64 d.v, .slice q.bA d.bl.length q.bc, .slice q.kA d.kl.length q.kc, .slice q.hA d.hl.length q.hc, .int .i64 d.st, .int .i64 d.nd, .int .i64 d.pl, .int .i64 d.ly, .int .i64 d.lf, .int .i64 d.wd, .int .i64 d.who, .int .i64 d.x, .int .i64 d.y, .int .i64 d.un]] w (BoolPost true w) := by
  have hB : Below w.heap.size w ((w.alloc (.cells #[.int .i64 d.ph, .int .i64 d.it, .int .i64 d.tg, .int .i64 d.v, .slice p.bA d.bl.length p.bc, .slice p.kA d.kl.length p.kc, .slice p.hA d.hl.length p.hc, .int .i64 d.st, .int .i64 d.nd, .int .i64 d.pl, .int .i64 d.ly, .int .i64 d.lf, .int .i64 d.wd, .int .i64 d.who, .int .i64 d.x, .int .i64 d.y, .int .i64 d.un] 60)).alloc (.cells #[.int .i64 d.ph, .int .i64 d.it, .int .i64 d.tg, .int .i64 d.v, .slice q.bA d.bl.length q.bc, .slice q.kA d.kl.length q.kc, .slice q.hA d.hl.length q.hc, .int .i64 d.st, .int .i64 d.nd, .int .i64 d.pl, .int .i64 d.ly, .int .i64 d.lf, .int .i64 d.wd, .int .i64 d.who, .int .i64 d.x, .int .i64 d.y, .int .i64 d.un] 60)) := (belowA' w _).alloc (by simp) _
  have R1 : ((w.alloc (.cells #[.int .i64 d.ph, .int .i64 d.it, .int .i64 d.tg, .int .i64 d.v, .slice p.bA d.bl.length p.bc, .slice p.kA d.kl.length p.kc, .slice p.hA d.hl.length p.hc, .int .i64 d.st, .int .i64 d.nd, .int .i64 d.pl, .int .i64 d.ly, .int .i64 d.lf, .int .i64 d.wd, .int .i64 d.who, .int .i64 d.x, .int .i64 d.y, .int .i64 d.un] 60)).alloc (.cells #[.int .i64 d.ph, .int .i64 d.it, .int .i64 d.tg, .int .i64 d.v, .slice q.bA d.bl.length q.bc, .slice q.kA d.kl.length q.kc, .slice q.hA d.hl.length q.hc, .int .i64 d.st, .int .i64 d.nd, .int .i64 d.pl, .int .i64 d.ly, .int .i64 d.lf, .int .i64 d.wd, .int .i64 d.who, .int .i64 d.x, .int .i64 d.y, .int .i64 d.un] 60)).rangeAt w.heap.size 0 [.int .i64 d.ph, .int .i64 d.it, .int .i64 d.tg, .int .i64 d.v, .slice p.bA d.bl.length p.bc, .slice p.kA d.kl.length p.kc, .slice p.hA d.hl.length p.hc, .int .i64 d.st, .int .i64 d.nd, .int .i64 d.pl, .int .i64 d.ly, .int .i64 d.lf, .int .i64 d.wd, .int .i64 d.who, .int .i64 d.x, .int .i64 d.y, .int .i64 d.un] := range_keep (range_new w [.int .i64 d.ph, .int .i64 d.it, .int .i64 d.tg, .int .i64 d.v, .slice p.bA d.bl.length p.bc, .slice p.kA d.kl.length p.kc, .slice p.hA d.hl.length p.hc, .int .i64 d.st, .int .i64 d.nd, .int .i64 d.pl, .int .i64 d.ly, .int .i64 d.lf, .int .i64 d.wd, .int .i64 d.who, .int .i64 d.x, .int .i64 d.y, .int .i64 d.un] 60) (belowA' _ _)
  have R2 : ((w.alloc (.cells #[.int .i64 d.ph, .int .i64 d.it, .int .i64 d.tg, .int .i64 d.v, .slice p.bA d.bl.length p.bc, .slice p.kA d.kl.length p.kc, .slice p.hA d.hl.length p.hc, .int .i64 d.st, .int .i64 d.nd, .int .i64 d.pl, .int .i64 d.ly, .int .i64 d.lf, .int .i64 d.wd, .int .i64 d.who, .int .i64 d.x, .int .i64 d.y, .int .i64 d.un] 60)).alloc (.cells #[.int .i64 d.ph, .int .i64 d.it, .int .i64 d.tg, .int .i64 d.v, .slice q.bA d.bl.length q.bc, .slice q.kA d.kl.length q.kc, .slice q.hA d.hl.length q.hc, .int .i64 d.st, .int .i64 d.nd, .int .i64 d.pl, .int .i64 d.ly, .int .i64 d.lf, .int .i64 d.wd, .int .i64 d.who, .int .i64 d.x, .int .i64 d.y, .int .i64 d.un] 60)).rangeAt (w.heap.size + 1) 0 [.int .i64 d.ph, .int .i64 d.it, .int .i64 d.tg, .int .i64 d.v, .slice q.bA d.bl.length q.bc, .slice q.kA d.kl.length q.kc, .slice q.hA d.hl.length q.hc, .int .i64 d.st, .int .i64 d.nd, .int .i64 d.pl, .int .i64 d.ly, .int .i64 d.lf, .int .i64 d.wd, .int .i64 d.who, .int .i64 d.x, .int .i64 d.y, .int .i64 d.un] := (show (w.alloc (.cells #[.int .i64 d.ph, .int .i64 d.it, .int .i64 d.tg, .int .i64 d.v, .slice p.bA d.bl.length p.bc, .slice p.kA d.kl.length p.kc, .slice p.hA d.hl.length p.hc, .int .i64 d.st, .int .i64 d.nd, .int .i64 d.pl, .int .i64 d.ly, .int .i64 d.lf, .int .i64 d.wd, .int .i64 d.who, .int .i64 d.x, .int .i64 d.y, .int .i64 d.un] 60)).heap.size = w.heap.size + 1 by simp) ▸ range_new (w.alloc (.cells #[.int .i64 d.ph, .int .i64 d.it, .int .i64 d.tg, .int .i64 d.v, .slice p.bA d.bl.length p.bc, .slice p.kA d.kl.length p.kc, .slice p.hA d.hl.length p.hc, .int .i64 d.st, .int .i64 d.nd, .int .i64 d.pl, .int .i64 d.ly, .int .i64 d.lf, .int .i64 d.wd, .int .i64 d.who, .int .i64 d.x, .int .i64 d.y, .int .i64 d.un] 60)) [.int .i64 d.ph, .int .i64 d.it, .int .i64 d.tg, .int .i64 d.v, .slice q.bA d.bl.length q.bc, .slice q.kA d.kl.length q.kc, .slice q.hA d.hl.length q.hc, .int .i64 d.st, .int .i64 d.nd, .int .i64 d.pl, .int .i64 d.ly, .int .i64 d.lf, .int .i64 d.wd, .int .i64 d.who, .int .i64 d.x, .int .i64 d.y, .int .i64 d.un] 60
  have na := ha.later hB
  have nb := hb.later hB
  have K1 := hide (same_any p.bA q.bA p.bc q.bc d.bl.length d.bl.length d.bl d.bl rfl rfl (by have := o.b; omega) ((w.alloc (.cells #[.int .i64 d.ph, .int .i64 d.it, .int .i64 d.tg, .int .i64 d.v, .slice p.bA d.bl.length p.bc, .slice p.kA d.kl.length p.kc, .slice p.hA d.hl.length p.hc, .int .i64 d.st, .int .i64 d.nd, .int .i64 d.pl, .int .i64 d.ly, .int .i64 d.lf, .int .i64 d.wd, .int .i64 d.who, .int .i64 d.x, .int .i64 d.y, .int .i64 d.un] 60)).alloc (.cells #[.int .i64 d.ph, .int .i64 d.it, .int .i64 d.tg, .int .i64 d.v, .slice q.bA d.bl.length q.bc, .slice q.kA d.kl.length q.kc, .slice q.hA d.hl.length q.hc, .int .i64 d.st, .int .i64 d.nd, .int .i64 d.pl, .int .i64 d.ly, .int .i64 d.lf, .int .i64 d.wd, .int .i64 d.who, .int .i64 d.x, .int .i64 d.y, .int .i64 d.un] 60)) na.b nb.b)
  rw [decide_eq_true rfl] at K1
  have hk := o.k
  have hh := o.h
  obtain ⟨q0, q1, q2, q3, q4, q5, q6, q7, q8, q9, q10, q11, q12, q13, q14, q15, q16⟩ := box17 R1
  obtain ⟨r0, r1, r2, r3, r4, r5, r6, r7, r8, r9, r10, r11, r12, r13, r14, r15, r16⟩ := box17 R2
  go_enter Try.func30, Try.ntmps30
  go_wp2_with fail
  generalize ((w.alloc (.cells #[.int .i64 d.ph, .int .i64 d.it, .int .i64 d.tg, .int .i64 d.v, .slice p.bA d.bl.length p.bc, .slice p.kA d.kl.length p.kc, .slice p.hA d.hl.length p.hc, .int .i64 d.st, .int .i64 d.nd, .int .i64 d.pl, .int .i64 d.ly, .int .i64 d.lf, .int .i64 d.wd, .int .i64 d.who, .int .i64 d.x, .int .i64 d.y, .int .i64 d.un] 60)).alloc (.cells #[.int .i64 d.ph, .int .i64 d.it, .int .i64 d.tg, .int .i64 d.v, .slice q.bA d.bl.length q.bc, .slice q.kA d.kl.length q.kc, .slice q.hA d.hl.length q.hc, .int .i64 d.st, .int .i64 d.nd, .int .i64 d.pl, .int .i64 d.ly, .int .i64 d.lf, .int .i64 d.wd, .int .i64 d.who, .int .i64 d.x, .int .i64 d.y, .int .i64 d.un] 60)) = wz at *
  refine K1.out.mono ?_
  rintro x w1 ⟨rfl, hb1⟩
  clear K1 q0 q1 q2 q3 q4 q5 q6 q7 q8 q9 q10 q11 q12 q13 q14 q15 q16 r0 r1 r2 r3 r4 r5 r6 r7 r8 r9 r10 r11 r12 r13 r14 r15 r16
  replace R1 := range_keep R1 hb1
  replace R2 := range_keep R2 hb1
  replace na := na.later hb1
  replace nb := nb.later hb1
  replace hB := below_next hB hB.size hb1
  clear hb1
  have K2 := hide (ints_any p.hA q.hA p.hc q.hc d.hl.length d.hl.length d.hl d.hl (by omega) w1 na.h nb.h)
  rw [decide_eq_true rfl] at K2
  obtain ⟨q0, q1, q2, q3, q4, q5, q6, q7, q8, q9, q10, q11, q12, q13, q14, q15, q16⟩ := box17 R1
  obtain ⟨r0, r1, r2, r3, r4, r5, r6, r7, r8, r9, r10, r11, r12, r13, r14, r15, r16⟩ := box17 R2
  go_wp2_with fail
  refine K2.out.mono ?_
  rintro x w2 ⟨rfl, hb1⟩
  clear K2 q0 q1 q2 q3 q4 q5 q6 q7 q8 q9 q10 q11 q12 q13 q14 q15 q16 r0 r1 r2 r3 r4 r5 r6 r7 r8 r9 r10 r11 r12 r13 r14 r15 r16
  replace R1 := range_keep R1 hb1
  replace R2 := range_keep R2 hb1
  replace na := na.later hb1
  replace nb := nb.later hb1
  replace hB := below_next hB hB.size hb1
  clear hb1
  obtain ⟨q0, q1, q2, q3, q4, q5, q6, q7, q8, q9, q10, q11, q12, q13, q14, q15, q16⟩ := box17 R1
  obtain ⟨r0, r1, r2, r3, r4, r5, r6, r7, r8, r9, r10, r11, r12, r13, r14, r15, r16⟩ := box17 R2
  go_wp2
  go_loopw [5] (fun i wr => ∃ j : Nat, j ≤ d.kl.length ∧ i = .int .i64 j ∧ ∃ q, wr = w2.drewN q) (fun i _ => d.kl.length - (intOf i).toNat)
  case atStart => exact ⟨0, Nat.zero_le _, rfl, 0, rfl⟩
  case round =>
    obtain ⟨j, hj, rfl, qn, rfl⟩ := hrel
    by_cases hlt : j < d.kl.length
    · obtain ⟨b, boff, t, g, e1, hb', ha', c1, c2⟩ := na.k.kid (k := j) hlt
      obtain ⟨b2, boff2, t2, g2, e2, hb2, ha2, c3, c4⟩ := nb.k.kid (k := j) hlt
      rw [ha'] at ha2
      simp only [Option.some.injEq, Prod.mk.injEq] at ha2
      obtain ⟨rfl, rfl⟩ := ha2
      rw [e1] at q5
      rw [e2] at r5
      have j0 : (0 : Int) ≤ (j : Int) := Int.natCast_nonneg _
      have j1 : (j : Int) < (d.kl.length : Int) := by omega
      clear ha' hb' hb2
      go_wp2_with fail
      go_quiet (fail)
      go_wp2
      go_roundw
      case rel => exact ⟨j + 1, by omega, by go_num, _, rfl⟩
      case measure => simp [intOf]; omega
    · obtain rfl : j = d.kl.length := by omega
      go_wp2
      go_ret
      exact ⟨ret_b (by simp), below_drewN hB _⟩

end Go.Proofs.Ytjghdbkkjhnpfaa
