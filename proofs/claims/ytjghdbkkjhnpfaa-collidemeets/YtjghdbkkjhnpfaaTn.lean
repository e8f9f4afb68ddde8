/- Whole turns: what one holds, as plain data; its cells as one list; boxes as one word each. -/
import Derived.Test.YtjghdbkkjhnpfaaOpenT
import Derived.Test.YtjghdbkkjhnpfaaM4
import Derived.Test.YtjghdbkkjhnpfaaM3
namespace Go.Proofs.Ytjghdbkkjhnpfaa
open Go.RowKit
set_option linter.unusedVariables false

/-- A turn, as plain data. -/
structure Tn where
  c : Cf
  tt : Int
  now : Int
  ws : List Int
  bx : List (List E3)
  d : Dt
  tl : List Int
  ta : Int
  ll : List M6
  dn : Bool
/-- Where its lists lie. -/
structure TA where
  mA : Option Addr
  mc : Nat
  mB : Option Addr
  md : Nat
  bs : List Bt
  p : Ad
  tA : Option Addr
  tc : Nat
  lA : Option Addr
  lc : Nat
def ccs (c : Cf) : List Value := (.int .i64 c.x0 :: .int .i64 c.x1 :: .int .i64 c.x2 :: .int .i64 c.x3 :: .int .i64 c.x4 :: .int .i64 c.x5 :: .int .i64 c.x6 :: .int .i64 c.x7 :: .bool c.b :: .int .i64 c.x9 :: .int .i64 c.x10 :: .int .i64 c.x11 :: [])
def thc (d : Dt) (p : Ad) : List Value := (.int .i64 d.ph :: .int .i64 d.it :: .int .i64 d.tg :: .int .i64 d.v :: .slice p.bA d.bl.length p.bc :: .slice p.kA d.kl.length p.kc :: .slice p.hA d.hl.length p.hc :: .int .i64 d.st :: .int .i64 d.nd :: .int .i64 d.pl :: .int .i64 d.ly :: .int .i64 d.lf :: .int .i64 d.wd :: .int .i64 d.who :: .int .i64 d.x :: .int .i64 d.y :: .int .i64 d.un :: [])
def tcs (u : Tn) (a : TA) : List Value := (.int .i64 u.c.x0 :: .int .i64 u.c.x1 :: .int .i64 u.c.x2 :: .int .i64 u.c.x3 :: .int .i64 u.c.x4 :: .int .i64 u.c.x5 :: .int .i64 u.c.x6 :: .int .i64 u.c.x7 :: .bool u.c.b :: .int .i64 u.c.x9 :: .int .i64 u.c.x10 :: .int .i64 u.c.x11 :: .int .i64 u.tt :: .int .i64 u.now :: .slice a.mA u.ws.length a.mc :: .slice a.mB a.bs.length a.md :: .int .i64 u.d.ph :: .int .i64 u.d.it :: .int .i64 u.d.tg :: .int .i64 u.d.v :: .slice a.p.bA u.d.bl.length a.p.bc :: .slice a.p.kA u.d.kl.length a.p.kc :: .slice a.p.hA u.d.hl.length a.p.hc :: .int .i64 u.d.st :: .int .i64 u.d.nd :: .int .i64 u.d.pl :: .int .i64 u.d.ly :: .int .i64 u.d.lf :: .int .i64 u.d.wd :: .int .i64 u.d.who :: .int .i64 u.d.x :: .int .i64 u.d.y :: .int .i64 u.d.un :: .slice a.tA u.tl.length a.tc :: .int .i64 u.ta :: .slice a.lA u.ll.length a.lc :: .bool u.dn :: [])
/-- How a turn lies. -/
structure TnAt (w : World) (u : Tn) (a : TA) : Prop where
  m : MemOk w a.mA u.ws a.mB a.bs
  bx : boxes a.bs = u.bx
  th : ThAt w u.d a.p
  tp : Sees w w.heap.size 1 a.tA u.tl.length (u.tl.map (Value.int .i64))
  lg : Sees w w.heap.size 6 a.lA u.ll.length (mcells u.ll)
theorem TnAt.later {w w' : World} {u : Tn} {a : TA} (h : TnAt w u a) (hb : Below w.heap.size w w') : TnAt w' u a := ⟨h.m.later hb, h.bx, h.th.later hb, h.tp.later hb, h.lg.later hb⟩
/-- Its lists are not long, its config is one that may be, its numbers are numbers of 64 bits. -/
structure TnOk (u : Tn) : Prop where
  b : u.d.bl.length ≤ 200
  k : u.d.kl.length ≤ 200
  h : u.d.hl.length ≤ 200
  l : u.ll.length ≤ 200
  t : u.tl.length ≤ 200
  f : DtWf u.d
  lo : I64 u.c.x9
  hi : I64 u.c.x10
  tt : I64 u.tt
  ws : ∀ x ∈ u.ws, I64 x
  c : CfOk u.c.x0 u.c.x1 u.c.x2 u.c.x3 u.c.x4 u.c.x5 u.c.x6 u.c.x7 u.c.b u.c.x9 u.c.x10 u.c.x11
theorem TnOk.d {u : Tn} (h : TnOk u) : DtOk u.d := ⟨by have := h.b; omega, by have := h.k; omega, by have := h.h; omega⟩

/-- The cells of a variable's block, whole, where it may be written. -/
def boxOf (w : World) (g : Nat) : Option (List Value) :=
  match w.heap[g]? with
  | some (.cells zs _ (0, 0)) => some zs.toList
  | _ => none
theorem boxOf_iff {w : World} {g : Nat} {cs : List Value} : boxOf w g = some cs ↔ ∃ t, w.heap[g]? = some (.cells cs.toArray t (0, 0)) := by
  unfold boxOf
  split
  · rename_i zs t h; rw [h]; constructor
    · intro e; injection e with e; exact ⟨t, by rw [← e]⟩
    · rintro ⟨t', e⟩; injection e with e; injection e with e1 e2 e3; rw [e1]
  · rename_i h; constructor
    · intro e; cases e
    · rintro ⟨t, e⟩; exact absurd e (h _ _)
theorem boxOf_lt {w : World} {g : Nat} {cs : List Value} (h : boxOf w g = some cs) : g < w.heap.size := by
  obtain ⟨t, h⟩ := boxOf_iff.1 h
  exact (Array.getElem?_eq_some_iff.1 h).1
theorem boxOf_keep {w w' : World} {g : Nat} {cs : List Value} (h : boxOf w g = some cs) (hb : Below w.heap.size w w') : boxOf w' g = some cs := by
  have hl := boxOf_lt h
  obtain ⟨t, h⟩ := boxOf_iff.1 h
  exact boxOf_iff.2 ⟨t, (hb.block g hl).trans h⟩
theorem boxOf_at (w : World) (g i : Nat) {cs : List Value} (h : boxOf w g = some cs) : w.cell? ⟨g, i, none⟩ = cs[i]? := by
  obtain ⟨t, h⟩ := boxOf_iff.1 h
  rw [cell_of_row _ g i cs.toArray t (0, 0) h]; simp
theorem boxOf_free (w : World) (g i : Nat) {cs : List Value} (h : boxOf w g = some cs) : w.frozen? ⟨g, i, none⟩ = false := by
  obtain ⟨t, h⟩ := boxOf_iff.1 h
  simp [World.frozen?, h]
theorem boxOf_range {w : World} {g : Nat} {cs : List Value} (h : boxOf w g = some cs) : w.rangeAt g 0 cs := fun j v hv => by rw [Nat.zero_add, boxOf_at w g j h]; exact hv
theorem boxOf_there {w : World} {g : Nat} {cs : List Value} (h : boxOf w g = some cs) (o n : Nat) (hn : o + n ≤ cs.length) : w.there g o n := fun j hj => ⟨by rw [boxOf_at w g _ h, List.getElem?_eq_getElem (by omega)]; rfl, boxOf_free w g _ h⟩
theorem boxOf_new (w : World) (cs : List Value) (t : TypeId) (g : Nat) (hg : g = w.heap.size) : boxOf (w.alloc (.cells cs.toArray t)) g = some cs := by
  subst hg; exact boxOf_iff.2 ⟨t, heap_alloc_new w _⟩
theorem boxOf_newA (w : World) (cs : Array Value) (t : TypeId) (g : Nat) (hg : g = w.heap.size) : boxOf (w.alloc (.cells cs t)) g = some cs.toList := by
  subst hg; exact boxOf_iff.2 ⟨t, by simpa using heap_alloc_new w _⟩
theorem boxOf_old (w : World) (o : Obj) (g : Nat) {cs : List Value} (h : boxOf w g = some cs) : boxOf (w.alloc o) g = some cs := boxOf_keep h ((Below.refl _ _).alloc (Nat.le_refl _) _)
theorem boxOf_drew (w : World) (g : Nat) : boxOf w.drew g = boxOf w g := id rfl
theorem boxOf_drewN (w : World) (g n : Nat) : boxOf (w.drewN n) g = boxOf w g := by
  induction n generalizing w with
  | zero => rfl
  | succ n ih => exact (ih w.drew).trans (boxOf_drew w g)
theorem boxOf_set (w : World) (g i : Nat) (v : Value) {cs : List Value} (h : boxOf w g = some cs) : boxOf (w.setCell ⟨g, i, none⟩ v) g = some (cs.set i v) := by
  have hl := boxOf_lt h
  obtain ⟨t, h⟩ := boxOf_iff.1 h
  refine boxOf_iff.2 ⟨t, ?_⟩
  simp [World.setCell, Array.getElem?_modify, h]
theorem boxOf_far (w : World) (p : Addr) (v : Value) (g : Nat) (hg : p.block ≠ g) : boxOf (w.setCell p v) g = boxOf w g := by
  simp [boxOf, World.setCell, Array.getElem?_modify, hg]
/-- Cells from a place on, others instead. -/
def boxD (w : World) (g : Nat) : List Value := (boxOf w g).getD []
theorem box_some {w : World} {g : Nat} (h : 0 < ((boxOf w g).getD []).length) : boxOf w g = some ((boxOf w g).getD []) := by
  cases hb : boxOf w g with
  | none => rw [hb] at h; simp at h
  | some cs => rfl
theorem box_is {w : World} {g : Nat} (h : (boxOf w g).isSome = true) : boxOf w g = some ((boxOf w g).getD []) := by
  obtain ⟨cs, h⟩ := Option.isSome_iff_exists.1 h; rw [h]; rfl
theorem boxOf_at' (w : World) (g i : Nat) (h : (boxOf w g).isSome = true) : w.cell? ⟨g, i, none⟩ = ((boxOf w g).getD [])[i]? := boxOf_at w g i (box_is h)
theorem boxOf_free' (w : World) (g i : Nat) (h : (boxOf w g).isSome = true) : w.frozen? ⟨g, i, none⟩ = false := boxOf_free w g i (box_is h)
theorem boxOf_old' (w : World) (o : Obj) (g : Nat) (h : (boxOf w g).isSome = true) : boxOf (w.alloc o) g = boxOf w g := (boxOf_old w o g (box_is h)).trans (box_is h).symm
/-- Each is one cell. -/
def ones (vs : List Value) : Prop := vs.all (·.oneCell') = true
def sub (o n : Nat) (cs : List Value) : List Value := (cs.drop o).take n
def put (o : Nat) (vs cs : List Value) : List Value := (putCs cs.toArray o vs).toList
theorem put_nil (o : Nat) (cs : List Value) : put o [] cs = cs := rfl
theorem put_cons (o : Nat) (v : Value) (vs cs : List Value) : put o (v :: vs) cs = put (o + 1) vs (cs.set o v) := by simp [put, putCs]
theorem put_all (vs cs : List Value) (h : vs.length = cs.length) : put 0 vs cs = vs := by
  have := putCs_all vs.toArray cs.toArray (by simpa using h)
  rw [put]; exact congrArg Array.toList this
theorem boxOf_sets (g : Nat) : ∀ (vs : List Value) (o : Nat) (w : World) (cs : List Value), boxOf w g = some cs → boxOf (w.setCells g o vs) g = some (put o vs cs)
  | [], o, w, cs, h => h
  | v :: r, o, w, cs, h => by
    rw [World.setCells, put_cons]
    exact boxOf_sets g r (o + 1) _ _ (boxOf_set w g o v h)
theorem boxOf_sets_far (g h : Nat) (hg : g ≠ h) : ∀ (vs : List Value) (o : Nat) (w : World), boxOf (w.setCells g o vs) h = boxOf w h
  | [], o, w => rfl
  | v :: r, o, w => by
    rw [World.setCells, boxOf_sets_far g h hg r (o + 1) _, boxOf_far _ _ _ _ hg]
theorem size_sets (g : Nat) : ∀ (vs : List Value) (o : Nat) (w : World), (w.setCells g o vs).heap.size = w.heap.size
  | [], o, w => rfl
  | v :: r, o, w => by rw [World.setCells, size_sets g r]; simp
/-- The same, without conditions. -/
def objBox : Obj → Option (List Value)
  | .cells zs _ (0, 0) => some zs.toList
  | _ => none
theorem objBox_cells (zs : List Value) (t : TypeId) : objBox (.cells zs.toArray t) = some zs := id rfl
theorem objBox_cellsA (zs : Array Value) (t : TypeId) : objBox (.cells zs t) = some zs.toList := id rfl
theorem boxOf_alloc (w : World) (o : Obj) (g : Nat) : boxOf (w.alloc o) g = if g = w.heap.size then objBox o else boxOf w g := by
  split
  · rename_i h; subst h
    simp only [boxOf, heap_alloc_new]
    unfold objBox; split <;> split <;> simp_all
  · rename_i h
    have : (w.alloc o).heap[g]? = w.heap[g]? := by rw [show (w.alloc o).heap = w.heap.push o from rfl, Array.getElem?_push, if_neg h]
    simp only [boxOf, this]
theorem boxOf_setI (w : World) (h i g : Nat) (v : Value) : boxOf (w.setCell ⟨h, i, none⟩ v) g = if h = g then (boxOf w g).map (·.set i v) else boxOf w g := by
  split
  · rename_i e; subst e
    cases hb : boxOf w h with
    | some cs => exact boxOf_set w h i v hb
    | none =>
      simp only [boxOf, World.setCell, Array.getElem?_modify, if_true] at hb ⊢
      cases hh : w.heap[h]? with
      | none => simp
      | some o =>
        rw [hh] at hb
        cases o <;> simp_all
        split <;> simp_all
  · rename_i e; exact boxOf_far w _ v g e
theorem boxOf_setsI (w : World) (h o g : Nat) (vs : List Value) : boxOf (w.setCells h o vs) g = if h = g then (boxOf w g).map (put o vs) else boxOf w g := by
  split
  · rename_i e; subst e
    cases hb : boxOf w h with
    | some cs => exact boxOf_sets h vs o w cs hb
    | none =>
      induction vs generalizing w o with
      | nil => exact hb
      | cons v r ih =>
        rw [World.setCells]
        refine ih _ _ ?_
        rw [boxOf_setI, if_pos rfl, hb]; rfl
  · rename_i e; exact boxOf_sets_far h g e vs o w
/-- A store of a whole box. -/
theorem boxOf_whole (w : World) (g : Nat) (vs : List Value) {cs : List Value} (h : boxOf w g = some cs) (hl : vs.length = cs.length) : boxOf (w.setCells g 0 vs) g = some vs := by
  rw [boxOf_sets g vs 0 w cs h, put_all vs cs hl]
theorem sub_range {w : World} {g o n : Nat} {cs : List Value} (h : boxOf w g = some cs) (hn : o + n ≤ cs.length) : w.rangeAt g o (sub o n cs) := fun j v hv => by
  rw [boxOf_at w g _ h]
  have hj : j < n := by
    have := (List.getElem?_eq_some_iff.1 hv).1
    simp [sub] at this; omega
  simpa [sub, List.getElem?_take, hj] using hv
theorem sub_length {o n : Nat} {cs : List Value} (hn : o + n ≤ cs.length) : (sub o n cs).length = n := by simp [sub]; omega
/-- Loads, stores, allocs of that type, as one step each. -/
def lbTn (a : Addr) : Sem Value := loadVar 38 a
theorem lbTn_is (a : Addr) : loadVar 38 a = lbTn a := rfl
theorem run_lbTn (w : World) (g o : Nat) (hn : o + 37 ≤ ((boxOf w g).getD []).length) : (lbTn ⟨g, o, none⟩).run Try.prog w = .ok (.agg (sub o 37 ((boxOf w g).getD [])).toArray) w :=
  run_loadVar_mid w g o 38 (sub o 37 ((boxOf w g).getD [])) _ (sub_range (box_some (by omega)) hn) Try.underlying38 rfl (by rw [sub_length hn]; kernel_rfl)
def sbTn (a : Addr) (v : Value) : Sem Unit := storeVar 38 a v
theorem sbTn_is (a : Addr) (v : Value) : storeVar 38 a v = sbTn a v := rfl
theorem run_sbTn (w : World) (vs : List Value) (g o : Nat) (hn : o + 37 ≤ ((boxOf w g).getD []).length) (hv : vs.length = 37) (h1 : ones vs) : (sbTn ⟨g, o, none⟩ (.agg vs.toArray)).run Try.prog w = .ok () (w.setCells g o vs) :=
  run_storeVar_mid w g o 38 vs.toArray (by simpa [hv] using boxOf_there (box_some (by omega)) o 37 hn) (by rw [List.size_toArray, hv]; kernel_rfl) (by simpa [ones] using h1)
/-- Loads, stores, allocs of that type, as one step each. -/
def lbRn (a : Addr) : Sem Value := loadVar 64 a
theorem lbRn_is (a : Addr) : loadVar 64 a = lbRn a := rfl
theorem run_lbRn (w : World) (g o : Nat) (hn : o + 37 ≤ ((boxOf w g).getD []).length) : (lbRn ⟨g, o, none⟩).run Try.prog w = .ok (.agg (sub o 37 ((boxOf w g).getD [])).toArray) w :=
  run_loadVar_mid w g o 64 (sub o 37 ((boxOf w g).getD [])) _ (sub_range (box_some (by omega)) hn) Try.underlying64 rfl (by rw [sub_length hn]; kernel_rfl)
def sbRn (a : Addr) (v : Value) : Sem Unit := storeVar 64 a v
theorem sbRn_is (a : Addr) (v : Value) : storeVar 64 a v = sbRn a v := rfl
theorem run_sbRn (w : World) (vs : List Value) (g o : Nat) (hn : o + 37 ≤ ((boxOf w g).getD []).length) (hv : vs.length = 37) (h1 : ones vs) : (sbRn ⟨g, o, none⟩ (.agg vs.toArray)).run Try.prog w = .ok () (w.setCells g o vs) :=
  run_storeVar_mid w g o 64 vs.toArray (by simpa [hv] using boxOf_there (box_some (by omega)) o 37 hn) (by rw [List.size_toArray, hv]; kernel_rfl) (by simpa [ones] using h1)
/-- Loads, stores, allocs of that type, as one step each. -/
def lbTh (a : Addr) : Sem Value := loadVar 33 a
theorem lbTh_is (a : Addr) : loadVar 33 a = lbTh a := rfl
theorem run_lbTh (w : World) (g o : Nat) (hn : o + 17 ≤ ((boxOf w g).getD []).length) : (lbTh ⟨g, o, none⟩).run Try.prog w = .ok (.agg (sub o 17 ((boxOf w g).getD [])).toArray) w :=
  run_loadVar_mid w g o 33 (sub o 17 ((boxOf w g).getD [])) _ (sub_range (box_some (by omega)) hn) Try.underlying33 rfl (by rw [sub_length hn]; kernel_rfl)
def sbTh (a : Addr) (v : Value) : Sem Unit := storeVar 33 a v
theorem sbTh_is (a : Addr) (v : Value) : storeVar 33 a v = sbTh a v := rfl
theorem run_sbTh (w : World) (vs : List Value) (g o : Nat) (hn : o + 17 ≤ ((boxOf w g).getD []).length) (hv : vs.length = 17) (h1 : ones vs) : (sbTh ⟨g, o, none⟩ (.agg vs.toArray)).run Try.prog w = .ok () (w.setCells g o vs) :=
  run_storeVar_mid w g o 33 vs.toArray (by simpa [hv] using boxOf_there (box_some (by omega)) o 17 hn) (by rw [List.size_toArray, hv]; kernel_rfl) (by simpa [ones] using h1)
/-- Loads, stores, allocs of that type, as one step each. -/
def lbRh (a : Addr) : Sem Value := loadVar 60 a
theorem lbRh_is (a : Addr) : loadVar 60 a = lbRh a := rfl
theorem run_lbRh (w : World) (g o : Nat) (hn : o + 17 ≤ ((boxOf w g).getD []).length) : (lbRh ⟨g, o, none⟩).run Try.prog w = .ok (.agg (sub o 17 ((boxOf w g).getD [])).toArray) w :=
  run_loadVar_mid w g o 60 (sub o 17 ((boxOf w g).getD [])) _ (sub_range (box_some (by omega)) hn) Try.underlying60 rfl (by rw [sub_length hn]; kernel_rfl)
def sbRh (a : Addr) (v : Value) : Sem Unit := storeVar 60 a v
theorem sbRh_is (a : Addr) (v : Value) : storeVar 60 a v = sbRh a v := rfl
theorem run_sbRh (w : World) (vs : List Value) (g o : Nat) (hn : o + 17 ≤ ((boxOf w g).getD []).length) (hv : vs.length = 17) (h1 : ones vs) : (sbRh ⟨g, o, none⟩ (.agg vs.toArray)).run Try.prog w = .ok () (w.setCells g o vs) :=
  run_storeVar_mid w g o 60 vs.toArray (by simpa [hv] using boxOf_there (box_some (by omega)) o 17 hn) (by rw [List.size_toArray, hv]; kernel_rfl) (by simpa [ones] using h1)
/-- Loads, stores, allocs of that type, as one step each. -/
def lbCf (a : Addr) : Sem Value := loadVar 23 a
theorem lbCf_is (a : Addr) : loadVar 23 a = lbCf a := rfl
theorem run_lbCf (w : World) (g o : Nat) (hn : o + 12 ≤ ((boxOf w g).getD []).length) : (lbCf ⟨g, o, none⟩).run Try.prog w = .ok (.agg (sub o 12 ((boxOf w g).getD [])).toArray) w :=
  run_loadVar_mid w g o 23 (sub o 12 ((boxOf w g).getD [])) _ (sub_range (box_some (by omega)) hn) Try.underlying23 rfl (by rw [sub_length hn]; kernel_rfl)
def sbCf (a : Addr) (v : Value) : Sem Unit := storeVar 23 a v
theorem sbCf_is (a : Addr) (v : Value) : storeVar 23 a v = sbCf a v := rfl
theorem run_sbCf (w : World) (vs : List Value) (g o : Nat) (hn : o + 12 ≤ ((boxOf w g).getD []).length) (hv : vs.length = 12) (h1 : ones vs) : (sbCf ⟨g, o, none⟩ (.agg vs.toArray)).run Try.prog w = .ok () (w.setCells g o vs) :=
  run_storeVar_mid w g o 23 vs.toArray (by simpa [hv] using boxOf_there (box_some (by omega)) o 12 hn) (by rw [List.size_toArray, hv]; kernel_rfl) (by simpa [ones] using h1)
/-- Loads, stores, allocs of that type, as one step each. -/
def lbRc (a : Addr) : Sem Value := loadVar 39 a
theorem lbRc_is (a : Addr) : loadVar 39 a = lbRc a := rfl
theorem run_lbRc (w : World) (g o : Nat) (hn : o + 12 ≤ ((boxOf w g).getD []).length) : (lbRc ⟨g, o, none⟩).run Try.prog w = .ok (.agg (sub o 12 ((boxOf w g).getD [])).toArray) w :=
  run_loadVar_mid w g o 39 (sub o 12 ((boxOf w g).getD [])) _ (sub_range (box_some (by omega)) hn) Try.underlying39 rfl (by rw [sub_length hn]; kernel_rfl)
def sbRc (a : Addr) (v : Value) : Sem Unit := storeVar 39 a v
theorem sbRc_is (a : Addr) (v : Value) : storeVar 39 a v = sbRc a v := rfl
theorem run_sbRc (w : World) (vs : List Value) (g o : Nat) (hn : o + 12 ≤ ((boxOf w g).getD []).length) (hv : vs.length = 12) (h1 : ones vs) : (sbRc ⟨g, o, none⟩ (.agg vs.toArray)).run Try.prog w = .ok () (w.setCells g o vs) :=
  run_storeVar_mid w g o 39 vs.toArray (by simpa [hv] using boxOf_there (box_some (by omega)) o 12 hn) (by rw [List.size_toArray, hv]; kernel_rfl) (by simpa [ones] using h1)
/-- A turn of noughts, made. -/
def zT : List Value := (.int .i64 0 :: .int .i64 0 :: .int .i64 0 :: .int .i64 0 :: .int .i64 0 :: .int .i64 0 :: .int .i64 0 :: .int .i64 0 :: .bool false :: .int .i64 0 :: .int .i64 0 :: .int .i64 0 :: .int .i64 0 :: .int .i64 0 :: .slice none 0 0 :: .slice none 0 0 :: .int .i64 0 :: .int .i64 0 :: .int .i64 0 :: .int .i64 0 :: .slice none 0 0 :: .slice none 0 0 :: .slice none 0 0 :: .int .i64 0 :: .int .i64 0 :: .int .i64 0 :: .int .i64 0 :: .int .i64 0 :: .int .i64 0 :: .int .i64 0 :: .int .i64 0 :: .int .i64 0 :: .int .i64 0 :: .slice none 0 0 :: .int .i64 0 :: .slice none 0 0 :: .bool false :: [])
theorem zT_length : zT.length = 37 := id rfl
def alTn (h : Bool) (o : Value) : Sem Value := Instr.alloc 38 h o
theorem alTn_is (h : Bool) (o : Value) : Instr.alloc 38 h o = alTn h o := rfl
theorem run_alTnf (w : World) : (alTn false undef).run Try.prog w = .ok (.pointer (some ⟨w.heap.size, 0, none⟩)) (w.alloc (.cells zT.toArray 38)) := by kernel_rfl
theorem run_alTnt (w : World) (o : Value) : (alTn true o).run Try.prog w = .ok (.pointer (some ⟨w.heap.size, 0, none⟩)) (w.alloc (.cells zT.toArray 38)) := by kernel_rfl
def alRn (h : Bool) (o : Value) : Sem Value := Instr.alloc 64 h o
theorem alRn_is (h : Bool) (o : Value) : Instr.alloc 64 h o = alRn h o := rfl
theorem run_alRnf (w : World) : (alRn false undef).run Try.prog w = .ok (.pointer (some ⟨w.heap.size, 0, none⟩)) (w.alloc (.cells zT.toArray 64)) := by kernel_rfl
theorem run_alRnt (w : World) (o : Value) : (alRn true o).run Try.prog w = .ok (.pointer (some ⟨w.heap.size, 0, none⟩)) (w.alloc (.cells zT.toArray 64)) := by kernel_rfl
theorem tcs_length (u : Tn) (a : TA) : (tcs u a).length = 37 := id rfl
theorem thc_length (d : Dt) (p : Ad) : (thc d p).length = 17 := id rfl
theorem ccs_length (c : Cf) : (ccs c).length = 12 := id rfl
theorem tcs_one (u : Tn) (a : TA) : ones (tcs u a) := id rfl
theorem thc_one (d : Dt) (p : Ad) : ones (thc d p) := id rfl
theorem ccs_one (c : Cf) : ones (ccs c) := id rfl
theorem sub_tn (u : Tn) (a : TA) : sub 0 37 (tcs u a) = tcs u a := id rfl
theorem sub_th (u : Tn) (a : TA) : sub 16 17 (tcs u a) = thc u.d a.p := id rfl
theorem sub_cf (u : Tn) (a : TA) : sub 0 12 (tcs u a) = ccs u.c := id rfl
theorem sub_thAll (d : Dt) (p : Ad) : sub 0 17 (thc d p) = thc d p := id rfl
theorem sub_cfAll (c : Cf) : sub 0 12 (ccs c) = ccs c := id rfl
theorem put_turn (v : Tn) (b : TA) (cs : List Value) (h : cs.length = 37) : put 0 (tcs v b) cs = tcs v b := put_all _ _ h.symm
theorem tc0 (u : Tn) (a : TA) : (tcs u a)[0]? = some (.int .i64 u.c.x0) := id rfl
theorem tc1 (u : Tn) (a : TA) : (tcs u a)[1]? = some (.int .i64 u.c.x1) := id rfl
theorem tc2 (u : Tn) (a : TA) : (tcs u a)[2]? = some (.int .i64 u.c.x2) := id rfl
theorem tc3 (u : Tn) (a : TA) : (tcs u a)[3]? = some (.int .i64 u.c.x3) := id rfl
theorem tc4 (u : Tn) (a : TA) : (tcs u a)[4]? = some (.int .i64 u.c.x4) := id rfl
theorem tc5 (u : Tn) (a : TA) : (tcs u a)[5]? = some (.int .i64 u.c.x5) := id rfl
theorem tc6 (u : Tn) (a : TA) : (tcs u a)[6]? = some (.int .i64 u.c.x6) := id rfl
theorem tc7 (u : Tn) (a : TA) : (tcs u a)[7]? = some (.int .i64 u.c.x7) := id rfl
theorem tc8 (u : Tn) (a : TA) : (tcs u a)[8]? = some (.bool u.c.b) := id rfl
theorem tc9 (u : Tn) (a : TA) : (tcs u a)[9]? = some (.int .i64 u.c.x9) := id rfl
theorem tc10 (u : Tn) (a : TA) : (tcs u a)[10]? = some (.int .i64 u.c.x10) := id rfl
theorem tc11 (u : Tn) (a : TA) : (tcs u a)[11]? = some (.int .i64 u.c.x11) := id rfl
theorem tc12 (u : Tn) (a : TA) : (tcs u a)[12]? = some (.int .i64 u.tt) := id rfl
theorem tc13 (u : Tn) (a : TA) : (tcs u a)[13]? = some (.int .i64 u.now) := id rfl
theorem tc14 (u : Tn) (a : TA) : (tcs u a)[14]? = some (.slice a.mA u.ws.length a.mc) := id rfl
theorem tc15 (u : Tn) (a : TA) : (tcs u a)[15]? = some (.slice a.mB a.bs.length a.md) := id rfl
theorem tc16 (u : Tn) (a : TA) : (tcs u a)[16]? = some (.int .i64 u.d.ph) := id rfl
theorem tc17 (u : Tn) (a : TA) : (tcs u a)[17]? = some (.int .i64 u.d.it) := id rfl
theorem tc18 (u : Tn) (a : TA) : (tcs u a)[18]? = some (.int .i64 u.d.tg) := id rfl
theorem tc19 (u : Tn) (a : TA) : (tcs u a)[19]? = some (.int .i64 u.d.v) := id rfl
theorem tc20 (u : Tn) (a : TA) : (tcs u a)[20]? = some (.slice a.p.bA u.d.bl.length a.p.bc) := id rfl
theorem tc21 (u : Tn) (a : TA) : (tcs u a)[21]? = some (.slice a.p.kA u.d.kl.length a.p.kc) := id rfl
theorem tc22 (u : Tn) (a : TA) : (tcs u a)[22]? = some (.slice a.p.hA u.d.hl.length a.p.hc) := id rfl
theorem tc23 (u : Tn) (a : TA) : (tcs u a)[23]? = some (.int .i64 u.d.st) := id rfl
theorem tc24 (u : Tn) (a : TA) : (tcs u a)[24]? = some (.int .i64 u.d.nd) := id rfl
theorem tc25 (u : Tn) (a : TA) : (tcs u a)[25]? = some (.int .i64 u.d.pl) := id rfl
theorem tc26 (u : Tn) (a : TA) : (tcs u a)[26]? = some (.int .i64 u.d.ly) := id rfl
theorem tc27 (u : Tn) (a : TA) : (tcs u a)[27]? = some (.int .i64 u.d.lf) := id rfl
theorem tc28 (u : Tn) (a : TA) : (tcs u a)[28]? = some (.int .i64 u.d.wd) := id rfl
theorem tc29 (u : Tn) (a : TA) : (tcs u a)[29]? = some (.int .i64 u.d.who) := id rfl
theorem tc30 (u : Tn) (a : TA) : (tcs u a)[30]? = some (.int .i64 u.d.x) := id rfl
theorem tc31 (u : Tn) (a : TA) : (tcs u a)[31]? = some (.int .i64 u.d.y) := id rfl
theorem tc32 (u : Tn) (a : TA) : (tcs u a)[32]? = some (.int .i64 u.d.un) := id rfl
theorem tc33 (u : Tn) (a : TA) : (tcs u a)[33]? = some (.slice a.tA u.tl.length a.tc) := id rfl
theorem tc34 (u : Tn) (a : TA) : (tcs u a)[34]? = some (.int .i64 u.ta) := id rfl
theorem tc35 (u : Tn) (a : TA) : (tcs u a)[35]? = some (.slice a.lA u.ll.length a.lc) := id rfl
theorem tc36 (u : Tn) (a : TA) : (tcs u a)[36]? = some (.bool u.dn) := id rfl
theorem hc0 (d : Dt) (p : Ad) : (thc d p)[0]? = some (.int .i64 d.ph) := id rfl
theorem hc1 (d : Dt) (p : Ad) : (thc d p)[1]? = some (.int .i64 d.it) := id rfl
theorem hc2 (d : Dt) (p : Ad) : (thc d p)[2]? = some (.int .i64 d.tg) := id rfl
theorem hc3 (d : Dt) (p : Ad) : (thc d p)[3]? = some (.int .i64 d.v) := id rfl
theorem hc4 (d : Dt) (p : Ad) : (thc d p)[4]? = some (.slice p.bA d.bl.length p.bc) := id rfl
theorem hc5 (d : Dt) (p : Ad) : (thc d p)[5]? = some (.slice p.kA d.kl.length p.kc) := id rfl
theorem hc6 (d : Dt) (p : Ad) : (thc d p)[6]? = some (.slice p.hA d.hl.length p.hc) := id rfl
theorem hc7 (d : Dt) (p : Ad) : (thc d p)[7]? = some (.int .i64 d.st) := id rfl
theorem hc8 (d : Dt) (p : Ad) : (thc d p)[8]? = some (.int .i64 d.nd) := id rfl
theorem hc9 (d : Dt) (p : Ad) : (thc d p)[9]? = some (.int .i64 d.pl) := id rfl
theorem hc10 (d : Dt) (p : Ad) : (thc d p)[10]? = some (.int .i64 d.ly) := id rfl
theorem hc11 (d : Dt) (p : Ad) : (thc d p)[11]? = some (.int .i64 d.lf) := id rfl
theorem hc12 (d : Dt) (p : Ad) : (thc d p)[12]? = some (.int .i64 d.wd) := id rfl
theorem hc13 (d : Dt) (p : Ad) : (thc d p)[13]? = some (.int .i64 d.who) := id rfl
theorem hc14 (d : Dt) (p : Ad) : (thc d p)[14]? = some (.int .i64 d.x) := id rfl
theorem hc15 (d : Dt) (p : Ad) : (thc d p)[15]? = some (.int .i64 d.y) := id rfl
theorem hc16 (d : Dt) (p : Ad) : (thc d p)[16]? = some (.int .i64 d.un) := id rfl
theorem kc0 (c : Cf) : (ccs c)[0]? = some (.int .i64 c.x0) := id rfl
theorem kc1 (c : Cf) : (ccs c)[1]? = some (.int .i64 c.x1) := id rfl
theorem kc2 (c : Cf) : (ccs c)[2]? = some (.int .i64 c.x2) := id rfl
theorem kc3 (c : Cf) : (ccs c)[3]? = some (.int .i64 c.x3) := id rfl
theorem kc4 (c : Cf) : (ccs c)[4]? = some (.int .i64 c.x4) := id rfl
theorem kc5 (c : Cf) : (ccs c)[5]? = some (.int .i64 c.x5) := id rfl
theorem kc6 (c : Cf) : (ccs c)[6]? = some (.int .i64 c.x6) := id rfl
theorem kc7 (c : Cf) : (ccs c)[7]? = some (.int .i64 c.x7) := id rfl
theorem kc8 (c : Cf) : (ccs c)[8]? = some (.bool c.b) := id rfl
theorem kc9 (c : Cf) : (ccs c)[9]? = some (.int .i64 c.x9) := id rfl
theorem kc10 (c : Cf) : (ccs c)[10]? = some (.int .i64 c.x10) := id rfl
theorem kc11 (c : Cf) : (ccs c)[11]? = some (.int .i64 c.x11) := id rfl
theorem tg0 (u : Tn) (a : TA) (h : 0 < (tcs u a).length) : (tcs u a)[0]'h = .int .i64 u.c.x0 := id rfl
theorem tg1 (u : Tn) (a : TA) (h : 1 < (tcs u a).length) : (tcs u a)[1]'h = .int .i64 u.c.x1 := id rfl
theorem tg2 (u : Tn) (a : TA) (h : 2 < (tcs u a).length) : (tcs u a)[2]'h = .int .i64 u.c.x2 := id rfl
theorem tg3 (u : Tn) (a : TA) (h : 3 < (tcs u a).length) : (tcs u a)[3]'h = .int .i64 u.c.x3 := id rfl
theorem tg4 (u : Tn) (a : TA) (h : 4 < (tcs u a).length) : (tcs u a)[4]'h = .int .i64 u.c.x4 := id rfl
theorem tg5 (u : Tn) (a : TA) (h : 5 < (tcs u a).length) : (tcs u a)[5]'h = .int .i64 u.c.x5 := id rfl
theorem tg6 (u : Tn) (a : TA) (h : 6 < (tcs u a).length) : (tcs u a)[6]'h = .int .i64 u.c.x6 := id rfl
theorem tg7 (u : Tn) (a : TA) (h : 7 < (tcs u a).length) : (tcs u a)[7]'h = .int .i64 u.c.x7 := id rfl
theorem tg8 (u : Tn) (a : TA) (h : 8 < (tcs u a).length) : (tcs u a)[8]'h = .bool u.c.b := id rfl
theorem tg9 (u : Tn) (a : TA) (h : 9 < (tcs u a).length) : (tcs u a)[9]'h = .int .i64 u.c.x9 := id rfl
theorem tg10 (u : Tn) (a : TA) (h : 10 < (tcs u a).length) : (tcs u a)[10]'h = .int .i64 u.c.x10 := id rfl
theorem tg11 (u : Tn) (a : TA) (h : 11 < (tcs u a).length) : (tcs u a)[11]'h = .int .i64 u.c.x11 := id rfl
theorem tg12 (u : Tn) (a : TA) (h : 12 < (tcs u a).length) : (tcs u a)[12]'h = .int .i64 u.tt := id rfl
theorem tg13 (u : Tn) (a : TA) (h : 13 < (tcs u a).length) : (tcs u a)[13]'h = .int .i64 u.now := id rfl
theorem tg14 (u : Tn) (a : TA) (h : 14 < (tcs u a).length) : (tcs u a)[14]'h = .slice a.mA u.ws.length a.mc := id rfl
theorem tg15 (u : Tn) (a : TA) (h : 15 < (tcs u a).length) : (tcs u a)[15]'h = .slice a.mB a.bs.length a.md := id rfl
theorem tg16 (u : Tn) (a : TA) (h : 16 < (tcs u a).length) : (tcs u a)[16]'h = .int .i64 u.d.ph := id rfl
theorem tg17 (u : Tn) (a : TA) (h : 17 < (tcs u a).length) : (tcs u a)[17]'h = .int .i64 u.d.it := id rfl
theorem tg18 (u : Tn) (a : TA) (h : 18 < (tcs u a).length) : (tcs u a)[18]'h = .int .i64 u.d.tg := id rfl
theorem tg19 (u : Tn) (a : TA) (h : 19 < (tcs u a).length) : (tcs u a)[19]'h = .int .i64 u.d.v := id rfl
theorem tg20 (u : Tn) (a : TA) (h : 20 < (tcs u a).length) : (tcs u a)[20]'h = .slice a.p.bA u.d.bl.length a.p.bc := id rfl
theorem tg21 (u : Tn) (a : TA) (h : 21 < (tcs u a).length) : (tcs u a)[21]'h = .slice a.p.kA u.d.kl.length a.p.kc := id rfl
theorem tg22 (u : Tn) (a : TA) (h : 22 < (tcs u a).length) : (tcs u a)[22]'h = .slice a.p.hA u.d.hl.length a.p.hc := id rfl
theorem tg23 (u : Tn) (a : TA) (h : 23 < (tcs u a).length) : (tcs u a)[23]'h = .int .i64 u.d.st := id rfl
theorem tg24 (u : Tn) (a : TA) (h : 24 < (tcs u a).length) : (tcs u a)[24]'h = .int .i64 u.d.nd := id rfl
theorem tg25 (u : Tn) (a : TA) (h : 25 < (tcs u a).length) : (tcs u a)[25]'h = .int .i64 u.d.pl := id rfl
theorem tg26 (u : Tn) (a : TA) (h : 26 < (tcs u a).length) : (tcs u a)[26]'h = .int .i64 u.d.ly := id rfl
theorem tg27 (u : Tn) (a : TA) (h : 27 < (tcs u a).length) : (tcs u a)[27]'h = .int .i64 u.d.lf := id rfl
theorem tg28 (u : Tn) (a : TA) (h : 28 < (tcs u a).length) : (tcs u a)[28]'h = .int .i64 u.d.wd := id rfl
theorem tg29 (u : Tn) (a : TA) (h : 29 < (tcs u a).length) : (tcs u a)[29]'h = .int .i64 u.d.who := id rfl
theorem tg30 (u : Tn) (a : TA) (h : 30 < (tcs u a).length) : (tcs u a)[30]'h = .int .i64 u.d.x := id rfl
theorem tg31 (u : Tn) (a : TA) (h : 31 < (tcs u a).length) : (tcs u a)[31]'h = .int .i64 u.d.y := id rfl
theorem tg32 (u : Tn) (a : TA) (h : 32 < (tcs u a).length) : (tcs u a)[32]'h = .int .i64 u.d.un := id rfl
theorem tg33 (u : Tn) (a : TA) (h : 33 < (tcs u a).length) : (tcs u a)[33]'h = .slice a.tA u.tl.length a.tc := id rfl
theorem tg34 (u : Tn) (a : TA) (h : 34 < (tcs u a).length) : (tcs u a)[34]'h = .int .i64 u.ta := id rfl
theorem tg35 (u : Tn) (a : TA) (h : 35 < (tcs u a).length) : (tcs u a)[35]'h = .slice a.lA u.ll.length a.lc := id rfl
theorem tg36 (u : Tn) (a : TA) (h : 36 < (tcs u a).length) : (tcs u a)[36]'h = .bool u.dn := id rfl
theorem hg0 (d : Dt) (p : Ad) (h : 0 < (thc d p).length) : (thc d p)[0]'h = .int .i64 d.ph := id rfl
theorem hg1 (d : Dt) (p : Ad) (h : 1 < (thc d p).length) : (thc d p)[1]'h = .int .i64 d.it := id rfl
theorem hg2 (d : Dt) (p : Ad) (h : 2 < (thc d p).length) : (thc d p)[2]'h = .int .i64 d.tg := id rfl
theorem hg3 (d : Dt) (p : Ad) (h : 3 < (thc d p).length) : (thc d p)[3]'h = .int .i64 d.v := id rfl
theorem hg4 (d : Dt) (p : Ad) (h : 4 < (thc d p).length) : (thc d p)[4]'h = .slice p.bA d.bl.length p.bc := id rfl
theorem hg5 (d : Dt) (p : Ad) (h : 5 < (thc d p).length) : (thc d p)[5]'h = .slice p.kA d.kl.length p.kc := id rfl
theorem hg6 (d : Dt) (p : Ad) (h : 6 < (thc d p).length) : (thc d p)[6]'h = .slice p.hA d.hl.length p.hc := id rfl
theorem hg7 (d : Dt) (p : Ad) (h : 7 < (thc d p).length) : (thc d p)[7]'h = .int .i64 d.st := id rfl
theorem hg8 (d : Dt) (p : Ad) (h : 8 < (thc d p).length) : (thc d p)[8]'h = .int .i64 d.nd := id rfl
theorem hg9 (d : Dt) (p : Ad) (h : 9 < (thc d p).length) : (thc d p)[9]'h = .int .i64 d.pl := id rfl
theorem hg10 (d : Dt) (p : Ad) (h : 10 < (thc d p).length) : (thc d p)[10]'h = .int .i64 d.ly := id rfl
theorem hg11 (d : Dt) (p : Ad) (h : 11 < (thc d p).length) : (thc d p)[11]'h = .int .i64 d.lf := id rfl
theorem hg12 (d : Dt) (p : Ad) (h : 12 < (thc d p).length) : (thc d p)[12]'h = .int .i64 d.wd := id rfl
theorem hg13 (d : Dt) (p : Ad) (h : 13 < (thc d p).length) : (thc d p)[13]'h = .int .i64 d.who := id rfl
theorem hg14 (d : Dt) (p : Ad) (h : 14 < (thc d p).length) : (thc d p)[14]'h = .int .i64 d.x := id rfl
theorem hg15 (d : Dt) (p : Ad) (h : 15 < (thc d p).length) : (thc d p)[15]'h = .int .i64 d.y := id rfl
theorem hg16 (d : Dt) (p : Ad) (h : 16 < (thc d p).length) : (thc d p)[16]'h = .int .i64 d.un := id rfl
theorem kg0 (c : Cf) (h : 0 < (ccs c).length) : (ccs c)[0]'h = .int .i64 c.x0 := id rfl
theorem kg1 (c : Cf) (h : 1 < (ccs c).length) : (ccs c)[1]'h = .int .i64 c.x1 := id rfl
theorem kg2 (c : Cf) (h : 2 < (ccs c).length) : (ccs c)[2]'h = .int .i64 c.x2 := id rfl
theorem kg3 (c : Cf) (h : 3 < (ccs c).length) : (ccs c)[3]'h = .int .i64 c.x3 := id rfl
theorem kg4 (c : Cf) (h : 4 < (ccs c).length) : (ccs c)[4]'h = .int .i64 c.x4 := id rfl
theorem kg5 (c : Cf) (h : 5 < (ccs c).length) : (ccs c)[5]'h = .int .i64 c.x5 := id rfl
theorem kg6 (c : Cf) (h : 6 < (ccs c).length) : (ccs c)[6]'h = .int .i64 c.x6 := id rfl
theorem kg7 (c : Cf) (h : 7 < (ccs c).length) : (ccs c)[7]'h = .int .i64 c.x7 := id rfl
theorem kg8 (c : Cf) (h : 8 < (ccs c).length) : (ccs c)[8]'h = .bool c.b := id rfl
theorem kg9 (c : Cf) (h : 9 < (ccs c).length) : (ccs c)[9]'h = .int .i64 c.x9 := id rfl
theorem kg10 (c : Cf) (h : 10 < (ccs c).length) : (ccs c)[10]'h = .int .i64 c.x10 := id rfl
theorem kg11 (c : Cf) (h : 11 < (ccs c).length) : (ccs c)[11]'h = .int .i64 c.x11 := id rfl
theorem ts12 (u : Tn) (a : TA) (z : Int) : (tcs u a).set 12 (.int .i64 z) = tcs { u with tt := z } a := id rfl
theorem ts13 (u : Tn) (a : TA) (z : Int) : (tcs u a).set 13 (.int .i64 z) = tcs { u with now := z } a := id rfl
theorem ts14 (u : Tn) (a : TA) (A : Option Addr) (l : List Int) (k : Nat) : (tcs u a).set 14 (.slice A l.length k) = tcs { u with ws := l } { a with mA := A, mc := k } := id rfl
theorem ts16 (u : Tn) (a : TA) (z : Int) : (tcs u a).set 16 (.int .i64 z) = tcs { u with d := { u.d with ph := z } } a := id rfl
theorem ts17 (u : Tn) (a : TA) (z : Int) : (tcs u a).set 17 (.int .i64 z) = tcs { u with d := { u.d with it := z } } a := id rfl
theorem ts18 (u : Tn) (a : TA) (z : Int) : (tcs u a).set 18 (.int .i64 z) = tcs { u with d := { u.d with tg := z } } a := id rfl
theorem ts19 (u : Tn) (a : TA) (z : Int) : (tcs u a).set 19 (.int .i64 z) = tcs { u with d := { u.d with v := z } } a := id rfl
theorem ts20 (u : Tn) (a : TA) (A : Option Addr) (l : List E3) (k : Nat) : (tcs u a).set 20 (.slice A l.length k) = tcs { u with d := { u.d with bl := l } } { a with p := { a.p with bA := A, bc := k } } := id rfl
theorem ts21 (u : Tn) (a : TA) (A : Option Addr) (l : List (Int × Int)) (k : Nat) : (tcs u a).set 21 (.slice A l.length k) = tcs { u with d := { u.d with kl := l } } { a with p := { a.p with kA := A, kc := k } } := id rfl
theorem ts22 (u : Tn) (a : TA) (A : Option Addr) (l : List Int) (k : Nat) : (tcs u a).set 22 (.slice A l.length k) = tcs { u with d := { u.d with hl := l } } { a with p := { a.p with hA := A, hc := k } } := id rfl
theorem ts23 (u : Tn) (a : TA) (z : Int) : (tcs u a).set 23 (.int .i64 z) = tcs { u with d := { u.d with st := z } } a := id rfl
theorem ts24 (u : Tn) (a : TA) (z : Int) : (tcs u a).set 24 (.int .i64 z) = tcs { u with d := { u.d with nd := z } } a := id rfl
theorem ts25 (u : Tn) (a : TA) (z : Int) : (tcs u a).set 25 (.int .i64 z) = tcs { u with d := { u.d with pl := z } } a := id rfl
theorem ts26 (u : Tn) (a : TA) (z : Int) : (tcs u a).set 26 (.int .i64 z) = tcs { u with d := { u.d with ly := z } } a := id rfl
theorem ts27 (u : Tn) (a : TA) (z : Int) : (tcs u a).set 27 (.int .i64 z) = tcs { u with d := { u.d with lf := z } } a := id rfl
theorem ts28 (u : Tn) (a : TA) (z : Int) : (tcs u a).set 28 (.int .i64 z) = tcs { u with d := { u.d with wd := z } } a := id rfl
theorem ts29 (u : Tn) (a : TA) (z : Int) : (tcs u a).set 29 (.int .i64 z) = tcs { u with d := { u.d with who := z } } a := id rfl
theorem ts30 (u : Tn) (a : TA) (z : Int) : (tcs u a).set 30 (.int .i64 z) = tcs { u with d := { u.d with x := z } } a := id rfl
theorem ts31 (u : Tn) (a : TA) (z : Int) : (tcs u a).set 31 (.int .i64 z) = tcs { u with d := { u.d with y := z } } a := id rfl
theorem ts32 (u : Tn) (a : TA) (z : Int) : (tcs u a).set 32 (.int .i64 z) = tcs { u with d := { u.d with un := z } } a := id rfl
theorem ts33 (u : Tn) (a : TA) (A : Option Addr) (l : List Int) (k : Nat) : (tcs u a).set 33 (.slice A l.length k) = tcs { u with tl := l } { a with tA := A, tc := k } := id rfl
theorem ts34 (u : Tn) (a : TA) (z : Int) : (tcs u a).set 34 (.int .i64 z) = tcs { u with ta := z } a := id rfl
theorem ts35 (u : Tn) (a : TA) (A : Option Addr) (l : List M6) (k : Nat) : (tcs u a).set 35 (.slice A l.length k) = tcs { u with ll := l } { a with lA := A, lc := k } := id rfl
theorem ts36 (u : Tn) (a : TA) (z : Bool) : (tcs u a).set 36 (.bool z) = tcs { u with dn := z } a := id rfl
theorem ts15 (u : Tn) (a : TA) : (tcs u a).set 15 (.slice a.mB a.bs.length a.md) = tcs u a := id rfl
theorem hs0 (d : Dt) (p : Ad) (z : Int) : (thc d p).set 0 (.int .i64 z) = thc { d with ph := z } p := id rfl
theorem hs1 (d : Dt) (p : Ad) (z : Int) : (thc d p).set 1 (.int .i64 z) = thc { d with it := z } p := id rfl
theorem hs2 (d : Dt) (p : Ad) (z : Int) : (thc d p).set 2 (.int .i64 z) = thc { d with tg := z } p := id rfl
theorem hs3 (d : Dt) (p : Ad) (z : Int) : (thc d p).set 3 (.int .i64 z) = thc { d with v := z } p := id rfl
theorem hs7 (d : Dt) (p : Ad) (z : Int) : (thc d p).set 7 (.int .i64 z) = thc { d with st := z } p := id rfl
theorem hs8 (d : Dt) (p : Ad) (z : Int) : (thc d p).set 8 (.int .i64 z) = thc { d with nd := z } p := id rfl
theorem hs9 (d : Dt) (p : Ad) (z : Int) : (thc d p).set 9 (.int .i64 z) = thc { d with pl := z } p := id rfl
theorem hs10 (d : Dt) (p : Ad) (z : Int) : (thc d p).set 10 (.int .i64 z) = thc { d with ly := z } p := id rfl
theorem hs11 (d : Dt) (p : Ad) (z : Int) : (thc d p).set 11 (.int .i64 z) = thc { d with lf := z } p := id rfl
theorem hs12 (d : Dt) (p : Ad) (z : Int) : (thc d p).set 12 (.int .i64 z) = thc { d with wd := z } p := id rfl
theorem hs13 (d : Dt) (p : Ad) (z : Int) : (thc d p).set 13 (.int .i64 z) = thc { d with who := z } p := id rfl
theorem hs14 (d : Dt) (p : Ad) (z : Int) : (thc d p).set 14 (.int .i64 z) = thc { d with x := z } p := id rfl
theorem hs15 (d : Dt) (p : Ad) (z : Int) : (thc d p).set 15 (.int .i64 z) = thc { d with y := z } p := id rfl
theorem hs16 (d : Dt) (p : Ad) (z : Int) : (thc d p).set 16 (.int .i64 z) = thc { d with un := z } p := id rfl
theorem put_thread (u : Tn) (a : TA) (d : Dt) (p : Ad) : put 16 (thc d p) (tcs u a) = tcs { u with d := d } { a with p := p } := by
  simp only [thc, put_cons, put_nil, Nat.reduceAdd, ts16, ts17, ts18, ts19, ts20, ts21, ts22, ts23, ts24, ts25, ts26, ts27, ts28, ts29, ts30, ts31, ts32]
end Go.Proofs.Ytjghdbkkjhnpfaa
