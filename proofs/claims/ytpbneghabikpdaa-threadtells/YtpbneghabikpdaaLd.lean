/- Loads of structs of many cells, as one step each. -/
import Derived.Test.YtpbneghabikpdaaTh
namespace Go.Proofs.Ytpbneghabikpdaa
open Go.RowKit
set_option linter.unusedVariables false

/-- What a block holds behind a store of many cells. -/
def putCs : Array Value → Nat → List Value → Array Value
  | zs, _, [] => zs
  | zs, o, v :: r => putCs (zs.setIfInBounds o v) (o + 1) r
theorem putCs_at : ∀ (vs : List Value) (zs : Array Value) (o j : Nat), o + vs.length ≤ zs.size → (putCs zs o vs)[j]? = if o ≤ j ∧ j < o + vs.length then vs[j - o]? else zs[j]?
  | [], zs, o, j, h => by rw [if_neg (by simp)]; rfl
  | v :: r, zs, o, j, h => by
    have h' : o + (r.length + 1) ≤ zs.size := by simpa using h
    have hl : (v :: r).length = r.length + 1 := rfl
    rw [putCs, putCs_at r (zs.setIfInBounds o v) (o + 1) j (by simp; omega), hl]
    by_cases h1 : o + 1 ≤ j ∧ j < o + 1 + r.length
    · rw [if_pos h1, if_pos (by omega), show j - o = j - (o + 1) + 1 by omega]
      simp
    · rw [if_neg h1]
      by_cases h2 : j = o
      · subst h2
        rw [if_pos (by omega)]
        simp [show j < zs.size by omega]
      · rw [if_neg (by omega), Array.getElem?_setIfInBounds_ne (Ne.symm h2)]
theorem putCs_all (cs zs : Array Value) (h : cs.size = zs.size) : putCs zs 0 cs.toList = cs := by
  apply Array.ext_getElem?
  intro j
  rw [putCs_at _ _ _ _ (by simp; omega)]
  by_cases hj : j < cs.size
  · rw [if_pos (by simp; omega)]; simp
  · rw [if_neg (by simp; omega), Array.getElem?_eq_none (by omega), Array.getElem?_eq_none (by omega)]
theorem setCells_alloc (w : World) (t : TypeId) : ∀ (vs : List Value) (o : Nat) (zs : Array Value), (w.alloc (.cells zs t)).setCells w.heap.size o vs = w.alloc (.cells (putCs zs o vs) t)
  | [], _, _ => rfl
  | v :: r, o, zs => by
    rw [World.setCells, World.setCell_alloc_new, setCells_alloc w t r]
    rfl
theorem there_alloc_new (w : World) (zs : Array Value) (t : TypeId) : (w.alloc (.cells zs t)).there w.heap.size 0 zs.size := fun j hj => by
  rw [Nat.zero_add, cell_of_row _ w.heap.size j zs t (0, 0) (heap_alloc_new w _)]
  exact ⟨by simp [hj], by simp [go_sem]⟩
theorem run_store_new (w : World) (ty t : TypeId) (zs cs : Array Value) (g : Nat) (hg : g = w.heap.size) (hz : cs.size = zs.size) (hi : (Try.prog.info? ty).map (·.size) = some cs.size) (h1 : cs.all (·.oneCell') = true) :
    (storeVar ty ⟨g, 0, none⟩ (.agg cs)).run Try.prog (w.alloc (.cells zs t)) = .ok () (w.alloc (.cells cs t)) := by
  subst hg
  rw [run_storeVar_mid _ w.heap.size 0 ty cs (hz ▸ there_alloc_new w zs t) hi h1, setCells_alloc, putCs_all cs zs hz]
theorem results_at {fn : Func} {p : Tmp} {ty : TypeId} (h : fn.results = #[.cell p ty]) (tmps : Array Value) (w : World) (g : Nat) (cs : List Value) (d : TypeDesc) (hp : tmps.getD p undef = .pointer (some ⟨g, 0, none⟩)) (hc : w.rangeAt g 0 cs)
    (hu : Try.prog.underlying ty = some d) (hd : d.isRow = true) (hi : (Try.prog.info? ty).map (·.size) = some cs.length) : (results fn tmps).run Try.prog w = .ok (.agg cs.toArray) w := by
  have hp' : tmps[p]?.getD undef = .pointer (some ⟨g, 0, none⟩) := by simpa using hp
  simp [results, h, hp', asAddr, run_loadVar_mid w g 0 ty cs d hc hu hd hi]
theorem th_drew (w : World) (k n : Nat) (h : w.there k 0 n) : w.drew.there k 0 n := h
theorem th_old (w : World) (o : Obj) (k n : Nat) (h : w.there k 0 n) : (w.alloc o).there k 0 n := there_keep' h ((Below.refl _ _).alloc (Nat.le_refl _) _)
theorem th_new (w : World) (cs : Array Value) (t : TypeId) (k n : Nat) (hk : k = w.heap.size) (hn : cs.size = n) : (w.alloc (.cells cs t)).there k 0 n := by
  subst hk hn; exact there_alloc_new w cs t
theorem one_int (k : IntKind) (x : Int) : (Value.int k x).oneCell' = true := rfl
theorem one_slice (A : Option Addr) (n c : Nat) : (Value.slice A n c).oneCell' = true := rfl
theorem one_bool (b : Bool) : (Value.bool b).oneCell' = true := rfl
/-- A load of 17 cells at once. -/
def ldTh (a : Addr) : Sem Value := loadVar 30 a
theorem ldTh_is (a : Addr) : loadVar 30 a = ldTh a := rfl
theorem run_ldTh (w : World) (g o : Nat) (h : (w.cell? ⟨g, o, none⟩).isSome = true ∧ (w.cell? ⟨g, o + 1, none⟩).isSome = true ∧ (w.cell? ⟨g, o + 2, none⟩).isSome = true ∧ (w.cell? ⟨g, o + 3, none⟩).isSome = true ∧ (w.cell? ⟨g, o + 4, none⟩).isSome = true ∧ (w.cell? ⟨g, o + 5, none⟩).isSome = true ∧ (w.cell? ⟨g, o + 6, none⟩).isSome = true ∧ (w.cell? ⟨g, o + 7, none⟩).isSome = true ∧ (w.cell? ⟨g, o + 8, none⟩).isSome = true ∧ (w.cell? ⟨g, o + 9, none⟩).isSome = true ∧ (w.cell? ⟨g, o + 10, none⟩).isSome = true ∧ (w.cell? ⟨g, o + 11, none⟩).isSome = true ∧ (w.cell? ⟨g, o + 12, none⟩).isSome = true ∧ (w.cell? ⟨g, o + 13, none⟩).isSome = true ∧ (w.cell? ⟨g, o + 14, none⟩).isSome = true ∧ (w.cell? ⟨g, o + 15, none⟩).isSome = true ∧ (w.cell? ⟨g, o + 16, none⟩).isSome = true) : (ldTh ⟨g, o, none⟩).run Try.prog w = .ok (.agg (List.toArray ((w.cell? ⟨g, o, none⟩).getD undef :: (w.cell? ⟨g, o + 1, none⟩).getD undef :: (w.cell? ⟨g, o + 2, none⟩).getD undef :: (w.cell? ⟨g, o + 3, none⟩).getD undef :: (w.cell? ⟨g, o + 4, none⟩).getD undef :: (w.cell? ⟨g, o + 5, none⟩).getD undef :: (w.cell? ⟨g, o + 6, none⟩).getD undef :: (w.cell? ⟨g, o + 7, none⟩).getD undef :: (w.cell? ⟨g, o + 8, none⟩).getD undef :: (w.cell? ⟨g, o + 9, none⟩).getD undef :: (w.cell? ⟨g, o + 10, none⟩).getD undef :: (w.cell? ⟨g, o + 11, none⟩).getD undef :: (w.cell? ⟨g, o + 12, none⟩).getD undef :: (w.cell? ⟨g, o + 13, none⟩).getD undef :: (w.cell? ⟨g, o + 14, none⟩).getD undef :: (w.cell? ⟨g, o + 15, none⟩).getD undef :: (w.cell? ⟨g, o + 16, none⟩).getD undef :: []))) w := by
  obtain ⟨h0, h1, h2, h3, h4, h5, h6, h7, h8, h9, h10, h11, h12, h13, h14, h15, h16⟩ := h
  refine run_loadVar_mid w g o 30 ((w.cell? ⟨g, o, none⟩).getD undef :: (w.cell? ⟨g, o + 1, none⟩).getD undef :: (w.cell? ⟨g, o + 2, none⟩).getD undef :: (w.cell? ⟨g, o + 3, none⟩).getD undef :: (w.cell? ⟨g, o + 4, none⟩).getD undef :: (w.cell? ⟨g, o + 5, none⟩).getD undef :: (w.cell? ⟨g, o + 6, none⟩).getD undef :: (w.cell? ⟨g, o + 7, none⟩).getD undef :: (w.cell? ⟨g, o + 8, none⟩).getD undef :: (w.cell? ⟨g, o + 9, none⟩).getD undef :: (w.cell? ⟨g, o + 10, none⟩).getD undef :: (w.cell? ⟨g, o + 11, none⟩).getD undef :: (w.cell? ⟨g, o + 12, none⟩).getD undef :: (w.cell? ⟨g, o + 13, none⟩).getD undef :: (w.cell? ⟨g, o + 14, none⟩).getD undef :: (w.cell? ⟨g, o + 15, none⟩).getD undef :: (w.cell? ⟨g, o + 16, none⟩).getD undef :: []) _ ?_ Try.underlying30 rfl (by kernel_rfl)
  intro j v hv
  have hj : j < 17 := (List.getElem?_eq_some_iff.1 hv).1
  have key : ∀ (x : Addr), (w.cell? x).isSome = true → w.cell? x = some ((w.cell? x).getD undef) := fun x hx => by
    obtain ⟨u, hu⟩ := Option.isSome_iff_exists.1 hx
    rw [hu]; rfl
  match j, hj with
  | 0, _ => injection hv with hv; subst hv; exact key _ h0
  | 1, _ => injection hv with hv; subst hv; exact key _ h1
  | 2, _ => injection hv with hv; subst hv; exact key _ h2
  | 3, _ => injection hv with hv; subst hv; exact key _ h3
  | 4, _ => injection hv with hv; subst hv; exact key _ h4
  | 5, _ => injection hv with hv; subst hv; exact key _ h5
  | 6, _ => injection hv with hv; subst hv; exact key _ h6
  | 7, _ => injection hv with hv; subst hv; exact key _ h7
  | 8, _ => injection hv with hv; subst hv; exact key _ h8
  | 9, _ => injection hv with hv; subst hv; exact key _ h9
  | 10, _ => injection hv with hv; subst hv; exact key _ h10
  | 11, _ => injection hv with hv; subst hv; exact key _ h11
  | 12, _ => injection hv with hv; subst hv; exact key _ h12
  | 13, _ => injection hv with hv; subst hv; exact key _ h13
  | 14, _ => injection hv with hv; subst hv; exact key _ h14
  | 15, _ => injection hv with hv; subst hv; exact key _ h15
  | 16, _ => injection hv with hv; subst hv; exact key _ h16
  | j + 17, hj => exact absurd hj (by omega)
/-- A store of 17 cells at once, into a block that was just made. -/
def stTh (a : Addr) (v : Value) : Sem Unit := storeVar 30 a v
theorem stTh_is (a : Addr) (v : Value) : storeVar 30 a v = stTh a v := rfl
theorem run_stTh (w : World) (t : TypeId) (zs cs : Array Value) (g : Nat) (hg : g = w.heap.size) (hc : cs.size = 17) (hz : zs.size = 17) (h1 : cs.all (·.oneCell') = true) :
    (stTh ⟨g, 0, none⟩ (.agg cs)).run Try.prog (w.alloc (.cells zs t)) = .ok () (w.alloc (.cells cs t)) :=
  run_store_new w 30 t zs cs g hg (hc.trans hz.symm) (by rw [hc]; kernel_rfl) h1
theorem run_stTh_there (w : World) (cs : Array Value) (g o : Nat) (ht : w.there g o 17) (hc : cs.size = 17) (h1 : cs.all (·.oneCell') = true) :
    (stTh ⟨g, o, none⟩ (.agg cs)).run Try.prog w = .ok () (w.setCells g o cs.toList) :=
  run_storeVar_mid w g o 30 cs (hc ▸ ht) (by rw [hc]; kernel_rfl) h1
/-- A load of 17 cells at once. -/
def ldRh (a : Addr) : Sem Value := loadVar 41 a
theorem ldRh_is (a : Addr) : loadVar 41 a = ldRh a := rfl
theorem run_ldRh (w : World) (g o : Nat) (h : (w.cell? ⟨g, o, none⟩).isSome = true ∧ (w.cell? ⟨g, o + 1, none⟩).isSome = true ∧ (w.cell? ⟨g, o + 2, none⟩).isSome = true ∧ (w.cell? ⟨g, o + 3, none⟩).isSome = true ∧ (w.cell? ⟨g, o + 4, none⟩).isSome = true ∧ (w.cell? ⟨g, o + 5, none⟩).isSome = true ∧ (w.cell? ⟨g, o + 6, none⟩).isSome = true ∧ (w.cell? ⟨g, o + 7, none⟩).isSome = true ∧ (w.cell? ⟨g, o + 8, none⟩).isSome = true ∧ (w.cell? ⟨g, o + 9, none⟩).isSome = true ∧ (w.cell? ⟨g, o + 10, none⟩).isSome = true ∧ (w.cell? ⟨g, o + 11, none⟩).isSome = true ∧ (w.cell? ⟨g, o + 12, none⟩).isSome = true ∧ (w.cell? ⟨g, o + 13, none⟩).isSome = true ∧ (w.cell? ⟨g, o + 14, none⟩).isSome = true ∧ (w.cell? ⟨g, o + 15, none⟩).isSome = true ∧ (w.cell? ⟨g, o + 16, none⟩).isSome = true) : (ldRh ⟨g, o, none⟩).run Try.prog w = .ok (.agg (List.toArray ((w.cell? ⟨g, o, none⟩).getD undef :: (w.cell? ⟨g, o + 1, none⟩).getD undef :: (w.cell? ⟨g, o + 2, none⟩).getD undef :: (w.cell? ⟨g, o + 3, none⟩).getD undef :: (w.cell? ⟨g, o + 4, none⟩).getD undef :: (w.cell? ⟨g, o + 5, none⟩).getD undef :: (w.cell? ⟨g, o + 6, none⟩).getD undef :: (w.cell? ⟨g, o + 7, none⟩).getD undef :: (w.cell? ⟨g, o + 8, none⟩).getD undef :: (w.cell? ⟨g, o + 9, none⟩).getD undef :: (w.cell? ⟨g, o + 10, none⟩).getD undef :: (w.cell? ⟨g, o + 11, none⟩).getD undef :: (w.cell? ⟨g, o + 12, none⟩).getD undef :: (w.cell? ⟨g, o + 13, none⟩).getD undef :: (w.cell? ⟨g, o + 14, none⟩).getD undef :: (w.cell? ⟨g, o + 15, none⟩).getD undef :: (w.cell? ⟨g, o + 16, none⟩).getD undef :: []))) w := by
  obtain ⟨h0, h1, h2, h3, h4, h5, h6, h7, h8, h9, h10, h11, h12, h13, h14, h15, h16⟩ := h
  refine run_loadVar_mid w g o 41 ((w.cell? ⟨g, o, none⟩).getD undef :: (w.cell? ⟨g, o + 1, none⟩).getD undef :: (w.cell? ⟨g, o + 2, none⟩).getD undef :: (w.cell? ⟨g, o + 3, none⟩).getD undef :: (w.cell? ⟨g, o + 4, none⟩).getD undef :: (w.cell? ⟨g, o + 5, none⟩).getD undef :: (w.cell? ⟨g, o + 6, none⟩).getD undef :: (w.cell? ⟨g, o + 7, none⟩).getD undef :: (w.cell? ⟨g, o + 8, none⟩).getD undef :: (w.cell? ⟨g, o + 9, none⟩).getD undef :: (w.cell? ⟨g, o + 10, none⟩).getD undef :: (w.cell? ⟨g, o + 11, none⟩).getD undef :: (w.cell? ⟨g, o + 12, none⟩).getD undef :: (w.cell? ⟨g, o + 13, none⟩).getD undef :: (w.cell? ⟨g, o + 14, none⟩).getD undef :: (w.cell? ⟨g, o + 15, none⟩).getD undef :: (w.cell? ⟨g, o + 16, none⟩).getD undef :: []) _ ?_ Try.underlying41 rfl (by kernel_rfl)
  intro j v hv
  have hj : j < 17 := (List.getElem?_eq_some_iff.1 hv).1
  have key : ∀ (x : Addr), (w.cell? x).isSome = true → w.cell? x = some ((w.cell? x).getD undef) := fun x hx => by
    obtain ⟨u, hu⟩ := Option.isSome_iff_exists.1 hx
    rw [hu]; rfl
  match j, hj with
  | 0, _ => injection hv with hv; subst hv; exact key _ h0
  | 1, _ => injection hv with hv; subst hv; exact key _ h1
  | 2, _ => injection hv with hv; subst hv; exact key _ h2
  | 3, _ => injection hv with hv; subst hv; exact key _ h3
  | 4, _ => injection hv with hv; subst hv; exact key _ h4
  | 5, _ => injection hv with hv; subst hv; exact key _ h5
  | 6, _ => injection hv with hv; subst hv; exact key _ h6
  | 7, _ => injection hv with hv; subst hv; exact key _ h7
  | 8, _ => injection hv with hv; subst hv; exact key _ h8
  | 9, _ => injection hv with hv; subst hv; exact key _ h9
  | 10, _ => injection hv with hv; subst hv; exact key _ h10
  | 11, _ => injection hv with hv; subst hv; exact key _ h11
  | 12, _ => injection hv with hv; subst hv; exact key _ h12
  | 13, _ => injection hv with hv; subst hv; exact key _ h13
  | 14, _ => injection hv with hv; subst hv; exact key _ h14
  | 15, _ => injection hv with hv; subst hv; exact key _ h15
  | 16, _ => injection hv with hv; subst hv; exact key _ h16
  | j + 17, hj => exact absurd hj (by omega)
/-- A store of 17 cells at once, into a block that was just made. -/
def stRh (a : Addr) (v : Value) : Sem Unit := storeVar 41 a v
theorem stRh_is (a : Addr) (v : Value) : storeVar 41 a v = stRh a v := rfl
theorem run_stRh (w : World) (t : TypeId) (zs cs : Array Value) (g : Nat) (hg : g = w.heap.size) (hc : cs.size = 17) (hz : zs.size = 17) (h1 : cs.all (·.oneCell') = true) :
    (stRh ⟨g, 0, none⟩ (.agg cs)).run Try.prog (w.alloc (.cells zs t)) = .ok () (w.alloc (.cells cs t)) :=
  run_store_new w 41 t zs cs g hg (hc.trans hz.symm) (by rw [hc]; kernel_rfl) h1
theorem run_stRh_there (w : World) (cs : Array Value) (g o : Nat) (ht : w.there g o 17) (hc : cs.size = 17) (h1 : cs.all (·.oneCell') = true) :
    (stRh ⟨g, o, none⟩ (.agg cs)).run Try.prog w = .ok () (w.setCells g o cs.toList) :=
  run_storeVar_mid w g o 41 cs (hc ▸ ht) (by rw [hc]; kernel_rfl) h1
/-- A load of 12 cells at once. -/
def ldCf (a : Addr) : Sem Value := loadVar 23 a
theorem ldCf_is (a : Addr) : loadVar 23 a = ldCf a := rfl
theorem run_ldCf (w : World) (g o : Nat) (h : (w.cell? ⟨g, o, none⟩).isSome = true ∧ (w.cell? ⟨g, o + 1, none⟩).isSome = true ∧ (w.cell? ⟨g, o + 2, none⟩).isSome = true ∧ (w.cell? ⟨g, o + 3, none⟩).isSome = true ∧ (w.cell? ⟨g, o + 4, none⟩).isSome = true ∧ (w.cell? ⟨g, o + 5, none⟩).isSome = true ∧ (w.cell? ⟨g, o + 6, none⟩).isSome = true ∧ (w.cell? ⟨g, o + 7, none⟩).isSome = true ∧ (w.cell? ⟨g, o + 8, none⟩).isSome = true ∧ (w.cell? ⟨g, o + 9, none⟩).isSome = true ∧ (w.cell? ⟨g, o + 10, none⟩).isSome = true ∧ (w.cell? ⟨g, o + 11, none⟩).isSome = true) : (ldCf ⟨g, o, none⟩).run Try.prog w = .ok (.agg (List.toArray ((w.cell? ⟨g, o, none⟩).getD undef :: (w.cell? ⟨g, o + 1, none⟩).getD undef :: (w.cell? ⟨g, o + 2, none⟩).getD undef :: (w.cell? ⟨g, o + 3, none⟩).getD undef :: (w.cell? ⟨g, o + 4, none⟩).getD undef :: (w.cell? ⟨g, o + 5, none⟩).getD undef :: (w.cell? ⟨g, o + 6, none⟩).getD undef :: (w.cell? ⟨g, o + 7, none⟩).getD undef :: (w.cell? ⟨g, o + 8, none⟩).getD undef :: (w.cell? ⟨g, o + 9, none⟩).getD undef :: (w.cell? ⟨g, o + 10, none⟩).getD undef :: (w.cell? ⟨g, o + 11, none⟩).getD undef :: []))) w := by
  obtain ⟨h0, h1, h2, h3, h4, h5, h6, h7, h8, h9, h10, h11⟩ := h
  refine run_loadVar_mid w g o 23 ((w.cell? ⟨g, o, none⟩).getD undef :: (w.cell? ⟨g, o + 1, none⟩).getD undef :: (w.cell? ⟨g, o + 2, none⟩).getD undef :: (w.cell? ⟨g, o + 3, none⟩).getD undef :: (w.cell? ⟨g, o + 4, none⟩).getD undef :: (w.cell? ⟨g, o + 5, none⟩).getD undef :: (w.cell? ⟨g, o + 6, none⟩).getD undef :: (w.cell? ⟨g, o + 7, none⟩).getD undef :: (w.cell? ⟨g, o + 8, none⟩).getD undef :: (w.cell? ⟨g, o + 9, none⟩).getD undef :: (w.cell? ⟨g, o + 10, none⟩).getD undef :: (w.cell? ⟨g, o + 11, none⟩).getD undef :: []) _ ?_ Try.underlying23 rfl (by kernel_rfl)
  intro j v hv
  have hj : j < 12 := (List.getElem?_eq_some_iff.1 hv).1
  have key : ∀ (x : Addr), (w.cell? x).isSome = true → w.cell? x = some ((w.cell? x).getD undef) := fun x hx => by
    obtain ⟨u, hu⟩ := Option.isSome_iff_exists.1 hx
    rw [hu]; rfl
  match j, hj with
  | 0, _ => injection hv with hv; subst hv; exact key _ h0
  | 1, _ => injection hv with hv; subst hv; exact key _ h1
  | 2, _ => injection hv with hv; subst hv; exact key _ h2
  | 3, _ => injection hv with hv; subst hv; exact key _ h3
  | 4, _ => injection hv with hv; subst hv; exact key _ h4
  | 5, _ => injection hv with hv; subst hv; exact key _ h5
  | 6, _ => injection hv with hv; subst hv; exact key _ h6
  | 7, _ => injection hv with hv; subst hv; exact key _ h7
  | 8, _ => injection hv with hv; subst hv; exact key _ h8
  | 9, _ => injection hv with hv; subst hv; exact key _ h9
  | 10, _ => injection hv with hv; subst hv; exact key _ h10
  | 11, _ => injection hv with hv; subst hv; exact key _ h11
  | j + 12, hj => exact absurd hj (by omega)
/-- A store of 12 cells at once, into a block that was just made. -/
def stCf (a : Addr) (v : Value) : Sem Unit := storeVar 23 a v
theorem stCf_is (a : Addr) (v : Value) : storeVar 23 a v = stCf a v := rfl
theorem run_stCf (w : World) (t : TypeId) (zs cs : Array Value) (g : Nat) (hg : g = w.heap.size) (hc : cs.size = 12) (hz : zs.size = 12) (h1 : cs.all (·.oneCell') = true) :
    (stCf ⟨g, 0, none⟩ (.agg cs)).run Try.prog (w.alloc (.cells zs t)) = .ok () (w.alloc (.cells cs t)) :=
  run_store_new w 23 t zs cs g hg (hc.trans hz.symm) (by rw [hc]; kernel_rfl) h1
theorem run_stCf_there (w : World) (cs : Array Value) (g o : Nat) (ht : w.there g o 12) (hc : cs.size = 12) (h1 : cs.all (·.oneCell') = true) :
    (stCf ⟨g, o, none⟩ (.agg cs)).run Try.prog w = .ok () (w.setCells g o cs.toList) :=
  run_storeVar_mid w g o 23 cs (hc ▸ ht) (by rw [hc]; kernel_rfl) h1
/-- A load of 12 cells at once. -/
def ldRf (a : Addr) : Sem Value := loadVar 33 a
theorem ldRf_is (a : Addr) : loadVar 33 a = ldRf a := rfl
theorem run_ldRf (w : World) (g o : Nat) (h : (w.cell? ⟨g, o, none⟩).isSome = true ∧ (w.cell? ⟨g, o + 1, none⟩).isSome = true ∧ (w.cell? ⟨g, o + 2, none⟩).isSome = true ∧ (w.cell? ⟨g, o + 3, none⟩).isSome = true ∧ (w.cell? ⟨g, o + 4, none⟩).isSome = true ∧ (w.cell? ⟨g, o + 5, none⟩).isSome = true ∧ (w.cell? ⟨g, o + 6, none⟩).isSome = true ∧ (w.cell? ⟨g, o + 7, none⟩).isSome = true ∧ (w.cell? ⟨g, o + 8, none⟩).isSome = true ∧ (w.cell? ⟨g, o + 9, none⟩).isSome = true ∧ (w.cell? ⟨g, o + 10, none⟩).isSome = true ∧ (w.cell? ⟨g, o + 11, none⟩).isSome = true) : (ldRf ⟨g, o, none⟩).run Try.prog w = .ok (.agg (List.toArray ((w.cell? ⟨g, o, none⟩).getD undef :: (w.cell? ⟨g, o + 1, none⟩).getD undef :: (w.cell? ⟨g, o + 2, none⟩).getD undef :: (w.cell? ⟨g, o + 3, none⟩).getD undef :: (w.cell? ⟨g, o + 4, none⟩).getD undef :: (w.cell? ⟨g, o + 5, none⟩).getD undef :: (w.cell? ⟨g, o + 6, none⟩).getD undef :: (w.cell? ⟨g, o + 7, none⟩).getD undef :: (w.cell? ⟨g, o + 8, none⟩).getD undef :: (w.cell? ⟨g, o + 9, none⟩).getD undef :: (w.cell? ⟨g, o + 10, none⟩).getD undef :: (w.cell? ⟨g, o + 11, none⟩).getD undef :: []))) w := by
  obtain ⟨h0, h1, h2, h3, h4, h5, h6, h7, h8, h9, h10, h11⟩ := h
  refine run_loadVar_mid w g o 33 ((w.cell? ⟨g, o, none⟩).getD undef :: (w.cell? ⟨g, o + 1, none⟩).getD undef :: (w.cell? ⟨g, o + 2, none⟩).getD undef :: (w.cell? ⟨g, o + 3, none⟩).getD undef :: (w.cell? ⟨g, o + 4, none⟩).getD undef :: (w.cell? ⟨g, o + 5, none⟩).getD undef :: (w.cell? ⟨g, o + 6, none⟩).getD undef :: (w.cell? ⟨g, o + 7, none⟩).getD undef :: (w.cell? ⟨g, o + 8, none⟩).getD undef :: (w.cell? ⟨g, o + 9, none⟩).getD undef :: (w.cell? ⟨g, o + 10, none⟩).getD undef :: (w.cell? ⟨g, o + 11, none⟩).getD undef :: []) _ ?_ Try.underlying33 rfl (by kernel_rfl)
  intro j v hv
  have hj : j < 12 := (List.getElem?_eq_some_iff.1 hv).1
  have key : ∀ (x : Addr), (w.cell? x).isSome = true → w.cell? x = some ((w.cell? x).getD undef) := fun x hx => by
    obtain ⟨u, hu⟩ := Option.isSome_iff_exists.1 hx
    rw [hu]; rfl
  match j, hj with
  | 0, _ => injection hv with hv; subst hv; exact key _ h0
  | 1, _ => injection hv with hv; subst hv; exact key _ h1
  | 2, _ => injection hv with hv; subst hv; exact key _ h2
  | 3, _ => injection hv with hv; subst hv; exact key _ h3
  | 4, _ => injection hv with hv; subst hv; exact key _ h4
  | 5, _ => injection hv with hv; subst hv; exact key _ h5
  | 6, _ => injection hv with hv; subst hv; exact key _ h6
  | 7, _ => injection hv with hv; subst hv; exact key _ h7
  | 8, _ => injection hv with hv; subst hv; exact key _ h8
  | 9, _ => injection hv with hv; subst hv; exact key _ h9
  | 10, _ => injection hv with hv; subst hv; exact key _ h10
  | 11, _ => injection hv with hv; subst hv; exact key _ h11
  | j + 12, hj => exact absurd hj (by omega)
/-- A store of 12 cells at once, into a block that was just made. -/
def stRf (a : Addr) (v : Value) : Sem Unit := storeVar 33 a v
theorem stRf_is (a : Addr) (v : Value) : storeVar 33 a v = stRf a v := rfl
theorem run_stRf (w : World) (t : TypeId) (zs cs : Array Value) (g : Nat) (hg : g = w.heap.size) (hc : cs.size = 12) (hz : zs.size = 12) (h1 : cs.all (·.oneCell') = true) :
    (stRf ⟨g, 0, none⟩ (.agg cs)).run Try.prog (w.alloc (.cells zs t)) = .ok () (w.alloc (.cells cs t)) :=
  run_store_new w 33 t zs cs g hg (hc.trans hz.symm) (by rw [hc]; kernel_rfl) h1
theorem run_stRf_there (w : World) (cs : Array Value) (g o : Nat) (ht : w.there g o 12) (hc : cs.size = 12) (h1 : cs.all (·.oneCell') = true) :
    (stRf ⟨g, o, none⟩ (.agg cs)).run Try.prog w = .ok () (w.setCells g o cs.toList) :=
  run_storeVar_mid w g o 33 cs (hc ▸ ht) (by rw [hc]; kernel_rfl) h1
/-- A load of 37 cells at once. -/
def ldTn (a : Addr) : Sem Value := loadVar 55 a
theorem ldTn_is (a : Addr) : loadVar 55 a = ldTn a := rfl
theorem run_ldTn (w : World) (g o : Nat) (h : (w.cell? ⟨g, o, none⟩).isSome = true ∧ (w.cell? ⟨g, o + 1, none⟩).isSome = true ∧ (w.cell? ⟨g, o + 2, none⟩).isSome = true ∧ (w.cell? ⟨g, o + 3, none⟩).isSome = true ∧ (w.cell? ⟨g, o + 4, none⟩).isSome = true ∧ (w.cell? ⟨g, o + 5, none⟩).isSome = true ∧ (w.cell? ⟨g, o + 6, none⟩).isSome = true ∧ (w.cell? ⟨g, o + 7, none⟩).isSome = true ∧ (w.cell? ⟨g, o + 8, none⟩).isSome = true ∧ (w.cell? ⟨g, o + 9, none⟩).isSome = true ∧ (w.cell? ⟨g, o + 10, none⟩).isSome = true ∧ (w.cell? ⟨g, o + 11, none⟩).isSome = true ∧ (w.cell? ⟨g, o + 12, none⟩).isSome = true ∧ (w.cell? ⟨g, o + 13, none⟩).isSome = true ∧ (w.cell? ⟨g, o + 14, none⟩).isSome = true ∧ (w.cell? ⟨g, o + 15, none⟩).isSome = true ∧ (w.cell? ⟨g, o + 16, none⟩).isSome = true ∧ (w.cell? ⟨g, o + 17, none⟩).isSome = true ∧ (w.cell? ⟨g, o + 18, none⟩).isSome = true ∧ (w.cell? ⟨g, o + 19, none⟩).isSome = true ∧ (w.cell? ⟨g, o + 20, none⟩).isSome = true ∧ (w.cell? ⟨g, o + 21, none⟩).isSome = true ∧ (w.cell? ⟨g, o + 22, none⟩).isSome = true ∧ (w.cell? ⟨g, o + 23, none⟩).isSome = true ∧ (w.cell? ⟨g, o + 24, none⟩).isSome = true ∧ (w.cell? ⟨g, o + 25, none⟩).isSome = true ∧ (w.cell? ⟨g, o + 26, none⟩).isSome = true ∧ (w.cell? ⟨g, o + 27, none⟩).isSome = true ∧ (w.cell? ⟨g, o + 28, none⟩).isSome = true ∧ (w.cell? ⟨g, o + 29, none⟩).isSome = true ∧ (w.cell? ⟨g, o + 30, none⟩).isSome = true ∧ (w.cell? ⟨g, o + 31, none⟩).isSome = true ∧ (w.cell? ⟨g, o + 32, none⟩).isSome = true ∧ (w.cell? ⟨g, o + 33, none⟩).isSome = true ∧ (w.cell? ⟨g, o + 34, none⟩).isSome = true ∧ (w.cell? ⟨g, o + 35, none⟩).isSome = true ∧ (w.cell? ⟨g, o + 36, none⟩).isSome = true) : (ldTn ⟨g, o, none⟩).run Try.prog w = .ok (.agg (List.toArray ((w.cell? ⟨g, o, none⟩).getD undef :: (w.cell? ⟨g, o + 1, none⟩).getD undef :: (w.cell? ⟨g, o + 2, none⟩).getD undef :: (w.cell? ⟨g, o + 3, none⟩).getD undef :: (w.cell? ⟨g, o + 4, none⟩).getD undef :: (w.cell? ⟨g, o + 5, none⟩).getD undef :: (w.cell? ⟨g, o + 6, none⟩).getD undef :: (w.cell? ⟨g, o + 7, none⟩).getD undef :: (w.cell? ⟨g, o + 8, none⟩).getD undef :: (w.cell? ⟨g, o + 9, none⟩).getD undef :: (w.cell? ⟨g, o + 10, none⟩).getD undef :: (w.cell? ⟨g, o + 11, none⟩).getD undef :: (w.cell? ⟨g, o + 12, none⟩).getD undef :: (w.cell? ⟨g, o + 13, none⟩).getD undef :: (w.cell? ⟨g, o + 14, none⟩).getD undef :: (w.cell? ⟨g, o + 15, none⟩).getD undef :: (w.cell? ⟨g, o + 16, none⟩).getD undef :: (w.cell? ⟨g, o + 17, none⟩).getD undef :: (w.cell? ⟨g, o + 18, none⟩).getD undef :: (w.cell? ⟨g, o + 19, none⟩).getD undef :: (w.cell? ⟨g, o + 20, none⟩).getD undef :: (w.cell? ⟨g, o + 21, none⟩).getD undef :: (w.cell? ⟨g, o + 22, none⟩).getD undef :: (w.cell? ⟨g, o + 23, none⟩).getD undef :: (w.cell? ⟨g, o + 24, none⟩).getD undef :: (w.cell? ⟨g, o + 25, none⟩).getD undef :: (w.cell? ⟨g, o + 26, none⟩).getD undef :: (w.cell? ⟨g, o + 27, none⟩).getD undef :: (w.cell? ⟨g, o + 28, none⟩).getD undef :: (w.cell? ⟨g, o + 29, none⟩).getD undef :: (w.cell? ⟨g, o + 30, none⟩).getD undef :: (w.cell? ⟨g, o + 31, none⟩).getD undef :: (w.cell? ⟨g, o + 32, none⟩).getD undef :: (w.cell? ⟨g, o + 33, none⟩).getD undef :: (w.cell? ⟨g, o + 34, none⟩).getD undef :: (w.cell? ⟨g, o + 35, none⟩).getD undef :: (w.cell? ⟨g, o + 36, none⟩).getD undef :: []))) w := by
  obtain ⟨h0, h1, h2, h3, h4, h5, h6, h7, h8, h9, h10, h11, h12, h13, h14, h15, h16, h17, h18, h19, h20, h21, h22, h23, h24, h25, h26, h27, h28, h29, h30, h31, h32, h33, h34, h35, h36⟩ := h
  refine run_loadVar_mid w g o 55 ((w.cell? ⟨g, o, none⟩).getD undef :: (w.cell? ⟨g, o + 1, none⟩).getD undef :: (w.cell? ⟨g, o + 2, none⟩).getD undef :: (w.cell? ⟨g, o + 3, none⟩).getD undef :: (w.cell? ⟨g, o + 4, none⟩).getD undef :: (w.cell? ⟨g, o + 5, none⟩).getD undef :: (w.cell? ⟨g, o + 6, none⟩).getD undef :: (w.cell? ⟨g, o + 7, none⟩).getD undef :: (w.cell? ⟨g, o + 8, none⟩).getD undef :: (w.cell? ⟨g, o + 9, none⟩).getD undef :: (w.cell? ⟨g, o + 10, none⟩).getD undef :: (w.cell? ⟨g, o + 11, none⟩).getD undef :: (w.cell? ⟨g, o + 12, none⟩).getD undef :: (w.cell? ⟨g, o + 13, none⟩).getD undef :: (w.cell? ⟨g, o + 14, none⟩).getD undef :: (w.cell? ⟨g, o + 15, none⟩).getD undef :: (w.cell? ⟨g, o + 16, none⟩).getD undef :: (w.cell? ⟨g, o + 17, none⟩).getD undef :: (w.cell? ⟨g, o + 18, none⟩).getD undef :: (w.cell? ⟨g, o + 19, none⟩).getD undef :: (w.cell? ⟨g, o + 20, none⟩).getD undef :: (w.cell? ⟨g, o + 21, none⟩).getD undef :: (w.cell? ⟨g, o + 22, none⟩).getD undef :: (w.cell? ⟨g, o + 23, none⟩).getD undef :: (w.cell? ⟨g, o + 24, none⟩).getD undef :: (w.cell? ⟨g, o + 25, none⟩).getD undef :: (w.cell? ⟨g, o + 26, none⟩).getD undef :: (w.cell? ⟨g, o + 27, none⟩).getD undef :: (w.cell? ⟨g, o + 28, none⟩).getD undef :: (w.cell? ⟨g, o + 29, none⟩).getD undef :: (w.cell? ⟨g, o + 30, none⟩).getD undef :: (w.cell? ⟨g, o + 31, none⟩).getD undef :: (w.cell? ⟨g, o + 32, none⟩).getD undef :: (w.cell? ⟨g, o + 33, none⟩).getD undef :: (w.cell? ⟨g, o + 34, none⟩).getD undef :: (w.cell? ⟨g, o + 35, none⟩).getD undef :: (w.cell? ⟨g, o + 36, none⟩).getD undef :: []) _ ?_ Try.underlying55 rfl (by kernel_rfl)
  intro j v hv
  have hj : j < 37 := (List.getElem?_eq_some_iff.1 hv).1
  have key : ∀ (x : Addr), (w.cell? x).isSome = true → w.cell? x = some ((w.cell? x).getD undef) := fun x hx => by
    obtain ⟨u, hu⟩ := Option.isSome_iff_exists.1 hx
    rw [hu]; rfl
  match j, hj with
  | 0, _ => injection hv with hv; subst hv; exact key _ h0
  | 1, _ => injection hv with hv; subst hv; exact key _ h1
  | 2, _ => injection hv with hv; subst hv; exact key _ h2
  | 3, _ => injection hv with hv; subst hv; exact key _ h3
  | 4, _ => injection hv with hv; subst hv; exact key _ h4
  | 5, _ => injection hv with hv; subst hv; exact key _ h5
  | 6, _ => injection hv with hv; subst hv; exact key _ h6
  | 7, _ => injection hv with hv; subst hv; exact key _ h7
  | 8, _ => injection hv with hv; subst hv; exact key _ h8
  | 9, _ => injection hv with hv; subst hv; exact key _ h9
  | 10, _ => injection hv with hv; subst hv; exact key _ h10
  | 11, _ => injection hv with hv; subst hv; exact key _ h11
  | 12, _ => injection hv with hv; subst hv; exact key _ h12
  | 13, _ => injection hv with hv; subst hv; exact key _ h13
  | 14, _ => injection hv with hv; subst hv; exact key _ h14
  | 15, _ => injection hv with hv; subst hv; exact key _ h15
  | 16, _ => injection hv with hv; subst hv; exact key _ h16
  | 17, _ => injection hv with hv; subst hv; exact key _ h17
  | 18, _ => injection hv with hv; subst hv; exact key _ h18
  | 19, _ => injection hv with hv; subst hv; exact key _ h19
  | 20, _ => injection hv with hv; subst hv; exact key _ h20
  | 21, _ => injection hv with hv; subst hv; exact key _ h21
  | 22, _ => injection hv with hv; subst hv; exact key _ h22
  | 23, _ => injection hv with hv; subst hv; exact key _ h23
  | 24, _ => injection hv with hv; subst hv; exact key _ h24
  | 25, _ => injection hv with hv; subst hv; exact key _ h25
  | 26, _ => injection hv with hv; subst hv; exact key _ h26
  | 27, _ => injection hv with hv; subst hv; exact key _ h27
  | 28, _ => injection hv with hv; subst hv; exact key _ h28
  | 29, _ => injection hv with hv; subst hv; exact key _ h29
  | 30, _ => injection hv with hv; subst hv; exact key _ h30
  | 31, _ => injection hv with hv; subst hv; exact key _ h31
  | 32, _ => injection hv with hv; subst hv; exact key _ h32
  | 33, _ => injection hv with hv; subst hv; exact key _ h33
  | 34, _ => injection hv with hv; subst hv; exact key _ h34
  | 35, _ => injection hv with hv; subst hv; exact key _ h35
  | 36, _ => injection hv with hv; subst hv; exact key _ h36
  | j + 37, hj => exact absurd hj (by omega)
/-- A store of 37 cells at once, into a block that was just made. -/
def stTn (a : Addr) (v : Value) : Sem Unit := storeVar 55 a v
theorem stTn_is (a : Addr) (v : Value) : storeVar 55 a v = stTn a v := rfl
theorem run_stTn (w : World) (t : TypeId) (zs cs : Array Value) (g : Nat) (hg : g = w.heap.size) (hc : cs.size = 37) (hz : zs.size = 37) (h1 : cs.all (·.oneCell') = true) :
    (stTn ⟨g, 0, none⟩ (.agg cs)).run Try.prog (w.alloc (.cells zs t)) = .ok () (w.alloc (.cells cs t)) :=
  run_store_new w 55 t zs cs g hg (hc.trans hz.symm) (by rw [hc]; kernel_rfl) h1
theorem run_stTn_there (w : World) (cs : Array Value) (g o : Nat) (ht : w.there g o 37) (hc : cs.size = 37) (h1 : cs.all (·.oneCell') = true) :
    (stTn ⟨g, o, none⟩ (.agg cs)).run Try.prog w = .ok () (w.setCells g o cs.toList) :=
  run_storeVar_mid w g o 55 cs (hc ▸ ht) (by rw [hc]; kernel_rfl) h1
/-- A load of 37 cells at once. -/
def ldRn (a : Addr) : Sem Value := loadVar 65 a
theorem ldRn_is (a : Addr) : loadVar 65 a = ldRn a := rfl
theorem run_ldRn (w : World) (g o : Nat) (h : (w.cell? ⟨g, o, none⟩).isSome = true ∧ (w.cell? ⟨g, o + 1, none⟩).isSome = true ∧ (w.cell? ⟨g, o + 2, none⟩).isSome = true ∧ (w.cell? ⟨g, o + 3, none⟩).isSome = true ∧ (w.cell? ⟨g, o + 4, none⟩).isSome = true ∧ (w.cell? ⟨g, o + 5, none⟩).isSome = true ∧ (w.cell? ⟨g, o + 6, none⟩).isSome = true ∧ (w.cell? ⟨g, o + 7, none⟩).isSome = true ∧ (w.cell? ⟨g, o + 8, none⟩).isSome = true ∧ (w.cell? ⟨g, o + 9, none⟩).isSome = true ∧ (w.cell? ⟨g, o + 10, none⟩).isSome = true ∧ (w.cell? ⟨g, o + 11, none⟩).isSome = true ∧ (w.cell? ⟨g, o + 12, none⟩).isSome = true ∧ (w.cell? ⟨g, o + 13, none⟩).isSome = true ∧ (w.cell? ⟨g, o + 14, none⟩).isSome = true ∧ (w.cell? ⟨g, o + 15, none⟩).isSome = true ∧ (w.cell? ⟨g, o + 16, none⟩).isSome = true ∧ (w.cell? ⟨g, o + 17, none⟩).isSome = true ∧ (w.cell? ⟨g, o + 18, none⟩).isSome = true ∧ (w.cell? ⟨g, o + 19, none⟩).isSome = true ∧ (w.cell? ⟨g, o + 20, none⟩).isSome = true ∧ (w.cell? ⟨g, o + 21, none⟩).isSome = true ∧ (w.cell? ⟨g, o + 22, none⟩).isSome = true ∧ (w.cell? ⟨g, o + 23, none⟩).isSome = true ∧ (w.cell? ⟨g, o + 24, none⟩).isSome = true ∧ (w.cell? ⟨g, o + 25, none⟩).isSome = true ∧ (w.cell? ⟨g, o + 26, none⟩).isSome = true ∧ (w.cell? ⟨g, o + 27, none⟩).isSome = true ∧ (w.cell? ⟨g, o + 28, none⟩).isSome = true ∧ (w.cell? ⟨g, o + 29, none⟩).isSome = true ∧ (w.cell? ⟨g, o + 30, none⟩).isSome = true ∧ (w.cell? ⟨g, o + 31, none⟩).isSome = true ∧ (w.cell? ⟨g, o + 32, none⟩).isSome = true ∧ (w.cell? ⟨g, o + 33, none⟩).isSome = true ∧ (w.cell? ⟨g, o + 34, none⟩).isSome = true ∧ (w.cell? ⟨g, o + 35, none⟩).isSome = true ∧ (w.cell? ⟨g, o + 36, none⟩).isSome = true) : (ldRn ⟨g, o, none⟩).run Try.prog w = .ok (.agg (List.toArray ((w.cell? ⟨g, o, none⟩).getD undef :: (w.cell? ⟨g, o + 1, none⟩).getD undef :: (w.cell? ⟨g, o + 2, none⟩).getD undef :: (w.cell? ⟨g, o + 3, none⟩).getD undef :: (w.cell? ⟨g, o + 4, none⟩).getD undef :: (w.cell? ⟨g, o + 5, none⟩).getD undef :: (w.cell? ⟨g, o + 6, none⟩).getD undef :: (w.cell? ⟨g, o + 7, none⟩).getD undef :: (w.cell? ⟨g, o + 8, none⟩).getD undef :: (w.cell? ⟨g, o + 9, none⟩).getD undef :: (w.cell? ⟨g, o + 10, none⟩).getD undef :: (w.cell? ⟨g, o + 11, none⟩).getD undef :: (w.cell? ⟨g, o + 12, none⟩).getD undef :: (w.cell? ⟨g, o + 13, none⟩).getD undef :: (w.cell? ⟨g, o + 14, none⟩).getD undef :: (w.cell? ⟨g, o + 15, none⟩).getD undef :: (w.cell? ⟨g, o + 16, none⟩).getD undef :: (w.cell? ⟨g, o + 17, none⟩).getD undef :: (w.cell? ⟨g, o + 18, none⟩).getD undef :: (w.cell? ⟨g, o + 19, none⟩).getD undef :: (w.cell? ⟨g, o + 20, none⟩).getD undef :: (w.cell? ⟨g, o + 21, none⟩).getD undef :: (w.cell? ⟨g, o + 22, none⟩).getD undef :: (w.cell? ⟨g, o + 23, none⟩).getD undef :: (w.cell? ⟨g, o + 24, none⟩).getD undef :: (w.cell? ⟨g, o + 25, none⟩).getD undef :: (w.cell? ⟨g, o + 26, none⟩).getD undef :: (w.cell? ⟨g, o + 27, none⟩).getD undef :: (w.cell? ⟨g, o + 28, none⟩).getD undef :: (w.cell? ⟨g, o + 29, none⟩).getD undef :: (w.cell? ⟨g, o + 30, none⟩).getD undef :: (w.cell? ⟨g, o + 31, none⟩).getD undef :: (w.cell? ⟨g, o + 32, none⟩).getD undef :: (w.cell? ⟨g, o + 33, none⟩).getD undef :: (w.cell? ⟨g, o + 34, none⟩).getD undef :: (w.cell? ⟨g, o + 35, none⟩).getD undef :: (w.cell? ⟨g, o + 36, none⟩).getD undef :: []))) w := by
  obtain ⟨h0, h1, h2, h3, h4, h5, h6, h7, h8, h9, h10, h11, h12, h13, h14, h15, h16, h17, h18, h19, h20, h21, h22, h23, h24, h25, h26, h27, h28, h29, h30, h31, h32, h33, h34, h35, h36⟩ := h
  refine run_loadVar_mid w g o 65 ((w.cell? ⟨g, o, none⟩).getD undef :: (w.cell? ⟨g, o + 1, none⟩).getD undef :: (w.cell? ⟨g, o + 2, none⟩).getD undef :: (w.cell? ⟨g, o + 3, none⟩).getD undef :: (w.cell? ⟨g, o + 4, none⟩).getD undef :: (w.cell? ⟨g, o + 5, none⟩).getD undef :: (w.cell? ⟨g, o + 6, none⟩).getD undef :: (w.cell? ⟨g, o + 7, none⟩).getD undef :: (w.cell? ⟨g, o + 8, none⟩).getD undef :: (w.cell? ⟨g, o + 9, none⟩).getD undef :: (w.cell? ⟨g, o + 10, none⟩).getD undef :: (w.cell? ⟨g, o + 11, none⟩).getD undef :: (w.cell? ⟨g, o + 12, none⟩).getD undef :: (w.cell? ⟨g, o + 13, none⟩).getD undef :: (w.cell? ⟨g, o + 14, none⟩).getD undef :: (w.cell? ⟨g, o + 15, none⟩).getD undef :: (w.cell? ⟨g, o + 16, none⟩).getD undef :: (w.cell? ⟨g, o + 17, none⟩).getD undef :: (w.cell? ⟨g, o + 18, none⟩).getD undef :: (w.cell? ⟨g, o + 19, none⟩).getD undef :: (w.cell? ⟨g, o + 20, none⟩).getD undef :: (w.cell? ⟨g, o + 21, none⟩).getD undef :: (w.cell? ⟨g, o + 22, none⟩).getD undef :: (w.cell? ⟨g, o + 23, none⟩).getD undef :: (w.cell? ⟨g, o + 24, none⟩).getD undef :: (w.cell? ⟨g, o + 25, none⟩).getD undef :: (w.cell? ⟨g, o + 26, none⟩).getD undef :: (w.cell? ⟨g, o + 27, none⟩).getD undef :: (w.cell? ⟨g, o + 28, none⟩).getD undef :: (w.cell? ⟨g, o + 29, none⟩).getD undef :: (w.cell? ⟨g, o + 30, none⟩).getD undef :: (w.cell? ⟨g, o + 31, none⟩).getD undef :: (w.cell? ⟨g, o + 32, none⟩).getD undef :: (w.cell? ⟨g, o + 33, none⟩).getD undef :: (w.cell? ⟨g, o + 34, none⟩).getD undef :: (w.cell? ⟨g, o + 35, none⟩).getD undef :: (w.cell? ⟨g, o + 36, none⟩).getD undef :: []) _ ?_ Try.underlying65 rfl (by kernel_rfl)
  intro j v hv
  have hj : j < 37 := (List.getElem?_eq_some_iff.1 hv).1
  have key : ∀ (x : Addr), (w.cell? x).isSome = true → w.cell? x = some ((w.cell? x).getD undef) := fun x hx => by
    obtain ⟨u, hu⟩ := Option.isSome_iff_exists.1 hx
    rw [hu]; rfl
  match j, hj with
  | 0, _ => injection hv with hv; subst hv; exact key _ h0
  | 1, _ => injection hv with hv; subst hv; exact key _ h1
  | 2, _ => injection hv with hv; subst hv; exact key _ h2
  | 3, _ => injection hv with hv; subst hv; exact key _ h3
  | 4, _ => injection hv with hv; subst hv; exact key _ h4
  | 5, _ => injection hv with hv; subst hv; exact key _ h5
  | 6, _ => injection hv with hv; subst hv; exact key _ h6
  | 7, _ => injection hv with hv; subst hv; exact key _ h7
  | 8, _ => injection hv with hv; subst hv; exact key _ h8
  | 9, _ => injection hv with hv; subst hv; exact key _ h9
  | 10, _ => injection hv with hv; subst hv; exact key _ h10
  | 11, _ => injection hv with hv; subst hv; exact key _ h11
  | 12, _ => injection hv with hv; subst hv; exact key _ h12
  | 13, _ => injection hv with hv; subst hv; exact key _ h13
  | 14, _ => injection hv with hv; subst hv; exact key _ h14
  | 15, _ => injection hv with hv; subst hv; exact key _ h15
  | 16, _ => injection hv with hv; subst hv; exact key _ h16
  | 17, _ => injection hv with hv; subst hv; exact key _ h17
  | 18, _ => injection hv with hv; subst hv; exact key _ h18
  | 19, _ => injection hv with hv; subst hv; exact key _ h19
  | 20, _ => injection hv with hv; subst hv; exact key _ h20
  | 21, _ => injection hv with hv; subst hv; exact key _ h21
  | 22, _ => injection hv with hv; subst hv; exact key _ h22
  | 23, _ => injection hv with hv; subst hv; exact key _ h23
  | 24, _ => injection hv with hv; subst hv; exact key _ h24
  | 25, _ => injection hv with hv; subst hv; exact key _ h25
  | 26, _ => injection hv with hv; subst hv; exact key _ h26
  | 27, _ => injection hv with hv; subst hv; exact key _ h27
  | 28, _ => injection hv with hv; subst hv; exact key _ h28
  | 29, _ => injection hv with hv; subst hv; exact key _ h29
  | 30, _ => injection hv with hv; subst hv; exact key _ h30
  | 31, _ => injection hv with hv; subst hv; exact key _ h31
  | 32, _ => injection hv with hv; subst hv; exact key _ h32
  | 33, _ => injection hv with hv; subst hv; exact key _ h33
  | 34, _ => injection hv with hv; subst hv; exact key _ h34
  | 35, _ => injection hv with hv; subst hv; exact key _ h35
  | 36, _ => injection hv with hv; subst hv; exact key _ h36
  | j + 37, hj => exact absurd hj (by omega)
/-- A store of 37 cells at once, into a block that was just made. -/
def stRn (a : Addr) (v : Value) : Sem Unit := storeVar 65 a v
theorem stRn_is (a : Addr) (v : Value) : storeVar 65 a v = stRn a v := rfl
theorem run_stRn (w : World) (t : TypeId) (zs cs : Array Value) (g : Nat) (hg : g = w.heap.size) (hc : cs.size = 37) (hz : zs.size = 37) (h1 : cs.all (·.oneCell') = true) :
    (stRn ⟨g, 0, none⟩ (.agg cs)).run Try.prog (w.alloc (.cells zs t)) = .ok () (w.alloc (.cells cs t)) :=
  run_store_new w 65 t zs cs g hg (hc.trans hz.symm) (by rw [hc]; kernel_rfl) h1
theorem run_stRn_there (w : World) (cs : Array Value) (g o : Nat) (ht : w.there g o 37) (hc : cs.size = 37) (h1 : cs.all (·.oneCell') = true) :
    (stRn ⟨g, o, none⟩ (.agg cs)).run Try.prog w = .ok () (w.setCells g o cs.toList) :=
  run_storeVar_mid w g o 65 cs (hc ▸ ht) (by rw [hc]; kernel_rfl) h1
end Go.Proofs.Ytpbneghabikpdaa
