/- Memories: words and boxes; what a step answers, as plain lists; how a memory lies. Nothing of the program but 'append' of words. -/
import Derived.Test.YtpbneghabikpdaaSame
import Derived.Test.YtpbneghabikpdaaRows2
namespace Go.Proofs.Ytpbneghabikpdaa
open Go.RowKit

/-- Is it a place of so many? -/
def inR (n : Nat) (i : Int) : Bool := decide (0 ≤ i) && decide (i < (n : Int))
def erV (n : Nat) (i : Int) : Int := if inR n i = true then 0 else 30
def ldV (ws : List Int) (i : Int) : Int := if inR ws.length i = true then ws[i.toNat]?.getD 0 else 0
def stV (ws : List Int) (i v : Int) : List Int := if inR ws.length i = true then ws.set i.toNat v else ws
def casB (ws : List Int) (i old : Int) : Bool := inR ws.length i && (ldV ws i == old)
def casV (ws : List Int) (i old v : Int) : List Int := if casB ws i old = true then stV ws i v else ws
def bxV (bx : List (List E3)) (i : Int) : List E3 := if inR bx.length i = true then bx[i.toNat]?.getD [] else []
def ptV (bx : List (List E3)) (i : Int) (b : List E3) : List (List E3) := if inR bx.length i = true then bx.set i.toNat b else bx

theorem inR_at {n k : Nat} (h : k < n) : inR n (k : Int) = true := by simp [inR]; omega
theorem inR_no {n : Nat} {i : Int} (h : i < 0 ∨ (n : Int) ≤ i) : inR n i = false := by simp [inR]; omega
theorem inR_cases (n : Nat) (i : Int) : (∃ k : Nat, k < n ∧ i = (k : Int)) ∨ (i < 0 ∨ (n : Int) ≤ i) := by
  by_cases h : i < 0 ∨ (n : Int) ≤ i
  · exact .inr h
  · exact .inl ⟨i.toNat, by omega, by omega⟩
theorem erV_at {n k : Nat} (h : k < n) : erV n (k : Int) = 0 := by simp [erV, inR_at h]
theorem erV_no {n : Nat} {i : Int} (h : i < 0 ∨ (n : Int) ≤ i) : erV n i = 30 := by simp [erV, inR_no h]
theorem ldV_at {ws : List Int} {k : Nat} {v : Int} (h : ws[k]? = some v) : ldV ws (k : Int) = v := by
  have hk : k < ws.length := (List.getElem?_eq_some_iff.1 h).1
  simp [ldV, inR_at hk, h]
theorem ldV_no {ws : List Int} {i : Int} (h : i < 0 ∨ (ws.length : Int) ≤ i) : ldV ws i = 0 := by simp [ldV, inR_no h]
theorem stV_at {ws : List Int} {k : Nat} (v : Int) (h : k < ws.length) : stV ws (k : Int) v = ws.set k v := by simp [stV, inR_at h]
theorem stV_no {ws : List Int} {i : Int} (v : Int) (h : i < 0 ∨ (ws.length : Int) ≤ i) : stV ws i v = ws := by simp [stV, inR_no h]
theorem stV_length (ws : List Int) (i v : Int) : (stV ws i v).length = ws.length := by unfold stV; split <;> simp
theorem casV_length (ws : List Int) (i old v : Int) : (casV ws i old v).length = ws.length := by unfold casV; split <;> simp [stV_length]
theorem bxV_at {bx : List (List E3)} {k : Nat} {b : List E3} (h : bx[k]? = some b) : bxV bx (k : Int) = b := by
  have hk : k < bx.length := (List.getElem?_eq_some_iff.1 h).1
  simp [bxV, inR_at hk, h]
theorem bxV_no {bx : List (List E3)} {i : Int} (h : i < 0 ∨ (bx.length : Int) ≤ i) : bxV bx i = [] := by simp [bxV, inR_no h]
theorem ptV_at {bx : List (List E3)} {k : Nat} (b : List E3) (h : k < bx.length) : ptV bx (k : Int) b = bx.set k b := by simp [ptV, inR_at h]
theorem ptV_no {bx : List (List E3)} {i : Int} (b : List E3) (h : i < 0 ∨ (bx.length : Int) ≤ i) : ptV bx i b = bx := by simp [ptV, inR_no h]
theorem ptV_length (bx : List (List E3)) (i : Int) (b : List E3) : (ptV bx i b).length = bx.length := by unfold ptV; split <;> simp

/-- What is in the boxes. -/
def boxes (bs : List Bt) : List (List E3) := bs.map (·.l)
theorem boxes_length (bs : List Bt) : (boxes bs).length = bs.length := by simp [boxes]

/-- How a memory lies: its words, its boxes, what is in each. -/
structure MemAt (w : World) (A : Option Addr) (ws : List Int) (B : Option Addr) (bs : List Bt) : Prop where
  words : Sees w w.heap.size 1 A ws.length (ws.map (Value.int .i64))
  bxs : Sees w w.heap.size 1 B bs.length (bs.map Bt.val)
  each : ∀ q ∈ bs, q.Ok w
/-- The same, and it is no larger than numbers bear. -/
structure MemOk (w : World) (A : Option Addr) (ws : List Int) (B : Option Addr) (bs : List Bt) : Prop extends MemAt w A ws B bs where
  few : ws.length ≤ 20000
  fewb : bs.length ≤ 20000
  short : ∀ q ∈ bs, q.l.length ≤ 20000

theorem MemAt.later {w w' : World} {A B : Option Addr} {ws : List Int} {bs : List Bt} (h : MemAt w A ws B bs) (hb : Below w.heap.size w w') : MemAt w' A ws B bs :=
  ⟨h.words.later hb, h.bxs.later hb, fun q hq => (h.each q hq).later hb⟩
theorem MemOk.later {w w' : World} {A B : Option Addr} {ws : List Int} {bs : List Bt} (h : MemOk w A ws B bs) (hb : Below w.heap.size w w') : MemOk w' A ws B bs :=
  ⟨h.toMemAt.later hb, h.few, h.fewb, h.short⟩

theorem Sees.set {w : World} {B b off n k : Nat} {xs : List Value} (v : Value) (h : Sees w B 1 (some ⟨b, off, none⟩) n xs) (hk : k < n) :
    Sees (w.setCell ⟨b, off + k, none⟩ v) B 1 (some ⟨b, off, none⟩) n (xs.set k v) := by
  refine ⟨by simpa using h.1, fun hn => ?_⟩
  obtain ⟨b', off', e, hb, hc⟩ := h.2 hn
  cases e
  refine ⟨b, off, rfl, hb, fun j u hu => ?_⟩
  rw [List.getElem?_set] at hu
  have hl : xs.length = n := by have := h.1; omega
  by_cases hkj : k = j
  · subst hkj
    rw [if_pos rfl, if_pos (by omega)] at hu
    injection hu with hu
    subst hu
    exact World.cell?_setCell_same _ _ _ (hc k _ (List.getElem?_eq_getElem (by omega)))
  · rw [if_neg hkj] at hu
    rw [World.cell?_setCell_other _ _ _ _ (by intro h1; rw [Addr.mk.injEq] at h1; omega)]
    exact hc j u hu
theorem Sees.far {w : World} {B sz n : Nat} {A : Option Addr} {xs : List Value} (h : Sees w B sz A n xs) (g o : Nat) (v : Value) (hA : ∀ p, A = some p → p.block ≠ g) : Sees (w.setCell ⟨g, o, none⟩ v) B sz A n xs := by
  refine ⟨h.1, fun hn => ?_⟩
  obtain ⟨b, off, e, hb, hc⟩ := h.2 hn
  refine ⟨b, off, e, hb, fun j u hu => ?_⟩
  rw [World.cell?_setCell_other _ _ _ _ (fun h1 => hA _ e (by rw [Addr.mk.injEq] at h1; exact h1.1.symm))]
  exact hc j u hu
theorem Sees.lt {w : World} {B sz n : Nat} {A : Option Addr} {xs : List Value} (h : Sees w B sz A n xs) (g o : Nat) (v : Value) (hg : B ≤ g) : Sees (w.setCell ⟨g, o, none⟩ v) B sz A n xs :=
  h.hold fun p hp => World.cell?_setCell_other _ _ _ _ (by rintro rfl; simp at hp; omega)

/-- A number and an error. -/
def IEPost (v e : Int) (w : World) (x : Ending) (w' : World) : Prop := x = .returned (.tuple #[.int .i64 v, .int .i64 e]) ∧ Below w.heap.size w w'
/-- Words (those of A, or new ones), a number, an error. -/
def WIEPost (A : Option Addr) (ws : List Int) (v e : Int) (w : World) (x : Ending) (w' : World) : Prop :=
  ∃ A' c, x = .returned (.tuple #[.slice A' ws.length c, .int .i64 v, .int .i64 e]) ∧ Sees w' w'.heap.size 1 A' ws.length (ws.map (Value.int .i64)) ∧ (A' = A ∨ Fresh w A') ∧ Below w.heap.size w w'
/-- A memory whose boxes are those that were handed in: alone with an error; with a number; with a bool. -/
def MEPost (A : Option Addr) (ws : List Int) (B : Option Addr) (nb d : Nat) (e : Int) (w : World) (x : Ending) (w' : World) : Prop :=
  ∃ A' c, x = .returned (.tuple #[.agg #[.slice A' ws.length c, .slice B nb d], .int .i64 e]) ∧ Sees w' w'.heap.size 1 A' ws.length (ws.map (Value.int .i64)) ∧ (A' = A ∨ Fresh w A') ∧ Below w.heap.size w w'
def MIEPost (A : Option Addr) (ws : List Int) (B : Option Addr) (nb d : Nat) (v e : Int) (w : World) (x : Ending) (w' : World) : Prop :=
  ∃ A' c, x = .returned (.tuple #[.agg #[.slice A' ws.length c, .slice B nb d], .int .i64 v, .int .i64 e]) ∧ Sees w' w'.heap.size 1 A' ws.length (ws.map (Value.int .i64)) ∧ (A' = A ∨ Fresh w A') ∧ Below w.heap.size w w'
def MBEPost (A : Option Addr) (ws : List Int) (B : Option Addr) (nb d : Nat) (p : Bool) (e : Int) (w : World) (x : Ending) (w' : World) : Prop :=
  ∃ A' c, x = .returned (.tuple #[.agg #[.slice A' ws.length c, .slice B nb d], .bool p, .int .i64 e]) ∧ Sees w' w'.heap.size 1 A' ws.length (ws.map (Value.int .i64)) ∧ (A' = A ∨ Fresh w A') ∧ Below w.heap.size w w'
/-- A batch and an error. -/
def REPost (l : List E3) (e : Int) (w : World) (x : Ending) (w' : World) : Prop :=
  ∃ A c, x = .returned (.tuple #[.slice A l.length c, .int .i64 e]) ∧ Sees w' w'.heap.size 3 A l.length (ecells l) ∧ Below w.heap.size w w'
/-- With other words, as many. -/
theorem MemOk.words_at {w w' : World} {A A' B : Option Addr} {ws ws' : List Int} {bs : List Bt} (h : MemOk w A ws B bs) (hb : Below w.heap.size w w') (hs : Sees w' w'.heap.size 1 A' ws'.length (ws'.map (Value.int .i64))) (hl : ws'.length = ws.length) : MemOk w' A' ws' B bs :=
  ⟨⟨hs, h.bxs.later hb, fun q hq => (h.each q hq).later hb⟩, hl ▸ h.few, h.fewb, h.short⟩

/-- A cell of a block that was there. -/
theorem cell_keep {w w' : World} {b : Nat} {off : Nat} {v : Value} (h : w.cell? ⟨b, off, none⟩ = some v) (hb : Below w.heap.size w w') : w'.cell? ⟨b, off, none⟩ = some v :=
  (hb.cell (p := ⟨b, off, none⟩) (World.block_lt_of_cell? w _ h)).trans h
end Go.Proofs.Ytpbneghabikpdaa
