/- Texts of the elder layers in one file. -/
import Derived.Test.YtjghdbkkjhnpfaaM1
import Derived.Handy
import Derived.Deep.RegionHeld3
import Derived.Deep.Cut
import Derived.Lib.SmallJoins
import Derived.Lib.QuietBelow
import Derived.OneCell
import Derived.Deep.RegionLaw
import Derived.Deep.OwnRows
import Derived.Deep.RegionWith
import Derived.Maps.AppendAt
/- Memories: words and boxes; what a step answers, as plain lists; how a memory lies. Nothing of the program but 'append' of words. -/
namespace Go.Proofs.Ytjghdbkkjhnpfaa
open Go.RowKit

/-- Is it a place of so many? -/
def inR (n : Nat) (i : Int) : Bool := decide (0 ≤ i) && decide (i < (n : Int))
def erV (n : Nat) (i : Int) : Int := if inR n i = true then 0 else 30
def ldV (ws : List Int) (i : Int) : Int := if inR ws.length i = true then ws[i.toNat]?.getD 0 else 0
def stV (ws : List Int) (i v : Int) : List Int := if inR ws.length i = true then ws.set i.toNat v else ws
def casB (ws : List Int) (i old : Int) : Bool := inR ws.length i && (ldV ws i == old)
def casV (ws : List Int) (i old v : Int) : List Int := if casB ws i old = true then stV ws i v else ws
def bxV (bx : List (List E3)) (i : Int) : List E3 := if inR bx.length i = true then bx[i.toNat]?.getD [] else []
def ptV (bx : List (List E3)) (i : Int) (b : List E3) : List (List E3) := if inR bx.length i = true then bx.set i.toNat b else bx

theorem inR_at {n k : Nat} (h : k < n) : inR n (k : Int) = true := by simp [inR]; omega
theorem inR_no {n : Nat} {i : Int} (h : i < 0 ∨ (n : Int) ≤ i) : inR n i = false := by simp [inR]; omega
theorem inR_cases (n : Nat) (i : Int) : (∃ k : Nat, k < n ∧ i = (k : Int)) ∨ (i < 0 ∨ (n : Int) ≤ i) := by
  by_cases h : i < 0 ∨ (n : Int) ≤ i
  · exact .inr h
  · exact .inl ⟨i.toNat, by omega, by omega⟩
theorem erV_at {n k : Nat} (h : k < n) : erV n (k : Int) = 0 := by simp [erV, inR_at h]
theorem erV_no {n : Nat} {i : Int} (h : i < 0 ∨ (n : Int) ≤ i) : erV n i = 30 := by simp [erV, inR_no h]
theorem ldV_at {ws : List Int} {k : Nat} {v : Int} (h : ws[k]? = some v) : ldV ws (k : Int) = v := by
  have hk : k < ws.length := (List.getElem?_eq_some_iff.1 h).1
  simp [ldV, inR_at hk, h]
theorem ldV_no {ws : List Int} {i : Int} (h : i < 0 ∨ (ws.length : Int) ≤ i) : ldV ws i = 0 := by simp [ldV, inR_no h]
theorem stV_at {ws : List Int} {k : Nat} (v : Int) (h : k < ws.length) : stV ws (k : Int) v = ws.set k v := by simp [stV, inR_at h]
theorem stV_no {ws : List Int} {i : Int} (v : Int) (h : i < 0 ∨ (ws.length : Int) ≤ i) : stV ws i v = ws := by simp [stV, inR_no h]
theorem stV_length (ws : List Int) (i v : Int) : (stV ws i v).length = ws.length := by unfold stV; split <;> simp
theorem casV_length (ws : List Int) (i old v : Int) : (casV ws i old v).length = ws.length := by unfold casV; split <;> simp [stV_length]
theorem bxV_at {bx : List (List E3)} {k : Nat} {b : List E3} (h : bx[k]? = some b) : bxV bx (k : Int) = b := by
  have hk : k < bx.length := (List.getElem?_eq_some_iff.1 h).1
  simp [bxV, inR_at hk, h]
theorem bxV_no {bx : List (List E3)} {i : Int} (h : i < 0 ∨ (bx.length : Int) ≤ i) : bxV bx i = [] := by simp [bxV, inR_no h]
theorem ptV_at {bx : List (List E3)} {k : Nat} (b : List E3) (h : k < bx.length) : ptV bx (k : Int) b = bx.set k b := by simp [ptV, inR_at h]
theorem ptV_no {bx : List (List E3)} {i : Int} (b : List E3) (h : i < 0 ∨ (bx.length : Int) ≤ i) : ptV bx i b = bx := by simp [ptV, inR_no h]
theorem ptV_length (bx : List (List E3)) (i : Int) (b : List E3) : (ptV bx i b).length = bx.length := by unfold ptV; split <;> simp

/-- What is in the boxes. -/
def boxes (bs : List Bt) : List (List E3) := bs.map (·.l)
theorem boxes_length (bs : List Bt) : (boxes bs).length = bs.length := by simp [boxes]

/-- How a memory lies: its words, its boxes, what is in each. -/
structure MemAt (w : World) (A : Option Addr) (ws : List Int) (B : Option Addr) (bs : List Bt) : Prop where
  words : Sees w w.heap.size 1 A ws.length (ws.map (Value.int .i64))
  bxs : Sees w w.heap.size 1 B bs.length (bs.map Bt.val)
  each : ∀ q ∈ bs, q.Ok w
/-- The same, and it is no larger than numbers bear. -/
structure MemOk (w : World) (A : Option Addr) (ws : List Int) (B : Option Addr) (bs : List Bt) : Prop extends MemAt w A ws B bs where
  few : ws.length ≤ 20000
  fewb : bs.length ≤ 20000
  short : ∀ q ∈ bs, q.l.length ≤ 20000

theorem MemAt.later {w w' : World} {A B : Option Addr} {ws : List Int} {bs : List Bt} (h : MemAt w A ws B bs) (hb : Below w.heap.size w w') : MemAt w' A ws B bs :=
  ⟨h.words.later hb, h.bxs.later hb, fun q hq => (h.each q hq).later hb⟩
theorem MemOk.later {w w' : World} {A B : Option Addr} {ws : List Int} {bs : List Bt} (h : MemOk w A ws B bs) (hb : Below w.heap.size w w') : MemOk w' A ws B bs :=
  ⟨h.toMemAt.later hb, h.few, h.fewb, h.short⟩

theorem Sees.set {w : World} {B b off n k : Nat} {xs : List Value} (v : Value) (h : Sees w B 1 (some ⟨b, off, none⟩) n xs) (hk : k < n) :
    Sees (w.setCell ⟨b, off + k, none⟩ v) B 1 (some ⟨b, off, none⟩) n (xs.set k v) := by
  refine ⟨by simpa using h.1, fun hn => ?_⟩
  obtain ⟨b', off', e, hb, hc⟩ := h.2 hn
  cases e
  refine ⟨b, off, rfl, hb, fun j u hu => ?_⟩
  rw [List.getElem?_set] at hu
  have hl : xs.length = n := by have := h.1; omega
  by_cases hkj : k = j
  · subst hkj
    rw [if_pos rfl, if_pos (by omega)] at hu
    injection hu with hu
    subst hu
    exact World.cell?_setCell_same _ _ _ (hc k _ (List.getElem?_eq_getElem (by omega)))
  · rw [if_neg hkj] at hu
    rw [World.cell?_setCell_other _ _ _ _ (by intro h1; rw [Addr.mk.injEq] at h1; omega)]
    exact hc j u hu
theorem Sees.far {w : World} {B sz n : Nat} {A : Option Addr} {xs : List Value} (h : Sees w B sz A n xs) (g o : Nat) (v : Value) (hA : ∀ p, A = some p → p.block ≠ g) : Sees (w.setCell ⟨g, o, none⟩ v) B sz A n xs := by
  refine ⟨h.1, fun hn => ?_⟩
  obtain ⟨b, off, e, hb, hc⟩ := h.2 hn
  refine ⟨b, off, e, hb, fun j u hu => ?_⟩
  rw [World.cell?_setCell_other _ _ _ _ (fun h1 => hA _ e (by rw [Addr.mk.injEq] at h1; exact h1.1.symm))]
  exact hc j u hu
theorem Sees.lt {w : World} {B sz n : Nat} {A : Option Addr} {xs : List Value} (h : Sees w B sz A n xs) (g o : Nat) (v : Value) (hg : B ≤ g) : Sees (w.setCell ⟨g, o, none⟩ v) B sz A n xs :=
  h.hold fun p hp => World.cell?_setCell_other _ _ _ _ (by rintro rfl; simp at hp; omega)

/-- A number and an error. -/
def IEPost (v e : Int) (w : World) (x : Ending) (w' : World) : Prop := x = .returned (.tuple #[.int .i64 v, .int .i64 e]) ∧ Below w.heap.size w w'
/-- Words (those of A, or new ones), a number, an error. -/
def WIEPost (A : Option Addr) (ws : List Int) (v e : Int) (w : World) (x : Ending) (w' : World) : Prop :=
  ∃ A' c, x = .returned (.tuple #[.slice A' ws.length c, .int .i64 v, .int .i64 e]) ∧ Sees w' w'.heap.size 1 A' ws.length (ws.map (Value.int .i64)) ∧ (A' = A ∨ Fresh w A') ∧ Below w.heap.size w w'
/-- A memory whose boxes are those that were handed in: alone with an error; with a number; with a bool. -/
def MEPost (A : Option Addr) (ws : List Int) (B : Option Addr) (nb d : Nat) (e : Int) (w : World) (x : Ending) (w' : World) : Prop :=
  ∃ A' c, x = .returned (.tuple #[.agg #[.slice A' ws.length c, .slice B nb d], .int .i64 e]) ∧ Sees w' w'.heap.size 1 A' ws.length (ws.map (Value.int .i64)) ∧ (A' = A ∨ Fresh w A') ∧ Below w.heap.size w w'
def MIEPost (A : Option Addr) (ws : List Int) (B : Option Addr) (nb d : Nat) (v e : Int) (w : World) (x : Ending) (w' : World) : Prop :=
  ∃ A' c, x = .returned (.tuple #[.agg #[.slice A' ws.length c, .slice B nb d], .int .i64 v, .int .i64 e]) ∧ Sees w' w'.heap.size 1 A' ws.length (ws.map (Value.int .i64)) ∧ (A' = A ∨ Fresh w A') ∧ Below w.heap.size w w'
def MBEPost (A : Option Addr) (ws : List Int) (B : Option Addr) (nb d : Nat) (p : Bool) (e : Int) (w : World) (x : Ending) (w' : World) : Prop :=
  ∃ A' c, x = .returned (.tuple #[.agg #[.slice A' ws.length c, .slice B nb d], .bool p, .int .i64 e]) ∧ Sees w' w'.heap.size 1 A' ws.length (ws.map (Value.int .i64)) ∧ (A' = A ∨ Fresh w A') ∧ Below w.heap.size w w'
/-- A batch and an error. -/
def REPost (l : List E3) (e : Int) (w : World) (x : Ending) (w' : World) : Prop :=
  ∃ A c, x = .returned (.tuple #[.slice A l.length c, .int .i64 e]) ∧ Sees w' w'.heap.size 3 A l.length (ecells l) ∧ Below w.heap.size w w'
/-- With other words, as many. -/
theorem MemOk.words_at {w w' : World} {A A' B : Option Addr} {ws ws' : List Int} {bs : List Bt} (h : MemOk w A ws B bs) (hb : Below w.heap.size w w') (hs : Sees w' w'.heap.size 1 A' ws'.length (ws'.map (Value.int .i64))) (hl : ws'.length = ws.length) : MemOk w' A' ws' B bs :=
  ⟨⟨hs, h.bxs.later hb, fun q hq => (h.each q hq).later hb⟩, hl ▸ h.few, h.fewb, h.short⟩

/-- A cell of a block that was there. -/
theorem cell_keep {w w' : World} {b : Nat} {off : Nat} {v : Value} (h : w.cell? ⟨b, off, none⟩ = some v) (hb : Below w.heap.size w w') : w'.cell? ⟨b, off, none⟩ = some v :=
  (hb.cell (p := ⟨b, off, none⟩) (World.block_lt_of_cell? w _ h)).trans h
end Go.Proofs.Ytjghdbkkjhnpfaa
/- Contracts of wmem's steps on words, and of the document's own. -/
namespace Go.Proofs.Ytjghdbkkjhnpfaa
open Go.RowKit

set_option maxRecDepth 100000 in
set_option maxHeartbeats 1000000 in
theorem readI_any (A : Option Addr) (c : Nat) (ws : List Int) (i : Int) (w : World) (hs : Sees w w.heap.size 1 A ws.length (ws.map (Value.int .i64))) :
    Calls Try.prog 70 #[.slice A ws.length c, .int .i64 i] w (fun x w' => x = .returned (.tuple #[.int .i64 (ldV ws i), .int .i64 (erV ws.length i)]) ∧ w' = w) := by
  rcases inR_cases ws.length i with ⟨k, hk, rfl⟩ | hno
  · obtain ⟨b, off, v, rfl, hb, hv, hc⟩ := hs.num hk
    rw [ldV_at hv, erV_at hk]
    clear hv hs
    go_enter Try.func70, Try.ntmps70
    go_wp2
    go_ret2
    exact ⟨rfl, rfl⟩
  · rw [ldV_no hno, erV_no hno]
    clear hs
    rcases hno with h | h
    · go_enter Try.func70, Try.ntmps70
      go_wp2
      go_ret2
      exact ⟨rfl, rfl⟩
    · by_cases h0 : i < 0
      · go_enter Try.func70, Try.ntmps70
        go_wp2
        go_ret2
        exact ⟨rfl, rfl⟩
      · have h1 : (0 : Int) ≤ i := by omega
        go_enter Try.func70, Try.ntmps70
        go_wp2
        go_ret2
        exact ⟨rfl, rfl⟩

set_option maxRecDepth 100000 in
set_option maxHeartbeats 1000000 in
theorem load_any (A B : Option Addr) (c d : Nat) (ws : List Int) (bs : List Bt) (i : Int) (w : World) (h : MemOk w A ws B bs) :
    Calls Try.prog 50 #[.agg #[.slice A ws.length c, .slice B bs.length d], .int .i64 i] w (IEPost (ldV ws i) (erV ws.length i) w) := by
  have hb : Below w.heap.size w (w.alloc (.cells #[.slice A ws.length c, .slice B bs.length d] 27)) := (Below.refl _ w).alloc (Nat.le_refl _) _
  have s1 := (h.later hb).words
  obtain ⟨lv, hl⟩ : ∃ x, ldV ws i = x := ⟨_, rfl⟩
  obtain ⟨ev, he⟩ : ∃ x, erV ws.length i = x := ⟨_, rfl⟩
  have key := readI_any A c ws i _ s1
  rw [hl, he] at key ⊢
  have K := hide key
  clear key hl he h
  go_enter Try.func50, Try.ntmps50
  go_wp2_with fail
  refine K.out.mono ?_
  rintro x w2 ⟨rfl, rfl⟩
  go_wp2
  go_ret2
  exact ⟨rfl, hb⟩

theorem stepS_any (p : Nat) (was v : Int) (w : World) (h : w.cell? ⟨p, 0, none⟩ = some (.int .i64 v)) :
    Calls Try.prog 68 #[.int .i64 was, .pointer (some ⟨p, 0, none⟩)] w (fun x w' => x = .returned (.int .i64 v) ∧ w' = w) := by
  go_enter Try.func68, Try.ntmps68
  go_wp2
  go_ret
  exact ⟨rfl, rfl⟩
theorem stepC_any (p q : Nat) (was old v : Int) (w : World) (h : w.cell? ⟨p, 0, none⟩ = some (.int .i64 old)) (h' : w.cell? ⟨q, 0, none⟩ = some (.int .i64 v)) :
    Calls Try.prog 69 #[.int .i64 was, .pointer (some ⟨p, 0, none⟩), .pointer (some ⟨q, 0, none⟩)] w (fun x w' => x = .returned (.int .i64 (if was = old then v else was)) ∧ w' = w) := by
  by_cases hc : was = old
  · rw [if_pos hc]
    subst hc
    go_enter Try.func69, Try.ntmps69
    go_wp2
    go_ret
    exact ⟨rfl, rfl⟩
  · rw [if_neg hc]
    go_enter Try.func69, Try.ntmps69
    go_wp2
    go_ret
    exact ⟨rfl, rfl⟩

set_option maxRecDepth 100000 in
set_option maxHeartbeats 1000000 in
theorem cloneI_any (b off c : Nat) (ws : List Int) (hf : ws.length ≤ 20000) (w : World) (hs : Sees w w.heap.size 1 (some ⟨b, off, none⟩) ws.length (ws.map (Value.int .i64))) :
    Calls Try.prog 86 #[.slice (some ⟨b, off, none⟩) ws.length c] w (fun x w' => ∃ A cap, x = .returned (.slice A ws.length cap) ∧ w'.ownsRow w.heap.size 3 1 (.slice A ws.length cap) ws.length (ws.map (Value.int .i64)) ∧ Below w.heap.size w w') := by
  obtain ⟨i0, hi0, hz0, hz1, hz2⟩ := info_parts info3
  have hb : Below w.heap.size w (w.alloc (.cells #[] 3)) := (Below.refl _ w).alloc (Nat.le_refl _) _
  have s1 := hs.later hb
  have he : ∀ u : World, (binOp .eql 24 (.slice (some ⟨b, off, none⟩) ws.length c) (.slice none 0 0)).run Try.prog u = .ok (.bool false) u := fun _ => rfl
  go_enter Try.func86, Try.ntmps86
  go_wp2_with (at_builtin; refine wpList_app _ rfl _ _ 24 rfl w.heap.size 3 i0 _ 1 8 Try.underlying24 hi0 hz0 hz1 hz2 rfl (by omega) _ 0 _ rfl (own_empty w _ _ _ (Nat.le_refl _)) _ _ ws.length c _ rfl s1 (by simp [Value.oneCell']) (by unfold maxLen; omega) (by omega) (by simp) ?_; intro v1 w1 hown1 hg1)
  go_ret
  rw [Nat.zero_add] at hown1
  obtain ⟨A', c', rfl, hc'⟩ := own_form hown1
  exact ⟨A', c', rfl, hown1, hb.grown hg1 (by simp) (own_at (own_empty w w.heap.size 3 1 (Nat.le_refl _)))⟩

/-- The place k of an own row: written, and what it is then. -/
theorem own_set {w w' : World} {A : Option Addr} {c n k : Nat} {e : TypeId} {xs : List Value} (v : Value) (h : w'.ownsRow w.heap.size e 1 (.slice A n c) n xs) (hk : k < n) :
    ∃ g u, A = some ⟨g, 0, none⟩ ∧ w.heap.size ≤ g ∧ w'.cell? ⟨g, k, none⟩ = some u ∧ w'.frozen? ⟨g, k, none⟩ = false ∧
      Sees (w'.setCell ⟨g, k, none⟩ v) w'.heap.size 1 A n (xs.set k v) := by
  have hs := Sees.of_own h
  have hf := fresh_own h
  rcases h.2 with ⟨hv, h0⟩ | ⟨g, cap, cur, hv, hb, hg, h1, h2, h3, h4⟩
  · omega
  · have hA : A = some ⟨g, 0, none⟩ := by injection hv
    subst hA
    have hl := h.1
    refine ⟨g, xs[k]'(by omega), rfl, hb, ?_, h.frozenAt k, ?_⟩
    · rw [h.cellAt k (by omega)]; exact List.getElem?_eq_getElem _
    · have := hs.set v hk
      rwa [Nat.zero_add] at this

set_option maxRecDepth 100000 in
set_option maxHeartbeats 1000000 in
theorem writeS_any (A : Option Addr) (c p : Nat) (ws : List Int) (i v : Int) (w : World) (hf : ws.length ≤ 20000) (hs : Sees w w.heap.size 1 A ws.length (ws.map (Value.int .i64))) (hp : w.cell? ⟨p, 0, none⟩ = some (.int .i64 v)) :
    Calls Try.prog 67 #[.slice A ws.length c, .int .i64 i, .func (.func 68) #[] #[.pointer (some ⟨p, 0, none⟩)]] w (WIEPost A (stV ws i v) (ldV ws i) (erV ws.length i) w) := by
  have K := hide (readI_any A c ws i w hs)
  rcases inR_cases ws.length i with ⟨k, hk, rfl⟩ | hno
  · obtain ⟨b, off, rfl, hb, _⟩ := hs.2 (by omega)
    obtain ⟨lv, hl⟩ : ∃ x, ldV ws (k : Int) = x := ⟨_, rfl⟩
    rw [hl, erV_at hk] at K ⊢
    have hlen : (stV ws (k : Int) v).length = ws.length := stV_length _ _ _
    have HL := hide hlen
    have HV := hide (stV_at v hk)
    clear hl hlen
    go_enter Try.func67, Try.ntmps67
    go_wp2_with fail
    refine K.out.mono ?_
    rintro x w1 ⟨rfl, rfl⟩
    go_wp2_with fail
    refine (cloneI_any b off c ws hf w1 hs).mono ?_
    rintro x w2 ⟨A2, c2, rfl, hown, hb2⟩
    have hp2 := cell_keep hp hb2
    obtain ⟨g, u, rfl, hg, hgu, hgf, hset⟩ := own_set (.int .i64 v) hown hk
    have hk0 : (0 : Int) ≤ (k : Int) := Int.natCast_nonneg _
    have hk1 : (k : Int) < (ws.length : Int) := by omega
    go_wp2_with fail
    refine (stepS_any p lv v w2 hp2).mono ?_
    rintro x w3 ⟨rfl, rfl⟩
    go_wp2
    go_ret3
    rw [WIEPost, HL.out, HV.out, List.map_set]
    exact ⟨some ⟨g, 0, none⟩, c2, rfl, hset.up (by simp), .inr (fun q hq => by cases hq; exact hg), hb2.setCell hg _⟩
  · rw [stV_no v hno]
    rw [ldV_no hno, erV_no hno] at K ⊢
    clear hno
    go_enter Try.func67, Try.ntmps67
    go_wp2_with fail
    refine K.out.mono ?_
    rintro x w1 ⟨rfl, rfl⟩
    go_wp2
    go_ret3
    exact ⟨A, c, rfl, hs, .inl rfl, Below.refl _ _⟩
end Go.Proofs.Ytjghdbkkjhnpfaa
/- Contracts of wmem's Swap, Store and Cas, and of the document's own. -/
namespace Go.Proofs.Ytjghdbkkjhnpfaa
open Go.RowKit

theorem casV_at {ws : List Int} {k : Nat} {x : Int} (old v : Int) (h : ws[k]? = some x) : casV ws (k : Int) old v = ws.set k (if x = old then v else x) := by
  have hk : k < ws.length := (List.getElem?_eq_some_iff.1 h).1
  unfold casV casB
  rw [inR_at hk, ldV_at h, stV_at v hk]
  by_cases hx : x = old
  · simp [hx]
  · rw [if_neg hx]
    have : ws.set k x = ws := by
      apply List.ext_getElem?
      intro j
      rw [List.getElem?_set]
      split
      · rename_i hj; subst hj; rw [h]
      · rfl
    simp [hx, this]
theorem casB_at {ws : List Int} {k : Nat} {x : Int} (old : Int) (h : ws[k]? = some x) : casB ws (k : Int) old = (x == old) := by
  have hk : k < ws.length := (List.getElem?_eq_some_iff.1 h).1
  simp [casB, inR_at hk, ldV_at h]
theorem casV_no {ws : List Int} {i : Int} (old v : Int) (h : i < 0 ∨ (ws.length : Int) ≤ i) : casV ws i old v = ws := by simp [casV, casB, inR_no h]
theorem casB_no {ws : List Int} {i : Int} (old : Int) (h : i < 0 ∨ (ws.length : Int) ≤ i) : casB ws i old = false := by simp [casB, inR_no h]

set_option maxRecDepth 100000 in
set_option maxHeartbeats 1000000 in
theorem writeC_any (A : Option Addr) (c p q : Nat) (ws : List Int) (i old v : Int) (w : World) (hf : ws.length ≤ 20000) (hs : Sees w w.heap.size 1 A ws.length (ws.map (Value.int .i64))) (hp : w.cell? ⟨p, 0, none⟩ = some (.int .i64 old)) (hq : w.cell? ⟨q, 0, none⟩ = some (.int .i64 v)) :
    Calls Try.prog 67 #[.slice A ws.length c, .int .i64 i, .func (.func 69) #[] #[.pointer (some ⟨p, 0, none⟩), .pointer (some ⟨q, 0, none⟩)]] w (WIEPost A (casV ws i old v) (ldV ws i) (erV ws.length i) w) := by
  have K := hide (readI_any A c ws i w hs)
  rcases inR_cases ws.length i with ⟨k, hk, rfl⟩ | hno
  · obtain ⟨b, off, lv, rfl, hb, hl, _⟩ := hs.num hk
    obtain ⟨nv, hnv⟩ : ∃ x, (if lv = old then v else lv) = x := ⟨_, rfl⟩
    have hlen : (casV ws (k : Int) old v).length = ws.length := casV_length _ _ _ _
    have HL := hide hlen
    have hcv := casV_at old v hl
    rw [hnv] at hcv
    have HV := hide hcv
    have hstep : ∀ u : World, u.cell? ⟨p, 0, none⟩ = some (.int .i64 old) → u.cell? ⟨q, 0, none⟩ = some (.int .i64 v) → Calls Try.prog 69 #[.int .i64 lv, .pointer (some ⟨p, 0, none⟩), .pointer (some ⟨q, 0, none⟩)] u (fun x w' => x = .returned (.int .i64 nv) ∧ w' = u) := by
      intro u h1 h2
      have := stepC_any p q lv old v u h1 h2
      rwa [hnv] at this
    have HS := hide hstep
    rw [ldV_at hl, erV_at hk] at K ⊢
    clear hl hlen hcv hnv hstep
    go_enter Try.func67, Try.ntmps67
    go_wp2_with fail
    refine K.out.mono ?_
    rintro x w1 ⟨rfl, rfl⟩
    go_wp2_with fail
    refine (cloneI_any b off c ws hf w1 hs).mono ?_
    rintro x w2 ⟨A2, c2, rfl, hown, hb2⟩
    have hp2 := cell_keep hp hb2
    have hq2 := cell_keep hq hb2
    obtain ⟨g, u, rfl, hg, hgu, hgf, hset⟩ := own_set (.int .i64 nv) hown hk
    have hk0 : (0 : Int) ≤ (k : Int) := Int.natCast_nonneg _
    have hk1 : (k : Int) < (ws.length : Int) := by omega
    go_wp2_with fail
    refine (HS.out w2 hp2 hq2).mono ?_
    rintro x w3 ⟨rfl, rfl⟩
    go_wp2
    go_ret3
    rw [WIEPost, HL.out, HV.out, List.map_set]
    exact ⟨some ⟨g, 0, none⟩, c2, rfl, hset.up (by simp), .inr (fun q hq => by cases hq; exact hg), hb2.setCell hg _⟩
  · rw [casV_no old v hno]
    rw [ldV_no hno, erV_no hno] at K ⊢
    clear hno
    go_enter Try.func67, Try.ntmps67
    go_wp2_with fail
    refine K.out.mono ?_
    rintro x w1 ⟨rfl, rfl⟩
    go_wp2
    go_ret3
    exact ⟨A, c, rfl, hs, .inl rfl, Below.refl _ _⟩

/-- A row that was there, or lies behind: no block in between is its. -/
theorem off_of {w w1 : World} {A A' : Option Addr} {g : Nat} (hA : ∀ p, A = some p → p.block < w.heap.size) (h : A' = A ∨ Fresh w1 A') (h1 : w.heap.size ≤ g) (h2 : g < w1.heap.size) : ∀ p, A' = some p → p.block ≠ g := by
  intro p hp
  rcases h with rfl | h
  · have := hA p hp; omega
  · have := h p hp; omega
theorem Sees.block_lt {w : World} {B sz n : Nat} {A : Option Addr} {xs : List Value} (h : Sees w B sz A n xs) (hn : 0 < n) : ∀ p, A = some p → p.block < B := by
  intro p hp
  obtain ⟨b, off, e, hb, _⟩ := h.2 hn
  rw [e] at hp
  cases hp
  exact hb
/-- The same, for a row that may hold nothing. -/
theorem Sees.far' {w w0 w1 : World} {B sz n : Nat} {A A' : Option Addr} {xs : List Value} (h : Sees w B sz A' n xs) (g o : Nat) (v : Value) (hA : 0 < n → ∀ p, A = some p → p.block < w0.heap.size) (hor : A' = A ∨ Fresh w1 A') (h1 : w0.heap.size ≤ g) (h2 : g < w1.heap.size) :
    Sees (w.setCell ⟨g, o, none⟩ v) B sz A' n xs := by
  rcases Nat.eq_zero_or_pos n with h0 | h0
  · exact ⟨h.1, fun hn => absurd hn (by omega)⟩
  · exact h.far g o v (off_of (hA h0) hor h1 h2)

set_option maxRecDepth 100000 in
set_option maxHeartbeats 1000000 in
theorem swap_any (A B : Option Addr) (c d : Nat) (ws : List Int) (bs : List Bt) (i v : Int) (w : World) (h : MemOk w A ws B bs) :
    Calls Try.prog 48 #[.agg #[.slice A ws.length c, .slice B bs.length d], .int .i64 i, .int .i64 v] w (MIEPost A (stV ws i v) B bs.length d (ldV ws i) (erV ws.length i) w) := by
  have hA := fun hn => h.words.block_lt hn
  have hb : Below w.heap.size w (((w.alloc (.cells #[.slice A ws.length c, .slice B bs.length d] 27)).alloc (.cells #[.int .i64 v] 3)).alloc (.cells #[.slice none 0 0, .slice none 0 0] 27)) :=
    (((Below.refl _ w).alloc (Nat.le_refl _) _).alloc (by simp) _).alloc (by simp; omega) _
  have key := writeS_any A c (w.heap.size + 1) ws i v _ h.few (h.words.later hb) (by simp [go_sem])
  have hlen : (stV ws i v).length = ws.length := stV_length ws i v
  obtain ⟨ns, hns⟩ : ∃ x, stV ws i v = x := ⟨_, rfl⟩
  obtain ⟨lv, hl⟩ : ∃ x, ldV ws i = x := ⟨_, rfl⟩
  obtain ⟨ev, he⟩ : ∃ x, erV ws.length i = x := ⟨_, rfl⟩
  rw [hns, hl, he] at key
  rw [hns] at hlen
  rw [hns, hl, he]
  have K := hide key
  have HL := hide hlen
  have HA := hide hA
  clear key hns hl he hlen h hA
  go_enter Try.func48, Try.ntmps48
  go_wp2_with fail
  refine K.out.mono ?_
  rintro x w2 ⟨A2, c2, rfl, hs2, hor, hb2⟩
  have z2 : w.heap.size + 1 + 1 + 1 ≤ w2.heap.size := by simpa using hb2.size
  have q0 : w2.cell? ⟨w.heap.size, 0, none⟩ = some (.slice A ws.length c) := (hb2.cell (p := ⟨w.heap.size, 0, none⟩) (by simp; omega)).trans (by simp [go_sem])
  have q1 : w2.cell? ⟨w.heap.size, 1, none⟩ = some (.slice B bs.length d) := (hb2.cell (p := ⟨w.heap.size, 1, none⟩) (by simp; omega)).trans (by simp [go_sem])
  have q2 : w2.cell? ⟨w.heap.size + 1 + 1, 0, none⟩ = some (.slice none 0 0) := (hb2.cell (p := ⟨w.heap.size + 1 + 1, 0, none⟩) (by simp)).trans (by simp [go_sem])
  have q3 : w2.cell? ⟨w.heap.size + 1 + 1, 1, none⟩ = some (.slice none 0 0) := (hb2.cell (p := ⟨w.heap.size + 1 + 1, 1, none⟩) (by simp)).trans (by simp [go_sem])
  have f0 : w2.frozen? ⟨w.heap.size, 0, none⟩ = false := (hb2.frozen (p := ⟨w.heap.size, 0, none⟩) (by simp; omega)).trans (by simp [go_sem])
  have f2 : w2.frozen? ⟨w.heap.size + 1 + 1, 0, none⟩ = false := (hb2.frozen (p := ⟨w.heap.size + 1 + 1, 0, none⟩) (by simp)).trans (by simp [go_sem])
  have f3 : w2.frozen? ⟨w.heap.size + 1 + 1, 1, none⟩ = false := (hb2.frozen (p := ⟨w.heap.size + 1 + 1, 1, none⟩) (by simp)).trans (by simp [go_sem])
  go_wp2
  (try simp only [Exit.inBlock, Exit.then])
  refine bodyPost_ret (v := .tuple #[.agg #[.slice A2 ns.length c2, .slice B bs.length d], .int .i64 lv, .int .i64 ev]) (by simp [results, Try.results48, go_sem, q2, q3]) rfl ?_
  have hA' : 0 < ns.length → ∀ p, A = some p → p.block < w.heap.size := by rw [HL.out]; exact HA.out
  exact ⟨A2, c2, rfl, (((hs2.far' w.heap.size 0 _ hA' hor (Nat.le_refl _) (by simp; omega)).far' (w.heap.size + 1 + 1) 0 _ hA' hor (by omega) (by simp)).far' (w.heap.size + 1 + 1) 1 _ hA' hor (by omega) (by simp)).up (by simp), hor.imp_right (·.before (by simp; omega)),
    (((below_next hb (by simp; omega) hb2).setCell (Nat.le_refl _) _).setCell (by simp; omega) _).setCell (by simp; omega) _⟩

theorem frozen_keep {w w' : World} {b off : Nat} (hb : Below w.heap.size w w') (hl : b < w.heap.size) (h : w.frozen? ⟨b, off, none⟩ = false) : w'.frozen? ⟨b, off, none⟩ = false :=
  (hb.frozen (p := ⟨b, off, none⟩) hl).trans h

set_option maxRecDepth 100000 in
set_option maxHeartbeats 1000000 in
theorem store_any (A B : Option Addr) (c d : Nat) (ws : List Int) (bs : List Bt) (i v : Int) (w : World) (h : MemOk w A ws B bs) :
    Calls Try.prog 41 #[.agg #[.slice A ws.length c, .slice B bs.length d], .int .i64 i, .int .i64 v] w (MEPost A (stV ws i v) B bs.length d (erV ws.length i) w) := by
  have hA := fun hn => h.words.block_lt hn
  have hb : Below w.heap.size w ((w.alloc (.cells #[.slice A ws.length c, .slice B bs.length d] 27)).alloc (.cells #[.slice none 0 0, .slice none 0 0] 27)) :=
    ((Below.refl _ w).alloc (Nat.le_refl _) _).alloc (by simp) _
  have key := swap_any A B c d ws bs i v _ (h.later hb)
  have hlen : (stV ws i v).length = ws.length := stV_length ws i v
  obtain ⟨ns, hns⟩ : ∃ x, stV ws i v = x := ⟨_, rfl⟩
  obtain ⟨lv, hl⟩ : ∃ x, ldV ws i = x := ⟨_, rfl⟩
  obtain ⟨ev, he⟩ : ∃ x, erV ws.length i = x := ⟨_, rfl⟩
  rw [hns, hl, he] at key
  rw [hns] at hlen
  rw [hns, he]
  have K := hide key
  have HL := hide hlen
  have HA := hide hA
  clear key hns hl he hlen h hA
  go_enter Try.func41, Try.ntmps41
  go_wp2_with fail
  refine K.out.mono ?_
  rintro x w2 ⟨A2, c2, rfl, hs2, hor, hb2⟩
  have z2 : w.heap.size + 1 + 1 ≤ w2.heap.size := by simpa using hb2.size
  have q0 : w2.cell? ⟨w.heap.size, 0, none⟩ = some (.slice A ws.length c) := cell_keep (by simp [go_sem]) hb2
  have q1 : w2.cell? ⟨w.heap.size, 1, none⟩ = some (.slice B bs.length d) := cell_keep (by simp [go_sem]) hb2
  have q2 : w2.cell? ⟨w.heap.size + 1, 0, none⟩ = some (.slice none 0 0) := cell_keep (by simp [go_sem]) hb2
  have q3 : w2.cell? ⟨w.heap.size + 1, 1, none⟩ = some (.slice none 0 0) := cell_keep (by simp [go_sem]) hb2
  have f0 : w2.frozen? ⟨w.heap.size, 0, none⟩ = false := frozen_keep hb2 (by simp; omega) (by simp [go_sem])
  have f1 : w2.frozen? ⟨w.heap.size, 1, none⟩ = false := frozen_keep hb2 (by simp; omega) (by simp [go_sem])
  have f2 : w2.frozen? ⟨w.heap.size + 1, 0, none⟩ = false := frozen_keep hb2 (by simp) (by simp [go_sem])
  have f3 : w2.frozen? ⟨w.heap.size + 1, 1, none⟩ = false := frozen_keep hb2 (by simp) (by simp [go_sem])
  go_wp2
  (try simp only [Exit.inBlock, Exit.then])
  refine bodyPost_ret (v := .tuple #[.agg #[.slice A2 ns.length c2, .slice B bs.length d], .int .i64 ev]) (by simp [results, Try.results41, go_sem, q2, q3]) rfl ?_
  have hA' : 0 < ns.length → ∀ p, A = some p → p.block < w.heap.size := by rw [HL.out]; exact HA.out
  exact ⟨A2, c2, rfl, ((((hs2.far' w.heap.size 0 _ hA' hor (Nat.le_refl _) (by simp; omega)).far' w.heap.size 1 _ hA' hor (Nat.le_refl _) (by simp; omega)).far' (w.heap.size + 1) 0 _ hA' hor (by omega) (by simp)).far' (w.heap.size + 1) 1 _ hA' hor (by omega) (by simp)).up (by simp), hor.imp_right (·.before (by simp; omega)),
    ((((below_next hb (by simp; omega) hb2).setCell (Nat.le_refl _) _).setCell (Nat.le_refl _) _).setCell (by simp) _).setCell (by simp) _⟩

theorem two_far {w : World} {g : Nat} {a b : Value} {p : Addr} (h : p.block ≠ g) : (((w.setCell ⟨g, 0, none⟩ a).setCell ⟨g, 1, none⟩ b).drew).cell? p = w.cell? p := by
  rw [World.cell?_drew, World.cell?_setCell_other _ _ _ _ (fun e => h (by rw [← e])), World.cell?_setCell_other _ _ _ _ (fun e => h (by rw [← e]))]

set_option maxRecDepth 100000 in
set_option maxHeartbeats 1000000 in
theorem cas_any (A B : Option Addr) (c d : Nat) (ws : List Int) (bs : List Bt) (i old v : Int) (w : World) (h : MemOk w A ws B bs) :
    Calls Try.prog 49 #[.agg #[.slice A ws.length c, .slice B bs.length d], .int .i64 i, .int .i64 old, .int .i64 v] w (MBEPost A (casV ws i old v) B bs.length d (casB ws i old) (erV ws.length i) w) := by
  have hA := fun hn => h.words.block_lt hn
  have hb : Below w.heap.size w ((((w.alloc (.cells #[.slice A ws.length c, .slice B bs.length d] 27)).alloc (.cells #[.int .i64 old] 3)).alloc (.cells #[.int .i64 v] 3)).alloc (.cells #[.slice none 0 0, .slice none 0 0] 27)) :=
    ((((Below.refl _ w).alloc (Nat.le_refl _) _).alloc (by simp) _).alloc (by simp; omega) _).alloc (by simp; omega) _
  have key := writeC_any A c (w.heap.size + 1) (w.heap.size + 1 + 1) ws i old v _ h.few (h.words.later hb) (by simp [go_sem]) (by simp [go_sem])
  have hlen : (casV ws i old v).length = ws.length := casV_length ws i old v
  have hcase : (erV ws.length i = 30 ∧ casB ws i old = false) ∨ (erV ws.length i = 0 ∧ casB ws i old = (ldV ws i == old)) := by
    rcases inR_cases ws.length i with ⟨k, hk, rfl⟩ | hno
    · exact .inr ⟨erV_at hk, by simp [casB, inR_at hk]⟩
    · exact .inl ⟨erV_no hno, casB_no old hno⟩
  obtain ⟨ns, hns⟩ : ∃ x, casV ws i old v = x := ⟨_, rfl⟩
  obtain ⟨lv, hl⟩ : ∃ x, ldV ws i = x := ⟨_, rfl⟩
  obtain ⟨ev, he⟩ : ∃ x, erV ws.length i = x := ⟨_, rfl⟩
  obtain ⟨cb, hcb⟩ : ∃ x, casB ws i old = x := ⟨_, rfl⟩
  rw [hns, hl, he] at key
  rw [hns] at hlen
  rw [hl, he, hcb] at hcase
  rw [hns, he, hcb]
  have K := hide key
  have HL := hide hlen
  have HA := hide hA
  clear key hns hl he hlen h hA hcb
  have fin : ∀ (w3 w4 : World) (A2 : Option Addr) (c2 : Nat) (p : Bool), p = cb →
      Sees w3 w3.heap.size 1 A2 ns.length (ns.map (Value.int .i64)) → (A2 = A ∨ Fresh ((((w.alloc (.cells #[.slice A ws.length c, .slice B bs.length d] 27)).alloc (.cells #[.int .i64 old] 3)).alloc (.cells #[.int .i64 v] 3)).alloc (.cells #[.slice none 0 0, .slice none 0 0] 27)) A2) → 
      Below w.heap.size w w3 → w.heap.size + 1 + 1 + 1 + 1 ≤ w3.heap.size → (∀ p, p.block ≠ w.heap.size + 1 + 1 + 1 → w4.cell? p = w3.cell? p) → w4.heap.size = w3.heap.size → Below w.heap.size w w4 →
      MBEPost A ns B bs.length d cb ev w (.returned (.tuple #[.agg #[.slice A2 ns.length c2, .slice B bs.length d], .bool p, .int .i64 ev])) w4 := by
    intro w3 w4 A2 c2 p hp hs2 hor hB z2 hk4 hz4 hB4
    have hA' : 0 < ns.length → ∀ p, A = some p → p.block < w.heap.size := by rw [HL.out]; exact HA.out
    subst hp
    refine ⟨A2, c2, rfl, ⟨hs2.1, fun hn => ?_⟩, hor.imp_right (·.before (by simp; omega)), hB4⟩
    obtain ⟨b, off, e, hb', hc⟩ := hs2.2 hn
    have hne := off_of (g := w.heap.size + 1 + 1 + 1) (hA' hn) hor (by omega) (by simp) _ e
    exact ⟨b, off, e, by omega, fun j u hu => (hk4 ⟨b, off + j, none⟩ hne).trans (hc j u hu)⟩
  have FIN := hide fin
  clear fin
  go_enter Try.func49, Try.ntmps49
  go_wp2_with fail
  refine K.out.mono ?_
  rintro x w2 ⟨A2, c2, rfl, hs2, hor, hb2⟩
  have z2 : w.heap.size + 1 + 1 + 1 + 1 ≤ w2.heap.size := by simpa using hb2.size
  have q0 : w2.cell? ⟨w.heap.size, 0, none⟩ = some (.slice A ws.length c) := cell_keep (by simp [go_sem]) hb2
  have q1 : w2.cell? ⟨w.heap.size, 1, none⟩ = some (.slice B bs.length d) := cell_keep (by simp [go_sem]) hb2
  have q4 : w2.cell? ⟨w.heap.size + 1, 0, none⟩ = some (.int .i64 old) := cell_keep (by simp [go_sem]) hb2
  have q2 : w2.cell? ⟨w.heap.size + 1 + 1 + 1, 0, none⟩ = some (.slice none 0 0) := cell_keep (by simp [go_sem]) hb2
  have q3 : w2.cell? ⟨w.heap.size + 1 + 1 + 1, 1, none⟩ = some (.slice none 0 0) := cell_keep (by simp [go_sem]) hb2
  have f0 : w2.frozen? ⟨w.heap.size, 0, none⟩ = false := frozen_keep hb2 (by simp; omega) (by simp [go_sem])
  have f2 : w2.frozen? ⟨w.heap.size + 1 + 1 + 1, 0, none⟩ = false := frozen_keep hb2 (by simp) (by simp [go_sem])
  have f3 : w2.frozen? ⟨w.heap.size + 1 + 1 + 1, 1, none⟩ = false := frozen_keep hb2 (by simp) (by simp [go_sem])
  have hB2 := below_next hb (by simp; omega) hb2
  clear K hb hb2
  have hA' : 0 < ns.length → ∀ p, A = some p → p.block < w.heap.size := by rw [HL.out]; exact HA.out
  have s3 := (hs2.far' w.heap.size 0 (.slice A2 ns.length c2) hA' hor (Nat.le_refl _) (by simp; omega)).up (B' := (w2.setCell ⟨w.heap.size, 0, none⟩ (.slice A2 ns.length c2)).heap.size) (by simp)
  have hB3 := hB2.setCell (p := ⟨w.heap.size, 0, none⟩) (Nat.le_refl _) (.slice A2 ns.length c2)
  have z3 : w.heap.size + 1 + 1 + 1 + 1 ≤ (w2.setCell ⟨w.heap.size, 0, none⟩ (.slice A2 ns.length c2)).heap.size := by simpa using z2
  have r0 : (w2.setCell ⟨w.heap.size, 0, none⟩ (.slice A2 ns.length c2)).cell? ⟨w.heap.size, 0, none⟩ = some (.slice A2 ns.length c2) := by simp [go_sem, q0]
  have r1 : (w2.setCell ⟨w.heap.size, 0, none⟩ (.slice A2 ns.length c2)).cell? ⟨w.heap.size, 1, none⟩ = some (.slice B bs.length d) := by simp [go_sem, q1]
  have r4 : (w2.setCell ⟨w.heap.size, 0, none⟩ (.slice A2 ns.length c2)).cell? ⟨w.heap.size + 1, 0, none⟩ = some (.int .i64 old) := by simp [go_sem, q4]
  have r2 : (w2.setCell ⟨w.heap.size, 0, none⟩ (.slice A2 ns.length c2)).cell? ⟨w.heap.size + 1 + 1 + 1, 0, none⟩ = some (.slice none 0 0) := by simp [go_sem, q2]
  have r3 : (w2.setCell ⟨w.heap.size, 0, none⟩ (.slice A2 ns.length c2)).cell? ⟨w.heap.size + 1 + 1 + 1, 1, none⟩ = some (.slice none 0 0) := by simp [go_sem, q3]
  have g2 : (w2.setCell ⟨w.heap.size, 0, none⟩ (.slice A2 ns.length c2)).frozen? ⟨w.heap.size + 1 + 1 + 1, 0, none⟩ = false := by simp [f2]
  have g3 : (w2.setCell ⟨w.heap.size, 0, none⟩ (.slice A2 ns.length c2)).frozen? ⟨w.heap.size + 1 + 1 + 1, 1, none⟩ = false := by simp [f3]
  rcases hcase with ⟨rfl, rfl⟩ | ⟨rfl, hcb⟩
  · go_wp2_with fail
    generalize (w2.setCell ⟨w.heap.size, 0, none⟩ (.slice A2 ns.length c2)) = w3 at *
    clear q0 q1 q2 q3 q4 f0 f2 f3 hs2 hB2 z2 hA' HL HA
    go_region
    all_goals go_wp2
    all_goals (try simp only [Exit.inBlock, Exit.then])
    all_goals refine bodyPost_ret (v := .tuple #[.agg #[.slice A2 ns.length c2, .slice B bs.length d], .bool false, .int .i64 30]) (by simp [results, Try.results49, go_sem, r2, r3]) rfl ?_
    all_goals exact FIN.out w3 _ A2 c2 _ rfl s3 hor hB3 z3 (fun p hp => two_far hp) (by simp) (((hB3.setCell (by simp; omega) _).setCell (by simp; omega) _).drew)
  by_cases hlo : lv = old
  · subst hlo
    have HC := hide hcb
    clear hcb
    go_wp2_with fail
    generalize (w2.setCell ⟨w.heap.size, 0, none⟩ (.slice A2 ns.length c2)) = w3 at *
    clear q0 q1 q2 q3 q4 f0 f2 f3 hs2 hB2 z2 hA' HL HA
    go_region
    all_goals go_wp2
    all_goals (try simp only [Exit.inBlock, Exit.then])
    all_goals refine bodyPost_ret (v := .tuple #[.agg #[.slice A2 ns.length c2, .slice B bs.length d], .bool true, .int .i64 0]) (by simp [results, Try.results49, go_sem, r2, r3]) rfl ?_
    all_goals exact FIN.out w3 _ A2 c2 _ (by rw [HC.out]; simp) s3 hor hB3 z3 (fun p hp => two_far hp) (by simp) (((hB3.setCell (by simp; omega) _).setCell (by simp; omega) _).drew)
  · have HC := hide (show false = cb by rw [hcb]; simp [hlo])
    have hb1 : (lv == old) = false := beq_eq_false_iff_ne.2 hlo
    clear hcb hlo
    go_wp2_with fail
    generalize (w2.setCell ⟨w.heap.size, 0, none⟩ (.slice A2 ns.length c2)) = w3 at *
    clear q0 q1 q2 q3 q4 f0 f2 f3 hs2 hB2 z2 hA' HL HA
    go_region
    all_goals go_wp2
    all_goals (try simp only [Exit.inBlock, Exit.then])
    all_goals refine bodyPost_ret (v := .tuple #[.agg #[.slice A2 ns.length c2, .slice B bs.length d], .bool false, .int .i64 0]) (by simp [results, Try.results49, go_sem, r2, r3]) rfl ?_
    all_goals exact FIN.out w3 _ A2 c2 _ HC.out s3 hor hB3 z3 (fun p hp => two_far hp) (by simp) (((hB3.setCell (by simp; omega) _).setCell (by simp; omega) _).drew)

end Go.Proofs.Ytjghdbkkjhnpfaa
/- Contracts of the document's own answers on words. -/
namespace Go.Proofs.Ytjghdbkkjhnpfaa
open Go.RowKit

/-- 'append' onto a new empty slice: a copy in a block of the call's own. -/
theorem wpList_clone {P : Program} {ops : Array Oper} {rest : List Oper} {o : Oper} {a : Act} {Q : Exit → Act → World → Prop} (W : World) (hgd : o.guard = none) (s x : Operand) (t : TypeId)
    (ho : o.op = .call { callee := .builtin .append, args := #[s, x], argTypes := #[t, t] })
    (e : TypeId) (i : TypeInfo) (z : Value) (sz bytes : Nat) (ht : P.underlying t = some (.slice e)) (hi : P.info? e = some i) (hz : i.zero = some z)
    (hsize : i.size = sz) (hby : i.bytes = bytes) (hzs : z.cells.size = sz) (hsz : 0 < sz) (H : Nat) (hH : W.heap.size = H) (hs : a.eval s = .slice (some ⟨H, 0, none⟩) 0 0)
    (A : Option Addr) (m c : Nat) (news : List Value) (hx : a.eval x = .slice A m c) (hr : Sees W W.heap.size sz A m news) (h1 : ∀ u ∈ news, u.oneCell' = true)
    (h63 : m ≤ maxLen) (hbytes : m * bytes ≤ 140737488355328)
    (h : ∀ A' c' w', w'.ownsRow W.heap.size e sz (.slice A' m c') m news → Below W.heap.size W w' → wpList P ops Q rest (a.put o.dst (.slice A' m c')) w') : wpList P ops Q (o :: rest) a (W.alloc (.cells #[] e)) := by
  subst hH
  have hbe : Below W.heap.size W (W.alloc (.cells #[] e)) := (Below.refl _ _).alloc (Nat.le_refl _) _
  refine wpList_app _ hgd s x t ho W.heap.size e i z sz bytes ht hi hz hsize hby hzs hsz _ 0 [] hs (own_empty W W.heap.size e sz (Nat.le_refl _)) _ A m c news hx (hr.later hbe) h1 (by omega) (by rw [Nat.zero_add]; exact hbytes) (by simp) ?_
  intro v' w' hown hg
  rw [Nat.zero_add, List.nil_append] at hown
  obtain ⟨A', c', rfl, _⟩ := own_form hown
  exact h A' c' w' hown (hbe.grown hg (by simp) (own_at (own_empty W W.heap.size e sz (Nat.le_refl _))))

end Go.Proofs.Ytjghdbkkjhnpfaa
/- Arguments opened: memories, a struct of a slice of numbers and of a slice of batches. Nothing of the program but its types. -/
namespace Go.Proofs.Ytjghdbkkjhnpfaa
open Go.RowKit Go.ChangeShapes Go.WideShapes Go.Deep Go.Joins

section
variable {H : Type} {enc : TypeId × Value → H} {P : Program} {w : World} {base : Nat} {spare : Nat → Bool} {held : Bool}

theorem open_nums' {t e : TypeId} {fuel : Nat} {v : Value} {x : DataW H × List MemPlace} (ht : P.underlying t = some (.slice e)) (he : P.underlying e = some (.int .i64)) (hc : P.cellsOf e = 1)
    (hf : DataW.trod enc P w base spare held fuel t [v] = some x) :
    ∃ (A : Option Addr) (cap : Nat) (l : List Int), v = .slice A l.length cap ∧ Sees w w.heap.size 1 A l.length (l.map (Value.int .i64)) ∧ ∀ x ∈ l, I64 x := by
  rcases open_ints ht he hc hf with ⟨hcs, hx⟩ | ⟨a, len, cap, zs, hcs, _, hl, hm, hz, hx, hcell, hwz⟩
  · simp at hcs
    subst hcs
    exact ⟨none, 0, [], rfl, Sees.empty, by simp⟩
  · simp at hcs
    subst hcs
    have hzl : len ≤ zs.length := by rw [hz]; split <;> omega
    have hlt : (zs.take len).length = len := by rw [List.length_take]; omega
    refine ⟨some a, cap, zs.take len, by rw [hlt], ⟨by simp, fun hn => ?_⟩, fun x hx => i64_of_wf (hwz x (List.mem_of_mem_take hx))⟩
    obtain ⟨b, off, rfl, hc⟩ := ints_at hcell (by omega)
    refine ⟨b, off, rfl, World.block_lt_of_cell? w _ (hc 0 (by omega)), fun j u hu => ?_⟩
    rw [List.getElem?_map, List.getElem?_take] at hu
    split at hu
    · rename_i hj
      rw [hc j (by omega)]
      have hjz : j < zs.length := by omega
      simp [List.getElem?_eq_getElem hjz] at hu
      subst hu
      simp [List.getD, List.getElem?_eq_getElem hjz]
    · cases hu

theorem open_ents' {t e s : TypeId} {f0 f1 g0 g1 : Field} {fuel : Nat} {v : Value} {x : DataW H × List MemPlace} (ht : P.underlying t = some (.slice e)) (he : P.underlying e = some (.struct #[f0, f1])) (hs : P.underlying s = some (.struct #[g0, g1]))
    (hce : P.cellsOf e = 3) (hcs : P.cellsOf s = 2) (h0 : P.underlying f0.type = some (.int .i64)) (o0 : f0.offset = 0) (c0 : P.cellsOf f0.type = 1) (t1 : f1.type = s) (o1 : f1.offset = 1)
    (k0 : P.underlying g0.type = some (.int .i64)) (p0 : g0.offset = 0) (d0 : P.cellsOf g0.type = 1) (k1 : P.underlying g1.type = some (.int .i64)) (p1 : g1.offset = 1) (d1 : P.cellsOf g1.type = 1)
    (hf : DataW.trod enc P w base spare held fuel t [v] = some x) :
    ∃ (A : Option Addr) (cap : Nat) (l : List E3), v = .slice A l.length cap ∧ Sees w w.heap.size 3 A l.length (ecells l) ∧ Good l := by
  rcases open_slice ht hf with ⟨hcs', hx⟩ | ⟨a, len, cap, m, n, D, Pl, hcs', _, hl, hm, hmm, hx, hi⟩
  · simp at hcs'
    subst hcs'
    exact ⟨none, 0, [], rfl, Sees.empty, fun e he => by cases he⟩
  · simp at hcs'
    subst hcs'
    have hlm : len ≤ m := by rw [hmm]; split <;> omega
    have key : ∀ i, i < len → ∃ q : E3, (w.cell? (a.add (i * 3)) = some (.int .i64 q.1) ∧ w.cell? ((a.add (i * 3)).add 1) = some (.int .i64 q.2.1) ∧ w.cell? ((a.add (i * 3)).add 2) = some (.int .i64 q.2.2)) ∧ I64 q.2.2 := by
      intro i hil
      obtain ⟨cs, hc, htr⟩ := hi i (by omega)
      rw [hce] at hc
      obtain ⟨_, hcl, hat⟩ := World.cells?_some hc
      obtain ⟨ys, n1, _, _, _, hyl, hfl⟩ := DataW.trod_struct he htr
      match cs, hcl with
      | [u0, u1, u2], _ =>
        match ys, hyl with
        | [y0, y1], _ =>
          have e0 := hfl 0 f0 rfl
          have e1 := hfl 1 f1 rfl
          rw [o0, c0] at e0
          rw [o1, t1, hcs] at e1
          obtain ⟨x0, q0, _, _⟩ := DataW.trod_int h0 (by simpa using e0)
          obtain ⟨zs, n2, _, _, _, hzl, hgl⟩ := DataW.trod_struct hs (show DataW.trod enc P w base spare held n1 s [u1, u2] = some y1 by simpa using e1)
          match zs, hzl with
          | [z0, z1], _ =>
            have e2 := hgl 0 g0 rfl
            have e3 := hgl 1 g1 rfl
            rw [p0, d0] at e2
            rw [p1, d1] at e3
            obtain ⟨x1, q1, _, _⟩ := DataW.trod_int k0 (by simpa using e2)
            obtain ⟨x2, q2, _, wf2⟩ := DataW.trod_int k1 (by simpa using e3)
            simp at q0 q1 q2
            subst q0 q1 q2
            refine ⟨(x0, x1, x2), ⟨?_, ?_, ?_⟩, i64_of_wf wf2⟩
            · have := hat 0 (by omega)
              rw [show (a.add (i * 3)).add 0 = a.add (i * 3) from by simp [Addr.add]] at this
              simpa using this
            · simpa using hat 1 (by omega)
            · simpa using hat 2 (by omega)
    obtain ⟨l, hll, hlp⟩ := choose_list len key
    refine ⟨some a, cap, l, by rw [hll], ⟨by rw [ecells_length], fun hn => ?_⟩, fun q hq => ?_⟩
    · obtain ⟨q, hq⟩ : ∃ q, l[0]? = some q := ⟨l[0]'(by omega), List.getElem?_eq_getElem _⟩
      have h00 := (hlp 0 q hq).1.1
      rw [Nat.zero_mul, show a.add 0 = a from by simp [Addr.add]] at h00
      obtain ⟨b, off, rfl⟩ := plain_addr h00
      refine ⟨b, off, rfl, World.block_lt_of_cell? w _ h00, fun j u hu => ?_⟩
      have hj : j < l.length * 3 := by
        rcases Nat.lt_or_ge j (l.length * 3) with h | h
        · exact h
        · rw [List.getElem?_eq_none (by rw [ecells_length]; omega)] at hu; cases hu
      obtain ⟨q, hq⟩ : ∃ q, l[j / 3]? = some q := ⟨l[j / 3]'(by omega), List.getElem?_eq_getElem _⟩
      obtain ⟨a0, a1, a2⟩ := ecells_at hq
      obtain ⟨⟨b0, b1, b2⟩, _⟩ := hlp (j / 3) q hq
      rw [addr_add] at b0 b1 b2
      rw [addr_add] at b1 b2
      have hr : j = j / 3 * 3 ∨ j = j / 3 * 3 + 1 ∨ j = j / 3 * 3 + 2 := by omega
      rcases hr with hr | hr | hr
      · rw [hr] at hu ⊢; rw [a0] at hu; rw [b0]; exact hu
      · rw [hr] at hu ⊢; rw [a1] at hu; rw [← Nat.add_assoc, b1]; exact hu
      · rw [hr] at hu ⊢; rw [a2] at hu; rw [← Nat.add_assoc, b2]; exact hu
    · obtain ⟨i, hi⟩ := List.getElem?_of_mem hq
      exact (hlp i q hi).2

/-- A slice of batches: what opens one element opens all. -/
theorem open_bxs {t e : TypeId} {fuel : Nat} {v : Value} {x : DataW H × List MemPlace} (ht : P.underlying t = some (.slice e)) (hce : P.cellsOf e = 1)
    (hel : ∀ {fuel : Nat} {v : Value} {x : DataW H × List MemPlace}, DataW.trod enc P w base spare held fuel e [v] = some x → ∃ (A : Option Addr) (cap : Nat) (l : List E3), v = .slice A l.length cap ∧ Sees w w.heap.size 3 A l.length (ecells l) ∧ Good l)
    (hf : DataW.trod enc P w base spare held fuel t [v] = some x) :
    ∃ (B : Option Addr) (cap : Nat) (bs : List Bt), v = .slice B bs.length cap ∧ Sees w w.heap.size 1 B bs.length (bs.map Bt.val) ∧ ∀ q ∈ bs, q.Ok w ∧ Good q.l := by
  rcases open_slice ht hf with ⟨hcs', hx⟩ | ⟨a, len, cap, m, n, D, Pl, hcs', _, hl, hm, hmm, hx, hi⟩
  · simp at hcs'
    subst hcs'
    exact ⟨none, 0, [], rfl, Sees.empty, fun e he => by cases he⟩
  · simp at hcs'
    subst hcs'
    have hlm : len ≤ m := by rw [hmm]; split <;> omega
    have key : ∀ i, i < len → ∃ q : Bt, w.cell? (a.add i) = some q.val ∧ q.Ok w ∧ Good q.l := by
      intro i hil
      obtain ⟨cs, hc, htr⟩ := hi i (by omega)
      rw [hce, Nat.mul_one] at hc
      obtain ⟨_, hcl, hat⟩ := World.cells?_some hc
      match cs, hcl with
      | [u], _ =>
        obtain ⟨A, c, l, rfl, h1, h2⟩ := hel htr
        refine ⟨⟨A, c, l⟩, ?_, h1, h2⟩
        have := hat 0 (by omega)
        rw [show (a.add i).add 0 = a.add i from by simp [Addr.add]] at this
        simpa [Bt.val] using this
    obtain ⟨bs, hll, hlp⟩ := choose_list len key
    refine ⟨some a, cap, bs, by rw [hll], ⟨by simp, fun hn => ?_⟩, fun q hq => ?_⟩
    · obtain ⟨q, hq⟩ : ∃ q, bs[0]? = some q := ⟨bs[0]'(by omega), List.getElem?_eq_getElem _⟩
      have h00 := (hlp 0 q hq).1
      rw [show a.add 0 = a from by simp [Addr.add]] at h00
      obtain ⟨b, off, rfl⟩ := plain_addr h00
      refine ⟨b, off, rfl, World.block_lt_of_cell? w _ h00, fun j u hu => ?_⟩
      rw [List.getElem?_map] at hu
      cases hj : bs[j]? with
      | none => rw [hj] at hu; cases hu
      | some q' =>
        rw [hj] at hu
        injection hu with hu
        subst hu
        have := (hlp j q' hj).1
        rwa [addr_add] at this
    · obtain ⟨i, hi⟩ := List.getElem?_of_mem hq
      exact ⟨(hlp i q hi).2.1, (hlp i q hi).2.2⟩
end
end Go.Proofs.Ytjghdbkkjhnpfaa
/- Contracts of wmem's steps on boxes. -/
namespace Go.Proofs.Ytjghdbkkjhnpfaa
open Go.RowKit

theorem boxes_at {bs : List Bt} {k : Nat} {q : Bt} (h : bs[k]? = some q) : (boxes bs)[k]? = some q.l := by simp [boxes, h]

set_option maxRecDepth 100000 in
set_option maxHeartbeats 1000000 in
theorem readB_any (B : Option Addr) (d : Nat) (bs : List Bt) (i : Int) (w : World) (hs : Sees w w.heap.size 1 B bs.length (bs.map Bt.val)) (he : ∀ q ∈ bs, q.Ok w) :
    Calls Try.prog 71 #[.slice B bs.length d, .int .i64 i] w (fun x w' => ∃ q : Bt, x = .returned (.tuple #[.slice q.A q.l.length q.c, .int .i64 (erV bs.length i)]) ∧ q.l = bxV (boxes bs) i ∧ q.Ok w ∧ (q ∈ bs ∨ q.l = []) ∧ w' = w) := by
  rcases inR_cases bs.length i with ⟨k, hk, rfl⟩ | hno
  · obtain ⟨b, off, rfl, hb, hc⟩ := hs.2 (by omega)
    obtain ⟨q, hq⟩ : ∃ q, bs[k]? = some q := ⟨bs[k], List.getElem?_eq_getElem hk⟩
    have hck := hc k q.val (by simp [hq])
    have hm := List.mem_of_getElem? hq
    have HB := hide (bxV_at (boxes_at hq))
    have HO := hide (he q hm)
    rw [erV_at hk]
    obtain ⟨qA, qc, ql⟩ := q
    simp only [Bt.val] at hck
    clear hq hc hs he
    go_enter Try.func71, Try.ntmps71
    go_wp2
    go_ret2
    exact ⟨⟨qA, qc, ql⟩, rfl, HB.out.symm, HO.out, .inl hm, rfl⟩
  · rw [bxV_no (by rw [boxes_length]; exact hno), erV_no hno]
    clear hs he
    by_cases h0 : i < 0
    · clear hno
      go_enter Try.func71, Try.ntmps71
      go_wp2
      go_ret2
      exact ⟨⟨none, 0, []⟩, rfl, rfl, Sees.empty, .inr rfl, rfl⟩
    · have h1 : (0 : Int) ≤ i := by omega
      have h2 : (bs.length : Int) ≤ i := by omega
      clear hno
      go_enter Try.func71, Try.ntmps71
      go_wp2
      go_ret2
      exact ⟨⟨none, 0, []⟩, rfl, rfl, Sees.empty, .inr rfl, rfl⟩

/-- One batch joined: a copy of it. -/
theorem join1_any (A : Option Addr) (c : Nat) (l : List E3) (hf : l.length ≤ 100000) (w : World) (H : Nat) (hH : w.heap.size = H) (h : Sees w w.heap.size 3 A l.length (ecells l)) :
    Calls Try.prog 66 #[.slice (some ⟨H, 0, none⟩) 1 1] (w.alloc (.cells #[.slice A l.length c] 30)) (FRowPost 3 l.length (ecells l) w) := by
  subst hH
  have hB1 : Below w.heap.size w (w.alloc (.cells #[.slice A l.length c] 30)) := (Below.refl _ w).alloc (Nat.le_refl _) _
  have hj := joinF_any (some ⟨w.heap.size, 0, none⟩) 1 [⟨A, c, l⟩] 1 rfl (by omega) (by simpa [flat] using hf) (w.alloc (.cells #[.slice A l.length c] 30))
    (by have := sees_new w [.slice A l.length c] 30 1 1 rfl; simpa [Bt.val] using this) (by intro q hq; simp at hq; subst hq; exact h.later hB1)
  simp only [flat, List.flatMap_cons, List.flatMap_nil, List.append_nil] at hj
  refine hj.mono ?_
  rintro e w' ⟨A', c', rfl, hc', h2, hf, h3⟩
  exact ⟨A', c', rfl, hc', h2, hf.before (by simp), below_next hB1 (by simp) h3⟩

set_option maxRecDepth 100000 in
set_option maxHeartbeats 1000000 in
theorem box_any (A B : Option Addr) (c d : Nat) (ws : List Int) (bs : List Bt) (i : Int) (w : World) (h : MemOk w A ws B bs) :
    Calls Try.prog 51 #[.agg #[.slice A ws.length c, .slice B bs.length d], .int .i64 i] w (REPost (bxV (boxes bs) i) (erV bs.length i) w) := by
  have hb : Below w.heap.size w (w.alloc (.cells #[.slice A ws.length c, .slice B bs.length d] 27)) := (Below.refl _ w).alloc (Nat.le_refl _) _
  have m1 := h.later hb
  have K := hide (readB_any B d bs i _ m1.bxs m1.each)
  have HS := hide h.short
  obtain ⟨ev, he⟩ : ∃ x, erV bs.length i = x := ⟨_, rfl⟩
  rw [he] at K ⊢
  clear h m1 he
  go_enter Try.func51, Try.ntmps51
  go_wp2_with fail
  refine K.out.mono ?_
  rintro x w1 ⟨⟨qA, qc, ql⟩, rfl, hql, hqo, hqm, rfl⟩
  have HQ := hide hql
  have hl : ql.length ≤ 100000 := by
    rcases hqm with hm | hm
    · exact Nat.le_trans (HS.out _ hm) (by omega)
    · have hm' : ql = [] := hm
      rw [hm']; simp
  have K2 := hide (join1_any qA qc ql hl _ (w.heap.size + 1) (by simp) hqo)
  clear hql hqo hqm hl
  go_wp2_with fail
  refine K2.out.mono ?_
  rintro x w2 ⟨A2, c2, rfl, hc2, hs2, hf2, hb2⟩
  go_wp2
  go_ret2
  have hq' : ql = bxV (boxes bs) i := HQ.out
  rw [REPost, ← hq']
  exact ⟨A2, c2, rfl, hs2, below_next hb (by simp) hb2⟩

set_option maxRecDepth 100000 in
theorem stepP_any (p : Nat) (u : Value) (A : Option Addr) (c : Nat) (l : List E3) (hf : l.length ≤ 100000) (w : World) (h : w.cell? ⟨p, 0, none⟩ = some (.slice A l.length c)) (hs : Sees w w.heap.size 3 A l.length (ecells l)) :
    Calls Try.prog 65 #[u, .pointer (some ⟨p, 0, none⟩)] w (FRowPost 3 l.length (ecells l) w) := by
  have K := hide (join1_any A c l hf w w.heap.size rfl hs)
  go_enter Try.func65, Try.ntmps65
  go_wp2_with fail
  refine K.out.mono ?_
  rintro x w2 ⟨A2, c2, rfl, hc2, hs2, hf2, hb2⟩
  go_wp2
  go_ret
  exact ⟨A2, c2, rfl, hc2, hs2, hf2, hb2⟩

theorem infoRow : (Try.prog.info? 30).map (fun i => (i.zero, i.size, i.bytes)) = some (some (.slice none 0 0), 1, 24) := by kernel_rfl
theorem val_one (bs : List Bt) : ∀ u ∈ bs.map Bt.val, u.oneCell' = true := by
  intro u hu
  obtain ⟨q, _, rfl⟩ := List.mem_map.1 hu
  rfl

set_option maxRecDepth 100000 in
set_option maxHeartbeats 1000000 in
theorem cloneB_any (b off d : Nat) (bs : List Bt) (hf : bs.length ≤ 20000) (w : World) (hs : Sees w w.heap.size 1 (some ⟨b, off, none⟩) bs.length (bs.map Bt.val)) :
    Calls Try.prog 90 #[.slice (some ⟨b, off, none⟩) bs.length d] w (fun x w' => ∃ A cap, x = .returned (.slice A bs.length cap) ∧ w'.ownsRow w.heap.size 30 1 (.slice A bs.length cap) bs.length (bs.map Bt.val) ∧ Below w.heap.size w w') := by
  obtain ⟨i0, hi0, hz0, hz1, hz2⟩ := info_parts infoRow
  have he : ∀ u : World, (binOp .eql 25 (.slice (some ⟨b, off, none⟩) bs.length d) (.slice none 0 0)).run Try.prog u = .ok (.bool false) u := fun _ => rfl
  go_enter Try.func90, Try.ntmps90
  go_wp2_with (at_builtin; refine wpList_clone w rfl _ _ 25 rfl 30 i0 _ 1 24 Try.underlying25 hi0 hz0 hz1 hz2 rfl (by omega) w.heap.size rfl rfl _ bs.length d _ rfl hs (val_one bs) (by unfold maxLen; omega) (by omega) ?_; intro A1 c1 w1 hown1 hB1)
  go_ret
  exact ⟨A1, c1, rfl, hown1, hB1⟩

/-- Boxes behind a step: they are those that were there, but for one that is new and holds lb. -/
structure BxOk (w w' : World) (B : Option Addr) (bs : List Bt) (lb : List E3) (B' : Option Addr) (bs' : List Bt) : Prop where
  row : Sees w' w'.heap.size 1 B' bs'.length (bs'.map Bt.val)
  each : ∀ q ∈ bs', q.Ok w'
  place : B' = B ∨ Fresh w B'
  old : ∀ q ∈ bs', q ∈ bs ∨ (Fresh w q.A ∧ q.l = lb)
  len : bs'.length = bs.length
theorem BxOk.far {w0 w w' : World} {A B B' : Option Addr} {ws : List Int} {bs bs' : List Bt} {lb : List E3} (h : BxOk w w' B bs lb B' bs') (m : MemAt w0 A ws B bs) (g o : Nat) (v : Value) (h1 : w0.heap.size ≤ g) (h2 : g < w.heap.size) : BxOk w (w'.setCell ⟨g, o, none⟩ v) B bs lb B' bs' :=
  ⟨(h.row.far' g o v (fun hn => m.bxs.block_lt (by rw [← h.len]; exact hn)) h.place h1 h2).up (by simp), fun q hq => by
    have hs : Sees w' w'.heap.size 3 q.A q.l.length (ecells q.l) := h.each q hq
    have : Sees (w'.setCell ⟨g, o, none⟩ v) w'.heap.size 3 q.A q.l.length (ecells q.l) := by
      rcases h.old q hq with ho | ⟨ho, _⟩
      · exact hs.far' g o v (fun hn => Sees.block_lt (m.each q ho) hn) (.inl rfl) h1 h2
      · exact hs.far' (A := none) g o v (fun _ p hp => by cases hp) (.inr ho) h1 h2
    exact this.up (by simp), h.place, h.old, h.len⟩
theorem BxOk.before {w0 w w' : World} {B B' : Option Addr} {bs bs' : List Bt} {lb : List E3} (h : BxOk w w' B bs lb B' bs') (hs : w0.heap.size ≤ w.heap.size) : BxOk w0 w' B bs lb B' bs' :=
  ⟨h.row, h.each, h.place.imp_right (·.before hs), fun q hq => (h.old q hq).imp_right (fun ⟨a, b⟩ => ⟨a.before hs, b⟩), h.len⟩
theorem BxOk.mem {w0 w w' : World} {A B B' : Option Addr} {ws : List Int} {bs bs' : List Bt} {lb : List E3} (h : BxOk w w' B bs lb B' bs') (m : MemOk w0 A ws B bs) (hb : Below w0.heap.size w0 w') (hl : lb.length ≤ 20000) : MemOk w' A ws B' bs' :=
  ⟨⟨m.words.later hb, h.row, h.each⟩, m.few, h.len ▸ m.fewb, fun q hq => (h.old q hq).elim (fun ho => m.short q ho) (fun ho => by rw [ho.2]; exact hl)⟩

/-- Boxes (those of B, or new ones), one batch, an error. -/
def WBPost (B : Option Addr) (bs : List Bt) (bx : List (List E3)) (lb : List E3) (e : Int) (w : World) (x : Ending) (w' : World) : Prop :=
  ∃ B' d bs' q, x = .returned (.tuple #[.slice B' (List.length bs') d, Bt.val q, .int .i64 e]) ∧ boxes bs' = bx ∧ BxOk w w' B bs lb B' bs' ∧ Below w.heap.size w w'
/-- A memory whose words are those that were handed in, and an error. -/
def MPPost (A : Option Addr) (n c : Nat) (B : Option Addr) (bs : List Bt) (bx : List (List E3)) (lb : List E3) (e : Int) (w : World) (x : Ending) (w' : World) : Prop :=
  ∃ B' d bs', x = .returned (.tuple #[.agg #[.slice A n c, .slice B' (List.length bs') d], .int .i64 e]) ∧ boxes bs' = bx ∧ BxOk w w' B bs lb B' bs' ∧ Below w.heap.size w w'

theorem BxOk.refl {w : World} {A B : Option Addr} {ws : List Int} {bs : List Bt} (lb : List E3) (m : MemAt w A ws B bs) : BxOk w w B bs lb B bs :=
  ⟨m.bxs, m.each, .inl rfl, fun _ hq => .inl hq, rfl⟩

set_option maxRecDepth 100000 in
set_option maxHeartbeats 1000000 in
theorem writeP_any (A B E : Option Addr) (d p n : Nat) (ws : List Int) (bs : List Bt) (lb : List E3) (i : Int) (w : World) (m : MemOk w A ws B bs) (hl : lb.length ≤ 20000) (hp : w.cell? ⟨p, 0, none⟩ = some (.slice E lb.length n)) (he : Sees w w.heap.size 3 E lb.length (ecells lb)) :
    Calls Try.prog 64 #[.slice B bs.length d, .int .i64 i, .func (.func 65) #[] #[.pointer (some ⟨p, 0, none⟩)]] w (WBPost B bs (ptV (boxes bs) i lb) lb (erV bs.length i) w) := by
  have K := hide (readB_any B d bs i w m.bxs m.each)
  rcases inR_cases bs.length i with ⟨k, hk, rfl⟩ | hno
  · obtain ⟨b, off, rfl, hb, _⟩ := m.bxs.2 (by omega)
    rw [erV_at hk] at K ⊢
    have HV := hide (ptV_at lb (show k < (boxes bs).length by rw [boxes_length]; exact hk))
    have KC := hide (cloneB_any b off d bs m.fewb w m.bxs)
    have HM := hide m
    have hm1 := m.each
    have HE := hide hm1
    clear hm1 m
    go_enter Try.func64, Try.ntmps64
    go_wp2_with fail
    refine K.out.mono ?_
    rintro x w1 ⟨⟨qA, qc, ql⟩, rfl, hq0, hq1, hq2, rfl⟩
    clear hq0 hq1 hq2
    go_wp2_with fail
    refine KC.out.mono ?_
    rintro x w2 ⟨A2, c2, rfl, hown, hb2⟩
    have hp2 := cell_keep hp hb2
    have he2 := he.later hb2
    go_wp2_with fail
    refine (stepP_any p (.slice qA ql.length qc) E n lb (by omega) w2 hp2 he2).mono ?_
    rintro x w3 ⟨A3, c3, rfl, hc3, hs3, hf3, hb3⟩
    have hown3 := own_below hown hb3
    obtain ⟨g, u, rfl, hg, hgu, hgf, hset⟩ := own_set (.slice A3 lb.length c3) hown3 hk
    have hk0 : (0 : Int) ≤ (k : Int) := Int.natCast_nonneg _
    have hk1 : (k : Int) < (bs.length : Int) := by omega
    have hg2 : g < w2.heap.size := (hown.lt g rfl).2
    clear K KC
    go_wp2
    go_ret3
    have hlen : (bs.set k ⟨A3, c3, lb⟩).length = bs.length := by simp
    have hB3 := below_next hb2 hb2.size hb3
    have hfar : ∀ q, q ∈ bs → q.Ok (w3.setCell ⟨g, k, none⟩ (.slice A3 lb.length c3)) := by
      intro q hq
      have h1 : Sees w1 w1.heap.size 3 q.A q.l.length (ecells q.l) := HE.out q hq
      have h2 : Sees w3 w1.heap.size 3 q.A q.l.length (ecells q.l) := h1.below hB3
      exact (h2.lt g k _ hg).up (by have := hB3.size; simp; omega)
    have hnew : Bt.Ok (w3.setCell ⟨g, k, none⟩ (.slice A3 lb.length c3)) ⟨A3, c3, lb⟩ := by
      have : Sees (w3.setCell ⟨g, k, none⟩ (.slice A3 lb.length c3)) w3.heap.size 3 A3 lb.length (ecells lb) := hs3.far g k _ (fun p hp => by have := hf3 p hp; omega)
      exact this.up (by simp)
    refine ⟨some ⟨g, 0, none⟩, c2, bs.set k ⟨A3, c3, lb⟩, ⟨qA, qc, ql⟩, by rw [hlen]; rfl, ?_, ⟨?_, ?_, .inr (fun q hq => by cases hq; exact hg), ?_, hlen⟩, hB3.setCell hg _⟩
    · rw [HV.out, boxes, boxes, List.map_set]
    · rw [hlen, List.map_set]
      exact hset.up (by simp)
    · intro q hq
      rcases List.mem_or_eq_of_mem_set hq with h | rfl
      · exact hfar q h
      · exact hnew
    · intro q hq
      rcases List.mem_or_eq_of_mem_set hq with h | rfl
      · exact .inl h
      · exact .inr ⟨hf3.before hb2.size, rfl⟩
  · have HM := hide m
    rw [ptV_no lb (by rw [boxes_length]; exact hno)]
    rw [erV_no hno] at K ⊢
    clear hno m
    go_enter Try.func64, Try.ntmps64
    go_wp2_with fail
    refine K.out.mono ?_
    rintro x w1 ⟨⟨qA, qc, ql⟩, rfl, hq0, hq1, hq2, rfl⟩
    clear hq0 hq1 hq2
    go_wp2
    go_ret3
    exact ⟨B, d, bs, ⟨qA, qc, ql⟩, rfl, rfl, BxOk.refl lb HM.out.toMemAt, Below.refl _ _⟩

set_option maxRecDepth 100000 in
set_option maxHeartbeats 1000000 in
theorem put_mem (A B E : Option Addr) (c d n : Nat) (ws : List Int) (bs : List Bt) (lb : List E3) (i : Int) (w : World) (m : MemOk w A ws B bs) (hl : lb.length ≤ 20000) (he : Sees w w.heap.size 3 E lb.length (ecells lb)) :
    Calls Try.prog 47 #[.agg #[.slice A ws.length c, .slice B bs.length d], .int .i64 i, .slice E lb.length n] w (MPPost A ws.length c B bs (ptV (boxes bs) i lb) lb (erV bs.length i) w) := by
  have hb : Below w.heap.size w (((w.alloc (.cells #[.slice A ws.length c, .slice B bs.length d] 27)).alloc (.cells #[.slice E lb.length n] 30)).alloc (.cells #[.slice none 0 0, .slice none 0 0] 27)) := (((Below.refl _ w).alloc (Nat.le_refl _) _).alloc (by simp) _).alloc (by simp; omega) _
  have key := writeP_any A B E d (w.heap.size + 1) n ws bs lb i _ (m.later hb) hl (by simp [go_sem]) (he.later hb)
  obtain ⟨nb, hnb⟩ : ∃ x, ptV (boxes bs) i lb = x := ⟨_, rfl⟩
  obtain ⟨ev, he⟩ : ∃ x, erV bs.length i = x := ⟨_, rfl⟩
  rw [hnb, he] at key
  rw [hnb, he]
  have K := hide key
  have HM := hide m
  clear key hnb he m
  go_enter Try.func47, Try.ntmps47
  go_wp2_with fail
  refine K.out.mono ?_
  rintro x w2 ⟨B2, d2, bs2, ⟨qA, qc, ql⟩, rfl, hbx, hok, hb2⟩
  have HX := hide hbx
  have z2 : w.heap.size + 1 + 1 + 1 ≤ w2.heap.size := by simpa using hb2.size
  have q0 : w2.cell? ⟨w.heap.size, 0, none⟩ = some (.slice A ws.length c) := cell_keep (by simp [go_sem]) hb2
  have q1 : w2.cell? ⟨w.heap.size, 1, none⟩ = some (.slice B bs.length d) := cell_keep (by simp [go_sem]) hb2
  have q2 : w2.cell? ⟨w.heap.size + 1 + 1, 0, none⟩ = some (.slice none 0 0) := cell_keep (by simp [go_sem]) hb2
  have q3 : w2.cell? ⟨w.heap.size + 1 + 1, 1, none⟩ = some (.slice none 0 0) := cell_keep (by simp [go_sem]) hb2
  have f1 : w2.frozen? ⟨w.heap.size, 1, none⟩ = false := frozen_keep hb2 (by simp; omega) (by simp [go_sem])
  have f2 : w2.frozen? ⟨w.heap.size + 1 + 1, 0, none⟩ = false := frozen_keep hb2 (by simp) (by simp [go_sem])
  have f3 : w2.frozen? ⟨w.heap.size + 1 + 1, 1, none⟩ = false := frozen_keep hb2 (by simp) (by simp [go_sem])
  clear K hbx
  simp only [Bt.val]
  go_wp2
  (try simp only [Exit.inBlock, Exit.then])
  refine bodyPost_ret (v := .tuple #[.agg #[.slice A ws.length c, .slice B2 bs2.length d2], .int .i64 ev]) (by simp [results, Try.results47, go_sem, q2, q3]) rfl ?_
  exact ⟨B2, d2, bs2, rfl, HX.out, (((hok.far HM.out.toMemAt w.heap.size 1 _ (Nat.le_refl _) (by simp; omega)).far HM.out.toMemAt (w.heap.size + 1 + 1) 0 _ (by omega) (by simp)).far HM.out.toMemAt (w.heap.size + 1 + 1) 1 _ (by omega) (by simp)).before (by simp; omega),
    (((below_next hb (by simp; omega) hb2).setCell (Nat.le_refl _) _).setCell (by simp; omega) _).setCell (by simp; omega) _⟩
end Go.Proofs.Ytjghdbkkjhnpfaa
/- Contracts of the document's own answers on boxes, and of the turning of entries. -/
namespace Go.Proofs.Ytjghdbkkjhnpfaa
open Go.RowKit

/-- One box of a new row of boxes is written. -/
theorem bx_set {W w3 : World} {A A3 B : Option Addr} {ws : List Int} {bs : List Bt} {lb : List E3} {g k c : Nat} (m : MemAt W A ws B bs) (hB : Below W.heap.size W w3) (hg : W.heap.size ≤ g)
    (hset : Sees (w3.setCell ⟨g, k, none⟩ (.slice A3 lb.length c)) w3.heap.size 1 (some ⟨g, 0, none⟩) bs.length ((bs.map Bt.val).set k (.slice A3 lb.length c)))
    (hs3 : Sees w3 w3.heap.size 3 A3 lb.length (ecells lb)) (hf : Fresh W A3) (hne : ∀ p, A3 = some p → p.block ≠ g) :
    BxOk W (w3.setCell ⟨g, k, none⟩ (.slice A3 lb.length c)) B bs lb (some ⟨g, 0, none⟩) (bs.set k ⟨A3, c, lb⟩) := by
  have hlen : (bs.set k ⟨A3, c, lb⟩).length = bs.length := by simp
  have hfar : ∀ q, q ∈ bs → q.Ok (w3.setCell ⟨g, k, none⟩ (.slice A3 lb.length c)) := by
    intro q hq
    have h1 : Sees W W.heap.size 3 q.A q.l.length (ecells q.l) := m.each q hq
    exact ((h1.below hB).lt g k _ hg).up (by have := hB.size; simp; omega)
  have hnew : Bt.Ok (w3.setCell ⟨g, k, none⟩ (.slice A3 lb.length c)) ⟨A3, c, lb⟩ := by
    have : Sees (w3.setCell ⟨g, k, none⟩ (.slice A3 lb.length c)) w3.heap.size 3 A3 lb.length (ecells lb) := hs3.far g k _ hne
    exact this.up (by simp)
  refine ⟨?_, ?_, .inr (fun q hq => by cases hq; exact hg), ?_, hlen⟩
  · rw [hlen, List.map_set]
    exact hset.up (by simp)
  · intro q hq
    rcases List.mem_or_eq_of_mem_set hq with h | rfl
    · exact hfar q h
    · exact hnew
  · intro q hq
    rcases List.mem_or_eq_of_mem_set hq with h | rfl
    · exact .inl h
    · exact .inr ⟨hf, rfl⟩

theorem infoRowR : (Try.prog.info? 48).map (fun i => (i.zero, i.size, i.bytes)) = some (some (.slice none 0 0), 1, 24) := by kernel_rfl

end Go.Proofs.Ytjghdbkkjhnpfaa
/- Contracts of the document's Same on memories, and of the law's 'long'. -/
namespace Go.Proofs.Ytjghdbkkjhnpfaa
open Go.RowKit Go.Sort

set_option maxRecDepth 100000 in
set_option maxHeartbeats 2000000 in
theorem sameM_any (A B A2 B2 : Option Addr) (c d c2 d2 : Nat) (ws ws2 : List Int) (bs bs2 : List Bt) (w : World) (m : MemOk w A ws B bs) (m2 : MemOk w A2 ws2 B2 bs2) :
    Calls Try.prog 29 #[.agg #[.slice A ws.length c, .slice B bs.length d], .agg #[.slice A2 ws2.length c2, .slice B2 bs2.length d2]] w (BoolPost (decide (ws = ws2) && decide (boxes bs = boxes bs2)) w) := by
  have hb : Below w.heap.size w ((w.alloc (.cells #[.slice A ws.length c, .slice B bs.length d] 56)).alloc (.cells #[.slice A2 ws2.length c2, .slice B2 bs2.length d2] 56)) := ((Below.refl _ w).alloc (Nat.le_refl _) _).alloc (by simp) _
  have n1 := m.later hb
  have n2 := m2.later hb
  have KI := hide (ints_any A A2 c c2 ws.length ws2.length ws ws2 (by have := m.few; omega) ((w.alloc (.cells #[.slice A ws.length c, .slice B bs.length d] 56)).alloc (.cells #[.slice A2 ws2.length c2, .slice B2 bs2.length d2] 56)) n1.words n2.words)
  have HM := hide m
  have HM2 := hide m2
  clear m m2 n1 n2
  by_cases hw : ws = ws2
  · rw [decide_eq_true hw] at KI ⊢
    rw [Bool.true_and]
    by_cases hl : bs.length = bs2.length
    · have hli : ((bs.length : Int) != (bs2.length : Int)) = false := by simp [hl]
      have HLL := hide hl
      clear hl hw
      go_enter Try.func29, Try.ntmps29
      go_wp2_with fail
      refine KI.out.mono ?_
      rintro x w1 ⟨rfl, hb1⟩
      have q0 : w1.cell? ⟨w.heap.size, 1, none⟩ = some (.slice B bs.length d) := cell_keep (by simp [go_sem]) hb1
      have q1 : w1.cell? ⟨w.heap.size + 1, 1, none⟩ = some (.slice B2 bs2.length d2) := cell_keep (by simp [go_sem]) hb1
      have hB1 := below_next hb (by simp; omega) hb1
      have s1 := HM.out.later hB1
      have s2 := HM2.out.later hB1
      clear KI hb hb1
      go_wp2
      go_loopw [5] (fun i wr => ∃ j : Nat, j ≤ bs.length ∧ i = .int .i64 j ∧ (boxes bs).take j = (boxes bs2).take j ∧ Below w1.heap.size w1 wr) (fun i _ => bs.length - (intOf i).toNat)
      case atStart => exact ⟨0, Nat.zero_le _, rfl, rfl, Below.refl _ _⟩
      case round =>
        obtain ⟨j, hj, rfl, htk, hB⟩ := hrel
        have p0 := cell_keep q0 hB
        have p1 := cell_keep q1 hB
        by_cases hlt : j < bs.length
        · have t1 := s1.later hB
          have t2 := s2.later hB
          have hlt2 : j < bs2.length := by have := HLL.out; omega
          obtain ⟨b, off, rfl, hb', hc⟩ := t1.bxs.2 (by omega)
          obtain ⟨b2, off2, rfl, hb2', hc2⟩ := t2.bxs.2 (by omega)
          obtain ⟨q, hq⟩ : ∃ q, bs[j]? = some q := ⟨bs[j], List.getElem?_eq_getElem hlt⟩
          obtain ⟨r, hr⟩ : ∃ q, bs2[j]? = some q := ⟨bs2[j], List.getElem?_eq_getElem hlt2⟩
          have hcq := hc j q.val (by simp [hq])
          have hcr := hc2 j r.val (by simp [hr])
          have hqs : Sees wr wr.heap.size 3 q.A q.l.length (ecells q.l) := t1.each q (List.mem_of_getElem? hq)
          have hrs : Sees wr wr.heap.size 3 r.A r.l.length (ecells r.l) := t2.each r (List.mem_of_getElem? hr)
          have hfb := t1.fewb
          have hqn := t1.short q (List.mem_of_getElem? hq)
          have HA := hide (boxes_at hq)
          have HA2 := hide (boxes_at hr)
          obtain ⟨qA, qc, ql⟩ := q
          obtain ⟨rA, rc, rl⟩ := r
          simp only [Bt.val] at hcq hcr hqs hrs hqn
          have HTK := hide htk
          have k1 := cell_regrown p0
          have k2 := cell_regrown p1
          have k3 := cell_regrown hcq
          have k4 := cell_regrown hcr
          obtain ⟨eq, heq⟩ : ∃ x, decide (ql = rl) = x := ⟨_, rfl⟩
          have q5 : ∀ dd os, Calls Try.prog 16 #[.slice qA ql.length qc, .slice rA rl.length rc] (grow (redrawn wr dd) os) fun e w'' => e = .returned (.bool eq) ∧ ∃ p : Regrown, w'' = grow (redrawn wr p.d) p.os :=
            fun dd os => Calls.regrown_of (heq ▸ same_any qA rA qc rc ql.length rl.length ql rl rfl rfl (by omega) _ (hqs.later (below_regrown wr dd os)) (hrs.later (below_regrown wr dd os)))
          have Q5 := hide q5
          have HEQ := hide heq
          have hj0 : (0 : Int) ≤ (j : Int) := Int.natCast_nonneg _
          have hj1 : (j : Int) < (bs.length : Int) := by omega
          have hj2 : (j : Int) < (bs2.length : Int) := by omega
          clear hq hr hc hc2 t1 t2 hqs hrs htk q5 hcq hcr heq s1 s2 q0 q1
          go_wp2_with fail
          refine wp_region_quiet_below (by kernel_rfl) (by kernel_rfl) ?_
          repeat (quiet_step (first | (go_at_call 16; exact Q5.out _ _)))
          refine wpQuiet_nil ?_
          intro _ hw'
          obtain ⟨⟨dq, osq⟩, hw''⟩ := hw'
          subst hw''
          have hBn := below_next hB hB.size (below_regrown wr dq osq)
          cases eq with
          | true =>
            go_wp2
            go_roundw
            case rel => exact ⟨j + 1, by omega, by go_num, take_eq_step HTK.out HA.out HA2.out (of_decide_eq_true HEQ.out), hBn⟩
            case measure => simp [intOf]; omega
          | false =>
            go_wp2
            go_ret
            exact ⟨ret_b (decide_eq_false (ne_at HA.out HA2.out (of_decide_eq_false HEQ.out))), below_next hB1 hB1.size hBn⟩
        · obtain rfl : j = bs.length := by omega
          have HE : Hid (boxes bs = boxes bs2) := by
            have h1 := List.take_of_length_le (l := boxes bs) (i := bs.length) (by rw [boxes_length]; exact Nat.le_refl _)
            have h2 := List.take_of_length_le (l := boxes bs2) (i := bs.length) (by rw [boxes_length, HLL.out]; exact Nat.le_refl _)
            exact h1.symm.trans (htk.trans h2)
          clear htk
          go_wp2
          go_ret
          exact ⟨ret_b (decide_eq_true HE.out), below_next hB1 hB1.size hB⟩
    · have HE : Hid (boxes bs ≠ boxes bs2) := fun e => hl (by rw [← boxes_length bs, ← boxes_length bs2, e])
      have hli : ((bs.length : Int) != (bs2.length : Int)) = true := by simp; omega
      clear hl hw
      go_enter Try.func29, Try.ntmps29
      go_wp2_with fail
      refine KI.out.mono ?_
      rintro x w1 ⟨rfl, hb1⟩
      have q0 : w1.cell? ⟨w.heap.size, 1, none⟩ = some (.slice B bs.length d) := cell_keep (by simp [go_sem]) hb1
      have q1 : w1.cell? ⟨w.heap.size + 1, 1, none⟩ = some (.slice B2 bs2.length d2) := cell_keep (by simp [go_sem]) hb1
      have hB1 := below_next hb (by simp; omega) hb1
      go_wp2
      go_ret
      exact ⟨ret_b (decide_eq_false HE.out), hB1⟩
  · rw [decide_eq_false hw] at KI ⊢
    rw [Bool.false_and]
    clear hw
    go_enter Try.func29, Try.ntmps29
    go_wp2_with fail
    refine KI.out.mono ?_
    rintro x w1 ⟨rfl, hb1⟩
    have hB1 := below_next hb (by simp; omega) hb1
    go_wp2
    go_ret
    exact ⟨rfl, hB1⟩

/-- What the law's 'long' tells. -/
def longB (ws : List Int) (bs : List Bt) : Bool := (bs.take 60).any (fun q => decide (50 < q.l.length)) || (decide (300 < ws.length) || decide (50 < bs.length))
theorem longB_no {ws : List Int} {bs : List Bt} (h : longB ws bs = false) : ws.length ≤ 300 ∧ bs.length ≤ 50 ∧ ∀ q ∈ bs, q.l.length ≤ 50 := by
  simp only [longB, Bool.or_eq_false_iff, decide_eq_false_iff_not] at h
  obtain ⟨h1, h2, h3⟩ := h
  refine ⟨by omega, by omega, fun q hq => ?_⟩
  rw [List.take_of_length_le (by omega)] at h1
  rw [List.any_eq_false] at h1
  have := h1 q hq
  simp at this
  omega

end Go.Proofs.Ytjghdbkkjhnpfaa
/- The contract of the law's 'its' on memories. -/
namespace Go.Proofs.Ytjghdbkkjhnpfaa
open Go.RowKit

/-- A memory alone. -/
def MPost (ws : List Int) (bx : List (List E3)) (w : World) (x : Ending) (w' : World) : Prop :=
  ∃ A c B d bs, x = .returned (.agg #[.slice A ws.length c, .slice B (List.length bs) d]) ∧ boxes bs = bx ∧ MemOk w' A ws B bs ∧ Below w.heap.size w w'

/-- How things lie while the boxes are turned one by one: H and what is behind it are the call's own. -/
structure ItsAt (H : Nat) (w : World) (a b : Value) (wr : World) (rv : Value) (qs : List Bt) : Prop where
  mb : wr.cell? ⟨H, 1, none⟩ = some b
  o0 : wr.cell? ⟨H + 1 + 1, 0, none⟩ = some a
  o1 : wr.cell? ⟨H + 1 + 1, 1, none⟩ = some rv
  r0 : wr.cell? ⟨H + 1, 0, none⟩ = some (.slice none 0 0)
  r1 : wr.cell? ⟨H + 1, 1, none⟩ = some (.slice none 0 0)
  fo : wr.frozen? ⟨H + 1 + 1, 1, none⟩ = false
  f0 : wr.frozen? ⟨H + 1, 0, none⟩ = false
  f1 : wr.frozen? ⟨H + 1, 1, none⟩ = false
  own : wr.ownsRow (H + 1 + 1 + 1) 48 1 rv qs.length (qs.map Bt.val)
  each : ∀ q ∈ qs, q.Ok wr ∧ (0 < q.l.length → ∀ p, q.A = some p → H + 1 + 1 + 1 ≤ p.block ∧ rv.ownBlock ≠ some p.block)
  bel : Below H w wr
  big : H + 1 + 1 + 1 ≤ wr.heap.size

theorem fresh_own' {w' : World} {base : Nat} {e : TypeId} {sz n m c : Nat} {A : Option Addr} {xs : List Value} (h : w'.ownsRow base e sz (.slice A m c) n xs) : ∀ p, A = some p → base ≤ p.block := by
  rintro ⟨b, o, s⟩ rfl
  rcases h.2 with ⟨hv, _⟩ | ⟨g, cap, cur, hv, hb, _⟩
  · cases hv
  · injection hv with h1; injection h1 with h2; injection h2 with h3; rw [h3]; exact hb
theorem ItsAt.step {H : Nat} {w wr w1 w3 : World} {a b rv : Value} {qs : List Bt} {A1 : Option Addr} {c1 g cap : Nat} {l : List E3} {tmp : Obj} (h : ItsAt H w a b wr rv qs) (hb1 : Below wr.heap.size wr w1)
    (hs : Sees w1 w1.heap.size 3 A1 l.length (ecells l)) (hf : Fresh wr A1)
    (hown : w3.ownsRow (H + 1 + 1 + 1) 48 1 (.slice (some ⟨g, 0, none⟩) (qs.length + 1) cap) (qs.length + 1) (qs.map Bt.val ++ [.slice A1 l.length c1]))
    (hg : (w1.alloc tmp).grownBy w3 rv.ownBlock) (hat : rv.ownBlock = some g ∨ g = w1.heap.size + 1) :
    ItsAt H w a b (w3.setCell ⟨H + 1 + 1, 1, none⟩ (.slice (some ⟨g, 0, none⟩) (qs.length + 1) cap)) (.slice (some ⟨g, 0, none⟩) (qs.length + 1) cap) (qs ++ [⟨A1, c1, l⟩]) := by
  have z1 := hb1.size
  have z0 := h.big
  have hrow : ∀ k, k < H + 1 + 1 + 1 → some k ≠ rv.ownBlock := fun k hk e => by have := (h.own.lt k e.symm).1; omega
  have hgl : H + 1 + 1 + 1 ≤ g := by
    rcases hat with e | e
    · exact (h.own.lt g e).1
    · omega
  have hc : ∀ k o v, k < H + 1 + 1 + 1 → wr.cell? ⟨k, o, none⟩ = some v → w3.cell? ⟨k, o, none⟩ = some v := fun k o v hk e => by
    have e1 := cell_keep e hb1
    rw [hg.cell_far ⟨k, o, none⟩ (by simp; omega) (hrow k hk)]
    exact cell_keep e1 ((Below.refl _ _).alloc (Nat.le_refl _) _)
  have hz : ∀ k o, k < H + 1 + 1 + 1 → wr.frozen? ⟨k, o, none⟩ = false → w3.frozen? ⟨k, o, none⟩ = false := fun k o hk e => by
    have e1 := frozen_keep hb1 (by omega) e
    rw [hg.frozen_far ⟨k, o, none⟩ (by simp; omega) (hrow k hk)]
    exact frozen_keep ((Below.refl _ _).alloc (Nat.le_refl _) _) (by omega) e1
  have hseen : ∀ (q : Bt), Sees w1 w1.heap.size 3 q.A q.l.length (ecells q.l) → (0 < q.l.length → ∀ p, q.A = some p → H + 1 + 1 + 1 ≤ p.block ∧ rv.ownBlock ≠ some p.block) →
      q.Ok (w3.setCell ⟨H + 1 + 1, 1, none⟩ (.slice (some ⟨g, 0, none⟩) (qs.length + 1) cap)) ∧ (0 < q.l.length → ∀ p, q.A = some p → H + 1 + 1 + 1 ≤ p.block ∧ (Value.slice (some ⟨g, 0, none⟩) (qs.length + 1) cap).ownBlock ≠ some p.block) := by
    intro q hq hne
    refine ⟨⟨hq.1, fun hn => ?_⟩, fun hn p hp => ?_⟩
    · obtain ⟨b', off, e, hb', hcc⟩ := hq.2 hn
      obtain ⟨h1, h2⟩ := hne hn _ e
      have h1' : H + 1 + 1 + 1 ≤ b' := h1
      refine ⟨b', off, e, by have := hg.size; simp at this ⊢; omega, fun j u hu => ?_⟩
      rw [World.cell?_setCell_other _ _ _ _ (by intro h3; rw [Addr.mk.injEq] at h3; omega), hg.cell_far ⟨b', off + j, none⟩ (by simp; omega) (Ne.symm h2)]
      exact cell_keep (hcc j u hu) ((Below.refl _ _).alloc (Nat.le_refl _) _)
    · obtain ⟨h1, h2⟩ := hne hn p hp
      refine ⟨h1, fun e => ?_⟩
      obtain ⟨b', off, e', hb', _⟩ := hq.2 hn
      rw [e'] at hp
      cases hp
      have eg : g = b' := by simpa [Value.ownBlock] using e
      subst eg
      rcases hat with e2 | e2
      · exact h2 e2
      · omega
  refine ⟨?_, ?_, ?_, ?_, ?_, ?_, ?_, ?_, ?_, ?_, ?_, ?_⟩
  · rw [World.cell?_setCell_other _ _ _ _ (by intro h3; rw [Addr.mk.injEq] at h3; omega)]; exact hc _ _ _ (by omega) h.mb
  · rw [World.cell?_setCell_other _ _ _ _ (by intro h3; rw [Addr.mk.injEq] at h3; omega)]; exact hc _ _ _ (by omega) h.o0
  · exact World.cell?_setCell_same _ _ _ (hc _ _ _ (by omega) h.o1)
  · rw [World.cell?_setCell_other _ _ _ _ (by intro h3; rw [Addr.mk.injEq] at h3; omega)]; exact hc _ _ _ (by omega) h.r0
  · rw [World.cell?_setCell_other _ _ _ _ (by intro h3; rw [Addr.mk.injEq] at h3; omega)]; exact hc _ _ _ (by omega) h.r1
  · rw [World.frozen?_setCell]; exact hz _ _ (by omega) h.fo
  · rw [World.frozen?_setCell]; exact hz _ _ (by omega) h.f0
  · rw [World.frozen?_setCell]; exact hz _ _ (by omega) h.f1
  · have := ownsRow_setCell_below hown (a := ⟨H + 1 + 1, 1, none⟩) (by show H + 1 + 1 < H + 1 + 1 + 1; omega) (.slice (some ⟨g, 0, none⟩) (qs.length + 1) cap)
    simpa [Bt.val] using this
  · intro q hq
    rcases List.mem_append.1 hq with hq | hq
    · obtain ⟨q1, q2⟩ := h.each q hq
      have q1' : Sees wr wr.heap.size 3 q.A q.l.length (ecells q.l) := q1
      exact hseen q (q1'.later hb1) q2
    · rw [List.mem_singleton] at hq
      subst hq
      exact hseen ⟨A1, c1, l⟩ hs (fun hn p hp => ⟨by have := hf p hp; omega, fun e => by have := (h.own.lt _ e).2; have := hf p hp; omega⟩)
  · exact (((h.bel.trans (hb1.mono (by omega))).alloc (by omega) _).grown hg (by simp; omega) (fun k hk => by have := (h.own.lt k hk).1; omega)).setCell (by show H ≤ H + 1 + 1; omega) _
  · have := hg.size; simp at this ⊢; omega

end Go.Proofs.Ytjghdbkkjhnpfaa
/- Contracts of New, the program's and the document's. -/
namespace Go.Proofs.Ytjghdbkkjhnpfaa
open Go.RowKit

/-- How many there are, if n are asked for. -/
def cntV (n : Int) : Nat := if 1 ≤ n ∧ n ≤ 10000 then n.toNat else 0
theorem cntV_le (n : Int) : cntV n ≤ 10000 := by unfold cntV; split <;> omega

theorem number_any (n : Int) (w : World) : Calls Try.prog 55 #[.int .i64 n] w (fun x w' => x = .returned (.int .i64 (cntV n : Nat)) ∧ w' = w) := by
  by_cases h1 : n < 1
  · have e : cntV n = 0 := by unfold cntV; rw [if_neg (by omega)]
    rw [e]
    go_enter Try.func55, Try.ntmps55
    go_wp2
    go_ret
    exact ⟨rfl, rfl⟩
  · by_cases h2 : n > 10000
    · have e : cntV n = 0 := by unfold cntV; rw [if_neg (by omega)]
      rw [e]
      have h3 : decide (n < 1) = false := decide_eq_false h1
      go_enter Try.func55, Try.ntmps55
      go_wp2
      go_ret
      exact ⟨rfl, rfl⟩
    · have e : ((cntV n : Nat) : Int) = n := by unfold cntV; rw [if_pos (by omega)]; omega
      rw [e]
      have h3 : decide (n < 1) = false := decide_eq_false h1
      have h4 : ¬ (10000 : Int) < n := by omega
      clear e
      go_enter Try.func55, Try.ntmps55
      go_wp2
      go_ret
      exact ⟨rfl, rfl⟩

theorem sees_made (w : World) (z : Value) (t : TypeId) (n : Nat) : Sees (w.alloc (.cells (madeCells #[z] n) t)) (w.alloc (.cells (madeCells #[z] n) t)).heap.size 1 (some ⟨w.heap.size, 0, none⟩) n (List.replicate n z) := by
  refine ⟨by simp, fun hn => ⟨w.heap.size, 0, rfl, by simp, fun j u hu => ?_⟩⟩
  have h := World.rowIs_made w z n t
  rw [List.getElem?_replicate] at hu
  split at hu
  · rename_i hj
    injection hu with hu
    subst hu
    rw [Nat.zero_add]
    exact h.cell hj
  · cases hu

theorem boxes_replicate (k : Nat) : boxes (List.replicate k ⟨none, 0, []⟩) = List.replicate k [] := by simp [boxes]
theorem sees_boxes {w : World} {B : Nat} {A : Option Addr} {n k : Nat} (h : Sees w B 1 A k (List.replicate k (.slice none 0 0))) (e : n = k) : Sees w B 1 A n ((List.replicate k (⟨none, 0, []⟩ : Bt)).map Bt.val) := by
  subst e
  simpa [Bt.val] using h
theorem sees_words {w : World} {B : Nat} {A : Option Addr} {n k : Nat} (h : Sees w B 1 A k (List.replicate k (.int .i64 0))) (e : n = k) : Sees w B 1 A n ((List.replicate k (0 : Int)).map (Value.int .i64)) := by
  subst e
  simpa using h
theorem mem_made (w' : World) {A B : Option Addr} {n k : Nat} (hn : n ≤ 10000) (hk : k ≤ 10000) (h1 : Sees w' w'.heap.size 1 A n (List.replicate n (.int .i64 0))) (h2 : Sees w' w'.heap.size 1 B k (List.replicate k (.slice none 0 0))) :
    MemOk w' A (List.replicate n 0) B (List.replicate k ⟨none, 0, []⟩) :=
  ⟨⟨sees_words h1 (by simp), sees_boxes h2 (by simp), fun q hq => by rw [List.eq_of_mem_replicate hq]; exact Sees.empty⟩, by simp; omega, by simp; omega, fun q hq => by rw [List.eq_of_mem_replicate hq]; simp⟩

/-- A memory alone, whose words and boxes were not there. -/
def MFPost (ws : List Int) (bx : List (List E3)) (w : World) (x : Ending) (w' : World) : Prop :=
  ∃ A c B d bs, x = .returned (.agg #[.slice A ws.length c, .slice B (List.length bs) d]) ∧ boxes bs = bx ∧ MemOk w' A ws B bs ∧ Fresh w A ∧ Fresh w B ∧ Below w.heap.size w w'
theorem MFPost.plain {ws : List Int} {bx : List (List E3)} {w w' : World} {x : Ending} (h : MFPost ws bx w x w') : MPost ws bx w x w' := by
  obtain ⟨A, c, B, d, bs, h1, h2, h3, _, _, h4⟩ := h
  exact ⟨A, c, B, d, bs, h1, h2, h3, h4⟩
theorem fresh_at {w : World} {g : Nat} (h : w.heap.size ≤ g) : Fresh w (some ⟨g, 0, none⟩) := fun p hp => by cases hp; exact h

set_option maxRecDepth 100000 in
set_option maxHeartbeats 2000000 in
theorem newF_any (x y : Int) (w : World) : Calls Try.prog 39 #[.int .i64 x, .int .i64 y] w (MFPost (List.replicate (cntV x) 0) (List.replicate (cntV y) []) w) := by
  have K1 := hide (fun u => number_any x u)
  have K2 := hide (fun u => number_any y u)
  have hx := cntV_le x
  have hy := cntV_le y
  obtain ⟨n, hn⟩ : ∃ n, cntV x = n := ⟨_, rfl⟩
  obtain ⟨k, hk⟩ : ∃ n, cntV y = n := ⟨_, rfl⟩
  simp only [hn] at K1 hx ⊢
  simp only [hk] at K2 hy ⊢
  clear hn hk
  have mk1 := run_make_row' (P := Try.prog) 24 3 (.int .i64 0) 8 Try.underlying24 info3 rfl .i64 .i64 n (by omega) (by omega)
  have mk2 := run_make_row' (P := Try.prog) 25 30 (.slice none 0 0) 24 Try.underlying25 infoRow rfl .i64 .i64 k (by omega) (by omega)
  go_enter Try.func39, Try.ntmps39
  go_wp2_with fail
  go_region_with (first | (go_at_call_of 55 x; refine (K1.out _).mono ?_; rintro e w1 ⟨rfl, rfl⟩) | (go_at_call_of 55 y; refine (K2.out _).mono ?_; rintro e w1 ⟨rfl, rfl⟩))
  all_goals go_wp2
  all_goals (try simp only [Exit.inBlock, Exit.then])
  all_goals first
  |
    (refine bodyPost_ret (v := .agg #[.slice (some ⟨w.heap.size + 1, 0, none⟩) n n, .slice (some ⟨w.heap.size + 1 + 1, 0, none⟩) k k]) (by simp [results, Try.results39, go_sem]) rfl ?_
     have hB0 : Below w.heap.size w (w.alloc (.cells #[.slice (some ⟨w.heap.size + 1, 0, none⟩) n n, .slice (some ⟨w.heap.size + 1 + 1, 0, none⟩) k k] 27)) := (Below.refl _ w).alloc (Nat.le_refl _) _
     have hB1 : Below w.heap.size w ((w.alloc (.cells #[.slice (some ⟨w.heap.size + 1, 0, none⟩) n n, .slice (some ⟨w.heap.size + 1 + 1, 0, none⟩) k k] 27)).alloc (.cells (madeCells #[.int .i64 0] n) 3)) := hB0.alloc (by simp) _
     have hB2 : Below w.heap.size w (((w.alloc (.cells #[.slice (some ⟨w.heap.size + 1, 0, none⟩) n n, .slice (some ⟨w.heap.size + 1 + 1, 0, none⟩) k k] 27)).alloc (.cells (madeCells #[.int .i64 0] n) 3)).alloc (.cells (madeCells #[.slice none 0 0] k) 30)) := hB1.alloc (by simp; omega) _
     have e1 := (sees_made (w.alloc (.cells #[.slice (some ⟨w.heap.size + 1, 0, none⟩) n n, .slice (some ⟨w.heap.size + 1 + 1, 0, none⟩) k k] 27)) (.int .i64 0) 3 n).later ((Below.refl _ _).alloc (Nat.le_refl _) (.cells (madeCells #[.slice none 0 0] k) 30))
     have e2 := sees_made ((w.alloc (.cells #[.slice (some ⟨w.heap.size + 1, 0, none⟩) n n, .slice (some ⟨w.heap.size + 1 + 1, 0, none⟩) k k] 27)).alloc (.cells (madeCells #[.int .i64 0] n) 3)) (.slice none 0 0) 30 k
     have h1 := e1.later ((Below.refl _ _).drew)
     have h2 := e2.later ((Below.refl _ _).drew)
     have z1 : (w.alloc (.cells #[.slice (some ⟨w.heap.size + 1, 0, none⟩) n n, .slice (some ⟨w.heap.size + 1 + 1, 0, none⟩) k k] 27)).heap.size = w.heap.size + 1 := by simp
     have z2 : ((w.alloc (.cells #[.slice (some ⟨w.heap.size + 1, 0, none⟩) n n, .slice (some ⟨w.heap.size + 1 + 1, 0, none⟩) k k] 27)).alloc (.cells (madeCells #[.int .i64 0] n) 3)).heap.size = w.heap.size + 1 + 1 := by simp
     rw [z1] at h1
     rw [z2] at h2
     exact ⟨some ⟨w.heap.size + 1, 0, none⟩, n, some ⟨w.heap.size + 1 + 1, 0, none⟩, k, List.replicate k ⟨none, 0, []⟩, by rw [List.length_replicate, List.length_replicate], boxes_replicate k, mem_made _ hx hy h1 h2, fresh_at (by omega), fresh_at (by omega), hB2.drew⟩)
  |
    (refine bodyPost_ret (v := .agg #[.slice (some ⟨w.heap.size + 1 + 1, 0, none⟩) n n, .slice (some ⟨w.heap.size + 1, 0, none⟩) k k]) (by simp [results, Try.results39, go_sem]) rfl ?_
     have hB0 : Below w.heap.size w (w.alloc (.cells #[.slice (some ⟨w.heap.size + 1 + 1, 0, none⟩) n n, .slice (some ⟨w.heap.size + 1, 0, none⟩) k k] 27)) := (Below.refl _ w).alloc (Nat.le_refl _) _
     have hB1 : Below w.heap.size w ((w.alloc (.cells #[.slice (some ⟨w.heap.size + 1 + 1, 0, none⟩) n n, .slice (some ⟨w.heap.size + 1, 0, none⟩) k k] 27)).alloc (.cells (madeCells #[.slice none 0 0] k) 30)) := hB0.alloc (by simp) _
     have hB2 : Below w.heap.size w (((w.alloc (.cells #[.slice (some ⟨w.heap.size + 1 + 1, 0, none⟩) n n, .slice (some ⟨w.heap.size + 1, 0, none⟩) k k] 27)).alloc (.cells (madeCells #[.slice none 0 0] k) 30)).alloc (.cells (madeCells #[.int .i64 0] n) 3)) := hB1.alloc (by simp; omega) _
     have e1 := (sees_made (w.alloc (.cells #[.slice (some ⟨w.heap.size + 1 + 1, 0, none⟩) n n, .slice (some ⟨w.heap.size + 1, 0, none⟩) k k] 27)) (.slice none 0 0) 30 k).later ((Below.refl _ _).alloc (Nat.le_refl _) (.cells (madeCells #[.int .i64 0] n) 3))
     have e2 := sees_made ((w.alloc (.cells #[.slice (some ⟨w.heap.size + 1 + 1, 0, none⟩) n n, .slice (some ⟨w.heap.size + 1, 0, none⟩) k k] 27)).alloc (.cells (madeCells #[.slice none 0 0] k) 30)) (.int .i64 0) 3 n
     have h1 := e1.later ((Below.refl _ _).drew)
     have h2 := e2.later ((Below.refl _ _).drew)
     have z1 : (w.alloc (.cells #[.slice (some ⟨w.heap.size + 1 + 1, 0, none⟩) n n, .slice (some ⟨w.heap.size + 1, 0, none⟩) k k] 27)).heap.size = w.heap.size + 1 := by simp
     have z2 : ((w.alloc (.cells #[.slice (some ⟨w.heap.size + 1 + 1, 0, none⟩) n n, .slice (some ⟨w.heap.size + 1, 0, none⟩) k k] 27)).alloc (.cells (madeCells #[.slice none 0 0] k) 30)).heap.size = w.heap.size + 1 + 1 := by simp
     rw [z1] at h1
     rw [z2] at h2
     exact ⟨some ⟨w.heap.size + 1 + 1, 0, none⟩, n, some ⟨w.heap.size + 1, 0, none⟩, k, List.replicate k ⟨none, 0, []⟩, by rw [List.length_replicate, List.length_replicate], boxes_replicate k, mem_made _ hx hy h2 h1, fresh_at (by omega), fresh_at (by omega), hB2.drew⟩)
theorem new_any (x y : Int) (w : World) : Calls Try.prog 39 #[.int .i64 x, .int .i64 y] w (MPost (List.replicate (cntV x) 0) (List.replicate (cntV y) []) w) :=
  (newF_any x y w).mono fun _ _ h => h.plain
end Go.Proofs.Ytjghdbkkjhnpfaa
/- The contract of the document's New. -/
namespace Go.Proofs.Ytjghdbkkjhnpfaa
open Go.RowKit

/-- How things lie while words, then boxes, are added one by one. -/
structure RNew (H : Nat) (w wr : World) (u v : Value) (n : Nat) (qs : List Bt) : Prop where
  m0 : wr.cell? ⟨H + 1, 0, none⟩ = some u
  m1 : wr.cell? ⟨H + 1, 1, none⟩ = some v
  r0 : wr.cell? ⟨H, 0, none⟩ = some (.slice none 0 0)
  r1 : wr.cell? ⟨H, 1, none⟩ = some (.slice none 0 0)
  g0 : wr.frozen? ⟨H + 1, 0, none⟩ = false
  g1 : wr.frozen? ⟨H + 1, 1, none⟩ = false
  f0 : wr.frozen? ⟨H, 0, none⟩ = false
  f1 : wr.frozen? ⟨H, 1, none⟩ = false
  own1 : wr.ownsRow (H + 1 + 1) 3 1 u n (List.replicate n (.int .i64 0))
  own2 : wr.ownsRow (H + 1 + 1) 48 1 v qs.length (qs.map Bt.val)
  ne : u.ownBlock = none ∨ u.ownBlock ≠ v.ownBlock
  emp : ∀ q ∈ qs, q.l = []
  bel : Below H w wr
  big : H + 1 + 1 ≤ wr.heap.size

section
variable {H n : Nat} {w wr w1 w2 : World} {u v : Value} {qs : List Bt}
theorem RNew.cell (hb : Below wr.heap.size wr w1) {row : Option Nat} (hg : w1.grownBy w2 row) (hr : ∀ k, row = some k → H + 1 + 1 ≤ k) (hH : H + 1 + 1 ≤ wr.heap.size) {k o : Nat} {x : Value} (hk : k < H + 1 + 1) (h : wr.cell? ⟨k, o, none⟩ = some x) : w2.cell? ⟨k, o, none⟩ = some x := by
  have := hb.size
  rw [hg.cell_far ⟨k, o, none⟩ (by simp; omega) (fun e => by have := hr k e.symm; omega)]
  exact cell_keep h hb
theorem RNew.froz (hb : Below wr.heap.size wr w1) {row : Option Nat} (hg : w1.grownBy w2 row) (hr : ∀ k, row = some k → H + 1 + 1 ≤ k) (hH : H + 1 + 1 ≤ wr.heap.size) {k o : Nat} (hk : k < H + 1 + 1) (h : wr.frozen? ⟨k, o, none⟩ = false) : w2.frozen? ⟨k, o, none⟩ = false := by
  have := hb.size
  rw [hg.frozen_far ⟨k, o, none⟩ (by simp; omega) (fun e => by have := hr k e.symm; omega)]
  exact frozen_keep hb (by omega) h

theorem RNew.word (h : RNew H w wr u (.slice none 0 0) n []) (hb : Below wr.heap.size wr w1) {u' : Value} (hown : w2.ownsRow (H + 1 + 1) 3 1 u' (n + 1) (List.replicate n (.int .i64 0) ++ [.int .i64 0])) (hg : w1.grownBy w2 u.ownBlock) :
    RNew H w (w2.setCell ⟨H + 1, 0, none⟩ u') u' (.slice none 0 0) (n + 1) [] := by
  have hH := h.big
  have hr : ∀ k, u.ownBlock = some k → H + 1 + 1 ≤ k := fun k hk => (h.own1.lt k hk).1
  have C := fun {k o : Nat} {x : Value} (hk : k < H + 1 + 1) (e : wr.cell? ⟨k, o, none⟩ = some x) => RNew.cell hb hg hr hH hk e
  have F := fun {k o : Nat} (hk : k < H + 1 + 1) (e : wr.frozen? ⟨k, o, none⟩ = false) => RNew.froz hb hg hr hH hk e
  have O : ∀ {k o : Nat} {x : Value}, (k ≠ H + 1 ∨ o ≠ 0) → w2.cell? ⟨k, o, none⟩ = some x → (w2.setCell ⟨H + 1, 0, none⟩ u').cell? ⟨k, o, none⟩ = some x := fun hk e => by
    rw [World.cell?_setCell_other _ _ _ _ (by intro h3; rw [Addr.mk.injEq] at h3; omega)]; exact e
  have hz := hb.size
  have hz2 := hg.size
  exact ⟨World.cell?_setCell_same _ _ _ (C (by omega) h.m0), O (by omega) (C (by omega) h.m1), O (by omega) (C (by omega) h.r0), O (by omega) (C (by omega) h.r1),
    by rw [World.frozen?_setCell]; exact F (by omega) h.g0, by rw [World.frozen?_setCell]; exact F (by omega) h.g1, by rw [World.frozen?_setCell]; exact F (by omega) h.f0, by rw [World.frozen?_setCell]; exact F (by omega) h.f1,
    by rw [List.replicate_succ']; exact ownsRow_setCell_below hown (by show H + 1 < H + 1 + 1; omega) _,
    World.ownsRow_nil _ _ _ _, by by_cases e : u'.ownBlock = none
                                  · exact .inl e
                                  · exact .inr (by simpa [Value.ownBlock] using e), h.emp,
    ((h.bel.trans (hb.mono (by omega))).grown hg (by omega) (fun k hk => by have := hr k hk; omega)).setCell (by show H ≤ H + 1; omega) _, by simp; omega⟩

theorem RNew.box (h : RNew H w wr u v n qs) (hb : Below wr.heap.size wr w1) {v' : Value} {q : Bt} (hq : q.l = []) (hown : w2.ownsRow (H + 1 + 1) 48 1 v' (qs.length + 1) (qs.map Bt.val ++ [q.val])) (hg : w1.grownBy w2 v.ownBlock)
    (hat : v'.ownBlock = v.ownBlock ∨ v'.ownBlock = some w1.heap.size) :
    RNew H w (w2.setCell ⟨H + 1, 1, none⟩ v') u v' n (qs ++ [q]) := by
  have hH := h.big
  have hr : ∀ k, v.ownBlock = some k → H + 1 + 1 ≤ k := fun k hk => (h.own2.lt k hk).1
  have C := fun {k o : Nat} {x : Value} (hk : k < H + 1 + 1) (e : wr.cell? ⟨k, o, none⟩ = some x) => RNew.cell hb hg hr hH hk e
  have F := fun {k o : Nat} (hk : k < H + 1 + 1) (e : wr.frozen? ⟨k, o, none⟩ = false) => RNew.froz hb hg hr hH hk e
  have O : ∀ {k o : Nat} {x : Value}, (k ≠ H + 1 ∨ o ≠ 1) → w2.cell? ⟨k, o, none⟩ = some x → (w2.setCell ⟨H + 1, 1, none⟩ v').cell? ⟨k, o, none⟩ = some x := fun hk e => by
    rw [World.cell?_setCell_other _ _ _ _ (by intro h3; rw [Addr.mk.injEq] at h3; omega)]; exact e
  have hz := hb.size
  have hz2 := hg.size
  have ho1 : w2.ownsRow (H + 1 + 1) 3 1 u n (List.replicate n (.int .i64 0)) := (own_below h.own1 hb).kept hg h.ne
  exact ⟨O (by omega) (C (by omega) h.m0), World.cell?_setCell_same _ _ _ (C (by omega) h.m1), O (by omega) (C (by omega) h.r0), O (by omega) (C (by omega) h.r1),
    by rw [World.frozen?_setCell]; exact F (by omega) h.g0, by rw [World.frozen?_setCell]; exact F (by omega) h.g1, by rw [World.frozen?_setCell]; exact F (by omega) h.f0, by rw [World.frozen?_setCell]; exact F (by omega) h.f1,
    ownsRow_setCell_below ho1 (by show H + 1 < H + 1 + 1; omega) _,
    by have := ownsRow_setCell_below hown (a := ⟨H + 1, 1, none⟩) (by show H + 1 < H + 1 + 1; omega) v'; simpa using this,
    by
      rcases h.ne with e | e
      · exact .inl e
      · rcases hat with e2 | e2
        · exact .inr (by rw [e2]; exact e)
        · refine .inr (fun e3 => ?_)
          rw [e2] at e3
          have := (h.own1.lt _ e3).2
          omega,
    fun q' hq' => by
      rcases List.mem_append.1 hq' with hh | hh
      · exact h.emp q' hh
      · rw [List.mem_singleton] at hh; rw [hh]; exact hq,
    ((h.bel.trans (hb.mono (by omega))).grown hg (by omega) (fun k hk => by have := hr k hk; omega)).setCell (by show H ≤ H + 1; omega) _, by simp; omega⟩
end

theorem rnew_end {w wr : World} {A B : Option Addr} {n k c d : Nat} {qs : List Bt} (h : RNew w.heap.size w wr (.slice A n c) (.slice B qs.length d) n qs) (hq : qs.length = k) (hn : n ≤ 10000) (hk : k ≤ 10000) :
    MFPost (List.replicate n 0) (List.replicate k []) w (.returned (.agg #[.slice A n c, .slice B qs.length d])) ((wr.setCell ⟨w.heap.size, 0, none⟩ (.slice A n c)).setCell ⟨w.heap.size, 1, none⟩ (.slice B qs.length d)) := by
  have h1 := fresh_own' h.own1
  have h2 := fresh_own' h.own2
  have ha : ∀ p, A = some p → p.block ≠ w.heap.size := fun p hp => by have := h1 p hp; omega
  have hb : ∀ p, B = some p → p.block ≠ w.heap.size := fun p hp => by have := h2 p hp; omega
  have s1 := (((Sees.of_own h.own1).far w.heap.size 0 (.slice A n c) ha).far w.heap.size 1 (.slice B qs.length d) ha).up (B' := ((wr.setCell ⟨w.heap.size, 0, none⟩ (.slice A n c)).setCell ⟨w.heap.size, 1, none⟩ (.slice B qs.length d)).heap.size) (by simp)
  have s2 := (((Sees.of_own h.own2).far w.heap.size 0 (.slice A n c) hb).far w.heap.size 1 (.slice B qs.length d) hb).up (B' := ((wr.setCell ⟨w.heap.size, 0, none⟩ (.slice A n c)).setCell ⟨w.heap.size, 1, none⟩ (.slice B qs.length d)).heap.size) (by simp)
  refine ⟨A, c, B, d, qs, by rw [List.length_replicate], ?_, ⟨⟨sees_words s1 (by simp), s2, fun q hq => ?_⟩, by simp; omega, by omega, fun q hq => by rw [h.emp q hq]; simp⟩, fun p hp => by have := h1 p hp; omega, fun p hp => by have := h2 p hp; omega, (h.bel.setCell (Nat.le_refl _) _).setCell (Nat.le_refl _) _⟩
  · have e : boxes qs = List.replicate qs.length [] := by
      rw [List.eq_replicate_iff]
      refine ⟨boxes_length qs, fun b hb => ?_⟩
      obtain ⟨q, hq, rfl⟩ := List.mem_map.1 hb
      exact h.emp q hq
    rw [e, hq]
  · have := h.emp q hq
    show Sees _ _ 3 q.A q.l.length (ecells q.l)
    rw [this]
    exact Sees.empty

theorem cnt_cases (x : Int) : (∀ j : Nat, j < cntV x → (j : Int) < x ∧ x ≤ 10000) ∧ (¬ ((cntV x : Nat) : Int) < x ∨ (((cntV x : Nat) : Int) < x ∧ 10000 < x)) := by
  unfold cntV
  split <;> constructor <;> omega

end Go.Proofs.Ytjghdbkkjhnpfaa
