/- Contracts of wmem's Swap, Store and Cas, and of the document's own. -/
import Derived.Test.YtlmnanlclialhaaWords
import Derived.Handy
import Derived.Deep.RegionHeld3
namespace Go.Proofs.Ytlmnanlclialhaa
open Go.RowKit

theorem casV_at {ws : List Int} {k : Nat} {x : Int} (old v : Int) (h : ws[k]? = some x) : casV ws (k : Int) old v = ws.set k (if x = old then v else x) := by
  have hk : k < ws.length := (List.getElem?_eq_some_iff.1 h).1
  unfold casV casB
  rw [inR_at hk, ldV_at h, stV_at v hk]
  by_cases hx : x = old
  · simp [hx]
  · rw [if_neg hx]
    have : ws.set k x = ws := by
      apply List.ext_getElem?
      intro j
      rw [List.getElem?_set]
      split
      · rename_i hj; subst hj; rw [h]
      · rfl
    simp [hx, this]
theorem casB_at {ws : List Int} {k : Nat} {x : Int} (old : Int) (h : ws[k]? = some x) : casB ws (k : Int) old = (x == old) := by
  have hk : k < ws.length := (List.getElem?_eq_some_iff.1 h).1
  simp [casB, inR_at hk, ldV_at h]
theorem casV_no {ws : List Int} {i : Int} (old v : Int) (h : i < 0 ∨ (ws.length : Int) ≤ i) : casV ws i old v = ws := by simp [casV, casB, inR_no h]
theorem casB_no {ws : List Int} {i : Int} (old : Int) (h : i < 0 ∨ (ws.length : Int) ≤ i) : casB ws i old = false := by simp [casB, inR_no h]

/-- A row that was there, or lies behind: no block in between is its. -/
theorem off_of {w w1 : World} {A A' : Option Addr} {g : Nat} (hA : ∀ p, A = some p → p.block < w.heap.size) (h : A' = A ∨ Fresh w1 A') (h1 : w.heap.size ≤ g) (h2 : g < w1.heap.size) : ∀ p, A' = some p → p.block ≠ g := by
  intro p hp
  rcases h with rfl | h
  · have := hA p hp; omega
  · have := h p hp; omega
theorem Sees.block_lt {w : World} {B sz n : Nat} {A : Option Addr} {xs : List Value} (h : Sees w B sz A n xs) (hn : 0 < n) : ∀ p, A = some p → p.block < B := by
  intro p hp
  obtain ⟨b, off, e, hb, _⟩ := h.2 hn
  rw [e] at hp
  cases hp
  exact hb
/-- The same, for a row that may hold nothing. -/
theorem Sees.far' {w w0 w1 : World} {B sz n : Nat} {A A' : Option Addr} {xs : List Value} (h : Sees w B sz A' n xs) (g o : Nat) (v : Value) (hA : 0 < n → ∀ p, A = some p → p.block < w0.heap.size) (hor : A' = A ∨ Fresh w1 A') (h1 : w0.heap.size ≤ g) (h2 : g < w1.heap.size) :
    Sees (w.setCell ⟨g, o, none⟩ v) B sz A' n xs := by
  rcases Nat.eq_zero_or_pos n with h0 | h0
  · exact ⟨h.1, fun hn => absurd hn (by omega)⟩
  · exact h.far g o v (off_of (hA h0) hor h1 h2)

set_option maxRecDepth 100000 in
set_option maxHeartbeats 1000000 in
theorem swap_any (A B : Option Addr) (c d : Nat) (ws : List Int) (bs : List Bt) (i v : Int) (w : World) (h : MemOk w A ws B bs) :
    Calls Try.prog 49 #[.agg #[.slice A ws.length c, .slice B bs.length d], .int .i64 i, .int .i64 v] w (MIEPost A (stV ws i v) B bs.length d (ldV ws i) (erV ws.length i) w) := by
  have hA := fun hn => h.words.block_lt hn
  have hb : Below w.heap.size w (((w.alloc (.cells #[.slice A ws.length c, .slice B bs.length d] 39)).alloc (.cells #[.int .i64 v] 3)).alloc (.cells #[.slice none 0 0, .slice none 0 0] 39)) :=
    (((Below.refl _ w).alloc (Nat.le_refl _) _).alloc (by simp) _).alloc (by simp; omega) _
  have key := writeS_any A c (w.heap.size + 1) ws i v _ h.few (h.words.later hb) (by simp [go_sem])
  have hlen : (stV ws i v).length = ws.length := stV_length ws i v
  obtain ⟨ns, hns⟩ : ∃ x, stV ws i v = x := ⟨_, rfl⟩
  obtain ⟨lv, hl⟩ : ∃ x, ldV ws i = x := ⟨_, rfl⟩
  obtain ⟨ev, he⟩ : ∃ x, erV ws.length i = x := ⟨_, rfl⟩
  rw [hns, hl, he] at key
  rw [hns] at hlen
  rw [hns, hl, he]
  have K := hide key
  have HL := hide hlen
  have HA := hide hA
  clear key hns hl he hlen h hA
  go_enter Try.func49, Try.ntmps49
  go_wp2_with fail
  refine K.out.mono ?_
  rintro x w2 ⟨A2, c2, rfl, hs2, hor, hb2⟩
  have z2 : w.heap.size + 1 + 1 + 1 ≤ w2.heap.size := by simpa using hb2.size
  have q0 : w2.cell? ⟨w.heap.size, 0, none⟩ = some (.slice A ws.length c) := (hb2.cell (p := ⟨w.heap.size, 0, none⟩) (by simp; omega)).trans (by simp [go_sem])
  have q1 : w2.cell? ⟨w.heap.size, 1, none⟩ = some (.slice B bs.length d) := (hb2.cell (p := ⟨w.heap.size, 1, none⟩) (by simp; omega)).trans (by simp [go_sem])
  have q2 : w2.cell? ⟨w.heap.size + 1 + 1, 0, none⟩ = some (.slice none 0 0) := (hb2.cell (p := ⟨w.heap.size + 1 + 1, 0, none⟩) (by simp)).trans (by simp [go_sem])
  have q3 : w2.cell? ⟨w.heap.size + 1 + 1, 1, none⟩ = some (.slice none 0 0) := (hb2.cell (p := ⟨w.heap.size + 1 + 1, 1, none⟩) (by simp)).trans (by simp [go_sem])
  have f0 : w2.frozen? ⟨w.heap.size, 0, none⟩ = false := (hb2.frozen (p := ⟨w.heap.size, 0, none⟩) (by simp; omega)).trans (by simp [go_sem])
  have f2 : w2.frozen? ⟨w.heap.size + 1 + 1, 0, none⟩ = false := (hb2.frozen (p := ⟨w.heap.size + 1 + 1, 0, none⟩) (by simp)).trans (by simp [go_sem])
  have f3 : w2.frozen? ⟨w.heap.size + 1 + 1, 1, none⟩ = false := (hb2.frozen (p := ⟨w.heap.size + 1 + 1, 1, none⟩) (by simp)).trans (by simp [go_sem])
  go_wp2
  (try simp only [Exit.inBlock, Exit.then])
  refine bodyPost_ret (v := .tuple #[.agg #[.slice A2 ns.length c2, .slice B bs.length d], .int .i64 lv, .int .i64 ev]) (by simp [results, Try.results49, go_sem, q2, q3]) rfl ?_
  have hA' : 0 < ns.length → ∀ p, A = some p → p.block < w.heap.size := by rw [HL.out]; exact HA.out
  exact ⟨A2, c2, rfl, (((hs2.far' w.heap.size 0 _ hA' hor (Nat.le_refl _) (by simp; omega)).far' (w.heap.size + 1 + 1) 0 _ hA' hor (by omega) (by simp)).far' (w.heap.size + 1 + 1) 1 _ hA' hor (by omega) (by simp)).up (by simp), hor.imp_right (·.before (by simp; omega)),
    (((below_next hb (by simp; omega) hb2).setCell (Nat.le_refl _) _).setCell (by simp; omega) _).setCell (by simp; omega) _⟩

theorem frozen_keep {w w' : World} {b off : Nat} (hb : Below w.heap.size w w') (hl : b < w.heap.size) (h : w.frozen? ⟨b, off, none⟩ = false) : w'.frozen? ⟨b, off, none⟩ = false :=
  (hb.frozen (p := ⟨b, off, none⟩) hl).trans h

set_option maxRecDepth 100000 in
set_option maxHeartbeats 1000000 in
theorem store_any (A B : Option Addr) (c d : Nat) (ws : List Int) (bs : List Bt) (i v : Int) (w : World) (h : MemOk w A ws B bs) :
    Calls Try.prog 40 #[.agg #[.slice A ws.length c, .slice B bs.length d], .int .i64 i, .int .i64 v] w (MEPost A (stV ws i v) B bs.length d (erV ws.length i) w) := by
  have hA := fun hn => h.words.block_lt hn
  have hb : Below w.heap.size w ((w.alloc (.cells #[.slice A ws.length c, .slice B bs.length d] 39)).alloc (.cells #[.slice none 0 0, .slice none 0 0] 39)) :=
    ((Below.refl _ w).alloc (Nat.le_refl _) _).alloc (by simp) _
  have key := swap_any A B c d ws bs i v _ (h.later hb)
  have hlen : (stV ws i v).length = ws.length := stV_length ws i v
  obtain ⟨ns, hns⟩ : ∃ x, stV ws i v = x := ⟨_, rfl⟩
  obtain ⟨lv, hl⟩ : ∃ x, ldV ws i = x := ⟨_, rfl⟩
  obtain ⟨ev, he⟩ : ∃ x, erV ws.length i = x := ⟨_, rfl⟩
  rw [hns, hl, he] at key
  rw [hns] at hlen
  rw [hns, he]
  have K := hide key
  have HL := hide hlen
  have HA := hide hA
  clear key hns hl he hlen h hA
  go_enter Try.func40, Try.ntmps40
  go_wp2_with fail
  refine K.out.mono ?_
  rintro x w2 ⟨A2, c2, rfl, hs2, hor, hb2⟩
  have z2 : w.heap.size + 1 + 1 ≤ w2.heap.size := by simpa using hb2.size
  have q0 : w2.cell? ⟨w.heap.size, 0, none⟩ = some (.slice A ws.length c) := cell_keep (by simp [go_sem]) hb2
  have q1 : w2.cell? ⟨w.heap.size, 1, none⟩ = some (.slice B bs.length d) := cell_keep (by simp [go_sem]) hb2
  have q2 : w2.cell? ⟨w.heap.size + 1, 0, none⟩ = some (.slice none 0 0) := cell_keep (by simp [go_sem]) hb2
  have q3 : w2.cell? ⟨w.heap.size + 1, 1, none⟩ = some (.slice none 0 0) := cell_keep (by simp [go_sem]) hb2
  have f0 : w2.frozen? ⟨w.heap.size, 0, none⟩ = false := frozen_keep hb2 (by simp; omega) (by simp [go_sem])
  have f1 : w2.frozen? ⟨w.heap.size, 1, none⟩ = false := frozen_keep hb2 (by simp; omega) (by simp [go_sem])
  have f2 : w2.frozen? ⟨w.heap.size + 1, 0, none⟩ = false := frozen_keep hb2 (by simp) (by simp [go_sem])
  have f3 : w2.frozen? ⟨w.heap.size + 1, 1, none⟩ = false := frozen_keep hb2 (by simp) (by simp [go_sem])
  go_wp2
  (try simp only [Exit.inBlock, Exit.then])
  refine bodyPost_ret (v := .tuple #[.agg #[.slice A2 ns.length c2, .slice B bs.length d], .int .i64 ev]) (by simp [results, Try.results40, go_sem, q2, q3]) rfl ?_
  have hA' : 0 < ns.length → ∀ p, A = some p → p.block < w.heap.size := by rw [HL.out]; exact HA.out
  exact ⟨A2, c2, rfl, ((((hs2.far' w.heap.size 0 _ hA' hor (Nat.le_refl _) (by simp; omega)).far' w.heap.size 1 _ hA' hor (Nat.le_refl _) (by simp; omega)).far' (w.heap.size + 1) 0 _ hA' hor (by omega) (by simp)).far' (w.heap.size + 1) 1 _ hA' hor (by omega) (by simp)).up (by simp), hor.imp_right (·.before (by simp; omega)),
    ((((below_next hb (by simp; omega) hb2).setCell (Nat.le_refl _) _).setCell (Nat.le_refl _) _).setCell (by simp) _).setCell (by simp) _⟩

theorem two_far {w : World} {g : Nat} {a b : Value} {p : Addr} (h : p.block ≠ g) : (((w.setCell ⟨g, 0, none⟩ a).setCell ⟨g, 1, none⟩ b).drew).cell? p = w.cell? p := by
  rw [World.cell?_drew, World.cell?_setCell_other _ _ _ _ (fun e => h (by rw [← e])), World.cell?_setCell_other _ _ _ _ (fun e => h (by rw [← e]))]

end Go.Proofs.Ytlmnanlclialhaa
