/- Contracts of wmem's Swap, Store and Cas, and of the document's own. -/
import Derived.Test.YtkiagdlcbfdgnaaWords
import Derived.Handy
import Derived.Deep.RegionHeld3
namespace Go.Proofs.Ytkiagdlcbfdgnaa
open Go.RowKit

theorem casV_at {ws : List Int} {k : Nat} {x : Int} (old v : Int) (h : ws[k]? = some x) : casV ws (k : Int) old v = ws.set k (if x = old then v else x) := by
  have hk : k < ws.length := (List.getElem?_eq_some_iff.1 h).1
  unfold casV casB
  rw [inR_at hk, ldV_at h, stV_at v hk]
  by_cases hx : x = old
  · simp [hx]
  · rw [if_neg hx]
    have : ws.set k x = ws := by
      apply List.ext_getElem?
      intro j
      rw [List.getElem?_set]
      split
      · rename_i hj; subst hj; rw [h]
      · rfl
    simp [hx, this]
theorem casB_at {ws : List Int} {k : Nat} {x : Int} (old : Int) (h : ws[k]? = some x) : casB ws (k : Int) old = (x == old) := by
  have hk : k < ws.length := (List.getElem?_eq_some_iff.1 h).1
  simp [casB, inR_at hk, ldV_at h]
theorem casV_no {ws : List Int} {i : Int} (old v : Int) (h : i < 0 ∨ (ws.length : Int) ≤ i) : casV ws i old v = ws := by simp [casV, casB, inR_no h]
theorem casB_no {ws : List Int} {i : Int} (old : Int) (h : i < 0 ∨ (ws.length : Int) ≤ i) : casB ws i old = false := by simp [casB, inR_no h]

set_option maxRecDepth 100000 in
set_option maxHeartbeats 1000000 in
theorem writeC_any (A : Option Addr) (c p q : Nat) (ws : List Int) (i old v : Int) (w : World) (hf : ws.length ≤ 20000) (hs : Sees w w.heap.size 1 A ws.length (ws.map (Value.int .i64))) (hp : w.cell? ⟨p, 0, none⟩ = some (.int .i64 old)) (hq : w.cell? ⟨q, 0, none⟩ = some (.int .i64 v)) :
    Calls Try.prog 30 #[.slice A ws.length c, .int .i64 i, .func (.func 32) #[] #[.pointer (some ⟨p, 0, none⟩), .pointer (some ⟨q, 0, none⟩)]] w (WIEPost A (casV ws i old v) (ldV ws i) (erV ws.length i) w) := by
  have K := hide (readI_any A c ws i w hs)
  rcases inR_cases ws.length i with ⟨k, hk, rfl⟩ | hno
  · obtain ⟨b, off, lv, rfl, hb, hl, _⟩ := hs.num hk
    obtain ⟨nv, hnv⟩ : ∃ x, (if lv = old then v else lv) = x := ⟨_, rfl⟩
    have hlen : (casV ws (k : Int) old v).length = ws.length := casV_length _ _ _ _
    have HL := hide hlen
    have hcv := casV_at old v hl
    rw [hnv] at hcv
    have HV := hide hcv
    have hstep : ∀ u : World, u.cell? ⟨p, 0, none⟩ = some (.int .i64 old) → u.cell? ⟨q, 0, none⟩ = some (.int .i64 v) → Calls Try.prog 32 #[.int .i64 lv, .pointer (some ⟨p, 0, none⟩), .pointer (some ⟨q, 0, none⟩)] u (fun x w' => x = .returned (.int .i64 nv) ∧ w' = u) := by
      intro u h1 h2
      have := stepC_any p q lv old v u h1 h2
      rwa [hnv] at this
    have HS := hide hstep
    rw [ldV_at hl, erV_at hk] at K ⊢
    clear hl hlen hcv hnv hstep
    go_enter Try.func30, Try.ntmps30
    go_wp2_with fail
    refine K.out.mono ?_
    rintro x w1 ⟨rfl, rfl⟩
    go_wp2_with fail
    refine (cloneI_any b off c ws hf w1 hs).mono ?_
    rintro x w2 ⟨A2, c2, rfl, hown, hb2⟩
    have hp2 := cell_keep hp hb2
    have hq2 := cell_keep hq hb2
    obtain ⟨g, u, rfl, hg, hgu, hgf, hset⟩ := own_set (.int .i64 nv) hown hk
    have hk0 : (0 : Int) ≤ (k : Int) := Int.natCast_nonneg _
    have hk1 : (k : Int) < (ws.length : Int) := by omega
    go_wp2_with fail
    refine (HS.out w2 hp2 hq2).mono ?_
    rintro x w3 ⟨rfl, rfl⟩
    go_wp2
    go_ret3
    rw [WIEPost, HL.out, HV.out, List.map_set]
    exact ⟨some ⟨g, 0, none⟩, c2, rfl, hset.up (by simp), .inr (fun q hq => by cases hq; exact hg), hb2.setCell hg _⟩
  · rw [casV_no old v hno]
    rw [ldV_no hno, erV_no hno] at K ⊢
    clear hno
    go_enter Try.func30, Try.ntmps30
    go_wp2_with fail
    refine K.out.mono ?_
    rintro x w1 ⟨rfl, rfl⟩
    go_wp2
    go_ret3
    exact ⟨A, c, rfl, hs, .inl rfl, Below.refl _ _⟩

/-- A row that was there, or lies behind: no block in between is its. -/
theorem off_of {w w1 : World} {A A' : Option Addr} {g : Nat} (hA : ∀ p, A = some p → p.block < w.heap.size) (h : A' = A ∨ Fresh w1 A') (h1 : w.heap.size ≤ g) (h2 : g < w1.heap.size) : ∀ p, A' = some p → p.block ≠ g := by
  intro p hp
  rcases h with rfl | h
  · have := hA p hp; omega
  · have := h p hp; omega
theorem Sees.block_lt {w : World} {B sz n : Nat} {A : Option Addr} {xs : List Value} (h : Sees w B sz A n xs) (hn : 0 < n) : ∀ p, A = some p → p.block < B := by
  intro p hp
  obtain ⟨b, off, e, hb, _⟩ := h.2 hn
  rw [e] at hp
  cases hp
  exact hb
/-- The same, for a row that may hold nothing. -/
theorem Sees.far' {w w0 w1 : World} {B sz n : Nat} {A A' : Option Addr} {xs : List Value} (h : Sees w B sz A' n xs) (g o : Nat) (v : Value) (hA : 0 < n → ∀ p, A = some p → p.block < w0.heap.size) (hor : A' = A ∨ Fresh w1 A') (h1 : w0.heap.size ≤ g) (h2 : g < w1.heap.size) :
    Sees (w.setCell ⟨g, o, none⟩ v) B sz A' n xs := by
  rcases Nat.eq_zero_or_pos n with h0 | h0
  · exact ⟨h.1, fun hn => absurd hn (by omega)⟩
  · exact h.far g o v (off_of (hA h0) hor h1 h2)

set_option maxRecDepth 100000 in
set_option maxHeartbeats 1000000 in
theorem swap_any (A B : Option Addr) (c d : Nat) (ws : List Int) (bs : List Bt) (i v : Int) (w : World) (h : MemOk w A ws B bs) :
    Calls Try.prog 16 #[.agg #[.slice A ws.length c, .slice B bs.length d], .int .i64 i, .int .i64 v] w (MIEPost A (stV ws i v) B bs.length d (ldV ws i) (erV ws.length i) w) := by
  have hA := fun hn => h.words.block_lt hn
  have hb : Below w.heap.size w (((w.alloc (.cells #[.slice A ws.length c, .slice B bs.length d] 25)).alloc (.cells #[.int .i64 v] 3)).alloc (.cells #[.slice none 0 0, .slice none 0 0] 25)) :=
    (((Below.refl _ w).alloc (Nat.le_refl _) _).alloc (by simp) _).alloc (by simp; omega) _
  have key := writeS_any A c (w.heap.size + 1) ws i v _ h.few (h.words.later hb) (by simp [go_sem])
  have hlen : (stV ws i v).length = ws.length := stV_length ws i v
  obtain ⟨ns, hns⟩ : ∃ x, stV ws i v = x := ⟨_, rfl⟩
  obtain ⟨lv, hl⟩ : ∃ x, ldV ws i = x := ⟨_, rfl⟩
  obtain ⟨ev, he⟩ : ∃ x, erV ws.length i = x := ⟨_, rfl⟩
  rw [hns, hl, he] at key
  rw [hns] at hlen
  rw [hns, hl, he]
  have K := hide key
  have HL := hide hlen
  have HA := hide hA
  clear key hns hl he hlen h hA
  go_enter Try.func16, Try.ntmps16
  go_wp2_with fail
  refine K.out.mono ?_
  rintro x w2 ⟨A2, c2, rfl, hs2, hor, hb2⟩
  have z2 : w.heap.size + 1 + 1 + 1 ≤ w2.heap.size := by simpa using hb2.size
  have q0 : w2.cell? ⟨w.heap.size, 0, none⟩ = some (.slice A ws.length c) := (hb2.cell (p := ⟨w.heap.size, 0, none⟩) (by simp; omega)).trans (by simp [go_sem])
  have q1 : w2.cell? ⟨w.heap.size, 1, none⟩ = some (.slice B bs.length d) := (hb2.cell (p := ⟨w.heap.size, 1, none⟩) (by simp; omega)).trans (by simp [go_sem])
  have q2 : w2.cell? ⟨w.heap.size + 1 + 1, 0, none⟩ = some (.slice none 0 0) := (hb2.cell (p := ⟨w.heap.size + 1 + 1, 0, none⟩) (by simp)).trans (by simp [go_sem])
  have q3 : w2.cell? ⟨w.heap.size + 1 + 1, 1, none⟩ = some (.slice none 0 0) := (hb2.cell (p := ⟨w.heap.size + 1 + 1, 1, none⟩) (by simp)).trans (by simp [go_sem])
  have f0 : w2.frozen? ⟨w.heap.size, 0, none⟩ = false := (hb2.frozen (p := ⟨w.heap.size, 0, none⟩) (by simp; omega)).trans (by simp [go_sem])
  have f2 : w2.frozen? ⟨w.heap.size + 1 + 1, 0, none⟩ = false := (hb2.frozen (p := ⟨w.heap.size + 1 + 1, 0, none⟩) (by simp)).trans (by simp [go_sem])
  have f3 : w2.frozen? ⟨w.heap.size + 1 + 1, 1, none⟩ = false := (hb2.frozen (p := ⟨w.heap.size + 1 + 1, 1, none⟩) (by simp)).trans (by simp [go_sem])
  go_wp2
  (try simp only [Exit.inBlock, Exit.then])
  refine bodyPost_ret (v := .tuple #[.agg #[.slice A2 ns.length c2, .slice B bs.length d], .int .i64 lv, .int .i64 ev]) (by simp [results, Try.results16, go_sem, q2, q3]) rfl ?_
  have hA' : 0 < ns.length → ∀ p, A = some p → p.block < w.heap.size := by rw [HL.out]; exact HA.out
  exact ⟨A2, c2, rfl, (((hs2.far' w.heap.size 0 _ hA' hor (Nat.le_refl _) (by simp; omega)).far' (w.heap.size + 1 + 1) 0 _ hA' hor (by omega) (by simp)).far' (w.heap.size + 1 + 1) 1 _ hA' hor (by omega) (by simp)).up (by simp), hor.imp_right (·.before (by simp; omega)),
    (((below_next hb (by simp; omega) hb2).setCell (Nat.le_refl _) _).setCell (by simp; omega) _).setCell (by simp; omega) _⟩

theorem frozen_keep {w w' : World} {b off : Nat} (hb : Below w.heap.size w w') (hl : b < w.heap.size) (h : w.frozen? ⟨b, off, none⟩ = false) : w'.frozen? ⟨b, off, none⟩ = false :=
  (hb.frozen (p := ⟨b, off, none⟩) hl).trans h

set_option maxRecDepth 100000 in
set_option maxHeartbeats 1000000 in
theorem store_any (A B : Option Addr) (c d : Nat) (ws : List Int) (bs : List Bt) (i v : Int) (w : World) (h : MemOk w A ws B bs) :
    Calls Try.prog 14 #[.agg #[.slice A ws.length c, .slice B bs.length d], .int .i64 i, .int .i64 v] w (MEPost A (stV ws i v) B bs.length d (erV ws.length i) w) := by
  have hA := fun hn => h.words.block_lt hn
  have hb : Below w.heap.size w ((w.alloc (.cells #[.slice A ws.length c, .slice B bs.length d] 25)).alloc (.cells #[.slice none 0 0, .slice none 0 0] 25)) :=
    ((Below.refl _ w).alloc (Nat.le_refl _) _).alloc (by simp) _
  have key := swap_any A B c d ws bs i v _ (h.later hb)
  have hlen : (stV ws i v).length = ws.length := stV_length ws i v
  obtain ⟨ns, hns⟩ : ∃ x, stV ws i v = x := ⟨_, rfl⟩
  obtain ⟨lv, hl⟩ : ∃ x, ldV ws i = x := ⟨_, rfl⟩
  obtain ⟨ev, he⟩ : ∃ x, erV ws.length i = x := ⟨_, rfl⟩
  rw [hns, hl, he] at key
  rw [hns] at hlen
  rw [hns, he]
  have K := hide key
  have HL := hide hlen
  have HA := hide hA
  clear key hns hl he hlen h hA
  go_enter Try.func14, Try.ntmps14
  go_wp2_with fail
  refine K.out.mono ?_
  rintro x w2 ⟨A2, c2, rfl, hs2, hor, hb2⟩
  have z2 : w.heap.size + 1 + 1 ≤ w2.heap.size := by simpa using hb2.size
  have q0 : w2.cell? ⟨w.heap.size, 0, none⟩ = some (.slice A ws.length c) := cell_keep (by simp [go_sem]) hb2
  have q1 : w2.cell? ⟨w.heap.size, 1, none⟩ = some (.slice B bs.length d) := cell_keep (by simp [go_sem]) hb2
  have q2 : w2.cell? ⟨w.heap.size + 1, 0, none⟩ = some (.slice none 0 0) := cell_keep (by simp [go_sem]) hb2
  have q3 : w2.cell? ⟨w.heap.size + 1, 1, none⟩ = some (.slice none 0 0) := cell_keep (by simp [go_sem]) hb2
  have f0 : w2.frozen? ⟨w.heap.size, 0, none⟩ = false := frozen_keep hb2 (by simp; omega) (by simp [go_sem])
  have f1 : w2.frozen? ⟨w.heap.size, 1, none⟩ = false := frozen_keep hb2 (by simp; omega) (by simp [go_sem])
  have f2 : w2.frozen? ⟨w.heap.size + 1, 0, none⟩ = false := frozen_keep hb2 (by simp) (by simp [go_sem])
  have f3 : w2.frozen? ⟨w.heap.size + 1, 1, none⟩ = false := frozen_keep hb2 (by simp) (by simp [go_sem])
  go_wp2
  (try simp only [Exit.inBlock, Exit.then])
  refine bodyPost_ret (v := .tuple #[.agg #[.slice A2 ns.length c2, .slice B bs.length d], .int .i64 ev]) (by simp [results, Try.results14, go_sem, q2, q3]) rfl ?_
  have hA' : 0 < ns.length → ∀ p, A = some p → p.block < w.heap.size := by rw [HL.out]; exact HA.out
  exact ⟨A2, c2, rfl, ((((hs2.far' w.heap.size 0 _ hA' hor (Nat.le_refl _) (by simp; omega)).far' w.heap.size 1 _ hA' hor (Nat.le_refl _) (by simp; omega)).far' (w.heap.size + 1) 0 _ hA' hor (by omega) (by simp)).far' (w.heap.size + 1) 1 _ hA' hor (by omega) (by simp)).up (by simp), hor.imp_right (·.before (by simp; omega)),
    ((((below_next hb (by simp; omega) hb2).setCell (Nat.le_refl _) _).setCell (Nat.le_refl _) _).setCell (by simp) _).setCell (by simp) _⟩

theorem two_far {w : World} {g : Nat} {a b : Value} {p : Addr} (h : p.block ≠ g) : (((w.setCell ⟨g, 0, none⟩ a).setCell ⟨g, 1, none⟩ b).drew).cell? p = w.cell? p := by
  rw [World.cell?_drew, World.cell?_setCell_other _ _ _ _ (fun e => h (by rw [← e])), World.cell?_setCell_other _ _ _ _ (fun e => h (by rw [← e]))]

set_option maxRecDepth 100000 in
set_option maxHeartbeats 1000000 in
theorem cas_any (A B : Option Addr) (c d : Nat) (ws : List Int) (bs : List Bt) (i old v : Int) (w : World) (h : MemOk w A ws B bs) :
    Calls Try.prog 18 #[.agg #[.slice A ws.length c, .slice B bs.length d], .int .i64 i, .int .i64 old, .int .i64 v] w (MBEPost A (casV ws i old v) B bs.length d (casB ws i old) (erV ws.length i) w) := by
  have hA := fun hn => h.words.block_lt hn
  have hb : Below w.heap.size w ((((w.alloc (.cells #[.slice A ws.length c, .slice B bs.length d] 25)).alloc (.cells #[.int .i64 old] 3)).alloc (.cells #[.int .i64 v] 3)).alloc (.cells #[.slice none 0 0, .slice none 0 0] 25)) :=
    ((((Below.refl _ w).alloc (Nat.le_refl _) _).alloc (by simp) _).alloc (by simp; omega) _).alloc (by simp; omega) _
  have key := writeC_any A c (w.heap.size + 1) (w.heap.size + 1 + 1) ws i old v _ h.few (h.words.later hb) (by simp [go_sem]) (by simp [go_sem])
  have hlen : (casV ws i old v).length = ws.length := casV_length ws i old v
  have hcase : (erV ws.length i = 30 ∧ casB ws i old = false) ∨ (erV ws.length i = 0 ∧ casB ws i old = (ldV ws i == old)) := by
    rcases inR_cases ws.length i with ⟨k, hk, rfl⟩ | hno
    · exact .inr ⟨erV_at hk, by simp [casB, inR_at hk]⟩
    · exact .inl ⟨erV_no hno, casB_no old hno⟩
  obtain ⟨ns, hns⟩ : ∃ x, casV ws i old v = x := ⟨_, rfl⟩
  obtain ⟨lv, hl⟩ : ∃ x, ldV ws i = x := ⟨_, rfl⟩
  obtain ⟨ev, he⟩ : ∃ x, erV ws.length i = x := ⟨_, rfl⟩
  obtain ⟨cb, hcb⟩ : ∃ x, casB ws i old = x := ⟨_, rfl⟩
  rw [hns, hl, he] at key
  rw [hns] at hlen
  rw [hl, he, hcb] at hcase
  rw [hns, he, hcb]
  have K := hide key
  have HL := hide hlen
  have HA := hide hA
  clear key hns hl he hlen h hA hcb
  have fin : ∀ (w3 w4 : World) (A2 : Option Addr) (c2 : Nat) (p : Bool), p = cb →
      Sees w3 w3.heap.size 1 A2 ns.length (ns.map (Value.int .i64)) → (A2 = A ∨ Fresh ((((w.alloc (.cells #[.slice A ws.length c, .slice B bs.length d] 25)).alloc (.cells #[.int .i64 old] 3)).alloc (.cells #[.int .i64 v] 3)).alloc (.cells #[.slice none 0 0, .slice none 0 0] 25)) A2) → 
      Below w.heap.size w w3 → w.heap.size + 1 + 1 + 1 + 1 ≤ w3.heap.size → (∀ p, p.block ≠ w.heap.size + 1 + 1 + 1 → w4.cell? p = w3.cell? p) → w4.heap.size = w3.heap.size → Below w.heap.size w w4 →
      MBEPost A ns B bs.length d cb ev w (.returned (.tuple #[.agg #[.slice A2 ns.length c2, .slice B bs.length d], .bool p, .int .i64 ev])) w4 := by
    intro w3 w4 A2 c2 p hp hs2 hor hB z2 hk4 hz4 hB4
    have hA' : 0 < ns.length → ∀ p, A = some p → p.block < w.heap.size := by rw [HL.out]; exact HA.out
    subst hp
    refine ⟨A2, c2, rfl, ⟨hs2.1, fun hn => ?_⟩, hor.imp_right (·.before (by simp; omega)), hB4⟩
    obtain ⟨b, off, e, hb', hc⟩ := hs2.2 hn
    have hne := off_of (g := w.heap.size + 1 + 1 + 1) (hA' hn) hor (by omega) (by simp) _ e
    exact ⟨b, off, e, by omega, fun j u hu => (hk4 ⟨b, off + j, none⟩ hne).trans (hc j u hu)⟩
  have FIN := hide fin
  clear fin
  go_enter Try.func18, Try.ntmps18
  go_wp2_with fail
  refine K.out.mono ?_
  rintro x w2 ⟨A2, c2, rfl, hs2, hor, hb2⟩
  have z2 : w.heap.size + 1 + 1 + 1 + 1 ≤ w2.heap.size := by simpa using hb2.size
  have q0 : w2.cell? ⟨w.heap.size, 0, none⟩ = some (.slice A ws.length c) := cell_keep (by simp [go_sem]) hb2
  have q1 : w2.cell? ⟨w.heap.size, 1, none⟩ = some (.slice B bs.length d) := cell_keep (by simp [go_sem]) hb2
  have q4 : w2.cell? ⟨w.heap.size + 1, 0, none⟩ = some (.int .i64 old) := cell_keep (by simp [go_sem]) hb2
  have q2 : w2.cell? ⟨w.heap.size + 1 + 1 + 1, 0, none⟩ = some (.slice none 0 0) := cell_keep (by simp [go_sem]) hb2
  have q3 : w2.cell? ⟨w.heap.size + 1 + 1 + 1, 1, none⟩ = some (.slice none 0 0) := cell_keep (by simp [go_sem]) hb2
  have f0 : w2.frozen? ⟨w.heap.size, 0, none⟩ = false := frozen_keep hb2 (by simp; omega) (by simp [go_sem])
  have f2 : w2.frozen? ⟨w.heap.size + 1 + 1 + 1, 0, none⟩ = false := frozen_keep hb2 (by simp) (by simp [go_sem])
  have f3 : w2.frozen? ⟨w.heap.size + 1 + 1 + 1, 1, none⟩ = false := frozen_keep hb2 (by simp) (by simp [go_sem])
  have hB2 := below_next hb (by simp; omega) hb2
  clear K hb hb2
  have hA' : 0 < ns.length → ∀ p, A = some p → p.block < w.heap.size := by rw [HL.out]; exact HA.out
  have s3 := (hs2.far' w.heap.size 0 (.slice A2 ns.length c2) hA' hor (Nat.le_refl _) (by simp; omega)).up (B' := (w2.setCell ⟨w.heap.size, 0, none⟩ (.slice A2 ns.length c2)).heap.size) (by simp)
  have hB3 := hB2.setCell (p := ⟨w.heap.size, 0, none⟩) (Nat.le_refl _) (.slice A2 ns.length c2)
  have z3 : w.heap.size + 1 + 1 + 1 + 1 ≤ (w2.setCell ⟨w.heap.size, 0, none⟩ (.slice A2 ns.length c2)).heap.size := by simpa using z2
  have r0 : (w2.setCell ⟨w.heap.size, 0, none⟩ (.slice A2 ns.length c2)).cell? ⟨w.heap.size, 0, none⟩ = some (.slice A2 ns.length c2) := by simp [go_sem, q0]
  have r1 : (w2.setCell ⟨w.heap.size, 0, none⟩ (.slice A2 ns.length c2)).cell? ⟨w.heap.size, 1, none⟩ = some (.slice B bs.length d) := by simp [go_sem, q1]
  have r4 : (w2.setCell ⟨w.heap.size, 0, none⟩ (.slice A2 ns.length c2)).cell? ⟨w.heap.size + 1, 0, none⟩ = some (.int .i64 old) := by simp [go_sem, q4]
  have r2 : (w2.setCell ⟨w.heap.size, 0, none⟩ (.slice A2 ns.length c2)).cell? ⟨w.heap.size + 1 + 1 + 1, 0, none⟩ = some (.slice none 0 0) := by simp [go_sem, q2]
  have r3 : (w2.setCell ⟨w.heap.size, 0, none⟩ (.slice A2 ns.length c2)).cell? ⟨w.heap.size + 1 + 1 + 1, 1, none⟩ = some (.slice none 0 0) := by simp [go_sem, q3]
  have g2 : (w2.setCell ⟨w.heap.size, 0, none⟩ (.slice A2 ns.length c2)).frozen? ⟨w.heap.size + 1 + 1 + 1, 0, none⟩ = false := by simp [f2]
  have g3 : (w2.setCell ⟨w.heap.size, 0, none⟩ (.slice A2 ns.length c2)).frozen? ⟨w.heap.size + 1 + 1 + 1, 1, none⟩ = false := by simp [f3]
  rcases hcase with ⟨rfl, rfl⟩ | ⟨rfl, hcb⟩
  · go_wp2_with fail
    generalize (w2.setCell ⟨w.heap.size, 0, none⟩ (.slice A2 ns.length c2)) = w3 at *
    clear q0 q1 q2 q3 q4 f0 f2 f3 hs2 hB2 z2 hA' HL HA
    go_region
    all_goals go_wp2
    all_goals (try simp only [Exit.inBlock, Exit.then])
    all_goals refine bodyPost_ret (v := .tuple #[.agg #[.slice A2 ns.length c2, .slice B bs.length d], .bool false, .int .i64 30]) (by simp [results, Try.results18, go_sem, r2, r3]) rfl ?_
    all_goals exact FIN.out w3 _ A2 c2 _ rfl s3 hor hB3 z3 (fun p hp => two_far hp) (by simp) (((hB3.setCell (by simp; omega) _).setCell (by simp; omega) _).drew)
  by_cases hlo : lv = old
  · subst hlo
    have HC := hide hcb
    clear hcb
    go_wp2_with fail
    generalize (w2.setCell ⟨w.heap.size, 0, none⟩ (.slice A2 ns.length c2)) = w3 at *
    clear q0 q1 q2 q3 q4 f0 f2 f3 hs2 hB2 z2 hA' HL HA
    go_region
    all_goals go_wp2
    all_goals (try simp only [Exit.inBlock, Exit.then])
    all_goals refine bodyPost_ret (v := .tuple #[.agg #[.slice A2 ns.length c2, .slice B bs.length d], .bool true, .int .i64 0]) (by simp [results, Try.results18, go_sem, r2, r3]) rfl ?_
    all_goals exact FIN.out w3 _ A2 c2 _ (by rw [HC.out]; simp) s3 hor hB3 z3 (fun p hp => two_far hp) (by simp) (((hB3.setCell (by simp; omega) _).setCell (by simp; omega) _).drew)
  · have HC := hide (show false = cb by rw [hcb]; simp [hlo])
    have hb1 : (lv == old) = false := beq_eq_false_iff_ne.2 hlo
    clear hcb hlo
    go_wp2_with fail
    generalize (w2.setCell ⟨w.heap.size, 0, none⟩ (.slice A2 ns.length c2)) = w3 at *
    clear q0 q1 q2 q3 q4 f0 f2 f3 hs2 hB2 z2 hA' HL HA
    go_region
    all_goals go_wp2
    all_goals (try simp only [Exit.inBlock, Exit.then])
    all_goals refine bodyPost_ret (v := .tuple #[.agg #[.slice A2 ns.length c2, .slice B bs.length d], .bool false, .int .i64 0]) (by simp [results, Try.results18, go_sem, r2, r3]) rfl ?_
    all_goals exact FIN.out w3 _ A2 c2 _ HC.out s3 hor hB3 z3 (fun p hp => two_far hp) (by simp) (((hB3.setCell (by simp; omega) _).setCell (by simp; omega) _).drew)

end Go.Proofs.Ytkiagdlcbfdgnaa
