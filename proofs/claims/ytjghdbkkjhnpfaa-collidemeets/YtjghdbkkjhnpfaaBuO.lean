/- A memory that is built, both of whose rows may be written. -/
import Derived.Test.YtjghdbkkjhnpfaaTn
import Derived.Test.YtjghdbkkjhnpfaaM2
import Derived.Test.YtjghdbkkjhnpfaaM3
import Derived.Test.YtjghdbkkjhnpfaaM5
import Derived.Deep.RegionWith
import Derived.Deep.RegionHeld3
import Derived.Deep.Cut
namespace Go.Proofs.Ytjghdbkkjhnpfaa
open Go.RowKit
set_option linter.unusedVariables false

/-- A row's block may be written, from its first place on. -/
def Row (w : World) (A : Option Addr) : Prop := ∀ p, A = some p → ∃ g cs, p = ⟨g, 0, none⟩ ∧ boxOf w g = some cs
theorem Row.later {w w' : World} {A : Option Addr} (h : Row w A) (hb : Below w.heap.size w w') : Row w' A := fun p hp => by
  obtain ⟨g, cs, e, hc⟩ := h p hp; exact ⟨g, cs, e, boxOf_keep hc hb⟩
theorem Row.set {w : World} {A : Option Addr} (h : Row w A) (q : Addr) (v : Value) : Row (w.setCell q v) A := fun p hp => by
  obtain ⟨g, cs, e, hc⟩ := h p hp
  by_cases hq : q.block = g
  · obtain ⟨t, ht⟩ := boxOf_iff.1 hc
    subst hq
    by_cases hs : q.spot.isSome = true
    · refine ⟨_, cs, e, boxOf_iff.2 ⟨t, ?_⟩⟩
      simp [World.setCell, Array.getElem?_modify, ht, hs]
    · refine ⟨_, (cs.set q.off v), e, boxOf_iff.2 ⟨t, ?_⟩⟩
      simp [World.setCell, Array.getElem?_modify, ht, hs]
  · exact ⟨g, cs, e, by rw [boxOf_far _ _ _ _ hq]; exact hc⟩
theorem own_row {w : World} {base n c : Nat} {e : TypeId} {A : Option Addr} {xs : List Value} (h : w.ownsRow base e 1 (.slice A n c) n xs) : Row w A := fun p hp => by
  subst hp
  rcases h.2 with ⟨hv, _⟩ | ⟨g, cap, cur, hv, _, hh, _⟩
  · cases hv
  · have hA : (some p : Option Addr) = some ⟨g, 0, none⟩ := by injection hv
    exact ⟨g, cur.toList, Option.some.inj hA, boxOf_iff.2 ⟨e, by simpa using hh⟩⟩
theorem row_new (w : World) (cs : Array Value) (t : TypeId) : Row (w.alloc (.cells cs t)) (some ⟨w.heap.size, 0, none⟩) := fun p hp => by
  cases hp; exact ⟨_, _, rfl, boxOf_newA w cs t _ rfl⟩
structure SeesR (w : World) (B sz : Nat) (A : Option Addr) (n : Nat) (xs : List Value) : Prop where
  s : Sees w B sz A n xs
  r : Row w A
theorem SeesR.up {w : World} {B B' sz n : Nat} {A : Option Addr} {xs : List Value} (h : SeesR w B sz A n xs) (hB : B ≤ B') : SeesR w B' sz A n xs := ⟨h.s.up hB, h.r⟩
theorem SeesR.far' {w w0 w1 : World} {B sz n : Nat} {A A' : Option Addr} {xs : List Value} (h : SeesR w B sz A' n xs) (g o : Nat) (v : Value) (hA : 0 < n → ∀ p, A = some p → p.block < w0.heap.size) (hor : A' = A ∨ Fresh w1 A') (h1 : w0.heap.size ≤ g) (h2 : g < w1.heap.size) :
    SeesR (w.setCell ⟨g, o, none⟩ v) B sz A' n xs := ⟨h.s.far' g o v hA hor h1 h2, h.r.set _ _⟩
structure MemRw (w : World) (A : Option Addr) (ws : List Int) (B : Option Addr) (bs : List Bt) : Prop extends MemOk w A ws B bs where
  rA : Row w A
  rB : Row w B
theorem MemRw.later {w w' : World} {A B : Option Addr} {ws : List Int} {bs : List Bt} (h : MemRw w A ws B bs) (hb : Below w.heap.size w w') : MemRw w' A ws B bs := ⟨h.toMemOk.later hb, h.rA.later hb, h.rB.later hb⟩
theorem MemRw.words_at {w w' : World} {A A' B : Option Addr} {ws ws' : List Int} {bs : List Bt} (h : MemRw w A ws B bs) (hb : Below w.heap.size w w') (hs : SeesR w' w'.heap.size 1 A' ws'.length (ws'.map (Value.int .i64))) (hl : ws'.length = ws.length) : MemRw w' A' ws' B bs := ⟨h.toMemOk.words_at hb hs.s hl, hs.r, h.rB.later hb⟩
def WIOPost (A : Option Addr) (ws : List Int) (v e : Int) (w : World) (x : Ending) (w' : World) : Prop :=
  ∃ A' c, x = .returned (.tuple #[.slice A' ws.length c, .int .i64 v, .int .i64 e]) ∧ SeesR w' w'.heap.size 1 A' ws.length (ws.map (Value.int .i64)) ∧ (A' = A ∨ Fresh w A') ∧ Below w.heap.size w w'
def MIOPost (A : Option Addr) (ws : List Int) (B : Option Addr) (nb d : Nat) (v e : Int) (w : World) (x : Ending) (w' : World) : Prop :=
  ∃ A' c, x = .returned (.tuple #[.agg #[.slice A' ws.length c, .slice B nb d], .int .i64 v, .int .i64 e]) ∧ SeesR w' w'.heap.size 1 A' ws.length (ws.map (Value.int .i64)) ∧ (A' = A ∨ Fresh w A') ∧ Below w.heap.size w w'
def MOPost (A : Option Addr) (ws : List Int) (B : Option Addr) (nb d : Nat) (e : Int) (w : World) (x : Ending) (w' : World) : Prop :=
  ∃ A' c, x = .returned (.tuple #[.agg #[.slice A' ws.length c, .slice B nb d], .int .i64 e]) ∧ SeesR w' w'.heap.size 1 A' ws.length (ws.map (Value.int .i64)) ∧ (A' = A ∨ Fresh w A') ∧ Below w.heap.size w w'
set_option maxRecDepth 100000 in
set_option maxHeartbeats 4000000 in
theorem writeO_any (A : Option Addr) (c p : Nat) (ws : List Int) (i v : Int) (w : World) (hf : ws.length ≤ 20000) (hs : SeesR w w.heap.size 1 A ws.length (ws.map (Value.int .i64))) (hp : w.cell? ⟨p, 0, none⟩ = some (.int .i64 v)) :
    Calls Try.prog 67 #[.slice A ws.length c, .int .i64 i, .func (.func 68) #[] #[.pointer (some ⟨p, 0, none⟩)]] w (WIOPost A (stV ws i v) (ldV ws i) (erV ws.length i) w) := by
  obtain ⟨hs, hr⟩ := hs
  have K := hide (readI_any A c ws i w hs)
  rcases inR_cases ws.length i with ⟨k, hk, rfl⟩ | hno
  · obtain ⟨b, off, rfl, hb, _⟩ := hs.2 (by omega)
    obtain ⟨lv, hl⟩ : ∃ x, ldV ws (k : Int) = x := ⟨_, rfl⟩
    rw [hl, erV_at hk] at K ⊢
    have hlen : (stV ws (k : Int) v).length = ws.length := stV_length _ _ _
    have HL := hide hlen
    have HV := hide (stV_at v hk)
    clear hl hlen
    go_enter Try.func67, Try.ntmps67
    go_wp2_with fail
    refine K.out.mono ?_
    rintro x w1 ⟨rfl, rfl⟩
    go_wp2_with fail
    refine (cloneI_any b off c ws hf w1 hs).mono ?_
    rintro x w2 ⟨A2, c2, rfl, hown, hb2⟩
    have hp2 := cell_keep hp hb2
    have HR := own_row hown
    obtain ⟨g, u, rfl, hg, hgu, hgf, hset⟩ := own_set (.int .i64 v) hown hk
    have hk0 : (0 : Int) ≤ (k : Int) := Int.natCast_nonneg _
    have hk1 : (k : Int) < (ws.length : Int) := by omega
    go_wp2_with fail
    refine (stepS_any p lv v w2 hp2).mono ?_
    rintro x w3 ⟨rfl, rfl⟩
    go_wp2
    go_ret3
    rw [WIOPost, HL.out, HV.out, List.map_set]
    exact ⟨some ⟨g, 0, none⟩, c2, rfl, ⟨hset.up (by simp), HR.set _ _⟩, .inr (fun q hq => by cases hq; exact hg), hb2.setCell hg _⟩
  · rw [stV_no v hno]
    rw [ldV_no hno, erV_no hno] at K ⊢
    clear hno
    go_enter Try.func67, Try.ntmps67
    go_wp2_with fail
    refine K.out.mono ?_
    rintro x w1 ⟨rfl, rfl⟩
    go_wp2
    go_ret3
    exact ⟨A, c, rfl, ⟨hs, hr⟩, .inl rfl, Below.refl _ _⟩
set_option maxRecDepth 100000 in
set_option maxHeartbeats 4000000 in
theorem swapO_any (A B : Option Addr) (c d : Nat) (ws : List Int) (bs : List Bt) (i v : Int) (w : World) (h : MemRw w A ws B bs) :
    Calls Try.prog 48 #[.agg #[.slice A ws.length c, .slice B bs.length d], .int .i64 i, .int .i64 v] w (MIOPost A (stV ws i v) B bs.length d (ldV ws i) (erV ws.length i) w) := by
  have hA := fun hn => h.words.block_lt hn
  have hb : Below w.heap.size w (((w.alloc (.cells #[.slice A ws.length c, .slice B bs.length d] 27)).alloc (.cells #[.int .i64 v] 3)).alloc (.cells #[.slice none 0 0, .slice none 0 0] 27)) :=
    (((Below.refl _ w).alloc (Nat.le_refl _) _).alloc (by simp) _).alloc (by simp; omega) _
  have key := writeO_any A c (w.heap.size + 1) ws i v _ h.few ⟨h.words.later hb, h.rA.later hb⟩ (by simp [go_sem])
  have hlen : (stV ws i v).length = ws.length := stV_length ws i v
  obtain ⟨ns, hns⟩ : ∃ x, stV ws i v = x := ⟨_, rfl⟩
  obtain ⟨lv, hl⟩ : ∃ x, ldV ws i = x := ⟨_, rfl⟩
  obtain ⟨ev, he⟩ : ∃ x, erV ws.length i = x := ⟨_, rfl⟩
  rw [hns, hl, he] at key
  rw [hns] at hlen
  rw [hns, hl, he]
  have K := hide key
  have HL := hide hlen
  have HA := hide hA
  clear key hns hl he hlen h hA
  go_enter Try.func48, Try.ntmps48
  go_wp2_with fail
  refine K.out.mono ?_
  rintro x w2 ⟨A2, c2, rfl, hs2, hor, hb2⟩
  have z2 : w.heap.size + 1 + 1 + 1 ≤ w2.heap.size := by simpa using hb2.size
  have q0 : w2.cell? ⟨w.heap.size, 0, none⟩ = some (.slice A ws.length c) := (hb2.cell (p := ⟨w.heap.size, 0, none⟩) (by simp; omega)).trans (by simp [go_sem])
  have q1 : w2.cell? ⟨w.heap.size, 1, none⟩ = some (.slice B bs.length d) := (hb2.cell (p := ⟨w.heap.size, 1, none⟩) (by simp; omega)).trans (by simp [go_sem])
  have q2 : w2.cell? ⟨w.heap.size + 1 + 1, 0, none⟩ = some (.slice none 0 0) := (hb2.cell (p := ⟨w.heap.size + 1 + 1, 0, none⟩) (by simp)).trans (by simp [go_sem])
  have q3 : w2.cell? ⟨w.heap.size + 1 + 1, 1, none⟩ = some (.slice none 0 0) := (hb2.cell (p := ⟨w.heap.size + 1 + 1, 1, none⟩) (by simp)).trans (by simp [go_sem])
  have f0 : w2.frozen? ⟨w.heap.size, 0, none⟩ = false := (hb2.frozen (p := ⟨w.heap.size, 0, none⟩) (by simp; omega)).trans (by simp [go_sem])
  have f2 : w2.frozen? ⟨w.heap.size + 1 + 1, 0, none⟩ = false := (hb2.frozen (p := ⟨w.heap.size + 1 + 1, 0, none⟩) (by simp)).trans (by simp [go_sem])
  have f3 : w2.frozen? ⟨w.heap.size + 1 + 1, 1, none⟩ = false := (hb2.frozen (p := ⟨w.heap.size + 1 + 1, 1, none⟩) (by simp)).trans (by simp [go_sem])
  go_wp2
  (try simp only [Exit.inBlock, Exit.then])
  refine bodyPost_ret (v := .tuple #[.agg #[.slice A2 ns.length c2, .slice B bs.length d], .int .i64 lv, .int .i64 ev]) (by simp [results, Try.results48, go_sem, q2, q3]) rfl ?_
  have hA' : 0 < ns.length → ∀ p, A = some p → p.block < w.heap.size := by rw [HL.out]; exact HA.out
  exact ⟨A2, c2, rfl, (((hs2.far' w.heap.size 0 _ hA' hor (Nat.le_refl _) (by simp; omega)).far' (w.heap.size + 1 + 1) 0 _ hA' hor (by omega) (by simp)).far' (w.heap.size + 1 + 1) 1 _ hA' hor (by omega) (by simp)).up (by simp), hor.imp_right (·.before (by simp; omega)),
    (((below_next hb (by simp; omega) hb2).setCell (Nat.le_refl _) _).setCell (by simp; omega) _).setCell (by simp; omega) _⟩

set_option maxRecDepth 100000 in
set_option maxHeartbeats 4000000 in
theorem storeO_any (A B : Option Addr) (c d : Nat) (ws : List Int) (bs : List Bt) (i v : Int) (w : World) (h : MemRw w A ws B bs) :
    Calls Try.prog 41 #[.agg #[.slice A ws.length c, .slice B bs.length d], .int .i64 i, .int .i64 v] w (MOPost A (stV ws i v) B bs.length d (erV ws.length i) w) := by
  have hA := fun hn => h.words.block_lt hn
  have hb : Below w.heap.size w ((w.alloc (.cells #[.slice A ws.length c, .slice B bs.length d] 27)).alloc (.cells #[.slice none 0 0, .slice none 0 0] 27)) :=
    ((Below.refl _ w).alloc (Nat.le_refl _) _).alloc (by simp) _
  have key := swapO_any A B c d ws bs i v _ (h.later hb)
  have hlen : (stV ws i v).length = ws.length := stV_length ws i v
  obtain ⟨ns, hns⟩ : ∃ x, stV ws i v = x := ⟨_, rfl⟩
  obtain ⟨lv, hl⟩ : ∃ x, ldV ws i = x := ⟨_, rfl⟩
  obtain ⟨ev, he⟩ : ∃ x, erV ws.length i = x := ⟨_, rfl⟩
  rw [hns, hl, he] at key
  rw [hns] at hlen
  rw [hns, he]
  have K := hide key
  have HL := hide hlen
  have HA := hide hA
  clear key hns hl he hlen h hA
  go_enter Try.func41, Try.ntmps41
  go_wp2_with fail
  refine K.out.mono ?_
  rintro x w2 ⟨A2, c2, rfl, hs2, hor, hb2⟩
  have z2 : w.heap.size + 1 + 1 ≤ w2.heap.size := by simpa using hb2.size
  have q0 : w2.cell? ⟨w.heap.size, 0, none⟩ = some (.slice A ws.length c) := cell_keep (by simp [go_sem]) hb2
  have q1 : w2.cell? ⟨w.heap.size, 1, none⟩ = some (.slice B bs.length d) := cell_keep (by simp [go_sem]) hb2
  have q2 : w2.cell? ⟨w.heap.size + 1, 0, none⟩ = some (.slice none 0 0) := cell_keep (by simp [go_sem]) hb2
  have q3 : w2.cell? ⟨w.heap.size + 1, 1, none⟩ = some (.slice none 0 0) := cell_keep (by simp [go_sem]) hb2
  have f0 : w2.frozen? ⟨w.heap.size, 0, none⟩ = false := frozen_keep hb2 (by simp; omega) (by simp [go_sem])
  have f1 : w2.frozen? ⟨w.heap.size, 1, none⟩ = false := frozen_keep hb2 (by simp; omega) (by simp [go_sem])
  have f2 : w2.frozen? ⟨w.heap.size + 1, 0, none⟩ = false := frozen_keep hb2 (by simp) (by simp [go_sem])
  have f3 : w2.frozen? ⟨w.heap.size + 1, 1, none⟩ = false := frozen_keep hb2 (by simp) (by simp [go_sem])
  go_wp2
  (try simp only [Exit.inBlock, Exit.then])
  refine bodyPost_ret (v := .tuple #[.agg #[.slice A2 ns.length c2, .slice B bs.length d], .int .i64 ev]) (by simp [results, Try.results41, go_sem, q2, q3]) rfl ?_
  have hA' : 0 < ns.length → ∀ p, A = some p → p.block < w.heap.size := by rw [HL.out]; exact HA.out
  exact ⟨A2, c2, rfl, ((((hs2.far' w.heap.size 0 _ hA' hor (Nat.le_refl _) (by simp; omega)).far' w.heap.size 1 _ hA' hor (Nat.le_refl _) (by simp; omega)).far' (w.heap.size + 1) 0 _ hA' hor (by omega) (by simp)).far' (w.heap.size + 1) 1 _ hA' hor (by omega) (by simp)).up (by simp), hor.imp_right (·.before (by simp; omega)),
    ((((below_next hb (by simp; omega) hb2).setCell (Nat.le_refl _) _).setCell (Nat.le_refl _) _).setCell (by simp) _).setCell (by simp) _⟩

def MFOPost (ws : List Int) (bx : List (List E3)) (w : World) (x : Ending) (w' : World) : Prop :=
  ∃ A c B d bs, x = .returned (.agg #[.slice A ws.length c, .slice B (List.length bs) d]) ∧ boxes bs = bx ∧ MemRw w' A ws B bs ∧ Fresh w A ∧ Fresh w B ∧ Below w.heap.size w w'
set_option maxRecDepth 100000 in
set_option maxHeartbeats 4000000 in
theorem newO_any (x y : Int) (w : World) : Calls Try.prog 39 #[.int .i64 x, .int .i64 y] w (MFOPost (List.replicate (cntV x) 0) (List.replicate (cntV y) []) w) := by
  have K1 := hide (fun u => number_any x u)
  have K2 := hide (fun u => number_any y u)
  have hx := cntV_le x
  have hy := cntV_le y
  obtain ⟨n, hn⟩ : ∃ n, cntV x = n := ⟨_, rfl⟩
  obtain ⟨k, hk⟩ : ∃ n, cntV y = n := ⟨_, rfl⟩
  simp only [hn] at K1 hx ⊢
  simp only [hk] at K2 hy ⊢
  clear hn hk
  have mk1 := run_make_row' (P := Try.prog) 24 3 (.int .i64 0) 8 Try.underlying24 info3 rfl .i64 .i64 n (by omega) (by omega)
  have mk2 := run_make_row' (P := Try.prog) 25 30 (.slice none 0 0) 24 Try.underlying25 infoRow rfl .i64 .i64 k (by omega) (by omega)
  go_enter Try.func39, Try.ntmps39
  go_wp2_with fail
  go_region_with (first | (go_at_call_of 55 x; refine (K1.out _).mono ?_; rintro e w1 ⟨rfl, rfl⟩) | (go_at_call_of 55 y; refine (K2.out _).mono ?_; rintro e w1 ⟨rfl, rfl⟩))
  all_goals go_wp2
  all_goals (try simp only [Exit.inBlock, Exit.then])
  all_goals first
  |
    (refine bodyPost_ret (v := .agg #[.slice (some ⟨w.heap.size + 1, 0, none⟩) n n, .slice (some ⟨w.heap.size + 1 + 1, 0, none⟩) k k]) (by simp [results, Try.results39, go_sem]) rfl ?_
     have hB0 : Below w.heap.size w (w.alloc (.cells #[.slice (some ⟨w.heap.size + 1, 0, none⟩) n n, .slice (some ⟨w.heap.size + 1 + 1, 0, none⟩) k k] 27)) := (Below.refl _ w).alloc (Nat.le_refl _) _
     have hB1 : Below w.heap.size w ((w.alloc (.cells #[.slice (some ⟨w.heap.size + 1, 0, none⟩) n n, .slice (some ⟨w.heap.size + 1 + 1, 0, none⟩) k k] 27)).alloc (.cells (madeCells #[.int .i64 0] n) 3)) := hB0.alloc (by simp) _
     have hB2 : Below w.heap.size w (((w.alloc (.cells #[.slice (some ⟨w.heap.size + 1, 0, none⟩) n n, .slice (some ⟨w.heap.size + 1 + 1, 0, none⟩) k k] 27)).alloc (.cells (madeCells #[.int .i64 0] n) 3)).alloc (.cells (madeCells #[.slice none 0 0] k) 30)) := hB1.alloc (by simp; omega) _
     have e1 := (sees_made (w.alloc (.cells #[.slice (some ⟨w.heap.size + 1, 0, none⟩) n n, .slice (some ⟨w.heap.size + 1 + 1, 0, none⟩) k k] 27)) (.int .i64 0) 3 n).later ((Below.refl _ _).alloc (Nat.le_refl _) (.cells (madeCells #[.slice none 0 0] k) 30))
     have e2 := sees_made ((w.alloc (.cells #[.slice (some ⟨w.heap.size + 1, 0, none⟩) n n, .slice (some ⟨w.heap.size + 1 + 1, 0, none⟩) k k] 27)).alloc (.cells (madeCells #[.int .i64 0] n) 3)) (.slice none 0 0) 30 k
     have h1 := e1.later ((Below.refl _ _).drew)
     have h2 := e2.later ((Below.refl _ _).drew)
     have z1 : (w.alloc (.cells #[.slice (some ⟨w.heap.size + 1, 0, none⟩) n n, .slice (some ⟨w.heap.size + 1 + 1, 0, none⟩) k k] 27)).heap.size = w.heap.size + 1 := by simp
     have z2 : ((w.alloc (.cells #[.slice (some ⟨w.heap.size + 1, 0, none⟩) n n, .slice (some ⟨w.heap.size + 1 + 1, 0, none⟩) k k] 27)).alloc (.cells (madeCells #[.int .i64 0] n) 3)).heap.size = w.heap.size + 1 + 1 := by simp
     have HRA := ((row_new (w.alloc (.cells #[.slice (some ⟨w.heap.size + 1, 0, none⟩) n n, .slice (some ⟨w.heap.size + 1 + 1, 0, none⟩) k k] 27)) (madeCells #[.int .i64 0] n) 3).later ((Below.refl _ _).alloc (Nat.le_refl _) (.cells (madeCells #[.slice none 0 0] k) 30))).later ((Below.refl _ _).drew)
     have HRB := (row_new ((w.alloc (.cells #[.slice (some ⟨w.heap.size + 1, 0, none⟩) n n, .slice (some ⟨w.heap.size + 1 + 1, 0, none⟩) k k] 27)).alloc (.cells (madeCells #[.int .i64 0] n) 3)) (madeCells #[.slice none 0 0] k) 30).later ((Below.refl _ _).drew)
     rw [z1] at HRA
     rw [z2] at HRB
     rw [z1] at h1
     rw [z2] at h2
     exact ⟨some ⟨w.heap.size + 1, 0, none⟩, n, some ⟨w.heap.size + 1 + 1, 0, none⟩, k, List.replicate k ⟨none, 0, []⟩, by rw [List.length_replicate, List.length_replicate], boxes_replicate k, ⟨mem_made _ hx hy h1 h2, HRA, HRB⟩, fresh_at (by omega), fresh_at (by omega), hB2.drew⟩)
  |
    (refine bodyPost_ret (v := .agg #[.slice (some ⟨w.heap.size + 1 + 1, 0, none⟩) n n, .slice (some ⟨w.heap.size + 1, 0, none⟩) k k]) (by simp [results, Try.results39, go_sem]) rfl ?_
     have hB0 : Below w.heap.size w (w.alloc (.cells #[.slice (some ⟨w.heap.size + 1 + 1, 0, none⟩) n n, .slice (some ⟨w.heap.size + 1, 0, none⟩) k k] 27)) := (Below.refl _ w).alloc (Nat.le_refl _) _
     have hB1 : Below w.heap.size w ((w.alloc (.cells #[.slice (some ⟨w.heap.size + 1 + 1, 0, none⟩) n n, .slice (some ⟨w.heap.size + 1, 0, none⟩) k k] 27)).alloc (.cells (madeCells #[.slice none 0 0] k) 30)) := hB0.alloc (by simp) _
     have hB2 : Below w.heap.size w (((w.alloc (.cells #[.slice (some ⟨w.heap.size + 1 + 1, 0, none⟩) n n, .slice (some ⟨w.heap.size + 1, 0, none⟩) k k] 27)).alloc (.cells (madeCells #[.slice none 0 0] k) 30)).alloc (.cells (madeCells #[.int .i64 0] n) 3)) := hB1.alloc (by simp; omega) _
     have e1 := (sees_made (w.alloc (.cells #[.slice (some ⟨w.heap.size + 1 + 1, 0, none⟩) n n, .slice (some ⟨w.heap.size + 1, 0, none⟩) k k] 27)) (.slice none 0 0) 30 k).later ((Below.refl _ _).alloc (Nat.le_refl _) (.cells (madeCells #[.int .i64 0] n) 3))
     have e2 := sees_made ((w.alloc (.cells #[.slice (some ⟨w.heap.size + 1 + 1, 0, none⟩) n n, .slice (some ⟨w.heap.size + 1, 0, none⟩) k k] 27)).alloc (.cells (madeCells #[.slice none 0 0] k) 30)) (.int .i64 0) 3 n
     have h1 := e1.later ((Below.refl _ _).drew)
     have h2 := e2.later ((Below.refl _ _).drew)
     have z1 : (w.alloc (.cells #[.slice (some ⟨w.heap.size + 1 + 1, 0, none⟩) n n, .slice (some ⟨w.heap.size + 1, 0, none⟩) k k] 27)).heap.size = w.heap.size + 1 := by simp
     have z2 : ((w.alloc (.cells #[.slice (some ⟨w.heap.size + 1 + 1, 0, none⟩) n n, .slice (some ⟨w.heap.size + 1, 0, none⟩) k k] 27)).alloc (.cells (madeCells #[.slice none 0 0] k) 30)).heap.size = w.heap.size + 1 + 1 := by simp
     have HRB := ((row_new (w.alloc (.cells #[.slice (some ⟨w.heap.size + 1 + 1, 0, none⟩) n n, .slice (some ⟨w.heap.size + 1, 0, none⟩) k k] 27)) (madeCells #[.slice none 0 0] k) 30).later ((Below.refl _ _).alloc (Nat.le_refl _) (.cells (madeCells #[.int .i64 0] n) 3))).later ((Below.refl _ _).drew)
     have HRA := (row_new ((w.alloc (.cells #[.slice (some ⟨w.heap.size + 1 + 1, 0, none⟩) n n, .slice (some ⟨w.heap.size + 1, 0, none⟩) k k] 27)).alloc (.cells (madeCells #[.slice none 0 0] k) 30)) (madeCells #[.int .i64 0] n) 3).later ((Below.refl _ _).drew)
     rw [z1] at HRB
     rw [z2] at HRA
     rw [z1] at h1
     rw [z2] at h2
     exact ⟨some ⟨w.heap.size + 1 + 1, 0, none⟩, n, some ⟨w.heap.size + 1, 0, none⟩, k, List.replicate k ⟨none, 0, []⟩, by rw [List.length_replicate, List.length_replicate], boxes_replicate k, ⟨mem_made _ hx hy h2 h1, HRA, HRB⟩, fresh_at (by omega), fresh_at (by omega), hB2.drew⟩)
/-- H the box of the config, H + 1 that of the answer, k that of the memory. -/
structure BdAtO (H k : Nat) (w wr : World) (A B : Option Addr) (ws : List Int) (bs : List Bt) (c d : Nat) : Prop where
  m0 : wr.cell? ⟨k, 0, none⟩ = some (.slice A ws.length c)
  m1 : wr.cell? ⟨k, 1, none⟩ = some (.slice B bs.length d)
  g0 : wr.frozen? ⟨k, 0, none⟩ = false
  g1 : wr.frozen? ⟨k, 1, none⟩ = false
  r0 : wr.cell? ⟨H + 1, 0, none⟩ = some (.slice none 0 0)
  r1 : wr.cell? ⟨H + 1, 1, none⟩ = some (.slice none 0 0)
  f0 : wr.frozen? ⟨H + 1, 0, none⟩ = false
  f1 : wr.frozen? ⟨H + 1, 1, none⟩ = false
  mem : MemRw wr A ws B bs
  emp : ∀ q ∈ bs, q.l = []
  aA : ∀ p, A = some p → H + 1 + 1 ≤ p.block ∧ p.block ≠ k
  aB : ∀ p, B = some p → H + 1 + 1 ≤ p.block ∧ p.block ≠ k
  bel : Below H w wr
  hk : H + 1 + 1 ≤ k
  kz : k < wr.heap.size

theorem mem_farO {w : World} {A B : Option Addr} {ws : List Int} {bs : List Bt} {k : Nat} (h : MemRw w A ws B bs) (emp : ∀ q ∈ bs, q.l = []) (hA : ∀ p, A = some p → p.block ≠ k) (hB : ∀ p, B = some p → p.block ≠ k) (a b : Value) : MemRw ((w.setCell ⟨k, 0, none⟩ a).setCell ⟨k, 1, none⟩ b) A ws B bs :=
  ⟨⟨⟨((h.words.far k 0 a hA).far k 1 b hA).up (by simp), ((h.bxs.far k 0 a hB).far k 1 b hB).up (by simp), fun q hq => by
    show Sees _ _ 3 q.A q.l.length (ecells q.l)
    rw [emp q hq]
    exact Sees.empty⟩, h.few, h.fewb, h.short⟩, (h.rA.set _ _).set _ _, (h.rB.set _ _).set _ _⟩

theorem BdPre.setO {H k : Nat} {w wr : World} {A B : Option Addr} {ws : List Int} {bs : List Bt} {c d : Nat} (h : BdPre H k w wr) (mem : MemRw wr A ws B bs) (emp : ∀ q ∈ bs, q.l = [])
    (aA : ∀ p, A = some p → H + 1 + 1 ≤ p.block ∧ p.block ≠ k) (aB : ∀ p, B = some p → H + 1 + 1 ≤ p.block ∧ p.block ≠ k) :
    BdAtO H k w ((wr.setCell ⟨k, 0, none⟩ (.slice A ws.length c)).setCell ⟨k, 1, none⟩ (.slice B bs.length d)) A B ws bs c d := by
  obtain ⟨⟨u, m0⟩, ⟨v, m1⟩, g0, g1, r0, r1, f0, f1, bel, hk, kz⟩ := h
  have m1' : (wr.setCell ⟨k, 0, none⟩ (.slice A ws.length c)).cell? ⟨k, 1, none⟩ = some v := by
    rw [World.cell?_setCell_other _ _ _ _ (by intro h3; rw [Addr.mk.injEq] at h3; omega)]; exact m1
  have far : ∀ (i : Nat) (x : Value), wr.cell? ⟨H + 1, i, none⟩ = some x → ((wr.setCell ⟨k, 0, none⟩ (.slice A ws.length c)).setCell ⟨k, 1, none⟩ (.slice B bs.length d)).cell? ⟨H + 1, i, none⟩ = some x := fun i x e => by
    rw [World.cell?_setCell_other _ _ _ _ (by intro h3; rw [Addr.mk.injEq] at h3; omega), World.cell?_setCell_other _ _ _ _ (by intro h3; rw [Addr.mk.injEq] at h3; omega)]; exact e
  refine ⟨?_, World.cell?_setCell_same _ _ _ m1', by rw [World.frozen?_setCell, World.frozen?_setCell]; exact g0, by rw [World.frozen?_setCell, World.frozen?_setCell]; exact g1, far _ _ r0, far _ _ r1,
    by rw [World.frozen?_setCell, World.frozen?_setCell]; exact f0, by rw [World.frozen?_setCell, World.frozen?_setCell]; exact f1, mem_farO mem emp (fun p hp => (aA p hp).2) (fun p hp => (aB p hp).2) _ _, emp, aA, aB,
    (bel.setCell (by show H ≤ k; omega) _).setCell (by show H ≤ k; omega) _, hk, by simpa using kz⟩
  rw [World.cell?_setCell_other _ _ _ _ (by intro h3; rw [Addr.mk.injEq] at h3; omega)]
  exact World.cell?_setCell_same _ _ _ m0
theorem BdAtO.pre {H k : Nat} {w wr : World} {A B : Option Addr} {ws : List Int} {bs : List Bt} {c d : Nat} (h : BdAtO H k w wr A B ws bs c d) : BdPre H k w wr :=
  ⟨⟨_, h.m0⟩, ⟨_, h.m1⟩, h.g0, h.g1, h.r0, h.r1, h.f0, h.f1, h.bel, h.hk, h.kz⟩

/-- A word is stored. -/
theorem BdAtO.step {H k : Nat} {w wr w1 w2 : World} {A B A' : Option Addr} {ws ws' : List Int} {bs : List Bt} {c d c' : Nat} (h : BdAtO H k w wr A B ws bs c d) (hb1 : Below wr.heap.size wr w1) (hb2 : Below w1.heap.size w1 w2)
    (hs : SeesR w2 w2.heap.size 1 A' ws'.length (ws'.map (Value.int .i64))) (hor : A' = A ∨ Fresh w1 A') (hl : ws'.length = ws.length) :
    BdAtO H k w ((w2.setCell ⟨k, 0, none⟩ (.slice A' ws'.length c')).setCell ⟨k, 1, none⟩ (.slice B bs.length d)) A' B ws' bs c' d := by
  have z1 := hb1.size
  have z2 := h.kz
  have z3 := h.hk
  refine ((h.pre.later hb1).later hb2).setO ((h.mem.later hb1).words_at hb2 hs hl) h.emp (fun p hp => ?_) h.aB
  rcases hor with rfl | hf
  · exact h.aA p hp
  · have := hf p hp; omega
/-- It is handed back. -/
theorem BdAtO.fin {k : Nat} {w wr : World} {A B : Option Addr} {ws : List Int} {bs : List Bt} {c d : Nat} {bx : List (List E3)} (h : BdAtO w.heap.size k w wr A B ws bs c d) (hbx : boxes bs = bx) :
    MFOPost ws bx w (.returned (.agg #[.slice A ws.length c, .slice B bs.length d])) ((wr.setCell ⟨w.heap.size + 1, 0, none⟩ (.slice A ws.length c)).setCell ⟨w.heap.size + 1, 1, none⟩ (.slice B bs.length d)) :=
  ⟨A, c, B, d, bs, rfl, hbx, mem_farO h.mem h.emp (fun p hp => by have := (h.aA p hp).1; omega) (fun p hp => by have := (h.aB p hp).1; omega) _ _, fun p hp => by have := (h.aA p hp).1; omega, fun p hp => by have := (h.aB p hp).1; omega,
    (h.bel.setCell (by show w.heap.size ≤ w.heap.size + 1; omega) _).setCell (by show w.heap.size ≤ w.heap.size + 1; omega) _⟩
set_option maxRecDepth 100000 in
set_option maxHeartbeats 4000000 in
theorem buildO_any (x0 x1 x2 x3 x4 x5 x6 x7 : Int) (b : Bool) (x9 x10 x11 : Int) (ok : CfOk x0 x1 x2 x3 x4 x5 x6 x7 b x9 x10 x11) (w : World) : Calls Try.prog 22 #[.agg #[.int .i64 x0, .int .i64 x1, .int .i64 x2, .int .i64 x3, .int .i64 x4, .int .i64 x5, .int .i64 x6, .int .i64 x7, .bool b, .int .i64 x9, .int .i64 x10, .int .i64 x11]] w (MFOPost (bdW (List.replicate (cntV (sizeV x1 (bkV x3 x4 x5) x0)) 0) x1 (bkV x3 x4 x5) x11 x1.toNat) (List.replicate (cntV x0) []) w) := by
  have hB : Below w.heap.size w ((w.alloc (.cells #[.int .i64 x0, .int .i64 x1, .int .i64 x2, .int .i64 x3, .int .i64 x4, .int .i64 x5, .int .i64 x6, .int .i64 x7, .bool b, .int .i64 x9, .int .i64 x10, .int .i64 x11] 23)).alloc (.cells #[.slice none 0 0, .slice none 0 0] 27)) := ((Below.refl _ _).alloc (Nat.le_refl _) _).alloc (by simp) _
  have H0 : ((w.alloc (.cells #[.int .i64 x0, .int .i64 x1, .int .i64 x2, .int .i64 x3, .int .i64 x4, .int .i64 x5, .int .i64 x6, .int .i64 x7, .bool b, .int .i64 x9, .int .i64 x10, .int .i64 x11] 23)).alloc (.cells #[.slice none 0 0, .slice none 0 0] 27)).cell? ⟨w.heap.size, 0, none⟩ = some (.int .i64 x0) ∧ ((w.alloc (.cells #[.int .i64 x0, .int .i64 x1, .int .i64 x2, .int .i64 x3, .int .i64 x4, .int .i64 x5, .int .i64 x6, .int .i64 x7, .bool b, .int .i64 x9, .int .i64 x10, .int .i64 x11] 23)).alloc (.cells #[.slice none 0 0, .slice none 0 0] 27)).cell? ⟨w.heap.size, 1, none⟩ = some (.int .i64 x1) ∧ ((w.alloc (.cells #[.int .i64 x0, .int .i64 x1, .int .i64 x2, .int .i64 x3, .int .i64 x4, .int .i64 x5, .int .i64 x6, .int .i64 x7, .bool b, .int .i64 x9, .int .i64 x10, .int .i64 x11] 23)).alloc (.cells #[.slice none 0 0, .slice none 0 0] 27)).cell? ⟨w.heap.size, 2, none⟩ = some (.int .i64 x2) ∧ ((w.alloc (.cells #[.int .i64 x0, .int .i64 x1, .int .i64 x2, .int .i64 x3, .int .i64 x4, .int .i64 x5, .int .i64 x6, .int .i64 x7, .bool b, .int .i64 x9, .int .i64 x10, .int .i64 x11] 23)).alloc (.cells #[.slice none 0 0, .slice none 0 0] 27)).cell? ⟨w.heap.size, 3, none⟩ = some (.int .i64 x3) ∧ ((w.alloc (.cells #[.int .i64 x0, .int .i64 x1, .int .i64 x2, .int .i64 x3, .int .i64 x4, .int .i64 x5, .int .i64 x6, .int .i64 x7, .bool b, .int .i64 x9, .int .i64 x10, .int .i64 x11] 23)).alloc (.cells #[.slice none 0 0, .slice none 0 0] 27)).cell? ⟨w.heap.size, 4, none⟩ = some (.int .i64 x4) ∧ ((w.alloc (.cells #[.int .i64 x0, .int .i64 x1, .int .i64 x2, .int .i64 x3, .int .i64 x4, .int .i64 x5, .int .i64 x6, .int .i64 x7, .bool b, .int .i64 x9, .int .i64 x10, .int .i64 x11] 23)).alloc (.cells #[.slice none 0 0, .slice none 0 0] 27)).cell? ⟨w.heap.size, 5, none⟩ = some (.int .i64 x5) ∧ ((w.alloc (.cells #[.int .i64 x0, .int .i64 x1, .int .i64 x2, .int .i64 x3, .int .i64 x4, .int .i64 x5, .int .i64 x6, .int .i64 x7, .bool b, .int .i64 x9, .int .i64 x10, .int .i64 x11] 23)).alloc (.cells #[.slice none 0 0, .slice none 0 0] 27)).cell? ⟨w.heap.size, 6, none⟩ = some (.int .i64 x6) ∧ ((w.alloc (.cells #[.int .i64 x0, .int .i64 x1, .int .i64 x2, .int .i64 x3, .int .i64 x4, .int .i64 x5, .int .i64 x6, .int .i64 x7, .bool b, .int .i64 x9, .int .i64 x10, .int .i64 x11] 23)).alloc (.cells #[.slice none 0 0, .slice none 0 0] 27)).cell? ⟨w.heap.size, 7, none⟩ = some (.int .i64 x7) ∧ ((w.alloc (.cells #[.int .i64 x0, .int .i64 x1, .int .i64 x2, .int .i64 x3, .int .i64 x4, .int .i64 x5, .int .i64 x6, .int .i64 x7, .bool b, .int .i64 x9, .int .i64 x10, .int .i64 x11] 23)).alloc (.cells #[.slice none 0 0, .slice none 0 0] 27)).cell? ⟨w.heap.size, 8, none⟩ = some (.bool b) ∧ ((w.alloc (.cells #[.int .i64 x0, .int .i64 x1, .int .i64 x2, .int .i64 x3, .int .i64 x4, .int .i64 x5, .int .i64 x6, .int .i64 x7, .bool b, .int .i64 x9, .int .i64 x10, .int .i64 x11] 23)).alloc (.cells #[.slice none 0 0, .slice none 0 0] 27)).cell? ⟨w.heap.size, 9, none⟩ = some (.int .i64 x9) ∧ ((w.alloc (.cells #[.int .i64 x0, .int .i64 x1, .int .i64 x2, .int .i64 x3, .int .i64 x4, .int .i64 x5, .int .i64 x6, .int .i64 x7, .bool b, .int .i64 x9, .int .i64 x10, .int .i64 x11] 23)).alloc (.cells #[.slice none 0 0, .slice none 0 0] 27)).cell? ⟨w.heap.size, 10, none⟩ = some (.int .i64 x10) ∧ ((w.alloc (.cells #[.int .i64 x0, .int .i64 x1, .int .i64 x2, .int .i64 x3, .int .i64 x4, .int .i64 x5, .int .i64 x6, .int .i64 x7, .bool b, .int .i64 x9, .int .i64 x10, .int .i64 x11] 23)).alloc (.cells #[.slice none 0 0, .slice none 0 0] 27)).cell? ⟨w.heap.size, 11, none⟩ = some (.int .i64 x11) := by simp [go_sem]
  have R0 : ((w.alloc (.cells #[.int .i64 x0, .int .i64 x1, .int .i64 x2, .int .i64 x3, .int .i64 x4, .int .i64 x5, .int .i64 x6, .int .i64 x7, .bool b, .int .i64 x9, .int .i64 x10, .int .i64 x11] 23)).alloc (.cells #[.slice none 0 0, .slice none 0 0] 27)).cell? ⟨w.heap.size + 1, 0, none⟩ = some (.slice none 0 0) := by simp [go_sem]
  have R1 : ((w.alloc (.cells #[.int .i64 x0, .int .i64 x1, .int .i64 x2, .int .i64 x3, .int .i64 x4, .int .i64 x5, .int .i64 x6, .int .i64 x7, .bool b, .int .i64 x9, .int .i64 x10, .int .i64 x11] 23)).alloc (.cells #[.slice none 0 0, .slice none 0 0] 27)).cell? ⟨w.heap.size + 1, 1, none⟩ = some (.slice none 0 0) := by simp [go_sem]
  have F0 : ((w.alloc (.cells #[.int .i64 x0, .int .i64 x1, .int .i64 x2, .int .i64 x3, .int .i64 x4, .int .i64 x5, .int .i64 x6, .int .i64 x7, .bool b, .int .i64 x9, .int .i64 x10, .int .i64 x11] 23)).alloc (.cells #[.slice none 0 0, .slice none 0 0] 27)).frozen? ⟨w.heap.size + 1, 0, none⟩ = false := by simp [go_sem]
  have F1 : ((w.alloc (.cells #[.int .i64 x0, .int .i64 x1, .int .i64 x2, .int .i64 x3, .int .i64 x4, .int .i64 x5, .int .i64 x6, .int .i64 x7, .bool b, .int .i64 x9, .int .i64 x10, .int .i64 x11] 23)).alloc (.cells #[.slice none 0 0, .slice none 0 0] 27)).frozen? ⟨w.heap.size + 1, 1, none⟩ = false := by simp [go_sem]
  have KS := hide (size_any x0 x1 x2 x3 x4 x5 x6 x7 b x9 x10 x11 ok)
  have KL := hide (cell_any x0 x1 x2 x3 x4 x5 x6 x7 b x9 x10 x11 ok)
  have KC := hide (check_any x0 x1 x2 x3 x4 x5 x6 x7 b x9 x10 x11)
  rw [(ck_ok x0 x1 x2 x3 x4 x5 x6 x7 b x9 x10 x11).2 ok] at KC
  have ho := ok.h1
  obtain ⟨it, rfl⟩ : ∃ n : Nat, x1 = (n : Int) := ⟨x1.toNat, by omega⟩
  simp only [Int.toNat_natCast]
  obtain ⟨bk, hbk⟩ : ∃ n, bkV x3 x4 x5 = n := ⟨_, rfl⟩
  rw [hbk] at KS KL ⊢
  obtain ⟨sz, hsz⟩ : ∃ n, sizeV (it : Int) bk x0 = n := ⟨_, rfl⟩
  rw [hsz] at KS ⊢
  have KN := hide (newO_any sz x0)
  have HN1 : Hid (0 < cntV sz) := hide (cnt_pos (by have := bk_le ok.h3 ok.h4 ok.h5; have := mul_le (a := (it : Int)) (b := bk) (p := 4) (q := 40) (by omega) (by omega); have := ok.h0; unfold sizeV at hsz; omega))
  have HN2 : Hid (∀ bs : List Bt, boxes bs = List.replicate (cntV x0) [] → 0 < bs.length) := hide (fun bs hb => by rw [← boxes_length, hb, List.length_replicate]; exact cnt_pos (by have := ok.h0; omega))
  clear hbk hsz ok
  go_enter Try.func22, Try.ntmps22
  go_wp2_with fail
  refine (KC.out _).mono ?_
  rintro x w0 ⟨rfl, hv⟩
  replace H0 := keep12 H0 hv
  replace R0 := cell_keep R0 hv
  replace R1 := cell_keep R1 hv
  replace F0 := frozen_keep hv (by simp) F0
  replace F1 := frozen_keep hv (by simp) F1
  have hz : w.heap.size + 1 + 1 ≤ w0.heap.size := by simpa using hv.size
  replace hB := below_next hB (by simp; omega) hv
  clear hv KC
  go_upto_region 3 with fail
  have b0 : Below w0.heap.size w0 w0.drew := (Below.refl _ _).drew
  have b0a : Below w0.heap.size w0 (w0.alloc (.cells #[.slice none 0 0, .slice none 0 0] 27)).drew := ((Below.refl _ _).alloc (Nat.le_refl _) _).drew
  have P0 : BdPre w.heap.size w0.heap.size w (w0.alloc (.cells #[.slice none 0 0, .slice none 0 0] 27)).drew := ⟨⟨_, by simp [go_sem]; rfl⟩, ⟨_, by simp [go_sem]; rfl⟩, by simp [go_sem], by simp [go_sem], cell_keep R0 b0a, cell_keep R1 b0a, frozen_keep b0a (by omega) F0, frozen_keep b0a (by omega) F1, below_next hB (by omega) b0a, hz, by simp⟩
  have PA : ∀ v1 : World, Below w0.heap.size w0 v1 → BdPre w.heap.size v1.heap.size w (v1.alloc (.cells #[.slice none 0 0, .slice none 0 0] 27)) := fun v1 hv => by
    have hz1 := hv.size
    have ba : Below w0.heap.size w0 (v1.alloc (.cells #[.slice none 0 0, .slice none 0 0] 27)) := hv.alloc hv.size _
    exact ⟨⟨_, by simp [go_sem]; rfl⟩, ⟨_, by simp [go_sem]; rfl⟩, by simp [go_sem], by simp [go_sem], cell_keep R0 ba, cell_keep R1 ba, frozen_keep ba (by omega) F0, frozen_keep ba (by omega) F1, below_next hB (by omega) ba, by omega, by simp⟩
  have PN : ∀ (v2 : World) (A B : Option Addr) (c d : Nat) (ws : List Int) (bs : List Bt), Below w0.heap.size w0 v2 → MemRw v2 A ws B bs → (∀ q ∈ bs, q.l = []) → (∀ p, A = some p → w.heap.size + 1 + 1 ≤ p.block ∧ p.block ≠ v2.heap.size) → (∀ p, B = some p → w.heap.size + 1 + 1 ≤ p.block ∧ p.block ≠ v2.heap.size) →
      BdAtO w.heap.size v2.heap.size w (v2.alloc (.cells #[.slice A ws.length c, .slice B bs.length d] 27)) A B ws bs c d := fun v2 A B c d ws bs hv mem emp aA aB => by
    have hz1 := hv.size
    have ba : Below w0.heap.size w0 (v2.alloc (.cells #[.slice A ws.length c, .slice B bs.length d] 27)) := hv.alloc hv.size _
    exact ⟨by simp [go_sem], by simp [go_sem], by simp [go_sem], by simp [go_sem], cell_keep R0 ba, cell_keep R1 ba, frozen_keep ba (by omega) F0, frozen_keep ba (by omega) F1, mem.later ((Below.refl _ _).alloc (Nat.le_refl _) _), emp, aA, aB, below_next hB (by omega) ba, by omega, by simp⟩
  have HP0 := hide P0
  have HPA := hide PA
  have HPN := hide PN
  have H0d := keep12 H0 b0
  have H0a := keep12 H0 b0a
  clear P0 PA PN R0 R1 F0 F1
  go_cut [3] from 5 (fun p wc => ∃ k A c B d bs, p = .pointer (some ⟨k, 0, none⟩) ∧ BdAtO w.heap.size k w wc A B (List.replicate (cntV sz) 0) bs c d ∧ boxes bs = List.replicate (cntV x0) [] ∧ wc.cell? ⟨w.heap.size, 0, none⟩ = some (.int .i64 x0) ∧ wc.cell? ⟨w.heap.size, 1, none⟩ = some (.int .i64 (it : Int)) ∧ wc.cell? ⟨w.heap.size, 2, none⟩ = some (.int .i64 x2) ∧ wc.cell? ⟨w.heap.size, 3, none⟩ = some (.int .i64 x3) ∧ wc.cell? ⟨w.heap.size, 4, none⟩ = some (.int .i64 x4) ∧ wc.cell? ⟨w.heap.size, 5, none⟩ = some (.int .i64 x5) ∧ wc.cell? ⟨w.heap.size, 6, none⟩ = some (.int .i64 x6) ∧ wc.cell? ⟨w.heap.size, 7, none⟩ = some (.int .i64 x7) ∧ wc.cell? ⟨w.heap.size, 8, none⟩ = some (.bool b) ∧ wc.cell? ⟨w.heap.size, 9, none⟩ = some (.int .i64 x9) ∧ wc.cell? ⟨w.heap.size, 10, none⟩ = some (.int .i64 x10) ∧ wc.cell? ⟨w.heap.size, 11, none⟩ = some (.int .i64 x11))
  case first =>
    go_region_held3 (fun w' => w'.cell? ⟨w.heap.size, 0, none⟩ = some (.int .i64 x0) ∧ w'.cell? ⟨w.heap.size, 1, none⟩ = some (.int .i64 (it : Int)) ∧ w'.cell? ⟨w.heap.size, 2, none⟩ = some (.int .i64 x2) ∧ w'.cell? ⟨w.heap.size, 3, none⟩ = some (.int .i64 x3) ∧ w'.cell? ⟨w.heap.size, 4, none⟩ = some (.int .i64 x4) ∧ w'.cell? ⟨w.heap.size, 5, none⟩ = some (.int .i64 x5) ∧ w'.cell? ⟨w.heap.size, 6, none⟩ = some (.int .i64 x6) ∧ w'.cell? ⟨w.heap.size, 7, none⟩ = some (.int .i64 x7) ∧ w'.cell? ⟨w.heap.size, 8, none⟩ = some (.bool b) ∧ w'.cell? ⟨w.heap.size, 9, none⟩ = some (.int .i64 x9) ∧ w'.cell? ⟨w.heap.size, 10, none⟩ = some (.int .i64 x10) ∧ w'.cell? ⟨w.heap.size, 11, none⟩ = some (.int .i64 x11))
      (first | (with_reducible exact H0d) | (with_reducible exact H0a) | (with_reducible exact H1) | (with_reducible exact H1a) | (with_reducible exact H2) | (with_reducible exact H2a) | (with_reducible exact far2 H2 hnk) | (exact keep12 H2 ((Below.refl _ v2).alloc (Nat.le_refl _) _)))
      (first
        | (go_at_call 40; (with_reducible refine (KS.out w0.drew).mono ?_); rintro x v1 ⟨rfl, hv⟩; have H1 := keep12 H0d hv; have hv1 := b0.trans hv; have H1a := keep12 H1 ((Below.refl _ v1).alloc (Nat.le_refl _) (.cells #[.slice none 0 0, .slice none 0 0] 27)); have HPL := hide (HPA.out v1 hv1))
        | (go_at_call 40; (with_reducible refine (KS.out (w0.alloc (.cells #[.slice none 0 0, .slice none 0 0] 27)).drew).mono ?_); rintro x v1 ⟨rfl, hv⟩; have H1 := keep12 H0a hv; have HPE := hide (HP0.out.later hv))
        | (go_at_call 39; (with_reducible refine (KN.out (v1.alloc (.cells #[.slice none 0 0, .slice none 0 0] 27))).mono ?_); rintro x v2 ⟨A, c, B, d, bs, rfl, hbx, mem, fA, fB, hv2⟩; have H2 := keep12 H1a hv2; have hnk : w.heap.size ≠ v1.heap.size := (by have := HPL.out.hk; omega); obtain ⟨u0, m0⟩ := (HPL.out.later hv2).m0; obtain ⟨u1, m1⟩ := (HPL.out.later hv2).m1; have g0 := (HPL.out.later hv2).g0; have g1 := (HPL.out.later hv2).g1; have kz := (HPL.out.later hv2).kz; have HF := hide ((HPL.out.later hv2).setO (c := c) (d := d) mem (emp_of hbx) (below_lt fA (Nat.le_of_lt (Nat.lt_of_le_of_lt HPL.out.hk HPL.out.kz)) HPL.out.kz) (below_lt fB (Nat.le_of_lt (Nat.lt_of_le_of_lt HPL.out.hk HPL.out.kz)) HPL.out.kz)))
        | (go_at_call 39; (with_reducible refine (KN.out v1).mono ?_); rintro x v2 ⟨A, c, B, d, bs, rfl, hbx, mem, fA, fB, hv2⟩; have H2 := keep12 H1 hv2; obtain ⟨u0, m0⟩ := (HPE.out.later hv2).m0; obtain ⟨u1, m1⟩ := (HPE.out.later hv2).m1; have g0 := (HPE.out.later hv2).g0; have g1 := (HPE.out.later hv2).g1; have kz := (HPE.out.later hv2).kz; have HF := hide ((HPE.out.later hv2).setO (c := c) (d := d) mem (emp_of hbx) (below_lt fA (Nat.le_of_lt (Nat.lt_of_le_of_lt HPE.out.hk HPE.out.kz)) HPE.out.kz) (below_lt fB (Nat.le_of_lt (Nat.lt_of_le_of_lt HPE.out.hk HPE.out.kz)) HPE.out.kz)); have hnk : w.heap.size ≠ w0.heap.size := (by omega))
        | (go_at_call 39; (with_reducible refine (KN.out v1).mono ?_); rintro x v2 ⟨A, c, B, d, bs, rfl, hbx, mem, fA, fB, hv2⟩; have H2 := keep12 H1 hv2; have H2a := keep12 H2 ((Below.refl _ v2).alloc (Nat.le_refl _) (.cells #[.slice none 0 0, .slice none 0 0] 27)); have hz1 := HPL.out.hk; have hz2 := hv2.size; have hnk : w.heap.size ≠ v2.heap.size := (by omega); have HL := hide (HPN.out v2 A B c d _ bs (hv1.trans (hv2.mono hv1.size)) mem (emp_of hbx) (bd_late fA HPL.out.hk (mem.words.block_lt (Nat.lt_of_lt_of_eq HN1.out List.length_replicate.symm))) (bd_late fB HPL.out.hk (mem.bxs.block_lt (HN2.out bs hbx))))))
    all_goals go_wp2_with fail
    all_goals go_meet
    all_goals first
      | exact ⟨_, A, c, B, d, bs, rfl, by simpa using HL.out, hbx, keep12 H2 ((Below.refl _ v2).alloc (Nat.le_refl _) _)⟩
      | exact ⟨_, A, c, B, d, bs, rfl, by simpa using HF.out, hbx, far2 H2 hnk⟩
  case rest =>
    obtain ⟨k, A, c, B, d, bs, rfl, hat, hbx, hq⟩ := hcut
    have HAT := hide hat
    have HBX := hide hbx
    have HQ := hide hq
    have hq1 := hq.2.1
    clear hat hbx hq HP0 HPA HPN H0d H0a H0 hB b0 b0a KS KN HN1 HN2 hz
    go_wp2
    go_loopw [16] (fun i wr => ∃ (j : Nat) (ws : List Int) (A : Option Addr) (c : Nat), j ≤ it ∧ i = .int .i64 j ∧ Hid (ws = bdW (List.replicate (cntV sz) 0) it bk x11 j) ∧ BdAtO w.heap.size k w wr A B ws bs c d ∧ wr.cell? ⟨w.heap.size, 0, none⟩ = some (.int .i64 x0) ∧ wr.cell? ⟨w.heap.size, 1, none⟩ = some (.int .i64 (it : Int)) ∧ wr.cell? ⟨w.heap.size, 2, none⟩ = some (.int .i64 x2) ∧ wr.cell? ⟨w.heap.size, 3, none⟩ = some (.int .i64 x3) ∧ wr.cell? ⟨w.heap.size, 4, none⟩ = some (.int .i64 x4) ∧ wr.cell? ⟨w.heap.size, 5, none⟩ = some (.int .i64 x5) ∧ wr.cell? ⟨w.heap.size, 6, none⟩ = some (.int .i64 x6) ∧ wr.cell? ⟨w.heap.size, 7, none⟩ = some (.int .i64 x7) ∧ wr.cell? ⟨w.heap.size, 8, none⟩ = some (.bool b) ∧ wr.cell? ⟨w.heap.size, 9, none⟩ = some (.int .i64 x9) ∧ wr.cell? ⟨w.heap.size, 10, none⟩ = some (.int .i64 x10) ∧ wr.cell? ⟨w.heap.size, 11, none⟩ = some (.int .i64 x11)) (fun i _ => it - (intOf i).toNat)
    case atStart => exact ⟨0, _, A, c, Nat.zero_le _, rfl, hide rfl, HAT.out, HQ.out⟩
    case round =>
      clear HAT HQ hq1
      obtain ⟨j, ws, A, c, hj, rfl, HW, hat, hq⟩ := hrel
      have HAT := hide hat
      have HQ := hide hq
      have m0 := hat.m0
      have m1 := hat.m1
      have hq1 := hq.2.1
      by_cases hlt : j < it
      · obtain ⟨q0, q1, q2, q3, q4, q5, q6, q7, q8, q9, q10, q11⟩ := hq
        have KJ := hide (KL.out (j : Int) (by unfold I64; omega))
        obtain ⟨cv, hcv⟩ : ∃ x, cellV (it : Int) bk (j : Int) = x := ⟨_, rfl⟩
        rw [hcv] at KJ
        have HC := hide hcv
        have hlen : (stV ws cv x11).length = ws.length := stV_length _ _ _
        have HLEN := hide hlen
        have HST : Hid (stV ws cv x11 = bdW (List.replicate (cntV sz) 0) it bk x11 (j + 1)) := hide (by rw [bdW, ← HW.out, hcv])
        have HSTO := hide (fun (v : World) (m : MemRw v A ws B bs) => storeO_any A B c d ws bs cv x11 v m)
        obtain ⟨ns, hns⟩ : ∃ x, stV ws cv x11 = x := ⟨_, rfl⟩
        rw [hns] at HLEN HST HSTO
        obtain ⟨ev, hev⟩ : ∃ x, erV ws.length cv = x := ⟨_, rfl⟩
        rw [hev] at HSTO
        have hkz := hat.kz
        have g0 := hat.g0
        have g1 := hat.g1
        clear hat hcv hlen hns hev KL HW
        go_upto_region 7 with fail
        go_region_with
          (first
            | (go_at_call 42; refine (KJ.out _).mono ?_; rintro x v1 ⟨rfl, hv⟩; have hb1 : Below wr.heap.size wr v1 := ((Below.refl _ wr).drew).trans hv; clear hv; have q11' := cell_keep q11 hb1; have m0' := cell_keep m0 hb1; have m1' := cell_keep m1 hb1)
            | (go_at_call 41; refine (HSTO.out _ (HAT.out.mem.later hb1)).mono ?_; rintro x v2 ⟨A', c', rfl, hs', hor, hb2⟩; have m0'' := cell_keep m0' hb2; have m1'' := cell_keep m1' hb2; have g0'' := frozen_keep hb2 (Nat.lt_of_lt_of_le hkz hb1.size) (frozen_keep hb1 hkz g0); have g1'' := frozen_keep hb2 (Nat.lt_of_lt_of_le hkz hb1.size) (frozen_keep hb1 hkz g1)))
        all_goals
          have HN := hide (HAT.out.step (c' := c') hb1 hb2 hs' hor HLEN.out)
          have HQ' := hide (far2 (ua := .slice A' ns.length c') (ub := .slice B bs.length d) (keep12 (keep12 HQ.out hb1) hb2) (show w.heap.size ≠ k by have := HAT.out.hk; omega))
          clear hs' hor hb2 hb1 m0 m1 m0' m1' q11' KJ HSTO g0 g1 q0 q1 q2 q3 q4 q5 q6 q7 q8 q9 q10 q11 HAT HQ
          go_wp2
          go_roundw
          case rel => exact ⟨j + 1, ns, A', c', by omega, by go_num, HST, HN.out, HQ'.out⟩
          case measure => simp [intOf]; omega
      · obtain rfl : j = it := by omega
        have r0 := hat.r0
        have r1 := hat.r1
        have f0 := hat.f0
        have f1 := hat.f1
        have hk := hat.hk
        have hkz := hat.kz
        clear hat hq KL HQ
        go_wp2
        (try simp only [Exit.inBlock, Exit.then])
        refine bodyPost_ret (v := .agg #[.slice A ws.length c, .slice B bs.length d]) (by simp [results, Try.results22, go_sem, r0, r1]) rfl ?_
        have := HAT.out.fin HBX.out
        rw [HW.out] at this
        simpa only [HW.out] using this

end Go.Proofs.Ytjghdbkkjhnpfaa
