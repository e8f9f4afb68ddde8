/- Contracts of wmem's steps on words, and of the document's own. -/
import Derived.Test.YtlmnanlclialhaaMem
namespace Go.Proofs.Ytlmnanlclialhaa
open Go.RowKit

set_option maxRecDepth 100000 in
set_option maxHeartbeats 1000000 in
theorem readI_any (A : Option Addr) (c : Nat) (ws : List Int) (i : Int) (w : World) (hs : Sees w w.heap.size 1 A ws.length (ws.map (Value.int .i64))) :
    Calls Try.prog 53 #[.slice A ws.length c, .int .i64 i] w (fun x w' => x = .returned (.tuple #[.int .i64 (ldV ws i), .int .i64 (erV ws.length i)]) ∧ w' = w) := by
  rcases inR_cases ws.length i with ⟨k, hk, rfl⟩ | hno
  · obtain ⟨b, off, v, rfl, hb, hv, hc⟩ := hs.num hk
    rw [ldV_at hv, erV_at hk]
    clear hv hs
    go_enter Try.func53, Try.ntmps53
    go_wp2
    go_ret2
    exact ⟨rfl, rfl⟩
  · rw [ldV_no hno, erV_no hno]
    clear hs
    rcases hno with h | h
    · go_enter Try.func53, Try.ntmps53
      go_wp2
      go_ret2
      exact ⟨rfl, rfl⟩
    · by_cases h0 : i < 0
      · go_enter Try.func53, Try.ntmps53
        go_wp2
        go_ret2
        exact ⟨rfl, rfl⟩
      · have h1 : (0 : Int) ≤ i := by omega
        go_enter Try.func53, Try.ntmps53
        go_wp2
        go_ret2
        exact ⟨rfl, rfl⟩

theorem stepS_any (p : Nat) (was v : Int) (w : World) (h : w.cell? ⟨p, 0, none⟩ = some (.int .i64 v)) :
    Calls Try.prog 52 #[.int .i64 was, .pointer (some ⟨p, 0, none⟩)] w (fun x w' => x = .returned (.int .i64 v) ∧ w' = w) := by
  go_enter Try.func52, Try.ntmps52
  go_wp2
  go_ret
  exact ⟨rfl, rfl⟩
set_option maxRecDepth 100000 in
set_option maxHeartbeats 1000000 in
theorem cloneI_any (b off c : Nat) (ws : List Int) (hf : ws.length ≤ 20000) (w : World) (hs : Sees w w.heap.size 1 (some ⟨b, off, none⟩) ws.length (ws.map (Value.int .i64))) :
    Calls Try.prog 54 #[.slice (some ⟨b, off, none⟩) ws.length c] w (fun x w' => ∃ A cap, x = .returned (.slice A ws.length cap) ∧ w'.ownsRow w.heap.size 3 1 (.slice A ws.length cap) ws.length (ws.map (Value.int .i64)) ∧ Below w.heap.size w w') := by
  obtain ⟨i0, hi0, hz0, hz1, hz2⟩ := info_parts info3
  have hb : Below w.heap.size w (w.alloc (.cells #[] 3)) := (Below.refl _ w).alloc (Nat.le_refl _) _
  have s1 := hs.later hb
  have he : ∀ u : World, (binOp .eql 36 (.slice (some ⟨b, off, none⟩) ws.length c) (.slice none 0 0)).run Try.prog u = .ok (.bool false) u := fun _ => rfl
  go_enter Try.func54, Try.ntmps54
  go_wp2_with (at_builtin; refine wpList_app _ rfl _ _ 36 rfl w.heap.size 3 i0 _ 1 8 Try.underlying36 hi0 hz0 hz1 hz2 rfl (by omega) _ 0 _ rfl (own_empty w _ _ _ (Nat.le_refl _)) _ _ ws.length c _ rfl s1 (by simp [Value.oneCell']) (by unfold maxLen; omega) (by omega) (by simp) ?_; intro v1 w1 hown1 hg1)
  go_ret
  rw [Nat.zero_add] at hown1
  obtain ⟨A', c', rfl, hc'⟩ := own_form hown1
  exact ⟨A', c', rfl, hown1, hb.grown hg1 (by simp) (own_at (own_empty w w.heap.size 3 1 (Nat.le_refl _)))⟩

/-- The place k of an own row: written, and what it is then. -/
theorem own_set {w w' : World} {A : Option Addr} {c n k : Nat} {e : TypeId} {xs : List Value} (v : Value) (h : w'.ownsRow w.heap.size e 1 (.slice A n c) n xs) (hk : k < n) :
    ∃ g u, A = some ⟨g, 0, none⟩ ∧ w.heap.size ≤ g ∧ w'.cell? ⟨g, k, none⟩ = some u ∧ w'.frozen? ⟨g, k, none⟩ = false ∧
      Sees (w'.setCell ⟨g, k, none⟩ v) w'.heap.size 1 A n (xs.set k v) := by
  have hs := Sees.of_own h
  have hf := fresh_own h
  rcases h.2 with ⟨hv, h0⟩ | ⟨g, cap, cur, hv, hb, hg, h1, h2, h3, h4⟩
  · omega
  · have hA : A = some ⟨g, 0, none⟩ := by injection hv
    subst hA
    have hl := h.1
    refine ⟨g, xs[k]'(by omega), rfl, hb, ?_, h.frozenAt k, ?_⟩
    · rw [h.cellAt k (by omega)]; exact List.getElem?_eq_getElem _
    · have := hs.set v hk
      rwa [Nat.zero_add] at this

set_option maxRecDepth 100000 in
set_option maxHeartbeats 1000000 in
theorem writeS_any (A : Option Addr) (c p : Nat) (ws : List Int) (i v : Int) (w : World) (hf : ws.length ≤ 20000) (hs : Sees w w.heap.size 1 A ws.length (ws.map (Value.int .i64))) (hp : w.cell? ⟨p, 0, none⟩ = some (.int .i64 v)) :
    Calls Try.prog 51 #[.slice A ws.length c, .int .i64 i, .func (.func 52) #[] #[.pointer (some ⟨p, 0, none⟩)]] w (WIEPost A (stV ws i v) (ldV ws i) (erV ws.length i) w) := by
  have K := hide (readI_any A c ws i w hs)
  rcases inR_cases ws.length i with ⟨k, hk, rfl⟩ | hno
  · obtain ⟨b, off, rfl, hb, _⟩ := hs.2 (by omega)
    obtain ⟨lv, hl⟩ : ∃ x, ldV ws (k : Int) = x := ⟨_, rfl⟩
    rw [hl, erV_at hk] at K ⊢
    have hlen : (stV ws (k : Int) v).length = ws.length := stV_length _ _ _
    have HL := hide hlen
    have HV := hide (stV_at v hk)
    clear hl hlen
    go_enter Try.func51, Try.ntmps51
    go_wp2_with fail
    refine K.out.mono ?_
    rintro x w1 ⟨rfl, rfl⟩
    go_wp2_with fail
    refine (cloneI_any b off c ws hf w1 hs).mono ?_
    rintro x w2 ⟨A2, c2, rfl, hown, hb2⟩
    have hp2 := cell_keep hp hb2
    obtain ⟨g, u, rfl, hg, hgu, hgf, hset⟩ := own_set (.int .i64 v) hown hk
    have hk0 : (0 : Int) ≤ (k : Int) := Int.natCast_nonneg _
    have hk1 : (k : Int) < (ws.length : Int) := by omega
    go_wp2_with fail
    refine (stepS_any p lv v w2 hp2).mono ?_
    rintro x w3 ⟨rfl, rfl⟩
    go_wp2
    go_ret3
    rw [WIEPost, HL.out, HV.out, List.map_set]
    exact ⟨some ⟨g, 0, none⟩, c2, rfl, hset.up (by simp), .inr (fun q hq => by cases hq; exact hg), hb2.setCell hg _⟩
  · rw [stV_no v hno]
    rw [ldV_no hno, erV_no hno] at K ⊢
    clear hno
    go_enter Try.func51, Try.ntmps51
    go_wp2_with fail
    refine K.out.mono ?_
    rintro x w1 ⟨rfl, rfl⟩
    go_wp2
    go_ret3
    exact ⟨A, c, rfl, hs, .inl rfl, Below.refl _ _⟩
end Go.Proofs.Ytlmnanlclialhaa
