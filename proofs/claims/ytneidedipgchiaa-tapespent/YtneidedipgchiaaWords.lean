/- Contracts of wmem's steps on words, and of the document's own. -/
import Derived.Test.YtneidedipgchiaaMem
namespace Go.Proofs.Ytneidedipgchiaa
open Go.RowKit

set_option maxRecDepth 100000 in
set_option maxHeartbeats 1000000 in
theorem cloneI_any (b off c : Nat) (ws : List Int) (hf : ws.length ≤ 20000) (w : World) (hs : Sees w w.heap.size 1 (some ⟨b, off, none⟩) ws.length (ws.map (Value.int .i64))) :
    Calls Try.prog 23 #[.slice (some ⟨b, off, none⟩) ws.length c] w (fun x w' => ∃ A cap, x = .returned (.slice A ws.length cap) ∧ w'.ownsRow w.heap.size 3 1 (.slice A ws.length cap) ws.length (ws.map (Value.int .i64)) ∧ Below w.heap.size w w') := by
  obtain ⟨i0, hi0, hz0, hz1, hz2⟩ := info_parts info3
  have hb : Below w.heap.size w (w.alloc (.cells #[] 3)) := (Below.refl _ w).alloc (Nat.le_refl _) _
  have s1 := hs.later hb
  have he : ∀ u : World, (binOp .eql 22 (.slice (some ⟨b, off, none⟩) ws.length c) (.slice none 0 0)).run Try.prog u = .ok (.bool false) u := fun _ => rfl
  go_enter Try.func23, Try.ntmps23
  go_wp2_with (at_builtin; refine wpList_app _ rfl _ _ 22 rfl w.heap.size 3 i0 _ 1 8 Try.underlying22 hi0 hz0 hz1 hz2 rfl (by omega) _ 0 _ rfl (own_empty w _ _ _ (Nat.le_refl _)) _ _ ws.length c _ rfl s1 (by simp [Value.oneCell']) (by unfold maxLen; omega) (by omega) (by simp) ?_; intro v1 w1 hown1 hg1)
  go_ret
  rw [Nat.zero_add] at hown1
  obtain ⟨A', c', rfl, hc'⟩ := own_form hown1
  exact ⟨A', c', rfl, hown1, hb.grown hg1 (by simp) (own_at (own_empty w w.heap.size 3 1 (Nat.le_refl _)))⟩

/-- The place k of an own row: written, and what it is then. -/
theorem own_set {w w' : World} {A : Option Addr} {c n k : Nat} {e : TypeId} {xs : List Value} (v : Value) (h : w'.ownsRow w.heap.size e 1 (.slice A n c) n xs) (hk : k < n) :
    ∃ g u, A = some ⟨g, 0, none⟩ ∧ w.heap.size ≤ g ∧ w'.cell? ⟨g, k, none⟩ = some u ∧ w'.frozen? ⟨g, k, none⟩ = false ∧
      Sees (w'.setCell ⟨g, k, none⟩ v) w'.heap.size 1 A n (xs.set k v) := by
  have hs := Sees.of_own h
  have hf := fresh_own h
  rcases h.2 with ⟨hv, h0⟩ | ⟨g, cap, cur, hv, hb, hg, h1, h2, h3, h4⟩
  · omega
  · have hA : A = some ⟨g, 0, none⟩ := by injection hv
    subst hA
    have hl := h.1
    refine ⟨g, xs[k]'(by omega), rfl, hb, ?_, h.frozenAt k, ?_⟩
    · rw [h.cellAt k (by omega)]; exact List.getElem?_eq_getElem _
    · have := hs.set v hk
      rwa [Nat.zero_add] at this

end Go.Proofs.Ytneidedipgchiaa
