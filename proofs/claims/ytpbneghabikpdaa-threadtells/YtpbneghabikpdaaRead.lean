/- Words for memory: a slice that reads as a list of cells, nil let in; nothing of the program. -/
import Derived.Test.YtpbneghabikpdaaMath
import Derived.Maps.AppendAt
import Derived.Deep.AppendLies
import Derived.Deep.Draws
namespace Go.Proofs.Ytpbneghabikpdaa
open Go.RowKit

/-- The slice of n elements of sz cells each at A holds xs, in a block below B. -/
def Sees (w : World) (B sz : Nat) (A : Option Addr) (n : Nat) (xs : List Value) : Prop :=
  xs.length = n * sz ∧ (0 < n → ∃ b off, A = some ⟨b, off, none⟩ ∧ b < B ∧ ∀ j u, xs[j]? = some u → w.cell? ⟨b, off + j, none⟩ = some u)

theorem addr_add (b off j : Nat) : (⟨b, off, none⟩ : Addr).add j = ⟨b, off + j, none⟩ := by
  unfold Addr.add
  by_cases h : j = 0 <;> simp [h]

section
variable {w w' : World} {B B' sz n : Nat} {A : Option Addr} {xs : List Value}
theorem Sees.empty : Sees w B sz A 0 [] := ⟨by simp, fun h => absurd h (by omega)⟩
theorem Sees.hold (h : Sees w B sz A n xs) (hk : ∀ p : Addr, p.block < B → w'.cell? p = w.cell? p) : Sees w' B sz A n xs :=
  ⟨h.1, fun hn => by
    obtain ⟨b, off, e, hb, hc⟩ := h.2 hn
    exact ⟨b, off, e, hb, fun j u hu => (hk ⟨b, off + j, none⟩ hb).trans (hc j u hu)⟩⟩
theorem Sees.up (h : Sees w B sz A n xs) (hB : B ≤ B') : Sees w B' sz A n xs :=
  ⟨h.1, fun hn => by
    obtain ⟨b, off, e, hb, hc⟩ := h.2 hn
    exact ⟨b, off, e, by omega, hc⟩⟩
theorem Sees.below (h : Sees w B sz A n xs) (hb : Below B w w') : Sees w' B sz A n xs := h.hold fun _ hp => hb.cell hp
theorem Sees.later (h : Sees w w.heap.size sz A n xs) (hb : Below w.heap.size w w') : Sees w' w'.heap.size sz A n xs := (h.below hb).up hb.size
theorem Sees.of_own {base c : Nat} {e : TypeId} (h : w.ownsRow base e sz (.slice A n c) n xs) : Sees w w.heap.size sz A n xs := by
  refine ⟨h.1, fun hn => ?_⟩
  rcases h.2 with ⟨hv, h0⟩ | ⟨g, cap, cur, hv, hb, hg, h1, h2, h3, h4⟩
  · omega
  · have hA : A = some ⟨g, 0, none⟩ := by injection hv
    subst hA
    refine ⟨g, 0, rfl, (Array.getElem?_eq_some_iff.1 hg).1, fun j u hu => ?_⟩
    have := h.cells (g := g) rfl j u hu
    rwa [addr_add] at this
theorem Sees.take (h : Sees w B sz A n xs) {k : Nat} (hk : k ≤ n) : Sees w B sz A k (xs.take (k * sz)) := by
  refine ⟨by rw [List.length_take, h.1]; exact Nat.min_eq_left (Nat.mul_le_mul_right _ hk), fun hn => ?_⟩
  obtain ⟨b, off, e, hb, hc⟩ := h.2 (by omega)
  refine ⟨b, off, e, hb, fun j u hu => hc j u ?_⟩
  rw [List.getElem?_take] at hu
  split at hu
  · exact hu
  · cases hu
end

theorem ecells_take (l : List E3) (k : Nat) : (ecells l).take (k * 3) = ecells (l.take k) := by
  induction l generalizing k with
  | nil => simp [ecells]
  | cons e l ih =>
    cases k with
    | zero => simp [ecells]
    | succ k =>
      have := ih k
      show (_ :: _ :: _ :: ecells l).take ((k + 1) * 3) = _ :: _ :: _ :: ecells (l.take k)
      rw [show (k + 1) * 3 = k * 3 + 1 + 1 + 1 by omega]
      simp [this]

/-- The k-th entry's cells. -/
theorem Sees.entry {w : World} {B : Nat} {A : Option Addr} {l : List E3} (h : Sees w B 3 A l.length (ecells l)) {k : Nat} (hk : k < l.length) :
    ∃ (b off : Nat) (t g v : Int), A = some ⟨b, off, none⟩ ∧ b < B ∧ l[k]? = some (t, g, v) ∧ w.cell? ⟨b, off + k * 3, none⟩ = some (.int .i64 t) ∧
      w.cell? ⟨b, off + k * 3 + 1, none⟩ = some (.int .i64 g) ∧ w.cell? ⟨b, off + k * 3 + 2, none⟩ = some (.int .i64 v) := by
  obtain ⟨b, off, e, hb, hc⟩ := h.2 (by omega)
  obtain ⟨⟨t, g, v⟩, he⟩ : ∃ e, l[k]? = some e := ⟨l[k], List.getElem?_eq_getElem hk⟩
  obtain ⟨h1, h2, h3⟩ := ecells_at he
  exact ⟨b, off, t, g, v, e, hb, he, hc _ _ h1, by have := hc _ _ h2; rwa [← Nat.add_assoc] at this, by have := hc _ _ h3; rwa [← Nat.add_assoc] at this⟩

/-- The k-th number's cell. -/
theorem Sees.num {w : World} {B : Nat} {A : Option Addr} {n : Nat} {l : List Int} (h : Sees w B 1 A n (l.map (Value.int .i64))) {k : Nat} (hk : k < n) :
    ∃ (b off : Nat) (v : Int), A = some ⟨b, off, none⟩ ∧ b < B ∧ l[k]? = some v ∧ w.cell? ⟨b, off + k, none⟩ = some (.int .i64 v) := by
  obtain ⟨b, off, e, hb, hc⟩ := h.2 (by omega)
  have hl : l.length = n := by have := h.1; simpa using this
  obtain ⟨v, he⟩ : ∃ e, l[k]? = some e := ⟨l[k], List.getElem?_eq_getElem (by omega)⟩
  exact ⟨b, off, v, e, hb, he, hc _ _ (by simp [he])⟩

theorem below_drewN {B : Nat} {a w : World} (h : Below B a w) (n : Nat) : Below B a (w.drewN n) := ⟨h.os, h.tape, h.output, h.size, h.block⟩
theorem grown_of_below {a w : World} (h : Below a.heap.size a w) (row : Option Nat) : a.grownBy w row := ⟨h.os, h.tape, h.output, h.size, fun i hi _ => h.block i hi⟩
theorem below_next {B : Nat} {a b c : World} (h : Below B a b) (hB : B ≤ b.heap.size) (k : Below b.heap.size b c) : Below B a c := h.trans (k.mono hB)
end Go.Proofs.Ytpbneghabikpdaa
