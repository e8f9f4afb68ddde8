/- Contracts of batch.Join, batch.Upto, batch.Still, and of the document's own. -/
import Derived.Test.YtpbneghabikpdaaAll
import Derived.Test.YtpbneghabikpdaaApp
import Derived.Test.YtpbneghabikpdaaRef
import Derived.Deep.QuietTactic
import Derived.BigQuiet
import Derived.StillTailTactics
namespace Go.Proofs.Ytpbneghabikpdaa
open Go.RowKit

/-- A batch as a slice value: its address, its capacity, its entries. -/
structure Bt where
  A : Option Addr
  c : Nat
  l : List E3
def Bt.val (q : Bt) : Value := .slice q.A q.l.length q.c
def Bt.Ok (w : World) (q : Bt) : Prop := Sees w w.heap.size 3 q.A q.l.length (ecells q.l)
def flat (bs : List Bt) : List E3 := bs.flatMap (·.l)
theorem flat_snoc (bs : List Bt) (q : Bt) : flat (bs ++ [q]) = flat bs ++ q.l := by simp [flat]
theorem flat_take_le (bs : List Bt) (j : Nat) : (flat (bs.take j)).length ≤ (flat bs).length := by
  have h : flat bs = flat (bs.take j) ++ flat (bs.drop j) := by
    conv => lhs; rw [← List.take_append_drop j bs]
    exact List.flatMap_append
  rw [h, List.length_append]
  omega

theorem info48 : (Try.prog.info? 77).map (fun i => (i.zero, i.size, i.bytes)) = some (some (.agg #[.int .i64 0, .int .i64 0, .int .i64 0]), 3, 24) := by kernel_rfl
theorem info52 : (Try.prog.info? 86).map (fun i => (i.zero, i.size, i.bytes)) = some (some (.agg #[.int .i64 0, .int .i64 0, .int .i64 0]), 3, 24) := by kernel_rfl

/-- It lies in a block that was not there in w. -/
def Fresh (w : World) (A : Option Addr) : Prop := ∀ p, A = some p → w.heap.size ≤ p.block
theorem Fresh.before {w w' : World} {A : Option Addr} (h : Fresh w' A) (hs : w.heap.size ≤ w'.heap.size) : Fresh w A := fun p hp => Nat.le_trans hs (h p hp)
theorem fresh_own {w w' : World} {e : TypeId} {sz n m c : Nat} {A : Option Addr} {xs : List Value} (h : w'.ownsRow w.heap.size e sz (.slice A m c) n xs) : Fresh w A := by
  rintro ⟨b, o, s⟩ rfl
  rcases h.2 with ⟨hv, _⟩ | ⟨g, cap, cur, hv, hb, _⟩
  · cases hv
  · injection hv with h1; injection h1 with h2; injection h2 with h3; rw [h3]; exact hb
/-- A new slice in a block of its own. -/
def FRowPost (sz n : Nat) (xs : List Value) (w : World) (e : Ending) (w' : World) : Prop := ∃ A c, e = .returned (.slice A n c) ∧ n ≤ c ∧ Sees w' w'.heap.size sz A n xs ∧ Fresh w A ∧ Below w.heap.size w w'
theorem FRowPost.row {sz n : Nat} {xs : List Value} {w : World} {e : Ending} {w' : World} (h : FRowPost sz n xs w e w') : RowPost sz n xs w e w' := by
  obtain ⟨A, c, h1, h2, h3, _, h4⟩ := h
  exact ⟨A, c, h1, h2, h3, h4⟩

/-- How many entries Upto takes. -/
def upN (n : Int) (len : Nat) : Nat := (min n (len : Int)).toNat

end Go.Proofs.Ytpbneghabikpdaa
