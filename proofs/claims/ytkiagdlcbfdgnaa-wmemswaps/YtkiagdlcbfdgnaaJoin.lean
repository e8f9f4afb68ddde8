/- Contracts of batch.Join, batch.Upto, batch.Still, and of the document's own. -/
import Derived.Test.YtkiagdlcbfdgnaaAll
import Derived.Test.YtkiagdlcbfdgnaaApp
import Derived.Test.YtkiagdlcbfdgnaaRef
import Derived.Deep.QuietTactic
import Derived.BigQuiet
import Derived.StillTailTactics
namespace Go.Proofs.Ytkiagdlcbfdgnaa
open Go.RowKit

/-- A batch as a slice value: its address, its capacity, its entries. -/
structure Bt where
  A : Option Addr
  c : Nat
  l : List E3
def Bt.val (q : Bt) : Value := .slice q.A q.l.length q.c
def Bt.Ok (w : World) (q : Bt) : Prop := Sees w w.heap.size 3 q.A q.l.length (ecells q.l)
def flat (bs : List Bt) : List E3 := bs.flatMap (·.l)
theorem flat_snoc (bs : List Bt) (q : Bt) : flat (bs ++ [q]) = flat bs ++ q.l := by simp [flat]
theorem flat_take_le (bs : List Bt) (j : Nat) : (flat (bs.take j)).length ≤ (flat bs).length := by
  have h : flat bs = flat (bs.take j) ++ flat (bs.drop j) := by
    conv => lhs; rw [← List.take_append_drop j bs]
    exact List.flatMap_append
  rw [h, List.length_append]
  omega

theorem info48 : (Try.prog.info? 68).map (fun i => (i.zero, i.size, i.bytes)) = some (some (.agg #[.int .i64 0, .int .i64 0, .int .i64 0]), 3, 24) := by kernel_rfl
theorem info52 : (Try.prog.info? 83).map (fun i => (i.zero, i.size, i.bytes)) = some (some (.agg #[.int .i64 0, .int .i64 0, .int .i64 0]), 3, 24) := by kernel_rfl

/-- It lies in a block that was not there in w. -/
def Fresh (w : World) (A : Option Addr) : Prop := ∀ p, A = some p → w.heap.size ≤ p.block
theorem Fresh.before {w w' : World} {A : Option Addr} (h : Fresh w' A) (hs : w.heap.size ≤ w'.heap.size) : Fresh w A := fun p hp => Nat.le_trans hs (h p hp)
theorem fresh_own {w w' : World} {e : TypeId} {sz n m c : Nat} {A : Option Addr} {xs : List Value} (h : w'.ownsRow w.heap.size e sz (.slice A m c) n xs) : Fresh w A := by
  rintro ⟨b, o, s⟩ rfl
  rcases h.2 with ⟨hv, _⟩ | ⟨g, cap, cur, hv, hb, _⟩
  · cases hv
  · injection hv with h1; injection h1 with h2; injection h2 with h3; rw [h3]; exact hb
/-- A new slice in a block of its own. -/
def FRowPost (sz n : Nat) (xs : List Value) (w : World) (e : Ending) (w' : World) : Prop := ∃ A c, e = .returned (.slice A n c) ∧ n ≤ c ∧ Sees w' w'.heap.size sz A n xs ∧ Fresh w A ∧ Below w.heap.size w w'
theorem FRowPost.row {sz n : Nat} {xs : List Value} {w : World} {e : Ending} {w' : World} (h : FRowPost sz n xs w e w') : RowPost sz n xs w e w' := by
  obtain ⟨A, c, h1, h2, h3, _, h4⟩ := h
  exact ⟨A, c, h1, h2, h3, h4⟩

set_option maxRecDepth 100000 in
set_option maxHeartbeats 1000000 in
theorem joinF_any (A : Option Addr) (cap : Nat) (bs : List Bt) (len : Nat) (hlen : len = bs.length) (hmax : len ≤ 100000) (hf : (flat bs).length ≤ 100000) (w : World)
    (hs : Sees w w.heap.size 1 A len (bs.map Bt.val)) (hq : ∀ q ∈ bs, q.Ok w) :
    Calls Try.prog 35 #[.slice A len cap] w (FRowPost 3 (flat bs).length (ecells (flat bs)) w) := by
  obtain ⟨i0, hi0, hz0, hz1, hz2⟩ := info_parts info48
  have HL := hide hlen
  clear hlen
  go_enter Try.func35, Try.ntmps35
  go_wp2
  go_loopw [3, 8] (fun a i wr => ∃ j : Nat, j ≤ len ∧ i = .int .i64 j ∧ wr.ownsRow w.heap.size 68 3 a (flat (bs.take j)).length (ecells (flat (bs.take j))) ∧ Below w.heap.size w wr)
    (fun _ i _ => len - (intOf i).toNat)
  case atStart => exact ⟨0, Nat.zero_le _, rfl, World.ownsRow_nil _ _ _ _, Below.refl _ _⟩
  case round =>
    obtain ⟨j, hj, rfl, hown, hB⟩ := hrel
    by_cases hlt : j < len
    · obtain ⟨b, off, rfl, hb, hc⟩ := hs.2 (by omega)
      obtain ⟨q, hqj⟩ : ∃ q, bs[j]? = some q := ⟨bs[j]'(by have := HL.out; omega), List.getElem?_eq_getElem _⟩
      have hcq := hc j q.val (by simp [hqj])
      have hcr : wr.cell? ⟨b, off + j, none⟩ = some q.val := (hB.cell (p := ⟨b, off + j, none⟩) hb).trans hcq
      have hok : Sees wr w.heap.size 3 q.A q.l.length (ecells q.l) := (hq q (List.mem_of_getElem? hqj)).below hB
      have HT := hide (take_snoc bs j q hqj)
      have hle : (flat (bs.take j)).length + q.l.length ≤ 100000 := by
        have := flat_take_le bs (j + 1)
        rw [HT.out, flat_snoc, List.length_append] at this
        omega
      obtain ⟨qA, qc, ql⟩ := q
      simp only [Bt.val] at hcr hok hle
      clear hc hcq hqj
      go_wp2_with (at_builtin; refine wpList_app _ rfl _ _ 50 rfl w.heap.size 68 i0 _ 3 24 Try.underlying50 hi0 hz0 hz1 hz2 rfl (by omega) _ _ _ rfl hown w.heap.size qA ql.length qc (ecells ql) rfl hok (ecells_one ql) (by unfold maxLen; omega) (by omega) hB.size ?_; intro v1 w1 hown1 hg1)
      go_roundw
      case rel => exact ⟨j + 1, by omega, by go_num, by rw [HT.out, flat_snoc, List.length_append, ecells_append]; exact hown1, hB.grown hg1 hB.size (own_at hown)⟩
      case measure => simp [intOf]; omega
    · obtain rfl : j = len := by omega
      have HT := hide (show bs.take j = bs by rw [HL.out, List.take_length])
      go_wp2
      go_ret
      rw [HT.out] at hown
      obtain ⟨A', c', rfl, hc'⟩ := own_form hown
      exact ⟨A', c', rfl, hc', Sees.of_own hown, fresh_own hown, hB⟩

theorem join_any (A : Option Addr) (cap : Nat) (bs : List Bt) (len : Nat) (hlen : len = bs.length) (hmax : len ≤ 100000) (hf : (flat bs).length ≤ 100000) (w : World)
    (hs : Sees w w.heap.size 1 A len (bs.map Bt.val)) (hq : ∀ q ∈ bs, q.Ok w) :
    Calls Try.prog 35 #[.slice A len cap] w (RowPost 3 (flat bs).length (ecells (flat bs)) w) := (joinF_any A cap bs len hlen hmax hf w hs hq).mono fun _ _ h => h.row

/-- How many entries Upto takes. -/
def upN (n : Int) (len : Nat) : Nat := (min n (len : Int)).toNat

end Go.Proofs.Ytkiagdlcbfdgnaa
