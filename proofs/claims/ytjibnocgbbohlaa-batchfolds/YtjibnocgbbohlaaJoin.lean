/- Contracts of batch.Join, batch.Upto, batch.Still, and of the document's own. -/
import Derived.Test.YtjibnocgbbohlaaAll
import Derived.Test.YtjibnocgbbohlaaApp
import Derived.Test.YtjibnocgbbohlaaRef
import Derived.Deep.QuietTactic
import Derived.BigQuiet
import Derived.StillTailTactics
namespace Go.Proofs.Ytjibnocgbbohlaa
open Go.RowKit

/-- A batch as a slice value: its address, its capacity, its entries. -/
structure Bt where
  A : Option Addr
  c : Nat
  l : List E3
def Bt.val (q : Bt) : Value := .slice q.A q.l.length q.c
def Bt.Ok (w : World) (q : Bt) : Prop := Sees w w.heap.size 3 q.A q.l.length (ecells q.l)
def flat (bs : List Bt) : List E3 := bs.flatMap (·.l)
theorem flat_snoc (bs : List Bt) (q : Bt) : flat (bs ++ [q]) = flat bs ++ q.l := by simp [flat]
theorem flat_take_le (bs : List Bt) (j : Nat) : (flat (bs.take j)).length ≤ (flat bs).length := by
  have h : flat bs = flat (bs.take j) ++ flat (bs.drop j) := by
    conv => lhs; rw [← List.take_append_drop j bs]
    exact List.flatMap_append
  rw [h, List.length_append]
  omega

theorem info48 : (Try.prog.info? 48).map (fun i => (i.zero, i.size, i.bytes)) = some (some (.agg #[.int .i64 0, .int .i64 0, .int .i64 0]), 3, 24) := by kernel_rfl
theorem info52 : (Try.prog.info? 52).map (fun i => (i.zero, i.size, i.bytes)) = some (some (.agg #[.int .i64 0, .int .i64 0, .int .i64 0]), 3, 24) := by kernel_rfl

set_option maxRecDepth 100000 in
set_option maxHeartbeats 1000000 in
theorem join_any (A : Option Addr) (cap : Nat) (bs : List Bt) (len : Nat) (hlen : len = bs.length) (hmax : len ≤ 1000) (hf : (flat bs).length ≤ 1000) (w : World)
    (hs : Sees w w.heap.size 1 A len (bs.map Bt.val)) (hq : ∀ q ∈ bs, q.Ok w) :
    Calls Try.prog 20 #[.slice A len cap] w (RowPost 3 (flat bs).length (ecells (flat bs)) w) := by
  obtain ⟨i0, hi0, hz0, hz1, hz2⟩ := info_parts info48
  have HL := hide hlen
  clear hlen
  go_enter Try.func20, Try.ntmps20
  go_wp2
  go_loopw [3, 8] (fun a i wr => ∃ j : Nat, j ≤ len ∧ i = .int .i64 j ∧ wr.ownsRow w.heap.size 48 3 a (flat (bs.take j)).length (ecells (flat (bs.take j))) ∧ Below w.heap.size w wr)
    (fun _ i _ => len - (intOf i).toNat)
  case atStart => exact ⟨0, Nat.zero_le _, rfl, World.ownsRow_nil _ _ _ _, Below.refl _ _⟩
  case round =>
    obtain ⟨j, hj, rfl, hown, hB⟩ := hrel
    by_cases hlt : j < len
    · obtain ⟨b, off, rfl, hb, hc⟩ := hs.2 (by omega)
      obtain ⟨q, hqj⟩ : ∃ q, bs[j]? = some q := ⟨bs[j]'(by have := HL.out; omega), List.getElem?_eq_getElem _⟩
      have hcq := hc j q.val (by simp [hqj])
      have hcr : wr.cell? ⟨b, off + j, none⟩ = some q.val := (hB.cell (p := ⟨b, off + j, none⟩) hb).trans hcq
      have hok : Sees wr w.heap.size 3 q.A q.l.length (ecells q.l) := (hq q (List.mem_of_getElem? hqj)).below hB
      have HT := hide (take_snoc bs j q hqj)
      have hle : (flat (bs.take j)).length + q.l.length ≤ 1000 := by
        have := flat_take_le bs (j + 1)
        rw [HT.out, flat_snoc, List.length_append] at this
        omega
      obtain ⟨qA, qc, ql⟩ := q
      simp only [Bt.val] at hcr hok hle
      clear hc hcq hqj
      go_wp2_with (at_builtin; refine wpList_app _ rfl _ _ 22 rfl w.heap.size 48 i0 _ 3 24 Try.underlying22 hi0 hz0 hz1 hz2 rfl (by omega) _ _ _ rfl hown w.heap.size qA ql.length qc (ecells ql) rfl hok (ecells_one ql) (by unfold maxLen; omega) (by omega) hB.size ?_; intro v1 w1 hown1 hg1)
      go_roundw
      case rel => exact ⟨j + 1, by omega, by go_num, by rw [HT.out, flat_snoc, List.length_append, ecells_append]; exact hown1, hB.grown hg1 hB.size (own_at hown)⟩
      case measure => simp [intOf]; omega
    · obtain rfl : j = len := by omega
      have HT := hide (show bs.take j = bs by rw [HL.out, List.take_length])
      go_wp2
      go_ret
      rw [HT.out] at hown
      obtain ⟨A', c', rfl, hc'⟩ := own_form hown
      exact ⟨A', c', rfl, hc', Sees.of_own hown, hB⟩

/-- How many entries Upto takes. -/
def upN (n : Int) (len : Nat) : Nat := (min n (len : Int)).toNat

set_option maxRecDepth 100000 in
set_option maxHeartbeats 1000000 in
theorem upto_any (A : Option Addr) (cap : Nat) (l : List E3) (len : Nat) (hlen : len = l.length) (hmax : len ≤ 1000) (hcap : len ≤ cap) (n : Int) (w : World) (hs : Sees w w.heap.size 3 A len (ecells l)) :
    Calls Try.prog 22 #[.slice A len cap, .int .i64 n] w (RowPost 3 (upN n len) (ecells (l.take (upN n len))) w) := by
  have HL := hide hlen
  clear hlen
  have key : ∀ (k : Nat), k ≤ len → upN n len = k → ∀ B : Nat, B = w.heap.size →
      Calls Try.prog 20 #[.slice (some ⟨w.heap.size, 0, none⟩) 1 1] (w.alloc (.cells #[.slice A k cap] 22)) (RowPost 3 (upN n len) (ecells (l.take (upN n len))) w) := by
    intro k hk e B _
    have hsk : Sees w w.heap.size 3 A k (ecells (l.take k)) := by have := hs.take hk; rwa [ecells_take] at this
    have hlk : (l.take k).length = k := by rw [List.length_take, ← HL.out]; omega
    have hB1 : Below w.heap.size w (w.alloc (.cells #[.slice A k cap] 22)) := (Below.refl _ w).alloc (Nat.le_refl _) _
    have hj := join_any (some ⟨w.heap.size, 0, none⟩) 1 [⟨A, cap, l.take k⟩] 1 rfl (by omega) (by simp [flat]; omega) (w.alloc (.cells #[.slice A k cap] 22))
      (by have := sees_new w [.slice A k cap] 22 1 1 rfl; simpa [Bt.val, hlk] using this) (by intro q hq; simp at hq; subst hq; simp only [Bt.Ok, hlk]; exact hsk.later hB1)
    rw [e]
    simp only [flat, List.flatMap_cons, List.flatMap_nil, List.append_nil, hlk] at hj
    refine hj.mono ?_
    rintro e w' ⟨A', c', rfl, hc', h2, h3⟩
    exact ⟨A', c', rfl, hc', h2, below_next hB1 (by simp) h3⟩
  rcases Nat.eq_zero_or_pos len with hz | hz
  · subst hz
    have key0 := hide (key 0 (by omega) (by unfold upN; omega) _ rfl)
    clear key
    rcases Int.lt_trichotomy n 0 with h1 | h1 | h1
    all_goals
      try subst h1
      go_enter Try.func22, Try.ntmps22
      go_wp2_with (go_at_call 20; refine (key0.out).mono ?_; rintro e w' ⟨A', c', rfl, hc', h2, h3⟩)
      go_ret
      exact ⟨A', c', rfl, hc', h2, h3⟩
  rcases Int.lt_trichotomy n 0 with h0 | h0 | h0
  · have key0 := hide (key 0 (by omega) (by unfold upN; omega) _ rfl)
    clear key
    go_enter Try.func22, Try.ntmps22
    go_wp2_with (go_at_call 20; refine (key0.out).mono ?_; rintro e w' ⟨A', c', rfl, hc', h2, h3⟩)
    go_ret
    exact ⟨A', c', rfl, hc', h2, h3⟩
  · subst h0
    have key0 := hide (key 0 (by omega) (by unfold upN; omega) _ rfl)
    clear key
    go_enter Try.func22, Try.ntmps22
    go_wp2_with (go_at_call 20; refine (key0.out).mono ?_; rintro e w' ⟨A', c', rfl, hc', h2, h3⟩)
    go_ret
    exact ⟨A', c', rfl, hc', h2, h3⟩
  rcases Int.lt_trichotomy n (len : Int) with h1 | h1 | h1
  · obtain ⟨k, rfl⟩ : ∃ k : Nat, n = (k : Int) := ⟨n.toNat, by omega⟩
    have hk0 : 0 < k := by omega
    have key0 := hide (key k (by omega) (by unfold upN; omega) _ rfl)
    clear key
    go_enter Try.func22, Try.ntmps22
    go_wp2_with (go_at_call 20; refine (key0.out).mono ?_; rintro e w' ⟨A', c', rfl, hc', h2, h3⟩)
    go_ret
    exact ⟨A', c', rfl, hc', h2, h3⟩
  · subst h1
    have key0 := hide (key len (by omega) (by unfold upN; omega) _ rfl)
    clear key
    go_enter Try.func22, Try.ntmps22
    go_wp2_with (go_at_call 20; refine (key0.out).mono ?_; rintro e w' ⟨A', c', rfl, hc', h2, h3⟩)
    go_ret
    exact ⟨A', c', rfl, hc', h2, h3⟩
  · have key0 := hide (key len (by omega) (by unfold upN; omega) _ rfl)
    clear key
    go_enter Try.func22, Try.ntmps22
    go_wp2_with (go_at_call 20; refine (key0.out).mono ?_; rintro e w' ⟨A', c', rfl, hc', h2, h3⟩)
    go_ret
    exact ⟨A', c', rfl, hc', h2, h3⟩

set_option maxHeartbeats 1000000 in
theorem still_any (A : Option Addr) (cap : Nat) (l : List E3) (len : Nat) (hlen : len = l.length) (hmax : len ≤ 1000) (x lo hi : Int) (hx : I64 x) (hl : I64 lo) (hh : I64 hi) (hg : Good l) (w : World)
    (hs : Sees w w.heap.size 3 A len (ecells l)) :
    Calls Try.prog 17 #[.slice A len cap, .int .i64 x, .int .i64 lo, .int .i64 hi] w (BoolPost (allV l x lo hi == x) w) := by
  have HL := hide hlen
  clear hlen
  go_enter Try.func17, Try.ntmps17
  go_wp2_with (go_at_call 12; refine (all_any A cap l len HL.out hmax x lo hi hx hl hh hg _ hs).mono ?_; rintro e w' ⟨rfl, hB⟩)
  go_ret
  exact ⟨rfl, hB⟩
end Go.Proofs.Ytjibnocgbbohlaa
