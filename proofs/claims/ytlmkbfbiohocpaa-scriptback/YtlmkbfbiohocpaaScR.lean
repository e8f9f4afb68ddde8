/- The reader of layer 9, and its take. -/
import Derived.Test.YtlmkbfbiohocpaaScW
import Derived.Deep.QuietTactic
import Derived.BigQuiet
namespace Go.Proofs.Ytlmkbfbiohocpaa
open Go.RowKit

theorem or_low (a b : Int) (h0 : 0 ≤ b) (h1 : b < 256) : bits .or .i64 (IntKind.i64.wrap (a * 256)) b = wrap64 (256 * a + b) := by
  rw [bits_or_def, ofInt_wrap, BitVec.toNat_or]
  have e1 : (BitVec.ofInt 64 (a * 256)).toNat = 2 ^ 8 * ((BitVec.ofInt 64 (a * 256)).toNat / 256) := by
    rw [BitVec.toNat_ofInt]
    simp only [Nat.reducePow]
    omega
  have e2 : (BitVec.ofInt 64 b).toNat = b.toNat := by
    rw [BitVec.toNat_ofInt]
    simp only [Nat.reducePow]
    omega
  rw [e2, e1, ← Nat.two_pow_add_eq_or_of_lt (by simp only [Nat.reducePow]; omega), ← e1, BitVec.toNat_ofInt, IntKind.wrap_i64]
  simp only [Nat.reducePow]
  unfold wrap64
  omega

theorem or_low' (a b : Int) (h0 : 0 ≤ b) (h1 : b < 256) : bits .or .i64 (wrap64 (a * 256)) b = wrap64 (256 * a + b) := by
  rw [← or_low a b h0 h1, show wrap64 (a * 256) = IntKind.i64.wrap (a * 256) by rw [IntKind.wrap_i64]; unfold wrap64; omega]

/-- The reader at g of the text s: read up to p; whether more was asked for than there is. -/
structure RAt (g : Nat) (s : ByteArray) (av : Nat → Prop) (p : Nat) (lk : Bool) (w : World) : Prop where
  lt : ∀ k, av k → k < w.heap.size
  ng : ¬ av g
  here : w.heap[g]? = some (.cells #[.string s, .int .i64 p, .bool lk] 70 (0, 0))
theorem RAt.keep {g : Nat} {s : ByteArray} {av : Nat → Prop} {p : Nat} {lk : Bool} {w w' : World} (h : RAt g s av p lk w) (hb : Below w.heap.size w w') : RAt g s av p lk w' :=
  ⟨fun k hk => Nat.lt_of_lt_of_le (h.lt k hk) hb.size, h.ng, (hb.block g (heap_lt h.here)).trans h.here⟩
theorem RAt.go {g : Nat} {s : ByteArray} {av : Nat → Prop} {p : Nat} {lk : Bool} {w : World} (h : RAt g s av p lk w) (q : Nat) (z : Int) (hz : z = (q : Int)) :
    RAt g s av q lk (w.setCell ⟨g, 1, none⟩ (.int .i64 z)) ∧ Kept av w (w.setCell ⟨g, 1, none⟩ (.int .i64 z)) := by
  subst hz
  exact ⟨⟨fun k hk => by simpa using h.lt k hk, h.ng, by simpa using heap_set h.here (.int .i64 q) (i := 1)⟩, (Kept.refl _ _).setCell h.ng _⟩
theorem RAt.lack {g : Nat} {s : ByteArray} {av : Nat → Prop} {p : Nat} {lk : Bool} {w : World} (h : RAt g s av p lk w) :
    RAt g s av p true (w.setCell ⟨g, 2, none⟩ (.bool true)) ∧ Kept av w (w.setCell ⟨g, 2, none⟩ (.bool true)) :=
  ⟨⟨fun k hk => by simpa using h.lt k hk, h.ng, by simpa using heap_set h.here (.bool true) (i := 2)⟩, (Kept.refl _ _).setCell h.ng _⟩
theorem RAt.drewN {g : Nat} {s : ByteArray} {av : Nat → Prop} {p : Nat} {lk : Bool} {w : World} (h : RAt g s av p lk w) (n : Nat) : RAt g s av p lk (w.drewN n) := ⟨h.lt, h.ng, h.here⟩
theorem Kept.drewN {av : Nat → Prop} {a w : World} (h : Kept av a w) (n : Nat) : Kept av a (w.drewN n) := ⟨h.os, h.tape, h.output, h.size, h.block⟩

/-- What take tells, how far it reads, and whether bytes lack. -/
def tkB (bs : List Int) (p size : Nat) : Bool := decide (bs.length < p + size)
def tkA (bs : List Int) (p size : Nat) : Int := if tkB bs p size = true then 0 else numV ((bs.drop p).take size)
def tkP (bs : List Int) (p size : Nat) : Nat := if tkB bs p size = true then p else p + size
def TakePost (g : Nat) (s : ByteArray) (av : Nat → Prop) (a : Int) (p : Nat) (lk : Bool) (w : World) (x : Ending) (w' : World) : Prop := x = .returned (.int .i64 a) ∧ RAt g s av p lk w' ∧ Kept av w w'

set_option maxRecDepth 100000 in
set_option maxHeartbeats 4000000 in
theorem take9_any (g : Nat) (s : ByteArray) (av : Nat → Prop) (p : Nat) (lk : Bool) (n sz : Int) (size : Nat) (hsz : sz = (size : Int)) (h8 : size ≤ 8) (hs : s.size ≤ 1000000) (hp : p ≤ s.size) (w : World) (h : RAt g s av p lk w) :
    Calls Try.prog 28 #[.pointer (some ⟨g, 0, none⟩), .int .i64 n, .int .i64 sz] w (TakePost g s av (tkA (nums s) p size) (tkP (nums s) p size) (lk || tkB (nums s) p size) w) := by
  subst hsz
  have HR := hide h
  have c0 : w.cell? ⟨g, 0, none⟩ = some (.string s) := by rw [heap_cell h.here]; rfl
  have c1 : w.cell? ⟨g, 1, none⟩ = some (.int .i64 p) := by rw [heap_cell h.here]; rfl
  by_cases hl : s.size < p + size
  · have HB := hide (show tkB (nums s) p size = true by unfold tkB; rw [nums_length]; exact decide_eq_true hl)
    have c2 : w.cell? ⟨g, 2, none⟩ = some (.bool lk) := by rw [heap_cell h.here]; rfl
    have f2 : w.frozen? ⟨g, 2, none⟩ = false := heap_frozen h.here 2
    have hd : decide ((s.size : Int) - (p : Int) < (size : Int)) = true := decide_eq_true (by omega)
    clear h hl
    go_enter Try.func28, Try.ntmps28
    go_wp2_with fail
    go_quiet (fail)
    go_wp2
    go_ret
    exact ⟨ret_i (by unfold tkA; rw [if_pos HB.out]), by rw [HB.out, Bool.or_true]; unfold tkP; rw [if_pos HB.out]; exact ((HR.out.drewN _).lack).1, ((Kept.refl _ _).drewN _).trans ((HR.out.drewN _).lack).2⟩
  · have HB := hide (show tkB (nums s) p size = false by unfold tkB; rw [nums_length]; exact decide_eq_false hl)
    have hd : decide ((s.size : Int) - (p : Int) < (size : Int)) = false := decide_eq_false (by omega)
    clear h
    go_enter Try.func28, Try.ntmps28
    go_wp2_with fail
    go_quiet (fail)
    go_wp2
    go_loopw [7, 24] (fun q i wr => ∃ j : Nat, j ≤ size ∧ i = .int .i64 j ∧ q = .int .i64 (numV (((nums s).drop p).take j)) ∧ RAt g s av (p + j) lk wr ∧ Kept av w wr) (fun _ i _ => size - (intOf i).toNat)
    case atStart => exact ⟨0, Nat.zero_le _, rfl, by rw [List.take_zero]; rfl, HR.out.drewN _, (Kept.refl _ _).drewN _⟩
    case round =>
      obtain ⟨j, hj, rfl, rfl, hr, hk⟩ := hrel
      clear c0 c1 HR
      have HR := hide hr
      have HK := hide hk
      by_cases hlt : j < size
      · obtain ⟨r, er⟩ : ∃ r, p + j = r := ⟨_, rfl⟩
        have hrs : r < s.size := by omega
        have hn : (nums s)[r]? = some (s[r].toNat : Int) := nums_at s r hrs
        have ht : ((nums s).drop p).take (j + 1) = ((nums s).drop p).take j ++ [(s[r].toNat : Int)] := take_snoc _ j _ (by rw [List.getElem?_drop, er]; exact hn)
        have hnum := numV_snoc (((nums s).drop p).take j) (s[r].toNat : Int)
        rw [← ht] at hnum
        obtain ⟨a, ha⟩ : ∃ a, numV (((nums s).drop p).take j) = a := ⟨_, rfl⟩
        rw [ha] at hnum ⊢
        have hb0 : (0 : Int) ≤ (s[r].toNat : Int) := Int.natCast_nonneg _
        have hb1 : (s[r].toNat : Int) < 256 := by have := s[r].toNat_lt; omega
        have hol := or_low' a _ hb0 hb1
        rw [er] at hr HR
        have c0 : wr.cell? ⟨g, 0, none⟩ = some (.string s) := by rw [heap_cell hr.here]; rfl
        have c1 : wr.cell? ⟨g, 1, none⟩ = some (.int .i64 r) := by rw [heap_cell hr.here]; rfl
        have f1 : wr.frozen? ⟨g, 1, none⟩ = false := heap_frozen hr.here 1
        have HN := hide hnum
        have HOL := hide hol
        have HE := hide er
        clear hr hk hn ht hnum ha hol er hd
        have r1 : (r : Int) ≤ 1000000 := by omega
        go_wp2_with fail
        go_quiet (fail)
        go_wp2
        go_roundw
        case rel => exact ⟨j + 1, by omega, by go_num, by rw [HN.out, ← HOL.out], by rw [← Nat.add_assoc, HE.out]; exact ((HR.out.drewN _).go (r + 1) _ (by omega)).1, (HK.out.drewN _).trans ((HR.out.drewN _).go (r + 1) _ (by omega)).2⟩
        case measure => simp [intOf]; omega
      · obtain rfl : j = size := by omega
        clear hr hk
        go_wp2
        go_ret
        exact ⟨ret_i (by unfold tkA; rw [if_neg (by rw [HB.out]; decide)]), by rw [HB.out, Bool.or_false]; unfold tkP; rw [if_neg (by rw [HB.out]; decide)]; exact HR.out, HK.out⟩
end Go.Proofs.Ytlmkbfbiohocpaa
