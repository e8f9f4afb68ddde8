/- The program's Encode. -/
import Derived.Test.YtlmkbfbiohocpaaScT
namespace Go.Proofs.Ytlmkbfbiohocpaa
open Go.RowKit

theorem own_far9 {w : World} {base : Nat} {e : TypeId} {sz n : Nat} {v : Value} {xs : List Value} (h : w.ownsRow base e sz v n xs) {p : Addr} (hp : v.ownBlock ≠ some p.block) (u : Value) : (w.setCell p u).ownsRow base e sz v n xs :=
  h.kept (row := some p.block) ⟨rfl, rfl, rfl, by simp, fun k _ hne => Below.heap_setCell w p u k (fun e => hne (by rw [e]))⟩ (.inr hp)

theorem put_passes (g base : Nat) : Passes 26 g (fun av xs w => WSt g base av xs w) (fun b xs => xs.length + b ≤ 10000000) (fun xs n size => xs ++ putL n size) (fun _ n _ => n) where
  call1 := fun av s n w hr h => (wput_any g base av s n 1 1 rfl (by omega) (by omega) w h).mono fun _ _ hp => hp
  call8 := fun av s n w hr h => (wput_any g base av s n 8 8 rfl (by omega) (by omega) w h).mono fun _ _ hp => hp
  more := fun av s w o ⟨v, h⟩ => ⟨v, by
    have hb : Below w.heap.size w (w.alloc o) := (Below.refl _ _).alloc (Nat.le_refl _) _
    have k := h.keep hb
    refine ⟨fun j hj => ?_, fun hj => ?_, k.here, k.own, fun j hj => ⟨fun hj' => ?_, (h.far j hj).2⟩, k.base⟩
    · rcases hj with hj | hj
      · exact k.lt j hj
      · subst hj; simp
    · rcases hj with hj | hj
      · exact h.ng hj
      · have := heap_lt h.here; omega
    · rcases hj' with hj' | hj'
      · exact (h.far j hj).1 hj'
      · have := (h.own.lt j hj).2; omega⟩
  less := fun av av' s w hs ⟨v, h⟩ => ⟨v, fun j hj => h.lt j (hs j hj), fun hj => h.ng (hs _ hj), h.here, h.own, fun j hj => ⟨fun hj' => (h.far j hj).1 (hs _ hj'), (h.far j hj).2⟩, h.base⟩
  store := fun av s w p u ⟨v, h⟩ hp => ⟨v, fun j hj => by simpa using h.lt j hj, h.ng, by rw [Below.heap_setCell _ _ _ _ (fun e => h.ng (by rw [e]; exact hp))]; exact h.here,
    own_far9 h.own (fun e => (h.far _ e).1 hp) u, h.far, h.base.1, by simpa using h.base.2⟩
  lt := fun av s w ⟨v, h⟩ => h.lt
  rest := fun b s n size h => by
    show (s ++ putL n size).length + b ≤ 10000000
    rw [List.length_append, putL_length]
    have : s.length + (b + size) ≤ 10000000 := h
    omega
  some := fun b c s h => by
    show s.length + c ≤ 10000000
    have : s.length + (b + c) ≤ 10000000 := h
    omega

theorem thr_put (xs : List Int) (k t i g v : Int) : thr (fun xs n size => xs ++ putL n size) (fun _ n _ => n) xs k t i g v = (xs ++ encE (k, t, i, g, v), (k, t, i, g, v)) := by
  unfold thr encE
  by_cases h1 : k = 1
  · subst h1; simp
  · by_cases h2 : k = 2
    · subst h2; simp
    · simp [h1, h2]

theorem conv_own {w : World} {base : Nat} {v : Value} {xs : List Int} (h : w.ownsRow base 5 1 v xs.length (xs.map (Value.int .u8))) : (convert 57 9 v).run Try.prog w = .ok (.string (strOfNums xs)) w := by
  rcases h.2 with ⟨rfl, h0⟩ | ⟨g, cap, cur, rfl, hb, hg, h1, h2, h3, h4⟩
  · have : xs = [] := List.eq_nil_of_length_eq_zero h0
    subst this
    exact run_convert_bytes_nil w 57 5 Try.underlying57 Try.underlying5 0 0 9 Try.underlying9
  · refine run_convert_bytes_arg w 57 5 Try.underlying57 Try.underlying5 g 0 xs.length cap xs rfl (fun i hi => ?_) 9 Try.underlying9
    have := h.cells (g := g) rfl i (.int .u8 (xs.getD i 0)) (by simp [List.getD, hi])
    rw [addr_add] at this
    exact this

def StrPost (s : ByteArray) (w : World) (x : Ending) (w' : World) : Prop := x = .returned (.string s) ∧ Below w.heap.size w w'
theorem ret_s {a b : ByteArray} (h : b = a) : Ending.returned (.string a) = .returned (.string b) := by rw [h]

theorem encL_take_snoc {l : List E5} {j : Nat} {e : E5} (h : l[j]? = some e) : encL (l.take (j + 1)) = encL (l.take j) ++ encE e := by
  rw [take_snoc l j e h, encL_append]
  show _ ++ (encE e ++ []) = _
  rw [List.append_nil]

set_option maxRecDepth 100000 in
set_option maxHeartbeats 4000000 in
theorem enc_any (A : Option Addr) (cap : Nat) (l : List E5) (len : Nat) (hlen : len = l.length) (hmax : len ≤ 100000) (w : World) (hs : Sees w w.heap.size 5 A len (ec5 l)) :
    Calls Try.prog 16 #[.slice A len cap] w (StrPost (strOfNums (encL l)) w) := by
  have HL := hide hlen
  clear hlen
  have hB : Below w.heap.size w (w.alloc (.cells #[.slice none 0 0] 65)) := (Below.refl _ _).alloc (Nat.le_refl _) _
  have W0 : Hid (WSt w.heap.size (w.heap.size + 1) (· < w.heap.size) [] (w.alloc (.cells #[.slice none 0 0] 65))) :=
    ⟨.slice none 0 0, fun k hk => Nat.lt_of_lt_of_le hk hB.size, Nat.lt_irrefl _, heap_alloc_new w _, World.ownsRow_nil _ _ _ _, fun k hk => by simp [Value.ownBlock] at hk, by omega, by simp⟩
  have HB := hide hB
  clear hB
  have HP := hide (put_passes w.heap.size (w.heap.size + 1))
  go_enter Try.func16, Try.ntmps16
  go_wp2
  go_loopw [10] (fun q wr => ∃ j : Nat, j ≤ len ∧ q = .int .i64 j ∧ WSt w.heap.size (w.heap.size + 1) (· < w.heap.size) (encL (l.take j)) wr ∧ Below w.heap.size w wr) (fun q _ => len - (intOf q).toNat)
  case atStart => exact ⟨0, Nat.zero_le _, rfl, W0.out, HB.out⟩
  case round =>
    obtain ⟨j, hj, rfl, hW, hB⟩ := hrel
    clear W0 HB
    by_cases hlt : j < len
    · have hs' := hs.below hB
      rw [HL.out] at hs'
      obtain ⟨b, off, k, t, i, g, v, rfl, hb, he, c0, c1, c2, c3, c4⟩ := hs'.ent5 (k := j) (by have := HL.out; omega)
      have HT := hide (encL_take_snoc he)
      have hroom : (encL (l.take j)).length + 12 ≤ 10000000 := by
        have h1 := encL_length_le (l.take j)
        rw [List.length_take] at h1
        have h2 : min j l.length ≤ j := Nat.min_le_left _ _
        omega
      have zb : b < wr.heap.size := Nat.lt_of_lt_of_le hb hB.size
      have hW' : WSt w.heap.size (w.heap.size + 1) (· < w.heap.size) (encL (l.take j)) (wr.alloc (.cells #[.int .i64 k, .int .i64 t, .int .i64 i, .int .i64 g, .int .i64 v] 38)) := by
        obtain ⟨v0, h0⟩ := hW
        exact ⟨v0, h0.keep ((Below.refl _ _).alloc (Nat.le_refl _) _)⟩
      have C := hide (through_put w.heap.size HP.out (· < w.heap.size) (encL (l.take j)) k t i g v _ hroom hW')
      have hB2 := hide (hB.alloc hB.size (.cells #[.int .i64 k, .int .i64 t, .int .i64 i, .int .i64 g, .int .i64 v] 38))
      clear hW hW' hs' he hroom hB
      go_wp2_with fail
      refine C.out.mono ?_
      rintro x w1 ⟨rfl, hA, hK⟩
      rw [thr_put] at hA ⊢
      have HA := hide hA
      have HB2 := hide (hB2.out.trans (hK.below fun _ h => h))
      clear hA hK C hB2
      go_wp2
      go_roundw
      case rel => exact ⟨j + 1, by omega, by go_num, by rw [HT.out]; exact HA.out, HB2.out⟩
      case measure => simp [intOf]; omega
    · obtain rfl : j = len := by omega
      have HT := hide (show l.take j = l by rw [HL.out, List.take_length])
      rw [HT.out] at hW
      obtain ⟨v0, h0⟩ := hW
      have c0 : wr.cell? ⟨w.heap.size, 0, none⟩ = some v0 := by rw [heap_cell h0.here]; rfl
      have hcv := conv_own h0.own
      clear h0
      go_wp2
      go_ret
      exact ⟨rfl, hB⟩
end Go.Proofs.Ytlmkbfbiohocpaa
