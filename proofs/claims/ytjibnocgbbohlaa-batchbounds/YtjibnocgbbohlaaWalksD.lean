/- Walks of the laws BatchUpto and BatchBounds. -/
import Derived.Test.YtjibnocgbbohlaaWalksB
namespace Go.Proofs.Ytjibnocgbbohlaa
open Go.RowKit

theorem prs_at (l : List E3) (x lo hi : Int) (k : Nat) (h : k < l.length) : (prs l x lo hi)[k]? = some (allV (l.take k) x lo hi) := by
  obtain ⟨e, he⟩ : ∃ e, l[k]? = some e := ⟨l[k], List.getElem?_eq_getElem h⟩
  have h1 : l = l.take k ++ l.drop k := (List.take_append_drop k l).symm
  have h2 : l.drop k = e :: l.drop (k + 1) := by rw [List.drop_eq_getElem_cons h]; rw [List.getElem?_eq_getElem h] at he; injection he with he; rw [he]
  conv => lhs; rw [h1]
  rw [prs_append, List.getElem?_append_right (by rw [prs_length, List.length_take]; omega), h2]
  rw [prs_length, List.length_take, show k - min k l.length = 0 by omega]
  rfl

set_option maxRecDepth 100000 in
set_option maxHeartbeats 2000000 in
theorem walkUpto (A : Option Addr) (cap : Nat) (l : List E3) (n : Nat) (hlen : n = l.length) (hcap : n ≤ cap) (m : Int) (hm0 : 0 ≤ m) (hm1 : m ≤ 255) (x lo hi : Int) (hx : I64 x) (hl : I64 lo) (hh : I64 hi) (hg : Good l) (w : World)
    (hs : Sees w w.heap.size 3 A n (ecells l)) :
    Calls Try.prog 6 #[.slice A n cap, .int .u8 m, .int .i64 x, .int .i64 lo, .int .i64 hi] w (BoolPost true w) := by
  have HL := hide hlen
  clear hlen
  by_cases h60 : (60 : Int) < (n : Int)
  · go_enter Try.func6, Try.ntmps6
    go_wp2_with (go_at_call 10; refine (shown_any _).mono ?_; rintro e w' ⟨rfl, hb⟩)
    go_ret
    exact ⟨rfl, hb⟩
  go_enter Try.func6, Try.ntmps6
  go_wp2_with fail
  refine (shown_any _).mono ?_
  rintro e w1 ⟨rfl, hb1⟩
  have s1 := hs.later hb1
  clear hs
  go_wp2_with fail
  obtain ⟨k, hk⟩ : ∃ k : Nat, m % ((n : Int) + 1) = (k : Int) := ⟨(m % ((n : Int) + 1)).toNat, by have := Int.emod_nonneg m (show ((n : Int) + 1) ≠ 0 by omega); omega⟩
  have hkn : k ≤ n := by have := Int.emod_lt_of_pos m (show (0 : Int) < (n : Int) + 1 by omega); omega
  rw [hk]
  clear hk
  have HU := hide (show upN (k : Int) n = k by unfold upN; omega)
  have HK := hide (show k = (l.take k).length by rw [List.length_take, ← HL.out]; omega)
  refine (upto_any A cap l n HL.out (by omega) hcap (k : Int) w1 s1).mono ?_
  rintro e w2 ⟨A2, c2, rfl, hc2, u2, hb2⟩
  rw [HU.out] at u2 ⊢
  have s2 := s1.later hb2
  have hB2 : Below w.heap.size w w2 := below_next hb1 hb1.size hb2
  clear s1 hb1 hb2 hc2
  go_wp2_with fail
  refine (all_any A2 c2 (l.take k) k HK.out (by omega) x lo hi hx hl hh (hg.take k) w2 u2).mono ?_
  rintro e w3 ⟨rfl, hb3⟩
  have s3 := s2.later hb3
  have hB3 : Below w.heap.size w w3 := below_next hB2 hB2.size hb3
  obtain ⟨y, hy⟩ : ∃ y, allV (l.take k) x lo hi = y := ⟨_, rfl⟩
  rw [hy]
  have HY := hide hy
  clear hy s2 u2 hB2 hb3
  go_wp2_with fail
  refine (priors_any A cap l n HL.out (by omega) x lo hi hx hl hh hg w3 s3).mono ?_
  rintro e w4 ⟨A4, c4, rfl, hc4, p4, hb4⟩
  have s4 := s3.later hb4
  have hB4 : Below w.heap.size w w4 := below_next hB3 hB3.size hb4
  clear s3 hB3 hb4 hc4
  go_wp2_with fail
  refine (upto_any A cap l n HL.out (by omega) hcap (k : Int) w4 s4).mono ?_
  rintro e w5 ⟨A5, c5, rfl, hc5, u5, hb5⟩
  rw [HU.out]
  have s5 := s4.later hb5
  have p5 := p4.later hb5
  have hB5 : Below w.heap.size w w5 := below_next hB4 hB4.size hb5
  clear s4 p4 hB4 hb5 hc5 u5
  by_cases hkk : k = n
  · subst hkk
    have HT := hide (show l.take k = l by rw [HL.out, List.take_length])
    go_wp2_with fail
    refine (all_any A cap l k HL.out (by omega) x lo hi hx hl hh hg w5 s5).mono ?_
    rintro e w6 ⟨rfl, hb6⟩
    rw [show allV l x lo hi = y by have := HY.out; rwa [HT.out] at this]
    go_wp2
    go_ret
    exact ⟨by simp, below_next hB5 hB5.size hb6⟩
  · have hlt : k < n := by omega
    have hb0 : ((k : Int) == (n : Int)) = false := beq_eq_false_iff_ne.2 (by omega)
    obtain ⟨b, off, v, rfl, hb, hv, hc⟩ := p5.num hlt
    have hvy : v = y := by
      have h1 := prs_at l x lo hi k (by rw [← HL.out]; exact hlt)
      rw [hv] at h1
      injection h1 with h1
      rw [h1, HY.out]
    subst hvy
    clear hv
    go_wp2
    go_ret
    exact ⟨by simp, hB5⟩

/-- Ops that may be in bounds. -/
def Oks (l : List E3) : Prop := ∀ e ∈ l, mayB e.2.1 e.2.2 true = true
theorem stp_in {lo hi x : Int} {e : E3} (h : mayB e.2.1 e.2.2 true = true) (h1 : lo ≤ x) (h2 : x ≤ hi) : lo ≤ stp lo hi x e ∧ stp lo hi x e ≤ hi := by
  obtain ⟨t, g, v⟩ := e
  simp only [mayB, if_true, Bool.or_eq_true, Bool.and_eq_true, decide_eq_true_eq] at h
  unfold stp
  rcases h with h | ⟨h, h0⟩
  · subst h
    rw [(apV8 v x lo hi).1]
    unfold putV putB
    simp only [Bool.and_eq_true, decide_eq_true_eq]
    split <;> omega
  · subst h
    rw [(apV9 v x lo hi).1]
    unfold takeV takeB
    simp only [Bool.and_eq_true, decide_eq_true_eq]
    repeat' split
    all_goals omega
theorem allV_in {l : List E3} {lo hi x : Int} (h : Oks l) (h1 : lo ≤ x) (h2 : x ≤ hi) : lo ≤ allV l x lo hi ∧ allV l x lo hi ≤ hi := by
  induction l generalizing x with
  | nil => exact ⟨h1, h2⟩
  | cons e l ih =>
    obtain ⟨a, b⟩ := stp_in (h e (by simp)) h1 h2
    exact ih (fun e' he => h e' (List.mem_cons_of_mem _ he)) a b
theorem Oks.take {l : List E3} (h : Oks l) (k : Nat) : Oks (l.take k) := fun e he => h e (List.mem_of_mem_take he)

set_option maxRecDepth 100000 in
set_option maxHeartbeats 2000000 in
theorem walkBounds (A : Option Addr) (cap : Nat) (l : List E3) (n : Nat) (hlen : n = l.length) (x lo hi : Int) (hx : I64 x) (hl : I64 lo) (hh : I64 hi) (hg : Good l) (w : World)
    (hs : Sees w w.heap.size 3 A n (ecells l)) :
    Calls Try.prog 7 #[.slice A n cap, .int .i64 x, .int .i64 lo, .int .i64 hi] w (BoolPost true w) := by
  have HL := hide hlen
  clear hlen
  by_cases h60 : (60 : Int) < (n : Int)
  · go_enter Try.func7, Try.ntmps7
    go_wp2_with (go_at_call 10; refine (shown_any _).mono ?_; rintro e w' ⟨rfl, hb⟩)
    go_ret
    exact ⟨rfl, hb⟩
  by_cases h1 : x < lo
  · go_enter Try.func7, Try.ntmps7
    go_wp2_with (go_at_call 10; refine (shown_any _).mono ?_; rintro e w' ⟨rfl, hb⟩)
    go_ret
    exact ⟨rfl, hb⟩
  by_cases h2 : hi < x
  · go_enter Try.func7, Try.ntmps7
    go_wp2_with (go_at_call 10; refine (shown_any _).mono ?_; rintro e w' ⟨rfl, hb⟩)
    go_ret
    exact ⟨rfl, hb⟩
  have g1 : lo ≤ x := by omega
  have g2 : x ≤ hi := by omega
  go_enter Try.func7, Try.ntmps7
  go_wp2_with fail
  refine (shown_any _).mono ?_
  rintro e w1 ⟨rfl, hb1⟩
  have s1 := hs.later hb1
  clear hs
  go_wp2_with fail
  go_loopw [9] (fun i wr => ∃ j : Nat, j ≤ n ∧ i = .int .i64 j ∧ Oks (l.take j) ∧ Below w1.heap.size w1 wr) (fun i _ => n - (intOf i).toNat)
  case atStart => exact ⟨0, Nat.zero_le _, rfl, fun e he => by simp at he, Below.refl _ _⟩
  case round =>
    obtain ⟨j, hj, rfl, hok, hB⟩ := hrel
    by_cases hlt : j < n
    · have s2 := s1.later hB
      rw [HL.out] at s2
      obtain ⟨b, off, t, g, v, rfl, hb, he, c1, c2, c3⟩ := s2.entry (k := j) (by have := HL.out; omega)
      have HT := hide (take_snoc l j _ he)
      clear he
      by_cases hm : mayB g v true = true
      · have HM := hide hm
        clear hm
        go_wp2_with (go_at_call 24; refine (rmay_any g v true _).mono ?_; rintro e w2 ⟨rfl, hb2⟩; rw [HM.out])
        go_roundw
        case rel => exact ⟨j + 1, by omega, by go_num, by rw [HT.out]; exact fun e he => (List.mem_append.1 he).elim (hok e) (fun h => by simp at h; subst h; exact HM.out), below_next hB hB.size hb2⟩
        case measure => simp [intOf]; omega
      · have HM := hide (show mayB g v true = false by simpa using hm)
        clear hm
        go_wp2_with (go_at_call 24; refine (rmay_any g v true _).mono ?_; rintro e w2 ⟨rfl, hb2⟩; rw [HM.out])
        go_ret
        exact ⟨rfl, below_next (below_next hb1 hb1.size hB) (Nat.le_trans hb1.size hB.size) hb2⟩
    · obtain rfl : j = n := by omega
      have hoks : Oks l := by have : l.take j = l := by rw [HL.out, List.take_length]
                              rwa [this] at hok
      have s2 := s1.later hB
      have hB2 : Below w.heap.size w wr := below_next hb1 hb1.size hB
      clear s1 hb1 hB hok
      go_wp2_with fail
      refine (priors_any A cap l j HL.out (by omega) x lo hi hx hl hh hg wr s2).mono ?_
      rintro e w3 ⟨A3, c3, rfl, hc3, p3, hb3⟩
      have s3 := s2.later hb3
      have hB3 : Below w.heap.size w w3 := below_next hB2 hB2.size hb3
      clear s2 hB2 hb3 hc3
      go_wp2_with fail
      go_loop [11] (fun i => ∃ k : Nat, k ≤ j ∧ i = .int .i64 k) (fun i => j - (intOf i).toNat)
      case atStart => exact ⟨0, Nat.zero_le _, rfl⟩
      case round =>
        obtain ⟨k, hk, rfl⟩ := hrel
        by_cases hlt : k < j
        · obtain ⟨b, off, v, rfl, hb, hv, hc⟩ := p3.num hlt
          have hv' : v = allV (l.take k) x lo hi := by
            have h1 := prs_at l x lo hi k (by rw [← HL.out]; exact hlt)
            rw [hv] at h1
            injection h1
          have hin := allV_in (hoks.take k) g1 g2
          rw [← hv'] at hin
          obtain ⟨i1, i2⟩ := hin
          clear hv' hv
          go_wp2
          go_round
          case rel => exact ⟨k + 1, by omega, by go_num⟩
          case measure => simp [intOf]; omega
        · obtain rfl : k = j := by omega
          obtain ⟨i1, i2⟩ := allV_in hoks g1 g2
          go_wp2_with fail
          refine (all_any A cap l k HL.out (by omega) x lo hi hx hl hh hg w3 s3).mono ?_
          rintro e w4 ⟨rfl, hb4⟩
          go_wp2
          go_ret
          exact ⟨by simp, below_next hB3 hB3.size hb4⟩
end Go.Proofs.Ytjibnocgbbohlaa
