/- Contracts of the document's own answers for layer 2, and of the turning of entries. -/
import Derived.Test.YtjibnocgbbohlaaJoin
namespace Go.Proofs.Ytjibnocgbbohlaa
open Go.RowKit

set_option maxRecDepth 100000 in
set_option maxHeartbeats 1000000 in
theorem rall_any (A : Option Addr) (cap : Nat) (l : List E3) (len : Nat) (hlen : len = l.length) (hmax : len ≤ 1000) (x lo hi : Int) (hx : I64 x) (hl : I64 lo) (hh : I64 hi) (hg : Good l) (w : World)
    (hs : Sees w w.heap.size 3 A len (ecells l)) :
    Calls Try.prog 13 #[.slice A len cap, .int .i64 x, .int .i64 lo, .int .i64 hi] w (IntPost (allV l x lo hi) w) := by
  subst hlen
  go_enter Try.func13, Try.ntmps13
  go_wp2
  go_loopw [1, 9] (fun a i wr => ∃ j : Nat, j ≤ l.length ∧ i = .int .i64 j ∧ a = .int .i64 (allV (l.take j) x lo hi) ∧ Below w.heap.size w wr)
    (fun _ i _ => l.length - (intOf i).toNat)
  case atStart => exact ⟨0, Nat.zero_le _, rfl, rfl, Below.refl _ _⟩
  case round =>
    obtain ⟨j, hj, rfl, rfl, hB⟩ := hrel
    by_cases hlt : j < l.length
    · obtain ⟨b, off, t, g, v, rfl, hb, he, c1, c2, c3⟩ := (hs.below hB).entry hlt
      have hv : I64 v := hg.at he
      have hcur : I64 (allV (l.take j) x lo hi) := allV_i64 (hg.take j) hx hl hh
      have HT := hide (take_snoc l j _ he)
      clear he
      go_wp2_with (go_at_call 26; refine (rapply_any g v _ lo hi _ hcur hv hl hh).mono ?_; rintro e w2 ⟨rfl, hb2⟩)
      go_roundw
      case rel => exact ⟨j + 1, by omega, by go_num, by rw [HT.out, allV_snoc]; rfl, below_next hB hB.size hb2⟩
      case measure => simp [intOf]; omega
    · obtain rfl : j = l.length := by omega
      have HT := hide (show allV (l.take l.length) x lo hi = allV l x lo hi by rw [List.take_length])
      go_wp2
      go_ret
      exact ⟨by simp, hB⟩

set_option maxHeartbeats 1000000 in
theorem rstill_any (A : Option Addr) (cap : Nat) (l : List E3) (len : Nat) (hlen : len = l.length) (hmax : len ≤ 1000) (x lo hi : Int) (hx : I64 x) (hl : I64 lo) (hh : I64 hi) (hg : Good l) (w : World)
    (hs : Sees w w.heap.size 3 A len (ecells l)) :
    Calls Try.prog 18 #[.slice A len cap, .int .i64 x, .int .i64 lo, .int .i64 hi] w (BoolPost (allV l x lo hi == x) w) := by
  have HL := hide hlen
  clear hlen
  go_enter Try.func18, Try.ntmps18
  go_wp2_with (go_at_call 13; refine (rall_any A cap l len HL.out hmax x lo hi hx hl hh hg _ hs).mono ?_; rintro e w' ⟨rfl, hB⟩)
  go_ret
  exact ⟨rfl, hB⟩

/-- An empty row that the call makes. -/
theorem own_empty (w : World) (B : Nat) (e : TypeId) (sz : Nat) (hB : B ≤ w.heap.size) : (w.alloc (.cells #[] e)).ownsRow B e sz (.slice (some ⟨w.heap.size, 0, none⟩) 0 0) 0 [] :=
  World.ownsRow_made w #[] 0 hB (by unfold maxLen; omega) (by simp)

set_option maxRecDepth 100000 in
set_option maxHeartbeats 1000000 in
theorem rupto_any (A : Option Addr) (cap : Nat) (l : List E3) (len : Nat) (hlen : len = l.length) (hmax : len ≤ 1000) (n : Int) (w : World) (hs : Sees w w.heap.size 3 A len (ecells l)) :
    Calls Try.prog 23 #[.slice A len cap, .int .i64 n] w (RowPost 3 (upN n len) (ecells (l.take (upN n len))) w) := by
  obtain ⟨i0, hi0, hz0, hz1, hz2⟩ := info_parts info52
  have hup : upN n len ≤ len := by unfold upN; omega
  obtain ⟨k, hk⟩ : ∃ k, upN n len = k := ⟨_, rfl⟩
  have hkn : (k : Int) ≤ n ∨ k = 0 := by unfold upN at hk; omega
  have hkm : k = len ∨ n ≤ (k : Int) := by unfold upN at hk; omega
  rw [hk] at hup ⊢
  clear hk
  have HL := hide hlen
  clear hlen
  go_enter Try.func23, Try.ntmps23
  go_wp2
  go_loopw [5, 6] (fun a i wr => ∃ j : Nat, j ≤ k ∧ i = .int .i64 j ∧ wr.ownsRow w.heap.size 52 3 a j (ecells (l.take j)) ∧ Below w.heap.size w wr)
    (fun _ i _ => k - (intOf i).toNat)
  case atStart => exact ⟨0, Nat.zero_le _, rfl, own_empty w _ _ _ (Nat.le_refl _), (Below.refl _ _).alloc (Nat.le_refl _) _⟩
  case round =>
    obtain ⟨j, hj, rfl, hown, hB⟩ := hrel
    by_cases hlt : j < k
    · have hs' := hs.below hB
      rw [HL.out] at hs'
      obtain ⟨b, off, t, g, v, rfl, hb, he, c1, c2, c3⟩ := hs'.entry (k := j) (by have := HL.out; omega)
      have HT := hide (take_snoc l j _ he)
      have hjl : j < len := by omega
      have hjn : (j : Int) < n := by omega
      clear he hs'
      go_wp2_with (at_builtin; refine wpList_app _ rfl _ _ 24 rfl w.heap.size 52 i0 _ 3 24 Try.underlying24 hi0 hz0 hz1 hz2 rfl (by omega) _ j _ rfl (hown.alloc _) _ _ 1 1 (ecells [(t, g, v)]) rfl (sees_new _ (ecells [(t, g, v)]) 52 3 1 rfl) (ecells_one _) (by unfold maxLen; omega) (by omega) (by have := hB.size; simp; omega) ?_; intro v1 w1 hown1 hg1)
      go_roundw
      case rel => exact ⟨j + 1, by omega, by go_num, by rw [HT.out, ecells_append]; exact hown1, (hB.alloc hB.size _).grown hg1 (by have := hB.size; simp; omega) (own_at hown)⟩
      case measure => simp [intOf]; omega
    · obtain rfl : j = k := by omega
      obtain ⟨A', c', rfl, hc'⟩ := own_form hown
      rcases hkm with rfl | hkm
      · go_wp2
        go_ret
        exact ⟨A', c', rfl, hc', Sees.of_own hown, hB⟩
      · by_cases hjl : j < len
        all_goals
          go_wp2
          go_ret
          exact ⟨A', c', rfl, hc', Sees.of_own hown, hB⟩

set_option maxRecDepth 100000 in
set_option maxHeartbeats 1000000 in
theorem rjoin_any (A : Option Addr) (cap : Nat) (bs : List Bt) (len : Nat) (hlen : len = bs.length) (hmax : len ≤ 1000) (hf : (flat bs).length ≤ 1000) (w : World)
    (hs : Sees w w.heap.size 1 A len (bs.map Bt.val)) (hq : ∀ q ∈ bs, q.Ok w) :
    Calls Try.prog 21 #[.slice A len cap] w (RowPost 3 (flat bs).length (ecells (flat bs)) w) := by
  obtain ⟨i0, hi0, hz0, hz1, hz2⟩ := info_parts info52
  have HL := hide hlen
  clear hlen
  go_enter Try.func21, Try.ntmps21
  go_wp2
  go_loopw [3, 4] (fun a i wr => ∃ j : Nat, j ≤ len ∧ i = .int .i64 j ∧ wr.ownsRow w.heap.size 52 3 a (flat (bs.take j)).length (ecells (flat (bs.take j))) ∧ Below w.heap.size w wr)
    (fun _ i _ => len - (intOf i).toNat)
  case atStart => exact ⟨0, Nat.zero_le _, rfl, own_empty w _ _ _ (Nat.le_refl _), (Below.refl _ _).alloc (Nat.le_refl _) _⟩
  case round =>
    obtain ⟨j, hj, rfl, hown, hB⟩ := hrel
    by_cases hlt : j < len
    · obtain ⟨b, off, rfl, hb, hc⟩ := hs.2 (by omega)
      obtain ⟨q, hqj⟩ : ∃ q, bs[j]? = some q := ⟨bs[j]'(by have := HL.out; omega), List.getElem?_eq_getElem _⟩
      have hcq := hc j q.val (by simp [hqj])
      have hcr : wr.cell? ⟨b, off + j, none⟩ = some q.val := (hB.cell (p := ⟨b, off + j, none⟩) hb).trans hcq
      have hok : Sees wr w.heap.size 3 q.A q.l.length (ecells q.l) := (hq q (List.mem_of_getElem? hqj)).below hB
      have HT := hide (take_snoc bs j q hqj)
      have hle : (flat (bs.take j)).length + q.l.length ≤ 1000 := by
        have := flat_take_le bs (j + 1)
        rw [HT.out, flat_snoc, List.length_append] at this
        omega
      obtain ⟨qA, qc, ql⟩ := q
      simp only [Bt.val] at hcr hok hle
      clear hc hcq hqj
      go_wp2_with (at_builtin; refine wpList_app _ rfl _ _ 24 rfl w.heap.size 52 i0 _ 3 24 Try.underlying24 hi0 hz0 hz1 hz2 rfl (by omega) _ _ _ rfl hown w.heap.size qA ql.length qc (ecells ql) rfl hok (ecells_one ql) (by unfold maxLen; omega) (by omega) hB.size ?_; intro v1 w1 hown1 hg1)
      go_roundw
      case rel => exact ⟨j + 1, by omega, by go_num, by rw [HT.out, flat_snoc, List.length_append, ecells_append]; exact hown1, hB.grown hg1 hB.size (own_at hown)⟩
      case measure => simp [intOf]; omega
    · obtain rfl : j = len := by omega
      have HT := hide (show bs.take j = bs by rw [HL.out, List.take_length])
      go_wp2
      go_ret
      rw [HT.out] at hown
      obtain ⟨A', c', rfl, hc'⟩ := own_form hown
      exact ⟨A', c', rfl, hc', Sees.of_own hown, hB⟩

theorem prs_take_snoc (l : List E3) (k : Nat) (e : E3) (h : l[k]? = some e) (x lo hi : Int) : prs (l.take (k + 1)) x lo hi = prs (l.take k) x lo hi ++ [allV (l.take k) x lo hi] := by
  rw [take_snoc l k e h, prs_snoc]

set_option maxRecDepth 100000 in
set_option maxHeartbeats 1000000 in
theorem rpriors_any (A : Option Addr) (cap : Nat) (l : List E3) (len : Nat) (hlen : len = l.length) (hmax : len ≤ 1000) (x lo hi : Int) (hx : I64 x) (hl : I64 lo) (hh : I64 hi) (hg : Good l) (w : World)
    (hs : Sees w w.heap.size 3 A len (ecells l)) :
    Calls Try.prog 16 #[.slice A len cap, .int .i64 x, .int .i64 lo, .int .i64 hi] w (RowPost 1 len ((prs l x lo hi).map (Value.int .i64)) w) := by
  obtain ⟨i0, hi0, hz0, hz1, hz2⟩ := info_parts info3
  have HL := hide hlen
  clear hlen
  go_enter Try.func16, Try.ntmps16
  go_wp2
  go_loopw [9, 10] (fun a i wr => ∃ j : Nat, j ≤ len ∧ i = .int .i64 j ∧ wr.ownsRow w.heap.size 3 1 a j ((prs (l.take j) x lo hi).map (Value.int .i64)) ∧ Below w.heap.size w wr)
    (fun _ i _ => len - (intOf i).toNat)
  case atStart => exact ⟨0, Nat.zero_le _, rfl, own_empty w _ _ _ (Nat.le_refl _), (Below.refl _ _).alloc (Nat.le_refl _) _⟩
  case round =>
    obtain ⟨j, hj, rfl, hown, hB⟩ := hrel
    by_cases hlt : j < len
    · obtain ⟨e, he⟩ : ∃ e, l[j]? = some e := ⟨l[j]'(by have := HL.out; omega), List.getElem?_eq_getElem _⟩
      have HT := hide (prs_take_snoc l j e he x lo hi)
      have hup : upN (j : Int) len = j := by unfold upN; omega
      have HU := hide hup
      have hlk : (l.take j).length = j := by rw [List.length_take, ← HL.out]; omega
      have HK := hide hlk
      have hs' : Sees wr wr.heap.size 3 A len (ecells l) := hs.later hB
      have hc1 := hide (rupto_any A cap l len HL.out hmax (j : Int) wr hs')
      clear hup hlk he
      go_wp2_with (first
        | (go_at_call 23; refine (hc1.out).mono ?_; rintro e w2 ⟨A2, c2, rfl, hcc, hs2, hb2⟩; rw [HU.out] at hs2 ⊢)
        | (go_at_call 13; refine (rall_any A2 c2 (l.take j) j HK.out.symm (by omega) x lo hi hx hl hh (hg.take j) w2 hs2).mono ?_; rintro e w3 ⟨rfl, hb3⟩)
        | (at_builtin; refine wpList_app _ rfl _ _ 29 rfl w.heap.size 3 i0 _ 1 8 Try.underlying29 hi0 hz0 hz1 hz2 rfl (by omega) _ j _ rfl ((own_below (own_below hown hb2) hb3).alloc _) _ _ 1 1 [.int .i64 (allV (l.take j) x lo hi)] rfl (sees_new _ [.int .i64 (allV (l.take j) x lo hi)] 3 1 1 rfl) (by simp [Value.oneCell']) (by unfold maxLen; omega) (by omega) (by have := hB.size; have := hb2.size; have := hb3.size; simp; omega) ?_; intro v1 w4 hown1 hg1))
      have hB3 : Below w.heap.size w w3 := below_next (below_next hB hB.size hb2) (Nat.le_trans hB.size hb2.size) hb3
      go_roundw
      case rel => exact ⟨j + 1, by omega, by go_num, by rw [HT.out, List.map_append]; exact hown1, (hB3.alloc hB3.size _).grown hg1 (by have := hB3.size; simp; omega) (own_at hown)⟩
      case measure => simp [intOf]; omega
    · obtain rfl : j = len := by omega
      have HT := hide (show l.take j = l by rw [HL.out, List.take_length])
      go_wp2
      go_ret
      rw [HT.out] at hown
      obtain ⟨A', c', rfl, hc'⟩ := own_form hown
      exact ⟨A', c', rfl, hc', Sees.of_own hown, hB⟩

theorem take_eq_step {α : Type} [DecidableEq α] {xs ys : List α} {j : Nat} {a b : α} (h : xs.take j = ys.take j) (ha : xs[j]? = some a) (hb : ys[j]? = some b) (he : a = b) : xs.take (j + 1) = ys.take (j + 1) := by
  rw [take_snoc xs j a ha, take_snoc ys j b hb, h, he]
theorem ne_at {α : Type} {xs ys : List α} {j : Nat} {a b : α} (ha : xs[j]? = some a) (hb : ys[j]? = some b) (he : a ≠ b) : xs ≠ ys := by
  rintro rfl
  rw [ha] at hb
  exact he (by injection hb)

set_option maxRecDepth 100000 in
set_option maxHeartbeats 1000000 in
theorem ints_any (A B : Option Addr) (cap cap' n m : Nat) (xs ys : List Int) (hn : n ≤ 1000) (w : World) (hx : Sees w w.heap.size 1 A n (xs.map (Value.int .i64))) (hy : Sees w w.heap.size 1 B m (ys.map (Value.int .i64))) :
    Calls Try.prog 14 #[.slice A n cap, .slice B m cap'] w (BoolPost (decide (xs = ys)) w) := by
  have hlx : xs.length = n := by have := hx.1; simpa using this
  have hly : ys.length = m := by have := hy.1; simpa using this
  by_cases hnm : n = m
  · subst hnm
    have HX := hide hlx
    have HY := hide hly
    clear hlx hly
    go_enter Try.func14, Try.ntmps14
    go_wp2
    go_loopw [5] (fun i wr => ∃ j : Nat, j ≤ n ∧ i = .int .i64 j ∧ xs.take j = ys.take j ∧ ∃ q, wr = w.drewN q) (fun i _ => n - (intOf i).toNat)
    case atStart => exact ⟨0, Nat.zero_le _, rfl, rfl, 0, rfl⟩
    case round =>
      obtain ⟨j, hj, rfl, htk, q, rfl⟩ := hrel
      by_cases hlt : j < n
      · obtain ⟨b, off, a, rfl, hb, ha, hc⟩ := hx.num hlt
        obtain ⟨b', off', a', rfl, hb', ha', hc'⟩ := hy.num hlt
        have HTK := hide htk
        have HA := hide ha
        have HA' := hide ha'
        clear htk ha ha'
        by_cases hne : a = a'
        · subst hne
          go_wp2_with fail
          go_quiet (fail)
          go_wp2
          go_roundw
          case rel => exact ⟨j + 1, by omega, by go_num, take_eq_step HTK.out HA.out HA'.out rfl, _, rfl⟩
          case measure => simp [intOf]; omega
        · have HN := hide hne
          have hb1 : (a == a') = false := beq_eq_false_iff_ne.2 hne
          have hb2 : (a != a') = true := bne_iff_ne.2 hne
          clear hne
          go_wp2_with fail
          go_quiet (fail)
          go_wp2
          go_ret
          exact ⟨ret_b (decide_eq_false (ne_at HA.out HA'.out HN.out)), below_drewN (below_drewN (Below.refl _ _) _) _⟩
      · obtain rfl : j = n := by omega
        have HE : Hid (xs = ys) := by
          have h1 := List.take_of_length_le (l := xs) (i := j) (by rw [HX.out]; exact Nat.le_refl _)
          have h2 := List.take_of_length_le (l := ys) (i := j) (by rw [HY.out]; exact Nat.le_refl _)
          exact h1.symm.trans (htk.trans h2)
        clear htk
        go_wp2
        go_ret
        exact ⟨ret_b (decide_eq_true HE.out), below_drewN (Below.refl _ _) _⟩
  · have HE : Hid (xs ≠ ys) := fun e => hnm (by rw [← hlx, ← hly, e])
    have hb1 : ((n : Int) == (m : Int)) = false := beq_eq_false_iff_ne.2 (by omega)
    have hb2 : ((n : Int) != (m : Int)) = true := bne_iff_ne.2 (by omega)
    clear hlx hly
    go_enter Try.func14, Try.ntmps14
    go_wp2
    go_ret
    exact ⟨ret_b (decide_eq_false HE.out), Below.refl _ _⟩
end Go.Proofs.Ytjibnocgbbohlaa
