/- The document's Encode of layer 9. -/
import Derived.Test.YtlmkbfbiohocpaaScG
namespace Go.Proofs.Ytlmkbfbiohocpaa
open Go.RowKit

theorem own_type_ne {w : World} {base : Nat} {e t : TypeId} {sz n g : Nat} {v : Value} {xs : List Value} {cs : Array Value} {fr : Nat × Nat} (h : w.ownsRow base e sz v n xs) (hg : w.heap[g]? = some (.cells cs t fr)) (hne : e ≠ t) : v.ownBlock ≠ some g := by
  rcases h.2 with ⟨rfl, _⟩ | ⟨g', cap, cur, rfl, _, hh, _⟩
  · simp [Value.ownBlock]
  · intro he
    have : g' = g := by simpa [Value.ownBlock] using he
    subst this
    rw [hh] at hg
    injection hg with hg
    injection hg with _ ht
    exact hne ht
/-- While an entry is turned into bytes: its box at E, the bytes so far. -/
structure EnAt (B E : Nat) (w0 : World) (k t i g v : Int) (bv : Value) (ys : List Int) (w : World) : Prop where
  e : w.heap[E]? = some (.cells #[.int .i64 k, .int .i64 t, .int .i64 i, .int .i64 g, .int .i64 v] 42 (0, 0))
  own : w.ownsRow B 5 1 bv ys.length (ys.map (Value.int .u8))
  bel : Below B w0 w
  big : B ≤ w.heap.size
theorem EnAt.step {B E m : Nat} {w0 w w1 : World} {k t i g v : Int} {bv b1 : Value} {ys xs : List Int} {news : List Value} {tmp : Obj} (h : EnAt B E w0 k t i g v bv ys w)
    (hown : w1.ownsRow B 5 1 b1 (ys.length + m) (ys.map (Value.int .u8) ++ news)) (hg : (w.alloc tmp).grownBy w1 bv.ownBlock) (hn : news = xs.map (Value.int .u8)) (hm : xs.length = m) : EnAt B E w0 k t i g v b1 (ys ++ xs) w1 := by
  have hne := own_type_ne h.own h.e (by decide)
  have hE := heap_lt h.e
  refine ⟨?_, ?_, (h.bel.alloc h.big tmp).grown hg (by have := h.big; simp; omega) (own_at h.own), by have := hg.size; have := h.big; simp at *; omega⟩
  · exact (hg.block E (by simp; omega) (Ne.symm hne)).trans ((Below.heap_alloc w tmp E hE).trans h.e)
  · rw [hn] at hown
    rw [List.length_append, hm, List.map_append]
    exact hown

theorem alloc_le (w : World) (o : Obj) : w.heap.size ≤ (w.alloc o).heap.size := ((Below.refl w.heap.size w).alloc (Nat.le_refl _) o).size
theorem u8_id (n : Int) : IntKind.u8.wrap n = n % 256 := by simp [IntKind.wrap, IntKind.bits, IntKind.signed]
theorem u64_by (v : Int) (k : Nat) (hk : k < 8) : IntKind.u8.wrap (IntKind.u64.wrap v / 2 ^ (8 * (k : Int)).toNat) = byV v k := by
  rw [u8_id, u64_wrap, show (8 * (k : Int)).toNat = 8 * k by omega]
  unfold byV
  obtain rfl | rfl | rfl | rfl | rfl | rfl | rfl | rfl : k = 0 ∨ k = 1 ∨ k = 2 ∨ k = 3 ∨ k = 4 ∨ k = 5 ∨ k = 6 ∨ k = 7 := by omega
  all_goals simp only [Nat.reduceMul, Int.reducePow]
  all_goals omega

set_option maxRecDepth 100000 in
set_option maxHeartbeats 4000000 in
theorem renc_any (A : Option Addr) (cap : Nat) (l : List E5) (len : Nat) (hlen : len = l.length) (hmax : len ≤ 100000) (w : World) (hs : Sees w w.heap.size 5 A len (ec5 l)) :
    Calls Try.prog 17 #[.slice A len cap] w (StrPost (strOfNums (encL l)) w) := by
  obtain ⟨i0, hi0, hz0, hz1, hz2⟩ := info_parts info5
  have HL := hide hlen
  clear hlen
  go_enter Try.func17, Try.ntmps17
  go_wp2
  go_loopw [3, 4] (fun bv q wr => ∃ j : Nat, j ≤ len ∧ q = .int .i64 j ∧ wr.ownsRow w.heap.size 5 1 bv (encL (l.take j)).length ((encL (l.take j)).map (Value.int .u8)) ∧ Below w.heap.size w wr) (fun _ q _ => len - (intOf q).toNat)
  case atStart => exact ⟨0, Nat.zero_le _, rfl, own_empty w _ _ _ (Nat.le_refl _), (Below.refl _ _).alloc (Nat.le_refl _) _⟩
  case round =>
    obtain ⟨j, hj, rfl, hown, hB⟩ := hrel
    generalize wr = wo at *
    by_cases hlt : j < len
    · have hs' := hs.below hB
      rw [HL.out] at hs'
      obtain ⟨b, off, k, t, i, g, v, rfl, hb, he, c0, c1, c2, c3, c4⟩ := hs'.ent5 (k := j) (by have := HL.out; omega)
      have HT := hide (encL_take_snoc he)
      have hroom : (encL (l.take j)).length ≤ 1200000 := by
        have h1 := encL_length_le (l.take j)
        rw [List.length_take] at h1
        have h2 : min j l.length ≤ j := Nat.min_le_left _ _
        omega
      have zb : b < wo.heap.size := Nat.lt_of_lt_of_le hb hB.size
      obtain ⟨ys, hys⟩ : ∃ ys, encL (l.take j) = ys := ⟨_, rfl⟩
      rw [hys] at hown hroom HT
      generalize u3 = bv at *
      have H0 : EnAt w.heap.size wo.heap.size w k t i g v bv ys (wo.alloc (.cells #[.int .i64 k, .int .i64 t, .int .i64 i, .int .i64 g, .int .i64 v] 42)) :=
        ⟨heap_alloc_new wo _, hown.alloc _, hB.alloc hB.size _, by have := hB.size; simp; omega⟩
      clear hs' he hys hown hB
      by_cases h1 : k = 1
      · subst h1
        have HE := hide (show encE (1, t, i, g, v) = [1] ++ [t % 256] ++ [i % 256, g % 256] ++ putL v 8 from enc1 (e := (1, t, i, g, v)) rfl)
        go_upto_region 11 with (first
          | (at_builtin; refine wpList_app _ rfl _ _ 57 rfl w.heap.size 5 i0 _ 1 1 Try.underlying57 hi0 hz0 hz1 hz2 rfl (by omega) _ (ys ++ [1] ++ [t % 256]).length ((ys ++ [1] ++ [t % 256]).map (Value.int .u8)) rfl (H2.own.alloc _) _ _ 2 2 _ rfl (sees_at _ _ 5 1 2 w2.heap.size rfl rfl) (by simp [Value.oneCell']) (by unfold maxLen; (try simp only [List.length_append, List.length_cons, List.length_nil]); omega) (by (try simp only [List.length_append, List.length_cons, List.length_nil]); omega) (Nat.le_trans H2.big (alloc_le _ _)) ?_; intro v3 w3 hown3 hg3; clear d0 d1 d2 d3 d4; have H3 := H2.step (xs := [i % 256, g % 256]) hown3 hg3 rfl rfl; have d0 : w3.cell? ⟨wo.heap.size, 0, none⟩ = some (.int .i64 1) := (by rw [heap_cell H3.e]; rfl); have d1 : w3.cell? ⟨wo.heap.size, 1, none⟩ = some (.int .i64 t) := (by rw [heap_cell H3.e]; rfl); have d2 : w3.cell? ⟨wo.heap.size, 2, none⟩ = some (.int .i64 i) := (by rw [heap_cell H3.e]; rfl); have d3 : w3.cell? ⟨wo.heap.size, 3, none⟩ = some (.int .i64 g) := (by rw [heap_cell H3.e]; rfl); have d4 : w3.cell? ⟨wo.heap.size, 4, none⟩ = some (.int .i64 v) := (by rw [heap_cell H3.e]; rfl); clear hown3 hg3)
          | (at_builtin; refine wpList_app _ rfl _ _ 57 rfl w.heap.size 5 i0 _ 1 1 Try.underlying57 hi0 hz0 hz1 hz2 rfl (by omega) _ (ys ++ [1]).length ((ys ++ [1]).map (Value.int .u8)) rfl (H1.own.alloc _) _ _ 1 1 _ rfl (sees_at _ _ 5 1 1 w1.heap.size rfl rfl) (by simp [Value.oneCell']) (by unfold maxLen; (try simp only [List.length_append, List.length_cons, List.length_nil]); omega) (by (try simp only [List.length_append, List.length_cons, List.length_nil]); omega) (Nat.le_trans H1.big (alloc_le _ _)) ?_; intro v2 w2 hown2 hg2; clear d0 d1 d2 d3 d4; have H2 := H1.step (xs := [t % 256]) hown2 hg2 rfl rfl; have d0 : w2.cell? ⟨wo.heap.size, 0, none⟩ = some (.int .i64 1) := (by rw [heap_cell H2.e]; rfl); have d1 : w2.cell? ⟨wo.heap.size, 1, none⟩ = some (.int .i64 t) := (by rw [heap_cell H2.e]; rfl); have d2 : w2.cell? ⟨wo.heap.size, 2, none⟩ = some (.int .i64 i) := (by rw [heap_cell H2.e]; rfl); have d3 : w2.cell? ⟨wo.heap.size, 3, none⟩ = some (.int .i64 g) := (by rw [heap_cell H2.e]; rfl); have d4 : w2.cell? ⟨wo.heap.size, 4, none⟩ = some (.int .i64 v) := (by rw [heap_cell H2.e]; rfl); clear hown2 hg2)
          | (at_builtin; refine wpList_app _ rfl _ _ 57 rfl w.heap.size 5 i0 _ 1 1 Try.underlying57 hi0 hz0 hz1 hz2 rfl (by omega) _ (ys).length ((ys).map (Value.int .u8)) rfl (H0.own.alloc _) _ _ 1 1 _ rfl (sees_at _ _ 5 1 1 (wo.heap.size + 1) (by simp) rfl) (by simp [Value.oneCell']) (by unfold maxLen; (try simp only [List.length_append, List.length_cons, List.length_nil]); omega) (by (try simp only [List.length_append, List.length_cons, List.length_nil]); omega) (Nat.le_trans H0.big (alloc_le _ _)) ?_; intro v1 w1 hown1 hg1; have H1 := H0.step (xs := [1]) hown1 hg1 rfl rfl; have d0 : w1.cell? ⟨wo.heap.size, 0, none⟩ = some (.int .i64 1) := (by rw [heap_cell H1.e]; rfl); have d1 : w1.cell? ⟨wo.heap.size, 1, none⟩ = some (.int .i64 t) := (by rw [heap_cell H1.e]; rfl); have d2 : w1.cell? ⟨wo.heap.size, 2, none⟩ = some (.int .i64 i) := (by rw [heap_cell H1.e]; rfl); have d3 : w1.cell? ⟨wo.heap.size, 3, none⟩ = some (.int .i64 g) := (by rw [heap_cell H1.e]; rfl); have d4 : w1.cell? ⟨wo.heap.size, 4, none⟩ = some (.int .i64 v) := (by rw [heap_cell H1.e]; rfl); clear hown1 hg1))
        have HO := hide H3
        clear H0 H1 H2 H3 d0 d1 d2 d3 d4
        go_wp2
        go_loopw [3, 6] (fun bq q wq => ∃ (n : Nat) (pre : List Int), n ≤ 8 ∧ q = .int .i64 ((n : Int) - 1) ∧ pre ++ putL v n = putL v 8 ∧ pre.length + n = 8 ∧ EnAt w.heap.size wo.heap.size w 1 t i g v bq (ys ++ [1] ++ [t % 256] ++ [i % 256, g % 256] ++ pre) wq) (fun _ q _ => (intOf q + 1).toNat)
        case atStart => exact ⟨8, [], Nat.le_refl _, rfl, rfl, rfl, by rw [List.append_nil]; exact HO.out⟩
        case round =>
          obtain ⟨n, pre, hn, rfl, hpre, hpl, hE⟩ := hrel
          have HP := hide hpre
          have HPL := hide hpl
          clear hpre hpl HO
          cases n with
          | zero =>
            have HO := hide hE
            clear hE
            go_wp2
            go_roundw
            case rel => exact ⟨j + 1, by omega, by go_num, by (have e := HP.out; rw [putL, List.append_nil] at e; rw [HT.out, HE.out, ← e, ← List.append_assoc, ← List.append_assoc, ← List.append_assoc]; exact HO.out.own), HO.out.bel⟩
            case measure => simp [intOf]; omega
          | succ n =>
            have e1 : ((n + 1 : Nat) : Int) - 1 = (n : Int) := by omega
            rw [e1]
            clear e1
            have hn7 : (n : Int) ≤ 7 := by omega
            have hl1 : (ys ++ [1] ++ [t % 256] ++ [i % 256, g % 256] ++ pre).length ≤ 1200020 := by have := HPL.out; simp only [List.length_append, List.length_cons, List.length_nil]; omega
            obtain ⟨zs, hzs⟩ : ∃ zs, ys ++ [1] ++ [t % 256] ++ [i % 256, g % 256] ++ pre = zs := ⟨_, rfl⟩
            rw [hzs] at hE hl1
            have HZ := hide hzs
            clear hzs
            generalize u3 = bq at *
            have d4 : wr.cell? ⟨wo.heap.size, 4, none⟩ = some (.int .i64 v) := (by rw [heap_cell hE.e]; rfl)
            have e8 : IntKind.i64.wrap (8 * (n : Int)) = 8 * (n : Int) := IntWalk.i64_in _ (by omega)
            have p8 : (0 : Int) ≤ 8 * (n : Int) := by omega
            go_wp2_with (at_builtin; refine wpList_app _ rfl _ _ 57 rfl w.heap.size 5 i0 _ 1 1 Try.underlying57 hi0 hz0 hz1 hz2 rfl (by omega) _ zs.length (zs.map (Value.int .u8)) rfl (hE.own.alloc _) _ _ 1 1 _ rfl (sees_at _ _ 5 1 1 wr.heap.size rfl rfl) (by simp [Value.oneCell']) (by unfold maxLen; omega) (by omega) (Nat.le_trans hE.big (alloc_le _ _)) ?_; intro v1 w1 hown1 hg1)
            have H1 := hE.step (xs := [byV v n]) hown1 hg1 (by rw [← u64_by v n (by omega)]; rfl) rfl
            have HO := hide H1
            clear hE hown1 hg1 H1 d4
            go_roundw
            case rel => exact ⟨n, pre ++ [byV v n], by omega, rfl, by rw [List.append_assoc]; exact HP.out, by rw [List.length_append]; have := HPL.out; simp; omega, by rw [← List.append_assoc, HZ.out]; exact HO.out⟩
            case measure => simp [intOf]
      · have b1 : (k == 1) = false := beq_eq_false_iff_ne.2 h1
        by_cases h2 : k = 2
        · subst h2
          have HE := hide (show encE (2, t, i, g, v) = [2] ++ [t % 256] from enc2 (e := (2, t, i, g, v)) rfl)
          go_wp2_with (first
            | (at_builtin; refine wpList_app _ rfl _ _ 57 rfl w.heap.size 5 i0 _ 1 1 Try.underlying57 hi0 hz0 hz1 hz2 rfl (by omega) _ (ys ++ [2]).length ((ys ++ [2]).map (Value.int .u8)) rfl (H1.own.alloc _) _ _ 1 1 _ rfl (sees_at _ _ 5 1 1 w1.heap.size rfl rfl) (by simp [Value.oneCell']) (by unfold maxLen; (try simp only [List.length_append, List.length_cons, List.length_nil]); omega) (by (try simp only [List.length_append, List.length_cons, List.length_nil]); omega) (Nat.le_trans H1.big (alloc_le _ _)) ?_; intro v2 w2 hown2 hg2; clear d0 d1 d2 d3 d4; have H2 := H1.step (xs := [t % 256]) hown2 hg2 rfl rfl; have d0 : w2.cell? ⟨wo.heap.size, 0, none⟩ = some (.int .i64 2) := (by rw [heap_cell H2.e]; rfl); have d1 : w2.cell? ⟨wo.heap.size, 1, none⟩ = some (.int .i64 t) := (by rw [heap_cell H2.e]; rfl); have d2 : w2.cell? ⟨wo.heap.size, 2, none⟩ = some (.int .i64 i) := (by rw [heap_cell H2.e]; rfl); have d3 : w2.cell? ⟨wo.heap.size, 3, none⟩ = some (.int .i64 g) := (by rw [heap_cell H2.e]; rfl); have d4 : w2.cell? ⟨wo.heap.size, 4, none⟩ = some (.int .i64 v) := (by rw [heap_cell H2.e]; rfl); clear hown2 hg2)
            | (at_builtin; refine wpList_app _ rfl _ _ 57 rfl w.heap.size 5 i0 _ 1 1 Try.underlying57 hi0 hz0 hz1 hz2 rfl (by omega) _ (ys).length ((ys).map (Value.int .u8)) rfl (H0.own.alloc _) _ _ 1 1 _ rfl (sees_at _ _ 5 1 1 (wo.heap.size + 1) (by simp) rfl) (by simp [Value.oneCell']) (by unfold maxLen; (try simp only [List.length_append, List.length_cons, List.length_nil]); omega) (by (try simp only [List.length_append, List.length_cons, List.length_nil]); omega) (Nat.le_trans H0.big (alloc_le _ _)) ?_; intro v1 w1 hown1 hg1; have H1 := H0.step (xs := [2]) hown1 hg1 rfl rfl; have d0 : w1.cell? ⟨wo.heap.size, 0, none⟩ = some (.int .i64 2) := (by rw [heap_cell H1.e]; rfl); have d1 : w1.cell? ⟨wo.heap.size, 1, none⟩ = some (.int .i64 t) := (by rw [heap_cell H1.e]; rfl); have d2 : w1.cell? ⟨wo.heap.size, 2, none⟩ = some (.int .i64 i) := (by rw [heap_cell H1.e]; rfl); have d3 : w1.cell? ⟨wo.heap.size, 3, none⟩ = some (.int .i64 g) := (by rw [heap_cell H1.e]; rfl); have d4 : w1.cell? ⟨wo.heap.size, 4, none⟩ = some (.int .i64 v) := (by rw [heap_cell H1.e]; rfl); clear hown1 hg1))
          go_roundw
          case rel => exact ⟨j + 1, by omega, by go_num, by rw [HT.out, HE.out, ← List.append_assoc]; exact H2.own, H2.bel⟩
          case measure => simp [intOf]; omega
        · have b2 : (k == 2) = false := beq_eq_false_iff_ne.2 h2
          have HE := hide (show encE (k, t, i, g, v) = [k % 256] by unfold encE; rw [if_neg h1, if_neg h2]; exact putL_one k)
          clear h1 h2
          go_wp2_with (at_builtin; refine wpList_app _ rfl _ _ 57 rfl w.heap.size 5 i0 _ 1 1 Try.underlying57 hi0 hz0 hz1 hz2 rfl (by omega) _ (ys).length ((ys).map (Value.int .u8)) rfl (H0.own.alloc _) _ _ 1 1 _ rfl (sees_at _ _ 5 1 1 (wo.heap.size + 1) (by simp) rfl) (by simp [Value.oneCell']) (by unfold maxLen; (try simp only [List.length_append, List.length_cons, List.length_nil]); omega) (by (try simp only [List.length_append, List.length_cons, List.length_nil]); omega) (Nat.le_trans H0.big (alloc_le _ _)) ?_; intro v1 w1 hown1 hg1; have H1 := H0.step (xs := [k % 256]) hown1 hg1 rfl rfl; have d0 : w1.cell? ⟨wo.heap.size, 0, none⟩ = some (.int .i64 k) := (by rw [heap_cell H1.e]; rfl); have d1 : w1.cell? ⟨wo.heap.size, 1, none⟩ = some (.int .i64 t) := (by rw [heap_cell H1.e]; rfl); have d2 : w1.cell? ⟨wo.heap.size, 2, none⟩ = some (.int .i64 i) := (by rw [heap_cell H1.e]; rfl); have d3 : w1.cell? ⟨wo.heap.size, 3, none⟩ = some (.int .i64 g) := (by rw [heap_cell H1.e]; rfl); have d4 : w1.cell? ⟨wo.heap.size, 4, none⟩ = some (.int .i64 v) := (by rw [heap_cell H1.e]; rfl); clear hown1 hg1)
          go_roundw
          case rel => exact ⟨j + 1, by omega, by go_num, by rw [HT.out, HE.out]; exact H1.own, H1.bel⟩
          case measure => simp [intOf]; omega
    · obtain rfl : j = len := by omega
      have HT := hide (show l.take j = l by rw [HL.out, List.take_length])
      rw [HT.out] at hown
      have hcv := conv_own hown
      go_wp2
      go_ret
      exact ⟨rfl, hB⟩
end Go.Proofs.Ytlmkbfbiohocpaa
