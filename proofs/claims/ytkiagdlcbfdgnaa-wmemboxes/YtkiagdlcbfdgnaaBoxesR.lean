/- Contracts of the document's own answers on boxes, and of the turning of entries. -/
import Derived.Test.YtkiagdlcbfdgnaaBoxes
namespace Go.Proofs.Ytkiagdlcbfdgnaa
open Go.RowKit

set_option maxRecDepth 100000 in
set_option maxHeartbeats 3200000 in
theorem ents_any (A : Option Addr) (cap : Nat) (l : List E3) (len : Nat) (hlen : len = l.length) (hmax : len ≤ 100000) (w : World) (hs : Sees w w.heap.size 3 A len (ecells l)) :
    Calls Try.prog 25 #[.slice A len cap] w (FRowPost 3 len (ecells l) w) := by
  obtain ⟨i0, hi0, hz0, hz1, hz2⟩ := info_parts info52
  have HL := hide hlen
  clear hlen
  go_enter Try.func25, Try.ntmps25
  go_wp2
  go_loopw [3, 4] (fun a i wr => ∃ j : Nat, j ≤ len ∧ i = .int .i64 j ∧ wr.ownsRow w.heap.size 83 3 a j (ecells (l.take j)) ∧ Below w.heap.size w wr)
    (fun _ i _ => len - (intOf i).toNat)
  case atStart => exact ⟨0, Nat.zero_le _, rfl, own_empty w _ _ _ (Nat.le_refl _), (Below.refl _ _).alloc (Nat.le_refl _) _⟩
  case round =>
    obtain ⟨j, hj, rfl, hown, hB⟩ := hrel
    by_cases hlt : j < len
    · have hs' := hs.below hB
      rw [HL.out] at hs'
      obtain ⟨b, off, t, g, v, rfl, hb, he, c1, c2, c3⟩ := hs'.entry (k := j) (by have := HL.out; omega)
      have HT := hide (take_snoc l j _ he)
      clear he hs'
      go_wp2_with fail
      have hj0 : (0 : Int) ≤ (j : Int) := Int.natCast_nonneg _
      have hj1 : (j : Int) < (len : Int) := by omega
      have ag := own_ne hown hb
      have lb : b < wr.heap.size := Nat.lt_of_lt_of_le hb hB.size
      have hbs := hB.size
      go_region_held3 (fun w' => w'.cell? ⟨b, off + j * 3, none⟩ = some (.int .i64 t) ∧ w'.cell? ⟨b, off + j * 3 + 1, none⟩ = some (.int .i64 g) ∧ w'.cell? ⟨b, off + j * 3 + 2, none⟩ = some (.int .i64 v))
        (first
          | go_keep
          | (go_split_ands
             refine ⟨?_, ?_, ?_⟩
             · (rw [hgrow.cell_far _ (by simp; omega) (Ne.symm ag)]; assumption)
             · (rw [hgrow.cell_far _ (by simp; omega) (Ne.symm ag)]; assumption)
             · (rw [hgrow.cell_far _ (by simp; omega) (Ne.symm ag)]; assumption)))
        ((refine step_append_lies _ (by rfl) _ _ _ (by rfl) w.heap.size 83 i0 _ 3 24 Try.underlying53 hi0 hz0 hz1 hz2 rfl (by omega) _ j _ (by rfl) ((hown.alloc _).drew)
            ⟨wr.heap.size, 0, none⟩ 1 1 (ecells [(t, g, v)]) (by rfl) (by rfl) (World.news_of_block (cs := #[.int .i64 t, .int .i64 g, .int .i64 v]) (t := 83) (fr := (0, 0)) (heap_alloc_new wr _)) (ecells_one _)
            (by omega) (by unfold maxLen; omega) (by omega) (by simp; omega) (wr.heap.size + 1) (by simp) ?_; intro gg cap w1 hown1 hgrow hat hlt))
      go_wp2
      go_roundw
      case rel => exact ⟨j + 1, by omega, by go_num, by rw [HT.out, ecells_append]; exact hown1, ((hB.alloc hB.size _).drew).grown hgrow (by simp; omega) (own_at hown)⟩
      case measure => simp [intOf]; omega
    · obtain rfl : j = len := by omega
      have HT := hide (show l.take j = l by rw [HL.out, List.take_length])
      go_wp2
      go_ret
      rw [HT.out] at hown
      obtain ⟨A', c', rfl, hc'⟩ := own_form hown
      exact ⟨A', c', rfl, hc', Sees.of_own hown, fresh_own hown, hB⟩

set_option maxRecDepth 100000 in
set_option maxHeartbeats 1000000 in
theorem rbox_any (A B : Option Addr) (c d : Nat) (ws : List Int) (bs : List Bt) (i : Int) (w : World) (m : MemOk w A ws B bs) :
    Calls Try.prog 22 #[.agg #[.slice A ws.length c, .slice B bs.length d], .int .i64 i] w (REPost (bxV (boxes bs) i) (erV bs.length i) w) := by
  obtain ⟨i0, hi0, hz0, hz1, hz2⟩ := info_parts info52
  have hb : Below w.heap.size w (w.alloc (.cells #[.slice A ws.length c, .slice B bs.length d] 30)) := (Below.refl _ w).alloc (Nat.le_refl _) _
  have m1 := m.later hb
  rcases inR_cases bs.length i with ⟨k, hk, rfl⟩ | hno
  · obtain ⟨b, off, rfl, hb', hc⟩ := m1.bxs.2 (by omega)
    obtain ⟨q, hq⟩ : ∃ q, bs[k]? = some q := ⟨bs[k], List.getElem?_eq_getElem hk⟩
    have hck := hc k q.val (by simp [hq])
    have hm := List.mem_of_getElem? hq
    have HB := hide (bxV_at (boxes_at hq))
    have hqs : Sees (w.alloc (.cells #[.slice A ws.length c, .slice (some ⟨b, off, none⟩) bs.length d] 30)) (w.alloc (.cells #[.slice A ws.length c, .slice (some ⟨b, off, none⟩) bs.length d] 30)).heap.size 3 q.A q.l.length (ecells q.l) := m1.each q hm
    have hql := m1.short q hm
    rw [erV_at hk]
    have hk0 : (0 : Int) ≤ (k : Int) := Int.natCast_nonneg _
    have hk1 : (k : Int) < (bs.length : Int) := by omega
    have hk2 : decide ((k : Int) < 0) = false := decide_eq_false (by omega)
    obtain ⟨qA, qc, ql⟩ := q
    simp only [Bt.val] at hck
    have hce : ((w.alloc (.cells #[.slice A ws.length c, .slice (some ⟨b, off, none⟩) bs.length d] 30)).alloc (.cells #[] 83)).cell? ⟨b, off + k, none⟩ = some (.slice qA ql.length qc) := cell_keep hck ((Below.refl _ _).alloc (Nat.le_refl _) _)
    clear hq hc m m1 hm
    go_enter Try.func22, Try.ntmps22
    go_wp2_with (at_builtin; refine wpList_clone (w.alloc (.cells #[.slice A ws.length c, .slice (some ⟨b, off, none⟩) bs.length d] 30)) rfl _ _ 53 rfl 83 i0 _ 3 24 Try.underlying53 hi0 hz0 hz1 hz2 rfl (by omega) (w.heap.size + 1) (by simp) rfl qA ql.length qc _ rfl hqs (ecells_one ql) (by unfold maxLen; simp at hql; omega) (by simp at hql; omega) ?_; intro A1 c1 w1 hown1 hB1)
    go_ret2
    have hq' : bxV (boxes bs) (k : Int) = ql := HB.out
    rw [REPost, hq']
    exact ⟨A1, c1, rfl, Sees.of_own hown1, below_next hb (by simp) hB1⟩
  · rw [bxV_no (by rw [boxes_length]; exact hno), erV_no hno]
    clear m m1
    by_cases h0 : i < 0
    · clear hno
      go_enter Try.func22, Try.ntmps22
      go_wp2
      go_ret2
      exact ⟨none, 0, rfl, Sees.empty, hb⟩
    · have h1 : (0 : Int) ≤ i := by omega
      have h2 : (bs.length : Int) ≤ i := by omega
      have h3 : decide (i < 0) = false := decide_eq_false (by omega)
      clear hno
      go_enter Try.func22, Try.ntmps22
      go_wp2
      go_ret2
      exact ⟨none, 0, rfl, Sees.empty, hb⟩

/-- One box of a new row of boxes is written. -/
theorem bx_set {W w3 : World} {A A3 B : Option Addr} {ws : List Int} {bs : List Bt} {lb : List E3} {g k c : Nat} (m : MemAt W A ws B bs) (hB : Below W.heap.size W w3) (hg : W.heap.size ≤ g)
    (hset : Sees (w3.setCell ⟨g, k, none⟩ (.slice A3 lb.length c)) w3.heap.size 1 (some ⟨g, 0, none⟩) bs.length ((bs.map Bt.val).set k (.slice A3 lb.length c)))
    (hs3 : Sees w3 w3.heap.size 3 A3 lb.length (ecells lb)) (hf : Fresh W A3) (hne : ∀ p, A3 = some p → p.block ≠ g) :
    BxOk W (w3.setCell ⟨g, k, none⟩ (.slice A3 lb.length c)) B bs lb (some ⟨g, 0, none⟩) (bs.set k ⟨A3, c, lb⟩) := by
  have hlen : (bs.set k ⟨A3, c, lb⟩).length = bs.length := by simp
  have hfar : ∀ q, q ∈ bs → q.Ok (w3.setCell ⟨g, k, none⟩ (.slice A3 lb.length c)) := by
    intro q hq
    have h1 : Sees W W.heap.size 3 q.A q.l.length (ecells q.l) := m.each q hq
    exact ((h1.below hB).lt g k _ hg).up (by have := hB.size; simp; omega)
  have hnew : Bt.Ok (w3.setCell ⟨g, k, none⟩ (.slice A3 lb.length c)) ⟨A3, c, lb⟩ := by
    have : Sees (w3.setCell ⟨g, k, none⟩ (.slice A3 lb.length c)) w3.heap.size 3 A3 lb.length (ecells lb) := hs3.far g k _ hne
    exact this.up (by simp)
  refine ⟨?_, ?_, .inr (fun q hq => by cases hq; exact hg), ?_, hlen⟩
  · rw [hlen, List.map_set]
    exact hset.up (by simp)
  · intro q hq
    rcases List.mem_or_eq_of_mem_set hq with h | rfl
    · exact hfar q h
    · exact hnew
  · intro q hq
    rcases List.mem_or_eq_of_mem_set hq with h | rfl
    · exact .inl h
    · exact .inr ⟨hf, rfl⟩

theorem infoRowR : (Try.prog.info? 53).map (fun i => (i.zero, i.size, i.bytes)) = some (some (.slice none 0 0), 1, 24) := by kernel_rfl

set_option maxRecDepth 100000 in
set_option maxHeartbeats 1000000 in
theorem rput_any (A B E : Option Addr) (c d n : Nat) (ws : List Int) (bs : List Bt) (lb : List E3) (i : Int) (w : World) (m : MemOk w A ws B bs) (hl : lb.length ≤ 20000) (he : Sees w w.heap.size 3 E lb.length (ecells lb)) :
    Calls Try.prog 24 #[.agg #[.slice A ws.length c, .slice B bs.length d], .int .i64 i, .slice E lb.length n] w (MPPost A ws.length c B bs (ptV (boxes bs) i lb) lb (erV bs.length i) w) := by
  obtain ⟨i0, hi0, hz0, hz1, hz2⟩ := info_parts infoRowR
  obtain ⟨j0, hj0, hy0, hy1, hy2⟩ := info_parts info52
  have hb : Below w.heap.size w ((w.alloc (.cells #[.slice A ws.length c, .slice B bs.length d] 30)).alloc (.cells #[.slice none 0 0, .slice none 0 0] 30)) := ((Below.refl _ w).alloc (Nat.le_refl _) _).alloc (by simp) _
  have HM := hide m
  have m1 := m.later hb
  have e1 := he.later hb
  rcases inR_cases bs.length i with ⟨k, hk, rfl⟩ | hno
  · rw [erV_at hk]
    have HV := hide (ptV_at lb (show k < (boxes bs).length by rw [boxes_length]; exact hk))
    have hk0 : (0 : Int) ≤ (k : Int) := Int.natCast_nonneg _
    have hk1 : (k : Int) < (bs.length : Int) := by omega
    have hk2 : decide ((k : Int) < 0) = false := decide_eq_false (by omega)
    have s1 := m1.bxs
    have hf := m1.fewb
    clear m m1
    go_enter Try.func24, Try.ntmps24
    go_wp2_with (first | (at_builtin; refine wpList_clone ((w.alloc (.cells #[.slice A ws.length c, .slice B bs.length d] 30)).alloc (.cells #[.slice none 0 0, .slice none 0 0] 30)) rfl _ _ 28 rfl 53 i0 _ 1 24 Try.underlying28 hi0 hz0 hz1 hz2 rfl (by omega) (w.heap.size + 1 + 1) (by simp) rfl B bs.length d _ rfl s1 (val_one bs) (by unfold maxLen; omega) (by omega) ?_; intro A1 c1 w1 hown1 hB1; have e2 := e1.later hB1) | (at_builtin; refine wpList_clone w1 rfl _ _ 53 rfl 83 j0 _ 3 24 Try.underlying53 hj0 hy0 hy1 hy2 rfl (by omega) w1.heap.size rfl rfl E lb.length n _ rfl e2 (ecells_one lb) (by unfold maxLen; omega) (by omega) ?_; intro A3 c3 w3 hown3 hB3; obtain ⟨g, u, rfl, hg, hgu, hgf, hset⟩ := own_set (.slice A3 lb.length c3) (own_below hown1 hB3) hk; have q2 : w3.cell? ⟨w.heap.size + 1, 0, none⟩ = some (.slice none 0 0) := cell_keep (cell_keep (by simp [go_sem]) hB1) hB3; have q3 : w3.cell? ⟨w.heap.size + 1, 1, none⟩ = some (.slice none 0 0) := cell_keep (cell_keep (by simp [go_sem]) hB1) hB3; have q0 : w3.cell? ⟨w.heap.size, 0, none⟩ = some (.slice A ws.length c) := cell_keep (cell_keep (by simp [go_sem]) hB1) hB3; have f2 : w3.frozen? ⟨w.heap.size + 1, 0, none⟩ = false := frozen_keep hB3 (by have := hB1.size; simp at this; omega) (frozen_keep hB1 (by simp) (by simp [go_sem])); have f3 : w3.frozen? ⟨w.heap.size + 1, 1, none⟩ = false := frozen_keep hB3 (by have := hB1.size; simp at this; omega) (frozen_keep hB1 (by simp) (by simp [go_sem])); have hg' : w.heap.size + 1 + 1 ≤ g := by { simpa using hg }; have hne : ¬ g = w.heap.size + 1 := by { omega }; have hne0 : ¬ g = w.heap.size := by { omega }))
    (try simp only [Exit.inBlock, Exit.then])
    refine bodyPost_ret (v := .tuple #[.agg #[.slice A ws.length c, .slice (some ⟨g, 0, none⟩) bs.length c1], .int .i64 0]) (by simp [results, Try.results24, go_sem, q2, q3]) rfl ?_
    have hgl : g < w1.heap.size := (hown1.lt g rfl).2
    have hf3 := fresh_own hown3
    have hB3' := below_next hB1 hB1.size hB3
    have hx := bx_set (HM.out.toMemAt.later hb) hB3' hg hset (c := c3) (Sees.of_own hown3) (hf3.before hB1.size) (fun p hp => by have := hf3 p hp; omega)
    have hlen : (bs.set k ⟨A3, c3, lb⟩).length = bs.length := by simp
    refine ⟨some ⟨g, 0, none⟩, c1, bs.set k ⟨A3, c3, lb⟩, by rw [hlen], by rw [HV.out, boxes, boxes, List.map_set], ((hx.far HM.out.toMemAt (w.heap.size + 1) 0 _ (by omega) (by simp)).far HM.out.toMemAt (w.heap.size + 1) 1 _ (by omega) (by simp)).before (by simp; omega),
      (((below_next hb (by simp; omega) hB3').setCell (by show w.heap.size ≤ g; omega) _).setCell (by simp) _).setCell (by simp) _⟩
  · rw [ptV_no lb (by rw [boxes_length]; exact hno), erV_no hno]
    clear hb m m1 e1
    by_cases h0 : i < 0
    · clear hno
      go_enter Try.func24, Try.ntmps24
      go_wp2
      (try simp only [Exit.inBlock, Exit.then])
      refine bodyPost_ret (v := .tuple #[.agg #[.slice A ws.length c, .slice B bs.length d], .int .i64 30]) (by simp [results, Try.results24, go_sem]) rfl ?_
      have hb' : Below w.heap.size w (w.alloc (.cells #[.slice A ws.length c, .slice B bs.length d] 30) |>.alloc (.cells #[.slice A ws.length c, .slice B bs.length d] 30)) := ((Below.refl _ w).alloc (Nat.le_refl _) _).alloc (by simp) _
      have m2 := HM.out.later hb'
      exact ⟨B, d, bs, rfl, rfl, ⟨m2.bxs, m2.each, .inl rfl, fun _ hq => .inl hq, rfl⟩, hb'⟩
    · have h1 : (0 : Int) ≤ i := by omega
      have h2 : (bs.length : Int) ≤ i := by omega
      have h3 : decide (i < 0) = false := decide_eq_false (by omega)
      clear hno
      go_enter Try.func24, Try.ntmps24
      go_wp2
      (try simp only [Exit.inBlock, Exit.then])
      refine bodyPost_ret (v := .tuple #[.agg #[.slice A ws.length c, .slice B bs.length d], .int .i64 30]) (by simp [results, Try.results24, go_sem]) rfl ?_
      have hb' : Below w.heap.size w (w.alloc (.cells #[.slice A ws.length c, .slice B bs.length d] 30) |>.alloc (.cells #[.slice A ws.length c, .slice B bs.length d] 30)) := ((Below.refl _ w).alloc (Nat.le_refl _) _).alloc (by simp) _
      have m2 := HM.out.later hb'
      exact ⟨B, d, bs, rfl, rfl, ⟨m2.bxs, m2.each, .inl rfl, fun _ hq => .inl hq, rfl⟩, hb'⟩
end Go.Proofs.Ytkiagdlcbfdgnaa
