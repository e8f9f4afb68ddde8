/- The contract of the law's memory. -/
import Derived.Test.YtjghdbkkjhnpfaaGreatM4
import Derived.Test.YtjghdbkkjhnpfaaGreatM2
import Derived.OneCell
import Derived.Deep.RegionLaw
namespace Go.Proofs.YtjghdbkkjhnpfaaGreat
open Go.RowKit

theorem boxes_atL {bs : List Bt} {k : Nat} {q : Bt} (h : bs[k]? = some q) : (boxes bs)[k]? = some q.l := by simp [boxes, h]
theorem infoRowL : (Tryz.prog.info? 48).map (fun i => (i.zero, i.size, i.bytes)) = some (some (.slice none 0 0), 1, 24) := by kernel_rfl

/-- A memory alone. -/
def MLPost (A : Option Addr) (c : Nat) (ws : List Int) (bx : List (List E3)) (w : World) (x : Ending) (w' : World) : Prop :=
  ∃ B d bs, x = .returned (.agg #[.slice A ws.length c, .slice B (List.length bs) d]) ∧ boxes bs = bx ∧ MemOk w' A ws B bs ∧ Fresh w B ∧ (∀ q ∈ bs, 0 < q.l.length → Fresh w q.A) ∧ Below w.heap.size w w'

/-- How things lie while the boxes are turned one by one: H and what is behind it are the call's own. -/
structure ItsLt (H : Nat) (w : World) (a b : Value) (wr : World) (rv : Value) (qs : List Bt) : Prop where
  mb : wr.cell? ⟨H, 1, none⟩ = some b
  o0 : wr.cell? ⟨H + 1 + 1, 0, none⟩ = some a
  o1 : wr.cell? ⟨H + 1 + 1, 1, none⟩ = some rv
  r0 : wr.cell? ⟨H + 1, 0, none⟩ = some (.slice none 0 0)
  r1 : wr.cell? ⟨H + 1, 1, none⟩ = some (.slice none 0 0)
  fo : wr.frozen? ⟨H + 1 + 1, 1, none⟩ = false
  f0 : wr.frozen? ⟨H + 1, 0, none⟩ = false
  f1 : wr.frozen? ⟨H + 1, 1, none⟩ = false
  own : wr.ownsRow (H + 1 + 1 + 1) 48 1 rv qs.length (qs.map Bt.val)
  each : ∀ q ∈ qs, q.Ok wr ∧ (0 < q.l.length → ∀ p, q.A = some p → H + 1 + 1 + 1 ≤ p.block ∧ rv.ownBlock ≠ some p.block)
  bel : Below H w wr
  big : H + 1 + 1 + 1 ≤ wr.heap.size

theorem fresh_ownL {w' : World} {base : Nat} {e : TypeId} {sz n m c : Nat} {A : Option Addr} {xs : List Value} (h : w'.ownsRow base e sz (.slice A m c) n xs) : ∀ p, A = some p → base ≤ p.block := by
  rintro ⟨b, o, s⟩ rfl
  rcases h.2 with ⟨hv, _⟩ | ⟨g, cap, cur, hv, hb, _⟩
  · cases hv
  · injection hv with h1; injection h1 with h2; injection h2 with h3; rw [h3]; exact hb
theorem ItsLt.step {H : Nat} {w wr w1 w3 : World} {a b rv : Value} {qs : List Bt} {A1 : Option Addr} {c1 g cap : Nat} {l : List E3} {tmp : Obj} (h : ItsLt H w a b wr rv qs) (hb1 : Below wr.heap.size wr w1)
    (hs : Sees w1 w1.heap.size 3 A1 l.length (ecells l)) (hf : Fresh wr A1)
    (hown : w3.ownsRow (H + 1 + 1 + 1) 48 1 (.slice (some ⟨g, 0, none⟩) (qs.length + 1) cap) (qs.length + 1) (qs.map Bt.val ++ [.slice A1 l.length c1]))
    (hg : (w1.alloc tmp).grownBy w3 rv.ownBlock) (hat : rv.ownBlock = some g ∨ g = w1.heap.size + 1) :
    ItsLt H w a b (w3.setCell ⟨H + 1 + 1, 1, none⟩ (.slice (some ⟨g, 0, none⟩) (qs.length + 1) cap)) (.slice (some ⟨g, 0, none⟩) (qs.length + 1) cap) (qs ++ [⟨A1, c1, l⟩]) := by
  have z1 := hb1.size
  have z0 := h.big
  have hrow : ∀ k, k < H + 1 + 1 + 1 → some k ≠ rv.ownBlock := fun k hk e => by have := (h.own.lt k e.symm).1; omega
  have hgl : H + 1 + 1 + 1 ≤ g := by
    rcases hat with e | e
    · exact (h.own.lt g e).1
    · omega
  have hc : ∀ k o v, k < H + 1 + 1 + 1 → wr.cell? ⟨k, o, none⟩ = some v → w3.cell? ⟨k, o, none⟩ = some v := fun k o v hk e => by
    have e1 := cell_keep e hb1
    rw [hg.cell_far ⟨k, o, none⟩ (by simp; omega) (hrow k hk)]
    exact cell_keep e1 ((Below.refl _ _).alloc (Nat.le_refl _) _)
  have hz : ∀ k o, k < H + 1 + 1 + 1 → wr.frozen? ⟨k, o, none⟩ = false → w3.frozen? ⟨k, o, none⟩ = false := fun k o hk e => by
    have e1 := frozen_keep hb1 (by omega) e
    rw [hg.frozen_far ⟨k, o, none⟩ (by simp; omega) (hrow k hk)]
    exact frozen_keep ((Below.refl _ _).alloc (Nat.le_refl _) _) (by omega) e1
  have hseen : ∀ (q : Bt), Sees w1 w1.heap.size 3 q.A q.l.length (ecells q.l) → (0 < q.l.length → ∀ p, q.A = some p → H + 1 + 1 + 1 ≤ p.block ∧ rv.ownBlock ≠ some p.block) →
      q.Ok (w3.setCell ⟨H + 1 + 1, 1, none⟩ (.slice (some ⟨g, 0, none⟩) (qs.length + 1) cap)) ∧ (0 < q.l.length → ∀ p, q.A = some p → H + 1 + 1 + 1 ≤ p.block ∧ (Value.slice (some ⟨g, 0, none⟩) (qs.length + 1) cap).ownBlock ≠ some p.block) := by
    intro q hq hne
    refine ⟨⟨hq.1, fun hn => ?_⟩, fun hn p hp => ?_⟩
    · obtain ⟨b', off, e, hb', hcc⟩ := hq.2 hn
      obtain ⟨h1, h2⟩ := hne hn _ e
      have h1' : H + 1 + 1 + 1 ≤ b' := h1
      refine ⟨b', off, e, by have := hg.size; simp at this ⊢; omega, fun j u hu => ?_⟩
      rw [World.cell?_setCell_other _ _ _ _ (by intro h3; rw [Addr.mk.injEq] at h3; omega), hg.cell_far ⟨b', off + j, none⟩ (by simp; omega) (Ne.symm h2)]
      exact cell_keep (hcc j u hu) ((Below.refl _ _).alloc (Nat.le_refl _) _)
    · obtain ⟨h1, h2⟩ := hne hn p hp
      refine ⟨h1, fun e => ?_⟩
      obtain ⟨b', off, e', hb', _⟩ := hq.2 hn
      rw [e'] at hp
      cases hp
      have eg : g = b' := by simpa [Value.ownBlock] using e
      subst eg
      rcases hat with e2 | e2
      · exact h2 e2
      · omega
  refine ⟨?_, ?_, ?_, ?_, ?_, ?_, ?_, ?_, ?_, ?_, ?_, ?_⟩
  · rw [World.cell?_setCell_other _ _ _ _ (by intro h3; rw [Addr.mk.injEq] at h3; omega)]; exact hc _ _ _ (by omega) h.mb
  · rw [World.cell?_setCell_other _ _ _ _ (by intro h3; rw [Addr.mk.injEq] at h3; omega)]; exact hc _ _ _ (by omega) h.o0
  · exact World.cell?_setCell_same _ _ _ (hc _ _ _ (by omega) h.o1)
  · rw [World.cell?_setCell_other _ _ _ _ (by intro h3; rw [Addr.mk.injEq] at h3; omega)]; exact hc _ _ _ (by omega) h.r0
  · rw [World.cell?_setCell_other _ _ _ _ (by intro h3; rw [Addr.mk.injEq] at h3; omega)]; exact hc _ _ _ (by omega) h.r1
  · rw [World.frozen?_setCell]; exact hz _ _ (by omega) h.fo
  · rw [World.frozen?_setCell]; exact hz _ _ (by omega) h.f0
  · rw [World.frozen?_setCell]; exact hz _ _ (by omega) h.f1
  · have := ownsRow_setCell_below hown (a := ⟨H + 1 + 1, 1, none⟩) (by show H + 1 + 1 < H + 1 + 1 + 1; omega) (.slice (some ⟨g, 0, none⟩) (qs.length + 1) cap)
    simpa [Bt.val] using this
  · intro q hq
    rcases List.mem_append.1 hq with hq | hq
    · obtain ⟨q1, q2⟩ := h.each q hq
      have q1' : Sees wr wr.heap.size 3 q.A q.l.length (ecells q.l) := q1
      exact hseen q (q1'.later hb1) q2
    · rw [List.mem_singleton] at hq
      subst hq
      exact hseen ⟨A1, c1, l⟩ hs (fun hn p hp => ⟨by have := hf p hp; omega, fun e => by have := (h.own.lt _ e).2; have := hf p hp; omega⟩)
  · exact (((h.bel.trans (hb1.mono (by omega))).alloc (by omega) _).grown hg (by simp; omega) (fun k hk => by have := (h.own.lt k hk).1; omega)).setCell (by show H ≤ H + 1 + 1; omega) _
  · have := hg.size; simp at this ⊢; omega

set_option maxRecDepth 100000 in
set_option maxHeartbeats 4000000 in
theorem memory_any (A B : Option Addr) (c d : Nat) (ws : List Int) (bs : List Bt) (w : World) (m : MemOk w A ws B bs) :
    Calls Tryz.prog 26 #[.agg #[.slice A ws.length c, .slice B bs.length d]] w (MLPost A c ws (boxes bs) w) := by
  obtain ⟨i0, hi0, hz0, hz1, hz2⟩ := info_parts infoRowL
  have hb : Below w.heap.size w (((w.alloc (.cells #[.slice A ws.length c, .slice B bs.length d] 27)).alloc (.cells #[.slice none 0 0, .slice none 0 0] 46)).alloc (.cells #[.slice A ws.length c, .slice none 0 0] 46)) := (((Below.refl _ w).alloc (Nat.le_refl _) _).alloc (by simp) _).alloc (by simp; omega) _
  have start : ItsLt w.heap.size w (.slice A ws.length c) (.slice B bs.length d) (((w.alloc (.cells #[.slice A ws.length c, .slice B bs.length d] 27)).alloc (.cells #[.slice none 0 0, .slice none 0 0] 46)).alloc (.cells #[.slice A ws.length c, .slice none 0 0] 46)) (.slice none 0 0) [] :=
    ⟨by simp [go_sem], by simp [go_sem], by simp [go_sem], by simp [go_sem], by simp [go_sem], by simp [go_sem], by simp [go_sem], by simp [go_sem], World.ownsRow_nil _ _ _ _, fun q hq => (List.not_mem_nil hq).elim, hb, by simp⟩
  have HM := hide m
  have ST := hide start
  clear m start hb
  go_enter Tryz.func26, Tryz.ntmps26
  go_wp2
  go_loopw [4] (fun i wr => ∃ (j : Nat) (rv : Value) (qs : List Bt), j ≤ bs.length ∧ i = .int .i64 j ∧ qs.length = j ∧ boxes qs = (boxes bs).take j ∧ ItsLt w.heap.size w (.slice A ws.length c) (.slice B bs.length d) wr rv qs) (fun i _ => bs.length - (intOf i).toNat)
  case atStart => exact ⟨0, _, [], Nat.zero_le _, rfl, rfl, rfl, ST.out⟩
  case round =>
    obtain ⟨j, rv, qs, hj, rfl, hql, hqb, hat⟩ := hrel
    have p1 := hat.mb
    have po := hat.o1
    have fo := hat.fo
    have hown := hat.own
    have HAT := hide hat
    have HQL := hide hql
    have HQB := hide hqb
    have hfb := HM.out.fewb
    by_cases hlt : j < bs.length
    · have mr := HM.out.later hat.bel
      obtain ⟨b, off, e0, hb', hc⟩ := HM.out.bxs.2 (by omega)
      obtain ⟨q, hq⟩ : ∃ q, bs[j]? = some q := ⟨bs[j], List.getElem?_eq_getElem hlt⟩
      have hcq : wr.cell? ⟨b, off + j, none⟩ = some q.val := (hat.bel.cell (p := ⟨b, off + j, none⟩) hb').trans (hc j q.val (by simp [hq]))
      have hqs : Sees wr wr.heap.size 3 q.A q.l.length (ecells q.l) := mr.each q (List.mem_of_getElem? hq)
      have hqn := mr.short q (List.mem_of_getElem? hq)
      have HBX := hide (take_snoc (boxes bs) j q.l (boxes_atL hq))
      obtain ⟨qA, qc, ql⟩ := q
      simp only [Bt.val] at hcq hqs hqn HBX
      have KE := hide (ents_any qA qc ql ql.length rfl (by omega) wr.drew (hqs.hold fun _ _ => rfl))
      subst e0
      have hj0 : (0 : Int) ≤ (j : Int) := Int.natCast_nonneg _
      have hj1 : (j : Int) < (bs.length : Int) := by omega
      have hbig := hat.big
      have zb : b < wr.heap.size := Nat.lt_of_lt_of_le hb' hat.bel.size
      have hne2 : rv.ownBlock ≠ some b := fun e => by have := (hown.lt b e).1; omega
      have hneH : rv.ownBlock ≠ some w.heap.size := fun e => by have := (hown.lt _ e).1; omega
      have hneO : rv.ownBlock ≠ some (w.heap.size + 1 + 1) := fun e => by have := (hown.lt _ e).1; omega
      have nbH : ¬ b = w.heap.size + 1 + 1 := by omega
      clear hq hc hqs mr hat hql hqb
      go_wp2_with fail
      go_region_law
        (first
          | (go_simp; go_at_call 61; refine KE.out.mono ?_; rintro x w1 ⟨A1, c1, rfl, hc1, hs1, hf1, hb1⟩; have po1 : w1.cell? ⟨w.heap.size + 1 + 1, 1, none⟩ = some rv := cell_keep (w := wr.drew) po hb1; have hzz : wr.heap.size ≤ w1.heap.size := hb1.size; have po2 : (w1.alloc (.cells #[.slice A1 ql.length c1] 48)).cell? ⟨w.heap.size + 1 + 1, 1, none⟩ = some rv := cell_keep po1 ((Below.refl _ _).alloc (Nat.le_refl _) _))
          | (refine step_append_lies _ (by rfl) _ _ _ (by rfl) (w.heap.size + 1 + 1 + 1) 48 i0 _ 1 24 Tryz.underlying44 hi0 hz0 hz1 hz2 rfl (by omega) rv qs.length (qs.map Bt.val) (by rfl) ((own_below (World.ownsRow.drew hown) hb1).alloc _) ⟨w1.heap.size, 0, none⟩ 1 1 [.slice A1 ql.length c1] (by rfl) (by rfl) (World.news_of_block (cs := #[.slice A1 ql.length c1]) (t := 48) (fr := (0, 0)) (heap_alloc_new w1 _)) (by simp [Value.oneCell']) (by omega) (by have := HQL.out; unfold maxLen; omega) (by have := HQL.out; omega) (by simp; omega) (w1.heap.size + 1) (by simp) ?_; intro g cap w3 hown3 hgrow hplace hlt3; have po3 : w3.cell? ⟨w.heap.size + 1 + 1, 1, none⟩ = some rv := (hgrow.cell_far ⟨w.heap.size + 1 + 1, 1, none⟩ (by simp; omega) (Ne.symm hneO)).trans (cell_keep po1 ((Below.refl _ _).alloc (Nat.le_refl _) _)); have fo3 : w3.frozen? ⟨w.heap.size + 1 + 1, 1, none⟩ = false := (hgrow.frozen_far ⟨w.heap.size + 1 + 1, 1, none⟩ (by simp; omega) (Ne.symm hneO)).trans (frozen_keep ((Below.refl _ _).alloc (Nat.le_refl _) _) (by omega) (frozen_keep (w := wr.drew) hb1 (by show _ < wr.heap.size; omega) fo))))
      all_goals
        have hb1' : Below wr.heap.size wr w1 := ((Below.refl _ wr).drew).trans hb1
        have hn := HAT.out.step hb1' hs1 hf1 hown3 hgrow hplace
        clear hown hown3 hgrow hplace HAT ST KE hb1 hb1' hs1 hf1 p1 hcq po po1 po2 po3 fo fo3 hne2 hneH hneO
        go_wp2
        go_roundw
        case rel => exact ⟨j + 1, _, qs ++ [⟨A1, c1, ql⟩], by omega, by go_num, by rw [List.length_append, HQL.out]; rfl, by rw [HBX.out, ← HQB.out]; simp [boxes], hn⟩
        case measure => simp [intOf]; omega
    · obtain rfl : j = bs.length := by omega
      obtain ⟨B', d', rfl, hd'⟩ := own_form hown
      have o0 := hat.o0
      have r0 := hat.r0
      have r1 := hat.r1
      have f0 := hat.f0
      have f1 := hat.f1
      have hbig := hat.big
      clear hql hqb hat ST
      go_wp2
      (try simp only [Exit.inBlock, Exit.then])
      refine bodyPost_ret (v := .agg #[.slice A ws.length c, .slice B' qs.length d']) (by simp [results, Tryz.results26, go_sem, r0, r1]) rfl ?_
      have hbx : boxes qs = boxes bs := by
        have := HQB.out
        rwa [List.take_of_length_le (by rw [boxes_length]; exact Nat.le_refl _)] at this
      have hB := ((HAT.out.bel.setCell (p := ⟨w.heap.size + 1, 0, none⟩) (by simp) (.slice A ws.length c)).setCell (p := ⟨w.heap.size + 1, 1, none⟩) (by simp) (.slice B' qs.length d'))
      have hz : ((wr.setCell ⟨w.heap.size + 1, 0, none⟩ (.slice A ws.length c)).setCell ⟨w.heap.size + 1, 1, none⟩ (.slice B' qs.length d')).heap.size = wr.heap.size := by simp
      have hblk : ∀ p, B' = some p → p.block ≠ w.heap.size + 1 := by
        intro p hp
        have := fresh_ownL hown p hp
        omega
      refine ⟨B', d', qs, rfl, hbx, ⟨⟨HM.out.words.later hB, ?_, fun q hq => ?_⟩, HM.out.few, by rw [HQL.out]; exact HM.out.fewb, fun q hq => ?_⟩, (fun p hp => by have := fresh_ownL hown p hp; omega), (fun q hq h0 p hp => by have := ((HAT.out.each q hq).2 h0 p hp).1; omega), hB⟩
      · exact (((Sees.of_own hown).far (w.heap.size + 1) 0 _ hblk).far (w.heap.size + 1) 1 _ hblk).up (by rw [hz]; exact Nat.le_refl _)
      · obtain ⟨q1, q2⟩ := HAT.out.each q hq
        have q1' : Sees wr wr.heap.size 3 q.A q.l.length (ecells q.l) := q1
        have q3 : Sees ((wr.setCell ⟨w.heap.size + 1, 0, none⟩ (.slice A ws.length c)).setCell ⟨w.heap.size + 1, 1, none⟩ (.slice B' qs.length d')) wr.heap.size 3 q.A q.l.length (ecells q.l) := by
          rcases Nat.eq_zero_or_pos q.l.length with h0 | h0
          · exact ⟨q1'.1, fun hn => absurd hn (by omega)⟩
          · have hne : ∀ p, q.A = some p → p.block ≠ w.heap.size + 1 := fun p hp => by have := (q2 h0 p hp).1; omega
            exact (q1'.far (w.heap.size + 1) 0 _ hne).far (w.heap.size + 1) 1 _ hne
        exact q3.up (by rw [hz]; exact Nat.le_refl _)
      · have h1 : q.l ∈ boxes bs := by rw [← hbx]; exact List.mem_map.2 ⟨q, hq, rfl⟩
        obtain ⟨q', hq', e⟩ := List.mem_map.1 h1
        rw [← e]
        exact HM.out.short q' hq'
end Go.Proofs.YtjghdbkkjhnpfaaGreat
