/- The law's 'its' on a memory whose boxes are empty. -/
import Derived.Test.YtlmnanlclialhaaArBd
import Derived.Deep.AppendLies
import Derived.Lib.QuietBelow
import Derived.Deep.QuietTactic
namespace Go.Proofs.Ytlmnanlclialhaa
open Go.RowKit Go.Sort
set_option linter.unusedVariables false

set_option maxRecDepth 100000 in
set_option maxHeartbeats 4000000 in
theorem its6_any (A B : Option Addr) (c d : Nat) (ws : List Int) (bs : List Bt) (w : World) (m : MemOk w A ws B bs) (emp : ∀ q ∈ bs, q.l = []) (hfb : bs.length ≤ 50) :
    Calls Try.prog 26 #[.agg #[.slice A ws.length c, .slice B bs.length d]] w (MPost ws (boxes bs) w) := by
  obtain ⟨i0, hi0, hz0, hz1, hz2⟩ := info_parts infoRowR
  have hb : RowKit.Below w.heap.size w (((w.alloc (.cells #[.slice A ws.length c, .slice B bs.length d] 39)).alloc (.cells #[.slice none 0 0, .slice none 0 0] 44)).alloc (.cells #[.slice A ws.length c, .slice none 0 0] 44)) := (((Below.refl _ w).alloc (Nat.le_refl _) _).alloc (by simp) _).alloc (by simp; omega) _
  have start : ItsAt w.heap.size w (.slice A ws.length c) (.slice B bs.length d) (((w.alloc (.cells #[.slice A ws.length c, .slice B bs.length d] 39)).alloc (.cells #[.slice none 0 0, .slice none 0 0] 44)).alloc (.cells #[.slice A ws.length c, .slice none 0 0] 44)) (.slice none 0 0) [] :=
    ⟨by simp [go_sem], by simp [go_sem], by simp [go_sem], by simp [go_sem], by simp [go_sem], by simp [go_sem], by simp [go_sem], by simp [go_sem], World.ownsRow_nil _ _ _ _, fun q hq => (List.not_mem_nil hq).elim, hb, by simp⟩
  have HM := hide m
  have ST := hide start
  have HE := hide emp
  clear m start hb emp
  go_enter Try.func26, Try.ntmps26
  go_wp2
  go_loopw [4] (fun i wr => ∃ (j : Nat) (rv : Value) (qs : List Bt), j ≤ bs.length ∧ i = .int .i64 j ∧ qs.length = j ∧ boxes qs = (boxes bs).take j ∧ ItsAt w.heap.size w (.slice A ws.length c) (.slice B bs.length d) wr rv qs) (fun i _ => bs.length - (intOf i).toNat)
  case atStart => exact ⟨0, _, [], Nat.zero_le _, rfl, rfl, rfl, ST.out⟩
  case round =>
    obtain ⟨j, rv, qs, hj, rfl, hql, hqb, hat⟩ := hrel
    have p1 := hat.mb
    have po := hat.o1
    have fo := hat.fo
    have hown := hat.own
    have HAT := hide hat
    have HQL := hide hql
    have HQB := hide hqb
    by_cases hlt : j < bs.length
    · obtain ⟨b, off, e0, hb', hc⟩ := HM.out.bxs.2 (by omega)
      obtain ⟨q, hq⟩ : ∃ q, bs[j]? = some q := ⟨bs[j], List.getElem?_eq_getElem hlt⟩
      have hcq : wr.cell? ⟨b, off + j, none⟩ = some q.val := (hat.bel.cell (p := ⟨b, off + j, none⟩) hb').trans (hc j q.val (by simp [hq]))
      have hql0 := HE.out q (List.mem_of_getElem? hq)
      have HBX := hide (take_snoc (boxes bs) j q.l (boxes_at hq))
      obtain ⟨qA, qc, ql⟩ := q
      simp only [Bt.val] at hcq hql0 HBX
      subst hql0
      simp only [List.length_nil] at hcq
      subst e0
      have hj0 : (0 : Int) ≤ (j : Int) := Int.natCast_nonneg _
      have hj1 : (j : Int) < (bs.length : Int) := by omega
      have hj2 : (j : Int) < 60 := by omega
      have hbig := hat.big
      have zb : b < wr.heap.size := Nat.lt_of_lt_of_le hb' hat.bel.size
      have hneO : rv.ownBlock ≠ some (w.heap.size + 1 + 1) := fun e => by have := (hown.lt _ e).1; omega
      have hba : RowKit.Below wr.heap.size wr (wr.alloc (.cells #[] 68)) := (Below.refl _ _).alloc (Nat.le_refl _) _
      clear hq hc hat hql hqb
      go_wp2
      go_loopw [5, 6] (fun l i wi => l = .slice (some ⟨wr.heap.size, 0, none⟩) 0 0 ∧ i = .int .i64 0 ∧ wi = wr.alloc (.cells #[] 68)) (fun _ _ _ => 0)
      case atStart => exact ⟨rfl, rfl, rfl⟩
      case round =>
        obtain ⟨rfl, rfl, rfl⟩ := hrel
        have p1' := cell_keep p1 hba
        have po' := cell_keep po hba
        have fo' := frozen_keep hba (by omega) fo
        have hcq' := cell_keep hcq hba
        have hown' := hown.alloc (.cells #[] 68)
        have hs1 : Sees (wr.alloc (.cells #[] 68)) (wr.alloc (.cells #[] 68)).heap.size 3 (some ⟨wr.heap.size, 0, none⟩) ([] : List E3).length (ecells []) := Sees.empty
        have hf1 : Fresh wr (some ⟨wr.heap.size, 0, none⟩) := fresh_at (Nat.le_refl _)
        have hz1' : wr.heap.size + 1 = (wr.alloc (.cells #[] 68)).heap.size := by simp
        generalize wr.alloc (.cells #[] 68) = w1 at *
        have hbt : RowKit.Below w1.heap.size w1 (w1.alloc (.cells #[.slice (some ⟨wr.heap.size, 0, none⟩) 0 0] 60)) := (Below.refl _ _).alloc (Nat.le_refl _) _
        have HBA := hide hba
        have HBT := hide hbt
        have HS1 := hide hs1
        have HF1 := hide hf1
        clear p1 po fo hcq hown hba hbt hs1 hf1
        go_wp2_with (at_builtin; refine wpList_append_lies _ rfl _ _ _ rfl (w.heap.size + 1 + 1 + 1) 60 i0 _ 1 24 Try.underlying42 hi0 hz0 hz1 hz2 rfl (by omega) rv qs.length (qs.map Bt.val) rfl (hown'.alloc _) ⟨w1.heap.size, 0, none⟩ 1 1 [.slice (some ⟨wr.heap.size, 0, none⟩) 0 0] rfl rfl (World.news_of_block (cs := #[.slice (some ⟨wr.heap.size, 0, none⟩) 0 0]) (t := 60) (fr := (0, 0)) (heap_alloc_new w1 _)) (by simp [Value.oneCell']) (by omega) (by have := HQL.out; unfold maxLen; omega) (by have := HQL.out; omega) (by simp; omega) (w1.heap.size + 1) (by simp) ?_; intro g cap w3 hown3 hgrow hplace hlt3; have po3 : w3.cell? ⟨w.heap.size + 1 + 1, 1, none⟩ = some rv := (hgrow.cell_far ⟨w.heap.size + 1 + 1, 1, none⟩ (by simp; omega) (Ne.symm hneO)).trans (cell_keep po' HBT.out); have fo3 : w3.frozen? ⟨w.heap.size + 1 + 1, 1, none⟩ = false := (hgrow.frozen_far ⟨w.heap.size + 1 + 1, 1, none⟩ (by simp; omega) (Ne.symm hneO)).trans (frozen_keep HBT.out (by omega) fo'))
        have hn := HAT.out.step HBA.out HS1.out HF1.out hown3 hgrow hplace
        clear hown' hown3 hgrow hplace HAT ST po' po3 fo' fo3 hneO hcq'
        go_roundw
        case rel => exact ⟨j + 1, _, qs ++ [⟨some ⟨wr.heap.size, 0, none⟩, 0, []⟩], by omega, by go_num, by rw [List.length_append, HQL.out]; rfl, by rw [HBX.out, ← HQB.out]; simp [boxes], hn⟩
        case measure => simp [intOf]; omega
    · obtain rfl : j = bs.length := by omega
      obtain ⟨B', d', rfl, hd'⟩ := own_form hown
      have o0 := hat.o0
      have r0 := hat.r0
      have r1 := hat.r1
      have f0 := hat.f0
      have f1 := hat.f1
      have hbig := hat.big
      clear hql hqb hat ST
      go_wp2
      (try simp only [Exit.inBlock, Exit.then])
      refine bodyPost_ret (v := .agg #[.slice A ws.length c, .slice B' qs.length d']) (by simp [results, Try.results26, go_sem, r0, r1]) rfl ?_
      have hbx : boxes qs = boxes bs := by
        have := HQB.out
        rwa [List.take_of_length_le (by rw [boxes_length]; exact Nat.le_refl _)] at this
      have hB := ((HAT.out.bel.setCell (p := ⟨w.heap.size + 1, 0, none⟩) (by simp) (.slice A ws.length c)).setCell (p := ⟨w.heap.size + 1, 1, none⟩) (by simp) (.slice B' qs.length d'))
      have hz : ((wr.setCell ⟨w.heap.size + 1, 0, none⟩ (.slice A ws.length c)).setCell ⟨w.heap.size + 1, 1, none⟩ (.slice B' qs.length d')).heap.size = wr.heap.size := by simp
      have hblk : ∀ p, B' = some p → p.block ≠ w.heap.size + 1 := by
        intro p hp
        have := fresh_own' hown p hp
        omega
      have hqe : ∀ q ∈ qs, q.l = [] := fun q hq => by
        have h1 : q.l ∈ boxes bs := by rw [← hbx]; exact List.mem_map.2 ⟨q, hq, rfl⟩
        obtain ⟨q', hq', e⟩ := List.mem_map.1 h1
        rw [← e]
        exact HE.out q' hq'
      refine ⟨A, c, B', d', qs, rfl, hbx, ⟨⟨HM.out.words.later hB, ?_, fun q hq => ?_⟩, HM.out.few, by rw [HQL.out]; exact HM.out.fewb, fun q hq => by rw [hqe q hq]; simp⟩, hB⟩
      · exact (((Sees.of_own hown).far (w.heap.size + 1) 0 _ hblk).far (w.heap.size + 1) 1 _ hblk).up (by rw [hz]; exact Nat.le_refl _)
      · show Sees _ _ 3 q.A q.l.length (ecells q.l)
        rw [hqe q hq]
        exact Sees.empty

end Go.Proofs.Ytlmnanlclialhaa
