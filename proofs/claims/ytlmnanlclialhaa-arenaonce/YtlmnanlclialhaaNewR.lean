/- The contract of the document's New. -/
import Derived.Test.YtlmnanlclialhaaNewM
import Derived.Maps.AppendAt
namespace Go.Proofs.Ytlmnanlclialhaa
open Go.RowKit

/-- How things lie while words, then boxes, are added one by one. -/
structure RNew (H : Nat) (w wr : World) (u v : Value) (n : Nat) (qs : List Bt) : Prop where
  m0 : wr.cell? ⟨H + 1, 0, none⟩ = some u
  m1 : wr.cell? ⟨H + 1, 1, none⟩ = some v
  r0 : wr.cell? ⟨H, 0, none⟩ = some (.slice none 0 0)
  r1 : wr.cell? ⟨H, 1, none⟩ = some (.slice none 0 0)
  g0 : wr.frozen? ⟨H + 1, 0, none⟩ = false
  g1 : wr.frozen? ⟨H + 1, 1, none⟩ = false
  f0 : wr.frozen? ⟨H, 0, none⟩ = false
  f1 : wr.frozen? ⟨H, 1, none⟩ = false
  own1 : wr.ownsRow (H + 1 + 1) 3 1 u n (List.replicate n (.int .i64 0))
  own2 : wr.ownsRow (H + 1 + 1) 60 1 v qs.length (qs.map Bt.val)
  ne : u.ownBlock = none ∨ u.ownBlock ≠ v.ownBlock
  emp : ∀ q ∈ qs, q.l = []
  bel : Below H w wr
  big : H + 1 + 1 ≤ wr.heap.size

section
variable {H n : Nat} {w wr w1 w2 : World} {u v : Value} {qs : List Bt}
theorem RNew.cell (hb : Below wr.heap.size wr w1) {row : Option Nat} (hg : w1.grownBy w2 row) (hr : ∀ k, row = some k → H + 1 + 1 ≤ k) (hH : H + 1 + 1 ≤ wr.heap.size) {k o : Nat} {x : Value} (hk : k < H + 1 + 1) (h : wr.cell? ⟨k, o, none⟩ = some x) : w2.cell? ⟨k, o, none⟩ = some x := by
  have := hb.size
  rw [hg.cell_far ⟨k, o, none⟩ (by simp; omega) (fun e => by have := hr k e.symm; omega)]
  exact cell_keep h hb
theorem RNew.froz (hb : Below wr.heap.size wr w1) {row : Option Nat} (hg : w1.grownBy w2 row) (hr : ∀ k, row = some k → H + 1 + 1 ≤ k) (hH : H + 1 + 1 ≤ wr.heap.size) {k o : Nat} (hk : k < H + 1 + 1) (h : wr.frozen? ⟨k, o, none⟩ = false) : w2.frozen? ⟨k, o, none⟩ = false := by
  have := hb.size
  rw [hg.frozen_far ⟨k, o, none⟩ (by simp; omega) (fun e => by have := hr k e.symm; omega)]
  exact frozen_keep hb (by omega) h

theorem RNew.word (h : RNew H w wr u (.slice none 0 0) n []) (hb : Below wr.heap.size wr w1) {u' : Value} (hown : w2.ownsRow (H + 1 + 1) 3 1 u' (n + 1) (List.replicate n (.int .i64 0) ++ [.int .i64 0])) (hg : w1.grownBy w2 u.ownBlock) :
    RNew H w (w2.setCell ⟨H + 1, 0, none⟩ u') u' (.slice none 0 0) (n + 1) [] := by
  have hH := h.big
  have hr : ∀ k, u.ownBlock = some k → H + 1 + 1 ≤ k := fun k hk => (h.own1.lt k hk).1
  have C := fun {k o : Nat} {x : Value} (hk : k < H + 1 + 1) (e : wr.cell? ⟨k, o, none⟩ = some x) => RNew.cell hb hg hr hH hk e
  have F := fun {k o : Nat} (hk : k < H + 1 + 1) (e : wr.frozen? ⟨k, o, none⟩ = false) => RNew.froz hb hg hr hH hk e
  have O : ∀ {k o : Nat} {x : Value}, (k ≠ H + 1 ∨ o ≠ 0) → w2.cell? ⟨k, o, none⟩ = some x → (w2.setCell ⟨H + 1, 0, none⟩ u').cell? ⟨k, o, none⟩ = some x := fun hk e => by
    rw [World.cell?_setCell_other _ _ _ _ (by intro h3; rw [Addr.mk.injEq] at h3; omega)]; exact e
  have hz := hb.size
  have hz2 := hg.size
  exact ⟨World.cell?_setCell_same _ _ _ (C (by omega) h.m0), O (by omega) (C (by omega) h.m1), O (by omega) (C (by omega) h.r0), O (by omega) (C (by omega) h.r1),
    by rw [World.frozen?_setCell]; exact F (by omega) h.g0, by rw [World.frozen?_setCell]; exact F (by omega) h.g1, by rw [World.frozen?_setCell]; exact F (by omega) h.f0, by rw [World.frozen?_setCell]; exact F (by omega) h.f1,
    by rw [List.replicate_succ']; exact ownsRow_setCell_below hown (by show H + 1 < H + 1 + 1; omega) _,
    World.ownsRow_nil _ _ _ _, by by_cases e : u'.ownBlock = none
                                  · exact .inl e
                                  · exact .inr (by simpa [Value.ownBlock] using e), h.emp,
    ((h.bel.trans (hb.mono (by omega))).grown hg (by omega) (fun k hk => by have := hr k hk; omega)).setCell (by show H ≤ H + 1; omega) _, by simp; omega⟩

theorem RNew.box (h : RNew H w wr u v n qs) (hb : Below wr.heap.size wr w1) {v' : Value} {q : Bt} (hq : q.l = []) (hown : w2.ownsRow (H + 1 + 1) 60 1 v' (qs.length + 1) (qs.map Bt.val ++ [q.val])) (hg : w1.grownBy w2 v.ownBlock)
    (hat : v'.ownBlock = v.ownBlock ∨ v'.ownBlock = some w1.heap.size) :
    RNew H w (w2.setCell ⟨H + 1, 1, none⟩ v') u v' n (qs ++ [q]) := by
  have hH := h.big
  have hr : ∀ k, v.ownBlock = some k → H + 1 + 1 ≤ k := fun k hk => (h.own2.lt k hk).1
  have C := fun {k o : Nat} {x : Value} (hk : k < H + 1 + 1) (e : wr.cell? ⟨k, o, none⟩ = some x) => RNew.cell hb hg hr hH hk e
  have F := fun {k o : Nat} (hk : k < H + 1 + 1) (e : wr.frozen? ⟨k, o, none⟩ = false) => RNew.froz hb hg hr hH hk e
  have O : ∀ {k o : Nat} {x : Value}, (k ≠ H + 1 ∨ o ≠ 1) → w2.cell? ⟨k, o, none⟩ = some x → (w2.setCell ⟨H + 1, 1, none⟩ v').cell? ⟨k, o, none⟩ = some x := fun hk e => by
    rw [World.cell?_setCell_other _ _ _ _ (by intro h3; rw [Addr.mk.injEq] at h3; omega)]; exact e
  have hz := hb.size
  have hz2 := hg.size
  have ho1 : w2.ownsRow (H + 1 + 1) 3 1 u n (List.replicate n (.int .i64 0)) := (own_below h.own1 hb).kept hg h.ne
  exact ⟨O (by omega) (C (by omega) h.m0), World.cell?_setCell_same _ _ _ (C (by omega) h.m1), O (by omega) (C (by omega) h.r0), O (by omega) (C (by omega) h.r1),
    by rw [World.frozen?_setCell]; exact F (by omega) h.g0, by rw [World.frozen?_setCell]; exact F (by omega) h.g1, by rw [World.frozen?_setCell]; exact F (by omega) h.f0, by rw [World.frozen?_setCell]; exact F (by omega) h.f1,
    ownsRow_setCell_below ho1 (by show H + 1 < H + 1 + 1; omega) _,
    by have := ownsRow_setCell_below hown (a := ⟨H + 1, 1, none⟩) (by show H + 1 < H + 1 + 1; omega) v'; simpa using this,
    by
      rcases h.ne with e | e
      · exact .inl e
      · rcases hat with e2 | e2
        · exact .inr (by rw [e2]; exact e)
        · refine .inr (fun e3 => ?_)
          rw [e2] at e3
          have := (h.own1.lt _ e3).2
          omega,
    fun q' hq' => by
      rcases List.mem_append.1 hq' with hh | hh
      · exact h.emp q' hh
      · rw [List.mem_singleton] at hh; rw [hh]; exact hq,
    ((h.bel.trans (hb.mono (by omega))).grown hg (by omega) (fun k hk => by have := hr k hk; omega)).setCell (by show H ≤ H + 1; omega) _, by simp; omega⟩
end

theorem rnew_end {w wr : World} {A B : Option Addr} {n k c d : Nat} {qs : List Bt} (h : RNew w.heap.size w wr (.slice A n c) (.slice B qs.length d) n qs) (hq : qs.length = k) (hn : n ≤ 10000) (hk : k ≤ 10000) :
    MFPost (List.replicate n 0) (List.replicate k []) w (.returned (.agg #[.slice A n c, .slice B qs.length d])) ((wr.setCell ⟨w.heap.size, 0, none⟩ (.slice A n c)).setCell ⟨w.heap.size, 1, none⟩ (.slice B qs.length d)) := by
  have h1 := fresh_own' h.own1
  have h2 := fresh_own' h.own2
  have ha : ∀ p, A = some p → p.block ≠ w.heap.size := fun p hp => by have := h1 p hp; omega
  have hb : ∀ p, B = some p → p.block ≠ w.heap.size := fun p hp => by have := h2 p hp; omega
  have s1 := (((Sees.of_own h.own1).far w.heap.size 0 (.slice A n c) ha).far w.heap.size 1 (.slice B qs.length d) ha).up (B' := ((wr.setCell ⟨w.heap.size, 0, none⟩ (.slice A n c)).setCell ⟨w.heap.size, 1, none⟩ (.slice B qs.length d)).heap.size) (by simp)
  have s2 := (((Sees.of_own h.own2).far w.heap.size 0 (.slice A n c) hb).far w.heap.size 1 (.slice B qs.length d) hb).up (B' := ((wr.setCell ⟨w.heap.size, 0, none⟩ (.slice A n c)).setCell ⟨w.heap.size, 1, none⟩ (.slice B qs.length d)).heap.size) (by simp)
  refine ⟨A, c, B, d, qs, by rw [List.length_replicate], ?_, ⟨⟨sees_words s1 (by simp), s2, fun q hq => ?_⟩, by simp; omega, by omega, fun q hq => by rw [h.emp q hq]; simp⟩, fun p hp => by have := h1 p hp; omega, fun p hp => by have := h2 p hp; omega, (h.bel.setCell (Nat.le_refl _) _).setCell (Nat.le_refl _) _⟩
  · have e : boxes qs = List.replicate qs.length [] := by
      rw [List.eq_replicate_iff]
      refine ⟨boxes_length qs, fun b hb => ?_⟩
      obtain ⟨q, hq, rfl⟩ := List.mem_map.1 hb
      exact h.emp q hq
    rw [e, hq]
  · have := h.emp q hq
    show Sees _ _ 3 q.A q.l.length (ecells q.l)
    rw [this]
    exact Sees.empty

theorem cnt_cases (x : Int) : (∀ j : Nat, j < cntV x → (j : Int) < x ∧ x ≤ 10000) ∧ (¬ ((cntV x : Nat) : Int) < x ∨ (((cntV x : Nat) : Int) < x ∧ 10000 < x)) := by
  unfold cntV
  split <;> constructor <;> omega

set_option maxRecDepth 100000 in
set_option maxHeartbeats 4000000 in
theorem rnewF_any (x y : Int) (w : World) : Calls Try.prog 43 #[.int .i64 x, .int .i64 y] w (MFPost (List.replicate (cntV x) 0) (List.replicate (cntV y) []) w) := by
  obtain ⟨i0, hi0, hz0, hz1, hz2⟩ := info_parts info3
  obtain ⟨j0, hj0, hy0, hy1, hy2⟩ := info_parts infoRowR
  have hx := cntV_le x
  have hy := cntV_le y
  have cx := cnt_cases x
  have cy := cnt_cases y
  obtain ⟨n, hn⟩ : ∃ n, cntV x = n := ⟨_, rfl⟩
  obtain ⟨k, hk⟩ : ∃ n, cntV y = n := ⟨_, rfl⟩
  rw [hn] at cx hx ⊢
  rw [hk] at cy hy ⊢
  clear hn hk
  obtain ⟨hin, hend⟩ := cx
  obtain ⟨hin2, hend2⟩ := cy
  have HIN := hide hin
  have HIN2 := hide hin2
  have HEND := hide hend
  have HEND2 := hide hend2
  have hb : Below w.heap.size w ((w.alloc (.cells #[.slice none 0 0, .slice none 0 0] 44)).alloc (.cells #[.slice none 0 0, .slice none 0 0] 44)) := ((Below.refl _ w).alloc (Nat.le_refl _) _).alloc (by simp) _
  have start : RNew w.heap.size w ((w.alloc (.cells #[.slice none 0 0, .slice none 0 0] 44)).alloc (.cells #[.slice none 0 0, .slice none 0 0] 44)) (.slice none 0 0) (.slice none 0 0) 0 [] :=
    ⟨by simp [go_sem], by simp [go_sem], by simp [go_sem], by simp [go_sem], by simp [go_sem], by simp [go_sem], by simp [go_sem], by simp [go_sem], World.ownsRow_nil _ _ _ _, World.ownsRow_nil _ _ _ _, .inl rfl, fun q hq => (List.not_mem_nil hq).elim, hb, by simp⟩
  have ST := hide start
  clear hin hin2 hend hend2 start hb
  go_enter Try.func43, Try.ntmps43
  go_wp2
  go_loopw [6] (fun i wr => ∃ (j : Nat) (u : Value), j ≤ n ∧ i = .int .i64 j ∧ RNew w.heap.size w wr u (.slice none 0 0) j []) (fun i _ => n - (intOf i).toNat)
  case atStart => exact ⟨0, _, Nat.zero_le _, rfl, ST.out⟩
  case round =>
    obtain ⟨j, u, hj, rfl, hat⟩ := hrel
    clear ST
    have m0 := hat.m0
    have g0 := hat.g0
    have hbig := hat.big
    have hown := hat.own1
    have HAT := hide hat
    by_cases hlt : j < n
    · obtain ⟨a1, a2⟩ := HIN.out j hlt
      have n1 : w.heap.size + 1 < wr.heap.size := by omega
      clear hat
      go_wp2_with (at_builtin; refine wpList_append_own_at _ rfl (.tmp 19) (.tmp 20) 36 rfl (w.heap.size + 1 + 1) 3 i0 _ 1 8 Try.underlying36 hi0 hz0 hz1 hz2 rfl (by omega) _ j _ rfl (hown.alloc _) ⟨wr.heap.size, 0, none⟩ 1 1 [.int .i64 0] rfl rfl (World.news_of_block (cs := #[.int .i64 0]) (t := 3) (fr := (0, 0)) (heap_alloc_new wr _)) (by simp [Value.oneCell']) (by unfold maxLen; omega) (by omega) (by simp; omega) ?_; intro u2 w2 ow2 hg2 _ hat2; obtain ⟨A2, c2, rfl, hc2⟩ := own_form ow2; have hn := HAT.out.word ((Below.refl _ _).alloc (Nat.le_refl _) _) ow2 hg2; have m2 : w2.cell? ⟨w.heap.size + 1, 0, none⟩ = some u := RNew.cell ((Below.refl _ _).alloc (Nat.le_refl _) _) hg2 (fun k hk => (hown.lt k hk).1) hbig (by omega) m0; have g2 : w2.frozen? ⟨w.heap.size + 1, 0, none⟩ = false := RNew.froz ((Below.refl _ _).alloc (Nat.le_refl _) _) hg2 (fun k hk => (hown.lt k hk).1) hbig (by omega) g0)
      go_roundw
      case rel => exact ⟨j + 1, _, by omega, by go_num, hn⟩
      case measure => simp [intOf]; omega
    · obtain rfl : j = n := by omega
      clear hat m0 g0 hown
      rcases HEND.out with he | ⟨he, he'⟩
      all_goals
        go_wp2
        go_loopw [7] (fun i wr => ∃ (j' : Nat) (v : Value) (qs : List Bt), j' ≤ k ∧ i = .int .i64 j' ∧ qs.length = j' ∧ RNew w.heap.size w wr u v j qs) (fun i _ => k - (intOf i).toNat)
        case atStart => exact ⟨0, _, [], Nat.zero_le _, rfl, rfl, HAT.out⟩
        case round =>
          obtain ⟨j', v, qs, hj', rfl, hql, hat'⟩ := hrel
          have m1 := hat'.m1
          have g1 := hat'.g1
          have hbig' := hat'.big
          have hown' := hat'.own2
          have HAT' := hide hat'
          have HQL := hide hql
          by_cases hlt' : j' < k
          · obtain ⟨b1, b2⟩ := HIN2.out j' hlt'
            have n1' : w.heap.size + 1 < wr.heap.size := by omega
            have hbw : Below wr.heap.size wr ((wr.alloc (.cells #[] 68)).alloc (.cells #[.slice (some ⟨wr.heap.size, 0, none⟩) 0 0] 60)) := ((Below.refl _ _).alloc (Nat.le_refl _) _).alloc (by simp) _
            have hnews : ∀ jj uu, ([.slice (some ⟨wr.heap.size, 0, none⟩) 0 0] : List Value)[jj]? = some uu → ((wr.alloc (.cells #[] 68)).alloc (.cells #[.slice (some ⟨wr.heap.size, 0, none⟩) 0 0] 60)).cell? ((⟨wr.heap.size + 1, 0, none⟩ : Addr).add jj) = some uu := by
              have h0 : ((wr.alloc (.cells #[] 68)).alloc (.cells #[.slice (some ⟨wr.heap.size, 0, none⟩) 0 0] 60)).heap[wr.heap.size + 1]? = some (.cells #[.slice (some ⟨wr.heap.size, 0, none⟩) 0 0] 60 (0, 0)) := by
                have := heap_alloc_new (wr.alloc (.cells #[] 68)) (.cells #[.slice (some ⟨wr.heap.size, 0, none⟩) 0 0] 60)
                simpa using this
              exact World.news_of_block h0
            have HNEWS := hide hnews
            have hzz : ((wr.alloc (.cells #[] 68)).alloc (.cells #[.slice (some ⟨wr.heap.size, 0, none⟩) 0 0] 60)).heap.size = wr.heap.size + 1 + 1 := by simp
            have HZZ := hide hzz
            clear hat' hql hnews hzz
            go_wp2_with (at_builtin; refine wpList_append_own_at _ rfl (.tmp 33) (.tmp 35) 42 rfl (w.heap.size + 1 + 1) 60 j0 _ 1 24 Try.underlying42 hj0 hy0 hy1 hy2 rfl (by omega) _ qs.length _ rfl ((hown'.alloc _).alloc _) ⟨wr.heap.size + 1, 0, none⟩ 1 1 [.slice (some ⟨wr.heap.size, 0, none⟩) 0 0] rfl rfl HNEWS.out (by simp [Value.oneCell']) (by have := HQL.out; unfold maxLen; omega) (by have := HQL.out; omega) (by simp; omega) ?_; intro u2 w2 ow2 hg2 _ hat2; obtain ⟨A2, c2, rfl, hc2⟩ := own_form ow2; have hn := HAT'.out.box hbw (q := ⟨some ⟨wr.heap.size, 0, none⟩, 0, []⟩) rfl ow2 hg2 hat2; have m2 : w2.cell? ⟨w.heap.size + 1, 1, none⟩ = some v := RNew.cell hbw hg2 (fun k hk => (hown'.lt k hk).1) hbig' (by omega) m1; have g2 : w2.frozen? ⟨w.heap.size + 1, 1, none⟩ = false := RNew.froz hbw hg2 (fun k hk => (hown'.lt k hk).1) hbig' (by omega) g1)
            go_roundw
            case rel => exact ⟨j' + 1, _, qs ++ [⟨some ⟨wr.heap.size, 0, none⟩, 0, []⟩], by omega, by go_num, by rw [List.length_append, HQL.out]; rfl, hn⟩
            case measure => simp [intOf]; omega
          · obtain rfl : j' = k := by omega
            obtain ⟨B', d', rfl, hd'⟩ := own_form hown'
            obtain ⟨A', c', rfl, hc'⟩ := own_form hat'.own1
            have m0' := hat'.m0
            have r0 := hat'.r0
            have r1 := hat'.r1
            have f0 := hat'.f0
            have f1 := hat'.f1
            have n1' : w.heap.size < wr.heap.size := by omega
            clear hat' hql
            rcases HEND2.out with he2 | ⟨he2, he2'⟩
            all_goals
              go_wp2
              (try simp only [Exit.inBlock, Exit.then])
              refine bodyPost_ret (v := .agg #[.slice A' j c', .slice B' qs.length d']) (by simp [results, Try.results43, go_sem, r0, r1]) rfl ?_
              exact rnew_end HAT'.out HQL.out hx hy
theorem rnew_any (x y : Int) (w : World) : Calls Try.prog 43 #[.int .i64 x, .int .i64 y] w (MPost (List.replicate (cntV x) 0) (List.replicate (cntV y) []) w) :=
  (rnewF_any x y w).mono fun _ _ h => h.plain
end Go.Proofs.Ytlmnanlclialhaa
