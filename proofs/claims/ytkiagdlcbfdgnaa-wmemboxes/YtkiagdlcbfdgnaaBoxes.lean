/- Contracts of wmem's steps on boxes. -/
import Derived.Test.YtkiagdlcbfdgnaaWordsR
namespace Go.Proofs.Ytkiagdlcbfdgnaa
open Go.RowKit

theorem boxes_at {bs : List Bt} {k : Nat} {q : Bt} (h : bs[k]? = some q) : (boxes bs)[k]? = some q.l := by simp [boxes, h]

set_option maxRecDepth 100000 in
set_option maxHeartbeats 1000000 in
theorem readB_any (B : Option Addr) (d : Nat) (bs : List Bt) (i : Int) (w : World) (hs : Sees w w.heap.size 1 B bs.length (bs.map Bt.val)) (he : ∀ q ∈ bs, q.Ok w) :
    Calls Try.prog 34 #[.slice B bs.length d, .int .i64 i] w (fun x w' => ∃ q : Bt, x = .returned (.tuple #[.slice q.A q.l.length q.c, .int .i64 (erV bs.length i)]) ∧ q.l = bxV (boxes bs) i ∧ q.Ok w ∧ (q ∈ bs ∨ q.l = []) ∧ w' = w) := by
  rcases inR_cases bs.length i with ⟨k, hk, rfl⟩ | hno
  · obtain ⟨b, off, rfl, hb, hc⟩ := hs.2 (by omega)
    obtain ⟨q, hq⟩ : ∃ q, bs[k]? = some q := ⟨bs[k], List.getElem?_eq_getElem hk⟩
    have hck := hc k q.val (by simp [hq])
    have hm := List.mem_of_getElem? hq
    have HB := hide (bxV_at (boxes_at hq))
    have HO := hide (he q hm)
    rw [erV_at hk]
    obtain ⟨qA, qc, ql⟩ := q
    simp only [Bt.val] at hck
    clear hq hc hs he
    go_enter Try.func34, Try.ntmps34
    go_wp2
    go_ret2
    exact ⟨⟨qA, qc, ql⟩, rfl, HB.out.symm, HO.out, .inl hm, rfl⟩
  · rw [bxV_no (by rw [boxes_length]; exact hno), erV_no hno]
    clear hs he
    by_cases h0 : i < 0
    · clear hno
      go_enter Try.func34, Try.ntmps34
      go_wp2
      go_ret2
      exact ⟨⟨none, 0, []⟩, rfl, rfl, Sees.empty, .inr rfl, rfl⟩
    · have h1 : (0 : Int) ≤ i := by omega
      have h2 : (bs.length : Int) ≤ i := by omega
      clear hno
      go_enter Try.func34, Try.ntmps34
      go_wp2
      go_ret2
      exact ⟨⟨none, 0, []⟩, rfl, rfl, Sees.empty, .inr rfl, rfl⟩

/-- One batch joined: a copy of it. -/
theorem join1_any (A : Option Addr) (c : Nat) (l : List E3) (hf : l.length ≤ 100000) (w : World) (H : Nat) (hH : w.heap.size = H) (h : Sees w w.heap.size 3 A l.length (ecells l)) :
    Calls Try.prog 35 #[.slice (some ⟨H, 0, none⟩) 1 1] (w.alloc (.cells #[.slice A l.length c] 50)) (FRowPost 3 l.length (ecells l) w) := by
  subst hH
  have hB1 : Below w.heap.size w (w.alloc (.cells #[.slice A l.length c] 50)) := (Below.refl _ w).alloc (Nat.le_refl _) _
  have hj := joinF_any (some ⟨w.heap.size, 0, none⟩) 1 [⟨A, c, l⟩] 1 rfl (by omega) (by simpa [flat] using hf) (w.alloc (.cells #[.slice A l.length c] 50))
    (by have := sees_new w [.slice A l.length c] 50 1 1 rfl; simpa [Bt.val] using this) (by intro q hq; simp at hq; subst hq; exact h.later hB1)
  simp only [flat, List.flatMap_cons, List.flatMap_nil, List.append_nil] at hj
  refine hj.mono ?_
  rintro e w' ⟨A', c', rfl, hc', h2, hf, h3⟩
  exact ⟨A', c', rfl, hc', h2, hf.before (by simp), below_next hB1 (by simp) h3⟩

set_option maxRecDepth 100000 in
set_option maxHeartbeats 1000000 in
theorem box_any (A B : Option Addr) (c d : Nat) (ws : List Int) (bs : List Bt) (i : Int) (w : World) (h : MemOk w A ws B bs) :
    Calls Try.prog 21 #[.agg #[.slice A ws.length c, .slice B bs.length d], .int .i64 i] w (REPost (bxV (boxes bs) i) (erV bs.length i) w) := by
  have hb : Below w.heap.size w (w.alloc (.cells #[.slice A ws.length c, .slice B bs.length d] 25)) := (Below.refl _ w).alloc (Nat.le_refl _) _
  have m1 := h.later hb
  have K := hide (readB_any B d bs i _ m1.bxs m1.each)
  have HS := hide h.short
  obtain ⟨ev, he⟩ : ∃ x, erV bs.length i = x := ⟨_, rfl⟩
  rw [he] at K ⊢
  clear h m1 he
  go_enter Try.func21, Try.ntmps21
  go_wp2_with fail
  refine K.out.mono ?_
  rintro x w1 ⟨⟨qA, qc, ql⟩, rfl, hql, hqo, hqm, rfl⟩
  have HQ := hide hql
  have hl : ql.length ≤ 100000 := by
    rcases hqm with hm | hm
    · exact Nat.le_trans (HS.out _ hm) (by omega)
    · have hm' : ql = [] := hm
      rw [hm']; simp
  have K2 := hide (join1_any qA qc ql hl _ (w.heap.size + 1) (by simp) hqo)
  clear hql hqo hqm hl
  go_wp2_with fail
  refine K2.out.mono ?_
  rintro x w2 ⟨A2, c2, rfl, hc2, hs2, hf2, hb2⟩
  go_wp2
  go_ret2
  have hq' : ql = bxV (boxes bs) i := HQ.out
  rw [REPost, ← hq']
  exact ⟨A2, c2, rfl, hs2, below_next hb (by simp) hb2⟩

set_option maxRecDepth 100000 in
theorem stepP_any (p : Nat) (u : Value) (A : Option Addr) (c : Nat) (l : List E3) (hf : l.length ≤ 100000) (w : World) (h : w.cell? ⟨p, 0, none⟩ = some (.slice A l.length c)) (hs : Sees w w.heap.size 3 A l.length (ecells l)) :
    Calls Try.prog 37 #[u, .pointer (some ⟨p, 0, none⟩)] w (FRowPost 3 l.length (ecells l) w) := by
  have K := hide (join1_any A c l hf w w.heap.size rfl hs)
  go_enter Try.func37, Try.ntmps37
  go_wp2_with fail
  refine K.out.mono ?_
  rintro x w2 ⟨A2, c2, rfl, hc2, hs2, hf2, hb2⟩
  go_wp2
  go_ret
  exact ⟨A2, c2, rfl, hc2, hs2, hf2, hb2⟩

theorem infoRow : (Try.prog.info? 50).map (fun i => (i.zero, i.size, i.bytes)) = some (some (.slice none 0 0), 1, 24) := by kernel_rfl
theorem val_one (bs : List Bt) : ∀ u ∈ bs.map Bt.val, u.oneCell' = true := by
  intro u hu
  obtain ⟨q, _, rfl⟩ := List.mem_map.1 hu
  rfl

set_option maxRecDepth 100000 in
set_option maxHeartbeats 1000000 in
theorem cloneB_any (b off d : Nat) (bs : List Bt) (hf : bs.length ≤ 20000) (w : World) (hs : Sees w w.heap.size 1 (some ⟨b, off, none⟩) bs.length (bs.map Bt.val)) :
    Calls Try.prog 40 #[.slice (some ⟨b, off, none⟩) bs.length d] w (fun x w' => ∃ A cap, x = .returned (.slice A bs.length cap) ∧ w'.ownsRow w.heap.size 50 1 (.slice A bs.length cap) bs.length (bs.map Bt.val) ∧ Below w.heap.size w w') := by
  obtain ⟨i0, hi0, hz0, hz1, hz2⟩ := info_parts infoRow
  have he : ∀ u : World, (binOp .eql 23 (.slice (some ⟨b, off, none⟩) bs.length d) (.slice none 0 0)).run Try.prog u = .ok (.bool false) u := fun _ => rfl
  go_enter Try.func40, Try.ntmps40
  go_wp2_with (at_builtin; refine wpList_clone w rfl _ _ 23 rfl 50 i0 _ 1 24 Try.underlying23 hi0 hz0 hz1 hz2 rfl (by omega) w.heap.size rfl rfl _ bs.length d _ rfl hs (val_one bs) (by unfold maxLen; omega) (by omega) ?_; intro A1 c1 w1 hown1 hB1)
  go_ret
  exact ⟨A1, c1, rfl, hown1, hB1⟩

/-- Boxes behind a step: they are those that were there, but for one that is new and holds lb. -/
structure BxOk (w w' : World) (B : Option Addr) (bs : List Bt) (lb : List E3) (B' : Option Addr) (bs' : List Bt) : Prop where
  row : Sees w' w'.heap.size 1 B' bs'.length (bs'.map Bt.val)
  each : ∀ q ∈ bs', q.Ok w'
  place : B' = B ∨ Fresh w B'
  old : ∀ q ∈ bs', q ∈ bs ∨ (Fresh w q.A ∧ q.l = lb)
  len : bs'.length = bs.length
theorem BxOk.far {w0 w w' : World} {A B B' : Option Addr} {ws : List Int} {bs bs' : List Bt} {lb : List E3} (h : BxOk w w' B bs lb B' bs') (m : MemAt w0 A ws B bs) (g o : Nat) (v : Value) (h1 : w0.heap.size ≤ g) (h2 : g < w.heap.size) : BxOk w (w'.setCell ⟨g, o, none⟩ v) B bs lb B' bs' :=
  ⟨(h.row.far' g o v (fun hn => m.bxs.block_lt (by rw [← h.len]; exact hn)) h.place h1 h2).up (by simp), fun q hq => by
    have hs : Sees w' w'.heap.size 3 q.A q.l.length (ecells q.l) := h.each q hq
    have : Sees (w'.setCell ⟨g, o, none⟩ v) w'.heap.size 3 q.A q.l.length (ecells q.l) := by
      rcases h.old q hq with ho | ⟨ho, _⟩
      · exact hs.far' g o v (fun hn => Sees.block_lt (m.each q ho) hn) (.inl rfl) h1 h2
      · exact hs.far' (A := none) g o v (fun _ p hp => by cases hp) (.inr ho) h1 h2
    exact this.up (by simp), h.place, h.old, h.len⟩
theorem BxOk.before {w0 w w' : World} {B B' : Option Addr} {bs bs' : List Bt} {lb : List E3} (h : BxOk w w' B bs lb B' bs') (hs : w0.heap.size ≤ w.heap.size) : BxOk w0 w' B bs lb B' bs' :=
  ⟨h.row, h.each, h.place.imp_right (·.before hs), fun q hq => (h.old q hq).imp_right (fun ⟨a, b⟩ => ⟨a.before hs, b⟩), h.len⟩
theorem BxOk.mem {w0 w w' : World} {A B B' : Option Addr} {ws : List Int} {bs bs' : List Bt} {lb : List E3} (h : BxOk w w' B bs lb B' bs') (m : MemOk w0 A ws B bs) (hb : Below w0.heap.size w0 w') (hl : lb.length ≤ 20000) : MemOk w' A ws B' bs' :=
  ⟨⟨m.words.later hb, h.row, h.each⟩, m.few, h.len ▸ m.fewb, fun q hq => (h.old q hq).elim (fun ho => m.short q ho) (fun ho => by rw [ho.2]; exact hl)⟩

/-- Boxes (those of B, or new ones), one batch, an error. -/
def WBPost (B : Option Addr) (bs : List Bt) (bx : List (List E3)) (lb : List E3) (e : Int) (w : World) (x : Ending) (w' : World) : Prop :=
  ∃ B' d bs' q, x = .returned (.tuple #[.slice B' (List.length bs') d, Bt.val q, .int .i64 e]) ∧ boxes bs' = bx ∧ BxOk w w' B bs lb B' bs' ∧ Below w.heap.size w w'
/-- A memory whose words are those that were handed in, and an error. -/
def MPPost (A : Option Addr) (n c : Nat) (B : Option Addr) (bs : List Bt) (bx : List (List E3)) (lb : List E3) (e : Int) (w : World) (x : Ending) (w' : World) : Prop :=
  ∃ B' d bs', x = .returned (.tuple #[.agg #[.slice A n c, .slice B' (List.length bs') d], .int .i64 e]) ∧ boxes bs' = bx ∧ BxOk w w' B bs lb B' bs' ∧ Below w.heap.size w w'

theorem BxOk.refl {w : World} {A B : Option Addr} {ws : List Int} {bs : List Bt} (lb : List E3) (m : MemAt w A ws B bs) : BxOk w w B bs lb B bs :=
  ⟨m.bxs, m.each, .inl rfl, fun _ hq => .inl hq, rfl⟩

set_option maxRecDepth 100000 in
set_option maxHeartbeats 1000000 in
theorem writeP_any (A B E : Option Addr) (d p n : Nat) (ws : List Int) (bs : List Bt) (lb : List E3) (i : Int) (w : World) (m : MemOk w A ws B bs) (hl : lb.length ≤ 20000) (hp : w.cell? ⟨p, 0, none⟩ = some (.slice E lb.length n)) (he : Sees w w.heap.size 3 E lb.length (ecells lb)) :
    Calls Try.prog 36 #[.slice B bs.length d, .int .i64 i, .func (.func 37) #[] #[.pointer (some ⟨p, 0, none⟩)]] w (WBPost B bs (ptV (boxes bs) i lb) lb (erV bs.length i) w) := by
  have K := hide (readB_any B d bs i w m.bxs m.each)
  rcases inR_cases bs.length i with ⟨k, hk, rfl⟩ | hno
  · obtain ⟨b, off, rfl, hb, _⟩ := m.bxs.2 (by omega)
    rw [erV_at hk] at K ⊢
    have HV := hide (ptV_at lb (show k < (boxes bs).length by rw [boxes_length]; exact hk))
    have KC := hide (cloneB_any b off d bs m.fewb w m.bxs)
    have HM := hide m
    have hm1 := m.each
    have HE := hide hm1
    clear hm1 m
    go_enter Try.func36, Try.ntmps36
    go_wp2_with fail
    refine K.out.mono ?_
    rintro x w1 ⟨⟨qA, qc, ql⟩, rfl, hq0, hq1, hq2, rfl⟩
    clear hq0 hq1 hq2
    go_wp2_with fail
    refine KC.out.mono ?_
    rintro x w2 ⟨A2, c2, rfl, hown, hb2⟩
    have hp2 := cell_keep hp hb2
    have he2 := he.later hb2
    go_wp2_with fail
    refine (stepP_any p (.slice qA ql.length qc) E n lb (by omega) w2 hp2 he2).mono ?_
    rintro x w3 ⟨A3, c3, rfl, hc3, hs3, hf3, hb3⟩
    have hown3 := own_below hown hb3
    obtain ⟨g, u, rfl, hg, hgu, hgf, hset⟩ := own_set (.slice A3 lb.length c3) hown3 hk
    have hk0 : (0 : Int) ≤ (k : Int) := Int.natCast_nonneg _
    have hk1 : (k : Int) < (bs.length : Int) := by omega
    have hg2 : g < w2.heap.size := (hown.lt g rfl).2
    clear K KC
    go_wp2
    go_ret3
    have hlen : (bs.set k ⟨A3, c3, lb⟩).length = bs.length := by simp
    have hB3 := below_next hb2 hb2.size hb3
    have hfar : ∀ q, q ∈ bs → q.Ok (w3.setCell ⟨g, k, none⟩ (.slice A3 lb.length c3)) := by
      intro q hq
      have h1 : Sees w1 w1.heap.size 3 q.A q.l.length (ecells q.l) := HE.out q hq
      have h2 : Sees w3 w1.heap.size 3 q.A q.l.length (ecells q.l) := h1.below hB3
      exact (h2.lt g k _ hg).up (by have := hB3.size; simp; omega)
    have hnew : Bt.Ok (w3.setCell ⟨g, k, none⟩ (.slice A3 lb.length c3)) ⟨A3, c3, lb⟩ := by
      have : Sees (w3.setCell ⟨g, k, none⟩ (.slice A3 lb.length c3)) w3.heap.size 3 A3 lb.length (ecells lb) := hs3.far g k _ (fun p hp => by have := hf3 p hp; omega)
      exact this.up (by simp)
    refine ⟨some ⟨g, 0, none⟩, c2, bs.set k ⟨A3, c3, lb⟩, ⟨qA, qc, ql⟩, by rw [hlen]; rfl, ?_, ⟨?_, ?_, .inr (fun q hq => by cases hq; exact hg), ?_, hlen⟩, hB3.setCell hg _⟩
    · rw [HV.out, boxes, boxes, List.map_set]
    · rw [hlen, List.map_set]
      exact hset.up (by simp)
    · intro q hq
      rcases List.mem_or_eq_of_mem_set hq with h | rfl
      · exact hfar q h
      · exact hnew
    · intro q hq
      rcases List.mem_or_eq_of_mem_set hq with h | rfl
      · exact .inl h
      · exact .inr ⟨hf3.before hb2.size, rfl⟩
  · have HM := hide m
    rw [ptV_no lb (by rw [boxes_length]; exact hno)]
    rw [erV_no hno] at K ⊢
    clear hno m
    go_enter Try.func36, Try.ntmps36
    go_wp2_with fail
    refine K.out.mono ?_
    rintro x w1 ⟨⟨qA, qc, ql⟩, rfl, hq0, hq1, hq2, rfl⟩
    clear hq0 hq1 hq2
    go_wp2
    go_ret3
    exact ⟨B, d, bs, ⟨qA, qc, ql⟩, rfl, rfl, BxOk.refl lb HM.out.toMemAt, Below.refl _ _⟩

set_option maxRecDepth 100000 in
set_option maxHeartbeats 1000000 in
theorem put_mem (A B E : Option Addr) (c d n : Nat) (ws : List Int) (bs : List Bt) (lb : List E3) (i : Int) (w : World) (m : MemOk w A ws B bs) (hl : lb.length ≤ 20000) (he : Sees w w.heap.size 3 E lb.length (ecells lb)) :
    Calls Try.prog 23 #[.agg #[.slice A ws.length c, .slice B bs.length d], .int .i64 i, .slice E lb.length n] w (MPPost A ws.length c B bs (ptV (boxes bs) i lb) lb (erV bs.length i) w) := by
  have hb : Below w.heap.size w (((w.alloc (.cells #[.slice A ws.length c, .slice B bs.length d] 25)).alloc (.cells #[.slice E lb.length n] 50)).alloc (.cells #[.slice none 0 0, .slice none 0 0] 25)) := (((Below.refl _ w).alloc (Nat.le_refl _) _).alloc (by simp) _).alloc (by simp; omega) _
  have key := writeP_any A B E d (w.heap.size + 1) n ws bs lb i _ (m.later hb) hl (by simp [go_sem]) (he.later hb)
  obtain ⟨nb, hnb⟩ : ∃ x, ptV (boxes bs) i lb = x := ⟨_, rfl⟩
  obtain ⟨ev, he⟩ : ∃ x, erV bs.length i = x := ⟨_, rfl⟩
  rw [hnb, he] at key
  rw [hnb, he]
  have K := hide key
  have HM := hide m
  clear key hnb he m
  go_enter Try.func23, Try.ntmps23
  go_wp2_with fail
  refine K.out.mono ?_
  rintro x w2 ⟨B2, d2, bs2, ⟨qA, qc, ql⟩, rfl, hbx, hok, hb2⟩
  have HX := hide hbx
  have z2 : w.heap.size + 1 + 1 + 1 ≤ w2.heap.size := by simpa using hb2.size
  have q0 : w2.cell? ⟨w.heap.size, 0, none⟩ = some (.slice A ws.length c) := cell_keep (by simp [go_sem]) hb2
  have q1 : w2.cell? ⟨w.heap.size, 1, none⟩ = some (.slice B bs.length d) := cell_keep (by simp [go_sem]) hb2
  have q2 : w2.cell? ⟨w.heap.size + 1 + 1, 0, none⟩ = some (.slice none 0 0) := cell_keep (by simp [go_sem]) hb2
  have q3 : w2.cell? ⟨w.heap.size + 1 + 1, 1, none⟩ = some (.slice none 0 0) := cell_keep (by simp [go_sem]) hb2
  have f1 : w2.frozen? ⟨w.heap.size, 1, none⟩ = false := frozen_keep hb2 (by simp; omega) (by simp [go_sem])
  have f2 : w2.frozen? ⟨w.heap.size + 1 + 1, 0, none⟩ = false := frozen_keep hb2 (by simp) (by simp [go_sem])
  have f3 : w2.frozen? ⟨w.heap.size + 1 + 1, 1, none⟩ = false := frozen_keep hb2 (by simp) (by simp [go_sem])
  clear K hbx
  simp only [Bt.val]
  go_wp2
  (try simp only [Exit.inBlock, Exit.then])
  refine bodyPost_ret (v := .tuple #[.agg #[.slice A ws.length c, .slice B2 bs2.length d2], .int .i64 ev]) (by simp [results, Try.results23, go_sem, q2, q3]) rfl ?_
  exact ⟨B2, d2, bs2, rfl, HX.out, (((hok.far HM.out.toMemAt w.heap.size 1 _ (Nat.le_refl _) (by simp; omega)).far HM.out.toMemAt (w.heap.size + 1 + 1) 0 _ (by omega) (by simp)).far HM.out.toMemAt (w.heap.size + 1 + 1) 1 _ (by omega) (by simp)).before (by simp; omega),
    (((below_next hb (by simp; omega) hb2).setCell (Nat.le_refl _) _).setCell (by simp; omega) _).setCell (by simp; omega) _⟩
end Go.Proofs.Ytkiagdlcbfdgnaa
