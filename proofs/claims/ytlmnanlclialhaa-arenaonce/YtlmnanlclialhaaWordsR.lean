/- Contracts of the document's own answers on words. -/
import Derived.Test.YtlmnanlclialhaaWords2
import Derived.Deep.Cut
namespace Go.Proofs.Ytlmnanlclialhaa
open Go.RowKit

/-- 'append' onto a new empty slice: a copy in a block of the call's own. -/
theorem wpList_clone {P : Program} {ops : Array Oper} {rest : List Oper} {o : Oper} {a : Act} {Q : Exit → Act → World → Prop} (W : World) (hgd : o.guard = none) (s x : Operand) (t : TypeId)
    (ho : o.op = .call { callee := .builtin .append, args := #[s, x], argTypes := #[t, t] })
    (e : TypeId) (i : TypeInfo) (z : Value) (sz bytes : Nat) (ht : P.underlying t = some (.slice e)) (hi : P.info? e = some i) (hz : i.zero = some z)
    (hsize : i.size = sz) (hby : i.bytes = bytes) (hzs : z.cells.size = sz) (hsz : 0 < sz) (H : Nat) (hH : W.heap.size = H) (hs : a.eval s = .slice (some ⟨H, 0, none⟩) 0 0)
    (A : Option Addr) (m c : Nat) (news : List Value) (hx : a.eval x = .slice A m c) (hr : Sees W W.heap.size sz A m news) (h1 : ∀ u ∈ news, u.oneCell' = true)
    (h63 : m ≤ maxLen) (hbytes : m * bytes ≤ 140737488355328)
    (h : ∀ A' c' w', w'.ownsRow W.heap.size e sz (.slice A' m c') m news → Below W.heap.size W w' → wpList P ops Q rest (a.put o.dst (.slice A' m c')) w') : wpList P ops Q (o :: rest) a (W.alloc (.cells #[] e)) := by
  subst hH
  have hbe : Below W.heap.size W (W.alloc (.cells #[] e)) := (Below.refl _ _).alloc (Nat.le_refl _) _
  refine wpList_app _ hgd s x t ho W.heap.size e i z sz bytes ht hi hz hsize hby hzs hsz _ 0 [] hs (own_empty W W.heap.size e sz (Nat.le_refl _)) _ A m c news hx (hr.later hbe) h1 (by omega) (by rw [Nat.zero_add]; exact hbytes) (by simp) ?_
  intro v' w' hown hg
  rw [Nat.zero_add, List.nil_append] at hown
  obtain ⟨A', c', rfl, _⟩ := own_form hown
  exact h A' c' w' hown (hbe.grown hg (by simp) (own_at (own_empty W W.heap.size e sz (Nat.le_refl _))))

set_option maxRecDepth 100000 in
set_option maxHeartbeats 1000000 in
theorem rstore_any (A B : Option Addr) (c d : Nat) (ws : List Int) (bs : List Bt) (i v : Int) (w : World) (h : MemOk w A ws B bs) :
    Calls Try.prog 44 #[.agg #[.slice A ws.length c, .slice B bs.length d], .int .i64 i, .int .i64 v] w (MEPost A (stV ws i v) B bs.length d (erV ws.length i) w) := by
  obtain ⟨i0, hi0, hz0, hz1, hz2⟩ := info_parts info3
  have hf := h.few
  have hA := fun hn => h.words.block_lt hn
  have HA := hide hA
  clear hA
  have hb : Below w.heap.size w ((w.alloc (.cells #[.slice A ws.length c, .slice B bs.length d] 44)).alloc (.cells #[.slice none 0 0, .slice none 0 0] 44)) := ((Below.refl _ w).alloc (Nat.le_refl _) _).alloc (by simp) _
  have s1 := (h.later hb).words
  rcases inR_cases ws.length i with ⟨k, hk, rfl⟩ | hno
  · have hlen : (stV ws (k : Int) v).length = ws.length := stV_length _ _ _
    have HL := hide hlen
    have HV := hide (stV_at v hk)
    rw [erV_at hk]
    have hk0 : (0 : Int) ≤ (k : Int) := Int.natCast_nonneg _
    have hk1 : (k : Int) < (ws.length : Int) := by omega
    have hk2 : decide ((k : Int) < 0) = false := decide_eq_false (by omega)
    clear hlen h
    go_enter Try.func44, Try.ntmps44
    go_wp2_with (at_builtin; refine wpList_clone ((w.alloc (.cells #[.slice A ws.length c, .slice B bs.length d] 44)).alloc (.cells #[.slice none 0 0, .slice none 0 0] 44)) rfl _ _ 36 rfl 3 i0 _ 1 8 Try.underlying36 hi0 hz0 hz1 hz2 rfl (by omega) (w.heap.size + 1 + 1) (by simp) rfl A ws.length c _ rfl s1 (by simp [Value.oneCell']) (by unfold maxLen; omega) (by omega) ?_; intro A1 c1 w1 hown1 hB1; obtain ⟨g, u, rfl, hg, hgu, hgf, hset⟩ := own_set (.int .i64 v) hown1 hk; have q2 : w1.cell? ⟨w.heap.size + 1, 0, none⟩ = some (.slice none 0 0) := cell_keep (by simp [go_sem]) hB1; have q3 : w1.cell? ⟨w.heap.size + 1, 1, none⟩ = some (.slice none 0 0) := cell_keep (by simp [go_sem]) hB1; have q1 : w1.cell? ⟨w.heap.size, 1, none⟩ = some (.slice B bs.length d) := cell_keep (by simp [go_sem]) hB1; have f2 : w1.frozen? ⟨w.heap.size + 1, 0, none⟩ = false := frozen_keep hB1 (by simp) (by simp [go_sem]); have f3 : w1.frozen? ⟨w.heap.size + 1, 1, none⟩ = false := frozen_keep hB1 (by simp) (by simp [go_sem]); have hg' : w.heap.size + 1 + 1 ≤ g := by { simpa using hg }; have hne : ¬ g = w.heap.size + 1 := by { omega }; have hne0 : ¬ g = w.heap.size := by { omega }; clear hown1 s1)
    (try simp only [Exit.inBlock, Exit.then])
    refine bodyPost_ret (v := .tuple #[.agg #[.slice (some ⟨g, 0, none⟩) ws.length c1, .slice B bs.length d], .int .i64 0]) (by simp [results, Try.results44, go_sem, q2, q3]) rfl ?_
    rw [MEPost, HL.out, HV.out, List.map_set]
    exact ⟨some ⟨g, 0, none⟩, c1, rfl, ((hset.far (w.heap.size + 1) 0 _ (fun p hp => by cases hp; exact hne)).far (w.heap.size + 1) 1 _ (fun p hp => by cases hp; exact hne)).up (by simp), .inr (fun q hq => by cases hq; show w.heap.size ≤ g; omega),
      (((below_next hb (by simp; omega) hB1).setCell (by show w.heap.size ≤ g; omega) _).setCell (by simp) _).setCell (by simp) _⟩
  · rw [stV_no v hno, erV_no hno]
    clear s1 hb
    by_cases h0 : i < 0
    · clear hno
      go_enter Try.func44, Try.ntmps44
      go_wp2
      (try simp only [Exit.inBlock, Exit.then])
      refine bodyPost_ret (v := .tuple #[.agg #[.slice A ws.length c, .slice B bs.length d], .int .i64 30]) (by simp [results, Try.results44, go_sem]) rfl ?_
      have hb' : Below w.heap.size w (w.alloc (.cells #[.slice A ws.length c, .slice B bs.length d] 44) |>.alloc (.cells #[.slice A ws.length c, .slice B bs.length d] 44)) := ((Below.refl _ w).alloc (Nat.le_refl _) _).alloc (by simp) _
      exact ⟨A, c, rfl, (h.later hb').words, .inl rfl, hb'⟩
    · have h1 : (0 : Int) ≤ i := by omega
      have h2 : (ws.length : Int) ≤ i := by omega
      have h3 : decide (i < 0) = false := decide_eq_false (by omega)
      clear hno
      go_enter Try.func44, Try.ntmps44
      go_wp2
      (try simp only [Exit.inBlock, Exit.then])
      refine bodyPost_ret (v := .tuple #[.agg #[.slice A ws.length c, .slice B bs.length d], .int .i64 30]) (by simp [results, Try.results44, go_sem]) rfl ?_
      have hb' : Below w.heap.size w (w.alloc (.cells #[.slice A ws.length c, .slice B bs.length d] 44) |>.alloc (.cells #[.slice A ws.length c, .slice B bs.length d] 44)) := ((Below.refl _ w).alloc (Nat.le_refl _) _).alloc (by simp) _
      exact ⟨A, c, rfl, (h.later hb').words, .inl rfl, hb'⟩

end Go.Proofs.Ytlmnanlclialhaa
