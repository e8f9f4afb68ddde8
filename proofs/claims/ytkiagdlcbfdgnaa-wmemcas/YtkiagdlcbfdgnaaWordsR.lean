/- Contracts of the document's own answers on words. -/
import Derived.Test.YtkiagdlcbfdgnaaWords2
import Derived.Deep.Cut
namespace Go.Proofs.Ytkiagdlcbfdgnaa
open Go.RowKit

set_option maxRecDepth 100000 in
set_option maxHeartbeats 1000000 in
theorem rload_any (A B : Option Addr) (c d : Nat) (ws : List Int) (bs : List Bt) (i : Int) (w : World) (h : MemOk w A ws B bs) :
    Calls Try.prog 13 #[.agg #[.slice A ws.length c, .slice B bs.length d], .int .i64 i] w (IEPost (ldV ws i) (erV ws.length i) w) := by
  have hb : Below w.heap.size w (w.alloc (.cells #[.slice A ws.length c, .slice B bs.length d] 30)) := (Below.refl _ w).alloc (Nat.le_refl _) _
  have s1 := (h.later hb).words
  rcases inR_cases ws.length i with ⟨k, hk, rfl⟩ | hno
  · obtain ⟨b, off, v, rfl, hb', hv, hc⟩ := s1.num hk
    rw [ldV_at hv, erV_at hk]
    clear hv h s1
    go_enter Try.func13, Try.ntmps13
    go_wp2
    go_ret2
    exact ⟨rfl, hb⟩
  · rw [ldV_no hno, erV_no hno]
    clear h s1
    by_cases h0 : i < 0
    · clear hno
      go_enter Try.func13, Try.ntmps13
      go_wp2
      go_ret2
      exact ⟨rfl, hb⟩
    · have h1 : (0 : Int) ≤ i := by omega
      have h2 : (ws.length : Int) ≤ i := by omega
      clear hno
      go_enter Try.func13, Try.ntmps13
      go_wp2
      go_ret2
      exact ⟨rfl, hb⟩

/-- 'append' onto a new empty slice: a copy in a block of the call's own. -/
theorem wpList_clone {P : Program} {ops : Array Oper} {rest : List Oper} {o : Oper} {a : Act} {Q : Exit → Act → World → Prop} (W : World) (hgd : o.guard = none) (s x : Operand) (t : TypeId)
    (ho : o.op = .call { callee := .builtin .append, args := #[s, x], argTypes := #[t, t] })
    (e : TypeId) (i : TypeInfo) (z : Value) (sz bytes : Nat) (ht : P.underlying t = some (.slice e)) (hi : P.info? e = some i) (hz : i.zero = some z)
    (hsize : i.size = sz) (hby : i.bytes = bytes) (hzs : z.cells.size = sz) (hsz : 0 < sz) (H : Nat) (hH : W.heap.size = H) (hs : a.eval s = .slice (some ⟨H, 0, none⟩) 0 0)
    (A : Option Addr) (m c : Nat) (news : List Value) (hx : a.eval x = .slice A m c) (hr : Sees W W.heap.size sz A m news) (h1 : ∀ u ∈ news, u.oneCell' = true)
    (h63 : m ≤ maxLen) (hbytes : m * bytes ≤ 140737488355328)
    (h : ∀ A' c' w', w'.ownsRow W.heap.size e sz (.slice A' m c') m news → Below W.heap.size W w' → wpList P ops Q rest (a.put o.dst (.slice A' m c')) w') : wpList P ops Q (o :: rest) a (W.alloc (.cells #[] e)) := by
  subst hH
  have hbe : Below W.heap.size W (W.alloc (.cells #[] e)) := (Below.refl _ _).alloc (Nat.le_refl _) _
  refine wpList_app _ hgd s x t ho W.heap.size e i z sz bytes ht hi hz hsize hby hzs hsz _ 0 [] hs (own_empty W W.heap.size e sz (Nat.le_refl _)) _ A m c news hx (hr.later hbe) h1 (by omega) (by rw [Nat.zero_add]; exact hbytes) (by simp) ?_
  intro v' w' hown hg
  rw [Nat.zero_add, List.nil_append] at hown
  obtain ⟨A', c', rfl, _⟩ := own_form hown
  exact h A' c' w' hown (hbe.grown hg (by simp) (own_at (own_empty W W.heap.size e sz (Nat.le_refl _))))

set_option maxRecDepth 100000 in
set_option maxHeartbeats 1000000 in
theorem rstore_any (A B : Option Addr) (c d : Nat) (ws : List Int) (bs : List Bt) (i v : Int) (w : World) (h : MemOk w A ws B bs) :
    Calls Try.prog 15 #[.agg #[.slice A ws.length c, .slice B bs.length d], .int .i64 i, .int .i64 v] w (MEPost A (stV ws i v) B bs.length d (erV ws.length i) w) := by
  obtain ⟨i0, hi0, hz0, hz1, hz2⟩ := info_parts info3
  have hf := h.few
  have hA := fun hn => h.words.block_lt hn
  have HA := hide hA
  clear hA
  have hb : Below w.heap.size w ((w.alloc (.cells #[.slice A ws.length c, .slice B bs.length d] 30)).alloc (.cells #[.slice none 0 0, .slice none 0 0] 30)) := ((Below.refl _ w).alloc (Nat.le_refl _) _).alloc (by simp) _
  have s1 := (h.later hb).words
  rcases inR_cases ws.length i with ⟨k, hk, rfl⟩ | hno
  · have hlen : (stV ws (k : Int) v).length = ws.length := stV_length _ _ _
    have HL := hide hlen
    have HV := hide (stV_at v hk)
    rw [erV_at hk]
    have hk0 : (0 : Int) ≤ (k : Int) := Int.natCast_nonneg _
    have hk1 : (k : Int) < (ws.length : Int) := by omega
    have hk2 : decide ((k : Int) < 0) = false := decide_eq_false (by omega)
    clear hlen h
    go_enter Try.func15, Try.ntmps15
    go_wp2_with (at_builtin; refine wpList_clone ((w.alloc (.cells #[.slice A ws.length c, .slice B bs.length d] 30)).alloc (.cells #[.slice none 0 0, .slice none 0 0] 30)) rfl _ _ 22 rfl 3 i0 _ 1 8 Try.underlying22 hi0 hz0 hz1 hz2 rfl (by omega) (w.heap.size + 1 + 1) (by simp) rfl A ws.length c _ rfl s1 (by simp [Value.oneCell']) (by unfold maxLen; omega) (by omega) ?_; intro A1 c1 w1 hown1 hB1; obtain ⟨g, u, rfl, hg, hgu, hgf, hset⟩ := own_set (.int .i64 v) hown1 hk; have q2 : w1.cell? ⟨w.heap.size + 1, 0, none⟩ = some (.slice none 0 0) := cell_keep (by simp [go_sem]) hB1; have q3 : w1.cell? ⟨w.heap.size + 1, 1, none⟩ = some (.slice none 0 0) := cell_keep (by simp [go_sem]) hB1; have q1 : w1.cell? ⟨w.heap.size, 1, none⟩ = some (.slice B bs.length d) := cell_keep (by simp [go_sem]) hB1; have f2 : w1.frozen? ⟨w.heap.size + 1, 0, none⟩ = false := frozen_keep hB1 (by simp) (by simp [go_sem]); have f3 : w1.frozen? ⟨w.heap.size + 1, 1, none⟩ = false := frozen_keep hB1 (by simp) (by simp [go_sem]); have hg' : w.heap.size + 1 + 1 ≤ g := by { simpa using hg }; have hne : ¬ g = w.heap.size + 1 := by { omega }; have hne0 : ¬ g = w.heap.size := by { omega }; clear hown1 s1)
    (try simp only [Exit.inBlock, Exit.then])
    refine bodyPost_ret (v := .tuple #[.agg #[.slice (some ⟨g, 0, none⟩) ws.length c1, .slice B bs.length d], .int .i64 0]) (by simp [results, Try.results15, go_sem, q2, q3]) rfl ?_
    rw [MEPost, HL.out, HV.out, List.map_set]
    exact ⟨some ⟨g, 0, none⟩, c1, rfl, ((hset.far (w.heap.size + 1) 0 _ (fun p hp => by cases hp; exact hne)).far (w.heap.size + 1) 1 _ (fun p hp => by cases hp; exact hne)).up (by simp), .inr (fun q hq => by cases hq; show w.heap.size ≤ g; omega),
      (((below_next hb (by simp; omega) hB1).setCell (by show w.heap.size ≤ g; omega) _).setCell (by simp) _).setCell (by simp) _⟩
  · rw [stV_no v hno, erV_no hno]
    clear s1 hb
    by_cases h0 : i < 0
    · clear hno
      go_enter Try.func15, Try.ntmps15
      go_wp2
      (try simp only [Exit.inBlock, Exit.then])
      refine bodyPost_ret (v := .tuple #[.agg #[.slice A ws.length c, .slice B bs.length d], .int .i64 30]) (by simp [results, Try.results15, go_sem]) rfl ?_
      have hb' : Below w.heap.size w (w.alloc (.cells #[.slice A ws.length c, .slice B bs.length d] 30) |>.alloc (.cells #[.slice A ws.length c, .slice B bs.length d] 30)) := ((Below.refl _ w).alloc (Nat.le_refl _) _).alloc (by simp) _
      exact ⟨A, c, rfl, (h.later hb').words, .inl rfl, hb'⟩
    · have h1 : (0 : Int) ≤ i := by omega
      have h2 : (ws.length : Int) ≤ i := by omega
      have h3 : decide (i < 0) = false := decide_eq_false (by omega)
      clear hno
      go_enter Try.func15, Try.ntmps15
      go_wp2
      (try simp only [Exit.inBlock, Exit.then])
      refine bodyPost_ret (v := .tuple #[.agg #[.slice A ws.length c, .slice B bs.length d], .int .i64 30]) (by simp [results, Try.results15, go_sem]) rfl ?_
      have hb' : Below w.heap.size w (w.alloc (.cells #[.slice A ws.length c, .slice B bs.length d] 30) |>.alloc (.cells #[.slice A ws.length c, .slice B bs.length d] 30)) := ((Below.refl _ w).alloc (Nat.le_refl _) _).alloc (by simp) _
      exact ⟨A, c, rfl, (h.later hb').words, .inl rfl, hb'⟩

set_option maxRecDepth 100000 in
set_option maxHeartbeats 1000000 in
theorem rswap_any (A B : Option Addr) (c d : Nat) (ws : List Int) (bs : List Bt) (i v : Int) (w : World) (h : MemOk w A ws B bs) :
    Calls Try.prog 17 #[.agg #[.slice A ws.length c, .slice B bs.length d], .int .i64 i, .int .i64 v] w (MIEPost A (stV ws i v) B bs.length d (ldV ws i) (erV ws.length i) w) := by
  have hA := fun hn => h.words.block_lt hn
  have hb : Below w.heap.size w ((w.alloc (.cells #[.slice A ws.length c, .slice B bs.length d] 30)).alloc (.cells #[.slice none 0 0, .slice none 0 0] 30)) := ((Below.refl _ w).alloc (Nat.le_refl _) _).alloc (by simp) _
  have m1 := h.later hb
  have key1 := rload_any A B c d ws bs i ((w.alloc (.cells #[.slice A ws.length c, .slice B bs.length d] 30)).alloc (.cells #[.slice none 0 0, .slice none 0 0] 30)) m1
  have key2 := fun u h => rstore_any A B c d ws bs i v u h
  have hlen : (stV ws i v).length = ws.length := stV_length ws i v
  obtain ⟨ns, hns⟩ : ∃ x, stV ws i v = x := ⟨_, rfl⟩
  obtain ⟨lv, hl⟩ : ∃ x, ldV ws i = x := ⟨_, rfl⟩
  obtain ⟨ev, he⟩ : ∃ x, erV ws.length i = x := ⟨_, rfl⟩
  simp only [hns, hl, he] at key1 key2
  rw [hns] at hlen
  rw [hns, hl, he]
  have K1 := hide key1
  have K2 := hide key2
  have HL := hide hlen
  have HA := hide hA
  clear key1 key2 hns hl he hlen h hA
  go_enter Try.func17, Try.ntmps17
  go_wp2_with fail
  refine K1.out.mono ?_
  rintro x w1 ⟨rfl, hb1⟩
  have m2 := m1.later hb1
  have z1 : w.heap.size + 1 + 1 ≤ w1.heap.size := by simpa using hb1.size
  have q0 : w1.cell? ⟨w.heap.size, 0, none⟩ = some (.slice A ws.length c) := cell_keep (by simp [go_sem]) hb1
  have q1 : w1.cell? ⟨w.heap.size, 1, none⟩ = some (.slice B bs.length d) := cell_keep (by simp [go_sem]) hb1
  have q2 : w1.cell? ⟨w.heap.size + 1, 0, none⟩ = some (.slice none 0 0) := cell_keep (by simp [go_sem]) hb1
  have q3 : w1.cell? ⟨w.heap.size + 1, 1, none⟩ = some (.slice none 0 0) := cell_keep (by simp [go_sem]) hb1
  have f2 : w1.frozen? ⟨w.heap.size + 1, 0, none⟩ = false := frozen_keep hb1 (by simp) (by simp [go_sem])
  have f3 : w1.frozen? ⟨w.heap.size + 1, 1, none⟩ = false := frozen_keep hb1 (by simp) (by simp [go_sem])
  have hB1 := below_next hb (by simp; omega) hb1
  clear hb hb1 m1
  go_wp2_with fail
  refine (K2.out w1 m2).mono ?_
  rintro x w2 ⟨A2, c2, rfl, hs2, hor, hb2⟩
  have z2 : w1.heap.size ≤ w2.heap.size := hb2.size
  have r2 : w2.cell? ⟨w.heap.size + 1, 0, none⟩ = some (.slice none 0 0) := cell_keep q2 hb2
  have r3 : w2.cell? ⟨w.heap.size + 1, 1, none⟩ = some (.slice none 0 0) := cell_keep q3 hb2
  have g2 : w2.frozen? ⟨w.heap.size + 1, 0, none⟩ = false := frozen_keep hb2 (by omega) f2
  have g3 : w2.frozen? ⟨w.heap.size + 1, 1, none⟩ = false := frozen_keep hb2 (by omega) f3
  have hB2 := below_next hB1 (by omega) hb2
  have hlt : w.heap.size + 1 < w2.heap.size := by omega
  clear q0 q1 q2 q3 f2 f3 hB1 hb2
  go_wp2
  (try simp only [Exit.inBlock, Exit.then])
  refine bodyPost_ret (v := .tuple #[.agg #[.slice A2 ns.length c2, .slice B bs.length d], .int .i64 lv, .int .i64 ev]) (by simp [results, Try.results17, go_sem, r2, r3, hlt]) rfl ?_
  have hA' : 0 < ns.length → ∀ p, A = some p → p.block < w.heap.size := by rw [HL.out]; exact HA.out
  have hB3 := (hB2.setCell (p := ⟨w.heap.size + 1, 0, none⟩) (by simp) (.slice A2 ns.length c2)).setCell (p := ⟨w.heap.size + 1, 1, none⟩) (by simp) (.slice B bs.length d)
  have s3 := ((hs2.far' (w.heap.size + 1) 0 (.slice A2 ns.length c2) hA' hor (by omega) (by omega)).far' (w.heap.size + 1) 1 (.slice B bs.length d) hA' hor (by omega) (by omega)).up (B' := ((w2.setCell ⟨w.heap.size + 1, 0, none⟩ (.slice A2 ns.length c2)).setCell ⟨w.heap.size + 1, 1, none⟩ (.slice B bs.length d)).heap.size) (by simp)
  exact ⟨A2, c2, rfl, s3.later ((Below.refl _ _).alloc (Nat.le_refl _) _), hor.imp_right (·.before (by omega)), hB3.alloc hB3.size _⟩

set_option maxRecDepth 100000 in
set_option maxHeartbeats 1000000 in
theorem rcas_any (A B : Option Addr) (c d : Nat) (ws : List Int) (bs : List Bt) (i old v : Int) (w : World) (h : MemOk w A ws B bs) :
    Calls Try.prog 19 #[.agg #[.slice A ws.length c, .slice B bs.length d], .int .i64 i, .int .i64 old, .int .i64 v] w (MBEPost A (casV ws i old v) B bs.length d (casB ws i old) (erV ws.length i) w) := by
  have hA := fun hn => h.words.block_lt hn
  have hb : Below w.heap.size w ((w.alloc (.cells #[.slice A ws.length c, .slice B bs.length d] 30)).alloc (.cells #[.slice none 0 0, .slice none 0 0] 30)) := ((Below.refl _ w).alloc (Nat.le_refl _) _).alloc (by simp) _
  have m1 := h.later hb
  have key1 := rload_any A B c d ws bs i ((w.alloc (.cells #[.slice A ws.length c, .slice B bs.length d] 30)).alloc (.cells #[.slice none 0 0, .slice none 0 0] 30)) m1
  have key2 := fun u h => rstore_any A B c d ws bs i v u h
  have hlen : (stV ws i v).length = ws.length := stV_length ws i v
  have hcase : (erV ws.length i = 30 ∧ casB ws i old = false ∧ casV ws i old v = ws) ∨ (erV ws.length i = 0 ∧ ldV ws i = old ∧ casB ws i old = true ∧ casV ws i old v = stV ws i v) ∨ (erV ws.length i = 0 ∧ ldV ws i ≠ old ∧ casB ws i old = false ∧ casV ws i old v = ws) := by
    rcases inR_cases ws.length i with ⟨k, hk, rfl⟩ | hno
    · by_cases hx : ldV ws (k : Int) = old
      · have hc : casB ws (k : Int) old = true := by simp [casB, inR_at hk, hx]
        exact .inr (.inl ⟨erV_at hk, hx, hc, by rw [casV, if_pos hc]⟩)
      · have hc : casB ws (k : Int) old = false := by simp [casB, inR_at hk, hx]
        exact .inr (.inr ⟨erV_at hk, hx, hc, by rw [casV, if_neg (by simp [hc])]⟩)
    · exact .inl ⟨erV_no hno, casB_no old hno, casV_no old v hno⟩
  obtain ⟨ns, hns⟩ : ∃ x, stV ws i v = x := ⟨_, rfl⟩
  obtain ⟨cs, hcs⟩ : ∃ x, casV ws i old v = x := ⟨_, rfl⟩
  obtain ⟨lv, hl⟩ : ∃ x, ldV ws i = x := ⟨_, rfl⟩
  obtain ⟨ev, he⟩ : ∃ x, erV ws.length i = x := ⟨_, rfl⟩
  obtain ⟨cb, hcb⟩ : ∃ x, casB ws i old = x := ⟨_, rfl⟩
  simp only [hns, hl, he] at key1 key2
  rw [hns] at hlen
  rw [hl, he, hcb, hcs, hns] at hcase
  rw [hcs, hcb, he]
  have K1 := hide key1
  have K2 := hide key2
  have HL := hide hlen
  have HA := hide hA
  clear key1 key2 hns hl he hlen h hA hcs hcb
  go_enter Try.func19, Try.ntmps19
  go_wp2_with fail
  refine K1.out.mono ?_
  rintro x w1 ⟨rfl, hb1⟩
  have m2 := m1.later hb1
  have z1 : w.heap.size + 1 + 1 ≤ w1.heap.size := by simpa using hb1.size
  have q0 : w1.cell? ⟨w.heap.size, 0, none⟩ = some (.slice A ws.length c) := cell_keep (by simp [go_sem]) hb1
  have q1 : w1.cell? ⟨w.heap.size, 1, none⟩ = some (.slice B bs.length d) := cell_keep (by simp [go_sem]) hb1
  have q2 : w1.cell? ⟨w.heap.size + 1, 0, none⟩ = some (.slice none 0 0) := cell_keep (by simp [go_sem]) hb1
  have q3 : w1.cell? ⟨w.heap.size + 1, 1, none⟩ = some (.slice none 0 0) := cell_keep (by simp [go_sem]) hb1
  have f2 : w1.frozen? ⟨w.heap.size + 1, 0, none⟩ = false := frozen_keep hb1 (by simp) (by simp [go_sem])
  have f3 : w1.frozen? ⟨w.heap.size + 1, 1, none⟩ = false := frozen_keep hb1 (by simp) (by simp [go_sem])
  have hB1 := below_next hb (by simp; omega) hb1
  clear hb hb1 m1
  have fin : ∀ e, MBEPost A ws B bs.length d false e w (.returned (.tuple #[.agg #[.slice A ws.length c, .slice B bs.length d], .bool false, .int .i64 e])) ((w1.setCell ⟨w.heap.size + 1, 0, none⟩ (.slice A ws.length c)).setCell ⟨w.heap.size + 1, 1, none⟩ (.slice B bs.length d)) := by
    intro e
    exact ⟨A, c, rfl, ((m2.words.far' (w1 := w1) (w.heap.size + 1) 0 _ HA.out (.inl rfl) (by omega) (by omega)).far' (w1 := w1) (w.heap.size + 1) 1 _ HA.out (.inl rfl) (by omega) (by omega)).up (by simp), .inl rfl, (hB1.setCell (by simp) _).setCell (by simp) _⟩
  have FIN := hide fin
  clear fin
  rcases hcase with ⟨rfl, rfl, rfl⟩ | ⟨rfl, rfl, rfl, rfl⟩ | ⟨rfl, hne, rfl, rfl⟩
  · go_wp2
    (try simp only [Exit.inBlock, Exit.then])
    refine bodyPost_ret (v := .tuple #[.agg #[.slice A cs.length c, .slice B bs.length d], .bool false, .int .i64 30]) (by simp [results, Try.results19, go_sem, q2, q3]) rfl ?_
    exact FIN.out 30
  · go_wp2_with fail
    refine (K2.out w1 m2).mono ?_
    rintro x w2 ⟨A2, c2, rfl, hs2, hor, hb2⟩
    have z2 : w1.heap.size ≤ w2.heap.size := hb2.size
    have r2 : w2.cell? ⟨w.heap.size + 1, 0, none⟩ = some (.slice none 0 0) := cell_keep q2 hb2
    have r3 : w2.cell? ⟨w.heap.size + 1, 1, none⟩ = some (.slice none 0 0) := cell_keep q3 hb2
    have g2 : w2.frozen? ⟨w.heap.size + 1, 0, none⟩ = false := frozen_keep hb2 (by omega) f2
    have g3 : w2.frozen? ⟨w.heap.size + 1, 1, none⟩ = false := frozen_keep hb2 (by omega) f3
    have hB2 := below_next hB1 (by omega) hb2
    have hlt : w.heap.size + 1 < w2.heap.size := by omega
    clear q0 q1 q2 q3 f2 f3 hB1 hb2 FIN
    go_wp2
    (try simp only [Exit.inBlock, Exit.then])
    refine bodyPost_ret (v := .tuple #[.agg #[.slice A2 cs.length c2, .slice B bs.length d], .bool true, .int .i64 0]) (by simp [results, Try.results19, go_sem, r2, r3, hlt]) rfl ?_
    have hA' : 0 < cs.length → ∀ p, A = some p → p.block < w.heap.size := by rw [HL.out]; exact HA.out
    have hB3 := (hB2.setCell (p := ⟨w.heap.size + 1, 0, none⟩) (by simp) (.slice A2 cs.length c2)).setCell (p := ⟨w.heap.size + 1, 1, none⟩) (by simp) (.slice B bs.length d)
    have s3 := ((hs2.far' (w.heap.size + 1) 0 (.slice A2 cs.length c2) hA' hor (by omega) (by omega)).far' (w.heap.size + 1) 1 (.slice B bs.length d) hA' hor (by omega) (by omega)).up (B' := ((w2.setCell ⟨w.heap.size + 1, 0, none⟩ (.slice A2 cs.length c2)).setCell ⟨w.heap.size + 1, 1, none⟩ (.slice B bs.length d)).heap.size) (by simp)
    exact ⟨A2, c2, rfl, s3.later ((Below.refl _ _).alloc (Nat.le_refl _) _), hor.imp_right (·.before (by omega)), hB3.alloc hB3.size _⟩

  · have hb1 : (lv == old) = false := beq_eq_false_iff_ne.2 hne
    have hb2 : (lv != old) = true := bne_iff_ne.2 hne
    clear hne
    go_wp2
    (try simp only [Exit.inBlock, Exit.then])
    refine bodyPost_ret (v := .tuple #[.agg #[.slice A cs.length c, .slice B bs.length d], .bool false, .int .i64 0]) (by simp [results, Try.results19, go_sem, q2, q3]) rfl ?_
    exact FIN.out 0
end Go.Proofs.Ytkiagdlcbfdgnaa
