/- The program's Decode. -/
import Derived.Test.YtlmkbfbiohocpaaScE
import Derived.WalkMore
namespace Go.Proofs.Ytlmkbfbiohocpaa
open Go.RowKit

section
variable {bs : List Int} {p n : Nat}
theorem tk_yes (h : p + n ≤ bs.length) : tkB bs p n = false ∧ tkP bs p n = p + n ∧ tkA bs p n = numV ((bs.drop p).take n) := by
  have e : tkB bs p n = false := decide_eq_false (by omega)
  exact ⟨e, by unfold tkP; rw [if_neg (by rw [e]; decide)], by unfold tkA; rw [if_neg (by rw [e]; decide)]⟩
theorem tk_no (h : bs.length < p + n) : tkB bs p n = true := decide_eq_true h
theorem tkP_le (h : p ≤ bs.length) : tkP bs p n ≤ bs.length := by
  unfold tkP tkB
  split
  · exact h
  · rename_i hn
    have : ¬ bs.length < p + n := fun e => hn (decide_eq_true e)
    omega
theorem tk_one (hb : Bytes9 bs) (h : p < bs.length) : tkA bs p 1 = nth bs p := by
  rw [(tk_yes (n := 1) (by omega)).2.2]
  have e : (bs.drop p).take 1 = [nth bs p] := by
    rw [List.drop_eq_getElem_cons h]
    unfold nth
    rw [List.getElem?_eq_getElem h]
    rfl
  rw [e, numV_one (hb.at p)]
end

/-- The reader's steps. -/
def rNx (bs : List Int) (r : Nat × Bool) (_ : Int) (size : Nat) : Nat × Bool := (tkP bs r.1 size, r.2 || tkB bs r.1 size)
def rAn (bs : List Int) (r : Nat × Bool) (_ : Int) (size : Nat) : Int := tkA bs r.1 size
/-- Where the reader is behind an entry, and what that is. -/
def thR (bs : List Int) (p : Nat) : (Nat × Bool) × E5 := thr (rNx bs) (rAn bs) (p, false) 0 0 0 0 0
theorem thr_kind {bs : List Int} {p : Nat} (hb : Bytes9 bs) (h : p < bs.length) : (thR bs p).2.1 = nth bs p := by
  have e : rAn bs (p, false) 0 1 = nth bs p := tk_one hb h
  unfold thR thr
  rw [e]
  by_cases h1 : nth bs p = 1
  · rw [if_pos h1, h1]
  · rw [if_neg h1]
    by_cases h2 : nth bs p = 2
    · rw [if_pos h2, h2]
    · rw [if_neg h2]
theorem thr_short {bs : List Int} {p : Nat} (hb : Bytes9 bs) (h : p < bs.length) (hs : bs.length < p + szV (nth bs p)) : (thR bs p).1.2 = true := by
  have e : rAn bs (p, false) 0 1 = nth bs p := tk_one hb h
  have y1 := tk_yes (bs := bs) (p := p) (n := 1) (by omega)
  have n1 : rNx bs (p, false) 0 1 = (p + 1, false) := by unfold rNx; rw [y1.1, y1.2.1]; rfl
  unfold thR thr
  rw [e]
  by_cases h1 : nth bs p = 1
  · rw [if_pos h1, n1]
    rw [h1] at hs
    have hs' : bs.length < p + 12 := hs
    by_cases a2 : bs.length < p + 1 + 1
    · simp [rNx, tk_no a2]
    · have y2 := tk_yes (bs := bs) (p := p + 1) (n := 1) (by omega)
      by_cases a3 : bs.length < p + 1 + 1 + 1
      · simp [rNx, y2, tk_no a3]
      · have y3 := tk_yes (bs := bs) (p := p + 1 + 1) (n := 1) (by omega)
        by_cases a4 : bs.length < p + 1 + 1 + 1 + 1
        · simp [rNx, y2, y3, tk_no a4]
        · have y4 := tk_yes (bs := bs) (p := p + 1 + 1 + 1) (n := 1) (by omega)
          have a5 : bs.length < p + 1 + 1 + 1 + 1 + 8 := by omega
          simp [rNx, y2, y3, y4, tk_no a5]
  · rw [if_neg h1]
    by_cases h2 : nth bs p = 2
    · rw [if_pos h2, n1]
      rw [h2] at hs
      have a2 : bs.length < p + 1 + 1 := hs
      simp [rNx, tk_no a2]
    · unfold szV at hs
      rw [if_neg h1, if_neg h2] at hs
      omega
theorem thr_full {bs : List Int} {p : Nat} (hb : Bytes9 bs) (h : p < bs.length) (hk : ¬(nth bs p < 1 ∨ 3 < nth bs p)) (hs : p + szV (nth bs p) ≤ bs.length) : thR bs p = ((p + szV (nth bs p), false), rdE (bs.drop p)) := by
  have e : rAn bs (p, false) 0 1 = nth bs p := tk_one hb h
  have y1 := tk_yes (bs := bs) (p := p) (n := 1) (by omega)
  have n1 : rNx bs (p, false) 0 1 = (p + 1, false) := by unfold rNx; rw [y1.1, y1.2.1]; rfl
  have nd : ∀ j, nth (bs.drop p) j = nth bs (p + j) := nth_drop bs p
  have nd0 : nth (bs.drop p) 0 = nth bs p := nd 0
  unfold thR thr
  rw [e]
  by_cases h1 : nth bs p = 1
  · rw [if_pos h1, n1]
    rw [h1] at hs
    have hs' : p + 12 ≤ bs.length := hs
    have y2 := tk_yes (bs := bs) (p := p + 1) (n := 1) (by omega)
    have y3 := tk_yes (bs := bs) (p := p + 1 + 1) (n := 1) (by omega)
    have y4 := tk_yes (bs := bs) (p := p + 1 + 1 + 1) (n := 1) (by omega)
    have y5 := tk_yes (bs := bs) (p := p + 1 + 1 + 1 + 1) (n := 8) (by omega)
    have o2 := tk_one (p := p + 1) hb (by omega)
    have o3 := tk_one (p := p + 1 + 1) hb (by omega)
    have o4 := tk_one (p := p + 1 + 1 + 1) hb (by omega)
    have hr : rdE (bs.drop p) = (1, nth bs (p + 1), nth bs (p + 1 + 1), nth bs (p + 1 + 1 + 1), numV ((bs.drop (p + 1 + 1 + 1 + 1)).take 8)) := by
      unfold rdE
      rw [nd0, h1, nd 1, nd 2, nd 3, List.drop_drop]
      rfl
    rw [hr, h1]
    simp [rNx, rAn, y2.1, y2.2.1, y3.1, y3.2.1, y4.1, y4.2.1, y5, o2, o3, o4, szV]
  · rw [if_neg h1]
    by_cases h2 : nth bs p = 2
    · rw [if_pos h2, n1]
      rw [h2] at hs
      have hs' : p + 2 ≤ bs.length := hs
      have y2 := tk_yes (bs := bs) (p := p + 1) (n := 1) (by omega)
      have o2 := tk_one (p := p + 1) hb (by omega)
      have hr : rdE (bs.drop p) = (2, nth bs (p + 1), 0, 0, 0) := by unfold rdE; rw [nd0, h2, nd 1]; rfl
      rw [hr, h2]
      simp [rNx, rAn, y2.1, y2.2.1, o2, szV]
    · have h3 : nth bs p = 3 := by omega
      rw [if_neg h2, n1]
      have hr : rdE (bs.drop p) = (3, 0, 0, 0, 0) := by unfold rdE; rw [nd0, h3]; rfl
      rw [hr, h3]
      simp [szV]

theorem take_passes (g : Nat) (s : ByteArray) (hs : s.size ≤ 1000000) : Passes 28 g (fun av r w => RAt g s av r.1 r.2 w ∧ r.1 ≤ s.size) (fun _ _ => True) (rNx (nums s)) (rAn (nums s)) where
  call1 := fun av r n w _ h => (take9_any g s av r.1 r.2 n 1 1 rfl (by omega) hs h.2 w h.1).mono fun _ _ hp => ⟨hp.1, ⟨hp.2.1, by rw [← nums_length]; exact tkP_le (by rw [nums_length]; exact h.2)⟩, hp.2.2⟩
  call8 := fun av r n w _ h => (take9_any g s av r.1 r.2 n 8 8 rfl (by omega) hs h.2 w h.1).mono fun _ _ hp => ⟨hp.1, ⟨hp.2.1, by rw [← nums_length]; exact tkP_le (by rw [nums_length]; exact h.2)⟩, hp.2.2⟩
  more := fun av r w o h => ⟨by
    have k := h.1.keep ((Below.refl w.heap.size w).alloc (Nat.le_refl _) o)
    refine ⟨fun j hj => ?_, fun hj => ?_, k.here⟩
    · rcases hj with hj | hj
      · exact k.lt j hj
      · subst hj; simp
    · rcases hj with hj | hj
      · exact h.1.ng hj
      · have := heap_lt h.1.here; omega, h.2⟩
  less := fun av av' r w hsub h => ⟨⟨fun j hj => h.1.lt j (hsub j hj), fun hj => h.1.ng (hsub _ hj), h.1.here⟩, h.2⟩
  store := fun av r w p u h hp => ⟨⟨fun j hj => by simpa using h.1.lt j hj, h.1.ng, by rw [Below.heap_setCell _ _ _ _ (fun e => h.1.ng (by rw [e]; exact hp))]; exact h.1.here⟩, h.2⟩
  lt := fun av r w h => h.1.lt
  rest := fun _ _ _ _ _ => trivial
  some := fun _ _ _ _ => trivial

theorem own_kept {w w' : World} {base : Nat} {e : TypeId} {sz n : Nat} {v : Value} {xs : List Value} {av : Nat → Prop} (h : w.ownsRow base e sz v n xs) (hk : Kept av w w') (hav : ∀ k, v.ownBlock = some k → av k) : w'.ownsRow base e sz v n xs := by
  refine ⟨h.1, ?_⟩
  rcases h.2 with h0 | ⟨g, cap, cur, rfl, hb, hg, h1⟩
  · exact .inl h0
  · exact .inr ⟨g, cap, cur, rfl, hb, (hk.block g (hav g rfl)).trans hg, h1⟩
theorem RAt.grown {g : Nat} {s : ByteArray} {av : Nat → Prop} {p : Nat} {lk : Bool} {w w' : World} {row : Option Nat} (h : RAt g s av p lk w) (hg : w.grownBy w' row) (hr : row ≠ some g) : RAt g s av p lk w' :=
  ⟨fun k hk => Nat.lt_of_lt_of_le (h.lt k hk) hg.size, h.ng, (hg.block g (heap_lt h.here) (Ne.symm hr)).trans h.here⟩

/-- How far the reader at g is. -/
def pAt (g : Nat) (w : World) : Nat := match w.cell? ⟨g, 1, none⟩ with
  | some (.int _ x) => x.toNat
  | _ => 0
theorem RAt.at {g : Nat} {s : ByteArray} {av : Nat → Prop} {p : Nat} {lk : Bool} {w : World} (h : RAt g s av p lk w) : pAt g w = p := by
  unfold pAt
  rw [heap_cell h.here]
  rfl

theorem info38 : (Try.prog.info? 38).map (fun i => (i.zero, i.size, i.bytes)) = some (some (.agg #[.int .i64 0, .int .i64 0, .int .i64 0, .int .i64 0, .int .i64 0]), 5, 40) := by kernel_rfl

theorem sees_at (w : World) (xs : List Value) (t : TypeId) (sz n H : Nat) (hH : w.heap.size = H) (h : xs.length = n * sz) : Sees (w.alloc (.cells xs.toArray t)) (w.alloc (.cells xs.toArray t)).heap.size sz (some ⟨H, 0, none⟩) n xs := by
  subst hH
  exact sees_new w xs t sz n h

/-- Entries, a place, and an error. -/
def DecPost (r : List E5 × Nat × Int) (w : World) (x : Ending) (w' : World) : Prop :=
  ∃ A c, x = .returned (.tuple #[.slice A r.1.length c, .int .i64 (r.2.1 : Int), .int .i64 r.2.2]) ∧ r.1.length ≤ c ∧ Sees w' w'.heap.size 5 A r.1.length (ec5 r.1) ∧ Below w.heap.size w w'

set_option maxRecDepth 100000 in
set_option maxHeartbeats 4000000 in
theorem dec_any (s : ByteArray) (hs : s.size ≤ 1000000) (w : World) : Calls Try.prog 18 #[.string s] w (DecPost (decG (nums s) 0 []) w) := by
  obtain ⟨i0, hi0, hz0, hz1, hz2⟩ := info_parts info38
  have hB : Below w.heap.size w (w.alloc (.cells #[.string s, .int .i64 0, .bool false] 70)) := (Below.refl _ _).alloc (Nat.le_refl _) _
  have R0 : Hid (RAt w.heap.size s (· < w.heap.size) 0 false (w.alloc (.cells #[.string s, .int .i64 0, .bool false] 70))) :=
    ⟨fun k hk => Nat.lt_of_lt_of_le hk hB.size, Nat.lt_irrefl _, heap_alloc_new w _⟩
  have HB := hide hB
  clear hB
  have HP := hide (take_passes w.heap.size s hs)
  have hsz : (s.size : Int) ≤ 1000000 := by omega
  obtain ⟨res, hres⟩ : ∃ r, decG (nums s) 0 [] = r := ⟨_, rfl⟩
  rw [hres]
  have HRES := hide hres
  clear hres
  go_enter Try.func18, Try.ntmps18
  go_wp2
  go_step3
  go_wp2
  go_step3
  go_wp2
  go_loopw [5, 8, 9] (fun lv _ wv wr => ∃ (p : Nat) (acc : List E5), wv = .int .i64 0 ∧ p ≤ s.size ∧ acc.length ≤ p ∧ decG (nums s) 0 [] = decG (nums s) p acc ∧ wr.ownsRow (w.heap.size + 1) 38 5 lv acc.length (ec5 acc) ∧ RAt w.heap.size s (· < w.heap.size) p false wr ∧ Below w.heap.size w wr) (fun _ _ _ wr => s.size - pAt w.heap.size wr)
  case atStart => exact ⟨0, [], rfl, Nat.zero_le _, Nat.le_refl _, rfl, World.ownsRow_nil _ _ _ _, R0.out, HB.out⟩
  case round =>
    obtain ⟨p, acc, rfl, hp, hal, hdec, hown, hR, hB⟩ := hrel
    generalize u5 = lv at *
    clear R0 HB
    have HR := hide hR
    have HRA := hide hR.at
    have HDEC := hide hdec
    have HBW := hide hB
    have c1 : wr.cell? ⟨w.heap.size, 1, none⟩ = some (.int .i64 p) := by rw [heap_cell hR.here]; rfl
    by_cases hlt : p < s.size
    · have hlt' : p < (nums s).length := by rw [nums_length]; exact hlt
      have hng : ∀ k, lv.ownBlock = some k → w.heap.size + 1 ≤ k ∧ k < wr.heap.size := hown.lt
      have hA0 : RAt w.heap.size s (fun k => k < w.heap.size ∨ lv.ownBlock = some k) p false wr :=
        ⟨fun k hk => hk.elim (fun h => hR.lt k h) (fun h => (hng k h).2), fun hk => hk.elim (fun h => Nat.lt_irrefl _ h) (fun h => by have := (hng _ h).1; omega), hR.here⟩
      have C := hide (through_take w.heap.size HP.out (fun k => k < w.heap.size ∨ lv.ownBlock = some k) (p, false) 0 0 0 0 0 wr trivial ⟨hA0, hp⟩)
      have HK := hide (thr_kind (nums_bytes s) hlt')
      have HS := hide (thr_short (nums_bytes s) hlt')
      have HF := hide (thr_full (nums_bytes s) hlt')
      change Hid (Calls _ _ _ _ (ThPost _ _ (thR (nums s) p) _)) at C
      obtain ⟨R, hRq⟩ : ∃ R, thR (nums s) p = R := ⟨_, rfl⟩
      rw [hRq] at C HK HS HF
      clear hRq
      obtain ⟨⟨p', lk'⟩, k', t', i', g', v'⟩ := R
      have ek : k' = nth (nums s) p := HK.out
      by_cases hk : nth (nums s) p < 1 ∨ 3 < nth (nums s) p
      · have KN := hide (kn_no k' (by rw [ek]; exact hk))
        have HN : Hid (res = ([], p, 90)) := HRES.out.symm.trans (HDEC.out.trans (dec_kind hlt' hk))
        clear hk ek HK HS HF hR hB hdec hown hng hA0 hlt'
        go_wp2_with fail
        refine C.out.mono ?_
        rintro x w1 ⟨rfl, hA, hK⟩
        have hB1 := hide (HBW.out.trans (hK.below fun k h => .inl h))
        clear hA hK C HR HDEC
        go_wp2_with (go_at_call 22; refine (KN.out _).mono ?_; rintro x w' ⟨rfl, rfl⟩; clear KN)
        (try rw [Exit.noGoto_ret])
        go_ret3
        rw [HN.out]
        exact ⟨none, 0, rfl, Nat.le_refl _, Sees.empty, (hB1.out.alloc hB1.out.size _)⟩
      · have KN := hide (kn_yes k' (by rw [ek]; omega))
        by_cases hsh : (nums s).length < p + szV (nth (nums s) p)
        · have HN : Hid (res = ([], p, 94)) := HRES.out.symm.trans (HDEC.out.trans (dec_short hlt' hk hsh))
          have el : lk' = true := HS.out hsh
          subst el
          clear hk ek HK HS HF hR hB hdec hown hng hA0 hlt' hsh
          go_wp2_with fail
          refine C.out.mono ?_
          rintro x w1 ⟨rfl, hA, hK⟩
          have hB1 := hide (HBW.out.trans (hK.below fun k h => .inl h))
          have hA1 : RAt w.heap.size s (fun k => k < w.heap.size ∨ lv.ownBlock = some k) p' true w1 := hA.1
          have c2 : w1.cell? ⟨w.heap.size, 2, none⟩ = some (.bool true) := by rw [heap_cell hA1.here]; rfl
          have zG : w.heap.size < w1.heap.size := heap_lt hA1.here
          clear hA hA1 hK C HR HDEC
          go_wp2_with (go_at_call 22; refine (KN.out _).mono ?_; rintro x w' ⟨rfl, rfl⟩; clear KN)
          (try rw [Exit.noGoto_ret])
          go_ret3
          rw [HN.out]
          exact ⟨none, 0, rfl, Nat.le_refl _, Sees.empty, (hB1.out.alloc hB1.out.size _)⟩
        · have hfit : p + szV (nth (nums s) p) ≤ (nums s).length := by omega
          have hf := HF.out hk hfit
          have HN := hide (HDEC.out.trans (dec_next (acc := acc) hlt' hk hfit))
          simp only [Prod.mk.injEq] at hf
          obtain ⟨⟨e1, rfl⟩, e2⟩ := hf
          have e3 : rdE ((nums s).drop p) = (k', t', i', g', v') := by
            rw [← Prod.eta (rdE ((nums s).drop p))]
            simp only [Prod.ext_iff] at e2 ⊢
            exact ⟨e2.1.symm, e2.2.1.symm, e2.2.2.1.symm, e2.2.2.2.1.symm, e2.2.2.2.2.symm⟩
          rw [← e1, e3] at HN
          have hz := (sz_pos (nth (nums s) p)).1
          have hp1 : p < p' ∧ p' ≤ s.size := by rw [nums_length] at hfit; omega
          clear hk ek HK HS HF hR hB hdec hA0 hlt' hsh hfit e1 e2 e3 hz
          go_wp2_with fail
          refine C.out.mono ?_
          rintro x w1 ⟨rfl, hA, hK⟩
          have hB1 := hide (HBW.out.trans (hK.below fun k h => .inl h))
          have hA1 : RAt w.heap.size s (fun k => k < w.heap.size ∨ lv.ownBlock = some k) p' false w1 := hA.1
          have HA1 := hide hA1
          have c2 : w1.cell? ⟨w.heap.size, 2, none⟩ = some (.bool false) := by rw [heap_cell hA1.here]; rfl
          have zG : w.heap.size < w1.heap.size := heap_lt hA1.here
          have hown1 := own_kept hown hK (fun k h => .inr h)
          have hroom : acc.length ≤ 1000000 := by omega
          clear hA hA1 hK C HR HDEC
          go_wp2_with (first
            | (go_at_call 22; refine (KN.out _).mono ?_; rintro x w' ⟨rfl, rfl⟩; clear KN)
            | (at_builtin; refine wpList_app _ rfl _ _ 24 rfl (w.heap.size + 1) 38 i0 _ 5 40 Try.underlying24 hi0 hz0 hz1 hz2 rfl (by omega) lv acc.length (ec5 acc) rfl ((hown1.alloc _).alloc _) _ _ 1 1 [.int .i64 k', .int .i64 t', .int .i64 i', .int .i64 g', .int .i64 v'] rfl (sees_at _ [.int .i64 k', .int .i64 t', .int .i64 i', .int .i64 g', .int .i64 v'] 38 5 1 (w1.heap.size + 1) (by simp) rfl) (by simp [Value.oneCell']) (by unfold maxLen; omega) (by omega) (by simp; omega) ?_; intro v1 w4 hown4 hg4))
          have hne : lv.ownBlock ≠ some w.heap.size := fun e => by have := (hng _ e).1; omega
          have hb2 : Below w1.heap.size w1 ((w1.alloc (.cells #[.int .i64 k', .int .i64 t', .int .i64 i', .int .i64 g', .int .i64 v'] 38)).alloc (.cells #[.int .i64 k', .int .i64 t', .int .i64 i', .int .i64 g', .int .i64 v'] 38)) := ((Below.refl _ _).alloc (Nat.le_refl _) _).alloc (by simp) _
          have hR4 : RAt w.heap.size s (· < w.heap.size) p' false w4 := by
            have h1 := (HA1.out.keep hb2).grown hg4 hne
            exact ⟨fun k hk => h1.lt k (.inl hk), Nat.lt_irrefl _, h1.here⟩
          have hB4 : Below w.heap.size w w4 := ((hB1.out.trans (hb2.mono (by omega)))).grown hg4 (by simp; omega) (fun k hk => by have := (hng k hk).1; omega)
          have HR4 := hide hR4
          have HB4 := hide hB4
          have HO4 := hide hown4
          clear hown hown1 hown4 hg4 hb2 hR4 hB4 HA1 hB1
          go_wp2
          go_roundw
          case rel => exact ⟨p', acc ++ [(k', t', i', g', v')], rfl, hp1.2, by rw [List.length_append]; simp; omega, HN.out, by rw [List.length_append, ec5_append]; exact HO4.out, HR4.out, HB4.out⟩
          case measure => rw [HR4.out.at, HRA.out]; omega
    · have HN : Hid (res = (acc, 0, 0)) := HRES.out.symm.trans (HDEC.out.trans (dec_end (by rw [nums_length]; omega)))
      obtain ⟨A', c', rfl, hc'⟩ := own_form hown
      clear hR hdec
      go_wp2
      (try rw [Exit.noGoto_ret])
      go_ret3
      rw [HN.out]
      exact ⟨A', c', rfl, hc', Sees.of_own hown, HBW.out⟩
end Go.Proofs.Ytlmkbfbiohocpaa
