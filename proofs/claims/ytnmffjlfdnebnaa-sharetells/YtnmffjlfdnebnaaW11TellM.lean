/- What telling all kids makes of the words. -/
import Derived.Test.YtnmffjlfdnebnaaW11Base
namespace Go.Proofs.Ytnmffjlfdnebnaa
open Go.RowKit Go.Sort
set_option linter.unusedVariables false
set_option linter.unusedSimpArgs false

/-- The i-th kid; what a kid gets; the words behind i kids; the turns on the way. -/
def kidI (u : Tn) (i : Nat) : Int × Int := u.d.kl[i]?.getD (0, 0)
def getI (u : Tn) (k : Int × Int) : Int := allV (u.d.bl.take (upN k.2 u.d.bl.length)) u.d.x u.c.x9 u.c.x10
def tellR (u : Tn) (ws : List Int) (k : Int × Int) : List Int := stV ws (rsV u.c k.1) (getI u k)
def tell1 (u : Tn) (ws : List Int) (k : Int × Int) : List Int := stV (tellR u ws k) (lnV u.c k.1) 5
def toldW (u : Tn) : Nat → List Int
  | 0 => u.ws
  | i + 1 => tell1 u (toldW u i) (kidI u i)
def tn0 (u : Tn) : Tn := { u with d := { u.d with pl := 0 }, dn := false }
def evP (u : Tn) (i : Nat) : Tn := { u with ws := toldW u i, d := { u.d with pl := (i : Int) }, dn := false }
def evT (u : Tn) (i : Nat) : Tn := setlV (evP u i)
def odT (u : Tn) (i : Nat) : Tn := { u with ws := tellR u (toldW u i) (kidI u i), d := { u.d with ph := 16, pl := (i : Int) }, dn := false }
def stT (u : Tn) (n : Nat) : Tn := if n % 2 = 0 then evT u (n / 2) else odT u (n / 2)
/-- All its kids are threads that there are, and the memory is as great as that asks. -/
structure KidsIn (u : Tn) : Prop where
  k : ∀ i, i < u.d.kl.length → 0 ≤ (kidI u i).1 ∧ (kidI u i).1 < u.c.x0
  z : 0 ≤ u.c.x1 * bkV u.c.x3 u.c.x4 u.c.x5
  w : (u.ws.length : Int) = u.c.x1 * bkV u.c.x3 u.c.x4 u.c.x5 + 2 * u.c.x0
theorem KidsIn.ln {u : Tn} (h : KidsIn u) {t : Int} (h0 : 0 ≤ t) (h1 : t < u.c.x0) : lnV u.c t = u.c.x1 * bkV u.c.x3 u.c.x4 u.c.x5 + 2 * t := by rw [lnV, lineV, if_pos ⟨h0, h1⟩]
theorem KidsIn.rs {u : Tn} (h : KidsIn u) {t : Int} (h0 : 0 ≤ t) (h1 : t < u.c.x0) : rsV u.c t = u.c.x1 * bkV u.c.x3 u.c.x4 u.c.x5 + 2 * t + 1 := by rw [rsV, resV, if_pos ⟨h0, h1⟩]
theorem tellR_length (u : Tn) (ws : List Int) (k : Int × Int) : (tellR u ws k).length = ws.length := stV_length _ _ _
theorem tell1_length (u : Tn) (ws : List Int) (k : Int × Int) : (tell1 u ws k).length = ws.length := by rw [tell1, stV_length, tellR_length]
theorem toldW_length (u : Tn) : ∀ i, (toldW u i).length = u.ws.length
  | 0 => rfl
  | i + 1 => by rw [toldW, tell1_length, toldW_length u i]
theorem setl_ph (u : Tn) (z : Int) : setlV { u with d := { u.d with ph := z } } = setlV u := by
  have e : kidB { u.d with ph := z } = kidB u.d := rfl
  unfold setlV
  simp only [e]
theorem kidB_in (u : Tn) {i : Nat} (h : i < u.d.kl.length) (x y : Int) : kidB { u.d with ph := x, pl := (i : Int) } = true := inR_at h
theorem kidV_in (u : Tn) {i : Nat} (h : i < u.d.kl.length) (x y : Int) : kidV { u.d with ph := x, pl := (i : Int) } = kidI u i := by
  simp [kidV, kidI, inR_at h]
theorem er_in {n : Nat} {i : Int} (h0 : 0 ≤ i) (h1 : i < (n : Int)) : erV n i = 0 := by
  simp [erV, inR, h0, h1]
theorem evT_in (u : Tn) {i : Nat} (h : i < u.d.kl.length) : evT u i = { u with ws := toldW u i, d := { u.d with ph := 15, pl := (i : Int) }, dn := false } := by
  rw [evT, setlV, if_pos (show kidB (evP u i).d = true from inR_at h)]; rfl
theorem evT_end (u : Tn) : evT u u.d.kl.length = { u with ws := toldW u u.d.kl.length, d := { u.d with ph := 0, pl := (u.d.kl.length : Int) }, dn := true } := by
  rw [evT, setlV, if_neg (show ¬ kidB (evP u u.d.kl.length).d = true by show ¬ inR u.d.kl.length (u.d.kl.length : Int) = true; rw [inR_no (.inr (Int.le_refl _))]; decide)]; rfl
theorem step_ev {u : Tn} (K : KidsIn u) {i : Nat} (h : i < u.d.kl.length) : stepV (evT u i) = odT u i := by
  obtain ⟨k0, k1⟩ := K.k i h
  have hr := K.rs k0 k1
  have hw := K.w
  have hz := K.z
  have e1 := kidV_in u h 15 0
  have e2 : kidB { u.d with ph := 15, pl := (i : Int) } = true := inR_at h
  rw [evT_in u h, stepV, if_neg (by show ¬ (15 : Int) = 13; decide), if_neg (by show ¬ (15 : Int) = 14; decide), if_pos rfl, shrV, if_pos ⟨e2, by
    show erV (toldW u i).length (rsV u.c (kidV { u.d with ph := 15, pl := (i : Int) }).1) = 0
    rw [e1, toldW_length]; exact er_in (by omega) (by omega)⟩]
  show ({ u with ws := stV (toldW u i) (rsV u.c (kidV { u.d with ph := 15, pl := (i : Int) }).1) (allV (u.d.bl.take (upN (kidV { u.d with ph := 15, pl := (i : Int) }).2 u.d.bl.length)) u.d.x u.c.x9 u.c.x10), d := { u.d with ph := 16, pl := (i : Int) }, dn := false } : Tn) = odT u i
  rw [e1]; rfl
theorem step_od {u : Tn} (K : KidsIn u) {i : Nat} (h : i < u.d.kl.length) : stepV (odT u i) = evT u (i + 1) := by
  obtain ⟨k0, k1⟩ := K.k i h
  have hr := K.ln k0 k1
  have hw := K.w
  have hz := K.z
  have e1 := kidV_in u h 16 0
  have e2 : kidB { u.d with ph := 16, pl := (i : Int) } = true := inR_at h
  rw [odT, stepV, if_neg (by show ¬ (16 : Int) = 13; decide), if_neg (by show ¬ (16 : Int) = 14; decide), if_neg (by show ¬ (16 : Int) = 15; decide), if_pos rfl, telV, if_pos ⟨e2, by
    show erV (tellR u (toldW u i) (kidI u i)).length (lnV u.c (kidV { u.d with ph := 16, pl := (i : Int) }).1) = 0
    rw [e1, tellR_length, toldW_length]; exact er_in (by omega) (by omega)⟩]
  show setlV ({ u with ws := stV (tellR u (toldW u i) (kidI u i)) (lnV u.c (kidV { u.d with ph := 16, pl := (i : Int) }).1) 5, d := { u.d with ph := 16, pl := (i : Int) + 1 }, dn := false } : Tn) = evT u (i + 1)
  rw [e1, evT, ← setl_ph (evP u (i + 1)) 16]; rfl
theorem stT_even (u : Tn) (i : Nat) : stT u (2 * i) = evT u i := by rw [stT, if_pos (by omega), show 2 * i / 2 = i by omega]
theorem stT_odd (u : Tn) (i : Nat) : stT u (2 * i + 1) = odT u i := by rw [stT, if_neg (by omega), show (2 * i + 1) / 2 = i by omega]
theorem step_stT {u : Tn} (K : KidsIn u) {n : Nat} (h : n < 2 * u.d.kl.length) : stepV (stT u n) = stT u (n + 1) ∧ isB (stT u n) = true ∧ (stT u n).dn = false := by
  obtain ⟨i, hi⟩ : ∃ i, n = 2 * i ∨ n = 2 * i + 1 := ⟨n / 2, by omega⟩
  rcases hi with rfl | rfl
  · have hl : i < u.d.kl.length := by omega
    rw [stT_even, stT_odd]
    exact ⟨step_ev K hl, by rw [evT_in u hl]; rfl, by rw [evT_in u hl]⟩
  · have hl : i < u.d.kl.length := by omega
    rw [stT_odd, show 2 * i + 1 + 1 = 2 * (i + 1) by omega, stT_even]
    exact ⟨step_od K hl, rfl, rfl⟩
theorem stT_zero (u : Tn) : stT u 0 = setlV (tn0 u) := rfl
theorem stT_end (u : Tn) : stT u (2 * u.d.kl.length) = { u with ws := toldW u u.d.kl.length, d := { u.d with ph := 0, pl := (u.d.kl.length : Int) }, dn := true } := by rw [stT_even, evT_end]
theorem Like.trans {u v x : Tn} (a : Like u v) (b : Like v x) : Like u x := ⟨b.bx.trans a.bx, b.bl.trans a.bl, b.kl.trans a.kl, b.hl.trans a.hl, b.tl.trans a.tl, b.ll.trans a.ll, b.wl.trans a.wl⟩
theorem like_tn0 (u : Tn) : Like u (tn0 u) := ⟨rfl, rfl, rfl, rfl, rfl, rfl, rfl⟩
theorem stT_like {u : Tn} (K : KidsIn u) : ∀ n, n ≤ 2 * u.d.kl.length → Like u (stT u n)
  | 0, _ => (like_tn0 u).trans (by rw [stT_zero]; exact like_set _)
  | n + 1, h => (stT_like K n (by omega)).trans (by rw [← (step_stT K (by omega : n < _)).1]; exact like_step _)
theorem stT_ok {u : Tn} (K : KidsIn u) (o : TnOk u) : ∀ n, n ≤ 2 * u.d.kl.length → TnOk (stT u n)
  | 0, _ => by rw [stT_zero]; exact TnOk.setl (o.num false o.iph (i64_k 0 (by decide)) o.ix o.ws)
  | n + 1, h => by rw [← (step_stT K (by omega : n < _)).1]; exact (stT_ok K o n (by omega)).step
/-- The words in the end. -/
theorem st_far {ws : List Int} {i j v : Int} (h : j ≠ i) : ldV (stV ws i v) j = ldV ws j := by
  unfold ldV
  rw [stV_length]
  split
  · rename_i hj
    simp only [inR, Bool.and_eq_true, decide_eq_true_eq] at hj
    unfold stV; split
    · rename_i hi
      simp only [inR, Bool.and_eq_true, decide_eq_true_eq] at hi
      rw [List.getElem?_set_ne (by omega)]
    · rfl
  · rfl
theorem st_near {ws : List Int} {i v : Int} (h0 : 0 ≤ i) (h1 : i < (ws.length : Int)) : ldV (stV ws i v) i = v := by
  have hr : inR ws.length i = true := by simp [inR, h0, h1]
  unfold ldV
  rw [stV_length, if_pos hr, stV, if_pos hr, List.getElem?_set_self (by omega)]; rfl
theorem told_line {u : Tn} (K : KidsIn u) {i : Nat} (hi : i < u.d.kl.length) : ∀ m, i < m → m ≤ u.d.kl.length → ldV (toldW u m) (lnV u.c (kidI u i).1) = 5
  | 0, h, _ => by omega
  | m + 1, h, hm => by
    obtain ⟨a0, a1⟩ := K.k i hi
    obtain ⟨b0, b1⟩ := K.k m (by omega)
    have ea := K.ln a0 a1
    have eb := K.ln b0 b1
    have er := K.rs b0 b1
    have hw := K.w
    have hz := K.z
    rw [toldW, tell1]
    by_cases e : (kidI u i).1 = (kidI u m).1
    · rw [e]; exact st_near (by omega) (by rw [tellR_length, toldW_length]; omega)
    · have hne : i ≠ m := fun he => e (by rw [he])
      rw [st_far (by omega), tellR, st_far (by omega)]
      exact told_line K hi m (by omega) (by omega)
theorem told_res {u : Tn} (K : KidsIn u) {i : Nat} (hi : i < u.d.kl.length) : ∀ m, i < m → m ≤ u.d.kl.length → (∀ j, i < j → j < m → (kidI u j).1 ≠ (kidI u i).1) → ldV (toldW u m) (rsV u.c (kidI u i).1) = getI u (kidI u i)
  | 0, h, _, _ => by omega
  | m + 1, h, hm, hl => by
    obtain ⟨a0, a1⟩ := K.k i hi
    obtain ⟨b0, b1⟩ := K.k m (by omega)
    have ea := K.rs a0 a1
    have eb := K.ln b0 b1
    have er := K.rs b0 b1
    have hw := K.w
    have hz := K.z
    rw [toldW, tell1, st_far (by omega), tellR]
    by_cases e : i = m
    · subst e
      exact st_near (by omega) (by rw [toldW_length]; omega)
    · have hn := hl m (by omega) (by omega)
      rw [st_far (by omega)]
      exact told_res K hi m (by omega) (by omega) (fun j h1 h2 => hl j h1 (by omega))
theorem getI_i64 {u : Tn} (o : TnOk u) (k : Int × Int) : I64 (getI u k) := allV_i64 (o.f.b.take _) o.ix o.lo o.hi
theorem kidI_i64 {u : Tn} (o : TnOk u) {i : Nat} (h : i < u.d.kl.length) : I64 (kidI u i).1 ∧ I64 (kidI u i).2 := by
  have := kid_i64 (u := { u with d := { u.d with ph := u.d.ph, pl := (i : Int) } }) (o.num u.dn o.iph (i64_k _ (by have := o.k; omega)) o.ix o.ws)
  rwa [show kidV ({ u with d := { u.d with ph := u.d.ph, pl := (i : Int) } } : Tn).d = kidI u i from kidV_in u h u.d.ph 0] at this
theorem MayOk.kids {u : Tn} {n : Nat} (m : MayOk u n) (o : TnOk u) (hk : ∀ i, i < u.d.kl.length → 0 ≤ (kidI u i).1 ∧ (kidI u i).1 < u.c.x0) : KidsIn u := by
  have hb := bk_le o.c.h3 o.c.h4 o.c.h5
  have h1 := o.c.h1
  exact ⟨hk, Int.mul_nonneg (by omega) (by omega), m.w⟩
end Go.Proofs.Ytnmffjlfdnebnaa
