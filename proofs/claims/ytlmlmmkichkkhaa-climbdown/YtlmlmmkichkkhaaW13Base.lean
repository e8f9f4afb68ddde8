/- What the laws of layer 13 begin with. -/
import Derived.Test.YtlmlmmkichkkhaaClF
import Derived.Test.YtlmlmmkichkkhaaSh13
import Derived.Test.YtlmlmmkichkkhaaMayT
import Derived.Test.YtlmlmmkichkkhaaTnI
namespace Go.Proofs.Ytlmlmmkichkkhaa
open Go.RowKit Go.Sort
set_option linter.unusedVariables false
set_option linter.unusedSimpArgs false

theorem tt_my {u : Tn} {n : Nat} (my : MayOk u n) (o : TnOk u) : 0 ≤ u.tt ∧ u.tt ≤ 15 := by
  have h0 := my.t0
  have h1 := my.t1
  have h2 := o.c.h0
  omega
theorem np_cases (c : Cf) (i n : Int) : npV c i n = -1 ∨ (((0 ≤ i ∧ i < c.x1) ∧ 1 ≤ n ∧ n ≤ ndV c.x3) ∧ npV c i n = i * bkV c.x3 c.x4 c.x5 + n) := by
  unfold npV nodeV
  split
  · rename_i h; exact .inr ⟨h, rfl⟩
  · exact .inl rfl
theorem node_in {u : Tn} {n : Nat} (my : MayOk u n) (o : TnOk u) (h : 0 ≤ ndP u) : ∃ k : Nat, ndP u = (k : Int) ∧ k < u.ws.length := by
  rcases np_cases u.c u.d.it u.d.nd with e | ⟨⟨⟨h0, h1⟩, h2, h3⟩, e⟩
  · unfold ndP at h; omega
  have hb := bk_le o.c.h3 o.c.h4 o.c.h5
  have hn := nd_le o.c.h3
  have ht := o.c.h0
  have hl4 := o.c.h4
  have hl5 := o.c.h5
  have hm := mul_le (a := u.c.x4) (b := u.c.x5) (p := 3) (q := 8) ⟨hl4.1, hl4.2⟩ ⟨by omega, hl5.2⟩
  have eb : bkV u.c.x3 u.c.x4 u.c.x5 = 1 + ndV u.c.x3 + u.c.x4 * u.c.x5 := rfl
  have hw := my.w
  unfold szV sizeV at hw
  generalize bkV u.c.x3 u.c.x4 u.c.x5 = bk at *
  have a1 : 0 ≤ u.d.it * bk := Int.mul_nonneg h0 (by omega)
  have a2 : (u.d.it + 1) * bk ≤ u.c.x1 * bk := Int.mul_le_mul_of_nonneg_right (by omega) (by omega)
  have a3 : (u.d.it + 1) * bk = u.d.it * bk + bk := by rw [Int.add_mul, Int.one_mul]
  unfold ndP
  exact ⟨(npV u.c u.d.it u.d.nd).toNat, by omega, by omega⟩
theorem nd_pos {u : Tn} (h : 0 ≤ ndP u) : 1 ≤ u.d.nd := by
  rcases np_cases u.c u.d.it u.d.nd with e | ⟨⟨_, h2, _⟩, _⟩
  · unfold ndP at h; omega
  · exact h2
theorem er_in {ws : List Int} {i : Int} {k : Nat} (hk : i = (k : Int)) (hl : k < ws.length) : erV ws.length i = 0 := by rw [hk, erV_at hl]
theorem ld_in {ws : List Int} {i : Int} {k : Nat} {x : Int} (hk : i = (k : Int)) (hx : ws[k]? = some x) : ldV ws i = x := by rw [hk, ldV_at hx]
theorem lookk_at {u : Tn} {k : Nat} {x : Int} (hk : ndP u = (k : Int)) (hx : u.ws[k]? = some x) : lookK u = if kdV x = 0 then { u with d := { u.d with ph := 5 } } else if kdV x = 1 then { u with d := { u.d with ph := 6, x := x } } else if lateB u.d.un u.now = true then overV u else u := by
  have hl := (List.getElem?_eq_some_iff.1 hx).1
  rw [lookK, if_pos (er_in hk hl), ld_in hk hx]
theorem clm_at {u : Tn} {k : Nat} {x : Int} (K : Tn → Tn) (old mine : Int) (hk : ndP u = (k : Int)) (hx : u.ws[k]? = some x) : clmV K u old mine = if x = old then K { u with ws := u.ws.set k mine } else { u with d := { u.d with ph := 4 } } := by
  have hl := (List.getElem?_eq_some_iff.1 hx).1
  rw [clmV, if_pos (er_in hk hl), hk, casB_at _ hx, casV_at _ _ hx]
  by_cases h : x = old
  · rw [if_pos (by simpa using h), if_pos h, if_pos h]
  · rw [if_neg (by simpa using h), if_neg h]
/-- A word that a step changed is the node that was looked at, and says who took it, or joined there. -/
theorem step_wsK {u : Tn} (j : Nat) {x y : Int} (hx : u.ws[j]? = some x) (hy : (stepK u).ws[j]? = some y) : y = x ∨ (ndP u = (j : Int) ∧ (y = frV 1 u.tt ∨ y = frV 2 u.tt)) := by
  have clm : ∀ (K : Tn → Tn) (hK : ∀ v, (K v).ws = v.ws) (old mine : Int), (clmV K u old mine).ws[j]? = some y → y = x ∨ (ndP u = (j : Int) ∧ y = mine) := by
    intro K hK old mine h
    unfold clmV at h
    split at h
    · split at h
      · rename_i hq
        rw [hK] at h
        simp only [] at h
        rw [casV, if_pos hq] at h
        unfold stV at h
        split at h
        · rename_i hr
          by_cases he : (ndP u).toNat = j
          · have : ndP u = (j : Int) := by simp [inR] at hr; omega
            rw [he, List.getElem?_set_self (List.getElem?_eq_some_iff.1 hx).1] at h
            exact .inr ⟨this, (Option.some.inj h).symm⟩
          · rw [List.getElem?_set_ne he, hx] at h; exact .inl (Option.some.inj h).symm
        · rw [hx] at h; exact .inl (Option.some.inj h).symm
      · simp only [] at h; rw [hx] at h; exact .inl (Option.some.inj h).symm
    · rw [hx] at h; exact .inl (Option.some.inj h).symm
  unfold stepK at hy
  split at hy
  · rw [lookk_ws, hx] at hy; exact .inl (Option.some.inj hy).symm
  · split at hy
    · rcases clm _ hold_ws _ _ hy with e | ⟨e, f⟩
      · exact .inl e
      · exact .inr ⟨e, .inl f⟩
    · split at hy
      · rcases clm _ won_ws _ _ hy with e | ⟨e, f⟩
        · exact .inl e
        · exact .inr ⟨e, .inr f⟩
      · rw [hx] at hy; exact .inl (Option.some.inj hy).symm
theorem down_back (u : Tn) : ({ downV u with d := { (downV u).d with ph := u.d.ph } } : Tn) = u := by unfold downV; split; rfl; split <;> rfl
theorem word_cell {w : World} {B b off n k : Nat} {l : List Int} {x : Int} (h : Sees w B 1 (some ⟨b, off, none⟩) n (l.map (Value.int .i64))) (he : l[k]? = some x) : w.cell? ⟨b, off + k, none⟩ = some (.int .i64 x) := by
  have hk := (List.getElem?_eq_some_iff.1 he).1
  have hn : 0 < n := by have := h.1; simp at this; omega
  obtain ⟨b', off', e', hb, hc⟩ := h.2 hn
  cases e'
  exact hc k _ (by simp [he])
theorem Sees.some_of {w : World} {B sz n : Nat} {A : Option Addr} {xs : List Value} (h : Sees w B sz A n xs) (hn : 0 < n) : ∃ b off, A = some ⟨b, off, none⟩ ∧ b < B := by
  obtain ⟨b, off, e, hb, _⟩ := h.2 hn; exact ⟨b, off, e, hb⟩
theorem keepR {w W W' : World} {g gk gz : Nat} {cs ds es : List Value} (h : boxOf W g = some cs ∧ boxOf W gk = some ds ∧ boxOf W gz = some es ∧ Below w.heap.size w W) (hb : Below W.heap.size W W') : boxOf W' g = some cs ∧ boxOf W' gk = some ds ∧ boxOf W' gz = some es ∧ Below w.heap.size w W' := ⟨boxOf_keep h.1 hb, boxOf_keep h.2.1 hb, boxOf_keep h.2.2.1 hb, below_next h.2.2.2 h.2.2.2.size hb⟩
theorem TnAt.like {W : World} {u v : Tn} {a : TA} (h : TnAt W u a) (l : LikeK u v) (hw : v.ws = u.ws) (hh : v.d.hl = u.d.hl) : TnAt W v a := ⟨by rw [hw]; exact h.m, h.bx.trans l.bx.symm, ⟨by rw [l.bl]; exact h.th.b, by rw [l.kl]; exact h.th.k, by rw [hh]; exact h.th.h⟩, by rw [l.tl]; exact h.tp, by rw [l.ll]; exact h.lg⟩
end Go.Proofs.Ytlmlmmkichkkhaa
