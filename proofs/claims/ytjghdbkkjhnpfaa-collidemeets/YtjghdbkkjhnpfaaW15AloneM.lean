/- What a thread that meets nobody does, as plain data. -/
import Derived.Test.YtjghdbkkjhnpfaaW15Slots
import Derived.Lib.QuietBelow
import Derived.Deep.QuietTactic
import Derived.BigQuiet
namespace Go.Proofs.Ytjghdbkkjhnpfaa
open Go.RowKit Go.Sort
set_option linter.unusedVariables false
set_option linter.unusedSimpArgs false

/-- The turn behind n steps: W its words with all slots 0, k its line, p its slot. -/
def alT (u : Tn) (W : List Int) (k p n : Nat) : Tn :=
  if n = 0 then { u with ws := W, bx := u.bx, ta := u.ta, d := { u.d with ph := 17, lf := u.d.lf } }
  else if n = 1 then { u with ws := W, bx := (ptV u.bx u.tt u.d.bl), ta := u.ta, d := { u.d with ph := 18, lf := u.d.lf } }
  else if n = 2 then { u with ws := (W.set k (opW u)), bx := (ptV u.bx u.tt u.d.bl), ta := u.ta, d := { u.d with ph := 19, lf := u.d.lf } }
  else if n ≤ 3 + u.c.x6.toNat then { u with ws := ((W.set k (opW u)).set p (u.tt + 1)), bx := (ptV u.bx u.tt u.d.bl), ta := (blA u.tl u.ta u.d.wd), d := { u.d with ph := 23, lf := (3 + u.c.x6 - (n : Int)) } }
  else { u with ws := ((W.set k (opW u)).set p (u.tt + 1)), bx := (ptV u.bx u.tt u.d.bl), ta := (blA u.tl u.ta u.d.wd), d := { u.d with ph := 26, lf := 0 } }
structure AlH (u : Tn) (W : List Int) (k p : Nat) : Prop where
  hk : lnV u.c u.tt = (k : Int)
  kl : k < W.length
  hp : swP u = (p : Int)
  pl : p < W.length
  ne : k ≠ p
  z : W[p]? = some 0
  tt : 0 ≤ u.tt ∧ u.tt < (u.bx.length : Int)
  t16 : u.tt ≤ 15
  un : lateB u.d.un u.now = false
  sp : 0 ≤ u.c.x6 ∧ u.c.x6 ≤ 20
theorem alT_next {u : Tn} {W : List Int} {k p n : Nat} (H : AlH u W k p) (hn : n < 4 + u.c.x6.toNat) : stepC (alT u W k p n) = alT u W k p (n + 1) ∧ isC (alT u W k p n) = true := by
  have h6 := H.sp
  have hE : ∀ (L : List Int), L.length = W.length → erV L.length (lnV u.c u.tt) = 0 := fun L hL => er_in H.hk (by rw [hL]; exact H.kl)
  rcases Nat.lt_or_ge n 3 with h3 | h3
  · rcases (show n = 0 ∨ n = 1 ∨ n = 2 by omega) with rfl | rfl | rfl
    · refine ⟨?_, rfl⟩
      show shwC _ = _
      unfold shwC
      exact (if_pos (show erV u.bx.length u.tt = 0 by unfold erV inR; simp [H.tt.1, H.tt.2])).trans rfl
    · refine ⟨?_, rfl⟩
      show opnC _ = _
      unfold opnC
      refine (if_pos (show erV W.length (lnV u.c u.tt) = 0 from hE W rfl)).trans ?_
      show { u with ws := (stV W (lnV u.c u.tt) (opW u)), bx := (ptV u.bx u.tt u.d.bl), ta := u.ta, d := { u.d with ph := 19, lf := u.d.lf } } = _
      rw [H.hk, stV_at _ H.kl]
      rfl
    · refine ⟨?_, rfl⟩
      show swpC _ = _
      unfold swpC
      have hl : p < (W.set k (opW u)).length := by rw [List.length_set]; exact H.pl
      have hx : (W.set k (opW u))[p]? = some 0 := by rw [List.getElem?_set_ne H.ne]; exact H.z
      refine (if_pos (show erV (W.set k (opW u)).length (swP u) = 0 from er_in H.hp hl)).trans ?_
      have hq : swQ ({ u with ws := (W.set k (opW u)), bx := (ptV u.bx u.tt u.d.bl), ta := u.ta, d := { u.d with ph := 19, lf := u.d.lf } } : Tn) = 0 := ld_in H.hp hx
      refine (if_neg (show ¬ metB (alT u W k p 2) (swQ (alT u W k p 2)) = true from by rw [show swQ (alT u W k p 2) = 0 from hq]; unfold metB; simp)).trans ?_
      show { u with ws := (stV (W.set k (opW u)) (swP u) (u.tt + 1)), bx := (ptV u.bx u.tt u.d.bl), ta := (blA u.tl u.ta u.d.wd), d := { u.d with ph := 23, lf := u.c.x6 } } = alT u W k p 3
      rw [H.hp, stV_at _ hl]
      unfold alT
      rw [if_neg (by decide), if_neg (by decide), if_neg (by decide), if_pos (by omega), show (3 + u.c.x6 - ((3 : Nat) : Int)) = u.c.x6 by omega]
  · have e : alT u W k p n = { u with ws := ((W.set k (opW u)).set p (u.tt + 1)), bx := (ptV u.bx u.tt u.d.bl), ta := (blA u.tl u.ta u.d.wd), d := { u.d with ph := 23, lf := (3 + u.c.x6 - (n : Int)) } } := by
      unfold alT; rw [if_neg (by omega), if_neg (by omega), if_neg (by omega), if_pos (by omega)]
    rw [e]
    refine ⟨?_, rfl⟩
    show spiC _ = _
    unfold spiC
    have hl : ((W.set k (opW u)).set p (u.tt + 1)).length = W.length := by simp
    have hx : ((W.set k (opW u)).set p (u.tt + 1))[k]? = some (opW u) := by
      rw [List.getElem?_set_ne (Ne.symm H.ne)]; exact List.getElem?_set_self H.kl
    refine (if_pos (show erV ((W.set k (opW u)).set p (u.tt + 1)).length (lnV u.c u.tt) = 0 from hE _ hl)).trans ?_
    refine (if_pos (show ldV ((W.set k (opW u)).set p (u.tt + 1)) (lnV u.c u.tt) = opW u from ld_in H.hk hx)).trans ?_
    by_cases q : n < 3 + u.c.x6.toNat
    · refine (if_pos (show 1 ≤ 3 + u.c.x6 - (n : Int) ∧ lateB u.d.un u.now = false from ⟨by omega, H.un⟩)).trans ?_
      have hw : wrap64 (3 + u.c.x6 - (n : Int) - 1) = 3 + u.c.x6 - ((n + 1 : Nat) : Int) := by rw [wrap64_id (by unfold I64; omega)]; omega
      unfold spoV alT
      rw [if_neg (by omega), if_neg (by omega), if_neg (by omega), if_pos (by omega), hw]
    · refine (if_neg (show ¬ (1 ≤ 3 + u.c.x6 - (n : Int) ∧ lateB u.d.un u.now = false) from fun e => by have h1 := e.1; omega)).trans ?_
      unfold alT
      rw [if_neg (by omega), if_neg (by omega), if_neg (by omega), if_neg (by omega), show (3 + u.c.x6 - (n : Int)) = 0 by omega]
theorem alT_ok {u : Tn} (o : TnOk u) {W : List Int} (hw : ∀ x ∈ W, I64 x) {k p : Nat} (io : I64 (opW u)) (t0 : 0 ≤ u.tt ∧ u.tt ≤ 15) (sp : 0 ≤ u.c.x6 ∧ u.c.x6 ≤ 20) (n : Nat) (hn : n ≤ 4 + u.c.x6.toNat) : TnOk (alT u W k p n) := by
  have key : ∀ (L : List Int) (bx : List (List E3)) (ta a b : Int), (∀ x ∈ L, I64 x) → I64 a → I64 b → TnOk { u with ws := L, bx := bx, ta := ta, d := { u.d with ph := a, lf := b } } := fun L bx ta a b hL ha hb => by
    refine ⟨o.b, o.k, o.h, o.l, o.t, ⟨fun e he => ?_, o.f.t, o.f.v, o.f.b, o.f.h, o.f.k⟩, o.lo, o.hi, o.tt, hL, o.c⟩
    simp only [Dt.nums, List.mem_cons, List.not_mem_nil, or_false] at he
    rcases he with rfl | rfl | rfl | rfl | rfl | rfl | rfl | rfl | rfl | rfl | rfl | rfl <;> first | assumption | exact o.f.n _ (by simp [Dt.nums])
  have ilf : I64 u.d.lf := o.f.n _ (by simp [Dt.nums])
  have w1 := set_i64 hw k io
  have w2 := set_i64 w1 p (v := u.tt + 1) (by unfold I64; omega)
  unfold alT
  split
  · exact key _ _ _ _ _ hw (i64_k 17 (by decide)) ilf
  · split
    · exact key _ _ _ _ _ hw (i64_k 18 (by decide)) ilf
    · split
      · exact key _ _ _ _ _ w1 (i64_k 19 (by decide)) ilf
      · split
        · exact key _ _ _ _ _ w2 (i64_k 23 (by decide)) (by unfold I64; omega)
        · exact key _ _ _ _ _ w2 (i64_k 26 (by decide)) (i64_k 0 (by decide))
theorem alT_same (u : Tn) (W : List Int) (k p n : Nat) : (alT u W k p n).tt = u.tt ∧ (alT u W k p n).d.it = u.d.it ∧ (alT u W k p n).d.ly = u.d.ly := by
  unfold alT; repeat' split
  all_goals exact ⟨rfl, rfl, rfl⟩
theorem alT_ta (u : Tn) (W : List Int) (k p n : Nat) : (alT u W k p n).ta = u.ta ∨ (alT u W k p n).ta = blA u.tl u.ta u.d.wd := by
  unfold alT; repeat' split
  all_goals first | exact .inl rfl | exact .inr rfl
theorem alT_ph (u : Tn) (W : List Int) (k p n : Nat) (hn : n < 4 + u.c.x6.toNat) : ((alT u W k p n).d.ph == 26) = false := by
  unfold alT; repeat' split
  all_goals first | rfl | (exfalso; omega)
theorem alT_end (u : Tn) (W : List Int) (k p : Nat) : alT u W k p (4 + u.c.x6.toNat) = { u with ws := ((W.set k (opW u)).set p (u.tt + 1)), bx := (ptV u.bx u.tt u.d.bl), ta := (blA u.tl u.ta u.d.wd), d := { u.d with ph := 26, lf := 0 } } := by
  unfold alT; rw [if_neg (by omega), if_neg (by omega), if_neg (by omega), if_neg (by omega)]
/-- .. and leaves. -/
theorem al_lea {u : Tn} {W : List Int} {k p : Nat} (H : AlH u W k p) : stepC (alT u W k p (4 + u.c.x6.toNat)) = leaV { u with ws := (((W.set k (opW u)).set p (u.tt + 1)).set k 0), bx := (ptV u.bx u.tt u.d.bl), ta := (blA u.tl u.ta u.d.wd), d := { u.d with ph := 26, lf := 0 } } ∧ isC (alT u W k p (4 + u.c.x6.toNat)) = true := by
  rw [alT_end]
  refine ⟨?_, rfl⟩
  show leaC _ = _
  unfold leaC
  have hl : ((W.set k (opW u)).set p (u.tt + 1)).length = W.length := by simp
  have hx : ((W.set k (opW u)).set p (u.tt + 1))[k]? = some (opW u) := by
    rw [List.getElem?_set_ne (Ne.symm H.ne)]; exact List.getElem?_set_self H.kl
  refine (if_pos (show erV ((W.set k (opW u)).set p (u.tt + 1)).length (lnV u.c u.tt) = 0 from er_in H.hk (by rw [hl]; exact H.kl))).trans ?_
  have hb : casB ((W.set k (opW u)).set p (u.tt + 1)) (lnV u.c u.tt) (opW u) = true := by rw [H.hk, casB_at _ hx]; simp
  refine (if_pos (show casB ((W.set k (opW u)).set p (u.tt + 1)) (lnV u.c u.tt) (opW u) = true from hb)).trans ?_
  show leaV { u with ws := (casV ((W.set k (opW u)).set p (u.tt + 1)) (lnV u.c u.tt) (opW u) 0), bx := (ptV u.bx u.tt u.d.bl), ta := (blA u.tl u.ta u.d.wd), d := { u.d with ph := 26, lf := 0 } } = _
  rw [H.hk, casV_at _ _ hx, if_pos rfl]
end Go.Proofs.Ytjghdbkkjhnpfaa
