/- What a thread that finds another one does, as plain data. -/
import Derived.Test.YtjghdbkkjhnpfaaW15AloneP
import Derived.Lib.QuietBelow
import Derived.Deep.QuietTactic
import Derived.BigQuiet
namespace Go.Proofs.Ytjghdbkkjhnpfaa
open Go.RowKit Go.Sort
set_option linter.unusedVariables false
set_option linter.unusedSimpArgs false

theorem set_same {l : List Int} {k : Nat} {x : Int} (h : l[k]? = some x) : l.set k x = l := by
  apply List.ext_getElem?
  intro i
  by_cases e : k = i
  · subst e
    rw [List.getElem?_set_self (List.getElem?_eq_some_iff.1 h).1, h]
  · rw [List.getElem?_set_ne e]
/-- The turn behind n steps: W its words as they are laid, k its line, kq the other one's, p its slot, q the other one; op: that is open. -/
def meT (u : Tn) (W : List Int) (k kq p q : Nat) (op : Bool) (n : Nat) : Tn :=
  if n = 0 then ({ u with ws := W, ta := u.ta, d := { u.d with ph := 19, who := u.d.who } } : Tn)
  else if n = 1 then ({ u with ws := (W.set p (u.tt + 1)), ta := (blA u.tl u.ta u.d.wd), d := { u.d with ph := 20, who := (q : Int) } } : Tn)
  else if n = 2 then ({ u with ws := ((W.set p (u.tt + 1)).set k 0), ta := (blA u.tl u.ta u.d.wd), d := { u.d with ph := 21, who := (q : Int) } } : Tn)
  else if n = 3 then (if op = true then ({ u with ws := (((W.set p (u.tt + 1)).set k 0).set kq 0), ta := (blA u.tl u.ta u.d.wd), d := { u.d with ph := 22, who := (q : Int) } } : Tn) else ({ u with ws := ((W.set p (u.tt + 1)).set k 0), ta := (blA u.tl u.ta u.d.wd), d := { u.d with ph := 24, who := (q : Int) } } : Tn))
  else (if op = true then (absV ({ u with ws := (((W.set p (u.tt + 1)).set k 0).set kq 0), ta := (blA u.tl u.ta u.d.wd), d := { u.d with ph := 22, who := (q : Int) } } : Tn) (bxV u.bx (q : Int))) else (spnV ({ u with ws := (((W.set p (u.tt + 1)).set k 0).set k (opW u)), ta := (blA u.tl u.ta u.d.wd), d := { u.d with ph := 24, who := (q : Int) } } : Tn)))
structure MeH (u : Tn) (W : List Int) (k kq p q : Nat) (op : Bool) (ov : Int) : Prop where
  hk : lnV u.c u.tt = (k : Int)
  kl : k < W.length
  hq : lnV u.c (q : Int) = (kq : Int)
  ql : kq < W.length
  hp : swP u = (p : Int)
  pl : p < W.length
  kp : k ≠ p
  qp : kq ≠ p
  kk : k ≠ kq
  zp : W[p]? = some ((q : Int) + 1)
  zk : W[k]? = some (opW u)
  zq : W[kq]? = some ov
  o1 : op = true → ov = opW u
  o2 : op = false → ov ≠ opW u
  ne : (q : Int) ≠ u.tt
  q1 : (q : Int) < u.c.x0
  qb : q < u.bx.length
  q16 : q ≤ 15
theorem meT_next {u : Tn} {W : List Int} {k kq p q : Nat} {op : Bool} {ov : Int} (H : MeH u W k kq p q op ov) {n : Nat} (hn : n < 4) : stepC (meT u W k kq p q op n) = meT u W k kq p q op (n + 1) ∧ isC (meT u W k kq p q op n) = true := by
  have h1k : ((W.set p (u.tt + 1)))[k]? = some (opW u) := by rw [List.getElem?_set_ne (Ne.symm H.kp)]; exact H.zk
  have h1q : ((W.set p (u.tt + 1)))[kq]? = some ov := by rw [List.getElem?_set_ne (Ne.symm H.qp)]; exact H.zq
  have h2q : (((W.set p (u.tt + 1)).set k 0))[kq]? = some ov := by rw [List.getElem?_set_ne H.kk]; exact h1q
  have l1 : ((W.set p (u.tt + 1))).length = W.length := by simp
  have l2 : (((W.set p (u.tt + 1)).set k 0)).length = W.length := by simp
  have hE : ∀ (L : List Int), L.length = W.length → erV L.length (lnV u.c u.tt) = 0 := fun L hL => er_in H.hk (by rw [hL]; exact H.kl)
  have hEq : ∀ (L : List Int), L.length = W.length → erV L.length (lnV u.c (q : Int)) = 0 := fun L hL => er_in H.hq (by rw [hL]; exact H.ql)
  rcases (show n = 0 ∨ n = 1 ∨ n = 2 ∨ n = 3 by omega) with rfl | rfl | rfl | rfl
  · refine ⟨?_, rfl⟩
    show swpC _ = _
    unfold swpC
    refine (if_pos (show erV W.length (swP u) = 0 from er_in H.hp H.pl)).trans ?_
    have hq : swQ (({ u with ws := W, ta := u.ta, d := { u.d with ph := 19, who := u.d.who } } : Tn) : Tn) = (q : Int) + 1 := ld_in H.hp H.zp
    have q0 : (0 : Int) ≤ (q : Int) := Int.natCast_nonneg _
    have hm : metB (({ u with ws := W, ta := u.ta, d := { u.d with ph := 19, who := u.d.who } } : Tn) : Tn) ((q : Int) + 1) = true := by
      show (decide (1 ≤ (q : Int) + 1) && decide ((q : Int) + 1 ≤ u.c.x0) && !((q : Int) + 1 == u.tt + 1)) = true
      rw [decide_eq_true (show 1 ≤ (q : Int) + 1 by omega), decide_eq_true (show (q : Int) + 1 ≤ u.c.x0 by have := H.q1; omega), beq_eq_false_iff_ne.2 (show (q : Int) + 1 ≠ u.tt + 1 by have := H.ne; omega)]
      rfl
    refine (if_pos (show metB (({ u with ws := W, ta := u.ta, d := { u.d with ph := 19, who := u.d.who } } : Tn) : Tn) (swQ (({ u with ws := W, ta := u.ta, d := { u.d with ph := 19, who := u.d.who } } : Tn) : Tn)) = true by rw [hq]; exact hm)).trans ?_
    show aprV (swW (({ u with ws := W, ta := u.ta, d := { u.d with ph := 19, who := u.d.who } } : Tn) : Tn)) (swQ (({ u with ws := W, ta := u.ta, d := { u.d with ph := 19, who := u.d.who } } : Tn) : Tn)) = meT u W k kq p q op 1
    rw [hq]
    have hw : wrap64 ((q : Int) + 1 - 1) = (q : Int) := by rw [wrap64_id (by have := H.q16; unfold I64; omega)]; omega
    show ({ u with ws := (stV W (swP u) (u.tt + 1)), ta := (blA u.tl u.ta u.d.wd), d := { u.d with ph := 20, who := (wrap64 ((q : Int) + 1 - 1)) } } : Tn) = _
    rw [hw, H.hp, stV_at _ H.pl]
    rfl
  · refine ⟨?_, rfl⟩
    show cmpC _ _ 21 13 = _
    unfold cmpC
    refine (if_pos (show erV ((W.set p (u.tt + 1))).length (lnV u.c u.tt) = 0 from hE _ l1)).trans ?_
    have hb : casB (W.set p (u.tt + 1)) (lnV u.c u.tt) (opW u) = true := by rw [H.hk, casB_at _ h1k]; simp
    refine (if_pos (show casB (W.set p (u.tt + 1)) (lnV u.c u.tt) (opW u) = true from hb)).trans ?_
    show ({ u with ws := (casV (W.set p (u.tt + 1)) (lnV u.c u.tt) (opW u) 0), ta := (blA u.tl u.ta u.d.wd), d := { u.d with ph := 21, who := (q : Int) } } : Tn) = meT u W k kq p q op 2
    rw [H.hk, casV_at _ _ h1k, if_pos rfl]
    rfl
  · refine ⟨?_, rfl⟩
    show cmpC _ _ 22 24 = _
    unfold cmpC
    refine (if_pos (show erV (((W.set p (u.tt + 1)).set k 0)).length (lnV u.c (q : Int)) = 0 from hEq _ l2)).trans ?_
    cases op with
    | true =>
      have e := H.o1 rfl
      have hb : casB ((W.set p (u.tt + 1)).set k 0) (lnV u.c (q : Int)) (opW u) = true := by rw [H.hq, casB_at _ h2q, e]; simp
      refine (if_pos (show casB ((W.set p (u.tt + 1)).set k 0) (lnV u.c (q : Int)) (opW u) = true from hb)).trans ?_
      show ({ u with ws := (casV ((W.set p (u.tt + 1)).set k 0) (lnV u.c (q : Int)) (opW u) 0), ta := (blA u.tl u.ta u.d.wd), d := { u.d with ph := 22, who := (q : Int) } } : Tn) = meT u W k kq p q true 3
      rw [H.hq, casV_at _ _ h2q, if_pos e]
      rfl
    | false =>
      have e := H.o2 rfl
      have hb : casB ((W.set p (u.tt + 1)).set k 0) (lnV u.c (q : Int)) (opW u) = false := by rw [H.hq, casB_at _ h2q]; exact beq_eq_false_iff_ne.2 e
      refine (if_neg (show ¬ casB ((W.set p (u.tt + 1)).set k 0) (lnV u.c (q : Int)) (opW u) = true by rw [hb]; decide)).trans ?_
      show ({ u with ws := (casV ((W.set p (u.tt + 1)).set k 0) (lnV u.c (q : Int)) (opW u) 0), ta := (blA u.tl u.ta u.d.wd), d := { u.d with ph := 24, who := (q : Int) } } : Tn) = meT u W k kq p q false 3
      rw [H.hq, casV_at _ _ h2q, if_neg e, set_same h2q]
      rfl
  · cases op with
    | true =>
      refine ⟨?_, rfl⟩
      show absC _ = _
      unfold absC
      refine (if_pos (show erV u.bx.length (q : Int) = 0 from erV_at H.qb)).trans ?_
      rfl
    | false =>
      refine ⟨?_, rfl⟩
      show reoC _ = _
      unfold reoC
      refine (if_pos (show erV (((W.set p (u.tt + 1)).set k 0)).length (lnV u.c u.tt) = 0 from hE _ l2)).trans ?_
      show spnV ({ u with ws := (stV ((W.set p (u.tt + 1)).set k 0) (lnV u.c u.tt) (opW u)), ta := (blA u.tl u.ta u.d.wd), d := { u.d with ph := 24, who := (q : Int) } } : Tn) = meT u W k kq p q false 4
      rw [H.hk, stV_at _ (show k < (((W.set p (u.tt + 1)).set k 0)).length by rw [l2]; exact H.kl)]
      rfl
theorem meT_ok {u : Tn} (o : TnOk u) {W : List Int} (hw : ∀ x ∈ W, I64 x) {k kq p q : Nat} {op : Bool} (t0 : 0 ≤ u.tt ∧ u.tt ≤ 15) (hq : q ≤ 15) (n : Nat) (hn : n < 4) : TnOk (meT u W k kq p q op n) := by
  have key : ∀ (L : List Int) (ta a b : Int), (∀ x ∈ L, I64 x) → I64 a → I64 b → TnOk ({ u with ws := L, ta := ta, d := { u.d with ph := a, who := b } } : Tn) := fun L ta a b hL ha hb => by
    refine ⟨o.b, o.k, o.h, o.l, o.t, ⟨fun e he => ?_, o.f.t, o.f.v, o.f.b, o.f.h, o.f.k⟩, o.lo, o.hi, o.tt, hL, o.c⟩
    simp only [Dt.nums, List.mem_cons, List.not_mem_nil, or_false] at he
    rcases he with rfl | rfl | rfl | rfl | rfl | rfl | rfl | rfl | rfl | rfl | rfl | rfl <;> first | assumption | exact o.f.n _ (by simp [Dt.nums])
  have iwho : I64 u.d.who := o.f.n _ (by simp [Dt.nums])
  have iq : I64 (q : Int) := by unfold I64; omega
  have i0 : I64 0 := i64_k 0 (by decide)
  have w1 := set_i64 hw p (v := u.tt + 1) (by unfold I64; omega)
  have w2 := set_i64 w1 k i0
  have w3 := set_i64 w2 kq i0
  unfold meT
  split
  · exact key _ _ _ _ hw (i64_k 19 (by decide)) iwho
  · split
    · exact key _ _ _ _ w1 (i64_k 20 (by decide)) iq
    · split
      · exact key _ _ _ _ w2 (i64_k 21 (by decide)) iq
      · rw [if_pos (by omega)]
        split
        · exact key _ _ _ _ w3 (i64_k 22 (by decide)) iq
        · exact key _ _ _ _ w2 (i64_k 24 (by decide)) iq
theorem meT_same (u : Tn) (W : List Int) (k kq p q : Nat) (op : Bool) (n : Nat) : (meT u W k kq p q op n).tt = u.tt ∧ (meT u W k kq p q op n).d.it = u.d.it ∧ (meT u W k kq p q op n).d.ly = u.d.ly ∧ (meT u W k kq p q op n).ws.length = W.length := by
  unfold meT
  repeat' split
  all_goals refine ⟨rfl, rfl, rfl, ?_⟩
  all_goals first | rfl | (show (List.set _ _ _).length = _; simp)
theorem meT_ta (u : Tn) (W : List Int) (k kq p q : Nat) (op : Bool) (n : Nat) : (meT u W k kq p q op n).ta = u.ta ∨ (meT u W k kq p q op n).ta = blA u.tl u.ta u.d.wd := by
  unfold meT
  repeat' split
  all_goals first | exact .inl rfl | exact .inr rfl
theorem meT_i64 (u : Tn) (W : List Int) (k kq p q : Nat) (op : Bool) (n : Nat) (hl : u.tl.length ≤ 10000) (ha : I64 u.ta) : I64 (meT u W k kq p q op n).ta := by
  rcases meT_ta u W k kq p q op n with e | e
  · rw [e]; exact ha
  · rw [e]; exact bl_i64 hl ha _
/-- What it comes to. -/
theorem me_open {u : Tn} {W : List Int} {k kq p q : Nat} {op : Bool} {ov : Int} (H : MeH u W k kq p q op ov) (ho : op = true) : (meT u W k kq p q op 4).d.ph = 25 ∧ (meT u W k kq p q op 4).ws[k]? = some 0 ∧ (meT u W k kq p q op 4).ws[kq]? = some 0 ∧ (meT u W k kq p q op 4).d.bl = u.d.bl ++ bxV u.bx (q : Int) ∧ (meT u W k kq p q op 4).d.kl = u.d.kl ++ [((q : Int), (u.d.bl.length : Int))] := by
  subst ho
  refine ⟨rfl, ?_, ?_, rfl, rfl⟩
  · show ((((W.set p (u.tt + 1)).set k 0).set kq 0))[k]? = some 0
    rw [List.getElem?_set_ne (Ne.symm H.kk)]
    exact List.getElem?_set_self (by rw [List.length_set]; exact H.kl)
  · show ((((W.set p (u.tt + 1)).set k 0).set kq 0))[kq]? = some 0
    exact List.getElem?_set_self (by simpa using H.ql)
theorem me_shut {u : Tn} {W : List Int} {k kq p q : Nat} {op : Bool} {ov : Int} (H : MeH u W k kq p q op ov) (ho : op = false) : (meT u W k kq p q op 4).d.ph = 23 ∧ (meT u W k kq p q op 4).ws[k]? = some (opW u) ∧ (meT u W k kq p q op 4).ws[kq]? = some ov ∧ (meT u W k kq p q op 4).d.bl = u.d.bl ∧ (meT u W k kq p q op 4).d.kl = u.d.kl := by
  subst ho
  refine ⟨rfl, ?_, ?_, rfl, rfl⟩
  · show ((((W.set p (u.tt + 1)).set k 0).set k (opW u)))[k]? = some (opW u)
    exact List.getElem?_set_self (by simpa using H.kl)
  · show ((((W.set p (u.tt + 1)).set k 0).set k (opW u)))[kq]? = some ov
    rw [List.getElem?_set_ne H.kk, List.getElem?_set_ne H.kk, List.getElem?_set_ne (Ne.symm H.qp)]
    exact H.zq
end Go.Proofs.Ytjghdbkkjhnpfaa
