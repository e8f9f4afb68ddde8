/- A thread that finds another one: what the walk wants. -/
import Derived.Test.YtjghdbkkjhnpfaaW15MeetsM
import Derived.Test.YtjghdbkkjhnpfaaW15Base
import Derived.Test.YtjghdbkkjhnpfaaW15Slots
import Derived.Test.YtjghdbkkjhnpfaaEnO
import Derived.Test.YtjghdbkkjhnpfaaM4
import Derived.Test.YtjghdbkkjhnpfaaM1
import Derived.Lib.QuietBelow
import Derived.Deep.QuietTactic
import Derived.BigQuiet
import Derived.Deep.RegionHeld3
import Derived.Deep.RegionLaw
namespace Go.Proofs.Ytjghdbkkjhnpfaa
open Go.RowKit Go.Sort
set_option linter.unusedVariables false
set_option linter.unusedSimpArgs false

section
open Go
theorem step_app {P : Program} {w : World} {ops : Array Oper} {o : Oper} {a : Act} {K : Act → World → Prop} {Q : Exit → Act → World → Prop} {E : Prop} (hgd : o.guard = none) (s x : Operand) (t : TypeId)
    (ho : o.op = .call { callee := .builtin .append, args := #[s, x], argTypes := #[t, t] })
    (base : Nat) (e : TypeId) (i : TypeInfo) (z : Value) (sz bytes : Nat) (ht : P.underlying t = some (.slice e)) (hi : P.info? e = some i) (hz : i.zero = some z)
    (hsize : i.size = sz) (hby : i.bytes = bytes) (hzs : z.cells.size = sz) (hsz : 0 < sz) (v : Value) (n : Nat) (xs : List Value) (hs : a.eval s = v) (hown : w.ownsRow base e sz v n xs)
    (B : Nat) (A : Option Addr) (m c : Nat) (news : List Value) (hx : a.eval x = .slice A m c) (hr : Sees w B sz A m news) (h1 : ∀ u ∈ news, u.oneCell' = true)
    (h63 : n + m ≤ maxLen) (hbytes : (n + m) * bytes ≤ 140737488355328) (hbase : base ≤ w.heap.size)
    (h : ∀ v' w', w'.ownsRow base e sz v' (n + m) (xs ++ news) → w.grownBy w' v.ownBlock → K (a.put o.dst v') w') :
    if Region.wanted o (yielded ops a.tmps) = true then Oper.wp P o a w K Q else E := by
  have hw : Region.wanted o (yielded ops a.tmps) = true := by simp [Region.wanted, hgd]
  rw [if_pos hw]
  obtain ⟨v', w', hrun, h2, h3⟩ := run_app (P := P) w base t o.type e i z sz bytes ht hi hz hsize hby hzs hsz v n xs hown B A m c news hr h1 h63 hbytes hbase
  unfold Oper.wp execOp
  simp only [ho, resolve, invoke, builtin, Sem.run_bind, Sem.run_pure, Result.andThen_ok, List.map_toArray, List.map_cons, List.map_nil, hs, hx, hrun]
  exact h v' w' h2 h3
end
section
open Go
theorem at_w {P : Program} {ops : Array Oper} {o : Oper} {a : Act} {K : Act → World → Prop} {Q : Exit → Act → World → Prop} {E : Prop} (w : World) (h : if Region.wanted o (yielded ops a.tmps) = true then Oper.wp P o a w K Q else E) : if Region.wanted o (yielded ops a.tmps) = true then Oper.wp P o a w K Q else E := h
end
/-- The law's own words: a row of the call's own, in block g. -/
structure RowW (u : Tn) (a : TA) (g : Nat) (nw : List Int) (w W : World) : Prop where
  row : ∃ cur, boxOf W g = some cur ∧ u.ws.length ≤ cur.length ∧ cur.take u.ws.length = nw.map (Value.int .i64)
  b : boxOf W w.heap.size = some (tcs u a)
  c : boxOf W (w.heap.size + 1) = some (ccs u.c)
  lo : Below w.heap.size w W
  g : w.heap.size + 1 < g
theorem SlAt.rowW {u : Tn} {a : TA} {X : Int} {g n : Nat} {w W : World} (h : SlAt u a X g n w W) : RowW u a g (slN u X n) w W := ⟨h.row, h.b, h.c, h.lo, h.g⟩
theorem RowW.keep {u : Tn} {a : TA} {nw : List Int} {g : Nat} {w W W' : World} (h : RowW u a g nw w W) (hb : Below W.heap.size W W') : RowW u a g nw w W' :=
  ⟨by obtain ⟨cur, h1, h2, h3⟩ := h.row; exact ⟨cur, boxOf_keep h1 hb, h2, h3⟩, boxOf_keep h.b hb, boxOf_keep h.c hb, below_next h.lo h.lo.size hb, h.g⟩
theorem RowW.set {u : Tn} {a : TA} {nw : List Int} {g : Nat} {w W : World} (h : RowW u a g nw w W) (k : Nat) (v : Int) : RowW u a g (nw.set k v) w (W.setCell ⟨g, k, none⟩ (.int .i64 v)) := by
  have hg := h.g
  refine ⟨?_, ?_, ?_, h.lo.setCell (by show _ ≤ g; omega) _, h.g⟩
  · obtain ⟨cur, h1, h2, h3⟩ := h.row
    exact ⟨cur.set k (.int .i64 v), boxOf_set _ _ _ _ h1, by rw [List.length_set]; exact h2, take_set h3 v⟩
  · rw [boxOf_far _ _ _ _ (show ¬ g = w.heap.size by omega)]; exact h.b
  · rw [boxOf_far _ _ _ _ (show ¬ g = w.heap.size + 1 by omega)]; exact h.c
theorem RowW.cell {u : Tn} {a : TA} {nw : List Int} {g : Nat} {w W : World} (h : RowW u a g nw w W) {k : Nat} (hk : k < u.ws.length) : ∃ cur x, boxOf W g = some cur ∧ cur[k]? = some x := by
  obtain ⟨cur, h1, h2, _⟩ := h.row
  exact ⟨cur, cur[k]'(by omega), h1, List.getElem?_eq_getElem _⟩
theorem meet_q {tt z m : Int} (h0 : 0 ≤ tt) (h1 : tt < m) (h2 : 2 ≤ m) (h3 : m ≤ 16) (z0 : 0 ≤ z) (z1 : z ≤ 255) : ∃ q : Nat, (wrap64 (tt + 1 + z % (m - 1))).tmod m = (q : Int) ∧ (wrap64 (wrap64 (tt + 1) + z % (m - 1))).tmod m = (q : Int) ∧ (q : Int) < m ∧ (q : Int) ≠ tt := by
  have a1 := Int.emod_nonneg z (show m - 1 ≠ 0 by omega)
  have a2 := Int.emod_lt_of_pos z (show 0 < m - 1 by omega)
  generalize z % (m - 1) = r at *
  have e1 : wrap64 (tt + 1) = tt + 1 := wrap64_id (by unfold I64; omega)
  have e2 : wrap64 (tt + 1 + r) = tt + 1 + r := wrap64_id (by unfold I64; omega)
  rw [e1, e2, Int.tmod_eq_emod_of_nonneg (by omega)]
  by_cases hl : tt + 1 + r < m
  · rw [Int.emod_eq_of_lt (by omega) hl]
    exact ⟨(tt + 1 + r).toNat, by omega, by omega, by omega, by omega⟩
  · have e : (tt + 1 + r) % m = tt + 1 + r - m := by
      have := Int.sub_emod_right (tt + 1 + r) m
      rw [← this]
      exact Int.emod_eq_of_lt (by omega) (by omega)
    rw [e]
    exact ⟨(tt + 1 + r - m).toNat, by omega, by omega, by omega, by omega⟩
/-- How all lies. -/
theorem me_h {u : Tn} {m : Nat} {q : Nat} {op : Bool} {ov : Int} (my : MayOk u m) (hm : u.bx.length = m) (hly : 1 ≤ u.d.ly) (hlx : u.d.ly ≤ u.c.x4) (w1 : 1 ≤ u.d.wd) (w2 : u.d.wd ≤ u.c.x5) (hq : (q : Int) < u.c.x0) (hqt : (q : Int) ≠ u.tt) (o1 : op = true → ov = opW u) (o2 : op = false → ov ≠ opW u) :
    ∃ k kq p : Nat, lnV u.c u.tt = (k : Int) ∧ k < u.ws.length ∧ lnV u.c (q : Int) = (kq : Int) ∧ kq < u.ws.length ∧ MeH u (((slN u ((q : Int) + 1) u.c.x5.toNat).set k (opW u)).set kq ov) k kq p q op ov := by
  obtain ⟨k, hk, hkl, hke⟩ := ln_in my my.t0 my.t1
  obtain ⟨kq, hkq, hkql, hkqe⟩ := ln_in my (Int.natCast_nonneg q) hq
  have hd := dr_in w1 w2
  obtain ⟨p, hp, hpl, hp1, _⟩ := sl_in my hly hlx hd.1 hd.2
  have z := slN_at my ((q : Int) + 1) hly hlx u.c.x5.toNat (by omega) (s := (drV u).toNat) (by omega)
  rw [Int.toNat_of_nonneg hd.1, hp] at z
  have hb := my.b
  have hx0 := (ok_my my).h0
  have t0 := my.t0
  have kp : k ≠ p := by omega
  have qp : kq ≠ p := by omega
  have kk : k ≠ kq := by omega
  refine ⟨k, kq, p, hk, hkl, hkq, hkql, hk, ?_, hkq, ?_, hp, ?_, kp, qp, kk, ?_, ?_, ?_, o1, o2, hqt, hq, ?_, ?_⟩
  · simp [slN_length]; exact hkl
  · simp [slN_length]; exact hkql
  · simp [slN_length]; exact hpl
  · rw [List.getElem?_set_ne qp, List.getElem?_set_ne kp]
    simpa using z
  · rw [List.getElem?_set_ne (Ne.symm kk)]
    exact List.getElem?_set_self (by rw [slN_length]; exact hkl)
  · exact List.getElem?_set_self (by simp [slN_length]; exact hkql)
  · omega
  · omega
theorem trm_q (z : Int) (z0 : 0 ≤ z) (m : Int) : z.tmod m = z % m := Int.tmod_eq_emod_of_nonneg z0
end Go.Proofs.Ytjghdbkkjhnpfaa
