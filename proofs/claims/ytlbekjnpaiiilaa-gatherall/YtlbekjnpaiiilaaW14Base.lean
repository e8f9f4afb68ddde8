/- What the laws of layer 14 begin with. -/
import Derived.Test.YtlbekjnpaiiilaaGaF
import Derived.Test.YtlbekjnpaiiilaaSh14
import Derived.Test.YtlbekjnpaiiilaaMayT
import Derived.Test.YtlbekjnpaiiilaaTnI
namespace Go.Proofs.Ytlbekjnpaiiilaa
open Go.RowKit Go.Sort
set_option linter.unusedVariables false
set_option linter.unusedSimpArgs false

theorem tt_my {u : Tn} {n : Nat} (my : MayOk u n) (o : CfK u.c) : 0 ≤ u.tt ∧ u.tt ≤ 15 := by
  have h0 := my.t0
  have h1 := my.t1
  have h2 := o.h0
  omega
theorem ok_my {u : Tn} {n : Nat} (my : MayOk u n) : CfK u.c := (ck_ok _ _ _ _ _ _ _ _ _ _ _ _).1 my.c
theorem np_cases (c : Cf) (i n : Int) : npV c i n = -1 ∨ (((0 ≤ i ∧ i < c.x1) ∧ 1 ≤ n ∧ n ≤ ndV c.x3) ∧ npV c i n = i * bkV c.x3 c.x4 c.x5 + n) := by
  unfold npV nodeV
  split
  · rename_i h; exact .inr ⟨h, rfl⟩
  · exact .inl rfl
theorem np_sign (c : Cf) (o : CfK c) (i n : Int) : npV c i n = -1 ∨ 0 ≤ npV c i n := by
  rcases np_cases c i n with e | ⟨⟨⟨h0, h1⟩, h2, h3⟩, e⟩
  · exact .inl e
  · right
    have hb := bk_le o.h3 o.h4 o.h5
    have := Int.mul_nonneg h0 (show 0 ≤ bkV c.x3 c.x4 c.x5 by omega)
    omega
theorem node_inG {u : Tn} {m : Nat} (my : MayOk u m) (n : Int) (h : 0 ≤ npV u.c u.d.it n) : ∃ k : Nat, npV u.c u.d.it n = (k : Int) ∧ k < u.ws.length := by
  have o := ok_my my
  rcases np_cases u.c u.d.it n with e | ⟨⟨⟨h0, h1⟩, h2, h3⟩, e⟩
  · omega
  have hb := bk_le o.h3 o.h4 o.h5
  have hn := nd_le o.h3
  have ht := o.h0
  have hl4 := o.h4
  have hl5 := o.h5
  have hm := mul_le (a := u.c.x4) (b := u.c.x5) (p := 3) (q := 8) ⟨hl4.1, hl4.2⟩ ⟨by omega, hl5.2⟩
  have eb : bkV u.c.x3 u.c.x4 u.c.x5 = 1 + ndV u.c.x3 + u.c.x4 * u.c.x5 := rfl
  have hw := my.w
  unfold szV sizeV at hw
  generalize bkV u.c.x3 u.c.x4 u.c.x5 = bk at *
  have a1 : 0 ≤ u.d.it * bk := Int.mul_nonneg h0 (by omega)
  have a2 : (u.d.it + 1) * bk ≤ u.c.x1 * bk := Int.mul_le_mul_of_nonneg_right (by omega) (by omega)
  have a3 : (u.d.it + 1) * bk = u.d.it * bk + bk := by rw [Int.add_mul, Int.one_mul]
  exact ⟨(npV u.c u.d.it n).toNat, by omega, by omega⟩
theorem er_in {ws : List Int} {i : Int} {k : Nat} (hk : i = (k : Int)) (hl : k < ws.length) : erV ws.length i = 0 := by rw [hk, erV_at hl]
theorem ld_in {ws : List Int} {i : Int} {k : Nat} {x : Int} (hk : i = (k : Int)) (hx : ws[k]? = some x) : ldV ws i = x := by rw [hk, ldV_at hx]
theorem word_cell {w : World} {B b off n k : Nat} {l : List Int} {x : Int} (h : Sees w B 1 (some ⟨b, off, none⟩) n (l.map (Value.int .i64))) (he : l[k]? = some x) : w.cell? ⟨b, off + k, none⟩ = some (.int .i64 x) := by
  have hk := (List.getElem?_eq_some_iff.1 he).1
  have hn : 0 < n := by have := h.1; simp at this; omega
  obtain ⟨b', off', e', hb, hc⟩ := h.2 hn
  cases e'
  exact hc k _ (by simp [he])
theorem Sees.some_of {w : World} {B sz n : Nat} {A : Option Addr} {xs : List Value} (h : Sees w B sz A n xs) (hn : 0 < n) : ∃ b off, A = some ⟨b, off, none⟩ ∧ b < B := by
  obtain ⟨b, off, e, hb, _⟩ := h.2 hn; exact ⟨b, off, e, hb⟩
theorem keepR {w W W' : World} {g gk gz : Nat} {cs ds es : List Value} (h : boxOf W g = some cs ∧ boxOf W gk = some ds ∧ boxOf W gz = some es ∧ Below w.heap.size w W) (hb : Below W.heap.size W W') : boxOf W' g = some cs ∧ boxOf W' gk = some ds ∧ boxOf W' gz = some es ∧ Below w.heap.size w W' := ⟨boxOf_keep h.1 hb, boxOf_keep h.2.1 hb, boxOf_keep h.2.2.1 hb, below_next h.2.2.2 h.2.2.2.size hb⟩
theorem boxOf_grown {w w' : World} {row : Option Nat} {g : Nat} {cs : List Value} (hg : w.grownBy w' row) (h : boxOf w g = some cs) (hr : some g ≠ row) : boxOf w' g = some cs := by
  have hl := boxOf_lt h
  obtain ⟨t, h⟩ := boxOf_iff.1 h
  exact boxOf_iff.2 ⟨t, (hg.block g hl hr).trans h⟩
theorem rem_15 (z m : Int) (z0 : 0 ≤ z) (h : 1 ≤ m ∧ m ≤ 16) : 0 ≤ z % m ∧ z % m ≤ 15 := by
  have := Int.emod_nonneg z (show m ≠ 0 by omega); have := Int.emod_lt_of_pos z (show 0 < m by omega); omega
theorem trem_15 (z m : Int) (z0 : 0 ≤ z) (h : 1 ≤ m ∧ m ≤ 16) : 0 ≤ z.tmod m ∧ z.tmod m ≤ 15 := by
  have := Int.tmod_nonneg m z0; have := Int.tmod_lt_of_pos z (show 0 < m by omega); omega
theorem own_box {w : World} {base n : Nat} {v : Value} {l : List Int} (hn : 0 < n) (h : w.ownsRow base 3 1 v n ([] ++ l.map (Value.int .i64))) : ∃ g cap cur, v = .slice (some ⟨g, 0, none⟩) n cap ∧ base ≤ g ∧ boxOf w g = some cur ∧ n ≤ cur.length ∧ cur.take n = l.map (Value.int .i64) := by
  rw [List.nil_append] at h
  rcases h.2 with ⟨_, h0⟩ | ⟨g, cap, cur, hv, hb, hh, hc, _, hz, ht⟩
  · omega
  · exact ⟨g, cap, cur.toList, hv, hb, boxOf_iff.2 ⟨3, by simpa using hh⟩, by simp; omega, by simpa using ht⟩
theorem sees_take {w : World} {g n : Nat} {cur : List Value} {l : List Int} (hb : boxOf w g = some cur) (ht : cur.take n = l.map (Value.int .i64)) (hn : n = l.length) : Sees w w.heap.size 1 (some ⟨g, 0, none⟩) l.length (l.map (Value.int .i64)) := by
  refine ⟨by simp, fun _ => ⟨g, 0, rfl, boxOf_lt hb, fun j v hv => ?_⟩⟩
  rw [Nat.zero_add, boxOf_at w g j hb]
  rw [← ht, List.getElem?_take] at hv
  split at hv
  · exact hv
  · cases hv
theorem take_set {cur : List Value} {n k : Nat} {l : List Int} (ht : cur.take n = l.map (Value.int .i64)) (x : Int) : (cur.set k (.int .i64 x)).take n = (l.set k x).map (Value.int .i64) := by
  rw [List.take_set, ht, List.map_set]
theorem DtWf.allG {d : Dt} (f : DtWf d) {ph pl who : Int} {bl : List E3} {kl : List (Int × Int)} (h1 : I64 ph) (h2 : I64 pl) (h3 : I64 who) (h4 : Good bl) (h5 : ∀ e ∈ kl, I64 e.1 ∧ I64 e.2) : DtWf { d with ph := ph, pl := pl, who := who, bl := bl, kl := kl } := by
  refine ⟨fun e he => ?_, f.t, f.v, h4, f.h, h5⟩
  simp only [Dt.nums, List.mem_cons, List.not_mem_nil, or_false] at he
  rcases he with rfl | rfl | rfl | rfl | rfl | rfl | rfl | rfl | rfl | rfl | rfl | rfl <;> first | assumption | exact f.n _ (by simp [Dt.nums])
theorem TnOk.allG {u : Tn} (o : TnOk u) {ph pl who : Int} {bl : List E3} {kl : List (Int × Int)} {ws : List Int} {bx : List (List E3)} (h1 : I64 ph) (h2 : I64 pl) (h3 : I64 who) (h4 : Good bl) (h5 : ∀ e ∈ kl, I64 e.1 ∧ I64 e.2) (h6 : bl.length ≤ 200) (h7 : kl.length ≤ 200) (h8 : ∀ x ∈ ws, I64 x) : TnOk ({ u with ws := ws, bx := bx, d := { u.d with ph := ph, pl := pl, who := who, bl := bl, kl := kl } } : Tn) := ⟨h6, h7, o.h, o.l, o.t, o.f.allG h1 h2 h3 h4 h5, o.lo, o.hi, o.tt, h8, o.c⟩
theorem TnOk.ph {u : Tn} (o : TnOk u) {ph : Int} {ws : List Int} {bx : List (List E3)} (h1 : I64 ph) (h8 : ∀ x ∈ ws, I64 x) : TnOk ({ u with ws := ws, bx := bx, d := { u.d with ph := ph } } : Tn) := o.allG h1 o.ipl o.iwho o.f.b o.f.k o.b o.k h8
theorem set_i64 {ws : List Int} (h : ∀ x ∈ ws, I64 x) (k : Nat) {v : Int} (hv : I64 v) : ∀ x ∈ ws.set k v, I64 x := fun x hx => by
  rcases List.mem_or_eq_of_mem_set hx with h' | rfl
  · exact h x h'
  · exact hv
theorem hdP_at {u : Tn} {j : Nat} {n : Int} (hp : u.d.pl = (j : Int)) (hn : u.d.hl[j]? = some n) : hdP u = npV u.c u.d.it n := by
  have hl := (List.getElem?_eq_some_iff.1 hn).1
  unfold hdP hdN; rw [hp, inR_at hl, if_pos rfl]; simp [hn]
theorem lok_first {u : Tn} {k : Nat} (hk : hdP u = (k : Int)) (hx : u.ws[k]? = some (frV 1 u.tt)) : lokG u = { u with d := { u.d with ph := 8 } } := by
  rw [lokG, if_pos (er_in hk (List.getElem?_eq_some_iff.1 hx).1), ld_in hk hx, if_pos rfl]
theorem fr_ne {a b s t : Int} (ha : 1 ≤ a ∧ a ≤ 3) (hb : 1 ≤ b ∧ b ≤ 3) (h : a ≠ b) : frV a s ≠ frV b t := by unfold frV; omega
theorem lok_join {u : Tn} {k : Nat} {q : Int} (hq : 0 ≤ q ∧ q ≤ 15) (hk : hdP u = (k : Int)) (hx : u.ws[k]? = some (frV 2 q)) : lokG u = u := by
  rw [lokG, if_pos (er_in hk (List.getElem?_eq_some_iff.1 hx).1), ld_in hk hx, if_neg (fr_ne (by decide) (by decide) (by decide)), if_neg (by rw [(kd_fr (k := 2) (by decide) hq).1]; decide)]
theorem lok_dep {u : Tn} {k : Nat} {q : Int} (hq : 0 ≤ q ∧ q ≤ 15) (hk : hdP u = (k : Int)) (hx : u.ws[k]? = some (frV 3 q)) : lokG u = { u with d := { u.d with who := q, ph := 9 } } := by
  rw [lokG, if_pos (er_in hk (List.getElem?_eq_some_iff.1 hx).1), ld_in hk hx, if_neg (fr_ne (by decide) (by decide) (by decide)), if_pos (kd_fr (k := 3) (by decide) hq).1, (kd_fr (k := 3) (by decide) hq).2]
theorem rel_yes {u : Tn} {k : Nat} (hk : hdP u = (k : Int)) (hx : u.ws[k]? = some (frV 1 u.tt)) : relG u = nxG { u with ws := u.ws.set k 0 } := by
  rw [relG, if_pos (er_in hk (List.getElem?_eq_some_iff.1 hx).1), hk, casB_at _ hx, if_pos (by simp), casV_at _ _ hx, if_pos rfl]
theorem rel_no {u : Tn} {k : Nat} {x : Int} (hk : hdP u = (k : Int)) (hx : u.ws[k]? = some x) (hne : x ≠ frV 1 u.tt) : relG u = { u with d := { u.d with ph := 7 } } := by
  rw [relG, if_pos (er_in hk (List.getElem?_eq_some_iff.1 hx).1), hk, casB_at _ hx, if_neg (by simpa using hne)]
theorem fre_at {u : Tn} {k : Nat} (hk : hdP u = (k : Int)) (hl : k < u.ws.length) : freG u = nxG { u with ws := u.ws.set k 0 } := by
  rw [freG, if_pos (er_in hk hl), hk, stV_at _ hl]
theorem col_at {u : Tn} {q : Nat} {l : List E3} (hq : u.d.who = (q : Int)) (hl : u.bx[q]? = some l) : colG u = { (tkG u u.d.who l) with d := { (tkG u u.d.who l).d with ph := 10 } } := by
  have hl' := (List.getElem?_eq_some_iff.1 hl).1
  rw [colG, hq, erV_at hl', if_pos rfl, bxV_at hl]
theorem stepG7 {u : Tn} (h : u.d.ph = 7) : stepG u = lokG u := by rw [stepG, if_pos h]
theorem stepG8 {u : Tn} (h : u.d.ph = 8) : stepG u = relG u := by rw [stepG, if_neg (by rw [h]; decide), if_pos h]
theorem stepG9 {u : Tn} (h : u.d.ph = 9) : stepG u = colG u := by rw [stepG, if_neg (by rw [h]; decide), if_neg (by rw [h]; decide), if_pos h]
theorem stepG10 {u : Tn} (h : u.d.ph = 10) : stepG u = freG u := by rw [stepG, if_neg (by rw [h]; decide), if_neg (by rw [h]; decide), if_neg (by rw [h]; decide), if_pos h]
theorem stepG11 {u : Tn} (h : u.d.ph = 11) : stepG u = pubG u := by rw [stepG, if_neg (by rw [h]; decide), if_neg (by rw [h]; decide), if_neg (by rw [h]; decide), if_neg (by rw [h]; decide), if_pos h]
theorem stepG12 {u : Tn} (h : u.d.ph = 12) : stepG u = depG u := by rw [stepG, if_neg (by rw [h]; decide), if_neg (by rw [h]; decide), if_neg (by rw [h]; decide), if_neg (by rw [h]; decide), if_neg (by rw [h]; decide), if_pos h]
theorem isG_of {u : Tn} (h : 7 ≤ u.d.ph ∧ u.d.ph ≤ 12) : isG u = true := by
  have : u.d.ph = 7 ∨ u.d.ph = 8 ∨ u.d.ph = 9 ∨ u.d.ph = 10 ∨ u.d.ph = 11 ∨ u.d.ph = 12 := by omega
  rcases this with e | e | e | e | e | e <;> simp [isG, e]
end Go.Proofs.Ytlbekjnpaiiilaa
