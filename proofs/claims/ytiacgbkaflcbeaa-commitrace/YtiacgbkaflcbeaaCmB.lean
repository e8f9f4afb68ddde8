/- The contract of marks. -/
import Derived.Test.YtiacgbkaflcbeaaShK
import Derived.Test.YtiacgbkaflcbeaaCmG
import Derived.Test.YtiacgbkaflcbeaaM4
import Derived.Lib.QuietBelow
import Derived.Deep.QuietTactic
import Derived.BigQuiet
import Derived.Deep.RegionHeld3
import Derived.Deep.AppendLies
namespace Go.Proofs.Ytiacgbkaflcbeaa
open Go.RowKit Go.Sort
set_option linter.unusedVariables false
set_option linter.unusedSimpArgs false

attribute [local irreducible] tcs thc ccs zT
attribute [local go_sem ↓] alTn_is
attribute [local go_sem] run_alTnf run_alTnt zT_length
attribute [local go_sem ↓] lbTn_is lbTh_is lbCf_is lbRc_is sbTn_is sbTh_is sbCf_is sbRc_is
attribute [local go_sem] run_lbTn run_lbTh run_lbCf run_lbRc run_sbTn run_sbTh run_sbCf run_sbRc
attribute [local go_sem 2000] boxOf_old'
attribute [local go_sem] boxOf_at' boxOf_free' boxOf_alloc objBox_cells objBox_cellsA boxOf_drew boxOf_setI boxOf_setsI size_sets tcs_length thc_length ccs_length tcs_one thc_one ccs_one sub_tn sub_th sub_cf sub_thAll sub_cfAll put_turn put_thread
attribute [local go_sem] tc0 tc1 tc2 tc3 tc4 tc5 tc6 tc7 tc8 tc9 tc10 tc11 tc12 tc13 tc14 tc15 tc16 tc17 tc18 tc19 tc20 tc21 tc22 tc23 tc24 tc25 tc26 tc27 tc28 tc29 tc30 tc31 tc32 tc33 tc34 tc35 tc36 hc0 hc1 hc2 hc3 hc4 hc5 hc6 hc7 hc8 hc9 hc10 hc11 hc12 hc13 hc14 hc15 hc16 kc0 kc1 kc2 kc3 kc4 kc5 kc6 kc7 kc8 kc9 kc10 kc11 tg0 tg1 tg2 tg3 tg4 tg5 tg6 tg7 tg8 tg9 tg10 tg11 tg12 tg13 tg14 tg15 tg16 tg17 tg18 tg19 tg20 tg21 tg22 tg23 tg24 tg25 tg26 tg27 tg28 tg29 tg30 tg31 tg32 tg33 tg34 tg35 tg36 hg0 hg1 hg2 hg3 hg4 hg5 hg6 hg7 hg8 hg9 hg10 hg11 hg12 hg13 hg14 hg15 hg16 kg0 kg1 kg2 kg3 kg4 kg5 kg6 kg7 kg8 kg9 kg10 kg11
attribute [local go_sem] ts12 ts13 ts14 ts16 ts17 ts18 ts19 ts20 ts21 ts22 ts23 ts24 ts25 ts26 ts27 ts28 ts29 ts30 ts31 ts32 ts33 ts34 ts35 ts36 ts15 hs0 hs1 hs2 hs3 hs7 hs8 hs9 hs10 hs11 hs12 hs13 hs14 hs15 hs16

/-- What is logged of a batch. -/
def mkL : List E3 → Int → Int → Int → Int → List M6
  | [], _, _, _, _ => []
  | e :: r, it, x, lo, hi => (e.1, it, e.2.1, e.2.2, x, 0) :: mkL r it (stp lo hi x e) lo hi
theorem mkL_length (l : List E3) (it x lo hi : Int) : (mkL l it x lo hi).length = l.length := by
  induction l generalizing x with
  | nil => rfl
  | cons e r ih => simp [mkL, ih]
theorem mkL_at {l : List E3} {k : Nat} {e : E3} (h : l[k]? = some e) (it x lo hi : Int) : (mkL l it x lo hi)[k]? = some (e.1, it, e.2.1, e.2.2, allV (l.take k) x lo hi, 0) := by
  induction l generalizing x k with
  | nil => simp at h
  | cons d r ih =>
    cases k with
    | zero => simp at h; subst h; simp [mkL, allV]
    | succ k => simp only [mkL, List.getElem?_cons_succ] at h ⊢; rw [ih h]; rfl
theorem prs_at {l : List E3} {k : Nat} (h : k < l.length) (x lo hi : Int) : (prs l x lo hi)[k]? = some (allV (l.take k) x lo hi) := by
  induction l generalizing x k with
  | nil => simp at h
  | cons d r ih =>
    cases k with
    | zero => simp [prs, allV]
    | succ k => simp only [prs, List.getElem?_cons_succ]; rw [ih (by simpa using h)]; rfl
theorem boxOf_grown {w w' : World} {row : Option Nat} {g : Nat} {cs : List Value} (hg : w.grownBy w' row) (h : boxOf w g = some cs) (hr : some g ≠ row) : boxOf w' g = some cs := by
  have hl := boxOf_lt h
  obtain ⟨t, h⟩ := boxOf_iff.1 h
  exact boxOf_iff.2 ⟨t, (hg.block g hl hr).trans h⟩
theorem ms_keep {W W' : World} {g ge b o : Nat} {cs es : List Value} {v : Value} (h : boxOf W g = some cs ∧ boxOf W ge = some es ∧ W.cell? ⟨b, o, none⟩ = some v) (hb : Below W.heap.size W W') : boxOf W' g = some cs ∧ boxOf W' ge = some es ∧ W'.cell? ⟨b, o, none⟩ = some v := ⟨boxOf_keep h.1 hb, boxOf_keep h.2.1 hb, cell_keep h.2.2 hb⟩
theorem ms_drew {W : World} {g ge b o : Nat} {cs es : List Value} {v : Value} (h : boxOf W g = some cs ∧ boxOf W ge = some es ∧ W.cell? ⟨b, o, none⟩ = some v) : boxOf W.drew g = some cs ∧ boxOf W.drew ge = some es ∧ W.drew.cell? ⟨b, o, none⟩ = some v := h
theorem ms_grown {W W' : World} {row : Option Nat} {g ge b o : Nat} {cs es : List Value} {v : Value} (h : boxOf W g = some cs ∧ boxOf W ge = some es ∧ W.cell? ⟨b, o, none⟩ = some v) (hg : W.grownBy W' row) (h1 : some g ≠ row) (h2 : some ge ≠ row) (h3 : some b ≠ row) : boxOf W' g = some cs ∧ boxOf W' ge = some es ∧ W'.cell? ⟨b, o, none⟩ = some v :=
  ⟨boxOf_grown hg h.1 h1, boxOf_grown hg h.2.1 h2, hg.cell h.2.2 h3⟩
set_option maxRecDepth 100000 in
set_option maxHeartbeats 4000000 in
theorem marks_any (u : Tn) (a : TA) (o : TnOk u) (x : Int) (hx : I64 x) (w : World) (h : TnAt w u a) : Calls Try.prog 46 #[.agg (tcs u a).toArray, .int .i64 x] w (FRowPost 6 u.d.bl.length (mcells (mkL u.d.bl u.d.it x u.c.x9 u.c.x10)) w) := by
  obtain ⟨mA, mc, mB, md, bs, ⟨bA, bc, kA, kc, hA, hc⟩, tA, tc, lA, lc⟩ := a
  obtain ⟨i0, hi0, hz0, hz1, hz2⟩ := info_parts infoMark
  have B1 : boxOf (w.alloc (.cells (tcs u (⟨mA, mc, mB, md, bs, ⟨bA, bc, kA, kc, hA, hc⟩, tA, tc, lA, lc⟩ : TA)).toArray 38)) w.heap.size = some (tcs u (⟨mA, mc, mB, md, bs, ⟨bA, bc, kA, kc, hA, hc⟩, tA, tc, lA, lc⟩ : TA)) := by simp [go_sem]
  have hB : Below w.heap.size w (w.alloc (.cells (tcs u (⟨mA, mc, mB, md, bs, ⟨bA, bc, kA, kc, hA, hc⟩, tA, tc, lA, lc⟩ : TA)).toArray 38)) := belowN w _
  have hs : w.heap.size < (w.alloc (.cells (tcs u (⟨mA, mc, mB, md, bs, ⟨bA, bc, kA, kc, hA, hc⟩, tA, tc, lA, lc⟩ : TA)).toArray 38)).heap.size := by simp
  go_enter Try.func46, Try.ntmps46
  go_wp2_with fail
  generalize (w.alloc (.cells (tcs u (⟨mA, mc, mB, md, bs, ⟨bA, bc, kA, kc, hA, hc⟩, tA, tc, lA, lc⟩ : TA)).toArray 38)) = wz at *
  refine (priors_any bA bc u.d.bl u.d.bl.length rfl (by have := o.b; omega) x u.c.x9 u.c.x10 hx o.lo o.hi o.f.b _ (h.th.b.later hB)).mono ?_
  rintro e w1 ⟨Ap, cp, rfl, hcp, sp, hb1⟩
  replace B1 := boxOf_keep B1 hb1
  replace hs := Nat.lt_of_lt_of_le hs hb1.size
  replace hB := below_next hB hB.size hb1
  clear hb1
  have sb := h.th.b
  have nb := o.b
  obtain ⟨L, hL⟩ : ∃ L, mkL u.d.bl u.d.it x u.c.x9 u.c.x10 = L := ⟨_, rfl⟩
  have HL : Hid (L.length = u.d.bl.length) := hide (by rw [← hL, mkL_length])
  rw [hL]
  have hL' := hide hL
  clear hL
  go_wp2_with (at_make; refine wpList_make_own _ rfl _ _ 36 rfl w1.heap.size 49 i0 (.agg #[.int .i64 0, .int .i64 0, .int .i64 0, .int .i64 0, .int .i64 0, .int .i64 0]) 6 Try.underlying36 hi0 hz0 hz1 .i64 .i64 (u.d.bl.length : Int) u.d.bl.length rfl rfl rfl (by rw [hz2]; omega) (by unfold maxLen; omega) (Nat.le_refl _) ?_; intro w2 hown hgw; replace B1 := boxOf_grown hgw B1 (by simp))
  have hs1 := hB.size
  replace hB := hB.grown hgw (by omega) (fun k e => by cases e)
  replace sp := sp.hold (fun p hp => hgw.cell_far p hp (by simp))
  go_loopw [6, 27] (fun q i wr => ∃ j : Nat, j ≤ u.d.bl.length ∧ i = .int .i64 j ∧ wr.ownsRow w1.heap.size 49 6 q j (mcells (L.take j)) ∧ boxOf wr w.heap.size = some (tcs u (⟨mA, mc, mB, md, bs, ⟨bA, bc, kA, kc, hA, hc⟩, tA, tc, lA, lc⟩ : TA)) ∧ Sees wr w1.heap.size 1 Ap u.d.bl.length ((prs u.d.bl x u.c.x9 u.c.x10).map (Value.int .i64)) ∧ Below w.heap.size w wr ∧ w1.heap.size ≤ wr.heap.size)
    (fun _ i _ => u.d.bl.length - (intOf i).toNat)
  case atStart => exact ⟨0, Nat.zero_le _, rfl, by simpa [mcells] using hown, B1, sp, hB, hgw.size⟩
  case round =>
    obtain ⟨j, hj, rfl, hown, B1, sp, hB, hs1⟩ := hrel
    by_cases hlt : j < u.d.bl.length
    · have sb' := sb.below hB
      obtain ⟨b1, off1, e0, e1, e2, rfl, hb1, he, k1, k2, k3⟩ := sb'.entry (k := j) hlt
      obtain ⟨b2, off2, p0, rfl, hb2, hp, k4⟩ := sp.num (k := j) hlt
      have HP := hide (show p0 = allV (u.d.bl.take j) x u.c.x9 u.c.x10 from Option.some.inj (hp.symm.trans (prs_at hlt x u.c.x9 u.c.x10)))
      have HE := hide (mkL_at he u.d.it x u.c.x9 u.c.x10)
      rw [hL'.out, ← HP.out] at HE
      have HT := hide (take_snoc L j _ HE.out)
      clear he hp
      have hj0 : (0 : Int) ≤ (j : Int) := Int.natCast_nonneg _
      have hj1 : (j : Int) < (u.d.bl.length : Int) := by omega
      have ag := own_ne hown hb2
      have lb := Nat.lt_of_lt_of_le hb2 hs1
      have ag1 := own_ne hown hs
      go_wp2_with fail
      have Q1 := boxOf_keep B1 (belowN wr (.cells #[.int .i64 e0, .int .i64 e1, .int .i64 e2] 51))
      have Q2 := boxOf_newA wr #[.int .i64 e0, .int .i64 e1, .int .i64 e2] 51 _ rfl
      have Q3 := cell_keep k4 (belowN wr (.cells #[.int .i64 e0, .int .i64 e1, .int .i64 e2] 51))
      have hownq := hown.alloc (.cells #[.int .i64 e0, .int .i64 e1, .int .i64 e2] 51)
      have hBq := hB.alloc hB.size (.cells #[.int .i64 e0, .int .i64 e1, .int .i64 e2] 51)
      have spq := sp.below (w' := wr.alloc (.cells #[.int .i64 e0, .int .i64 e1, .int .i64 e2] 51)) ((Below.refl w1.heap.size wr).alloc hs1 _)
      have hsq : wr.heap.size < (wr.alloc (.cells #[.int .i64 e0, .int .i64 e1, .int .i64 e2] 51)).heap.size := by simp
      have ag2 : u6.ownBlock ≠ some wr.heap.size := fun e => by have := (hown.lt _ e).2; omega
      obtain ⟨ge, hge⟩ : ∃ g, wr.heap.size = g := ⟨_, rfl⟩
      rw [hge] at Q2 ag2 hsq ⊢
      have hg1 : w1.heap.size ≤ ge := by omega
      have hg0 : w.heap.size < ge := by omega
      clear k1 k2 k3 k4 B1 sb' sp hge lb
      generalize (wr.alloc (.cells #[.int .i64 e0, .int .i64 e1, .int .i64 e2] 51)) = wq at *
      have Q : boxOf wq w.heap.size = some (tcs u (⟨mA, mc, mB, md, bs, ⟨some ⟨b1, off1, none⟩, bc, kA, kc, hA, hc⟩, tA, tc, lA, lc⟩ : TA)) ∧ boxOf wq ge = some [.int .i64 e0, .int .i64 e1, .int .i64 e2] ∧ wq.cell? ⟨b2, off2 + j, none⟩ = some (.int .i64 p0) := ⟨Q1, Q2, Q3⟩
      go_region_held3 (fun w' => boxOf w' w.heap.size = some (tcs u (⟨mA, mc, mB, md, bs, ⟨some ⟨b1, off1, none⟩, bc, kA, kc, hA, hc⟩, tA, tc, lA, lc⟩ : TA)) ∧ boxOf w' ge = some [.int .i64 e0, .int .i64 e1, .int .i64 e2] ∧ w'.cell? ⟨b2, off2 + j, none⟩ = some (.int .i64 p0))
        (first
          | (with_reducible exact ms_drew Q)
          | (with_reducible exact ms_drew (ms_keep Q (belowN _ _)))
          | exact ms_grown (ms_drew (ms_keep Q (belowN _ _))) hgrow (Ne.symm ag1) (Ne.symm ag2) (Ne.symm ag))
        ((refine step_append_lies _ (by rfl) _ _ _ (by rfl) w1.heap.size 49 i0 _ 6 48 Try.underlying36 hi0 hz0 hz1 hz2 rfl (by omega) _ j _ (by rfl) ((hownq.alloc _).drew)
            ⟨wq.heap.size, 0, none⟩ 1 1 (mcells [(e0, u.d.it, e1, e2, p0, 0)]) (by rfl) (by rfl) (World.news_of_block (cs := #[.int .i64 e0, .int .i64 u.d.it, .int .i64 e1, .int .i64 e2, .int .i64 p0, .int .i64 0]) (t := 49) (fr := (0, 0)) (heap_alloc_new wq _)) (mcells_one _)
            (by omega) (by unfold maxLen; omega) (by omega) (by simp; omega) (wq.heap.size + 1) (by simp) ?_; intro gg cap w3 hown1 hgrow hat hlt))
      go_wp2
      go_roundw
      case rel => exact ⟨j + 1, by omega, by go_num, by rw [HT.out, mcells_append]; exact hown1, boxOf_grown hgrow (boxOf_keep Q1 (belowN wq _).drew) (Ne.symm ag1), (spq.below ((Below.refl w1.heap.size wq).alloc (by omega) _)).hold (fun p hp => hgrow.cell_far p (by simp; omega) (fun e => by have := own_at hown _ e.symm; omega)), ((hBq.alloc (by omega) _).drew).grown hgrow (by simp; omega) (fun k e => by have := own_at hown k e; omega), Nat.le_trans (by simp; omega) hgrow.size⟩
      case measure => simp [intOf]; omega
    · obtain rfl : j = u.d.bl.length := by omega
      have HT := hide (show L.take u.d.bl.length = L by rw [← HL.out, List.take_length])
      go_wp2
      go_ret
      rw [HT.out, ← hL'.out] at hown
      obtain ⟨A', c', rfl, hc'⟩ := own_form hown
      exact ⟨A', c', rfl, hc', Sees.of_own hown, fun p hp => Nat.le_trans (by omega) (fresh_own hown p hp), hB⟩
end Go.Proofs.Ytiacgbkaflcbeaa
