/- The document's Take. -/
import Derived.Test.YtjghdbkkjhnpfaaGreatRqA
import Derived.Test.YtjghdbkkjhnpfaaGreatCoI
import Derived.Test.YtjghdbkkjhnpfaaGreatGaT
import Derived.Test.YtjghdbkkjhnpfaaGreatGaA
import Derived.Test.YtjghdbkkjhnpfaaGreatTnI
import Derived.Test.YtjghdbkkjhnpfaaGreatM1
import Derived.Test.YtjghdbkkjhnpfaaGreatM2
import Derived.Test.YtjghdbkkjhnpfaaGreatM4
import Derived.Test.YtjghdbkkjhnpfaaGreatM6
import Derived.Lib.QuietBelow
import Derived.Deep.QuietTactic
import Derived.BigQuiet
import Derived.Deep.RegionHeld3
import Derived.Deep.RegionLaw
import Derived.Deep.Cut
namespace Go.Proofs.YtjghdbkkjhnpfaaGreat
open Go.RowKit Go.Sort
set_option linter.unusedVariables false
set_option linter.unusedSimpArgs false

theorem infoKidR : (Tryz.prog.info? 146).map (fun i => (i.zero, i.size, i.bytes)) = some (some (.agg #[.int .i64 0, .int .i64 0]), 2, 16) := by kernel_rfl
theorem sees_box {W : World} {b sz n : Nat} {cs : List Value} (h : boxOf W b = some cs) (hl : cs.length = n * sz) : Sees W W.heap.size sz (some ⟨b, 0, none⟩) n cs := ⟨hl, fun _ => ⟨b, 0, rfl, boxOf_lt h, fun j v hv => by rw [Nat.zero_add, boxOf_at W b j h]; exact hv⟩⟩
section
open Go
theorem step_app {P : Program} {w : World} {ops : Array Oper} {o : Oper} {a : Act} {K : Act → World → Prop} {Q : Exit → Act → World → Prop} {E : Prop} (hgd : o.guard = none) (s x : Operand) (t : TypeId)
    (ho : o.op = .call { callee := .builtin .append, args := #[s, x], argTypes := #[t, t] })
    (base : Nat) (e : TypeId) (i : TypeInfo) (z : Value) (sz bytes : Nat) (ht : P.underlying t = some (.slice e)) (hi : P.info? e = some i) (hz : i.zero = some z)
    (hsize : i.size = sz) (hby : i.bytes = bytes) (hzs : z.cells.size = sz) (hsz : 0 < sz) (v : Value) (n : Nat) (xs : List Value) (hs : a.eval s = v) (hown : w.ownsRow base e sz v n xs)
    (B : Nat) (A : Option Addr) (m c : Nat) (news : List Value) (hx : a.eval x = .slice A m c) (hr : Sees w B sz A m news) (h1 : ∀ u ∈ news, u.oneCell' = true)
    (h63 : n + m ≤ maxLen) (hbytes : (n + m) * bytes ≤ 140737488355328) (hbase : base ≤ w.heap.size)
    (h : ∀ v' w', w'.ownsRow base e sz v' (n + m) (xs ++ news) → w.grownBy w' v.ownBlock → K (a.put o.dst v') w') :
    if Region.wanted o (yielded ops a.tmps) = true then Oper.wp P o a w K Q else E := by
  have hw : Region.wanted o (yielded ops a.tmps) = true := by simp [Region.wanted, hgd]
  rw [if_pos hw]
  obtain ⟨v', w', hrun, h2, h3⟩ := run_app (P := P) w base t o.type e i z sz bytes ht hi hz hsize hby hzs hsz v n xs hown B A m c news hr h1 h63 hbytes hbase
  unfold Oper.wp execOp
  simp only [ho, resolve, invoke, builtin, Sem.run_bind, Sem.run_pure, Result.andThen_ok, List.map_toArray, List.map_cons, List.map_nil, hs, hx, hrun]
  exact h v' w' h2 h3
end
section
open Go
theorem at_w {P : Program} {ops : Array Oper} {o : Oper} {a : Act} {K : Act → World → Prop} {Q : Exit → Act → World → Prop} {E : Prop} (w : World) (h : if Region.wanted o (yielded ops a.tmps) = true then Oper.wp P o a w K Q else E) : if Region.wanted o (yielded ops a.tmps) = true then Oper.wp P o a w K Q else E := h
end
attribute [local irreducible] tcs thc ccs zT
attribute [local go_sem ↓] alTn_is alRn_is
attribute [local go_sem] run_alTnf run_alTnt run_alRnf run_alRnt zT_length
attribute [local go_sem ↓] lbTn_is lbRn_is lbTh_is lbRh_is lbCf_is lbRc_is sbTn_is sbRn_is sbTh_is sbRh_is sbCf_is sbRc_is
attribute [local go_sem] run_lbTn run_lbRn run_lbTh run_lbRh run_lbCf run_lbRc run_sbTn run_sbRn run_sbTh run_sbRh run_sbCf run_sbRc
attribute [local go_sem 2000] boxOf_old'
attribute [local go_sem] boxOf_at' boxOf_free' boxOf_alloc objBox_cells objBox_cellsA boxOf_drew boxOf_setI boxOf_setsI size_sets tcs_length thc_length ccs_length tcs_one thc_one ccs_one sub_tn sub_th sub_cf sub_thAll sub_cfAll put_turn put_thread
attribute [local go_sem] tc0 tc1 tc2 tc3 tc4 tc5 tc6 tc7 tc8 tc9 tc10 tc11 tc12 tc13 tc14 tc15 tc16 tc17 tc18 tc19 tc20 tc21 tc22 tc23 tc24 tc25 tc26 tc27 tc28 tc29 tc30 tc31 tc32 tc33 tc34 tc35 tc36 hc0 hc1 hc2 hc3 hc4 hc5 hc6 hc7 hc8 hc9 hc10 hc11 hc12 hc13 hc14 hc15 hc16 kc0 kc1 kc2 kc3 kc4 kc5 kc6 kc7 kc8 kc9 kc10 kc11 tg0 tg1 tg2 tg3 tg4 tg5 tg6 tg7 tg8 tg9 tg10 tg11 tg12 tg13 tg14 tg15 tg16 tg17 tg18 tg19 tg20 tg21 tg22 tg23 tg24 tg25 tg26 tg27 tg28 tg29 tg30 tg31 tg32 tg33 tg34 tg35 tg36 hg0 hg1 hg2 hg3 hg4 hg5 hg6 hg7 hg8 hg9 hg10 hg11 hg12 hg13 hg14 hg15 hg16 kg0 kg1 kg2 kg3 kg4 kg5 kg6 kg7 kg8 kg9 kg10 kg11
attribute [local go_sem] ts12 ts13 ts14 ts16 ts17 ts18 ts19 ts20 ts21 ts22 ts23 ts24 ts25 ts26 ts27 ts28 ts29 ts30 ts31 ts32 ts33 ts34 ts35 ts36 ts15 hs0 hs1 hs2 hs3 hs7 hs8 hs9 hs10 hs11 hs12 hs13 hs14 hs15 hs16

attribute [local irreducible] zC zH
attribute [local go_sem ↓] alCf_is alRc_is alTh_is
attribute [local go_sem] run_alCf run_alRc run_alTh zC_length zH_length put_conf put_thrd
attribute [local go_sem] hs4 hs5
set_option maxRecDepth 100000 in
set_option maxHeartbeats 4000000 in
theorem rtake_any (u : Tn) (a : TA) (who : Int) (b : List E3) (A : Option Addr) (c : Nat) (ok : u.d.kl.length ≤ 500) (ob0 : u.d.bl.length ≤ 5000) (hl : b.length ≤ 20000) (w : World) (h : ThAt w u.d a.p) (sb : Sees w w.heap.size 3 A b.length (ecells b)) :
    Calls Tryz.prog 22 #[.agg (tcs u a).toArray, .int .i64 who, .slice A b.length c] w (TkPost u who b a w) := by
  obtain ⟨i0, hi0, hz0, hz1, hz2⟩ := info_parts infoKidR
  have B1 : boxOf ((w.alloc (.cells (tcs u a).toArray 55)).alloc (.cells zT.toArray 55)) w.heap.size = some (tcs u a) := by simp [go_sem]
  have B2 : boxOf ((w.alloc (.cells (tcs u a).toArray 55)).alloc (.cells zT.toArray 55)) (w.heap.size + 1) = some zT := by simp [go_sem]
  have hs : w.heap.size + 1 < ((w.alloc (.cells (tcs u a).toArray 55)).alloc (.cells zT.toArray 55)).heap.size := by simp
  have hB : Below w.heap.size w ((w.alloc (.cells (tcs u a).toArray 55)).alloc (.cells zT.toArray 55)) := (belowN w _).alloc (by simp) _
  have KJ := hide (fun A1 c1 W h1 h2 => rjoinF_any A1 c1 [⟨a.p.bA, a.p.bc, u.d.bl⟩, ⟨A, c, b⟩] 2 rfl (by omega) (by simp [flat]; omega) W h1 h2)
  simp only [flat, List.flatMap_cons, List.flatMap_nil, List.append_nil] at KJ
  have KT := hide (show ∀ K kc B bc W', Sees W' W'.heap.size 2 K (u.d.kl ++ [(who, (u.d.bl.length : Int))]).length (kcells (u.d.kl ++ [(who, (u.d.bl.length : Int))])) → (∀ p, K = some p → w.heap.size + 1 < p.block) → Sees W' W'.heap.size 3 B (u.d.bl ++ b).length (ecells (u.d.bl ++ b)) → (∀ p, B = some p → w.heap.size + 1 < p.block) → Below w.heap.size w W' → TkPost u who b a w (.returned (.agg (tcs ({ u with d := { u.d with kl := u.d.kl ++ [(who, (u.d.bl.length : Int))], bl := u.d.bl ++ b } } : Tn) ({ a with p := { a.p with kA := K, kc := kc, bA := B, bc := bc } } : TA)).toArray)) W' from fun K kc B bc W' q1 q2 q3 q4 q5 => ⟨K, kc, B, bc, rfl, q1, fun p hp => by have := q2 p hp; omega, q3, fun p hp => by have := q4 p hp; omega, q5⟩)
  obtain ⟨NK, hNK⟩ : ∃ N, u.d.kl ++ [(who, (u.d.bl.length : Int))] = N := ⟨_, rfl⟩
  obtain ⟨NB, hNB⟩ : ∃ N, u.d.bl ++ b = N := ⟨_, rfl⟩
  have HNL := hide (show u.d.kl.length + 1 = NK.length by rw [← hNK]; simp)
  have HNC := hide (show kcells u.d.kl ++ [.int .i64 who, .int .i64 (u.d.bl.length : Int)] = kcells NK by rw [← hNK, kcells_append]; rfl)
  rw [hNK, hNB] at KT
  rw [hNB] at KJ
  clear hNK hNB
  go_enter Tryz.func22, Tryz.ntmps22
  go_wp2_with fail
  generalize ((w.alloc (.cells (tcs u a).toArray 55)).alloc (.cells zT.toArray 55)) = wz at *
  have lw : w.heap.size < wz.heap.size := by omega
  have hS := h.k.later hB
  have oa : ((wz.alloc (.cells #[] 146)).drew).ownsRow wz.heap.size 146 2 (.slice (some ⟨wz.heap.size, 0, none⟩) 0 0) 0 [] := (own_empty wz _ _ _ (Nat.le_refl _)).drew
  have ob : (((wz.alloc (.cells #[] 146)).alloc (.cells #[.int .i64 who, .int .i64 (u.d.bl.length : Int)] 146)).drew).ownsRow wz.heap.size 146 2 (.slice (some ⟨wz.heap.size, 0, none⟩) 0 0) 0 [] := ((own_empty wz _ _ _ (Nat.le_refl _)).alloc _).drew
  have oc : (((wz.alloc (.cells #[.int .i64 who, .int .i64 (u.d.bl.length : Int)] 146)).alloc (.cells #[] 146)).drew).ownsRow wz.heap.size 146 2 (.slice (some ⟨wz.heap.size + 1, 0, none⟩) 0 0) 0 [] := by
    have t := (own_empty (wz.alloc (.cells #[.int .i64 who, .int .i64 (u.d.bl.length : Int)] 146)) wz.heap.size 146 2 (by simp)).drew
    simpa using t
  have ba : Below wz.heap.size wz ((wz.alloc (.cells #[] 146)).drew) := ((Below.refl _ wz).alloc (Nat.le_refl _) _).drew
  have bb : Below wz.heap.size wz (((wz.alloc (.cells #[] 146)).alloc (.cells #[.int .i64 who, .int .i64 (u.d.bl.length : Int)] 146)).drew) := (((Below.refl _ wz).alloc (Nat.le_refl _) _).alloc (by simp) _).drew
  have bc : Below wz.heap.size wz (((wz.alloc (.cells #[.int .i64 who, .int .i64 (u.d.bl.length : Int)] 146)).alloc (.cells #[] 146)).drew) := (((Below.refl _ wz).alloc (Nat.le_refl _) _).alloc (by simp) _).drew
  have eb : boxOf (((wz.alloc (.cells #[] 146)).alloc (.cells #[.int .i64 who, .int .i64 (u.d.bl.length : Int)] 146)).drew) (wz.heap.size + 1) = some [.int .i64 who, .int .i64 (u.d.bl.length : Int)] := by rw [boxOf_drew]; exact boxOf_newA _ _ _ _ (by simp)
  have ec : boxOf (((wz.alloc (.cells #[.int .i64 who, .int .i64 (u.d.bl.length : Int)] 146)).alloc (.cells #[] 146)).drew) wz.heap.size = some [.int .i64 who, .int .i64 (u.d.bl.length : Int)] := by rw [boxOf_drew]; exact boxOf_keep (boxOf_newA wz #[.int .i64 who, .int .i64 (u.d.bl.length : Int)] 146 wz.heap.size rfl) (belowN _ _)
  go_cut [1] from 7 (fun q wd => q = .int .i64 who ∧ ∃ H l, boxOf wd w.heap.size = some (tcs ({ u with d := { u.d with kl := NK } } : Tn) ({ a with p := { a.p with kA := H, kc := l } } : TA)) ∧ boxOf wd (w.heap.size + 1) = some zT ∧ Sees wd wd.heap.size 2 H NK.length (kcells NK) ∧ (∀ p, H = some p → w.heap.size + 1 < p.block) ∧ Below w.heap.size w wd)
  case first =>
    go_region_law (first
      | ((with_reducible refine at_w ((wz.alloc (.cells #[] 146)).drew) ?_); refine step_app (by rfl) _ _ _ (by rfl) wz.heap.size 146 i0 _ 2 16 Tryz.underlying49 hi0 hz0 hz1 hz2 rfl (by omega) (.slice (some ⟨wz.heap.size, 0, none⟩) 0 0) 0 [] (by rfl) oa _ a.p.kA u.d.kl.length a.p.kc _ (by rfl) (hS.later ba) (kcells_one _) (by unfold maxLen; omega) (by omega) ba.size ?_; intro v1 W1 hown1 hgrow1; rw [Nat.zero_add, List.nil_append] at hown1; have C1 : boxOf W1 w.heap.size = some (tcs u a) := boxOf_grown hgrow1 (boxOf_keep B1 ba) (Ne.symm (own_ne oa lw)); have C2 : boxOf W1 (w.heap.size + 1) = some zT := boxOf_grown hgrow1 (boxOf_keep B2 ba) (Ne.symm (own_ne oa hs)); have hbw : Below wz.heap.size wz W1 := ba.grown hgrow1 ba.size (fun k e => own_at oa k e))
      | ((with_reducible refine at_w (((wz.alloc (.cells #[] 146)).alloc (.cells #[.int .i64 who, .int .i64 (u.d.bl.length : Int)] 146)).drew) ?_); refine step_app (by rfl) _ _ _ (by rfl) wz.heap.size 146 i0 _ 2 16 Tryz.underlying49 hi0 hz0 hz1 hz2 rfl (by omega) (.slice (some ⟨wz.heap.size, 0, none⟩) 0 0) 0 [] (by rfl) ob _ a.p.kA u.d.kl.length a.p.kc _ (by rfl) (hS.later bb) (kcells_one _) (by unfold maxLen; omega) (by omega) bb.size ?_; intro v1 W1 hown1 hgrow1; rw [Nat.zero_add, List.nil_append] at hown1; have C1 : boxOf W1 w.heap.size = some (tcs u a) := boxOf_grown hgrow1 (boxOf_keep B1 bb) (Ne.symm (own_ne ob lw)); have C2 : boxOf W1 (w.heap.size + 1) = some zT := boxOf_grown hgrow1 (boxOf_keep B2 bb) (Ne.symm (own_ne ob hs)); have hbw : Below wz.heap.size wz W1 := bb.grown hgrow1 bb.size (fun k e => own_at ob k e); have tk : boxOf W1 (wz.heap.size + 1) = some [.int .i64 who, .int .i64 (u.d.bl.length : Int)] := boxOf_grown hgrow1 eb (by simp [Value.ownBlock]))
      | ((with_reducible refine at_w (((wz.alloc (.cells #[.int .i64 who, .int .i64 (u.d.bl.length : Int)] 146)).alloc (.cells #[] 146)).drew) ?_); refine step_app (by rfl) _ _ _ (by rfl) wz.heap.size 146 i0 _ 2 16 Tryz.underlying49 hi0 hz0 hz1 hz2 rfl (by omega) (.slice (some ⟨wz.heap.size + 1, 0, none⟩) 0 0) 0 [] (by rfl) oc _ a.p.kA u.d.kl.length a.p.kc _ (by rfl) (hS.later bc) (kcells_one _) (by unfold maxLen; omega) (by omega) bc.size ?_; intro v1 W1 hown1 hgrow1; rw [Nat.zero_add, List.nil_append] at hown1; have C1 : boxOf W1 w.heap.size = some (tcs u a) := boxOf_grown hgrow1 (boxOf_keep B1 bc) (Ne.symm (own_ne oc lw)); have C2 : boxOf W1 (w.heap.size + 1) = some zT := boxOf_grown hgrow1 (boxOf_keep B2 bc) (Ne.symm (own_ne oc hs)); have hbw : Below wz.heap.size wz W1 := bc.grown hgrow1 bc.size (fun k e => own_at oc k e); have tk : boxOf W1 (wz.heap.size) = some [.int .i64 who, .int .i64 (u.d.bl.length : Int)] := boxOf_grown hgrow1 ec (by simp [Value.ownBlock]))
      | ((with_reducible refine at_w (W1) ?_); refine step_app (by rfl) _ _ _ (by rfl) wz.heap.size 146 i0 _ 2 16 Tryz.underlying49 hi0 hz0 hz1 hz2 rfl (by omega) v1 u.d.kl.length _ (by rfl) hown1 _ _ 1 1 _ (by rfl) (sees_box tk rfl) (by simp [Value.oneCell']) (by unfold maxLen; omega) (by omega) hbw.size ?_; intro v2 W2 hown2 hgrow2; have D1 : boxOf W2 w.heap.size = some (tcs u a) := boxOf_grown hgrow2 C1 (Ne.symm (own_ne hown1 lw)); have D2 : boxOf W2 (w.heap.size + 1) = some zT := boxOf_grown hgrow2 C2 (Ne.symm (own_ne hown1 hs)); have hbx : Below wz.heap.size wz W2 := hbw.grown hgrow2 hbw.size (fun k e => own_at hown1 k e); obtain ⟨A', c', rfl, hc'⟩ := own_form hown2; rw [HNL.out] at hown2 hc' ⊢)
      | ((with_reducible refine at_w ((W1.alloc (.cells #[.int .i64 who, .int .i64 (u.d.bl.length : Int)] 146))) ?_); refine step_app (by rfl) _ _ _ (by rfl) wz.heap.size 146 i0 _ 2 16 Tryz.underlying49 hi0 hz0 hz1 hz2 rfl (by omega) v1 u.d.kl.length _ (by rfl) (hown1.alloc _) _ _ 1 1 _ (by rfl) (sees_box (boxOf_newA W1 #[.int .i64 who, .int .i64 (u.d.bl.length : Int)] 146 W1.heap.size rfl) rfl) (by simp [Value.oneCell']) (by unfold maxLen; omega) (by omega) (hbw.alloc hbw.size _).size ?_; intro v2 W2 hown2 hgrow2; have D1 : boxOf W2 w.heap.size = some (tcs u a) := boxOf_grown hgrow2 (boxOf_keep C1 (belowN _ _)) (Ne.symm (own_ne hown1 lw)); have D2 : boxOf W2 (w.heap.size + 1) = some zT := boxOf_grown hgrow2 (boxOf_keep C2 (belowN _ _)) (Ne.symm (own_ne hown1 hs)); have hbx : Below wz.heap.size wz W2 := (hbw.alloc hbw.size _).grown hgrow2 (hbw.alloc hbw.size _).size (fun k e => own_at hown1 k e); obtain ⟨A', c', rfl, hc'⟩ := own_form hown2; rw [HNL.out] at hown2 hc' ⊢))
    all_goals
      go_wp2_with fail
      go_meet
      have fH : ∀ p, A' = some p → w.heap.size + 1 < p.block := fun p hp => by have := fresh_own hown2 p hp; omega
      have hbf := below_next hB hB.size hbx
      have s2 := Sees.of_own hown2
      rw [HNC.out] at s2
      exact ⟨rfl, A', c', (boxOf_set _ _ 21 _ D1).trans (congrArg some (ts21 _ _ _ _ _)), by rw [boxOf_far _ _ _ _ (by simp)]; exact D2, s2.own1 _ _ _ (fun _ p hp => by have := fH p hp; omega), fH, hbf.setCell (by simp) _⟩
  case rest =>
    obtain ⟨rfl, H, l, D1, D2, sH, fH, hBd⟩ := hcut
    clear oa ob oc ba bb bc eb ec hS B1 B2 hB hs lw
    have hsd := boxOf_lt D2
    go_wp2_with fail
    have hbj := belowN wc (.cells #[.slice a.p.bA u.d.bl.length a.p.bc, .slice A b.length c] 48)
    have rj : boxOf ((wc.alloc (.cells #[.slice a.p.bA u.d.bl.length a.p.bc, .slice A b.length c] 48))) wc.heap.size = some [.slice a.p.bA u.d.bl.length a.p.bc, .slice A b.length c] := boxOf_newA _ _ _ _ rfl
    have hBj := below_next hBd hBd.size hbj
    have KJ2 := hide (KJ.out (some ⟨wc.heap.size, 0, none⟩) 2 ((wc.alloc (.cells #[.slice a.p.bA u.d.bl.length a.p.bc, .slice A b.length c] 48))) (sees_box rj rfl) (fun q hq => by
      simp only [List.mem_cons, List.not_mem_nil, or_false] at hq
      rcases hq with rfl | rfl
      · exact h.b.later hBj
      · exact sb.later hBj))
    replace D1 := boxOf_keep D1 hbj
    replace D2 := boxOf_keep D2 hbj
    replace sH := sH.later hbj
    replace hsd := Nat.lt_of_lt_of_le hsd hbj.size
    refine KJ2.out.mono ?_
    rintro e w5 ⟨B5, c5, rfl, _, s5, f5, hb5⟩
    have f6 : ∀ p, B5 = some p → w.heap.size + 1 < p.block := fun p hp => Nat.lt_of_lt_of_le hsd (f5 p hp)
    replace D1 := boxOf_keep D1 hb5
    replace D2 := boxOf_keep D2 hb5
    replace sH := sH.later hb5
    replace hsd := Nat.lt_of_lt_of_le hsd hb5.size
    have hB5 := below_next hBj hBj.size hb5
    clear KJ KJ2 hbj rj hBj hb5 f5 hBd HNL HNC
    go_wp2
    refine bodyPost_ret (v := .agg (tcs ({ u with d := { u.d with kl := NK, bl := NB } } : Tn) ({ a with p := { a.p with kA := H, kc := l, bA := B5, bc := c5 } } : TA)).toArray) (results_box Tryz.results22 _ _ (w.heap.size + 1) _ _ rfl (by simp [go_sem, D1, D2]) Tryz.underlying55 rfl (by kernel_rfl)) rfl ?_
    exact KT.out _ _ _ _ _ ((sH.own1 _ _ _ (fun _ p hp => by have := fH p hp; omega)).setsC _ (fun _ p hp => by have := fH p hp; omega) _ _) fH ((s5.own1 _ _ _ (fun _ p hp => by have := f6 p hp; omega)).setsC _ (fun _ p hp => by have := f6 p hp; omega) _ _) f6 (below_sets _ (by omega) _ _ _ _ (hB5.setCell (by simp) _))
end Go.Proofs.YtjghdbkkjhnpfaaGreat
