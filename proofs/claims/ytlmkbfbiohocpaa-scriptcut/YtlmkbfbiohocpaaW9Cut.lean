/- The walk of ScriptCut. -/
import Derived.Test.YtlmkbfbiohocpaaW9CutM
namespace Go.Proofs.Ytlmkbfbiohocpaa
open Go.RowKit Go.Sort

theorem info3i : (Try.prog.info? 3).map (fun i => (i.zero, i.size, i.bytes)) = some (some (.int .i64 0), 1, 8) := by kernel_rfl
theorem sees_one {w : World} {b o : Nat} {k t i g v : Int} (hb : b < w.heap.size) (c0 : w.cell? ⟨b, o, none⟩ = some (.int .i64 k)) (c1 : w.cell? ⟨b, o + 1, none⟩ = some (.int .i64 t)) (c2 : w.cell? ⟨b, o + 2, none⟩ = some (.int .i64 i)) (c3 : w.cell? ⟨b, o + 3, none⟩ = some (.int .i64 g)) (c4 : w.cell? ⟨b, o + 4, none⟩ = some (.int .i64 v)) :
    Sees w w.heap.size 5 (some ⟨b, o, none⟩) 1 (ec5 [(k, t, i, g, v)]) := by
  refine ⟨rfl, fun _ => ⟨b, o, rfl, hb, fun j u hu => ?_⟩⟩
  match j, hu with
  | 0, hu => cases hu; exact c0
  | 1, hu => cases hu; exact c1
  | 2, hu => cases hu; exact c2
  | 3, hu => cases hu; exact c3
  | 4, hu => cases hu; exact c4

/-- A number of sixteen bits, turned into an int. -/
theorem conv_u16 (a : Nat) (ha : a < 65536) (w : World) : (convert 55 3 (.int .u16 (a : Int))).run Try.prog w = .ok (.int .i64 (a : Int)) w := by
  have e : IntKind.i64.wrap (a : Int) = (a : Int) := IntWalk.i64_in _ (by omega)
  have h1 := Try.underlying55
  have h2 := Try.underlying3
  simp [convert, Conv.intToInt, run_underlying h1, run_underlying h2, e]

set_option maxRecDepth 100000 in
set_option maxHeartbeats 4000000 in
theorem walkCut (A : Option Addr) (cap : Nat) (l : List E5) (len : Nat) (hlen : len = l.length) (hcap : len ≤ cap) (hg : Good5 l) (a : Nat) (ha : a < 65536) (c : Int) (hc0 : 0 ≤ c) (hc1 : c < 256) (w : World) (hs : Sees w w.heap.size 5 A len (ec5 l)) : Calls Try.prog 8 #[.slice A len cap, .int .u16 (a : Int), .int .u8 c] w (BoolPost true w) := by
  have HL := hide hlen
  have HCT := hide (conv_u16 a ha)
  clear hlen ha
  by_cases hbig : 60 < len
  · go_enter Try.func8, Try.ntmps8
    go_wp2_with (go_at_call 9; refine (shown9_any _).mono ?_; rintro x w1 ⟨rfl, hb1⟩)
    go_ret
    exact ⟨rfl, hb1⟩
  · have hd : decide (60 < (len : Int)) = false := decide_eq_false (by omega)
    obtain ⟨i0, hi0, hz0, hz1, hz2⟩ := info_parts info3i
    have hl60 : len ≤ 60 := by omega
    have hB : Below w.heap.size w w := Below.refl _ _
    go_enter Try.func8, Try.ntmps8
    go_wp2_with fail
    refine (shown9_any _).mono ?_
    rintro x w1 ⟨rfl, hb⟩
    replace hs := hs.later hb
    replace hB := below_next hB hB.size hb
    clear hb
    have O0 := hide (World.ownsRow_lit (base := w1.heap.size) (e := 3) (size := 1) w1 #[.int .i64 0] 1 (Nat.le_refl _) (by unfold maxLen; omega) rfl)
    go_wp2
    go_loopw [7, 8, 9] (fun sv ev q wr => ∃ j : Nat, j ≤ len ∧ q = .int .i64 j ∧ sv = .string (strOfNums (encL (l.take j))) ∧ wr.ownsRow w1.heap.size 3 1 ev (j + 1) ((enL l j).map (Value.int .i64)) ∧ (∀ e ∈ l.take j, Kind9 e) ∧ Below w1.heap.size w1 wr) (fun _ _ q _ => len - (intOf q).toNat)
    case atStart => exact ⟨0, Nat.zero_le _, rfl, rfl, by rw [enL_zero]; exact O0.out, by simp, (Below.refl _ _).alloc (Nat.le_refl _) _⟩
    case round =>
      obtain ⟨j, hj, rfl, rfl, hown, hkind, hR⟩ := hrel
      generalize u8 = ev at *
      have HK := hide hkind
      clear hkind O0
      by_cases hlt : j < len
      · have hs1 := hs.later hR
        rw [HL.out] at hs1
        obtain ⟨b, off, k, t, i, g, v, rfl, hb, he, c0, c1, c2, c3, c4⟩ := hs1.ent5 (k := j) (by have := HL.out; omega)
        have hj0 : (0 : Int) ≤ (j : Int) := Int.natCast_nonneg _
        have hj1 : (j : Int) < (len : Int) := by omega
        by_cases hbad : k < 1 ∨ 3 < k
        · have HB := hide (hB.trans (hR.mono hB.size))
          clear hs1 he hown hR
          by_cases h1 : k < 1
          · clear hbad
            go_wp2
            go_ret
            exact ⟨rfl, HB.out⟩
          · have h3 : 3 < k := by omega
            clear hbad
            go_wp2
            go_ret
            exact ⟨rfl, HB.out⟩
        · have k1 : 1 ≤ k := by omega
          have k3 : k ≤ 3 := by omega
          have S1 := sees_one (o := off + j * 5) hb c0 c1 c2 c3 c4
          have K1 := hide (its9_any (some ⟨b, off + j * 5, none⟩) (cap - j) [(k, t, i, g, v)] 1 rfl (by omega) wr S1)
          have K2 := hide (fun A c => renc_any A c [(k, t, i, g, v)] 1 rfl (by omega))
          have hsum : strOfNums (encL (l.take j)) ++ strOfNums (encL [(k, t, i, g, v)]) = strOfNums (encL (l.take (j + 1))) := by rw [str_append, ← encL_append, ← take_snoc l j _ he]
          have zsum : (strOfNums (encL (l.take (j + 1)))).size = enE l (j + 1) := strOfNums_size _
          have zle := enE_le l (j + 1)
          obtain ⟨sa, ea⟩ : ∃ s, strOfNums (encL (l.take j)) = s := ⟨_, rfl⟩
          obtain ⟨sb, eb⟩ : ∃ s, strOfNums (encL [(k, t, i, g, v)]) = s := ⟨_, rfl⟩
          obtain ⟨sc, ec⟩ : ∃ s, strOfNums (encL (l.take (j + 1))) = s := ⟨_, rfl⟩
          have zsa : sa.size ≤ 1000 := by (rw [← ea, strOfNums_size]; have := enE_le l j; unfold enE at this; have := HL.out; omega)
          have zsb : sb.size ≤ 1000 := by (rw [← eb, strOfNums_size]; have := encL_length_le [(k, t, i, g, v)]; simp at this; omega)
          rw [ea, eb, ec] at hsum
          rw [ec] at zsum
          simp only [eb] at K2
          rw [ea]
          have hadd := fun w => run_string_add_sum (P := Try.prog) w sa sb (by omega)
          rw [hsum] at hadd
          have HE := hide ec
          have HZ := hide zsum
          have HN := hide (show ∀ e ∈ l.take (j + 1), Kind9 e by
            intro e he2
            rw [take_snoc l j _ he] at he2
            rcases List.mem_append.1 he2 with h | h
            · exact HK.out e h
            · rw [List.mem_singleton] at h; subst h; exact ⟨k1, k3⟩)
          clear hs1 he S1 ea eb ec zsum hbad hsum
          go_wp2_with fail
          refine K1.out.mono ?_
          rintro x w2 ⟨A2, c2', rfl, hc2, hs2, hb2⟩
          go_wp2_with fail
          refine (K2.out A2 c2' _ hs2).mono ?_
          rintro x w3 ⟨rfl, hb3⟩
          have hb23 := below_next hb2 hb2.size hb3
          have hown3 := own_below hown hb23
          have hR3 := below_next hR hR.size hb23
          clear hown hR hs2 hb2 hb3 hb23 K1 K2
          go_wp2_with (at_builtin; refine wpList_app _ rfl _ _ 56 rfl w1.heap.size 3 i0 _ 1 8 Try.underlying56 hi0 hz0 hz1 hz2 rfl (by omega) ev (j + 1) ((enL l j).map (Value.int .i64)) rfl (hown3.alloc _) _ _ 1 1 _ rfl (sees_at _ _ 3 1 1 w3.heap.size rfl rfl) (by simp [Value.oneCell']) (by unfold maxLen; omega) (by omega) (Nat.le_trans hR3.size (alloc_le _ _)) ?_; intro v4 w4 hown4 hg4)
          have HR4 := hide ((hR3.alloc hR3.size _).grown hg4 (Nat.le_trans hR3.size (alloc_le _ _)) (own_at hown3))
          have HO4 := hide hown4
          clear hown3 hown4 hg4 hR3
          go_wp2
          go_roundw
          case rel => exact ⟨j + 1, by omega, by go_num, by rw [HE.out], by (rw [enL_succ, List.map_append, ← HZ.out]; exact HO4.out), HN.out, HR4.out⟩
          case measure => simp [intOf]; omega
      · obtain rfl : j = len := by omega
        have hall : ∀ e ∈ l, Kind9 e := by
          have := HK.out
          rwa [HL.out, List.take_length] at this
        have hst : strOfNums (encL (l.take j)) = strOfNums (encL l) := by rw [HL.out, List.take_length]
        obtain ⟨st, est⟩ : ∃ st, strOfNums (encL l) = st := ⟨_, rfl⟩
        rw [hst, est]
        have hnum : nums st = encL l := by rw [← est]; exact nums_str (encL_bytes _)
        have hsz : st.size = (encL l).length := by rw [← nums_length, hnum]
        have hle : st.size ≤ 720 := by (rw [hsz]; have := encL_length_le l; have := HL.out; omega)
        obtain ⟨n, en⟩ : ∃ n, a % (st.size + 1) = n := ⟨_, rfl⟩
        have hn : n ≤ st.size := by (have := Nat.mod_lt a (show 0 < st.size + 1 by omega); rw [← en]; omega)
        have hmod2 : (a : Int) % ((st.size : Int) + 1) = (n : Int) := by (rw [← en]; exact (Int.natCast_emod a (st.size + 1)).symm)
        have hmod1 : (a : Int).tmod ((st.size : Int) + 1) = (n : Int) := by rw [Int.tmod_eq_emod_of_nonneg (Int.natCast_nonneg a)]; exact hmod2
        have hcut := hide (cut_spec hall hg (n := n) (by omega))
        have hbl := bg_le l n (l.length + 1)
        have hsx : nums (st.extract 0 n) = (encL l).take n := by rw [str_take, hnum]
        have zsx : (st.extract 0 n).size ≤ 1000000 := by (rw [← nums_length, hsx, List.length_take]; omega)
        have K6 := hide (dec_any (st.extract 0 n) zsx)
        rw [hsx] at K6
        have hsm : st ++ strOfNums [c] = strOfNums (encL l ++ [c]) := by rw [← est, str_append]
        have hby : Bytes9 (encL l ++ [c]) := (encL_bytes l).append (fun y hy => by rw [List.mem_singleton] at hy; subst hy; exact ⟨hc0, hc1⟩)
        obtain ⟨sm, esm⟩ : ∃ s, strOfNums (encL l ++ [c]) = s := ⟨_, rfl⟩
        have hnm : nums sm = encL l ++ [c] := by rw [← esm]; exact nums_str hby
        have zsm : sm.size ≤ 1000000 := by (rw [← esm, strOfNums_size, List.length_append]; have := hsz; simp; omega)
        have K7 := hide (dec_any sm zsm)
        rw [hnm, dec_more hall hg, ← hsz] at K7
        have zc : (strOfNums [c]).size = 1 := strOfNums_size _
        have hadd := fun w => run_string_add_sum (P := Try.prog) w st (strOfNums [c]) (by omega)
        rw [hsm, esm] at hadd
        obtain ⟨E, cE, rfl, hcE⟩ := own_form hown
        have hSe := Sees.of_own hown
        obtain ⟨b2, o2, rfl, lt2, _⟩ := hSe.2 (by omega)
        have HSE := hide hSe
        replace hB := hB.trans (hR.mono hB.size)
        have hl61 : j ≤ 60 := hl60
        clear hst est hnum hsz en hsx hsm hby esm hnm zsm zsx zc hall hown hR HK hs hSe
        have hct := HCT.out
        go_wp2
        clear hct
        go_loop [11, 12] (fun bg q => ∃ i : Nat, i ≤ j + 1 ∧ q = .int .i64 i ∧ bg = .int .i64 ((bgV l n i : Nat) : Int)) (fun _ q => j + 1 - (intOf q).toNat)
        case atStart => exact ⟨0, Nat.zero_le _, rfl, rfl⟩
        case round =>
          obtain ⟨i, hi, rfl, rfl⟩ := hrel
          by_cases hlt2 : i < j + 1
          · obtain ⟨b3, o3, v3, e3, lt3, hv3, cv3⟩ := HSE.out.num (k := i) hlt2
            rw [enL_at l j i hlt2] at hv3
            simp only [Option.some.injEq, Addr.mk.injEq, and_true] at e3 hv3
            obtain ⟨rfl, rfl⟩ := e3
            subst hv3
            have hbg : bgV l n (i + 1) = if enE l i ≤ n then enE l i else bgV l n i := rfl
            obtain ⟨z, ez⟩ : ∃ z, enE l i = z := ⟨_, rfl⟩
            rw [ez] at cv3 hbg
            have HBG := hide hbg
            clear hbg ez
            have hi0' : (0 : Int) ≤ (i : Int) := Int.natCast_nonneg _
            have hi1' : (i : Int) < (j : Int) + 1 := by omega
            by_cases hz : z ≤ n
            · have HBH := hide (HBG.out.trans (if_pos hz))
              clear HBG
              go_wp2
              go_round
              case rel => exact ⟨i + 1, by omega, by go_num, by rw [HBH.out]⟩
              case measure => simp [intOf]; omega
            · have HBH := hide (HBG.out.trans (if_neg hz))
              clear HBG
              go_wp2
              go_round
              case rel => exact ⟨i + 1, by omega, by go_num, by rw [HBH.out]⟩
              case measure => simp [intOf]; omega
          · obtain rfl : i = j + 1 := by omega
            rw [← HL.out] at hcut hbl
            obtain ⟨bg, ebg⟩ : ∃ bg, bgV l n (j + 1) = bg := ⟨_, rfl⟩
            rw [ebg] at hcut hbl ⊢
            clear ebg HSE
            by_cases hbn : bg = n
            · subst hbn
              have hr := hcut.out.1 rfl
              obtain ⟨⟨m, p, e⟩, er⟩ : ∃ r, decG ((encL l).take bg) 0 [] = r := ⟨_, rfl⟩
              rw [er] at K6 hr
              simp only [Prod.mk.injEq] at hr
              obtain ⟨rfl, rfl⟩ := hr
              clear er hcut
              go_wp2_with fail
              refine (K6.out _).mono ?_
              rintro x wz ⟨A6, c6, rfl, hc6, hs6, hb⟩
              replace hB := below_next hB hB.size hb
              clear hb hs6 K6
              go_upto_region 22 with fail
              have hbt : Below wz.heap.size wz (wz.alloc (.cells #[.int .u8 c] 5)) := (Below.refl _ _).alloc (Nat.le_refl _) _
              have hcv := conv_own (base := wz.heap.size) (xs := [c]) (World.ownsRow_lit (base := wz.heap.size) (e := 5) (size := 1) wz #[.int .u8 c] 1 (Nat.le_refl _) (by unfold maxLen; omega) rfl)
              have hB6 := hide (below_next hB hB.size hbt)
              clear hbt
              by_cases hbd : c < 1 ∨ 3 < c
              · rw [if_pos hbd] at K7
                have HB6 := hB6
                by_cases h1 : c < 1
                · have v1 : decide (1 ≤ c) = false := decide_eq_false (by omega)
                  clear hbd
                  go_wp2_with fail
                  refine (K7.out _).mono ?_
                  rintro x w9 ⟨A9, c9, rfl, hc9, hs9, hb9⟩
                  go_wp2
                  go_ret
                  exact ⟨rfl, below_next HB6.out HB6.out.size hb9⟩
                · have v1 : decide (1 ≤ c) = true := decide_eq_true (by omega)
                  have v2 : decide (c ≤ 3) = false := decide_eq_false (by omega)
                  clear hbd
                  go_wp2_with fail
                  refine (K7.out _).mono ?_
                  rintro x w9 ⟨A9, c9, rfl, hc9, hs9, hb9⟩
                  go_wp2
                  go_ret
                  exact ⟨rfl, below_next HB6.out HB6.out.size hb9⟩
              · rw [if_neg hbd] at K7
                have v1 : decide (1 ≤ c) = true := decide_eq_true (by omega)
                have v2 : decide (c ≤ 3) = true := decide_eq_true (by omega)
                by_cases h3 : c = 3
                · rw [if_pos h3] at K7
                  subst h3
                  have el : (l.map nrm ++ [((3 : Int), (0 : Int), (0 : Int), (0 : Int), (0 : Int))]).length = j + 1 := by rw [List.length_append, List.length_map, ← HL.out]; rfl
                  have HEL := hide el
                  clear hbd el
                  go_wp2_with fail
                  refine (K7.out _).mono ?_
                  rintro x w9 ⟨A9, c9, rfl, hc9, hs9, hb9⟩
                  have HB9 := hide (below_next hB6.out hB6.out.size hb9)
                  simp only [HEL.out] at hc9 hs9 ⊢
                  clear hs9 hb9
                  go_wp2
                  go_ret
                  exact ⟨rfl, HB9.out⟩
                · rw [if_neg h3] at K7
                  have w1' : (c == 3) = false := beq_eq_false_iff_ne.2 h3
                  have w2' : (c != 3) = true := bne_iff_ne.2 h3
                  clear hbd h3
                  go_wp2_with fail
                  refine (K7.out _).mono ?_
                  rintro x w9 ⟨A9, c9, rfl, hc9, hs9, hb9⟩
                  go_wp2
                  go_ret
                  exact ⟨rfl, below_next hB6.out hB6.out.size hb9⟩
            · have hlt3 : bg < n := by omega
              have hr := hcut.out.2 hlt3
              rw [hr] at K6
              clear hr hcut hbn
              go_wp2_with fail
              refine (K6.out _).mono ?_
              rintro x wz ⟨A6, c6, rfl, hc6, hs6, hb⟩
              replace hB := below_next hB hB.size hb
              clear hb hs6 K6
              go_upto_region 22 with fail
              have hbt : Below wz.heap.size wz (wz.alloc (.cells #[.int .u8 c] 5)) := (Below.refl _ _).alloc (Nat.le_refl _) _
              have hcv := conv_own (base := wz.heap.size) (xs := [c]) (World.ownsRow_lit (base := wz.heap.size) (e := 5) (size := 1) wz #[.int .u8 c] 1 (Nat.le_refl _) (by unfold maxLen; omega) rfl)
              have hB6 := hide (below_next hB hB.size hbt)
              clear hbt
              by_cases hbd : c < 1 ∨ 3 < c
              · rw [if_pos hbd] at K7
                have HB6 := hB6
                by_cases h1 : c < 1
                · have v1 : decide (1 ≤ c) = false := decide_eq_false (by omega)
                  clear hbd
                  go_wp2_with fail
                  refine (K7.out _).mono ?_
                  rintro x w9 ⟨A9, c9, rfl, hc9, hs9, hb9⟩
                  go_wp2
                  go_ret
                  exact ⟨rfl, below_next HB6.out HB6.out.size hb9⟩
                · have v1 : decide (1 ≤ c) = true := decide_eq_true (by omega)
                  have v2 : decide (c ≤ 3) = false := decide_eq_false (by omega)
                  clear hbd
                  go_wp2_with fail
                  refine (K7.out _).mono ?_
                  rintro x w9 ⟨A9, c9, rfl, hc9, hs9, hb9⟩
                  go_wp2
                  go_ret
                  exact ⟨rfl, below_next HB6.out HB6.out.size hb9⟩
              · rw [if_neg hbd] at K7
                have v1 : decide (1 ≤ c) = true := decide_eq_true (by omega)
                have v2 : decide (c ≤ 3) = true := decide_eq_true (by omega)
                by_cases h3 : c = 3
                · rw [if_pos h3] at K7
                  subst h3
                  have el : (l.map nrm ++ [((3 : Int), (0 : Int), (0 : Int), (0 : Int), (0 : Int))]).length = j + 1 := by rw [List.length_append, List.length_map, ← HL.out]; rfl
                  have HEL := hide el
                  clear hbd el
                  go_wp2_with fail
                  refine (K7.out _).mono ?_
                  rintro x w9 ⟨A9, c9, rfl, hc9, hs9, hb9⟩
                  have HB9 := hide (below_next hB6.out hB6.out.size hb9)
                  simp only [HEL.out] at hc9 hs9 ⊢
                  clear hs9 hb9
                  go_wp2
                  go_ret
                  exact ⟨rfl, HB9.out⟩
                · rw [if_neg h3] at K7
                  have w1' : (c == 3) = false := beq_eq_false_iff_ne.2 h3
                  have w2' : (c != 3) = true := bne_iff_ne.2 h3
                  clear hbd h3
                  go_wp2_with fail
                  refine (K7.out _).mono ?_
                  rintro x w9 ⟨A9, c9, rfl, hc9, hs9, hb9⟩
                  go_wp2
                  go_ret
                  exact ⟨rfl, below_next hB6.out hB6.out.size hb9⟩
end Go.Proofs.Ytlmkbfbiohocpaa
