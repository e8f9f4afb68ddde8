/- The walk of ScriptJoins. -/
import Derived.Test.YtlmkbfbiohocpaaW9Base
namespace Go.Proofs.Ytlmkbfbiohocpaa
open Go.RowKit Go.Sort

theorem al_range {n m ck : Int} {b : Bool} {l : List E5} (hl : l.length ≤ 1000) : 0 ≤ (alV ck n m b l).1 ∧ (alV ck n m b l).1 ≤ 1000000 := by
  by_cases hc : ck = 0
  · rw [al_ok hc (by omega)]
    have := fs_i64 (n := n) (m := m) (b := b) (l := l) (k := 0) (by omega)
    exact ⟨this.1, this.2.1⟩
  · rw [al_no hc]
    exact ⟨Int.le_refl _, by show (0 : Int) ≤ 1000000; omega⟩

set_option maxRecDepth 100000 in
set_option maxHeartbeats 4000000 in
theorem walkJoins (x0 x1 x2 x3 x4 x5 x6 x7 : Int) (b : Bool) (x9 x10 x11 : Int) (A : Option Addr) (ca : Nat) (la : List E5) (lena : Nat) (hlena : lena = la.length) (D : Option Addr) (cb : Nat) (lb : List E5) (lenb : Nat) (hlenb : lenb = lb.length) (w : World) (hsa : Sees w w.heap.size 5 A lena (ec5 la)) (hsb : Sees w w.heap.size 5 D lenb (ec5 lb)) :
    Calls Try.prog 7 #[.agg #[.int .i64 x0, .int .i64 x1, .int .i64 x2, .int .i64 x3, .int .i64 x4, .int .i64 x5, .int .i64 x6, .int .i64 x7, .bool b, .int .i64 x9, .int .i64 x10, .int .i64 x11], .slice A lena ca, .slice D lenb cb] w (BoolPost true w) := by
  have HA := hide hlena
  have HB := hide hlenb
  clear hlena hlenb
  obtain ⟨i0, hi0, hz0, hz1, hz2⟩ := info_parts info38
  have hB : Below w.heap.size w (w.alloc (.cells #[.int .i64 x0, .int .i64 x1, .int .i64 x2, .int .i64 x3, .int .i64 x4, .int .i64 x5, .int .i64 x6, .int .i64 x7, .bool b, .int .i64 x9, .int .i64 x10, .int .i64 x11] 23)) := (Below.refl _ _).alloc (Nat.le_refl _) _
  have Q : (w.alloc (.cells #[.int .i64 x0, .int .i64 x1, .int .i64 x2, .int .i64 x3, .int .i64 x4, .int .i64 x5, .int .i64 x6, .int .i64 x7, .bool b, .int .i64 x9, .int .i64 x10, .int .i64 x11] 23)).cell? ⟨w.heap.size, 0, none⟩ = some (.int .i64 x0) ∧ (w.alloc (.cells #[.int .i64 x0, .int .i64 x1, .int .i64 x2, .int .i64 x3, .int .i64 x4, .int .i64 x5, .int .i64 x6, .int .i64 x7, .bool b, .int .i64 x9, .int .i64 x10, .int .i64 x11] 23)).cell? ⟨w.heap.size, 1, none⟩ = some (.int .i64 x1) ∧ (w.alloc (.cells #[.int .i64 x0, .int .i64 x1, .int .i64 x2, .int .i64 x3, .int .i64 x4, .int .i64 x5, .int .i64 x6, .int .i64 x7, .bool b, .int .i64 x9, .int .i64 x10, .int .i64 x11] 23)).cell? ⟨w.heap.size, 2, none⟩ = some (.int .i64 x2) ∧ (w.alloc (.cells #[.int .i64 x0, .int .i64 x1, .int .i64 x2, .int .i64 x3, .int .i64 x4, .int .i64 x5, .int .i64 x6, .int .i64 x7, .bool b, .int .i64 x9, .int .i64 x10, .int .i64 x11] 23)).cell? ⟨w.heap.size, 3, none⟩ = some (.int .i64 x3) ∧ (w.alloc (.cells #[.int .i64 x0, .int .i64 x1, .int .i64 x2, .int .i64 x3, .int .i64 x4, .int .i64 x5, .int .i64 x6, .int .i64 x7, .bool b, .int .i64 x9, .int .i64 x10, .int .i64 x11] 23)).cell? ⟨w.heap.size, 4, none⟩ = some (.int .i64 x4) ∧ (w.alloc (.cells #[.int .i64 x0, .int .i64 x1, .int .i64 x2, .int .i64 x3, .int .i64 x4, .int .i64 x5, .int .i64 x6, .int .i64 x7, .bool b, .int .i64 x9, .int .i64 x10, .int .i64 x11] 23)).cell? ⟨w.heap.size, 5, none⟩ = some (.int .i64 x5) ∧ (w.alloc (.cells #[.int .i64 x0, .int .i64 x1, .int .i64 x2, .int .i64 x3, .int .i64 x4, .int .i64 x5, .int .i64 x6, .int .i64 x7, .bool b, .int .i64 x9, .int .i64 x10, .int .i64 x11] 23)).cell? ⟨w.heap.size, 6, none⟩ = some (.int .i64 x6) ∧ (w.alloc (.cells #[.int .i64 x0, .int .i64 x1, .int .i64 x2, .int .i64 x3, .int .i64 x4, .int .i64 x5, .int .i64 x6, .int .i64 x7, .bool b, .int .i64 x9, .int .i64 x10, .int .i64 x11] 23)).cell? ⟨w.heap.size, 7, none⟩ = some (.int .i64 x7) ∧ (w.alloc (.cells #[.int .i64 x0, .int .i64 x1, .int .i64 x2, .int .i64 x3, .int .i64 x4, .int .i64 x5, .int .i64 x6, .int .i64 x7, .bool b, .int .i64 x9, .int .i64 x10, .int .i64 x11] 23)).cell? ⟨w.heap.size, 8, none⟩ = some (.bool b) ∧ (w.alloc (.cells #[.int .i64 x0, .int .i64 x1, .int .i64 x2, .int .i64 x3, .int .i64 x4, .int .i64 x5, .int .i64 x6, .int .i64 x7, .bool b, .int .i64 x9, .int .i64 x10, .int .i64 x11] 23)).cell? ⟨w.heap.size, 9, none⟩ = some (.int .i64 x9) ∧ (w.alloc (.cells #[.int .i64 x0, .int .i64 x1, .int .i64 x2, .int .i64 x3, .int .i64 x4, .int .i64 x5, .int .i64 x6, .int .i64 x7, .bool b, .int .i64 x9, .int .i64 x10, .int .i64 x11] 23)).cell? ⟨w.heap.size, 10, none⟩ = some (.int .i64 x10) ∧ (w.alloc (.cells #[.int .i64 x0, .int .i64 x1, .int .i64 x2, .int .i64 x3, .int .i64 x4, .int .i64 x5, .int .i64 x6, .int .i64 x7, .bool b, .int .i64 x9, .int .i64 x10, .int .i64 x11] 23)).cell? ⟨w.heap.size, 11, none⟩ = some (.int .i64 x11) := by simp [go_sem]
  by_cases hbig : 100 < lena
  · clear Q
    go_enter Try.func7, Try.ntmps7
    go_wp2_with (go_at_call 9; refine (shown9_any _).mono ?_; rintro x w1 ⟨rfl, hb1⟩)
    go_ret
    exact ⟨rfl, below_next hB hB.size hb1⟩
  · have hd : decide (100 < (lena : Int)) = false := decide_eq_false (by omega)
    by_cases hbig2 : 100 < lenb
    · clear Q
      go_enter Try.func7, Try.ntmps7
      go_wp2_with (go_at_call 9; refine (shown9_any _).mono ?_; rintro x w1 ⟨rfl, hb1⟩)
      go_ret
      exact ⟨rfl, below_next hB hB.size hb1⟩
    · have hd2 : decide (100 < (lenb : Int)) = false := decide_eq_false (by omega)
      have hma : lena ≤ 100000 := by omega
      have hmb : lenb ≤ 100000 := by omega
      have hja : la.length ≤ 100 := by have := HA.out; omega
      have hjb : lb.length ≤ 100 := by have := HB.out; omega
      have hjn := hide (al_join (n := x0) (m := x1) (b := b) (ck := ckV x0 x1 x2 x3 x4 x5 x6 x7 b x9 x10 x11) hja hjb)
      have hri := hide (al_range (n := x0) (m := x1) (b := b) (ck := ckV x0 x1 x2 x3 x4 x5 x6 x7 b x9 x10 x11) (l := lb) (by omega))
      obtain ⟨⟨ri, re⟩, h1⟩ : ∃ r, alV (ckV x0 x1 x2 x3 x4 x5 x6 x7 b x9 x10 x11) x0 x1 b la = r := ⟨_, rfl⟩
      obtain ⟨⟨rk, rf⟩, h2⟩ : ∃ r, alV (ckV x0 x1 x2 x3 x4 x5 x6 x7 b x9 x10 x11) x0 x1 b lb = r := ⟨_, rfl⟩
      obtain ⟨⟨rn, rg⟩, h3⟩ : ∃ r, alV (ckV x0 x1 x2 x3 x4 x5 x6 x7 b x9 x10 x11) x0 x1 b (la ++ lb) = r := ⟨_, rfl⟩
      rw [h1, h2, h3] at hjn
      rw [h2] at hri
      have K1 := hide (all9_any x0 x1 x2 x3 x4 x5 x6 x7 b x9 x10 x11 A ca la lena HA.out hma)
      rw [h1] at K1
      have K2 := hide (all9_any x0 x1 x2 x3 x4 x5 x6 x7 b x9 x10 x11 D cb lb lenb HB.out hmb)
      rw [h2] at K2
      have K3 := hide (fun A c => all9_any x0 x1 x2 x3 x4 x5 x6 x7 b x9 x10 x11 A c (la ++ lb) (lena + lenb) (by rw [List.length_append, ← HA.out, ← HB.out]) (by omega))
      simp only [h3] at K3
      obtain ⟨sa, ea⟩ : ∃ s, strOfNums (encL la) = s := ⟨_, rfl⟩
      obtain ⟨sb, eb⟩ : ∃ s, strOfNums (encL lb) = s := ⟨_, rfl⟩
      have ej : strOfNums (encL (la ++ lb)) = sa ++ sb := by rw [encL_append, ← str_append, ea, eb]
      have K4 := hide (enc_any A ca la lena HA.out hma)
      rw [ea] at K4
      have K5 := hide (enc_any D cb lb lenb HB.out hmb)
      rw [eb] at K5
      have K6 := hide (fun A c => enc_any A c (la ++ lb) (lena + lenb) (by rw [List.length_append, ← HA.out, ← HB.out]) (by omega))
      simp only [ej] at K6
      have za : sa.size ≤ 1200 := by (rw [← ea, strOfNums_size]; have := encL_length_le la; omega)
      have zb : sb.size ≤ 1200 := by (rw [← eb, strOfNums_size]; have := encL_length_le lb; omega)
      have hadd := fun w => run_string_add_sum (P := Try.prog) w sa sb (by omega)
      clear h1 h2 h3 ea eb ej hja hjb za zb
      have hri0 : 0 ≤ rk := hri.out.1
      have hri1 : rk ≤ 1000000 := hri.out.2
      go_enter Try.func7, Try.ntmps7
      replace hsa := hsa.later hB
      replace hsb := hsb.later hB
      go_wp2_with fail
      refine (shown9_any _).mono ?_
      rintro x w1 ⟨rfl, hb⟩
      replace hsa := hsa.later hb
      replace hsb := hsb.later hb
      replace Q := keep12 Q hb
      replace hB := below_next hB hB.size hb
      clear hb
      have hb0 : Below w1.heap.size w1 (w1.alloc (.cells #[] 38)) := (Below.refl _ _).alloc (Nat.le_refl _) _
      have hown0 : (w1.alloc (.cells #[] 38)).ownsRow w1.heap.size 38 5 (.slice (some ⟨w1.heap.size, 0, none⟩) 0 0) 0 [] := own_empty w1 _ _ _ (Nat.le_refl _)
      have hsa0 := hsa.later hb0
      have hsb0 := hsb.later hb0
      go_upto_region 4 with (first
        | (at_builtin; refine wpList_app _ rfl _ _ 24 rfl w1.heap.size 38 i0 _ 5 40 Try.underlying24 hi0 hz0 hz1 hz2 rfl (by omega) v1 (0 + lena) ([] ++ ec5 la) rfl hown1 _ D lenb cb (ec5 lb) rfl hsb1 (ec5_one _) (by unfold maxLen; omega) (by omega) hb1.size ?_; intro v2 u2 hown2 hg2)
        | (at_builtin; refine wpList_app _ rfl _ _ 24 rfl w1.heap.size 38 i0 _ 5 40 Try.underlying24 hi0 hz0 hz1 hz2 rfl (by omega) _ 0 [] rfl hown0 _ A lena ca (ec5 la) rfl hsa0 (ec5_one _) (by unfold maxLen; omega) (by omega) hb0.size ?_; intro v1 u1 hown1 hg1; have hb1 : Below w1.heap.size w1 u1 := hb0.grown hg1 hb0.size (own_at hown0); have hsb1 := hsb.later hb1))
      have hb : Below w1.heap.size w1 u2 := hb1.grown hg2 hb1.size (own_at hown1)
      obtain ⟨J, cj, rfl, hcj⟩ := own_form hown2
      have hsj := Sees.of_own hown2
      rw [List.nil_append, ← ec5_append, Nat.zero_add] at hsj
      clear hown0 hown1 hown2 hg1 hg2 hb0 hb1 hsa0 hsb0 hsb1 hi0 hz0 hz1 hz2
      replace hsa := hsa.later hb
      replace hsb := hsb.later hb
      replace Q := keep12 Q hb
      replace hB := below_next hB hB.size hb
      clear hb
      have ez : 0 + lena + lenb = lena + lenb := by omega
      rw [ez]
      clear ez
      go_wp2_with fail
      refine (K1.out _ hsa).mono ?_
      rintro x w3 ⟨rfl, hb⟩
      replace hsa := hsa.later hb
      replace hsb := hsb.later hb
      replace hsj := hsj.later hb
      replace Q := keep12 Q hb
      replace hB := below_next hB hB.size hb
      clear hb
      go_wp2_with fail
      refine (K2.out _ hsb).mono ?_
      rintro x w4 ⟨rfl, hb⟩
      replace hsa := hsa.later hb
      replace hsb := hsb.later hb
      replace hsj := hsj.later hb
      replace Q := keep12 Q hb
      replace hB := below_next hB hB.size hb
      clear hb
      go_wp2_with fail
      refine (K3.out J cj _ hsj).mono ?_
      rintro x w5 ⟨rfl, hb⟩
      replace hsa := hsa.later hb
      replace hsb := hsb.later hb
      replace hsj := hsj.later hb
      replace Q := keep12 Q hb
      replace hB := below_next hB hB.size hb
      clear hb
      go_wp2_with fail
      refine (K6.out J cj _ hsj).mono ?_
      rintro x w6 ⟨rfl, hb⟩
      replace hsa := hsa.later hb
      replace hsb := hsb.later hb
      replace hsj := hsj.later hb
      replace Q := keep12 Q hb
      replace hB := below_next hB hB.size hb
      clear hb
      go_wp2_with fail
      refine (K4.out _ hsa).mono ?_
      rintro x w7 ⟨rfl, hb⟩
      replace hsa := hsa.later hb
      replace hsb := hsb.later hb
      replace hsj := hsj.later hb
      replace Q := keep12 Q hb
      replace hB := below_next hB hB.size hb
      clear hb
      go_wp2_with fail
      refine (K5.out _ hsb).mono ?_
      rintro x w8 ⟨rfl, hb⟩
      replace hsa := hsa.later hb
      replace hsb := hsb.later hb
      replace hsj := hsj.later hb
      replace Q := keep12 Q hb
      replace hB := below_next hB hB.size hb
      clear hb
      clear K1 K2 K3 K4 K5 K6 Q hsa hsb hsj hri
      have hj := hjn.out
      clear hjn
      by_cases he : re = 0
      · by_cases hf : rf = 0
        · subst he; subst hf
          have hj2 : rn = 0 ∧ rg = 0 := by simpa using hj
          obtain ⟨rfl, rfl⟩ := hj2
          clear hj
          go_wp2
          go_ret
          exact ⟨rfl, hB⟩
        · subst he
          have hj2 : rn = (lena : Int) + rk ∧ rg = rf := by (rw [HA.out]; simpa [hf] using hj)
          obtain ⟨rfl, rfl⟩ := hj2
          have u1 : (rg == 0) = false := beq_eq_false_iff_ne.2 hf
          have u2 : (rg != 0) = true := bne_iff_ne.2 hf
          clear hj hf
          go_wp2
          go_ret
          exact ⟨rfl, hB⟩
      · have hj2 : rn = ri ∧ rg = re := by simpa [he] using hj
        obtain ⟨rfl, rfl⟩ := hj2
        have u1 : (rg == 0) = false := beq_eq_false_iff_ne.2 he
        have u2 : (rg != 0) = true := bne_iff_ne.2 he
        clear hj he
        go_wp2
        go_ret
        exact ⟨rfl, hB⟩
end Go.Proofs.Ytlmkbfbiohocpaa
