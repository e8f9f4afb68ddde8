/- Contracts of the program's All, and of the document's. -/
import Derived.Test.YtlmkbfbiohocpaaScA
namespace Go.Proofs.Ytlmkbfbiohocpaa
open Go.RowKit

theorem ret_ii {a b c d : Int} (h : c = a) (h' : d = b) : Ending.returned (.tuple #[.int .i64 a, .int .i64 b]) = .returned (.tuple #[.int .i64 c, .int .i64 d]) := by rw [h, h']

set_option maxRecDepth 100000 in
set_option maxHeartbeats 4000000 in
theorem all9_any (x0 x1 x2 x3 x4 x5 x6 x7 : Int) (b : Bool) (x9 x10 x11 : Int) (A : Option Addr) (cap : Nat) (l : List E5) (len : Nat) (hlen : len = l.length) (hmax : len ≤ 100000) (w : World) (hs : Sees w w.heap.size 5 A len (ec5 l)) :
    Calls Try.prog 11 #[.agg #[.int .i64 x0, .int .i64 x1, .int .i64 x2, .int .i64 x3, .int .i64 x4, .int .i64 x5, .int .i64 x6, .int .i64 x7, .bool b, .int .i64 x9, .int .i64 x10, .int .i64 x11], .slice A len cap] w (IEPost (alV (ckV x0 x1 x2 x3 x4 x5 x6 x7 b x9 x10 x11) x0 x1 b l).1 (alV (ckV x0 x1 x2 x3 x4 x5 x6 x7 b x9 x10 x11) x0 x1 b l).2 w) := by
  have HL := hide hlen
  have hB : Below w.heap.size w (w.alloc (.cells #[.int .i64 x0, .int .i64 x1, .int .i64 x2, .int .i64 x3, .int .i64 x4, .int .i64 x5, .int .i64 x6, .int .i64 x7, .bool b, .int .i64 x9, .int .i64 x10, .int .i64 x11] 23)) := (Below.refl _ _).alloc (Nat.le_refl _) _
  have H0 : (w.alloc (.cells #[.int .i64 x0, .int .i64 x1, .int .i64 x2, .int .i64 x3, .int .i64 x4, .int .i64 x5, .int .i64 x6, .int .i64 x7, .bool b, .int .i64 x9, .int .i64 x10, .int .i64 x11] 23)).cell? ⟨w.heap.size, 0, none⟩ = some (.int .i64 x0) ∧ (w.alloc (.cells #[.int .i64 x0, .int .i64 x1, .int .i64 x2, .int .i64 x3, .int .i64 x4, .int .i64 x5, .int .i64 x6, .int .i64 x7, .bool b, .int .i64 x9, .int .i64 x10, .int .i64 x11] 23)).cell? ⟨w.heap.size, 1, none⟩ = some (.int .i64 x1) ∧ (w.alloc (.cells #[.int .i64 x0, .int .i64 x1, .int .i64 x2, .int .i64 x3, .int .i64 x4, .int .i64 x5, .int .i64 x6, .int .i64 x7, .bool b, .int .i64 x9, .int .i64 x10, .int .i64 x11] 23)).cell? ⟨w.heap.size, 2, none⟩ = some (.int .i64 x2) ∧ (w.alloc (.cells #[.int .i64 x0, .int .i64 x1, .int .i64 x2, .int .i64 x3, .int .i64 x4, .int .i64 x5, .int .i64 x6, .int .i64 x7, .bool b, .int .i64 x9, .int .i64 x10, .int .i64 x11] 23)).cell? ⟨w.heap.size, 3, none⟩ = some (.int .i64 x3) ∧ (w.alloc (.cells #[.int .i64 x0, .int .i64 x1, .int .i64 x2, .int .i64 x3, .int .i64 x4, .int .i64 x5, .int .i64 x6, .int .i64 x7, .bool b, .int .i64 x9, .int .i64 x10, .int .i64 x11] 23)).cell? ⟨w.heap.size, 4, none⟩ = some (.int .i64 x4) ∧ (w.alloc (.cells #[.int .i64 x0, .int .i64 x1, .int .i64 x2, .int .i64 x3, .int .i64 x4, .int .i64 x5, .int .i64 x6, .int .i64 x7, .bool b, .int .i64 x9, .int .i64 x10, .int .i64 x11] 23)).cell? ⟨w.heap.size, 5, none⟩ = some (.int .i64 x5) ∧ (w.alloc (.cells #[.int .i64 x0, .int .i64 x1, .int .i64 x2, .int .i64 x3, .int .i64 x4, .int .i64 x5, .int .i64 x6, .int .i64 x7, .bool b, .int .i64 x9, .int .i64 x10, .int .i64 x11] 23)).cell? ⟨w.heap.size, 6, none⟩ = some (.int .i64 x6) ∧ (w.alloc (.cells #[.int .i64 x0, .int .i64 x1, .int .i64 x2, .int .i64 x3, .int .i64 x4, .int .i64 x5, .int .i64 x6, .int .i64 x7, .bool b, .int .i64 x9, .int .i64 x10, .int .i64 x11] 23)).cell? ⟨w.heap.size, 7, none⟩ = some (.int .i64 x7) ∧ (w.alloc (.cells #[.int .i64 x0, .int .i64 x1, .int .i64 x2, .int .i64 x3, .int .i64 x4, .int .i64 x5, .int .i64 x6, .int .i64 x7, .bool b, .int .i64 x9, .int .i64 x10, .int .i64 x11] 23)).cell? ⟨w.heap.size, 8, none⟩ = some (.bool b) ∧ (w.alloc (.cells #[.int .i64 x0, .int .i64 x1, .int .i64 x2, .int .i64 x3, .int .i64 x4, .int .i64 x5, .int .i64 x6, .int .i64 x7, .bool b, .int .i64 x9, .int .i64 x10, .int .i64 x11] 23)).cell? ⟨w.heap.size, 9, none⟩ = some (.int .i64 x9) ∧ (w.alloc (.cells #[.int .i64 x0, .int .i64 x1, .int .i64 x2, .int .i64 x3, .int .i64 x4, .int .i64 x5, .int .i64 x6, .int .i64 x7, .bool b, .int .i64 x9, .int .i64 x10, .int .i64 x11] 23)).cell? ⟨w.heap.size, 10, none⟩ = some (.int .i64 x10) ∧ (w.alloc (.cells #[.int .i64 x0, .int .i64 x1, .int .i64 x2, .int .i64 x3, .int .i64 x4, .int .i64 x5, .int .i64 x6, .int .i64 x7, .bool b, .int .i64 x9, .int .i64 x10, .int .i64 x11] 23)).cell? ⟨w.heap.size, 11, none⟩ = some (.int .i64 x11) := by simp [go_sem]
  have K := hide (check_any x0 x1 x2 x3 x4 x5 x6 x7 b x9 x10 x11)
  have K9 := hide (check9_any x0 x1 x2 x3 x4 x5 x6 x7 b x9 x10 x11)
  obtain ⟨ck, hck⟩ : ∃ n, ckV x0 x1 x2 x3 x4 x5 x6 x7 b x9 x10 x11 = n := ⟨_, rfl⟩
  rw [hck] at K ⊢
  clear hck
  obtain ⟨r, hr⟩ : ∃ r, alV ck x0 x1 b l = r := ⟨_, rfl⟩
  rw [hr]
  by_cases h0 : ck = 0
  · subst h0
    by_cases hbig : 65536 < len
    · have HR : Hid (r = (0, 2)) := by
        rw [← hr]
        unfold alV
        rw [if_neg (by decide), if_pos (by omega)]
        exact rfl
      clear hr hlen
      go_enter Try.func11, Try.ntmps11
      go_wp2_with fail
      refine (K.out _).mono ?_
      rintro x w1 ⟨rfl, hv⟩
      replace hB := below_next hB hB.size hv
      go_wp2
      go_ret2
      exact ⟨ret_ii (by rw [HR.out]) (by rw [HR.out]), hB⟩
    · have HR : Hid (r = fsV x0 x1 b l 0) := by
        rw [← hr]
        exact al_ok rfl (by omega)
      clear hr hlen
      go_enter Try.func11, Try.ntmps11
      go_wp2_with fail
      refine (K.out _).mono ?_
      rintro x w1 ⟨rfl, hv⟩
      replace H0 := keep12 H0 hv
      have z1 : w.heap.size < w1.heap.size := by have := hv.size; simp at this; omega
      replace hB := below_next hB hB.size hv
      clear hv K
      go_wp2
      go_loopw [20] (fun q wr => ∃ j : Nat, j ≤ len ∧ q = .int .i64 j ∧ fsV x0 x1 b l 0 = fsV x0 x1 b (l.drop j) j ∧ Below w1.heap.size w1 wr) (fun q _ => len - (intOf q).toNat)
      case atStart => exact ⟨0, Nat.zero_le _, rfl, by rw [List.drop_zero], Below.refl _ _⟩
      case round =>
        obtain ⟨j, hj, rfl, hfs, hR⟩ := hrel
        have H1 := keep12 H0 hR
        have zr := hR.size
        have zz : w.heap.size < wr.heap.size := by omega
        by_cases hlt : j < len
        · have hs' := (hs.below hB).below (hR.mono (by omega))
          rw [HL.out] at hs'
          obtain ⟨b', off, k, t, i, g, v, rfl, hb, he, c0, c1, c2, c3, c4⟩ := hs'.ent5 (k := j) (by have := HL.out; omega)
          have K8 := hide (K9.out k t i g v)
          have HE := hide he
          have HF := hide hfs
          clear hs' he hfs
          obtain ⟨u, hu⟩ : ∃ u, chV x0 x1 b (k, t, i, g, v) = u := ⟨_, rfl⟩
          rw [hu] at K8
          have HU := hide hu
          clear hu
          by_cases hu0 : u = 0
          · subst hu0
            have hn := HF.out.trans (fs_good HE.out HU.out)
            have HN := hide hn
            clear hn
            go_wp2_with fail
            refine (K8.out _).mono ?_
            rintro x w2 ⟨rfl, hv⟩
            replace hR := below_next (hR.alloc zr _) (by simp; omega) hv
            go_wp2
            go_roundw
            case rel => exact ⟨j + 1, by omega, by go_num, HN.out, hR⟩
            case measure => simp [intOf]; omega
          · have hn := HF.out.trans (fs_bad HE.out (by rw [HU.out]; exact hu0))
            have HN : Hid (r = ((j : Int), u)) := by rw [HR.out, hn, HU.out]; exact rfl
            have u1 : (u == 0) = false := beq_eq_false_iff_ne.2 hu0
            have u2 : (u != 0) = true := bne_iff_ne.2 hu0
            clear hn hu0
            go_wp2_with fail
            refine (K8.out _).mono ?_
            rintro x w2 ⟨rfl, hv⟩
            replace hR := below_next (hR.alloc zr _) (by simp; omega) hv
            go_wp2
            go_ret2
            exact ⟨ret_ii (by rw [HN.out]) (by rw [HN.out]), hB.trans (hR.mono (by omega))⟩
        · obtain rfl : j = len := by omega
          have HN : Hid (r = (0, 0)) := by rw [HR.out, hfs, HL.out]; exact fs_end
          clear hfs
          go_wp2
          go_ret2
          exact ⟨ret_ii (by rw [HN.out]) (by rw [HN.out]), hB.trans (hR.mono (by omega))⟩
  · have HR : Hid (r = (0, ck)) := by rw [← hr]; exact al_no h0
    have u1 : (ck == 0) = false := beq_eq_false_iff_ne.2 h0
    have u2 : (ck != 0) = true := bne_iff_ne.2 h0
    clear hr hlen h0
    go_enter Try.func11, Try.ntmps11
    go_wp2_with fail
    refine (K.out _).mono ?_
    rintro x w1 ⟨rfl, hv⟩
    replace hB := below_next hB hB.size hv
    go_wp2
    go_ret2
    exact ⟨ret_ii (by rw [HR.out]) (by rw [HR.out]), hB⟩

set_option maxRecDepth 100000 in
set_option maxHeartbeats 4000000 in
theorem rall9_any (x0 x1 x2 x3 x4 x5 x6 x7 : Int) (b : Bool) (x9 x10 x11 : Int) (A : Option Addr) (cap : Nat) (l : List E5) (len : Nat) (hlen : len = l.length) (hmax : len ≤ 100000) (w : World) (hs : Sees w w.heap.size 5 A len (ec5 l)) :
    Calls Try.prog 12 #[.agg #[.int .i64 x0, .int .i64 x1, .int .i64 x2, .int .i64 x3, .int .i64 x4, .int .i64 x5, .int .i64 x6, .int .i64 x7, .bool b, .int .i64 x9, .int .i64 x10, .int .i64 x11], .slice A len cap] w (IEPost (alV (ckV x0 x1 x2 x3 x4 x5 x6 x7 b x9 x10 x11) x0 x1 b l).1 (alV (ckV x0 x1 x2 x3 x4 x5 x6 x7 b x9 x10 x11) x0 x1 b l).2 w) := by
  have HL := hide hlen
  have hB : Below w.heap.size w (w.alloc (.cells #[.int .i64 x0, .int .i64 x1, .int .i64 x2, .int .i64 x3, .int .i64 x4, .int .i64 x5, .int .i64 x6, .int .i64 x7, .bool b, .int .i64 x9, .int .i64 x10, .int .i64 x11] 26)) := (Below.refl _ _).alloc (Nat.le_refl _) _
  have H0 : (w.alloc (.cells #[.int .i64 x0, .int .i64 x1, .int .i64 x2, .int .i64 x3, .int .i64 x4, .int .i64 x5, .int .i64 x6, .int .i64 x7, .bool b, .int .i64 x9, .int .i64 x10, .int .i64 x11] 26)).cell? ⟨w.heap.size, 0, none⟩ = some (.int .i64 x0) ∧ (w.alloc (.cells #[.int .i64 x0, .int .i64 x1, .int .i64 x2, .int .i64 x3, .int .i64 x4, .int .i64 x5, .int .i64 x6, .int .i64 x7, .bool b, .int .i64 x9, .int .i64 x10, .int .i64 x11] 26)).cell? ⟨w.heap.size, 1, none⟩ = some (.int .i64 x1) ∧ (w.alloc (.cells #[.int .i64 x0, .int .i64 x1, .int .i64 x2, .int .i64 x3, .int .i64 x4, .int .i64 x5, .int .i64 x6, .int .i64 x7, .bool b, .int .i64 x9, .int .i64 x10, .int .i64 x11] 26)).cell? ⟨w.heap.size, 2, none⟩ = some (.int .i64 x2) ∧ (w.alloc (.cells #[.int .i64 x0, .int .i64 x1, .int .i64 x2, .int .i64 x3, .int .i64 x4, .int .i64 x5, .int .i64 x6, .int .i64 x7, .bool b, .int .i64 x9, .int .i64 x10, .int .i64 x11] 26)).cell? ⟨w.heap.size, 3, none⟩ = some (.int .i64 x3) ∧ (w.alloc (.cells #[.int .i64 x0, .int .i64 x1, .int .i64 x2, .int .i64 x3, .int .i64 x4, .int .i64 x5, .int .i64 x6, .int .i64 x7, .bool b, .int .i64 x9, .int .i64 x10, .int .i64 x11] 26)).cell? ⟨w.heap.size, 4, none⟩ = some (.int .i64 x4) ∧ (w.alloc (.cells #[.int .i64 x0, .int .i64 x1, .int .i64 x2, .int .i64 x3, .int .i64 x4, .int .i64 x5, .int .i64 x6, .int .i64 x7, .bool b, .int .i64 x9, .int .i64 x10, .int .i64 x11] 26)).cell? ⟨w.heap.size, 5, none⟩ = some (.int .i64 x5) ∧ (w.alloc (.cells #[.int .i64 x0, .int .i64 x1, .int .i64 x2, .int .i64 x3, .int .i64 x4, .int .i64 x5, .int .i64 x6, .int .i64 x7, .bool b, .int .i64 x9, .int .i64 x10, .int .i64 x11] 26)).cell? ⟨w.heap.size, 6, none⟩ = some (.int .i64 x6) ∧ (w.alloc (.cells #[.int .i64 x0, .int .i64 x1, .int .i64 x2, .int .i64 x3, .int .i64 x4, .int .i64 x5, .int .i64 x6, .int .i64 x7, .bool b, .int .i64 x9, .int .i64 x10, .int .i64 x11] 26)).cell? ⟨w.heap.size, 7, none⟩ = some (.int .i64 x7) ∧ (w.alloc (.cells #[.int .i64 x0, .int .i64 x1, .int .i64 x2, .int .i64 x3, .int .i64 x4, .int .i64 x5, .int .i64 x6, .int .i64 x7, .bool b, .int .i64 x9, .int .i64 x10, .int .i64 x11] 26)).cell? ⟨w.heap.size, 8, none⟩ = some (.bool b) ∧ (w.alloc (.cells #[.int .i64 x0, .int .i64 x1, .int .i64 x2, .int .i64 x3, .int .i64 x4, .int .i64 x5, .int .i64 x6, .int .i64 x7, .bool b, .int .i64 x9, .int .i64 x10, .int .i64 x11] 26)).cell? ⟨w.heap.size, 9, none⟩ = some (.int .i64 x9) ∧ (w.alloc (.cells #[.int .i64 x0, .int .i64 x1, .int .i64 x2, .int .i64 x3, .int .i64 x4, .int .i64 x5, .int .i64 x6, .int .i64 x7, .bool b, .int .i64 x9, .int .i64 x10, .int .i64 x11] 26)).cell? ⟨w.heap.size, 10, none⟩ = some (.int .i64 x10) ∧ (w.alloc (.cells #[.int .i64 x0, .int .i64 x1, .int .i64 x2, .int .i64 x3, .int .i64 x4, .int .i64 x5, .int .i64 x6, .int .i64 x7, .bool b, .int .i64 x9, .int .i64 x10, .int .i64 x11] 26)).cell? ⟨w.heap.size, 11, none⟩ = some (.int .i64 x11) := by simp [go_sem]
  have K := hide (rcheck_any x0 x1 x2 x3 x4 x5 x6 x7 b x9 x10 x11)
  have K9 := hide (rcheck9_any x0 x1 x2 x3 x4 x5 x6 x7 b x9 x10 x11)
  obtain ⟨ck, hck⟩ : ∃ n, ckV x0 x1 x2 x3 x4 x5 x6 x7 b x9 x10 x11 = n := ⟨_, rfl⟩
  rw [hck] at K ⊢
  clear hck
  obtain ⟨r, hr⟩ : ∃ r, alV ck x0 x1 b l = r := ⟨_, rfl⟩
  rw [hr]
  by_cases h0 : ck = 0
  · subst h0
    by_cases hbig : 65536 < len
    · have HR : Hid (r = (0, 2)) := by
        rw [← hr]
        unfold alV
        rw [if_neg (by decide), if_pos (by omega)]
        exact rfl
      clear hr hlen
      go_enter Try.func12, Try.ntmps12
      go_wp2_with fail
      refine (K.out _).mono ?_
      rintro x w1 ⟨rfl, hv⟩
      replace hB := below_next hB hB.size hv
      go_wp2
      go_ret2
      exact ⟨ret_ii (by rw [HR.out]) (by rw [HR.out]), hB⟩
    · have HR : Hid (r = fsV x0 x1 b l 0) := by
        rw [← hr]
        exact al_ok rfl (by omega)
      clear hr hlen
      go_enter Try.func12, Try.ntmps12
      go_wp2_with fail
      refine (K.out _).mono ?_
      rintro x w1 ⟨rfl, hv⟩
      replace H0 := keep12 H0 hv
      have z1 : w.heap.size < w1.heap.size := by have := hv.size; simp at this; omega
      replace hB := below_next hB hB.size hv
      clear hv K
      go_wp2
      go_loopw [7] (fun q wr => ∃ j : Nat, j ≤ len ∧ q = .int .i64 j ∧ fsV x0 x1 b l 0 = fsV x0 x1 b (l.drop j) j ∧ Below w1.heap.size w1 wr) (fun q _ => len - (intOf q).toNat)
      case atStart => exact ⟨0, Nat.zero_le _, rfl, by rw [List.drop_zero], Below.refl _ _⟩
      case round =>
        obtain ⟨j, hj, rfl, hfs, hR⟩ := hrel
        have H1 := keep12 H0 hR
        have zr := hR.size
        have zz : w.heap.size < wr.heap.size := by omega
        by_cases hlt : j < len
        · have hs' := (hs.below hB).below (hR.mono (by omega))
          rw [HL.out] at hs'
          obtain ⟨b', off, k, t, i, g, v, rfl, hb, he, c0, c1, c2, c3, c4⟩ := hs'.ent5 (k := j) (by have := HL.out; omega)
          have K8 := hide (K9.out k t i g v)
          have HE := hide he
          have HF := hide hfs
          clear hs' he hfs
          obtain ⟨u, hu⟩ : ∃ u, chV x0 x1 b (k, t, i, g, v) = u := ⟨_, rfl⟩
          rw [hu] at K8
          have HU := hide hu
          clear hu
          by_cases hu0 : u = 0
          · subst hu0
            have hn := HF.out.trans (fs_good HE.out HU.out)
            have HN := hide hn
            clear hn
            go_wp2_with fail
            have Q : (wr.drew.cell? ⟨w.heap.size, 0, none⟩ = some (.int .i64 x0) ∧ wr.drew.cell? ⟨w.heap.size, 1, none⟩ = some (.int .i64 x1) ∧ wr.drew.cell? ⟨w.heap.size, 2, none⟩ = some (.int .i64 x2) ∧ wr.drew.cell? ⟨w.heap.size, 3, none⟩ = some (.int .i64 x3) ∧ wr.drew.cell? ⟨w.heap.size, 4, none⟩ = some (.int .i64 x4) ∧ wr.drew.cell? ⟨w.heap.size, 5, none⟩ = some (.int .i64 x5) ∧ wr.drew.cell? ⟨w.heap.size, 6, none⟩ = some (.int .i64 x6) ∧ wr.drew.cell? ⟨w.heap.size, 7, none⟩ = some (.int .i64 x7) ∧ wr.drew.cell? ⟨w.heap.size, 8, none⟩ = some (.bool b) ∧ wr.drew.cell? ⟨w.heap.size, 9, none⟩ = some (.int .i64 x9) ∧ wr.drew.cell? ⟨w.heap.size, 10, none⟩ = some (.int .i64 x10) ∧ wr.drew.cell? ⟨w.heap.size, 11, none⟩ = some (.int .i64 x11)) ∧ wr.drew.cell? ⟨b', off + j * 5, none⟩ = some (.int .i64 k) ∧ wr.drew.cell? ⟨b', off + j * 5 + 1, none⟩ = some (.int .i64 t) ∧ wr.drew.cell? ⟨b', off + j * 5 + 2, none⟩ = some (.int .i64 i) ∧ wr.drew.cell? ⟨b', off + j * 5 + 3, none⟩ = some (.int .i64 g) ∧ wr.drew.cell? ⟨b', off + j * 5 + 4, none⟩ = some (.int .i64 v) := ⟨H1, c0, c1, c2, c3, c4⟩
            clear H1 c0 c1 c2 c3 c4
            replace hR := hR.drew
            go_region_held3 (fun w' => (w'.cell? ⟨w.heap.size, 0, none⟩ = some (.int .i64 x0) ∧ w'.cell? ⟨w.heap.size, 1, none⟩ = some (.int .i64 x1) ∧ w'.cell? ⟨w.heap.size, 2, none⟩ = some (.int .i64 x2) ∧ w'.cell? ⟨w.heap.size, 3, none⟩ = some (.int .i64 x3) ∧ w'.cell? ⟨w.heap.size, 4, none⟩ = some (.int .i64 x4) ∧ w'.cell? ⟨w.heap.size, 5, none⟩ = some (.int .i64 x5) ∧ w'.cell? ⟨w.heap.size, 6, none⟩ = some (.int .i64 x6) ∧ w'.cell? ⟨w.heap.size, 7, none⟩ = some (.int .i64 x7) ∧ w'.cell? ⟨w.heap.size, 8, none⟩ = some (.bool b) ∧ w'.cell? ⟨w.heap.size, 9, none⟩ = some (.int .i64 x9) ∧ w'.cell? ⟨w.heap.size, 10, none⟩ = some (.int .i64 x10) ∧ w'.cell? ⟨w.heap.size, 11, none⟩ = some (.int .i64 x11)) ∧ w'.cell? ⟨b', off + j * 5, none⟩ = some (.int .i64 k) ∧ w'.cell? ⟨b', off + j * 5 + 1, none⟩ = some (.int .i64 t) ∧ w'.cell? ⟨b', off + j * 5 + 2, none⟩ = some (.int .i64 i) ∧ w'.cell? ⟨b', off + j * 5 + 3, none⟩ = some (.int .i64 g) ∧ w'.cell? ⟨b', off + j * 5 + 4, none⟩ = some (.int .i64 v))
              (exact Q)
              (first | (go_at_call 15; refine (K8.out _).mono ?_; rintro x w2 ⟨rfl, hv⟩; replace hR := below_next hR hR.size hv; replace Q := And.intro (keep12 Q.1 hv) (And.intro (cell_keep Q.2.1 hv) (And.intro (cell_keep Q.2.2.1 hv) (And.intro (cell_keep Q.2.2.2.1 hv) (And.intro (cell_keep Q.2.2.2.2.1 hv) (cell_keep Q.2.2.2.2.2 hv)))))))
            go_wp2
            go_roundw
            case rel => exact ⟨j + 1, by omega, by go_num, HN.out, hR⟩
            case measure => simp [intOf]; omega
          · have hn := HF.out.trans (fs_bad HE.out (by rw [HU.out]; exact hu0))
            have HN : Hid (r = ((j : Int), u)) := by rw [HR.out, hn, HU.out]; exact rfl
            have u1 : (u == 0) = false := beq_eq_false_iff_ne.2 hu0
            have u2 : (u != 0) = true := bne_iff_ne.2 hu0
            clear hn hu0
            go_wp2_with fail
            have Q : (wr.drew.cell? ⟨w.heap.size, 0, none⟩ = some (.int .i64 x0) ∧ wr.drew.cell? ⟨w.heap.size, 1, none⟩ = some (.int .i64 x1) ∧ wr.drew.cell? ⟨w.heap.size, 2, none⟩ = some (.int .i64 x2) ∧ wr.drew.cell? ⟨w.heap.size, 3, none⟩ = some (.int .i64 x3) ∧ wr.drew.cell? ⟨w.heap.size, 4, none⟩ = some (.int .i64 x4) ∧ wr.drew.cell? ⟨w.heap.size, 5, none⟩ = some (.int .i64 x5) ∧ wr.drew.cell? ⟨w.heap.size, 6, none⟩ = some (.int .i64 x6) ∧ wr.drew.cell? ⟨w.heap.size, 7, none⟩ = some (.int .i64 x7) ∧ wr.drew.cell? ⟨w.heap.size, 8, none⟩ = some (.bool b) ∧ wr.drew.cell? ⟨w.heap.size, 9, none⟩ = some (.int .i64 x9) ∧ wr.drew.cell? ⟨w.heap.size, 10, none⟩ = some (.int .i64 x10) ∧ wr.drew.cell? ⟨w.heap.size, 11, none⟩ = some (.int .i64 x11)) ∧ wr.drew.cell? ⟨b', off + j * 5, none⟩ = some (.int .i64 k) ∧ wr.drew.cell? ⟨b', off + j * 5 + 1, none⟩ = some (.int .i64 t) ∧ wr.drew.cell? ⟨b', off + j * 5 + 2, none⟩ = some (.int .i64 i) ∧ wr.drew.cell? ⟨b', off + j * 5 + 3, none⟩ = some (.int .i64 g) ∧ wr.drew.cell? ⟨b', off + j * 5 + 4, none⟩ = some (.int .i64 v) := ⟨H1, c0, c1, c2, c3, c4⟩
            clear H1 c0 c1 c2 c3 c4
            replace hR := hR.drew
            go_region_held3 (fun w' => (w'.cell? ⟨w.heap.size, 0, none⟩ = some (.int .i64 x0) ∧ w'.cell? ⟨w.heap.size, 1, none⟩ = some (.int .i64 x1) ∧ w'.cell? ⟨w.heap.size, 2, none⟩ = some (.int .i64 x2) ∧ w'.cell? ⟨w.heap.size, 3, none⟩ = some (.int .i64 x3) ∧ w'.cell? ⟨w.heap.size, 4, none⟩ = some (.int .i64 x4) ∧ w'.cell? ⟨w.heap.size, 5, none⟩ = some (.int .i64 x5) ∧ w'.cell? ⟨w.heap.size, 6, none⟩ = some (.int .i64 x6) ∧ w'.cell? ⟨w.heap.size, 7, none⟩ = some (.int .i64 x7) ∧ w'.cell? ⟨w.heap.size, 8, none⟩ = some (.bool b) ∧ w'.cell? ⟨w.heap.size, 9, none⟩ = some (.int .i64 x9) ∧ w'.cell? ⟨w.heap.size, 10, none⟩ = some (.int .i64 x10) ∧ w'.cell? ⟨w.heap.size, 11, none⟩ = some (.int .i64 x11)) ∧ w'.cell? ⟨b', off + j * 5, none⟩ = some (.int .i64 k) ∧ w'.cell? ⟨b', off + j * 5 + 1, none⟩ = some (.int .i64 t) ∧ w'.cell? ⟨b', off + j * 5 + 2, none⟩ = some (.int .i64 i) ∧ w'.cell? ⟨b', off + j * 5 + 3, none⟩ = some (.int .i64 g) ∧ w'.cell? ⟨b', off + j * 5 + 4, none⟩ = some (.int .i64 v))
              (exact Q)
              (first | (go_at_call 15; refine (K8.out _).mono ?_; rintro x w2 ⟨rfl, hv⟩; replace hR := below_next hR hR.size hv; replace Q := And.intro (keep12 Q.1 hv) (And.intro (cell_keep Q.2.1 hv) (And.intro (cell_keep Q.2.2.1 hv) (And.intro (cell_keep Q.2.2.2.1 hv) (And.intro (cell_keep Q.2.2.2.2.1 hv) (cell_keep Q.2.2.2.2.2 hv)))))))
            go_wp2
            go_ret2
            exact ⟨ret_ii (by rw [HN.out]) (by rw [HN.out]), hB.trans (hR.mono (by omega))⟩
        · obtain rfl : j = len := by omega
          have HN : Hid (r = (0, 0)) := by rw [HR.out, hfs, HL.out]; exact fs_end
          clear hfs
          go_wp2
          go_ret2
          exact ⟨ret_ii (by rw [HN.out]) (by rw [HN.out]), hB.trans (hR.mono (by omega))⟩
  · have HR : Hid (r = (0, ck)) := by rw [← hr]; exact al_no h0
    have u1 : (ck == 0) = false := beq_eq_false_iff_ne.2 h0
    have u2 : (ck != 0) = true := bne_iff_ne.2 h0
    clear hr hlen h0
    go_enter Try.func12, Try.ntmps12
    go_wp2_with fail
    refine (K.out _).mono ?_
    rintro x w1 ⟨rfl, hv⟩
    replace hB := below_next hB hB.size hv
    go_wp2
    go_ret2
    exact ⟨ret_ii (by rw [HR.out]) (by rw [HR.out]), hB⟩

end Go.Proofs.Ytlmkbfbiohocpaa
