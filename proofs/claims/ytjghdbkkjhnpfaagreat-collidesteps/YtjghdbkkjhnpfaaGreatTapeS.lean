/- Contracts of the document's own Below and Skip, and of its Same. -/
import Derived.Test.YtjghdbkkjhnpfaaGreatTapeR
namespace Go.Proofs.YtjghdbkkjhnpfaaGreat
open Go.RowKit Go.Conc

set_option maxRecDepth 100000 in
set_option maxHeartbeats 2000000 in
theorem rbelow_any (A : Option Addr) (c : Nat) (l : List Int) (a n : Int) (w : World) (hl : l.length ≤ 20000) (hs : Sees w w.heap.size 1 A l.length (l.map (Value.int .i64))) (hn : I64 n) :
    Calls Tryz.prog 54 #[.agg #[.slice A l.length c, .int .i64 a], .int .i64 n] w (RDPost (blD l a n) A l.length c (blA l a n) w) := by
  have hb : Below w.heap.size w ((w.alloc (.cells #[.slice A l.length c, .int .i64 a] 52)).alloc (.cells #[.slice none 0 0, .int .i64 0] 52)) := ((Below.refl _ w).alloc (Nat.le_refl _) _).alloc (by simp) _
  obtain ⟨u, hu⟩ : ∃ u, (w.alloc (.cells #[.slice A l.length c, .int .i64 a] 52)).alloc (.cells #[.slice none 0 0, .int .i64 0] 52) = u := ⟨_, rfl⟩
  have q0 : u.cell? ⟨w.heap.size, 0, none⟩ = some (.slice A l.length c) := by rw [← hu]; simp [go_sem]
  have q1 : u.cell? ⟨w.heap.size, 1, none⟩ = some (.int .i64 a) := by rw [← hu]; simp [go_sem]
  have q2 : u.cell? ⟨w.heap.size + 1, 0, none⟩ = some (.slice none 0 0) := by rw [← hu]; simp [go_sem]
  have q3 : u.cell? ⟨w.heap.size + 1, 1, none⟩ = some (.int .i64 0) := by rw [← hu]; simp [go_sem]
  have f0 : u.frozen? ⟨w.heap.size, 0, none⟩ = false := by rw [← hu]; simp [go_sem]
  have f1 : u.frozen? ⟨w.heap.size, 1, none⟩ = false := by rw [← hu]; simp [go_sem]
  have f2 : u.frozen? ⟨w.heap.size + 1, 0, none⟩ = false := by rw [← hu]; simp [go_sem]
  have f3 : u.frozen? ⟨w.heap.size + 1, 1, none⟩ = false := by rw [← hu]; simp [go_sem]
  have zu : u.heap.size = w.heap.size + 1 + 1 := by rw [← hu]; simp
  rw [hu] at hb
  have su := hs.later hb
  have HU := hide hu
  have HZ := hide zu
  have HS := hide su
  have HL := hide hl
  have HB := hide hb
  have HN := hide hn
  by_cases h1 : n < 1
  · rw [show blD l a n = 0 by rw [blD, if_pos h1], show blA l a n = a by rw [blA, if_pos h1]]
    clear hs hl hb hu su zu hn
    go_enter Tryz.func54, Tryz.ntmps54
    go_upto_region 2 with fail
    rw [HU.out]
    go_region
    all_goals go_wp2
    all_goals (try simp only [Exit.inBlock, Exit.then])
    all_goals refine bodyPost_ret (v := .tuple #[.int .i64 0, .agg #[.slice A l.length c, .int .i64 a]]) (by simp [results, Tryz.results54, go_sem, q2, q3]) rfl ?_
    all_goals exact ⟨rfl, ((HB.out.setCell (by simp) _).setCell (by simp) _).drew⟩
  · have h2 : 1 ≤ n := by omega
    have KN := hide (rnext_any A c l a u hl su)
    rw [show blD l a n = nxD l a % n by rw [blD, if_neg h1], show blA l a n = nxA l a by rw [blA, if_neg h1]]
    obtain ⟨d, hd⟩ : ∃ d, nxD l a = d := ⟨_, rfl⟩
    obtain ⟨e, he⟩ : ∃ e, nxA l a = e := ⟨_, rfl⟩
    rw [hd, he] at KN
    rw [hd, he]
    obtain ⟨t, ht⟩ : ∃ t, Int.tmod d n = t := ⟨_, rfl⟩
    have hr := rem_cases d n h2
    rw [ht] at hr
    have hn0 : n ≠ 0 := by omega
    have hnb : (n == 0) = false := by simpa using hn0
    clear hs hl hb hu su zu hd he h1 hn
    go_enter Tryz.func54, Tryz.ntmps54
    go_wp2_with fail
    rw [HU.out]
    refine KN.out.mono ?_
    rintro x w3 ⟨rfl, hb3⟩
    have g0 := cell_keep q2 hb3
    have g1 := cell_keep q3 hb3
    have g2 := frozen_keep hb3 (by rw [HZ.out]; omega) f2
    have g3 := frozen_keep hb3 (by rw [HZ.out]; omega) f3
    have HR := hide hr
    clear KN hr
    have hb4 : Below w3.heap.size w3 (w3.alloc (.cells #[.slice A l.length c, .int .i64 e] 52)) := (Below.refl _ _).alloc (Nat.le_refl _) _
    obtain ⟨w4, hw4⟩ : ∃ w4, w3.alloc (.cells #[.slice A l.length c, .int .i64 e] 52) = w4 := ⟨_, rfl⟩
    have i0 : w4.cell? ⟨w3.heap.size, 0, none⟩ = some (.slice A l.length c) := by rw [← hw4]; simp [go_sem]
    have i1 : w4.cell? ⟨w3.heap.size, 1, none⟩ = some (.int .i64 e) := by rw [← hw4]; simp [go_sem]
    rw [hw4] at hb4
    have j0 := cell_keep g0 hb4
    have j1 := cell_keep g1 hb4
    have j2 := frozen_keep hb4 (World.block_lt_of_cell? w3 _ g0) g2
    have j3 := frozen_keep hb4 (World.block_lt_of_cell? w3 _ g0) g3
    have HW4 := hide hw4
    have sz4 : u.heap.size ≤ w3.heap.size := hb3.size
    have hne : w.heap.size + 1 ≠ w3.heap.size := by have := HZ.out; omega
    have HB4 := hide (below_next (below_next HB.out (by rw [HZ.out]; omega) hb3) (by have := HZ.out; omega) hb4)
    clear hw4 hb4 hb3 g0 g1 g2 g3 q0 q1 q2 q3 f0 f1 f2 f3 sz4
    go_wp2_with fail
    · obtain ed : d % n = t + n := by have := HR.out; omega
      have hw : wrap64 (t + n) = t + n := wrap64_id (by have h1 := HR.out; have h2 := HN.out; unfold I64 at h2 ⊢; omega)
      rw [HW4.out, hw]
      obtain ⟨r, hr⟩ : ∃ r, t + n = r := ⟨_, rfl⟩
      rw [hr] at ed ⊢
      have ED := hide ed
      clear ed HR ht hw hr
      go_region
      all_goals go_wp2
      all_goals (try simp only [Exit.inBlock, Exit.then])
      all_goals refine bodyPost_ret (v := .tuple #[.int .i64 r, .agg #[.slice A l.length c, .int .i64 e]]) (by simp [results, Tryz.results54, go_sem, j0, j1]) rfl ?_
      all_goals rw [ED.out]
      all_goals exact ⟨rfl, ((HB4.out.setCell (by simp) _).setCell (by simp) _).drew⟩
    · obtain ed : d % n = t := by have := HR.out; omega
      rw [HW4.out]
      have ED := hide ed
      clear ed HR ht
      go_region
      all_goals go_wp2
      all_goals (try simp only [Exit.inBlock, Exit.then])
      all_goals refine bodyPost_ret (v := .tuple #[.int .i64 t, .agg #[.slice A l.length c, .int .i64 e]]) (by simp [results, Tryz.results54, go_sem, j0, j1]) rfl ?_
      all_goals rw [ED.out]
      all_goals exact ⟨rfl, ((HB4.out.setCell (by simp) _).setCell (by simp) _).drew⟩

theorem restT_drop (l : List Int) (a : Int) (j : Nat) (h : 0 < (restT l a).length) : restT l (a + (j : Int)) = (restT l a).drop j := by
  obtain ⟨k, v, rfl, _, _, _⟩ := restT_get h
  unfold restT
  rw [if_neg (by omega), if_neg (by omega), List.drop_drop]
  congr 1
theorem skA_here {l : List Int} {a n : Int} {j : Nat} (h : j = min n.toNat (restT l a).length) : skA l a n = a + (j : Int) := by rw [skA, h]
theorem nxA_on {l : List Int} {a : Int} {j : Nat} (h : j < (restT l a).length) : nxA l (a + (j : Int)) = a + ((j + 1 : Nat) : Int) := by
  unfold nxA
  rw [restT_drop l a j (by omega), if_pos (by rw [List.length_drop]; omega)]
  omega
theorem left_on {l : List Int} {a : Int} {j : Nat} (h : j ≤ (restT l a).length) : ((restT l (a + (j : Int))).length : Int) = ((restT l a).length : Int) - j := by
  by_cases h0 : 0 < (restT l a).length
  · rw [restT_drop l a j h0, List.length_drop]; omega
  · obtain rfl : j = 0 := by omega
    simp

theorem take_eq {l l2 : List Int} (h : l.take l.length = l2.take l.length) (hl : l.length = l2.length) : l = l2 := by
  rw [List.take_length, hl, List.take_length] at h
  exact h

set_option maxRecDepth 100000 in
set_option maxHeartbeats 2000000 in
theorem sameT_any (A A2 : Option Addr) (c c2 : Nat) (l l2 : List Int) (a a2 : Int) (w : World) (hl : l.length ≤ 20000) (hs : Sees w w.heap.size 1 A l.length (l.map (Value.int .i64))) (hs2 : Sees w w.heap.size 1 A2 l2.length (l2.map (Value.int .i64))) :
    Calls Tryz.prog 31 #[.agg #[.slice A l.length c, .int .i64 a], .agg #[.slice A2 l2.length c2, .int .i64 a2]] w (BoolPost (decide (a = a2 ∧ l = l2)) w) := by
  have hb : Below w.heap.size w ((w.alloc (.cells #[.slice A l.length c, .int .i64 a] 52)).alloc (.cells #[.slice A2 l2.length c2, .int .i64 a2] 52)) := ((Below.refl _ w).alloc (Nat.le_refl _) _).alloc (by simp) _
  obtain ⟨u, hu⟩ : ∃ u, (w.alloc (.cells #[.slice A l.length c, .int .i64 a] 52)).alloc (.cells #[.slice A2 l2.length c2, .int .i64 a2] 52) = u := ⟨_, rfl⟩
  have q0 : u.cell? ⟨w.heap.size, 0, none⟩ = some (.slice A l.length c) := by rw [← hu]; simp [go_sem]
  have q1 : u.cell? ⟨w.heap.size, 1, none⟩ = some (.int .i64 a) := by rw [← hu]; simp [go_sem]
  have q2 : u.cell? ⟨w.heap.size + 1, 0, none⟩ = some (.slice A2 l2.length c2) := by rw [← hu]; simp [go_sem]
  have q3 : u.cell? ⟨w.heap.size + 1, 1, none⟩ = some (.int .i64 a2) := by rw [← hu]; simp [go_sem]
  rw [hu] at hb
  have su := hs.later hb
  have su2 := hs2.later hb
  have HU := hide hu
  have HS := hide su
  have HS2 := hide su2
  have HL := hide hl
  have HB := hide hb
  clear hs hs2 hb hu su su2 hl
  obtain ⟨p, hp⟩ : ∃ p, decide (a = a2 ∧ l = l2) = p := ⟨_, rfl⟩
  rw [hp]
  have HP := hide hp
  clear hp
  by_cases ha : a = a2
  · subst ha
    have han : (a != a) = false := by simp
    by_cases hll : l.length = l2.length
    · have HLL := hide hll
      have hln : ((l.length : Int) != (l2.length : Int)) = false := by simp [hll]
      clear hll
      go_enter Tryz.func31, Tryz.ntmps31
      go_wp2
      rw [HU.out]
      go_loopw [5] (fun i wr => ∃ j : Nat, j ≤ l.length ∧ i = .int .i64 j ∧ l.take j = l2.take j ∧ Below u.heap.size u wr) (fun i _ => l.length - (intOf i).toNat)
      case atStart => exact ⟨0, Nat.zero_le _, rfl, rfl, Below.refl _ _⟩
      case round =>
        obtain ⟨j, hj, rfl, htk, hB⟩ := hrel
        have p0 := cell_keep q0 hB
        have p2 := cell_keep q2 hB
        have HTK := hide htk
        have HBB := hide (below_next HB.out (by have := HB.out.size; exact this) hB)
        by_cases hlt : j < l.length
        · obtain ⟨b, off, x, rfl, hb', hx, hcx⟩ := (HS.out.later hB).num hlt
          obtain ⟨b2, off2, y, rfl, hb2', hy, hcy⟩ := (HS2.out.later hB).num (k := j) (by have := HLL.out; omega)
          have hj0 : (0 : Int) ≤ (j : Int) := Int.natCast_nonneg _
          have hj1 : (j : Int) < (l.length : Int) := by omega
          have hj2 : (j : Int) < (l2.length : Int) := by have := HLL.out; omega
          have HXX := hide hx
          have HYY := hide hy
          have HB0 := hide hB
          by_cases hxy : x = y
          · subst hxy
            have hxn : (x != x) = false := by simp
            clear hx hy hB htk
            go_upto_region 6 with fail
            go_quiet (fail)
            go_wp2
            have hw1 : wrap64 ((j : Int) + 1) = ((j + 1 : Nat) : Int) := by rw [wrap64_id (by unfold I64; have := HL.out; omega)]; omega
            rw [hw1]
            refine ⟨⟨j + 1, by omega, rfl, ?_, below_drewN HB0.out _⟩, by simp [intOf]; omega⟩
            rw [List.take_add_one, List.take_add_one, HTK.out, HXX.out, HYY.out]
          · have hxn : (x != y) = true := by simpa using hxy
            have HNE := hide (show ¬ (a = a ∧ l = l2) from fun h => hxy (by rw [h.2, hy] at hx; injection hx with hx; exact hx.symm))
            clear hx hy hB htk hxy
            go_upto_region 6 with fail
            go_quiet (fail)
            go_wp2
            go_ret
            exact ⟨ret_b (by rw [← HP.out]; exact decide_eq_false HNE.out), below_drewN HBB.out _⟩
        · obtain rfl : j = l.length := by omega
          have HEQ := hide (show a = a ∧ l = l2 from ⟨rfl, take_eq htk HLL.out⟩)
          clear htk hB
          go_wp2
          go_ret
          exact ⟨ret_b (by rw [← HP.out]; exact decide_eq_true HEQ.out), HBB.out⟩
    · have hln : ((l.length : Int) != (l2.length : Int)) = true := by simp; omega
      have HNE := hide (show ¬ (a = a ∧ l = l2) from fun h => hll (by rw [h.2]))
      clear hll
      go_enter Tryz.func31, Tryz.ntmps31
      go_wp2
      go_ret
      rw [HU.out]
      exact ⟨ret_b (by rw [← HP.out]; exact decide_eq_false HNE.out), HB.out⟩
  · have han : (a != a2) = true := by simpa using ha
    have HNE := hide (show ¬ (a = a2 ∧ l = l2) from fun h => ha h.1)
    clear ha
    go_enter Tryz.func31, Tryz.ntmps31
    go_wp2
    go_ret
    rw [HU.out]
    exact ⟨ret_b (by rw [← HP.out]; exact decide_eq_false HNE.out), HB.out⟩
end Go.Proofs.YtjghdbkkjhnpfaaGreat
