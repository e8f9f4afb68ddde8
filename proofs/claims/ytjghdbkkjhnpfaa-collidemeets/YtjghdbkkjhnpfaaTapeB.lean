/- Contracts of tape's Below and Skip. -/
import Derived.Test.YtjghdbkkjhnpfaaTapeN
namespace Go.Proofs.Ytjghdbkkjhnpfaa
open Go.RowKit Go.Conc

/-- The remainder, and what it comes to. -/
theorem rem_cases (d n : Int) (h : 1 ≤ n) : (0 ≤ Int.tmod d n ∧ Int.tmod d n < n ∧ d % n = Int.tmod d n) ∨ (Int.tmod d n < 0 ∧ -n < Int.tmod d n ∧ d % n = Int.tmod d n + n) := by
  have h1 := Int.emod_nonneg d (show n ≠ 0 by omega)
  have h2 := Int.emod_lt_of_pos d (show 0 < n by omega)
  have h3 := Int.tmod_eq_emod (a := d) (b := n)
  split at h3
  · left; omega
  · right
    have h4 : d % n ≠ 0 := by
      intro h0
      rename_i hn
      exact hn (.inr (Int.dvd_of_emod_eq_zero h0))
    omega

set_option maxRecDepth 100000 in
set_option maxHeartbeats 2000000 in
theorem below_any (A : Option Addr) (c : Nat) (l : List Int) (a n : Int) (w : World) (hl : l.length ≤ 20000) (hs : Sees w w.heap.size 1 A l.length (l.map (Value.int .i64))) (ha : I64 a) (hn : I64 n) :
    Calls Try.prog 44 #[.agg #[.slice A l.length c, .int .i64 a], .int .i64 n] w (DTPost (blD l a n) l (blA l a n) w) := by
  have hb : Below w.heap.size w ((w.alloc (.cells #[.slice A l.length c, .int .i64 a] 35)).alloc (.cells #[.slice none 0 0, .int .i64 0] 35)) := ((Below.refl _ w).alloc (Nat.le_refl _) _).alloc (by simp) _
  obtain ⟨u, hu⟩ : ∃ u, (w.alloc (.cells #[.slice A l.length c, .int .i64 a] 35)).alloc (.cells #[.slice none 0 0, .int .i64 0] 35) = u := ⟨_, rfl⟩
  have q0 : u.cell? ⟨w.heap.size, 0, none⟩ = some (.slice A l.length c) := by rw [← hu]; simp [go_sem]
  have q1 : u.cell? ⟨w.heap.size, 1, none⟩ = some (.int .i64 a) := by rw [← hu]; simp [go_sem]
  have q2 : u.cell? ⟨w.heap.size + 1, 0, none⟩ = some (.slice none 0 0) := by rw [← hu]; simp [go_sem]
  have q3 : u.cell? ⟨w.heap.size + 1, 1, none⟩ = some (.int .i64 0) := by rw [← hu]; simp [go_sem]
  have f2 : u.frozen? ⟨w.heap.size + 1, 0, none⟩ = false := by rw [← hu]; simp [go_sem]
  have f3 : u.frozen? ⟨w.heap.size + 1, 1, none⟩ = false := by rw [← hu]; simp [go_sem]
  have zu : u.heap.size = w.heap.size + 1 + 1 := by rw [← hu]; simp
  rw [hu] at hb
  have su := hs.later hb
  have HU := hide hu
  have HZ := hide zu
  have HS := hide su
  have HL := hide hl
  have HA := hide ha
  have HN := hide hn
  have HB := hide hb
  -- the end: the boxes hold what is told
  have FIN : Hid (∀ (d e : Int) (w2 w3 w4 : World) (A3 : Option Addr) (c3 : Nat), Below u.heap.size u w2 → Sees w3 w3.heap.size 1 A3 l.length (l.map (Value.int .i64)) → Fresh w2 A3 → Below w2.heap.size w2 w3 → Below w3.heap.size w3 w4 →
      DTPost d l e w (.returned (.tuple #[.int .i64 d, .agg #[.slice A3 l.length c3, .int .i64 e]])) ((w4.setCell ⟨w.heap.size + 1, 0, none⟩ (.slice A3 l.length c3)).setCell ⟨w.heap.size + 1, 1, none⟩ (.int .i64 e))) := hide (by
    intro d e w2 w3 w4 A3 c3 hB2 t3 r3 hb3 hb4
    have h2 := HZ.out
    have h3 := hB2.size
    have t4 := t3.later hb4
    have hfar : ∀ p, A3 = some p → p.block ≠ w.heap.size + 1 := fun p hp => by have h1 := r3 p hp; omega
    exact ⟨A3, c3, rfl, ((t4.far _ 0 _ hfar).far _ 1 _ hfar).up (by simp), fun p hp => by have h1 := r3 p hp; omega,
      ((below_next HB.out (by omega) (below_next (below_next hB2 h3 hb3) (by have h5 := hb3.size; omega) hb4)).setCell (by simp) _).setCell (by simp) _⟩)
  by_cases h1 : n < 1
  · have HW := hide (show wrap64 (a + 0) = blA l a n by rw [blA, if_pos h1, Int.add_zero]; exact wrap64_id ha)
    rw [show blD l a n = 0 by rw [blD, if_pos h1]]
    clear hs hl ha hb hu su zu hn
    go_enter Try.func44, Try.ntmps44
    go_wp2_with fail
    rw [HU.out]
    refine (behind_any A c l a 0 _ u HL.out HS.out HW.out).mono ?_
    rintro x w3 ⟨A3, c3, rfl, t3, r3, hb3⟩
    have g0 := cell_keep q2 hb3
    have g1 := cell_keep q3 hb3
    have g2 := frozen_keep hb3 (by rw [HZ.out]; omega) f2
    have g3 := frozen_keep hb3 (by rw [HZ.out]; omega) f3
    go_wp2
    (try simp only [Exit.inBlock, Exit.then])
    refine bodyPost_ret (v := .tuple #[.int .i64 0, .agg #[.slice A3 l.length c3, .int .i64 (blA l a n)]]) (by simp [results, Try.results44, go_sem, g0, g1]) rfl ?_
    exact FIN.out 0 _ u w3 w3 A3 c3 (Below.refl _ _) t3 r3 hb3 (Below.refl _ _)
  · have h2 : 1 ≤ n := by omega
    have KN := hide (next_any A c l a u hl su ha)
    rw [show blD l a n = nxD l a % n by rw [blD, if_neg h1], show blA l a n = nxA l a by rw [blA, if_neg h1]]
    obtain ⟨d, hd⟩ : ∃ d, nxD l a = d := ⟨_, rfl⟩
    obtain ⟨e, he⟩ : ∃ e, nxA l a = e := ⟨_, rfl⟩
    rw [hd, he] at KN
    rw [hd, he]
    obtain ⟨t, ht⟩ : ∃ t, Int.tmod d n = t := ⟨_, rfl⟩
    have hr := rem_cases d n h2
    rw [ht] at hr
    have hn0 : n ≠ 0 := by omega
    have hnb : (n == 0) = false := by simpa using hn0
    clear hs hl ha hb hu su zu hd he h1 hn
    go_enter Try.func44, Try.ntmps44
    go_wp2_with fail
    rw [HU.out]
    refine KN.out.mono ?_
    rintro x w3 ⟨A3, c3, rfl, t3, r3, hb3⟩
    have g0 := cell_keep q2 hb3
    have g1 := cell_keep q3 hb3
    have g2 := frozen_keep hb3 (by rw [HZ.out]; omega) f2
    have g3 := frozen_keep hb3 (by rw [HZ.out]; omega) f3
    have HR := hide hr
    clear KN hr
    have hb4 : Below w3.heap.size w3 (w3.alloc (.cells #[.slice A3 l.length c3, .int .i64 e] 35)) := (Below.refl _ _).alloc (Nat.le_refl _) _
    obtain ⟨w4, hw4⟩ : ∃ w4, w3.alloc (.cells #[.slice A3 l.length c3, .int .i64 e] 35) = w4 := ⟨_, rfl⟩
    have i0 : w4.cell? ⟨w3.heap.size, 0, none⟩ = some (.slice A3 l.length c3) := by rw [← hw4]; simp [go_sem]
    have i1 : w4.cell? ⟨w3.heap.size, 1, none⟩ = some (.int .i64 e) := by rw [← hw4]; simp [go_sem]
    rw [hw4] at hb4
    have j0 := cell_keep g0 hb4
    have j1 := cell_keep g1 hb4
    have j2 := frozen_keep hb4 (World.block_lt_of_cell? w3 _ g0) g2
    have j3 := frozen_keep hb4 (World.block_lt_of_cell? w3 _ g0) g3
    have HW4 := hide hw4
    have HB4 := hide hb4
    have T3 := hide t3
    have R3 := hide r3
    have HB3 := hide hb3
    have sz4 : u.heap.size ≤ w3.heap.size := hb3.size
    have hne : w.heap.size + 1 ≠ w3.heap.size := by have := HZ.out; omega
    have HSZ := hide sz4
    clear hw4 hb4 t3 r3 hb3 g0 g1 g2 g3 q0 q1 q2 q3 f2 f3 sz4
    go_wp2_with fail
    · obtain ed : d % n = t + n := by have := HR.out; omega
      have hw : wrap64 (t + n) = t + n := wrap64_id (by have h1 := HR.out; have h2 := HN.out; unfold I64 at h2 ⊢; omega)
      rw [HW4.out, hw]
      obtain ⟨r, hr⟩ : ∃ r, t + n = r := ⟨_, rfl⟩
      rw [hr] at ed ⊢
      have ED := hide ed
      clear ed HR ht hw hr
      go_region
      all_goals go_wp2
      all_goals (try simp only [Exit.inBlock, Exit.then])
      all_goals refine bodyPost_ret (v := .tuple #[.int .i64 r, .agg #[.slice A3 l.length c3, .int .i64 e]]) (by simp [results, Try.results44, go_sem, j0, j1]) rfl ?_
      all_goals rw [ED.out]
      all_goals exact FIN.out r e u w3 w4.drew A3 c3 (Below.refl _ _) T3.out R3.out HB3.out HB4.out.drew
    · obtain ed : d % n = t := by have := HR.out; omega
      rw [HW4.out]
      have ED := hide ed
      clear ed HR ht
      go_region
      all_goals go_wp2
      all_goals (try simp only [Exit.inBlock, Exit.then])
      all_goals refine bodyPost_ret (v := .tuple #[.int .i64 t, .agg #[.slice A3 l.length c3, .int .i64 e]]) (by simp [results, Try.results44, go_sem, j0, j1]) rfl ?_
      all_goals rw [ED.out]
      all_goals exact FIN.out t e u w3 w4.drew A3 c3 (Below.refl _ _) T3.out R3.out HB3.out HB4.out.drew

theorem skA_eq {l : List Int} {a n : Int} {j : Nat} (ha : I64 a) (hl : l.length ≤ 20000) (h : j = min n.toNat (restT l a).length) : wrap64 (a + (j : Int)) = skA l a n := by
  have e : skA l a n = a + (j : Int) := by rw [skA, h]
  rw [e]
  refine wrap64_id ?_
  rcases tape_cases l a with ⟨k, v, rfl, hk, _, _⟩ | ⟨_, hR⟩
  · have := restT_le l (k : Int)
    unfold I64; omega
  · rw [hR] at h
    simp at h
    subst h
    simpa using ha

end Go.Proofs.Ytjghdbkkjhnpfaa
