/- Contracts of tape's copies: slices.Clone, nil let in; behind. -/
import Derived.Test.YtjghdbkkjhnpfaaTapeC
import Derived.Deep.RegionHeld3
import Derived.Test.YtjghdbkkjhnpfaaM2
namespace Go.Proofs.Ytjghdbkkjhnpfaa
open Go.RowKit Go.Conc

set_option maxRecDepth 100000 in
set_option maxHeartbeats 1000000 in
/-- A slice of draws, copied: nil stays nil. -/
theorem clone_any (A : Option Addr) (c : Nat) (ws : List Int) (hf : ws.length ≤ 20000) (w : World) (hs : Sees w w.heap.size 1 A ws.length (ws.map (Value.int .i64))) :
    Calls Try.prog 86 #[.slice A ws.length c] w (fun x w' => ∃ A' c', x = .returned (.slice A' ws.length c') ∧ Sees w' w'.heap.size 1 A' ws.length (ws.map (Value.int .i64)) ∧ Fresh w A' ∧ Below w.heap.size w w') := by
  cases A with
  | none =>
    have h0 : ws.length = 0 := by
      rcases Nat.eq_zero_or_pos ws.length with h | h
      · exact h
      · obtain ⟨b, off, h', _⟩ := hs.2 h; cases h'
    have H0 := hide h0
    rw [h0]
    have he : ∀ u : World, (binOp .eql 24 (.slice none 0 c) (.slice none 0 0)).run Try.prog u = .ok (.bool true) u := fun _ => rfl
    clear h0 hs
    go_enter Try.func86, Try.ntmps86
    go_wp2
    go_ret
    refine ⟨none, 0, rfl, ?_, fun p hp => (by cases hp), Below.refl _ _⟩
    obtain rfl : ws = [] := List.eq_nil_of_length_eq_zero H0.out
    exact Sees.empty
  | some ad =>
    obtain ⟨i0, hi0, hz0, hz1, hz2⟩ := info_parts info3
    have hb : Below w.heap.size w (w.alloc (.cells #[] 3)) := (Below.refl _ w).alloc (Nat.le_refl _) _
    have s1 := hs.later hb
    have he : ∀ u : World, (binOp .eql 24 (.slice (some ad) ws.length c) (.slice none 0 0)).run Try.prog u = .ok (.bool false) u := fun _ => rfl
    go_enter Try.func86, Try.ntmps86
    go_wp2_with (at_builtin; refine wpList_app _ rfl _ _ 24 rfl w.heap.size 3 i0 _ 1 8 Try.underlying24 hi0 hz0 hz1 hz2 rfl (by omega) _ 0 _ rfl (own_empty w _ _ _ (Nat.le_refl _)) _ _ ws.length c _ rfl s1 (by simp [Value.oneCell']) (by unfold maxLen; omega) (by omega) (by simp) ?_; intro v1 w1 hown1 hg1)
    go_ret
    rw [Nat.zero_add] at hown1
    obtain ⟨A', c', rfl, hc'⟩ := own_form hown1
    exact ⟨A', c', rfl, Sees.of_own hown1, fresh_own hown1, hb.grown hg1 (by simp) (own_at (own_empty w w.heap.size 3 1 (Nat.le_refl _)))⟩

set_option maxRecDepth 100000 in
set_option maxHeartbeats 1000000 in
theorem behind_any (A : Option Addr) (c : Nat) (l : List Int) (a d a' : Int) (w : World) (hl : l.length ≤ 20000) (hs : Sees w w.heap.size 1 A l.length (l.map (Value.int .i64))) (ha : wrap64 (a + d) = a') :
    Calls Try.prog 59 #[.agg #[.slice A l.length c, .int .i64 a], .int .i64 d] w (TpPost l a' w) := by
  have hb : Below w.heap.size w ((w.alloc (.cells #[.slice A l.length c, .int .i64 a] 35)).alloc (.cells #[.slice none 0 0, .int .i64 0] 35)) := ((Below.refl _ w).alloc (Nat.le_refl _) _).alloc (by simp) _
  obtain ⟨u, hu⟩ : ∃ u, (w.alloc (.cells #[.slice A l.length c, .int .i64 a] 35)).alloc (.cells #[.slice none 0 0, .int .i64 0] 35) = u := ⟨_, rfl⟩
  have q0 : u.cell? ⟨w.heap.size, 0, none⟩ = some (.slice A l.length c) := by rw [← hu]; simp [go_sem]
  have q1 : u.cell? ⟨w.heap.size, 1, none⟩ = some (.int .i64 a) := by rw [← hu]; simp [go_sem]
  have q2 : u.cell? ⟨w.heap.size + 1, 0, none⟩ = some (.slice none 0 0) := by rw [← hu]; simp [go_sem]
  have q3 : u.cell? ⟨w.heap.size + 1, 1, none⟩ = some (.int .i64 0) := by rw [← hu]; simp [go_sem]
  have f2 : u.frozen? ⟨w.heap.size + 1, 0, none⟩ = false := by rw [← hu]; simp [go_sem]
  have f3 : u.frozen? ⟨w.heap.size + 1, 1, none⟩ = false := by rw [← hu]; simp [go_sem]
  have zu : u.heap.size = w.heap.size + 1 + 1 := by rw [← hu]; simp
  rw [hu] at hb
  have HU := hide hu
  have HZ := hide zu
  have su := hs.later hb
  have b0 : Below u.heap.size u u.drew := (Below.refl _ _).drew
  have HS := hide su
  have HL := hide hl
  have HA := hide ha
  have HB := hide hb
  clear hs hl ha hb hu su zu
  go_enter Try.func59, Try.ntmps59
  go_wp2_with fail
  rw [HU.out]
  go_region_held3 (fun w' => w'.cell? ⟨w.heap.size, 0, none⟩ = some (.slice A l.length c) ∧ w'.cell? ⟨w.heap.size, 1, none⟩ = some (.int .i64 a))
    (first | (exact ⟨cell_keep q0 hB1, cell_keep q1 hB1⟩) | (exact ⟨cell_keep q0 b0, cell_keep q1 b0⟩) | (exact ⟨by simp [go_sem]; exact cell_keep q0 hB1, by simp [go_sem]; exact cell_keep q1 hB1⟩))
    ((go_at_call 86; refine (clone_any A c l HL.out u.drew (HS.out.later b0)).mono ?_; rintro x w1 ⟨A1, c1, rfl, t1, r1, hb1⟩; have hB1 := below_next b0 b0.size hb1; have p2 := cell_keep q2 hB1; have p3 := cell_keep q3 hB1; have g2 := frozen_keep hB1 (by rw [HZ.out]; omega) f2; have g3 := frozen_keep hB1 (by rw [HZ.out]; omega) f3))
  go_wp2
  (try simp only [Exit.inBlock, Exit.then])
  have hwr : IntKind.i64.wrap (a + d) = a' := by rw [← HA.out, IntKind.wrap_i64]; unfold wrap64; omega
  rw [hwr]
  refine bodyPost_ret (v := .agg #[.slice A1 l.length c1, .int .i64 a']) (by simp [results, Try.results59, go_sem, p2, p3]) rfl ?_
  have hfar : ∀ p, A1 = some p → p.block ≠ w.heap.size + 1 := fun p hp => by
    have h1 := r1 p hp
    have h2 := HZ.out
    have h3 := b0.size
    omega
  exact ⟨A1, c1, rfl, ((t1.far _ 0 _ hfar).far _ 1 _ hfar).up (by simp), fun p hp => by
      have h1 := r1 p hp
      have h2 := HZ.out
      have h3 := b0.size
      omega, ((below_next HB.out (by rw [HZ.out]; omega) hB1).setCell (by simp) _).setCell (by simp) _⟩

set_option maxRecDepth 100000 in
set_option maxHeartbeats 2000000 in
theorem next_any (A : Option Addr) (c : Nat) (l : List Int) (a : Int) (w : World) (hl : l.length ≤ 20000) (hs : Sees w w.heap.size 1 A l.length (l.map (Value.int .i64))) (ha : I64 a) :
    Calls Try.prog 60 #[.agg #[.slice A l.length c, .int .i64 a]] w (DTPost (nxD l a) l (nxA l a) w) := by
  have hb : Below w.heap.size w ((w.alloc (.cells #[.slice A l.length c, .int .i64 a] 35)).alloc (.cells #[.slice none 0 0, .int .i64 0] 35)) := ((Below.refl _ w).alloc (Nat.le_refl _) _).alloc (by simp) _
  obtain ⟨u, hu⟩ : ∃ u, (w.alloc (.cells #[.slice A l.length c, .int .i64 a] 35)).alloc (.cells #[.slice none 0 0, .int .i64 0] 35) = u := ⟨_, rfl⟩
  have q0 : u.cell? ⟨w.heap.size, 0, none⟩ = some (.slice A l.length c) := by rw [← hu]; simp [go_sem]
  have q1 : u.cell? ⟨w.heap.size, 1, none⟩ = some (.int .i64 a) := by rw [← hu]; simp [go_sem]
  have q2 : u.cell? ⟨w.heap.size + 1, 0, none⟩ = some (.slice none 0 0) := by rw [← hu]; simp [go_sem]
  have q3 : u.cell? ⟨w.heap.size + 1, 1, none⟩ = some (.int .i64 0) := by rw [← hu]; simp [go_sem]
  have f2 : u.frozen? ⟨w.heap.size + 1, 0, none⟩ = false := by rw [← hu]; simp [go_sem]
  have f3 : u.frozen? ⟨w.heap.size + 1, 1, none⟩ = false := by rw [← hu]; simp [go_sem]
  have zu : u.heap.size = w.heap.size + 1 + 1 := by rw [← hu]; simp
  rw [hu] at hb
  have su := hs.later hb
  have HU := hide hu
  have HZ := hide zu
  have HS := hide su
  have HL := hide hl
  have HA := hide ha
  have HB := hide hb
  have KF := hide (feed_any A c l a u hl su)
  -- behind some steps: the boxes, and the end
  have FIN : Hid (∀ (d : Int) (w2 w3 : World) (A3 : Option Addr) (c3 : Nat), Below u.heap.size u w2 → Sees w3 w3.heap.size 1 A3 l.length (l.map (Value.int .i64)) → Fresh w2 A3 → Below w2.heap.size w2 w3 →
      DTPost d l (nxA l a) w (.returned (.tuple #[.int .i64 d, .agg #[.slice A3 l.length c3, .int .i64 (nxA l a)]])) ((w3.setCell ⟨w.heap.size + 1, 0, none⟩ (.slice A3 l.length c3)).setCell ⟨w.heap.size + 1, 1, none⟩ (.int .i64 (nxA l a)))) := hide (by
    intro d w2 w3 A3 c3 hB2 t3 r3 hb3
    have h2 := HZ.out
    have h3 := hB2.size
    have hfar : ∀ p, A3 = some p → p.block ≠ w.heap.size + 1 := fun p hp => by have h1 := r3 p hp; omega
    exact ⟨A3, c3, rfl, ((t3.far _ 0 _ hfar).far _ 1 _ hfar).up (by simp), fun p hp => by have h1 := r3 p hp; omega,
      ((below_next HB.out (by omega) (below_next hB2 h3 hb3)).setCell (by simp) _).setCell (by simp) _⟩)
  rcases tape_cases l a with ⟨k, v, hk, hkl, hv, hR⟩ | ⟨hno, hR⟩
  · obtain ⟨e1, e2⟩ := nxD_at hR
    rw [hR] at KF
    rw [e1]
    have HW := hide (show wrap64 (a + 1) = nxA l a by rw [e2]; exact wrap64_id (by unfold I64; omega))
    clear hs hl ha hb hu su zu hk hkl hv hR e1 e2
    go_enter Try.func60, Try.ntmps60
    go_wp2_with fail
    rw [HU.out]
    refine KF.out.mono ?_
    rintro x w1 ⟨ch, rfl, hch, ⟨cap, s, r, hC⟩, hb1⟩
    have HC := hide hC
    have HH := hide hch
    clear KF hC hch
    go_wp2_with fail
    refine (pull_some ch cap s r v _ w1 HC.out).mono ?_
    rintro x w2 ⟨rfl, _, hb2⟩
    have hB2 : Below u.heap.size u w2 := hb1.trans (hb2.mono HH.out)
    have p0 := cell_keep q0 hB2
    have p1 := cell_keep q1 hB2
    go_wp2_with fail
    refine (behind_any A c l a 1 _ w2 HL.out (HS.out.later hB2) HW.out).mono ?_
    rintro x w3 ⟨A3, c3, rfl, t3, r3, hb3⟩
    have hB3 := below_next hB2 hB2.size hb3
    have g0 := cell_keep q2 hB3
    have g1 := cell_keep q3 hB3
    have g2 := frozen_keep hB3 (by rw [HZ.out]; omega) f2
    have g3 := frozen_keep hB3 (by rw [HZ.out]; omega) f3
    clear p0 p1 hb1 hb2
    go_wp2
    (try simp only [Exit.inBlock, Exit.then])
    refine bodyPost_ret (v := .tuple #[.int .i64 v, .agg #[.slice A3 l.length c3, .int .i64 (nxA l a)]]) (by simp [results, Try.results60, go_sem, g0, g1]) rfl ?_
    exact FIN.out v w2 w3 A3 c3 hB2 t3 r3 hb3
  · obtain ⟨e1, e2⟩ := nxD_no hR
    rw [hR] at KF
    rw [e1]
    have HW := hide (show wrap64 (a + 0) = nxA l a by rw [e2, Int.add_zero]; exact wrap64_id HA.out)
    clear hs hl ha hb hu su zu hno hR e1 e2
    go_enter Try.func60, Try.ntmps60
    go_wp2_with fail
    rw [HU.out]
    refine KF.out.mono ?_
    rintro x w1 ⟨ch, rfl, hch, ⟨cap, s, r, hC⟩, hb1⟩
    have HC := hide hC
    clear KF hC hch
    go_wp2_with fail
    refine (pull_none ch cap s r w1 HC.out).mono ?_
    rintro x w2 ⟨rfl, rfl⟩
    have hB2 : Below u.heap.size u w2 := hb1
    have p0 := cell_keep q0 hB2
    have p1 := cell_keep q1 hB2
    go_wp2_with fail
    refine (behind_any A c l a 0 _ w2 HL.out (HS.out.later hB2) HW.out).mono ?_
    rintro x w3 ⟨A3, c3, rfl, t3, r3, hb3⟩
    have hB3 := below_next hB2 hB2.size hb3
    have g0 := cell_keep q2 hB3
    have g1 := cell_keep q3 hB3
    have g2 := frozen_keep hB3 (by rw [HZ.out]; omega) f2
    have g3 := frozen_keep hB3 (by rw [HZ.out]; omega) f3
    clear p0 p1 hb1
    go_wp2
    (try simp only [Exit.inBlock, Exit.then])
    refine bodyPost_ret (v := .tuple #[.int .i64 0, .agg #[.slice A3 l.length c3, .int .i64 (nxA l a)]]) (by simp [results, Try.results60, go_sem, g0, g1]) rfl ?_
    exact FIN.out 0 w2 w3 A3 c3 hB2 t3 r3 hb3
end Go.Proofs.Ytjghdbkkjhnpfaa
