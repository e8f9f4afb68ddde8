/- Contracts of the document's own tapes, and of the law's 'its'. -/
import Derived.Test.YtjghdbkkjhnpfaaGreatTapeB
import Derived.BigQuiet
namespace Go.Proofs.YtjghdbkkjhnpfaaGreat
open Go.RowKit Go.Conc

/-- The tape of that memory. -/
def RTPost (A : Option Addr) (n c : Nat) (a : Int) (w : World) (e : Ending) (w' : World) : Prop := e = .returned (.agg #[.slice A n c, .int .i64 a]) ∧ Below w.heap.size w w'
/-- A draw, and the tape of that memory. -/
def RDPost (d : Int) (A : Option Addr) (n c : Nat) (a : Int) (w : World) (e : Ending) (w' : World) : Prop := e = .returned (.tuple #[.int .i64 d, .agg #[.slice A n c, .int .i64 a]]) ∧ Below w.heap.size w w'

set_option maxRecDepth 100000 in
set_option maxHeartbeats 2000000 in
theorem rnext_any (A : Option Addr) (c : Nat) (l : List Int) (a : Int) (w : World) (hl : l.length ≤ 20000) (hs : Sees w w.heap.size 1 A l.length (l.map (Value.int .i64))) :
    Calls Tryz.prog 95 #[.agg #[.slice A l.length c, .int .i64 a]] w (RDPost (nxD l a) A l.length c (nxA l a) w) := by
  have hb : Below w.heap.size w ((w.alloc (.cells #[.slice A l.length c, .int .i64 a] 52)).alloc (.cells #[.slice none 0 0, .int .i64 0] 52)) := ((Below.refl _ w).alloc (Nat.le_refl _) _).alloc (by simp) _
  obtain ⟨u, hu⟩ : ∃ u, (w.alloc (.cells #[.slice A l.length c, .int .i64 a] 52)).alloc (.cells #[.slice none 0 0, .int .i64 0] 52) = u := ⟨_, rfl⟩
  have q0 : u.cell? ⟨w.heap.size, 0, none⟩ = some (.slice A l.length c) := by rw [← hu]; simp [go_sem]
  have q1 : u.cell? ⟨w.heap.size, 1, none⟩ = some (.int .i64 a) := by rw [← hu]; simp [go_sem]
  have q2 : u.cell? ⟨w.heap.size + 1, 0, none⟩ = some (.slice none 0 0) := by rw [← hu]; simp [go_sem]
  have q3 : u.cell? ⟨w.heap.size + 1, 1, none⟩ = some (.int .i64 0) := by rw [← hu]; simp [go_sem]
  have f2 : u.frozen? ⟨w.heap.size + 1, 0, none⟩ = false := by rw [← hu]; simp [go_sem]
  have f3 : u.frozen? ⟨w.heap.size + 1, 1, none⟩ = false := by rw [← hu]; simp [go_sem]
  rw [hu] at hb
  have su := hs.later hb
  have HU := hide hu
  have HB := hide hb
  rcases tape_cases l a with ⟨k, v, rfl, hkl, hv, hR⟩ | ⟨hno, hR⟩
  · obtain ⟨e1, e2⟩ := nxD_at hR
    obtain ⟨b, off, v', rfl, hbl, hv', hc⟩ := su.num hkl
    obtain rfl : v = v' := by rw [hv] at hv'; injection hv'
    have hk0 : (0 : Int) ≤ (k : Int) := Int.natCast_nonneg _
    have hk1 : (k : Int) < (l.length : Int) := by omega
    have hn0 : ¬ ((k : Int) < 0) := by omega
    have hwk : IntKind.i64.wrap ((k : Int) + 1) = (k : Int) + 1 := by rw [IntKind.wrap_i64]; omega
    have HW := hide (show wrap64 ((k : Int) + 1) = (k : Int) + 1 from wrap64_id (by unfold I64; omega))
    rw [e1, e2]
    clear hs hl hu su hv hv' hR e1 e2 hb
    go_enter Tryz.func95, Tryz.ntmps95
    go_upto_region 3 with fail
    rw [HU.out]
    go_region
    all_goals go_wp2
    all_goals (try simp only [Exit.inBlock, Exit.then])
    all_goals refine bodyPost_ret (v := .tuple #[.int .i64 v, .agg #[.slice (some ⟨b, off, none⟩) l.length c, .int .i64 ((k : Int) + 1)]]) (by simp [results, Tryz.results95, go_sem, q2, q3]) rfl ?_
    all_goals exact ⟨rfl, ((HB.out.setCell (by simp) _).setCell (by simp) _).drew⟩
  · obtain ⟨e1, e2⟩ := nxD_no hR
    rw [e1, e2]
    clear hs hl hu su hR e1 e2 hb
    by_cases h0 : a < 0
    · clear hno
      go_enter Tryz.func95, Tryz.ntmps95
      go_upto_region 2 with fail
      rw [HU.out]
      go_region
      all_goals go_wp2
      all_goals (try simp only [Exit.inBlock, Exit.then])
      all_goals refine bodyPost_ret (v := .tuple #[.int .i64 0, .agg #[.slice A l.length c, .int .i64 a]]) (by simp [results, Tryz.results95, go_sem, q2, q3]) rfl ?_
      all_goals exact ⟨rfl, ((HB.out.setCell (by simp) _).setCell (by simp) _).drew⟩
    · have h1 : (0 : Int) ≤ a := by omega
      have h2 : (l.length : Int) ≤ a := by omega
      clear hno h0
      go_enter Tryz.func95, Tryz.ntmps95
      go_upto_region 2 with fail
      rw [HU.out]
      go_region
      all_goals go_wp2
      all_goals (try simp only [Exit.inBlock, Exit.then])
      all_goals refine bodyPost_ret (v := .tuple #[.int .i64 0, .agg #[.slice A l.length c, .int .i64 a]]) (by simp [results, Tryz.results95, go_sem, q2, q3]) rfl ?_
      all_goals exact ⟨rfl, ((HB.out.setCell (by simp) _).setCell (by simp) _).drew⟩
end Go.Proofs.YtjghdbkkjhnpfaaGreat
