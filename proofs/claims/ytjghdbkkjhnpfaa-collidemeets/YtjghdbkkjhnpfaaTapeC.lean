/- Contracts of tape's parts: Left, pull, feed. -/
import Derived.Test.YtjghdbkkjhnpfaaTape
import Derived.Deep.Cut
namespace Go.Proofs.Ytjghdbkkjhnpfaa
open Go.RowKit Go.Conc

set_option maxRecDepth 100000 in
set_option maxHeartbeats 1000000 in
theorem left_any (A : Option Addr) (c : Nat) (l : List Int) (a : Int) (w : World) (hl : l.length ≤ 20000) :
    Calls Try.prog 95 #[.agg #[.slice A l.length c, .int .i64 a]] w (IntPost ((restT l a).length : Int) w) := by
  have hb : Below w.heap.size w (w.alloc (.cells #[.slice A l.length c, .int .i64 a] 35)) := (Below.refl _ w).alloc (Nat.le_refl _) _
  have HB := hide hb
  have hr := restT_length l a
  by_cases h0 : a < 0
  · rw [if_pos h0] at hr
    rw [hr]
    clear hr hb
    go_enter Try.func95, Try.ntmps95
    go_wp2
    go_ret
    exact ⟨rfl, HB.out⟩
  · rw [if_neg h0] at hr
    have h1 : (0 : Int) ≤ a := by omega
    by_cases h2 : (l.length : Int) ≤ a
    · rw [show max 0 ((l.length : Int) - a) = 0 by omega] at hr
      rw [hr]
      clear hr hb
      go_enter Try.func95, Try.ntmps95
      go_wp2
      go_ret
      exact ⟨rfl, HB.out⟩
    · have h3 : a < (l.length : Int) := by omega
      rw [show max 0 ((l.length : Int) - a) = (l.length : Int) - a by omega] at hr
      rw [hr]
      have hw : wrap64 ((l.length : Int) - a) = (l.length : Int) - a := wrap64_id (by unfold I64; omega)
      have HW := hide hw
      clear hr hb hw
      go_enter Try.func95, Try.ntmps95
      go_wp2
      go_ret
      refine ⟨?_, HB.out⟩
      first | rfl | (simp [HW.out]) | (rw [HW.out])

set_option maxRecDepth 100000 in
set_option maxHeartbeats 1000000 in
theorem pull_some (ch cap s r : Nat) (x : Int) (xs : List Int) (w : World) (h : w.heap[ch]? = some (.chan cap ((x :: xs).map (Value.int .i64)).toArray false s r false)) :
    Calls Try.prog 87 #[.chan (some ch)] w (fun e w' => e = .returned (.tuple #[.int .i64 x, .bool true]) ∧ w'.heap[ch]? = some (.chan cap (xs.map (Value.int .i64)).toArray false s (r + 1) false) ∧ Below ch w w') := by
  have hlt : ch < w.heap.size := (Array.getElem?_eq_some_iff.1 h).1
  have H := hide h
  have HL := hide hlt
  clear h hlt
  go_enter Try.func87, Try.ntmps87
  go_upto_region 2 with fail
  refine wp_opsWp ?_
  show OpsWp _ _ _ [0, 1, 2] _ _
  refine opsWp_sel_some (z := .int .i64 0) rfl rfl (by simp [go_sem, execOp, rcase, Act.eval]) H.out (by simp) ?_
  refine opsWp_op rfl rfl (fun K hK => ?_)
  go_simp
  refine hK _ _ ?_
  clear hK K
  refine opsWp_op rfl rfl (fun K hK => ?_)
  go_simp
  refine hK _ _ ?_
  clear hK K
  refine opsWp_end ?_
  go_wp2
  go_ret2
  refine ⟨rfl, ?_, ?_⟩
  · rw [heap_setChan _ _ _ _ _ _ _ _ HL.out]
    simp
    exact List.take_of_length_le (by simp)
  · exact below_setChan (Below.refl _ _) (Nat.le_refl _) _ _ _ _ _ _

set_option maxRecDepth 100000 in
set_option maxHeartbeats 1000000 in
theorem pull_none (ch cap s r : Nat) (w : World) (h : w.heap[ch]? = some (.chan cap #[] false s r false)) :
    Calls Try.prog 87 #[.chan (some ch)] w (fun e w' => e = .returned (.tuple #[.int .i64 0, .bool false]) ∧ w' = w) := by
  have H := hide h
  clear h
  go_enter Try.func87, Try.ntmps87
  go_upto_region 2 with fail
  refine wp_opsWp ?_
  show OpsWp _ _ _ [0, 1, 2] _ _
  refine opsWp_sel_none (z := .int .i64 0) rfl rfl (by simp [go_sem, execOp, rcase, Act.eval]) H.out ?_
  refine opsWp_op rfl rfl (fun K hK => ?_)
  go_simp
  refine hK _ _ ?_
  clear hK K
  refine opsWp_op rfl rfl (fun K hK => ?_)
  go_simp
  refine hK _ _ ?_
  clear hK K
  refine opsWp_end ?_
  go_wp2
  go_ret2
  exact ⟨rfl, rfl⟩

theorem mkChan (n : Nat) (hn : n ≤ 20000) (w : World) : (Instr.makeChan 174 (.int .i64 n)).run Try.prog w = .ok (.chan (some w.heap.size)) (w.alloc (.chan n #[] false 0 0 false)) := by
  obtain ⟨i, hi, hz, hs, hby⟩ := info_parts info3
  simpa using run_makeChan (P := Try.prog) (w := w) Try.underlying174 hi .i64 n (by omega) (by rw [hby]; omega)

/-- A channel that holds xs. -/
def ChanAt (w : World) (ch : Nat) (xs : List Int) : Prop := ∃ cap s r, w.heap[ch]? = some (.chan cap (xs.map (Value.int .i64)).toArray false s r false)

set_option maxRecDepth 100000 in
set_option maxHeartbeats 2000000 in
theorem feed_any (A : Option Addr) (c : Nat) (l : List Int) (a : Int) (w : World) (hl : l.length ≤ 20000) (hs : Sees w w.heap.size 1 A l.length (l.map (Value.int .i64))) :
    Calls Try.prog 88 #[.agg #[.slice A l.length c, .int .i64 a]] w (fun e w' => ∃ ch, e = .returned (.chan (some ch)) ∧ w.heap.size ≤ ch ∧ ChanAt w' ch (restT l a) ∧ Below w.heap.size w w') := by
  have hb : Below w.heap.size w (w.alloc (.cells #[.slice A l.length c, .int .i64 a] 35)) := (Below.refl _ w).alloc (Nat.le_refl _) _
  have HB := hide hb
  have HS := hide hs
  have HG : Hid (∀ j, j < (restT l a).length → ∃ (k : Nat) (v : Int), a = (k : Int) ∧ k + j < l.length ∧ l[k + j]? = some v ∧ (restT l a)[j]? = some v) := hide (fun j hj => restT_get hj)
  have HLE := hide (restT_le l a)
  obtain ⟨R, hR⟩ : ∃ R, restT l a = R := ⟨_, rfl⟩
  have key := left_any A c l a (w.alloc (.cells #[.slice A l.length c, .int .i64 a] 35)) hl
  rw [hR] at key HG HLE ⊢
  obtain ⟨m, hm⟩ : ∃ m, R.length = m := ⟨_, rfl⟩
  rw [hm] at key HG HLE
  have K := hide key
  have HM := hide hm
  have hmk := mkChan m (by have := HLE.out; omega)
  clear key hm hR hb hs
  go_enter Try.func88, Try.ntmps88
  go_wp2_with fail
  refine K.out.mono ?_
  rintro x w1 ⟨rfl, hb1⟩
  have q0 : w1.cell? ⟨w.heap.size, 0, none⟩ = some (.slice A l.length c) := cell_keep (by simp [go_sem]) hb1
  have q1 : w1.cell? ⟨w.heap.size, 1, none⟩ = some (.int .i64 a) := cell_keep (by simp [go_sem]) hb1
  have z1 : w.heap.size + 1 ≤ w1.heap.size := by simpa using hb1.size
  have hB1 := below_next HB.out (by simp) hb1
  have s1 := HS.out.later hB1
  clear K hb1
  go_wp2
  go_loopw [11] (fun i wr => ∃ j : Nat, j ≤ m ∧ i = .int .i64 j ∧ wr.heap[w1.heap.size]? = some (.chan m ((R.take j).map (Value.int .i64)).toArray false j 0 false) ∧ Below w1.heap.size w1 wr) (fun i _ => m - (intOf i).toNat)
  case atStart => exact ⟨0, Nat.zero_le _, rfl, by simpa using heap_alloc_new w1 _, (Below.refl _ _).alloc (Nat.le_refl _) _⟩
  case round =>
    obtain ⟨j, hj, rfl, hch, hB⟩ := hrel
    by_cases hlt : j < m
    · obtain ⟨k, v, rfl, hkj, hv, hRj⟩ := HG.out j hlt
      have p0 := cell_keep q0 hB
      have p1 := cell_keep q1 hB
      have t1 := s1.later hB
      obtain ⟨q, hq⟩ : ∃ q : Nat, k + j = q := ⟨_, rfl⟩
      have hwk : IntKind.i64.wrap ((k : Int) + (j : Int)) = (q : Int) := by rw [IntKind.wrap_i64]; omega
      rw [hq] at hkj hv
      obtain ⟨b, off, v', rfl, hbl, hv', hc⟩ := t1.num hkj
      have hq0 : (0 : Int) ≤ (q : Int) := Int.natCast_nonneg _
      have hq1 : (q : Int) < (l.length : Int) := by omega
      obtain rfl : v = v' := by rw [hv] at hv'; injection hv'
      have HCH := hide hch
      have HRJ := hide hRj
      have HBB := hide hB
      clear hch hRj hv hv' hB t1 HG hq hkj
      go_upto_region 6 with fail
      refine wp_opsWp ?_
      show OpsWp _ _ _ [0, 1, 2, 3, 4, 5, 6, 7, 8, 9] _ _
      refine opsWp_op rfl rfl (fun K hK => ?_)
      go_simp
      refine hK _ _ ?_
      clear hK K
      refine opsWp_op rfl rfl (fun K hK => ?_)
      go_simp
      refine hK _ _ ?_
      clear hK K
      refine opsWp_op rfl rfl (fun K hK => ?_)
      go_simp
      refine hK _ _ ?_
      clear hK K
      refine opsWp_op rfl rfl (fun K hK => ?_)
      go_simp
      refine hK _ _ ?_
      clear hK K
      refine opsWp_op rfl rfl (fun K hK => ?_)
      go_simp
      refine hK _ _ ?_
      clear hK K
      refine opsWp_op rfl rfl (fun K hK => ?_)
      go_simp
      refine hK _ _ ?_
      clear hK K
      refine opsWp_op rfl rfl (fun K hK => ?_)
      go_simp
      refine hK _ _ ?_
      clear hK K
      refine opsWp_op rfl rfl (fun K hK => ?_)
      go_simp
      refine hK _ _ ?_
      clear hK K
      refine opsWp_op rfl rfl (fun K hK => ?_)
      go_simp
      refine hK _ _ ?_
      clear hK K
      refine opsWp_send (v := .int .i64 v) (z := .tuple #[]) rfl rfl rfl (by simp [execOp, scase, Act.eval]) HCH.out (by simp; omega) ?_
      refine opsWp_end ?_
      go_wp2
      have hlc : w1.heap.size < wr.heap.size := (Array.getElem?_eq_some_iff.1 HCH.out).1
      have hj1 : wrap64 ((j : Int) + 1) = ((j + 1 : Nat) : Int) := by rw [wrap64_id (by unfold I64; have := HLE.out; omega)]; omega
      rw [hj1]
      refine ⟨⟨j + 1, by omega, rfl, ?_, below_setChan HBB.out (Nat.le_refl _) _ _ _ _ _ _⟩, ?_⟩
      · rw [heap_setChan _ _ _ _ _ _ _ _ hlc, List.take_add_one, HRJ.out]
        simp
      · simp [intOf]; omega
    · obtain rfl : j = m := by omega
      have HCH := hide hch
      have HBB := hide hB
      clear hch hB HG
      go_wp2
      go_ret
      refine ⟨w1.heap.size, rfl, by omega, ⟨j, j, 0, ?_⟩, below_next hB1 (by omega) HBB.out⟩
      have := HCH.out
      rwa [List.take_of_length_le (by have := HM.out; omega)] at this
end Go.Proofs.Ytjghdbkkjhnpfaa
