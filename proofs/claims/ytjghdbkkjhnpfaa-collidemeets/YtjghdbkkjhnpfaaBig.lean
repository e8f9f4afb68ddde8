/- The contract of the law's big. -/
import Derived.Test.YtjghdbkkjhnpfaaMk
import Derived.Test.YtjghdbkkjhnpfaaM4
namespace Go.Proofs.Ytjghdbkkjhnpfaa
open Go.RowKit
set_option linter.unusedVariables false

/-- What 'not big' says. -/
def SmallT (ws : List Int) (bs : List Bt) (d : Dt) (tl : List Int) (ll : List M6) : Prop := ws.length ≤ 400 ∧ bs.length ≤ 16 ∧ (∀ q ∈ bs, q.l.length ≤ 20) ∧ d.bl.length ≤ 20 ∧ d.kl.length ≤ 20 ∧ d.hl.length ≤ 20 ∧ tl.length ≤ 100 ∧ ll.length ≤ 50
def BigPost (ws : List Int) (bs : List Bt) (d : Dt) (tl : List Int) (ll : List M6) (w : World) (e : Ending) (w' : World) : Prop := ∃ r, e = .returned (.bool r) ∧ (r = false → SmallT ws bs d tl ll) ∧ Below w.heap.size w w'

set_option maxRecDepth 100000 in
set_option maxHeartbeats 4000000 in
theorem big_any (x0 x1 x2 x3 x4 x5 x6 x7 : Int) (b : Bool) (x9 x10 x11 : Int) (tt now : Int) (mA : Option Addr) (mc : Nat) (ws : List Int) (mB : Option Addr) (md : Nat) (bs : List Bt) (d : Dt) (p : Ad) (tA : Option Addr) (tc : Nat) (tl : List Int) (ta : Int) (lA : Option Addr) (lc : Nat) (ll : List M6) (dn : Bool) (w : World) (m : MemAt w mA ws mB bs) : Calls Try.prog 9 #[.agg (List.toArray (.int .i64 x0 :: .int .i64 x1 :: .int .i64 x2 :: .int .i64 x3 :: .int .i64 x4 :: .int .i64 x5 :: .int .i64 x6 :: .int .i64 x7 :: .bool b :: .int .i64 x9 :: .int .i64 x10 :: .int .i64 x11 :: .int .i64 tt :: .int .i64 now :: .slice mA ws.length mc :: .slice mB bs.length md :: .int .i64 d.ph :: .int .i64 d.it :: .int .i64 d.tg :: .int .i64 d.v :: .slice p.bA d.bl.length p.bc :: .slice p.kA d.kl.length p.kc :: .slice p.hA d.hl.length p.hc :: .int .i64 d.st :: .int .i64 d.nd :: .int .i64 d.pl :: .int .i64 d.ly :: .int .i64 d.lf :: .int .i64 d.wd :: .int .i64 d.who :: .int .i64 d.x :: .int .i64 d.y :: .int .i64 d.un :: .slice tA tl.length tc :: .int .i64 ta :: .slice lA ll.length lc :: .bool dn :: []))] w (BigPost ws bs d tl ll w) := by
  have hb : Below w.heap.size w (w.alloc (.cells (List.toArray (.int .i64 x0 :: .int .i64 x1 :: .int .i64 x2 :: .int .i64 x3 :: .int .i64 x4 :: .int .i64 x5 :: .int .i64 x6 :: .int .i64 x7 :: .bool b :: .int .i64 x9 :: .int .i64 x10 :: .int .i64 x11 :: .int .i64 tt :: .int .i64 now :: .slice mA ws.length mc :: .slice mB bs.length md :: .int .i64 d.ph :: .int .i64 d.it :: .int .i64 d.tg :: .int .i64 d.v :: .slice p.bA d.bl.length p.bc :: .slice p.kA d.kl.length p.kc :: .slice p.hA d.hl.length p.hc :: .int .i64 d.st :: .int .i64 d.nd :: .int .i64 d.pl :: .int .i64 d.ly :: .int .i64 d.lf :: .int .i64 d.wd :: .int .i64 d.who :: .int .i64 d.x :: .int .i64 d.y :: .int .i64 d.un :: .slice tA tl.length tc :: .int .i64 ta :: .slice lA ll.length lc :: .bool dn :: [])) 38)) := belowA _ _
  have R : (w.alloc (.cells (List.toArray (.int .i64 x0 :: .int .i64 x1 :: .int .i64 x2 :: .int .i64 x3 :: .int .i64 x4 :: .int .i64 x5 :: .int .i64 x6 :: .int .i64 x7 :: .bool b :: .int .i64 x9 :: .int .i64 x10 :: .int .i64 x11 :: .int .i64 tt :: .int .i64 now :: .slice mA ws.length mc :: .slice mB bs.length md :: .int .i64 d.ph :: .int .i64 d.it :: .int .i64 d.tg :: .int .i64 d.v :: .slice p.bA d.bl.length p.bc :: .slice p.kA d.kl.length p.kc :: .slice p.hA d.hl.length p.hc :: .int .i64 d.st :: .int .i64 d.nd :: .int .i64 d.pl :: .int .i64 d.ly :: .int .i64 d.lf :: .int .i64 d.wd :: .int .i64 d.who :: .int .i64 d.x :: .int .i64 d.y :: .int .i64 d.un :: .slice tA tl.length tc :: .int .i64 ta :: .slice lA ll.length lc :: .bool dn :: [])) 38)).rangeAt w.heap.size 0 (.int .i64 x0 :: .int .i64 x1 :: .int .i64 x2 :: .int .i64 x3 :: .int .i64 x4 :: .int .i64 x5 :: .int .i64 x6 :: .int .i64 x7 :: .bool b :: .int .i64 x9 :: .int .i64 x10 :: .int .i64 x11 :: .int .i64 tt :: .int .i64 now :: .slice mA ws.length mc :: .slice mB bs.length md :: .int .i64 d.ph :: .int .i64 d.it :: .int .i64 d.tg :: .int .i64 d.v :: .slice p.bA d.bl.length p.bc :: .slice p.kA d.kl.length p.kc :: .slice p.hA d.hl.length p.hc :: .int .i64 d.st :: .int .i64 d.nd :: .int .i64 d.pl :: .int .i64 d.ly :: .int .i64 d.lf :: .int .i64 d.wd :: .int .i64 d.who :: .int .i64 d.x :: .int .i64 d.y :: .int .i64 d.un :: .slice tA tl.length tc :: .int .i64 ta :: .slice lA ll.length lc :: .bool dn :: []) := range_new w (.int .i64 x0 :: .int .i64 x1 :: .int .i64 x2 :: .int .i64 x3 :: .int .i64 x4 :: .int .i64 x5 :: .int .i64 x6 :: .int .i64 x7 :: .bool b :: .int .i64 x9 :: .int .i64 x10 :: .int .i64 x11 :: .int .i64 tt :: .int .i64 now :: .slice mA ws.length mc :: .slice mB bs.length md :: .int .i64 d.ph :: .int .i64 d.it :: .int .i64 d.tg :: .int .i64 d.v :: .slice p.bA d.bl.length p.bc :: .slice p.kA d.kl.length p.kc :: .slice p.hA d.hl.length p.hc :: .int .i64 d.st :: .int .i64 d.nd :: .int .i64 d.pl :: .int .i64 d.ly :: .int .i64 d.lf :: .int .i64 d.wd :: .int .i64 d.who :: .int .i64 d.x :: .int .i64 d.y :: .int .i64 d.un :: .slice tA tl.length tc :: .int .i64 ta :: .slice lA ll.length lc :: .bool dn :: []) 38
  have m1 := m.later hb
  have b14 := rg R 14 rfl
  have b15 := rg R 15 rfl
  have b20 := rg R 20 rfl
  have b21 := rg R 21 rfl
  have b22 := rg R 22 rfl
  have b33 := rg R 33 rfl
  have b35 := rg R 35 rfl
  clear m R
  go_enter Try.func9, Try.ntmps9
  go_wp2
  generalize (w.alloc (.cells (List.toArray (.int .i64 x0 :: .int .i64 x1 :: .int .i64 x2 :: .int .i64 x3 :: .int .i64 x4 :: .int .i64 x5 :: .int .i64 x6 :: .int .i64 x7 :: .bool b :: .int .i64 x9 :: .int .i64 x10 :: .int .i64 x11 :: .int .i64 tt :: .int .i64 now :: .slice mA ws.length mc :: .slice mB bs.length md :: .int .i64 d.ph :: .int .i64 d.it :: .int .i64 d.tg :: .int .i64 d.v :: .slice p.bA d.bl.length p.bc :: .slice p.kA d.kl.length p.kc :: .slice p.hA d.hl.length p.hc :: .int .i64 d.st :: .int .i64 d.nd :: .int .i64 d.pl :: .int .i64 d.ly :: .int .i64 d.lf :: .int .i64 d.wd :: .int .i64 d.who :: .int .i64 d.x :: .int .i64 d.y :: .int .i64 d.un :: .slice tA tl.length tc :: .int .i64 ta :: .slice lA ll.length lc :: .bool dn :: [])) 38)) = wz at *
  go_loopw [3] (fun i wr => ∃ j : Nat, j ≤ bs.length ∧ j ≤ 20 ∧ i = .int .i64 j ∧ (∀ q ∈ bs.take j, q.l.length ≤ 20) ∧ wr = wz) (fun i _ => 20 - (intOf i).toNat)
  case atStart => exact ⟨0, Nat.zero_le _, by omega, rfl, by simp, rfl⟩
  case round =>
    obtain ⟨j, hj, hj6, rfl, hany, rfl⟩ := hrel
    have HANY := hide hany
    clear hany
    by_cases hlt : j < bs.length
    · by_cases h6 : j < 20
      · obtain ⟨bb, off, rfl, hb', hc⟩ := m1.bxs.2 (by omega)
        obtain ⟨qq, hq⟩ : ∃ q, bs[j]? = some q := ⟨bs[j], List.getElem?_eq_getElem hlt⟩
        have hcq := hc j qq.val (by simp [hq])
        have HT := hide (take_snoc bs j qq hq)
        obtain ⟨qA, qc, ql⟩ := qq
        simp only [Bt.val] at hcq
        have hi6 : (j : Int) < 20 := by omega
        have hil : (j : Int) < (bs.length : Int) := by omega
        have hi0 : (0 : Int) ≤ (j : Int) := Int.natCast_nonneg _
        clear hc hq m1
        by_cases h50 : 20 < ql.length
        · have h50' : (20 : Int) < (ql.length : Int) := by omega
          go_wp2
          go_ret
          exact ⟨true, rfl, fun hr => (by cases hr), hb⟩
        · have h50' : ¬ (20 : Int) < (ql.length : Int) := by omega
          go_wp2
          go_roundw
          case rel => exact ⟨j + 1, by omega, by omega, by go_num, fun q hq => (by rw [HT.out] at hq; rcases List.mem_append.1 hq with hq | hq; exact HANY.out q hq; simp at hq; subst hq; show ql.length ≤ 20; omega), trivial⟩
          case measure => simp [intOf]; omega
      · obtain rfl : j = 20 := by omega
        clear m1
        go_wp2
        all_goals go_ret
        all_goals first
          | exact ⟨true, rfl, fun hr => (by cases hr), hb⟩
          | exact ⟨false, rfl, fun _ => ⟨by omega, by omega, (by exfalso; omega), by omega, by omega, by omega, by omega, by omega⟩, hb⟩
          | (refine ⟨_, rfl, fun hr => ?_, hb⟩; simp at hr; exact ⟨by omega, by omega, (by exfalso; omega), by omega, by omega, by omega, by omega, by omega⟩)
    · obtain rfl : j = bs.length := by omega
      have H20 := hide (show ∀ q ∈ bs, q.l.length ≤ 20 by have h := HANY.out; rwa [List.take_length] at h)
      clear m1
      go_wp2
      all_goals go_ret
      all_goals first
        | exact ⟨true, rfl, fun hr => (by cases hr), hb⟩
        | exact ⟨false, rfl, fun _ => ⟨by omega, by omega, H20.out, by omega, by omega, by omega, by omega, by omega⟩, hb⟩
        | (refine ⟨_, rfl, fun hr => ?_, hb⟩; simp at hr; exact ⟨by omega, by omega, H20.out, by omega, by omega, by omega, by omega, by omega⟩)
end Go.Proofs.Ytjghdbkkjhnpfaa
