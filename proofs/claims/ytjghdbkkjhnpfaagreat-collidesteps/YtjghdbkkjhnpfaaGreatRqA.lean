/- The document's Join. -/
import Derived.Test.YtjghdbkkjhnpfaaGreatGaA
import Derived.Test.YtjghdbkkjhnpfaaGreatM1
import Derived.Test.YtjghdbkkjhnpfaaGreatM2
import Derived.Test.YtjghdbkkjhnpfaaGreatM6
import Derived.Lib.QuietBelow
import Derived.Deep.QuietTactic
import Derived.BigQuiet
import Derived.Deep.RegionHeld3
namespace Go.Proofs.YtjghdbkkjhnpfaaGreat
open Go.RowKit Go.Sort
set_option linter.unusedVariables false
set_option linter.unusedSimpArgs false

set_option maxRecDepth 100000 in
set_option maxHeartbeats 4000000 in
theorem rjoinF_any (A : Option Addr) (cap : Nat) (bs : List Bt) (len : Nat) (hlen : len = bs.length) (hmax : len ≤ 100000) (hf : (flat bs).length ≤ 100000) (w : World)
    (hs : Sees w w.heap.size 1 A len (bs.map Bt.val)) (hq : ∀ q ∈ bs, q.Ok w) :
    Calls Tryz.prog 58 #[.slice A len cap] w (FRowPost 3 (flat bs).length (ecells (flat bs)) w) := by
  obtain ⟨i0, hi0, hz0, hz1, hz2⟩ := info_parts info52
  have HL := hide hlen
  clear hlen
  go_enter Tryz.func58, Tryz.ntmps58
  go_wp2
  go_loopw [3, 4] (fun a i wr => ∃ j : Nat, j ≤ len ∧ i = .int .i64 j ∧ wr.ownsRow w.heap.size 180 3 a (flat (bs.take j)).length (ecells (flat (bs.take j))) ∧ Below w.heap.size w wr)
    (fun _ i _ => len - (intOf i).toNat)
  case atStart => exact ⟨0, Nat.zero_le _, rfl, own_empty w _ _ _ (Nat.le_refl _), (Below.refl _ _).alloc (Nat.le_refl _) _⟩
  case round =>
    obtain ⟨j, hj, rfl, hown, hB⟩ := hrel
    by_cases hlt : j < len
    · obtain ⟨b, off, rfl, hb, hc⟩ := hs.2 (by omega)
      obtain ⟨q, hqj⟩ : ∃ q, bs[j]? = some q := ⟨bs[j]'(by have := HL.out; omega), List.getElem?_eq_getElem _⟩
      have hcq := hc j q.val (by simp [hqj])
      have hcr : wr.cell? ⟨b, off + j, none⟩ = some q.val := (hB.cell (p := ⟨b, off + j, none⟩) hb).trans hcq
      have hok : Sees wr w.heap.size 3 q.A q.l.length (ecells q.l) := (hq q (List.mem_of_getElem? hqj)).below hB
      have HT := hide (take_snoc bs j q hqj)
      have hle : (flat (bs.take j)).length + q.l.length ≤ 100000 := by
        have := flat_take_le bs (j + 1)
        rw [HT.out, flat_snoc, List.length_append] at this
        omega
      obtain ⟨qA, qc, ql⟩ := q
      simp only [Bt.val] at hcr hok hle
      clear hc hcq hqj
      go_wp2_with (at_builtin; refine wpList_app _ rfl _ _ 48 rfl w.heap.size 180 i0 _ 3 24 Tryz.underlying48 hi0 hz0 hz1 hz2 rfl (by omega) _ _ _ rfl hown w.heap.size qA ql.length qc (ecells ql) rfl hok (ecells_one ql) (by unfold maxLen; omega) (by omega) hB.size ?_; intro v1 w1 hown1 hg1)
      go_roundw
      case rel => exact ⟨j + 1, by omega, by go_num, by rw [HT.out, flat_snoc, List.length_append, ecells_append]; exact hown1, hB.grown hg1 hB.size (own_at hown)⟩
      case measure => simp [intOf]; omega
    · obtain rfl : j = len := by omega
      have HT := hide (show bs.take j = bs by rw [HL.out, List.take_length])
      go_wp2
      go_ret
      rw [HT.out] at hown
      obtain ⟨A', c', rfl, hc'⟩ := own_form hown
      exact ⟨A', c', rfl, hc', Sees.of_own hown, fresh_own hown, hB⟩

end Go.Proofs.YtjghdbkkjhnpfaaGreat
