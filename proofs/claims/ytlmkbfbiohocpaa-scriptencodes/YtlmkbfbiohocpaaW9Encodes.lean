/- The walk of ScriptEncodes. -/
import Derived.Test.YtlmkbfbiohocpaaW9Base
namespace Go.Proofs.Ytlmkbfbiohocpaa
open Go.RowKit Go.Sort

set_option maxRecDepth 100000 in
set_option maxHeartbeats 4000000 in
theorem walkEncodes (A : Option Addr) (cap : Nat) (l : List E5) (len : Nat) (hlen : len = l.length) (w : World) (hs : Sees w w.heap.size 5 A len (ec5 l)) : Calls Try.prog 4 #[.slice A len cap] w (BoolPost true w) := by
  have HL := hide hlen
  clear hlen
  by_cases hbig : 300 < len
  · go_enter Try.func4, Try.ntmps4
    go_wp2_with (go_at_call 9; refine (shown9_any _).mono ?_; rintro x w1 ⟨rfl, hb1⟩)
    go_ret
    exact ⟨rfl, hb1⟩
  · have hd : decide (300 < (len : Int)) = false := decide_eq_false (by omega)
    have hmax : len ≤ 100000 := by omega
    have hB : Below w.heap.size w w := Below.refl _ _
    obtain ⟨st, est⟩ : ∃ st, strOfNums (encL l) = st := ⟨_, rfl⟩
    have K1 := hide (enc_any A cap l len HL.out hmax)
    have K3 := hide (fun A c => renc_any A c l len HL.out hmax)
    rw [est] at K1
    simp only [est] at K3
    clear est
    go_enter Try.func4, Try.ntmps4
    go_wp2_with fail
    refine (shown9_any _).mono ?_
    rintro x w1 ⟨rfl, hb⟩
    replace hs := hs.later hb
    replace hB := below_next hB hB.size hb
    clear hb
    go_wp2_with fail
    refine (K1.out _ hs).mono ?_
    rintro x w2 ⟨rfl, hb⟩
    replace hs := hs.later hb
    replace hB := below_next hB hB.size hb
    clear hb
    go_wp2_with fail
    refine (its9_any A cap l len HL.out hmax _ hs).mono ?_
    rintro x w3 ⟨A3, c3, rfl, hc3, hs3, hb⟩
    replace hs := hs.later hb
    replace hB := below_next hB hB.size hb
    clear hb
    go_wp2_with fail
    refine (K3.out A3 c3 _ hs3).mono ?_
    rintro x w4 ⟨rfl, hb⟩
    replace hB := below_next hB hB.size hb
    clear hb
    go_wp2
    go_ret
    exact ⟨rfl, hB⟩
end Go.Proofs.Ytlmkbfbiohocpaa
