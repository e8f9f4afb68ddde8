/- The walk of ScriptDecodes. -/
import Derived.Test.YtlmkbfbiohocpaaW9Base
namespace Go.Proofs.Ytlmkbfbiohocpaa
open Go.RowKit Go.Sort

set_option maxRecDepth 100000 in
set_option maxHeartbeats 4000000 in
theorem walkDecodes (s : ByteArray) (w : World) : Calls Try.prog 5 #[.string s] w (BoolPost true w) := by
  by_cases hbig : 2000 < s.size
  · go_enter Try.func5, Try.ntmps5
    go_wp2_with (go_at_call 9; refine (shown9_any _).mono ?_; rintro x w1 ⟨rfl, hb1⟩)
    go_ret
    exact ⟨rfl, hb1⟩
  · have hd : decide (2000 < (s.size : Int)) = false := decide_eq_false (by omega)
    have hmax : s.size ≤ 1000000 := by omega
    have hB : Below w.heap.size w w := Below.refl _ _
    have HP := hide (dec_place0 (nums s)).2
    rw [nums_length] at HP
    obtain ⟨⟨m, p, e⟩, hr⟩ : ∃ r, decG (nums s) 0 [] = r := ⟨_, rfl⟩
    have K1 := hide (dec_any s hmax)
    have K2 := hide (rdec_any s hmax)
    rw [hr] at K1 K2 HP
    clear hr
    go_enter Try.func5, Try.ntmps5
    go_wp2_with fail
    refine (shown9_any _).mono ?_
    rintro x w1 ⟨rfl, hb⟩
    replace hB := below_next hB hB.size hb
    clear hb
    go_wp2_with fail
    refine (K1.out _).mono ?_
    rintro x w2 ⟨A2, c2, rfl, hc2, hs2, hb⟩
    replace hB := below_next hB hB.size hb
    clear hb
    go_wp2_with fail
    refine (K2.out _).mono ?_
    rintro x w3 ⟨A3, c3, rfl, hc3, hs3, hb⟩
    replace hs2 := hs2.later hb
    replace hB := below_next hB hB.size hb
    clear hb
    have hl : m.length ≤ 100000 := (by have h1 : m.length ≤ s.size := HP.out; omega)
    go_wp2_with fail
    refine (its9_any A2 c2 m m.length rfl hl _ hs2).mono ?_
    rintro x w4 ⟨A4, c4, rfl, hc4, hs4, hb⟩
    replace hs2 := hs2.later hb
    replace hs3 := hs3.later hb
    replace hB := below_next hB hB.size hb
    clear hb
    have K5 := hide (same9_any A4 A3 c4 c3 m.length m.length m m rfl rfl hl w4 hs4 hs3)
    rw [show decide (m = m) = true from decide_eq_true rfl] at K5
    go_wp2_with fail
    refine (K5.out).mono ?_
    rintro x w5 ⟨rfl, hb⟩
    replace hB := below_next hB hB.size hb
    clear hb
    go_wp2
    go_ret
    exact ⟨rfl, hB⟩
end Go.Proofs.Ytlmkbfbiohocpaa
