/- A thread that meets nobody: what holds. -/
import Derived.Test.YtjghdbkkjhnpfaaW15AloneM
import Derived.Lib.QuietBelow
import Derived.Deep.QuietTactic
import Derived.BigQuiet
namespace Go.Proofs.Ytjghdbkkjhnpfaa
open Go.RowKit Go.Sort
set_option linter.unusedVariables false
set_option linter.unusedSimpArgs false

theorem dr_in {u : Tn} (w1 : 1 ≤ u.d.wd) (w2 : u.d.wd ≤ u.c.x5) : 0 ≤ drV u ∧ drV u < u.c.x5 := by
  unfold drV blD
  rw [if_neg (by omega)]
  have h1 := Int.emod_nonneg (nxD u.tl u.ta) (b := u.d.wd) (by omega)
  have h2 := Int.emod_lt_of_pos (nxD u.tl u.ta) (b := u.d.wd) (by omega)
  omega
theorem al_h {u : Tn} {m : Nat} (my : MayOk u m) (hm : u.bx.length = m) (hly : 1 ≤ u.d.ly) (hlx : u.d.ly ≤ u.c.x4) (w1 : 1 ≤ u.d.wd) (w2 : u.d.wd ≤ u.c.x5) (hu : u.d.un = 0) (t16 : u.tt ≤ 15) : ∃ k p, AlH u (slN u 0 u.c.x5.toNat) k p := by
  obtain ⟨k, hk, hkl, hke⟩ := ln_in my my.t0 my.t1
  have hd := dr_in w1 w2
  obtain ⟨p, hp, hpl, hp1, _⟩ := sl_in my hly hlx hd.1 hd.2
  have z := slN_at my 0 hly hlx u.c.x5.toNat (by omega) (s := (drV u).toNat) (by omega)
  rw [Int.toNat_of_nonneg hd.1, hp] at z
  have t0 := my.t0
  have t1 := my.t1
  have hb := my.b
  exact ⟨k, p, hk, by rw [slN_length]; exact hkl, hp, by rw [slN_length]; exact hpl, by omega, by simpa using z, ⟨t0, by omega⟩, t16, by rw [lateB, hu]; rfl, (ok_my my).h6⟩
theorem bl_i64 {l : List Int} {a : Int} (hl : l.length ≤ 10000) (ha : I64 a) (n : Int) : I64 (blA l a n) := by
  have e := restT_length l a
  unfold blA nxA
  split
  · exact ha
  · split
    · rename_i h
      unfold I64 at ha ⊢
      split at e
      · omega
      · omega
    · exact ha
theorem al_i64 (u : Tn) (W : List Int) (k p n : Nat) (hl : u.tl.length ≤ 10000) (ha : I64 u.ta) : I64 (alT u W k p n).ta := by
  rcases alT_ta u W k p n with e | e
  · rw [e]; exact ha
  · rw [e]; exact bl_i64 hl ha _
end Go.Proofs.Ytjghdbkkjhnpfaa
