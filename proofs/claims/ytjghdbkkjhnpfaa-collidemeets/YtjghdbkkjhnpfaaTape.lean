/- Plain mathematics of tapes: the draws that are left, the next one, what is behind some. Nothing of the program. -/
import Derived.Test.YtjghdbkkjhnpfaaComm
import Derived.Test.YtjghdbkkjhnpfaaM2
namespace Go.Proofs.Ytjghdbkkjhnpfaa
open Go.RowKit

/-- The draws that are left. -/
def restT (l : List Int) (a : Int) : List Int := if a < 0 then [] else l.drop a.toNat
def nxD (l : List Int) (a : Int) : Int := (restT l a).headD 0
def nxA (l : List Int) (a : Int) : Int := if 0 < (restT l a).length then a + 1 else a
def skA (l : List Int) (a n : Int) : Int := a + ((min n.toNat (restT l a).length : Nat) : Int)
def blD (l : List Int) (a n : Int) : Int := if n < 1 then 0 else nxD l a % n
def blA (l : List Int) (a n : Int) : Int := if n < 1 then a else nxA l a

theorem restT_length (l : List Int) (a : Int) : ((restT l a).length : Int) = if a < 0 then 0 else max 0 (l.length - a) := by
  unfold restT
  split
  · rfl
  · rw [List.length_drop]; omega
theorem restT_le (l : List Int) (a : Int) : (restT l a).length ≤ l.length := by
  unfold restT
  split
  · simp
  · rw [List.length_drop]; omega
theorem restT_spent {l : List Int} {a : Int} (h : a < 0 ∨ (l.length : Int) ≤ a) : restT l a = [] := by
  unfold restT
  split
  · rfl
  · exact List.drop_eq_nil_of_le (by omega)
theorem restT_at {l : List Int} {k : Nat} {v : Int} (h : l[k]? = some v) : restT l (k : Int) = v :: restT l ((k : Int) + 1) := by
  unfold restT
  rw [if_neg (by omega), if_neg (by omega)]
  have hk : k < l.length := by
    rcases Nat.lt_or_ge k l.length with h' | h'
    · exact h'
    · rw [List.getElem?_eq_none h'] at h; cases h
  rw [show ((k : Int)).toNat = k by omega, show ((k : Int) + 1).toNat = k + 1 by omega, List.drop_eq_getElem_cons hk]
  rw [List.getElem?_eq_getElem hk] at h
  injection h with h
  rw [h]
/-- A tape is spent, or its next draw is there. -/
theorem tape_cases (l : List Int) (a : Int) : (∃ (k : Nat) (v : Int), a = (k : Int) ∧ k < l.length ∧ l[k]? = some v ∧ restT l a = v :: restT l (a + 1)) ∨ ((a < 0 ∨ (l.length : Int) ≤ a) ∧ restT l a = []) := by
  by_cases h : a < 0 ∨ (l.length : Int) ≤ a
  · exact .inr ⟨h, restT_spent h⟩
  · refine .inl ?_
    obtain ⟨k, rfl⟩ : ∃ k : Nat, a = (k : Int) := ⟨a.toNat, by omega⟩
    have hk : k < l.length := by omega
    have hv : l[k]? = some l[k] := List.getElem?_eq_getElem hk
    exact ⟨k, l[k], rfl, hk, hv, restT_at hv⟩
theorem nxD_at {l : List Int} {a v : Int} {r : List Int} (h : restT l a = v :: r) : nxD l a = v ∧ nxA l a = a + 1 := by simp [nxD, nxA, h]
theorem nxD_no {l : List Int} {a : Int} (h : restT l a = []) : nxD l a = 0 ∧ nxA l a = a := by simp [nxD, nxA, h]
theorem restT_get {l : List Int} {a : Int} {j : Nat} (hj : j < (restT l a).length) : ∃ (k : Nat) (v : Int), a = (k : Int) ∧ k + j < l.length ∧ l[k + j]? = some v ∧ (restT l a)[j]? = some v := by
  have h0 : ¬ a < 0 := fun h => by rw [restT_spent (.inl h)] at hj; simp at hj
  obtain ⟨k, rfl⟩ : ∃ k : Nat, a = (k : Int) := ⟨a.toNat, by omega⟩
  have e : restT l (k : Int) = l.drop k := by unfold restT; rw [if_neg (by omega)]; congr 1
  rw [e, List.length_drop] at hj
  refine ⟨k, l[k + j]'(by omega), rfl, by omega, List.getElem?_eq_getElem _, ?_⟩
  rw [e, List.getElem?_drop]
  exact List.getElem?_eq_getElem _
theorem restT_i64 {l : List Int} {a : Int} (h : ∀ x ∈ l, I64 x) : ∀ x ∈ restT l a, I64 x := by
  unfold restT
  split
  · simp
  · exact fun x hx => h x (List.mem_of_mem_drop hx)
theorem nxD_i64 {l : List Int} {a : Int} (h : ∀ x ∈ l, I64 x) : I64 (nxD l a) := by
  rcases tape_cases l a with ⟨k, v, _, _, _, e⟩ | ⟨_, e⟩
  · rw [(nxD_at e).1]; exact restT_i64 h v (by rw [e]; simp)
  · rw [(nxD_no e).1]; unfold I64; omega
theorem nxA_i64 {l : List Int} {a : Int} (hl : l.length ≤ 20000) (h : I64 a) : I64 (nxA l a) := by
  rcases tape_cases l a with ⟨k, v, rfl, hk, _, e⟩ | ⟨_, e⟩
  · rw [(nxD_at e).2]; unfold I64; omega
  · rw [(nxD_no e).2]; exact h

/-- A new tape: its draws are new memory. -/
def TpPost (l : List Int) (a : Int) (w : World) (e : Ending) (w' : World) : Prop :=
  ∃ A c, e = .returned (.agg #[.slice A l.length c, .int .i64 a]) ∧ Sees w' w'.heap.size 1 A l.length (l.map (Value.int .i64)) ∧ Fresh w A ∧ Below w.heap.size w w'
/-- A draw, and a new tape. -/
def DTPost (d : Int) (l : List Int) (a : Int) (w : World) (e : Ending) (w' : World) : Prop :=
  ∃ A c, e = .returned (.tuple #[.int .i64 d, .agg #[.slice A l.length c, .int .i64 a]]) ∧ Sees w' w'.heap.size 1 A l.length (l.map (Value.int .i64)) ∧ Fresh w A ∧ Below w.heap.size w w'

end Go.Proofs.Ytjghdbkkjhnpfaa
