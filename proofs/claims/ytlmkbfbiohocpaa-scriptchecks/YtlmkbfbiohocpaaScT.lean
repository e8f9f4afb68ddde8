/- The program's 'through', with whatever function value that keeps to blocks of its own: for put and for take. -/
import Derived.Test.YtlmkbfbiohocpaaScR
namespace Go.Proofs.Ytlmkbfbiohocpaa
open Go.RowKit

def PsPost {S : Type} (At : (Nat → Prop) → S → World → Prop) (av : Nat → Prop) (s : S) (a : Int) (w : World) (x : Ending) (w' : World) : Prop := x = .returned (.int .i64 a) ∧ At av s w' ∧ Kept av w w'
/-- A function value to which numbers are handed: what it lies as (At), what it may still take (room), where it goes on (nxt), what it answers (ans). -/
structure Passes (F g : Nat) {S : Type} (At : (Nat → Prop) → S → World → Prop) (room : Nat → S → Prop) (nxt : S → Int → Nat → S) (ans : S → Int → Nat → Int) : Prop where
  call1 : ∀ av s n w, room 1 s → At av s w → Calls Try.prog F #[.pointer (some ⟨g, 0, none⟩), .int .i64 n, .int .i64 1] w (PsPost At av (nxt s n 1) (ans s n 1) w)
  call8 : ∀ av s n w, room 8 s → At av s w → Calls Try.prog F #[.pointer (some ⟨g, 0, none⟩), .int .i64 n, .int .i64 8] w (PsPost At av (nxt s n 8) (ans s n 8) w)
  more : ∀ av s w o, At av s w → At (fun k => av k ∨ k = w.heap.size) s (w.alloc o)
  less : ∀ av av' s w, (∀ k, av' k → av k) → At av s w → At av' s w
  store : ∀ av s w p u, At av s w → av p.block → At av s (w.setCell p u)
  lt : ∀ av s w, At av s w → ∀ k, av k → k < w.heap.size
  rest : ∀ b s n size, room (b + size) s → room b (nxt s n size)
  some : ∀ b c s, room (b + c) s → room c s

/-- Where it stands behind an entry, and what the entry is then. -/
def thr {S : Type} (nxt : S → Int → Nat → S) (ans : S → Int → Nat → Int) (s : S) (k t i g v : Int) : S × E5 :=
  if ans s k 1 = 1 then
    (nxt (nxt (nxt (nxt (nxt s k 1) t 1) i 1) g 1) v 8,
      (1, ans (nxt s k 1) t 1, ans (nxt (nxt s k 1) t 1) i 1, ans (nxt (nxt (nxt s k 1) t 1) i 1) g 1, ans (nxt (nxt (nxt (nxt s k 1) t 1) i 1) g 1) v 8))
  else if ans s k 1 = 2 then (nxt (nxt s k 1) t 1, (2, ans (nxt s k 1) t 1, i, g, v))
  else (nxt s k 1, (ans s k 1, t, i, g, v))

/-- The call's own two blocks: the entry, and the result. -/
structure ThAt (B : Nat) (k t i g v : Int) (w : World) : Prop where
  e : w.heap[B]? = some (.cells #[.int .i64 k, .int .i64 t, .int .i64 i, .int .i64 g, .int .i64 v] 38 (0, 0))
  r : w.heap[B + 1]? = some (.cells #[.int .i64 0, .int .i64 0, .int .i64 0, .int .i64 0, .int .i64 0] 38 (0, 0))
theorem ThAt.kept {B : Nat} {k t i g v : Int} {w w' : World} {av : Nat → Prop} (h : ThAt B k t i g v w) (hk : Kept av w w') (h0 : av B) (h1 : av (B + 1)) : ThAt B k t i g v w' :=
  ⟨(hk.block _ h0).trans h.e, (hk.block _ h1).trans h.r⟩
section
variable {B : Nat} {k t i g v : Int} {w : World} (h : ThAt B k t i g v w) (x : Int)
include h
theorem ThAt.set0 : ThAt B x t i g v (w.setCell ⟨B, 0, none⟩ (.int .i64 x)) := ⟨by simpa using heap_set h.e (.int .i64 x) (i := 0), by rw [Below.heap_setCell _ _ _ _ (by show B + 1 ≠ B; omega)]; exact h.r⟩
theorem ThAt.set1 : ThAt B k x i g v (w.setCell ⟨B, 1, none⟩ (.int .i64 x)) := ⟨by simpa using heap_set h.e (.int .i64 x) (i := 1), by rw [Below.heap_setCell _ _ _ _ (by show B + 1 ≠ B; omega)]; exact h.r⟩
theorem ThAt.set2 : ThAt B k t x g v (w.setCell ⟨B, 2, none⟩ (.int .i64 x)) := ⟨by simpa using heap_set h.e (.int .i64 x) (i := 2), by rw [Below.heap_setCell _ _ _ _ (by show B + 1 ≠ B; omega)]; exact h.r⟩
theorem ThAt.set3 : ThAt B k t i x v (w.setCell ⟨B, 3, none⟩ (.int .i64 x)) := ⟨by simpa using heap_set h.e (.int .i64 x) (i := 3), by rw [Below.heap_setCell _ _ _ _ (by show B + 1 ≠ B; omega)]; exact h.r⟩
theorem ThAt.set4 : ThAt B k t i g x (w.setCell ⟨B, 4, none⟩ (.int .i64 x)) := ⟨by simpa using heap_set h.e (.int .i64 x) (i := 4), by rw [Below.heap_setCell _ _ _ _ (by show B + 1 ≠ B; omega)]; exact h.r⟩
end
/-- What a call of the function value does: from A to A', answering a. -/
def Steps9 (F g : Nat) (bv : Nat → Prop) (n sz : Int) (A A' : World → Prop) (a : Int) : Prop :=
  ∀ w, A w → Calls Try.prog F #[.pointer (some ⟨g, 0, none⟩), .int .i64 n, .int .i64 sz] w (fun x w' => x = .returned (.int .i64 a) ∧ A' w' ∧ Kept bv w w')
def Stores9 (bv : Nat → Prop) (A : World → Prop) : Prop := ∀ w p u, A w → bv p.block → A (w.setCell p u)
/-- The blocks ahead of the call, and its own two. -/
structure Frame9 (av bv : Nat → Prop) (B : Nat) : Prop where
  sub : ∀ j, av j → bv j
  in0 : bv B
  in1 : bv (B + 1)
  n0 : ¬ av B
  n1 : ¬ av (B + 1)
def ThPost {S : Type} (At : (Nat → Prop) → S → World → Prop) (av : Nat → Prop) (r : S × E5) (w : World) (x : Ending) (w' : World) : Prop :=
  x = .returned (.agg #[.int .i64 r.2.1, .int .i64 r.2.2.1, .int .i64 r.2.2.2.1, .int .i64 r.2.2.2.2.1, .int .i64 r.2.2.2.2.2]) ∧ At av r.1 w' ∧ Kept av w w'

set_option maxRecDepth 100000 in
set_option maxHeartbeats 4000000 in
theorem th1_put (g : Nat) (av bv : Nat → Prop) (A0 A1 A2 A3 A4 A5 : World → Prop) (k t i q v a2 a3 a4 a5 : Int) (w : World) (fr : Frame9 av bv w.heap.size)
    (C1 : Steps9 26 g bv k 1 A0 A1 1) (S1 : Stores9 bv A1)
    (C2 : Steps9 26 g bv t 1 A1 A2 a2) (S2 : Stores9 bv A2)
    (C3 : Steps9 26 g bv i 1 A2 A3 a3) (S3 : Stores9 bv A3)
    (C4 : Steps9 26 g bv q 1 A3 A4 a4) (S4 : Stores9 bv A4)
    (C5 : Steps9 26 g bv v 8 A4 A5 a5) (S5 : Stores9 bv A5)
    (h : A0 ((w.alloc (.cells #[.int .i64 k, .int .i64 t, .int .i64 i, .int .i64 q, .int .i64 v] 38)).alloc (.cells #[.int .i64 0, .int .i64 0, .int .i64 0, .int .i64 0, .int .i64 0] 38))) (T0 : ThAt w.heap.size k t i q v ((w.alloc (.cells #[.int .i64 k, .int .i64 t, .int .i64 i, .int .i64 q, .int .i64 v] 38)).alloc (.cells #[.int .i64 0, .int .i64 0, .int .i64 0, .int .i64 0, .int .i64 0] 38))) (K0 : Kept av w ((w.alloc (.cells #[.int .i64 k, .int .i64 t, .int .i64 i, .int .i64 q, .int .i64 v] 38)).alloc (.cells #[.int .i64 0, .int .i64 0, .int .i64 0, .int .i64 0, .int .i64 0] 38))) :
    Calls Try.prog 27 #[.agg #[.int .i64 k, .int .i64 t, .int .i64 i, .int .i64 q, .int .i64 v], .func (.func 26) #[.pointer (some ⟨g, 0, none⟩)] #[]] w
      (fun x w' => x = .returned (.agg #[.int .i64 1, .int .i64 a2, .int .i64 a3, .int .i64 a4, .int .i64 a5]) ∧ A5 w' ∧ Kept av w w') := by
  have FR' := hide fr
  have HH' := hide h
  have T0' := hide T0
  have K0' := hide K0
  have C1' := hide C1
  have C2' := hide C2
  have C3' := hide C3
  have C4' := hide C4
  have C5' := hide C5
  have S1' := hide S1
  have S2' := hide S2
  have S3' := hide S3
  have S4' := hide S4
  have S5' := hide S5
  clear fr h T0 K0 C1 S1 C2 S2 C3 S3 C4 S4 C5 S5
  go_enter Try.func27, Try.ntmps27
  go_wp2_with fail
  refine (C1'.out _ HH'.out).mono ?_
  rintro x w1 ⟨rfl, hA, hK⟩
  have hT := T0'.out.kept hK FR'.out.in0 FR'.out.in1
  have hK1 := K0'.out.trans (hK.mono FR'.out.sub)
  clear T0' K0' HH' hK
  have T0' := hide (hT.set0 1)
  have K0' := hide (hK1.setCell (p := ⟨w.heap.size, 0, none⟩) FR'.out.n0 (.int .i64 1))
  have HH' := hide (S1'.out w1 ⟨w.heap.size, 0, none⟩ (.int .i64 1) hA FR'.out.in0)
  have c0 := heap_cell hT.e 0
  have f0 := heap_frozen hT.e 0
  have c1 := heap_cell hT.e 1
  have f1 := heap_frozen hT.e 1
  have c2 := heap_cell hT.e 2
  have f2 := heap_frozen hT.e 2
  have c3 := heap_cell hT.e 3
  have f3 := heap_frozen hT.e 3
  have c4 := heap_cell hT.e 4
  have f4 := heap_frozen hT.e 4
  simp only [List.getElem?_toArray, List.getElem?_cons_zero, List.getElem?_cons_succ] at c0 c1 c2 c3 c4
  clear hT hK1 hA
  go_wp2_with fail
  refine (C2'.out _ HH'.out).mono ?_
  rintro x w2 ⟨rfl, hA, hK⟩
  have hT := T0'.out.kept hK FR'.out.in0 FR'.out.in1
  have hK1 := K0'.out.trans (hK.mono FR'.out.sub)
  clear T0' K0' HH' hK
  have T0' := hide (hT.set1 a2)
  have K0' := hide (hK1.setCell (p := ⟨w.heap.size, 1, none⟩) FR'.out.n0 (.int .i64 a2))
  have HH' := hide (S2'.out w2 ⟨w.heap.size, 1, none⟩ (.int .i64 a2) hA FR'.out.in0)
  have c0 := heap_cell hT.e 0
  have f0 := heap_frozen hT.e 0
  have c1 := heap_cell hT.e 1
  have f1 := heap_frozen hT.e 1
  have c2 := heap_cell hT.e 2
  have f2 := heap_frozen hT.e 2
  have c3 := heap_cell hT.e 3
  have f3 := heap_frozen hT.e 3
  have c4 := heap_cell hT.e 4
  have f4 := heap_frozen hT.e 4
  simp only [List.getElem?_toArray, List.getElem?_cons_zero, List.getElem?_cons_succ] at c0 c1 c2 c3 c4
  clear hT hK1 hA
  go_wp2_with fail
  refine (C3'.out _ HH'.out).mono ?_
  rintro x w3 ⟨rfl, hA, hK⟩
  have hT := T0'.out.kept hK FR'.out.in0 FR'.out.in1
  have hK1 := K0'.out.trans (hK.mono FR'.out.sub)
  clear T0' K0' HH' hK
  have T0' := hide (hT.set2 a3)
  have K0' := hide (hK1.setCell (p := ⟨w.heap.size, 2, none⟩) FR'.out.n0 (.int .i64 a3))
  have HH' := hide (S3'.out w3 ⟨w.heap.size, 2, none⟩ (.int .i64 a3) hA FR'.out.in0)
  have c0 := heap_cell hT.e 0
  have f0 := heap_frozen hT.e 0
  have c1 := heap_cell hT.e 1
  have f1 := heap_frozen hT.e 1
  have c2 := heap_cell hT.e 2
  have f2 := heap_frozen hT.e 2
  have c3 := heap_cell hT.e 3
  have f3 := heap_frozen hT.e 3
  have c4 := heap_cell hT.e 4
  have f4 := heap_frozen hT.e 4
  simp only [List.getElem?_toArray, List.getElem?_cons_zero, List.getElem?_cons_succ] at c0 c1 c2 c3 c4
  clear hT hK1 hA
  go_wp2_with fail
  refine (C4'.out _ HH'.out).mono ?_
  rintro x w4 ⟨rfl, hA, hK⟩
  have hT := T0'.out.kept hK FR'.out.in0 FR'.out.in1
  have hK1 := K0'.out.trans (hK.mono FR'.out.sub)
  clear T0' K0' HH' hK
  have T0' := hide (hT.set3 a4)
  have K0' := hide (hK1.setCell (p := ⟨w.heap.size, 3, none⟩) FR'.out.n0 (.int .i64 a4))
  have HH' := hide (S4'.out w4 ⟨w.heap.size, 3, none⟩ (.int .i64 a4) hA FR'.out.in0)
  have c0 := heap_cell hT.e 0
  have f0 := heap_frozen hT.e 0
  have c1 := heap_cell hT.e 1
  have f1 := heap_frozen hT.e 1
  have c2 := heap_cell hT.e 2
  have f2 := heap_frozen hT.e 2
  have c3 := heap_cell hT.e 3
  have f3 := heap_frozen hT.e 3
  have c4 := heap_cell hT.e 4
  have f4 := heap_frozen hT.e 4
  simp only [List.getElem?_toArray, List.getElem?_cons_zero, List.getElem?_cons_succ] at c0 c1 c2 c3 c4
  clear hT hK1 hA
  go_wp2_with fail
  refine (C5'.out _ HH'.out).mono ?_
  rintro x w5 ⟨rfl, hA, hK⟩
  have hT := T0'.out.kept hK FR'.out.in0 FR'.out.in1
  have hK1 := K0'.out.trans (hK.mono FR'.out.sub)
  clear T0' K0' HH' hK
  have T0' := hide (hT.set4 a5)
  have K0' := hide (hK1.setCell (p := ⟨w.heap.size, 4, none⟩) FR'.out.n0 (.int .i64 a5))
  have HH' := hide (S5'.out w5 ⟨w.heap.size, 4, none⟩ (.int .i64 a5) hA FR'.out.in0)
  have c0 := heap_cell hT.e 0
  have f0 := heap_frozen hT.e 0
  have d0 := heap_cell hT.r 0
  have z0 := heap_frozen hT.r 0
  have c1 := heap_cell hT.e 1
  have f1 := heap_frozen hT.e 1
  have d1 := heap_cell hT.r 1
  have z1 := heap_frozen hT.r 1
  have c2 := heap_cell hT.e 2
  have f2 := heap_frozen hT.e 2
  have d2 := heap_cell hT.r 2
  have z2 := heap_frozen hT.r 2
  have c3 := heap_cell hT.e 3
  have f3 := heap_frozen hT.e 3
  have d3 := heap_cell hT.r 3
  have z3 := heap_frozen hT.r 3
  have c4 := heap_cell hT.e 4
  have f4 := heap_frozen hT.e 4
  have d4 := heap_cell hT.r 4
  have z4 := heap_frozen hT.r 4
  simp only [List.getElem?_toArray, List.getElem?_cons_zero, List.getElem?_cons_succ] at c0 d0 c1 d1 c2 d2 c3 d3 c4 d4
  clear hT hK1 hA
  go_wp2
  (try simp only [Exit.inBlock, Exit.then])
  refine bodyPost_ret (v := .agg #[.int .i64 1, .int .i64 a2, .int .i64 a3, .int .i64 a4, .int .i64 a5]) (by simp [results, Try.results27, go_sem, d0, d1, d2, d3, d4]) rfl ?_
  refine ⟨rfl, ?_, ?_⟩
  · exact S5'.out _ _ _ (S5'.out _ _ _ (S5'.out _ _ _ (S5'.out _ _ _ (S5'.out _ _ _ (HH'.out) FR'.out.in1) FR'.out.in1) FR'.out.in1) FR'.out.in1) FR'.out.in1
  · exact (((((K0'.out).setCell FR'.out.n1 _).setCell FR'.out.n1 _).setCell FR'.out.n1 _).setCell FR'.out.n1 _).setCell FR'.out.n1 _

set_option maxRecDepth 100000 in
set_option maxHeartbeats 4000000 in
theorem th2_put (g : Nat) (av bv : Nat → Prop) (A0 A1 A2 : World → Prop) (k t i q v a2 : Int) (w : World) (fr : Frame9 av bv w.heap.size)
    (C1 : Steps9 26 g bv k 1 A0 A1 2) (S1 : Stores9 bv A1)
    (C2 : Steps9 26 g bv t 1 A1 A2 a2) (S2 : Stores9 bv A2)
    (h : A0 ((w.alloc (.cells #[.int .i64 k, .int .i64 t, .int .i64 i, .int .i64 q, .int .i64 v] 38)).alloc (.cells #[.int .i64 0, .int .i64 0, .int .i64 0, .int .i64 0, .int .i64 0] 38))) (T0 : ThAt w.heap.size k t i q v ((w.alloc (.cells #[.int .i64 k, .int .i64 t, .int .i64 i, .int .i64 q, .int .i64 v] 38)).alloc (.cells #[.int .i64 0, .int .i64 0, .int .i64 0, .int .i64 0, .int .i64 0] 38))) (K0 : Kept av w ((w.alloc (.cells #[.int .i64 k, .int .i64 t, .int .i64 i, .int .i64 q, .int .i64 v] 38)).alloc (.cells #[.int .i64 0, .int .i64 0, .int .i64 0, .int .i64 0, .int .i64 0] 38))) :
    Calls Try.prog 27 #[.agg #[.int .i64 k, .int .i64 t, .int .i64 i, .int .i64 q, .int .i64 v], .func (.func 26) #[.pointer (some ⟨g, 0, none⟩)] #[]] w
      (fun x w' => x = .returned (.agg #[.int .i64 2, .int .i64 a2, .int .i64 i, .int .i64 q, .int .i64 v]) ∧ A2 w' ∧ Kept av w w') := by
  have FR' := hide fr
  have HH' := hide h
  have T0' := hide T0
  have K0' := hide K0
  have C1' := hide C1
  have C2' := hide C2
  have S1' := hide S1
  have S2' := hide S2
  clear fr h T0 K0 C1 S1 C2 S2
  go_enter Try.func27, Try.ntmps27
  go_wp2_with fail
  refine (C1'.out _ HH'.out).mono ?_
  rintro x w1 ⟨rfl, hA, hK⟩
  have hT := T0'.out.kept hK FR'.out.in0 FR'.out.in1
  have hK1 := K0'.out.trans (hK.mono FR'.out.sub)
  clear T0' K0' HH' hK
  have T0' := hide (hT.set0 2)
  have K0' := hide (hK1.setCell (p := ⟨w.heap.size, 0, none⟩) FR'.out.n0 (.int .i64 2))
  have HH' := hide (S1'.out w1 ⟨w.heap.size, 0, none⟩ (.int .i64 2) hA FR'.out.in0)
  have c0 := heap_cell hT.e 0
  have f0 := heap_frozen hT.e 0
  have c1 := heap_cell hT.e 1
  have f1 := heap_frozen hT.e 1
  have c2 := heap_cell hT.e 2
  have f2 := heap_frozen hT.e 2
  have c3 := heap_cell hT.e 3
  have f3 := heap_frozen hT.e 3
  have c4 := heap_cell hT.e 4
  have f4 := heap_frozen hT.e 4
  simp only [List.getElem?_toArray, List.getElem?_cons_zero, List.getElem?_cons_succ] at c0 c1 c2 c3 c4
  clear hT hK1 hA
  go_wp2_with fail
  refine (C2'.out _ HH'.out).mono ?_
  rintro x w2 ⟨rfl, hA, hK⟩
  have hT := T0'.out.kept hK FR'.out.in0 FR'.out.in1
  have hK1 := K0'.out.trans (hK.mono FR'.out.sub)
  clear T0' K0' HH' hK
  have T0' := hide (hT.set1 a2)
  have K0' := hide (hK1.setCell (p := ⟨w.heap.size, 1, none⟩) FR'.out.n0 (.int .i64 a2))
  have HH' := hide (S2'.out w2 ⟨w.heap.size, 1, none⟩ (.int .i64 a2) hA FR'.out.in0)
  have c0 := heap_cell hT.e 0
  have f0 := heap_frozen hT.e 0
  have d0 := heap_cell hT.r 0
  have z0 := heap_frozen hT.r 0
  have c1 := heap_cell hT.e 1
  have f1 := heap_frozen hT.e 1
  have d1 := heap_cell hT.r 1
  have z1 := heap_frozen hT.r 1
  have c2 := heap_cell hT.e 2
  have f2 := heap_frozen hT.e 2
  have d2 := heap_cell hT.r 2
  have z2 := heap_frozen hT.r 2
  have c3 := heap_cell hT.e 3
  have f3 := heap_frozen hT.e 3
  have d3 := heap_cell hT.r 3
  have z3 := heap_frozen hT.r 3
  have c4 := heap_cell hT.e 4
  have f4 := heap_frozen hT.e 4
  have d4 := heap_cell hT.r 4
  have z4 := heap_frozen hT.r 4
  simp only [List.getElem?_toArray, List.getElem?_cons_zero, List.getElem?_cons_succ] at c0 d0 c1 d1 c2 d2 c3 d3 c4 d4
  clear hT hK1 hA
  go_wp2
  (try simp only [Exit.inBlock, Exit.then])
  refine bodyPost_ret (v := .agg #[.int .i64 2, .int .i64 a2, .int .i64 i, .int .i64 q, .int .i64 v]) (by simp [results, Try.results27, go_sem, d0, d1, d2, d3, d4]) rfl ?_
  refine ⟨rfl, ?_, ?_⟩
  · exact S2'.out _ _ _ (S2'.out _ _ _ (S2'.out _ _ _ (S2'.out _ _ _ (S2'.out _ _ _ (HH'.out) FR'.out.in1) FR'.out.in1) FR'.out.in1) FR'.out.in1) FR'.out.in1
  · exact (((((K0'.out).setCell FR'.out.n1 _).setCell FR'.out.n1 _).setCell FR'.out.n1 _).setCell FR'.out.n1 _).setCell FR'.out.n1 _

set_option maxRecDepth 100000 in
set_option maxHeartbeats 4000000 in
theorem th3_put (g : Nat) (av bv : Nat → Prop) (A0 A1 : World → Prop) (k t i q v a1 : Int) (w : World) (fr : Frame9 av bv w.heap.size) (n1 : ¬ a1 = 1) (n2 : ¬ a1 = 2)
    (C1 : Steps9 26 g bv k 1 A0 A1 a1) (S1 : Stores9 bv A1)
    (h : A0 ((w.alloc (.cells #[.int .i64 k, .int .i64 t, .int .i64 i, .int .i64 q, .int .i64 v] 38)).alloc (.cells #[.int .i64 0, .int .i64 0, .int .i64 0, .int .i64 0, .int .i64 0] 38))) (T0 : ThAt w.heap.size k t i q v ((w.alloc (.cells #[.int .i64 k, .int .i64 t, .int .i64 i, .int .i64 q, .int .i64 v] 38)).alloc (.cells #[.int .i64 0, .int .i64 0, .int .i64 0, .int .i64 0, .int .i64 0] 38))) (K0 : Kept av w ((w.alloc (.cells #[.int .i64 k, .int .i64 t, .int .i64 i, .int .i64 q, .int .i64 v] 38)).alloc (.cells #[.int .i64 0, .int .i64 0, .int .i64 0, .int .i64 0, .int .i64 0] 38))) :
    Calls Try.prog 27 #[.agg #[.int .i64 k, .int .i64 t, .int .i64 i, .int .i64 q, .int .i64 v], .func (.func 26) #[.pointer (some ⟨g, 0, none⟩)] #[]] w
      (fun x w' => x = .returned (.agg #[.int .i64 a1, .int .i64 t, .int .i64 i, .int .i64 q, .int .i64 v]) ∧ A1 w' ∧ Kept av w w') := by
  have FR' := hide fr
  have HH' := hide h
  have T0' := hide T0
  have K0' := hide K0
  have C1' := hide C1
  have S1' := hide S1
  clear fr h T0 K0 C1 S1
  have b1 : (a1 == 1) = false := beq_eq_false_iff_ne.2 n1
  have b2 : (a1 == 2) = false := beq_eq_false_iff_ne.2 n2
  clear n1 n2
  go_enter Try.func27, Try.ntmps27
  go_wp2_with fail
  refine (C1'.out _ HH'.out).mono ?_
  rintro x w1 ⟨rfl, hA, hK⟩
  have hT := T0'.out.kept hK FR'.out.in0 FR'.out.in1
  have hK1 := K0'.out.trans (hK.mono FR'.out.sub)
  clear T0' K0' HH' hK
  have T0' := hide (hT.set0 a1)
  have K0' := hide (hK1.setCell (p := ⟨w.heap.size, 0, none⟩) FR'.out.n0 (.int .i64 a1))
  have HH' := hide (S1'.out w1 ⟨w.heap.size, 0, none⟩ (.int .i64 a1) hA FR'.out.in0)
  have c0 := heap_cell hT.e 0
  have f0 := heap_frozen hT.e 0
  have d0 := heap_cell hT.r 0
  have z0 := heap_frozen hT.r 0
  have c1 := heap_cell hT.e 1
  have f1 := heap_frozen hT.e 1
  have d1 := heap_cell hT.r 1
  have z1 := heap_frozen hT.r 1
  have c2 := heap_cell hT.e 2
  have f2 := heap_frozen hT.e 2
  have d2 := heap_cell hT.r 2
  have z2 := heap_frozen hT.r 2
  have c3 := heap_cell hT.e 3
  have f3 := heap_frozen hT.e 3
  have d3 := heap_cell hT.r 3
  have z3 := heap_frozen hT.r 3
  have c4 := heap_cell hT.e 4
  have f4 := heap_frozen hT.e 4
  have d4 := heap_cell hT.r 4
  have z4 := heap_frozen hT.r 4
  simp only [List.getElem?_toArray, List.getElem?_cons_zero, List.getElem?_cons_succ] at c0 d0 c1 d1 c2 d2 c3 d3 c4 d4
  clear hT hK1 hA
  go_wp2
  (try simp only [Exit.inBlock, Exit.then])
  refine bodyPost_ret (v := .agg #[.int .i64 a1, .int .i64 t, .int .i64 i, .int .i64 q, .int .i64 v]) (by simp [results, Try.results27, go_sem, d0, d1, d2, d3, d4]) rfl ?_
  refine ⟨rfl, ?_, ?_⟩
  · exact S1'.out _ _ _ (S1'.out _ _ _ (S1'.out _ _ _ (S1'.out _ _ _ (S1'.out _ _ _ (HH'.out) FR'.out.in1) FR'.out.in1) FR'.out.in1) FR'.out.in1) FR'.out.in1
  · exact (((((K0'.out).setCell FR'.out.n1 _).setCell FR'.out.n1 _).setCell FR'.out.n1 _).setCell FR'.out.n1 _).setCell FR'.out.n1 _

set_option maxRecDepth 100000 in
set_option maxHeartbeats 4000000 in
theorem th1_take (g : Nat) (av bv : Nat → Prop) (A0 A1 A2 A3 A4 A5 : World → Prop) (k t i q v a2 a3 a4 a5 : Int) (w : World) (fr : Frame9 av bv w.heap.size)
    (C1 : Steps9 28 g bv k 1 A0 A1 1) (S1 : Stores9 bv A1)
    (C2 : Steps9 28 g bv t 1 A1 A2 a2) (S2 : Stores9 bv A2)
    (C3 : Steps9 28 g bv i 1 A2 A3 a3) (S3 : Stores9 bv A3)
    (C4 : Steps9 28 g bv q 1 A3 A4 a4) (S4 : Stores9 bv A4)
    (C5 : Steps9 28 g bv v 8 A4 A5 a5) (S5 : Stores9 bv A5)
    (h : A0 ((w.alloc (.cells #[.int .i64 k, .int .i64 t, .int .i64 i, .int .i64 q, .int .i64 v] 38)).alloc (.cells #[.int .i64 0, .int .i64 0, .int .i64 0, .int .i64 0, .int .i64 0] 38))) (T0 : ThAt w.heap.size k t i q v ((w.alloc (.cells #[.int .i64 k, .int .i64 t, .int .i64 i, .int .i64 q, .int .i64 v] 38)).alloc (.cells #[.int .i64 0, .int .i64 0, .int .i64 0, .int .i64 0, .int .i64 0] 38))) (K0 : Kept av w ((w.alloc (.cells #[.int .i64 k, .int .i64 t, .int .i64 i, .int .i64 q, .int .i64 v] 38)).alloc (.cells #[.int .i64 0, .int .i64 0, .int .i64 0, .int .i64 0, .int .i64 0] 38))) :
    Calls Try.prog 27 #[.agg #[.int .i64 k, .int .i64 t, .int .i64 i, .int .i64 q, .int .i64 v], .func (.func 28) #[.pointer (some ⟨g, 0, none⟩)] #[]] w
      (fun x w' => x = .returned (.agg #[.int .i64 1, .int .i64 a2, .int .i64 a3, .int .i64 a4, .int .i64 a5]) ∧ A5 w' ∧ Kept av w w') := by
  have FR' := hide fr
  have HH' := hide h
  have T0' := hide T0
  have K0' := hide K0
  have C1' := hide C1
  have C2' := hide C2
  have C3' := hide C3
  have C4' := hide C4
  have C5' := hide C5
  have S1' := hide S1
  have S2' := hide S2
  have S3' := hide S3
  have S4' := hide S4
  have S5' := hide S5
  clear fr h T0 K0 C1 S1 C2 S2 C3 S3 C4 S4 C5 S5
  go_enter Try.func27, Try.ntmps27
  go_wp2_with fail
  refine (C1'.out _ HH'.out).mono ?_
  rintro x w1 ⟨rfl, hA, hK⟩
  have hT := T0'.out.kept hK FR'.out.in0 FR'.out.in1
  have hK1 := K0'.out.trans (hK.mono FR'.out.sub)
  clear T0' K0' HH' hK
  have T0' := hide (hT.set0 1)
  have K0' := hide (hK1.setCell (p := ⟨w.heap.size, 0, none⟩) FR'.out.n0 (.int .i64 1))
  have HH' := hide (S1'.out w1 ⟨w.heap.size, 0, none⟩ (.int .i64 1) hA FR'.out.in0)
  have c0 := heap_cell hT.e 0
  have f0 := heap_frozen hT.e 0
  have c1 := heap_cell hT.e 1
  have f1 := heap_frozen hT.e 1
  have c2 := heap_cell hT.e 2
  have f2 := heap_frozen hT.e 2
  have c3 := heap_cell hT.e 3
  have f3 := heap_frozen hT.e 3
  have c4 := heap_cell hT.e 4
  have f4 := heap_frozen hT.e 4
  simp only [List.getElem?_toArray, List.getElem?_cons_zero, List.getElem?_cons_succ] at c0 c1 c2 c3 c4
  clear hT hK1 hA
  go_wp2_with fail
  refine (C2'.out _ HH'.out).mono ?_
  rintro x w2 ⟨rfl, hA, hK⟩
  have hT := T0'.out.kept hK FR'.out.in0 FR'.out.in1
  have hK1 := K0'.out.trans (hK.mono FR'.out.sub)
  clear T0' K0' HH' hK
  have T0' := hide (hT.set1 a2)
  have K0' := hide (hK1.setCell (p := ⟨w.heap.size, 1, none⟩) FR'.out.n0 (.int .i64 a2))
  have HH' := hide (S2'.out w2 ⟨w.heap.size, 1, none⟩ (.int .i64 a2) hA FR'.out.in0)
  have c0 := heap_cell hT.e 0
  have f0 := heap_frozen hT.e 0
  have c1 := heap_cell hT.e 1
  have f1 := heap_frozen hT.e 1
  have c2 := heap_cell hT.e 2
  have f2 := heap_frozen hT.e 2
  have c3 := heap_cell hT.e 3
  have f3 := heap_frozen hT.e 3
  have c4 := heap_cell hT.e 4
  have f4 := heap_frozen hT.e 4
  simp only [List.getElem?_toArray, List.getElem?_cons_zero, List.getElem?_cons_succ] at c0 c1 c2 c3 c4
  clear hT hK1 hA
  go_wp2_with fail
  refine (C3'.out _ HH'.out).mono ?_
  rintro x w3 ⟨rfl, hA, hK⟩
  have hT := T0'.out.kept hK FR'.out.in0 FR'.out.in1
  have hK1 := K0'.out.trans (hK.mono FR'.out.sub)
  clear T0' K0' HH' hK
  have T0' := hide (hT.set2 a3)
  have K0' := hide (hK1.setCell (p := ⟨w.heap.size, 2, none⟩) FR'.out.n0 (.int .i64 a3))
  have HH' := hide (S3'.out w3 ⟨w.heap.size, 2, none⟩ (.int .i64 a3) hA FR'.out.in0)
  have c0 := heap_cell hT.e 0
  have f0 := heap_frozen hT.e 0
  have c1 := heap_cell hT.e 1
  have f1 := heap_frozen hT.e 1
  have c2 := heap_cell hT.e 2
  have f2 := heap_frozen hT.e 2
  have c3 := heap_cell hT.e 3
  have f3 := heap_frozen hT.e 3
  have c4 := heap_cell hT.e 4
  have f4 := heap_frozen hT.e 4
  simp only [List.getElem?_toArray, List.getElem?_cons_zero, List.getElem?_cons_succ] at c0 c1 c2 c3 c4
  clear hT hK1 hA
  go_wp2_with fail
  refine (C4'.out _ HH'.out).mono ?_
  rintro x w4 ⟨rfl, hA, hK⟩
  have hT := T0'.out.kept hK FR'.out.in0 FR'.out.in1
  have hK1 := K0'.out.trans (hK.mono FR'.out.sub)
  clear T0' K0' HH' hK
  have T0' := hide (hT.set3 a4)
  have K0' := hide (hK1.setCell (p := ⟨w.heap.size, 3, none⟩) FR'.out.n0 (.int .i64 a4))
  have HH' := hide (S4'.out w4 ⟨w.heap.size, 3, none⟩ (.int .i64 a4) hA FR'.out.in0)
  have c0 := heap_cell hT.e 0
  have f0 := heap_frozen hT.e 0
  have c1 := heap_cell hT.e 1
  have f1 := heap_frozen hT.e 1
  have c2 := heap_cell hT.e 2
  have f2 := heap_frozen hT.e 2
  have c3 := heap_cell hT.e 3
  have f3 := heap_frozen hT.e 3
  have c4 := heap_cell hT.e 4
  have f4 := heap_frozen hT.e 4
  simp only [List.getElem?_toArray, List.getElem?_cons_zero, List.getElem?_cons_succ] at c0 c1 c2 c3 c4
  clear hT hK1 hA
  go_wp2_with fail
  refine (C5'.out _ HH'.out).mono ?_
  rintro x w5 ⟨rfl, hA, hK⟩
  have hT := T0'.out.kept hK FR'.out.in0 FR'.out.in1
  have hK1 := K0'.out.trans (hK.mono FR'.out.sub)
  clear T0' K0' HH' hK
  have T0' := hide (hT.set4 a5)
  have K0' := hide (hK1.setCell (p := ⟨w.heap.size, 4, none⟩) FR'.out.n0 (.int .i64 a5))
  have HH' := hide (S5'.out w5 ⟨w.heap.size, 4, none⟩ (.int .i64 a5) hA FR'.out.in0)
  have c0 := heap_cell hT.e 0
  have f0 := heap_frozen hT.e 0
  have d0 := heap_cell hT.r 0
  have z0 := heap_frozen hT.r 0
  have c1 := heap_cell hT.e 1
  have f1 := heap_frozen hT.e 1
  have d1 := heap_cell hT.r 1
  have z1 := heap_frozen hT.r 1
  have c2 := heap_cell hT.e 2
  have f2 := heap_frozen hT.e 2
  have d2 := heap_cell hT.r 2
  have z2 := heap_frozen hT.r 2
  have c3 := heap_cell hT.e 3
  have f3 := heap_frozen hT.e 3
  have d3 := heap_cell hT.r 3
  have z3 := heap_frozen hT.r 3
  have c4 := heap_cell hT.e 4
  have f4 := heap_frozen hT.e 4
  have d4 := heap_cell hT.r 4
  have z4 := heap_frozen hT.r 4
  simp only [List.getElem?_toArray, List.getElem?_cons_zero, List.getElem?_cons_succ] at c0 d0 c1 d1 c2 d2 c3 d3 c4 d4
  clear hT hK1 hA
  go_wp2
  (try simp only [Exit.inBlock, Exit.then])
  refine bodyPost_ret (v := .agg #[.int .i64 1, .int .i64 a2, .int .i64 a3, .int .i64 a4, .int .i64 a5]) (by simp [results, Try.results27, go_sem, d0, d1, d2, d3, d4]) rfl ?_
  refine ⟨rfl, ?_, ?_⟩
  · exact S5'.out _ _ _ (S5'.out _ _ _ (S5'.out _ _ _ (S5'.out _ _ _ (S5'.out _ _ _ (HH'.out) FR'.out.in1) FR'.out.in1) FR'.out.in1) FR'.out.in1) FR'.out.in1
  · exact (((((K0'.out).setCell FR'.out.n1 _).setCell FR'.out.n1 _).setCell FR'.out.n1 _).setCell FR'.out.n1 _).setCell FR'.out.n1 _

set_option maxRecDepth 100000 in
set_option maxHeartbeats 4000000 in
theorem th2_take (g : Nat) (av bv : Nat → Prop) (A0 A1 A2 : World → Prop) (k t i q v a2 : Int) (w : World) (fr : Frame9 av bv w.heap.size)
    (C1 : Steps9 28 g bv k 1 A0 A1 2) (S1 : Stores9 bv A1)
    (C2 : Steps9 28 g bv t 1 A1 A2 a2) (S2 : Stores9 bv A2)
    (h : A0 ((w.alloc (.cells #[.int .i64 k, .int .i64 t, .int .i64 i, .int .i64 q, .int .i64 v] 38)).alloc (.cells #[.int .i64 0, .int .i64 0, .int .i64 0, .int .i64 0, .int .i64 0] 38))) (T0 : ThAt w.heap.size k t i q v ((w.alloc (.cells #[.int .i64 k, .int .i64 t, .int .i64 i, .int .i64 q, .int .i64 v] 38)).alloc (.cells #[.int .i64 0, .int .i64 0, .int .i64 0, .int .i64 0, .int .i64 0] 38))) (K0 : Kept av w ((w.alloc (.cells #[.int .i64 k, .int .i64 t, .int .i64 i, .int .i64 q, .int .i64 v] 38)).alloc (.cells #[.int .i64 0, .int .i64 0, .int .i64 0, .int .i64 0, .int .i64 0] 38))) :
    Calls Try.prog 27 #[.agg #[.int .i64 k, .int .i64 t, .int .i64 i, .int .i64 q, .int .i64 v], .func (.func 28) #[.pointer (some ⟨g, 0, none⟩)] #[]] w
      (fun x w' => x = .returned (.agg #[.int .i64 2, .int .i64 a2, .int .i64 i, .int .i64 q, .int .i64 v]) ∧ A2 w' ∧ Kept av w w') := by
  have FR' := hide fr
  have HH' := hide h
  have T0' := hide T0
  have K0' := hide K0
  have C1' := hide C1
  have C2' := hide C2
  have S1' := hide S1
  have S2' := hide S2
  clear fr h T0 K0 C1 S1 C2 S2
  go_enter Try.func27, Try.ntmps27
  go_wp2_with fail
  refine (C1'.out _ HH'.out).mono ?_
  rintro x w1 ⟨rfl, hA, hK⟩
  have hT := T0'.out.kept hK FR'.out.in0 FR'.out.in1
  have hK1 := K0'.out.trans (hK.mono FR'.out.sub)
  clear T0' K0' HH' hK
  have T0' := hide (hT.set0 2)
  have K0' := hide (hK1.setCell (p := ⟨w.heap.size, 0, none⟩) FR'.out.n0 (.int .i64 2))
  have HH' := hide (S1'.out w1 ⟨w.heap.size, 0, none⟩ (.int .i64 2) hA FR'.out.in0)
  have c0 := heap_cell hT.e 0
  have f0 := heap_frozen hT.e 0
  have c1 := heap_cell hT.e 1
  have f1 := heap_frozen hT.e 1
  have c2 := heap_cell hT.e 2
  have f2 := heap_frozen hT.e 2
  have c3 := heap_cell hT.e 3
  have f3 := heap_frozen hT.e 3
  have c4 := heap_cell hT.e 4
  have f4 := heap_frozen hT.e 4
  simp only [List.getElem?_toArray, List.getElem?_cons_zero, List.getElem?_cons_succ] at c0 c1 c2 c3 c4
  clear hT hK1 hA
  go_wp2_with fail
  refine (C2'.out _ HH'.out).mono ?_
  rintro x w2 ⟨rfl, hA, hK⟩
  have hT := T0'.out.kept hK FR'.out.in0 FR'.out.in1
  have hK1 := K0'.out.trans (hK.mono FR'.out.sub)
  clear T0' K0' HH' hK
  have T0' := hide (hT.set1 a2)
  have K0' := hide (hK1.setCell (p := ⟨w.heap.size, 1, none⟩) FR'.out.n0 (.int .i64 a2))
  have HH' := hide (S2'.out w2 ⟨w.heap.size, 1, none⟩ (.int .i64 a2) hA FR'.out.in0)
  have c0 := heap_cell hT.e 0
  have f0 := heap_frozen hT.e 0
  have d0 := heap_cell hT.r 0
  have z0 := heap_frozen hT.r 0
  have c1 := heap_cell hT.e 1
  have f1 := heap_frozen hT.e 1
  have d1 := heap_cell hT.r 1
  have z1 := heap_frozen hT.r 1
  have c2 := heap_cell hT.e 2
  have f2 := heap_frozen hT.e 2
  have d2 := heap_cell hT.r 2
  have z2 := heap_frozen hT.r 2
  have c3 := heap_cell hT.e 3
  have f3 := heap_frozen hT.e 3
  have d3 := heap_cell hT.r 3
  have z3 := heap_frozen hT.r 3
  have c4 := heap_cell hT.e 4
  have f4 := heap_frozen hT.e 4
  have d4 := heap_cell hT.r 4
  have z4 := heap_frozen hT.r 4
  simp only [List.getElem?_toArray, List.getElem?_cons_zero, List.getElem?_cons_succ] at c0 d0 c1 d1 c2 d2 c3 d3 c4 d4
  clear hT hK1 hA
  go_wp2
  (try simp only [Exit.inBlock, Exit.then])
  refine bodyPost_ret (v := .agg #[.int .i64 2, .int .i64 a2, .int .i64 i, .int .i64 q, .int .i64 v]) (by simp [results, Try.results27, go_sem, d0, d1, d2, d3, d4]) rfl ?_
  refine ⟨rfl, ?_, ?_⟩
  · exact S2'.out _ _ _ (S2'.out _ _ _ (S2'.out _ _ _ (S2'.out _ _ _ (S2'.out _ _ _ (HH'.out) FR'.out.in1) FR'.out.in1) FR'.out.in1) FR'.out.in1) FR'.out.in1
  · exact (((((K0'.out).setCell FR'.out.n1 _).setCell FR'.out.n1 _).setCell FR'.out.n1 _).setCell FR'.out.n1 _).setCell FR'.out.n1 _

set_option maxRecDepth 100000 in
set_option maxHeartbeats 4000000 in
theorem th3_take (g : Nat) (av bv : Nat → Prop) (A0 A1 : World → Prop) (k t i q v a1 : Int) (w : World) (fr : Frame9 av bv w.heap.size) (n1 : ¬ a1 = 1) (n2 : ¬ a1 = 2)
    (C1 : Steps9 28 g bv k 1 A0 A1 a1) (S1 : Stores9 bv A1)
    (h : A0 ((w.alloc (.cells #[.int .i64 k, .int .i64 t, .int .i64 i, .int .i64 q, .int .i64 v] 38)).alloc (.cells #[.int .i64 0, .int .i64 0, .int .i64 0, .int .i64 0, .int .i64 0] 38))) (T0 : ThAt w.heap.size k t i q v ((w.alloc (.cells #[.int .i64 k, .int .i64 t, .int .i64 i, .int .i64 q, .int .i64 v] 38)).alloc (.cells #[.int .i64 0, .int .i64 0, .int .i64 0, .int .i64 0, .int .i64 0] 38))) (K0 : Kept av w ((w.alloc (.cells #[.int .i64 k, .int .i64 t, .int .i64 i, .int .i64 q, .int .i64 v] 38)).alloc (.cells #[.int .i64 0, .int .i64 0, .int .i64 0, .int .i64 0, .int .i64 0] 38))) :
    Calls Try.prog 27 #[.agg #[.int .i64 k, .int .i64 t, .int .i64 i, .int .i64 q, .int .i64 v], .func (.func 28) #[.pointer (some ⟨g, 0, none⟩)] #[]] w
      (fun x w' => x = .returned (.agg #[.int .i64 a1, .int .i64 t, .int .i64 i, .int .i64 q, .int .i64 v]) ∧ A1 w' ∧ Kept av w w') := by
  have FR' := hide fr
  have HH' := hide h
  have T0' := hide T0
  have K0' := hide K0
  have C1' := hide C1
  have S1' := hide S1
  clear fr h T0 K0 C1 S1
  have b1 : (a1 == 1) = false := beq_eq_false_iff_ne.2 n1
  have b2 : (a1 == 2) = false := beq_eq_false_iff_ne.2 n2
  clear n1 n2
  go_enter Try.func27, Try.ntmps27
  go_wp2_with fail
  refine (C1'.out _ HH'.out).mono ?_
  rintro x w1 ⟨rfl, hA, hK⟩
  have hT := T0'.out.kept hK FR'.out.in0 FR'.out.in1
  have hK1 := K0'.out.trans (hK.mono FR'.out.sub)
  clear T0' K0' HH' hK
  have T0' := hide (hT.set0 a1)
  have K0' := hide (hK1.setCell (p := ⟨w.heap.size, 0, none⟩) FR'.out.n0 (.int .i64 a1))
  have HH' := hide (S1'.out w1 ⟨w.heap.size, 0, none⟩ (.int .i64 a1) hA FR'.out.in0)
  have c0 := heap_cell hT.e 0
  have f0 := heap_frozen hT.e 0
  have d0 := heap_cell hT.r 0
  have z0 := heap_frozen hT.r 0
  have c1 := heap_cell hT.e 1
  have f1 := heap_frozen hT.e 1
  have d1 := heap_cell hT.r 1
  have z1 := heap_frozen hT.r 1
  have c2 := heap_cell hT.e 2
  have f2 := heap_frozen hT.e 2
  have d2 := heap_cell hT.r 2
  have z2 := heap_frozen hT.r 2
  have c3 := heap_cell hT.e 3
  have f3 := heap_frozen hT.e 3
  have d3 := heap_cell hT.r 3
  have z3 := heap_frozen hT.r 3
  have c4 := heap_cell hT.e 4
  have f4 := heap_frozen hT.e 4
  have d4 := heap_cell hT.r 4
  have z4 := heap_frozen hT.r 4
  simp only [List.getElem?_toArray, List.getElem?_cons_zero, List.getElem?_cons_succ] at c0 d0 c1 d1 c2 d2 c3 d3 c4 d4
  clear hT hK1 hA
  go_wp2
  (try simp only [Exit.inBlock, Exit.then])
  refine bodyPost_ret (v := .agg #[.int .i64 a1, .int .i64 t, .int .i64 i, .int .i64 q, .int .i64 v]) (by simp [results, Try.results27, go_sem, d0, d1, d2, d3, d4]) rfl ?_
  refine ⟨rfl, ?_, ?_⟩
  · exact S1'.out _ _ _ (S1'.out _ _ _ (S1'.out _ _ _ (S1'.out _ _ _ (S1'.out _ _ _ (HH'.out) FR'.out.in1) FR'.out.in1) FR'.out.in1) FR'.out.in1) FR'.out.in1
  · exact (((((K0'.out).setCell FR'.out.n1 _).setCell FR'.out.n1 _).setCell FR'.out.n1 _).setCell FR'.out.n1 _).setCell FR'.out.n1 _

set_option maxRecDepth 100000 in
set_option maxHeartbeats 4000000 in
theorem through_put (g : Nat) {S : Type} {At : (Nat → Prop) → S → World → Prop} {room : Nat → S → Prop} {nxt : S → Int → Nat → S} {ans : S → Int → Nat → Int} (hP : Passes 26 g At room nxt ans)
    (av : Nat → Prop) (s : S) (k t i q v : Int) (w : World) (hr : room 12 s) (h : At av s w) :
    Calls Try.prog 27 #[.agg #[.int .i64 k, .int .i64 t, .int .i64 i, .int .i64 q, .int .i64 v], .func (.func 26) #[.pointer (some ⟨g, 0, none⟩)] #[]] w (ThPost At av (thr nxt ans s k t i q v) w) := by
  have hl := hP.lt av s w h
  have e1 : (w.alloc (.cells #[.int .i64 k, .int .i64 t, .int .i64 i, .int .i64 q, .int .i64 v] 38)).heap.size = w.heap.size + 1 := by simp
  have T0 : ThAt w.heap.size k t i q v ((w.alloc (.cells #[.int .i64 k, .int .i64 t, .int .i64 i, .int .i64 q, .int .i64 v] 38)).alloc (.cells #[.int .i64 0, .int .i64 0, .int .i64 0, .int .i64 0, .int .i64 0] 38)) := by
    constructor
    · rw [Below.heap_alloc _ _ _ (by simp)]; exact heap_alloc_new w _
    · have := heap_alloc_new (w.alloc (.cells #[.int .i64 k, .int .i64 t, .int .i64 i, .int .i64 q, .int .i64 v] 38)) (.cells #[.int .i64 0, .int .i64 0, .int .i64 0, .int .i64 0, .int .i64 0] 38)
      rwa [e1] at this
  have K0 : Kept av w ((w.alloc (.cells #[.int .i64 k, .int .i64 t, .int .i64 i, .int .i64 q, .int .i64 v] 38)).alloc (.cells #[.int .i64 0, .int .i64 0, .int .i64 0, .int .i64 0, .int .i64 0] 38)) := ((Kept.refl av w).alloc hl _).alloc (fun j hj => by have := hl j hj; simp; omega) _
  have H := hP.more _ _ _ (.cells #[.int .i64 0, .int .i64 0, .int .i64 0, .int .i64 0, .int .i64 0] 38) (hP.more _ _ _ (.cells #[.int .i64 k, .int .i64 t, .int .i64 i, .int .i64 q, .int .i64 v] 38) h)
  rw [e1] at H
  have fr : Frame9 av (fun j => (av j ∨ j = w.heap.size) ∨ j = w.heap.size + 1) w.heap.size :=
    ⟨fun j hj => .inl (.inl hj), .inl (.inr rfl), .inr rfl, fun hj => by have := hl _ hj; omega, fun hj => by have := hl _ hj; omega⟩
  have H' : At (fun j => (av j ∨ j = w.heap.size) ∨ j = w.heap.size + 1) s ((w.alloc (.cells #[.int .i64 k, .int .i64 t, .int .i64 i, .int .i64 q, .int .i64 v] 38)).alloc (.cells #[.int .i64 0, .int .i64 0, .int .i64 0, .int .i64 0, .int .i64 0] 38)) := H
  clear H
  obtain ⟨bv, hbv⟩ : ∃ bv : Nat → Prop, (fun j => (av j ∨ j = w.heap.size) ∨ j = w.heap.size + 1) = bv := ⟨_, rfl⟩
  rw [hbv] at H' fr
  clear hbv
  have st : ∀ s', Stores9 bv (At bv s') := fun s' w p u hA hp => hP.store bv s' w p u hA hp
  have r1 := hP.rest 11 s k 1 hr
  have r2 := hP.rest 10 _ t 1 r1
  have r3 := hP.rest 9 _ i 1 r2
  have r4 := hP.rest 8 _ q 1 r3
  unfold thr
  by_cases a1 : ans s k 1 = 1
  · rw [if_pos a1]
    refine (th1_put g av bv (At bv s) (At bv (nxt s k 1)) (At bv (nxt (nxt s k 1) t 1)) (At bv (nxt (nxt (nxt s k 1) t 1) i 1)) (At bv (nxt (nxt (nxt (nxt s k 1) t 1) i 1) q 1)) (At bv (nxt (nxt (nxt (nxt (nxt s k 1) t 1) i 1) q 1) v 8)) k t i q v _ _ _ _ w fr
      (fun w hA => by have := hP.call1 bv s k w (hP.some 11 1 s hr) hA; rw [a1] at this; exact this) (st _)
      (fun w hA => hP.call1 bv _ t w (hP.some 10 1 _ r1) hA) (st _)
      (fun w hA => hP.call1 bv _ i w (hP.some 9 1 _ r2) hA) (st _)
      (fun w hA => hP.call1 bv _ q w (hP.some 8 1 _ r3) hA) (st _)
      (fun w hA => hP.call8 bv _ v w r4 hA) (st _) H' T0 K0).mono ?_
    rintro x w' ⟨rfl, hA, hK⟩
    exact ⟨rfl, hP.less bv av _ _ fr.sub hA, hK⟩
  · rw [if_neg a1]
    by_cases a2 : ans s k 1 = 2
    · rw [if_pos a2]
      refine (th2_put g av bv (At bv s) (At bv (nxt s k 1)) (At bv (nxt (nxt s k 1) t 1)) k t i q v _ w fr
        (fun w hA => by have := hP.call1 bv s k w (hP.some 11 1 s hr) hA; rw [a2] at this; exact this) (st _)
        (fun w hA => hP.call1 bv _ t w (hP.some 10 1 _ r1) hA) (st _) H' T0 K0).mono ?_
      rintro x w' ⟨rfl, hA, hK⟩
      exact ⟨rfl, hP.less bv av _ _ fr.sub hA, hK⟩
    · rw [if_neg a2]
      refine (th3_put g av bv (At bv s) (At bv (nxt s k 1)) k t i q v _ w fr a1 a2 (fun w hA => hP.call1 bv s k w (hP.some 11 1 s hr) hA) (st _) H' T0 K0).mono ?_
      rintro x w' ⟨rfl, hA, hK⟩
      exact ⟨rfl, hP.less bv av _ _ fr.sub hA, hK⟩

set_option maxRecDepth 100000 in
set_option maxHeartbeats 4000000 in
theorem through_take (g : Nat) {S : Type} {At : (Nat → Prop) → S → World → Prop} {room : Nat → S → Prop} {nxt : S → Int → Nat → S} {ans : S → Int → Nat → Int} (hP : Passes 28 g At room nxt ans)
    (av : Nat → Prop) (s : S) (k t i q v : Int) (w : World) (hr : room 12 s) (h : At av s w) :
    Calls Try.prog 27 #[.agg #[.int .i64 k, .int .i64 t, .int .i64 i, .int .i64 q, .int .i64 v], .func (.func 28) #[.pointer (some ⟨g, 0, none⟩)] #[]] w (ThPost At av (thr nxt ans s k t i q v) w) := by
  have hl := hP.lt av s w h
  have e1 : (w.alloc (.cells #[.int .i64 k, .int .i64 t, .int .i64 i, .int .i64 q, .int .i64 v] 38)).heap.size = w.heap.size + 1 := by simp
  have T0 : ThAt w.heap.size k t i q v ((w.alloc (.cells #[.int .i64 k, .int .i64 t, .int .i64 i, .int .i64 q, .int .i64 v] 38)).alloc (.cells #[.int .i64 0, .int .i64 0, .int .i64 0, .int .i64 0, .int .i64 0] 38)) := by
    constructor
    · rw [Below.heap_alloc _ _ _ (by simp)]; exact heap_alloc_new w _
    · have := heap_alloc_new (w.alloc (.cells #[.int .i64 k, .int .i64 t, .int .i64 i, .int .i64 q, .int .i64 v] 38)) (.cells #[.int .i64 0, .int .i64 0, .int .i64 0, .int .i64 0, .int .i64 0] 38)
      rwa [e1] at this
  have K0 : Kept av w ((w.alloc (.cells #[.int .i64 k, .int .i64 t, .int .i64 i, .int .i64 q, .int .i64 v] 38)).alloc (.cells #[.int .i64 0, .int .i64 0, .int .i64 0, .int .i64 0, .int .i64 0] 38)) := ((Kept.refl av w).alloc hl _).alloc (fun j hj => by have := hl j hj; simp; omega) _
  have H := hP.more _ _ _ (.cells #[.int .i64 0, .int .i64 0, .int .i64 0, .int .i64 0, .int .i64 0] 38) (hP.more _ _ _ (.cells #[.int .i64 k, .int .i64 t, .int .i64 i, .int .i64 q, .int .i64 v] 38) h)
  rw [e1] at H
  have fr : Frame9 av (fun j => (av j ∨ j = w.heap.size) ∨ j = w.heap.size + 1) w.heap.size :=
    ⟨fun j hj => .inl (.inl hj), .inl (.inr rfl), .inr rfl, fun hj => by have := hl _ hj; omega, fun hj => by have := hl _ hj; omega⟩
  have H' : At (fun j => (av j ∨ j = w.heap.size) ∨ j = w.heap.size + 1) s ((w.alloc (.cells #[.int .i64 k, .int .i64 t, .int .i64 i, .int .i64 q, .int .i64 v] 38)).alloc (.cells #[.int .i64 0, .int .i64 0, .int .i64 0, .int .i64 0, .int .i64 0] 38)) := H
  clear H
  obtain ⟨bv, hbv⟩ : ∃ bv : Nat → Prop, (fun j => (av j ∨ j = w.heap.size) ∨ j = w.heap.size + 1) = bv := ⟨_, rfl⟩
  rw [hbv] at H' fr
  clear hbv
  have st : ∀ s', Stores9 bv (At bv s') := fun s' w p u hA hp => hP.store bv s' w p u hA hp
  have r1 := hP.rest 11 s k 1 hr
  have r2 := hP.rest 10 _ t 1 r1
  have r3 := hP.rest 9 _ i 1 r2
  have r4 := hP.rest 8 _ q 1 r3
  unfold thr
  by_cases a1 : ans s k 1 = 1
  · rw [if_pos a1]
    refine (th1_take g av bv (At bv s) (At bv (nxt s k 1)) (At bv (nxt (nxt s k 1) t 1)) (At bv (nxt (nxt (nxt s k 1) t 1) i 1)) (At bv (nxt (nxt (nxt (nxt s k 1) t 1) i 1) q 1)) (At bv (nxt (nxt (nxt (nxt (nxt s k 1) t 1) i 1) q 1) v 8)) k t i q v _ _ _ _ w fr
      (fun w hA => by have := hP.call1 bv s k w (hP.some 11 1 s hr) hA; rw [a1] at this; exact this) (st _)
      (fun w hA => hP.call1 bv _ t w (hP.some 10 1 _ r1) hA) (st _)
      (fun w hA => hP.call1 bv _ i w (hP.some 9 1 _ r2) hA) (st _)
      (fun w hA => hP.call1 bv _ q w (hP.some 8 1 _ r3) hA) (st _)
      (fun w hA => hP.call8 bv _ v w r4 hA) (st _) H' T0 K0).mono ?_
    rintro x w' ⟨rfl, hA, hK⟩
    exact ⟨rfl, hP.less bv av _ _ fr.sub hA, hK⟩
  · rw [if_neg a1]
    by_cases a2 : ans s k 1 = 2
    · rw [if_pos a2]
      refine (th2_take g av bv (At bv s) (At bv (nxt s k 1)) (At bv (nxt (nxt s k 1) t 1)) k t i q v _ w fr
        (fun w hA => by have := hP.call1 bv s k w (hP.some 11 1 s hr) hA; rw [a2] at this; exact this) (st _)
        (fun w hA => hP.call1 bv _ t w (hP.some 10 1 _ r1) hA) (st _) H' T0 K0).mono ?_
      rintro x w' ⟨rfl, hA, hK⟩
      exact ⟨rfl, hP.less bv av _ _ fr.sub hA, hK⟩
    · rw [if_neg a2]
      refine (th3_take g av bv (At bv s) (At bv (nxt s k 1)) k t i q v _ w fr a1 a2 (fun w hA => hP.call1 bv s k w (hP.some 11 1 s hr) hA) (st _) H' T0 K0).mono ?_
      rintro x w' ⟨rfl, hA, hK⟩
      exact ⟨rfl, hP.less bv av _ _ fr.sub hA, hK⟩

end Go.Proofs.Ytlmkbfbiohocpaa
