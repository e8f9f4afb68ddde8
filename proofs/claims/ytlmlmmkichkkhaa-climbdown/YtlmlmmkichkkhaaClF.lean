/- Turns behind a step of layer 13: what stays. -/
import Derived.Test.YtlmlmmkichkkhaaClE
import Derived.Test.YtlmlmmkichkkhaaClD
import Derived.Test.YtlmlmmkichkkhaaClC
import Derived.Test.YtlmlmmkichkkhaaClH
import Derived.Test.YtlmlmmkichkkhaaClA
namespace Go.Proofs.Ytlmlmmkichkkhaa
open Go.RowKit Go.Sort
set_option linter.unusedVariables false
set_option linter.unusedSimpArgs false

/-- The same lists, but the words and the held nodes. -/
structure LikeK (u v : Tn) : Prop where
  ws : v.ws.length = u.ws.length
  bx : v.bx = u.bx
  bl : v.d.bl = u.d.bl
  kl : v.d.kl = u.d.kl
  tl : v.tl = u.tl
  ll : v.ll = u.ll
  c : v.c = u.c
  tt : v.tt = u.tt
  it : v.d.it = u.d.it
theorem LikeK.refl (u : Tn) : LikeK u u := ⟨rfl, rfl, rfl, rfl, rfl, rfl, rfl, rfl, rfl⟩
theorem LikeK.trans {u v w : Tn} (h : LikeK u v) (k : LikeK v w) : LikeK u w := ⟨k.ws.trans h.ws, k.bx.trans h.bx, k.bl.trans h.bl, k.kl.trans h.kl, k.tl.trans h.tl, k.ll.trans h.ll, k.c.trans h.c, k.tt.trans h.tt, k.it.trans h.it⟩
theorem down_like (u : Tn) : LikeK u (downV u) := by unfold downV; split; exact ⟨rfl, rfl, rfl, rfl, rfl, rfl, rfl, rfl, rfl⟩; split <;> exact ⟨rfl, rfl, rfl, rfl, rfl, rfl, rfl, rfl, rfl⟩
theorem over_like (u : Tn) : LikeK u (overV u) := LikeK.trans (v := ({ u with d := { u.d with pl := 0 } } : Tn)) ⟨rfl, rfl, rfl, rfl, rfl, rfl, rfl, rfl, rfl⟩ (down_like _)
theorem won_like (u : Tn) : LikeK u (wonV u) := LikeK.trans (v := ({ u with d := { u.d with st := u.d.nd } } : Tn)) ⟨rfl, rfl, rfl, rfl, rfl, rfl, rfl, rfl, rfl⟩ (over_like _)
theorem hold_like (u : Tn) : LikeK u (holdV u) := by
  unfold holdV; split
  · exact LikeK.trans (v := { u with d := { u.d with hl := u.d.hl ++ [u.d.nd], nd := parV u.d.nd } }) ⟨rfl, rfl, rfl, rfl, rfl, rfl, rfl, rfl, rfl⟩ (over_like _)
  · exact ⟨rfl, rfl, rfl, rfl, rfl, rfl, rfl, rfl, rfl⟩
theorem look_like (u : Tn) : LikeK u (lookK u) := by
  unfold lookK; split
  · split
    · exact ⟨rfl, rfl, rfl, rfl, rfl, rfl, rfl, rfl, rfl⟩
    · split
      · exact ⟨rfl, rfl, rfl, rfl, rfl, rfl, rfl, rfl, rfl⟩
      · split
        · exact over_like u
        · exact LikeK.refl u
  · exact LikeK.refl u
theorem clm_like (k : Tn → Tn) (hk : ∀ v, LikeK v (k v)) (u : Tn) (old mine : Int) : LikeK u (clmV k u old mine) := by
  unfold clmV; split
  · split
    · exact LikeK.trans (v := { u with ws := casV u.ws (ndP u) old mine }) ⟨casV_length _ _ _ _, rfl, rfl, rfl, rfl, rfl, rfl, rfl, rfl⟩ (hk _)
    · exact ⟨rfl, rfl, rfl, rfl, rfl, rfl, rfl, rfl, rfl⟩
  · exact LikeK.refl u
theorem step_like (u : Tn) : LikeK u (stepK u) := by
  unfold stepK; split
  · exact look_like u
  · split
    · exact clm_like _ hold_like u _ _
    · split
      · exact clm_like _ won_like u _ _
      · exact LikeK.refl u
/-- How the lists of a turn moved: the words and the held nodes alone. -/
structure MvdK (w : World) (a b : TA) (n m : Nat) : Prop where
  mA : b.mA = a.mA ∨ Fresh w b.mA
  hA : (b.p.hA = a.p.hA ∧ m = n) ∨ Fresh w b.p.hA
  mB : b.mB = a.mB
  md : b.md = a.md
  bs : b.bs = a.bs
  bA : b.p.bA = a.p.bA
  kA : b.p.kA = a.p.kA
  tA : b.tA = a.tA
  lA : b.lA = a.lA
def KsPost (v : Tn) (q : Bool) (n : Nat) (a : TA) (w : World) (e : Ending) (w' : World) : Prop := ∃ b, e = .returned (.tuple #[.agg (tcs v b).toArray, .bool q]) ∧ TnAt w' v b ∧ MvdK w a b n v.d.hl.length ∧ Below w.heap.size w w'
theorem ks_of {u v : Tn} {q : Bool} {a : TA} {w : World} (l : LikeK u v) (h : TnAt w u a) {e : Ending} {w' : World} (p : KSPost v q u.d.hl.length a w e w') : KsPost v q u.d.hl.length a w e w' := by
  obtain ⟨A, c, H, k, rfl, sA, hA, sH, hH, hb⟩ := p
  have h' := h.later hb
  refine ⟨_, rfl, ⟨h.m.words_at hb sA l.ws, h.bx.trans l.bx.symm, ⟨?_, ?_, sH⟩, ?_, ?_⟩, ⟨hA, hH, rfl, rfl, rfl, rfl, rfl, rfl, rfl⟩, hb⟩
  · rw [l.bl]; exact h'.th.b
  · rw [l.kl]; exact h'.th.k
  · rw [l.tl]; exact h'.tp
  · rw [l.ll]; exact h'.lg
theorem kstep_at (u : Tn) (a : TA) (o : TnOk u) (ht : 0 ≤ u.tt ∧ u.tt ≤ 15) (w : World) (h : TnAt w u a) : Calls Try.prog 12 #[.agg (tcs u a).toArray] w (KsPost (stepK u) (isK u) u.d.hl.length a w) :=
  (kstep_any u a o ht w h).mono fun _ _ p => ks_of (step_like u) h p
theorem DtWf.all {d : Dt} (f : DtWf d) {ph x st nd pl : Int} {hl : List Int} (h1 : I64 ph) (h2 : I64 x) (h3 : I64 st) (h4 : I64 nd) (h5 : I64 pl) (h6 : ∀ x ∈ hl, I64 x) : DtWf { d with ph := ph, x := x, st := st, nd := nd, pl := pl, hl := hl } := by
  refine ⟨fun e he => ?_, f.t, f.v, f.b, h6, f.k⟩
  simp only [Dt.nums, List.mem_cons, List.not_mem_nil, or_false] at he
  rcases he with rfl | rfl | rfl | rfl | rfl | rfl | rfl | rfl | rfl | rfl | rfl | rfl <;> first | assumption | exact f.n _ (by simp [Dt.nums])
theorem TnOk.all {u : Tn} (o : TnOk u) {ph x st nd pl : Int} {hl ws : List Int} (h1 : I64 ph) (h2 : I64 x) (h3 : I64 st) (h4 : I64 nd) (h5 : I64 pl) (h6 : ∀ x ∈ hl, I64 x) (h7 : hl.length ≤ 200) (h8 : ∀ x ∈ ws, I64 x) : TnOk ({ u with ws := ws, d := { u.d with ph := ph, x := x, st := st, nd := nd, pl := pl, hl := hl } } : Tn) := ⟨o.b, o.k, h7, o.l, o.t, o.f.all h1 h2 h3 h4 h5 h6, o.lo, o.hi, o.tt, h8, o.c⟩
theorem TnOk.ist {u : Tn} (o : TnOk u) : I64 u.d.st := o.f.n _ (by simp [Dt.nums])
theorem TnOk.ind {u : Tn} (o : TnOk u) : I64 u.d.nd := o.f.n _ (by simp [Dt.nums])
theorem TnOk.down {u : Tn} (o : TnOk u) : TnOk (downV u) := by
  unfold downV; split
  · exact o.all (ph := 7) (i64_k 7 (by decide)) o.ix o.ist o.ind o.ipl o.f.h o.h o.ws
  · split
    · exact o.all (ph := 11) (i64_k 11 (by decide)) o.ix o.ist o.ind o.ipl o.f.h o.h o.ws
    · exact o.all (ph := 2) (i64_k 2 (by decide)) o.ix o.ist o.ind o.ipl o.f.h o.h o.ws
theorem TnOk.over {u : Tn} (o : TnOk u) : TnOk (overV u) := TnOk.down (u := ({ u with d := { u.d with pl := 0 } } : Tn)) (o.all (pl := 0) o.iph o.ix o.ist o.ind (i64_k 0 (by decide)) o.f.h o.h o.ws)
theorem TnOk.won {u : Tn} (o : TnOk u) : TnOk (wonV u) := TnOk.over (u := ({ u with d := { u.d with st := u.d.nd } } : Tn)) (o.all (st := u.d.nd) o.iph o.ix o.ind o.ind o.ipl o.f.h o.h o.ws)
theorem TnOk.hold {u : Tn} (o : TnOk u) (hl : u.d.hl.length < 200) : TnOk (holdV u) := by
  have h6 : ∀ x ∈ u.d.hl ++ [u.d.nd], I64 x := fun x hx => by
    rcases List.mem_append.1 hx with h | h
    · exact o.f.h x h
    · rw [List.mem_singleton.1 h]; exact o.ind
  have h7 : (u.d.hl ++ [u.d.nd]).length ≤ 200 := by simp; omega
  unfold holdV; split
  · exact TnOk.over (u := { u with d := { u.d with hl := u.d.hl ++ [u.d.nd], nd := parV u.d.nd } }) (o.all (nd := parV u.d.nd) (hl := u.d.hl ++ [u.d.nd]) o.iph o.ix o.ist (par_i64 o.ind) o.ipl h6 h7 o.ws)
  · exact o.all (ph := 4) (nd := parV u.d.nd) (hl := u.d.hl ++ [u.d.nd]) (i64_k 4 (by decide)) o.ix o.ist (par_i64 o.ind) o.ipl h6 h7 o.ws
theorem TnOk.look {u : Tn} (o : TnOk u) : TnOk (lookK u) := by
  unfold lookK; split
  · split
    · exact o.all (ph := 5) (i64_k 5 (by decide)) o.ix o.ist o.ind o.ipl o.f.h o.h o.ws
    · split
      · exact o.all (ph := 6) (x := ldV u.ws (ndP u)) (i64_k 6 (by decide)) (ldV_i64 o.ws _) o.ist o.ind o.ipl o.f.h o.h o.ws
      · split
        · exact o.over
        · exact o
  · exact o
theorem TnOk.clm {u : Tn} (o : TnOk u) (k : Tn → Tn) (old mine : Int) (hm : I64 mine) (hk : TnOk { u with ws := casV u.ws (ndP u) old mine } → TnOk (k { u with ws := casV u.ws (ndP u) old mine })) : TnOk (clmV k u old mine) := by
  unfold clmV; split
  · split
    · exact hk ⟨o.b, o.k, o.h, o.l, o.t, o.f, o.lo, o.hi, o.tt, casV_i64 o.ws _ _ _ hm, o.c⟩
    · exact o.all (ph := 4) (i64_k 4 (by decide)) o.ix o.ist o.ind o.ipl o.f.h o.h o.ws
  · exact o
theorem TnOk.stepK {u : Tn} (o : TnOk u) (ht : 0 ≤ u.tt ∧ u.tt ≤ 15) (hl : u.d.hl.length < 200) : TnOk (stepK u) := by
  unfold Go.Proofs.Ytlmlmmkichkkhaa.stepK; split
  · exact o.look
  · split
    · exact o.clm holdV _ _ (fr_i64 (by decide) ht) (fun q => q.hold hl)
    · split
      · exact o.clm wonV _ _ (fr_i64 (by decide) ht) (fun q => q.won)
      · exact o
end Go.Proofs.Ytlmlmmkichkkhaa
