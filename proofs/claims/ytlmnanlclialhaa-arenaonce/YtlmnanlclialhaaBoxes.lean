/- Contracts of wmem's steps on boxes. -/
import Derived.Test.YtlmnanlclialhaaWordsR
namespace Go.Proofs.Ytlmnanlclialhaa
open Go.RowKit

theorem boxes_at {bs : List Bt} {k : Nat} {q : Bt} (h : bs[k]? = some q) : (boxes bs)[k]? = some q.l := by simp [boxes, h]

theorem infoRow : (Try.prog.info? 61).map (fun i => (i.zero, i.size, i.bytes)) = some (some (.slice none 0 0), 1, 24) := by kernel_rfl
theorem val_one (bs : List Bt) : ∀ u ∈ bs.map Bt.val, u.oneCell' = true := by
  intro u hu
  obtain ⟨q, _, rfl⟩ := List.mem_map.1 hu
  rfl

/-- Boxes behind a step: they are those that were there, but for one that is new and holds lb. -/
structure BxOk (w w' : World) (B : Option Addr) (bs : List Bt) (lb : List E3) (B' : Option Addr) (bs' : List Bt) : Prop where
  row : Sees w' w'.heap.size 1 B' bs'.length (bs'.map Bt.val)
  each : ∀ q ∈ bs', q.Ok w'
  place : B' = B ∨ Fresh w B'
  old : ∀ q ∈ bs', q ∈ bs ∨ (Fresh w q.A ∧ q.l = lb)
  len : bs'.length = bs.length
theorem BxOk.far {w0 w w' : World} {A B B' : Option Addr} {ws : List Int} {bs bs' : List Bt} {lb : List E3} (h : BxOk w w' B bs lb B' bs') (m : MemAt w0 A ws B bs) (g o : Nat) (v : Value) (h1 : w0.heap.size ≤ g) (h2 : g < w.heap.size) : BxOk w (w'.setCell ⟨g, o, none⟩ v) B bs lb B' bs' :=
  ⟨(h.row.far' g o v (fun hn => m.bxs.block_lt (by rw [← h.len]; exact hn)) h.place h1 h2).up (by simp), fun q hq => by
    have hs : Sees w' w'.heap.size 3 q.A q.l.length (ecells q.l) := h.each q hq
    have : Sees (w'.setCell ⟨g, o, none⟩ v) w'.heap.size 3 q.A q.l.length (ecells q.l) := by
      rcases h.old q hq with ho | ⟨ho, _⟩
      · exact hs.far' g o v (fun hn => Sees.block_lt (m.each q ho) hn) (.inl rfl) h1 h2
      · exact hs.far' (A := none) g o v (fun _ p hp => by cases hp) (.inr ho) h1 h2
    exact this.up (by simp), h.place, h.old, h.len⟩
theorem BxOk.before {w0 w w' : World} {B B' : Option Addr} {bs bs' : List Bt} {lb : List E3} (h : BxOk w w' B bs lb B' bs') (hs : w0.heap.size ≤ w.heap.size) : BxOk w0 w' B bs lb B' bs' :=
  ⟨h.row, h.each, h.place.imp_right (·.before hs), fun q hq => (h.old q hq).imp_right (fun ⟨a, b⟩ => ⟨a.before hs, b⟩), h.len⟩
theorem BxOk.mem {w0 w w' : World} {A B B' : Option Addr} {ws : List Int} {bs bs' : List Bt} {lb : List E3} (h : BxOk w w' B bs lb B' bs') (m : MemOk w0 A ws B bs) (hb : Below w0.heap.size w0 w') (hl : lb.length ≤ 20000) : MemOk w' A ws B' bs' :=
  ⟨⟨m.words.later hb, h.row, h.each⟩, m.few, h.len ▸ m.fewb, fun q hq => (h.old q hq).elim (fun ho => m.short q ho) (fun ho => by rw [ho.2]; exact hl)⟩

/-- Boxes (those of B, or new ones), one batch, an error. -/
def WBPost (B : Option Addr) (bs : List Bt) (bx : List (List E3)) (lb : List E3) (e : Int) (w : World) (x : Ending) (w' : World) : Prop :=
  ∃ B' d bs' q, x = .returned (.tuple #[.slice B' (List.length bs') d, Bt.val q, .int .i64 e]) ∧ boxes bs' = bx ∧ BxOk w w' B bs lb B' bs' ∧ Below w.heap.size w w'
/-- A memory whose words are those that were handed in, and an error. -/
def MPPost (A : Option Addr) (n c : Nat) (B : Option Addr) (bs : List Bt) (bx : List (List E3)) (lb : List E3) (e : Int) (w : World) (x : Ending) (w' : World) : Prop :=
  ∃ B' d bs', x = .returned (.tuple #[.agg #[.slice A n c, .slice B' (List.length bs') d], .int .i64 e]) ∧ boxes bs' = bx ∧ BxOk w w' B bs lb B' bs' ∧ Below w.heap.size w w'

theorem BxOk.refl {w : World} {A B : Option Addr} {ws : List Int} {bs : List Bt} (lb : List E3) (m : MemAt w A ws B bs) : BxOk w w B bs lb B bs :=
  ⟨m.bxs, m.each, .inl rfl, fun _ hq => .inl hq, rfl⟩

end Go.Proofs.Ytlmnanlclialhaa
