/- Channels in one goroutine, as steps of a walk: a send with room, a select of one receive with a default. Nothing of the program. -/
import Derived.Test.YtjghdbkkjhnpfaaM2
import Derived.Conc.LoneSelect
namespace Go.Proofs.Ytjghdbkkjhnpfaa
open Go.RowKit Go.Conc

section
variable {P : Program} {b : Frame} {a : Act} {k : List Item} {cs : List Frame} {w w' : World} {ops : Array Oper} {i : Nat} {rest : List Nat} {o : Oper} {Q : Exit → Act → World → Prop}

/-- A communication is handed up to the machine, in whatever frame. -/
theorem comm_step {cases : Array CommCase} {blocking : Bool} {shape : CommShape} (ho : ops[i]? = some o) (hw : Region.wanted o (yielded ops a.tmps) = true) (hr : (execOp a.eval o).run P w = .ok (.comm cases blocking shape) w') :
    ∃ es, stepG P true (G (b.at a (.inRegion ops (i :: rest) :: k)) cs) w = .comm (G (b.at a (.inRegion ops (i :: rest) :: k)) cs) cases blocking shape w' es := by
  by_cases hk : b.kind = .early
  · rw [stepG_oper ho hw]
    simp [stepG.apply, hr, G, Frame.at, hk, GStep.after]
  · exact ⟨_, stepG_comm ho hw hk hr⟩

/-- What is left of a region comes to an end of which Q holds. -/
def OpsWp (P : Program) (ops : Array Oper) (Q : Exit → Act → World → Prop) (l : List Nat) (a : Act) (w : World) : Prop :=
  ∀ (b : Frame) (k : List Item) (cs : List Frame), ∃ e a' w', Q e a' w' ∧ Arrives P (lone (b.at a (.inRegion ops l :: k)) cs w) b k cs e a' w'

theorem opsWp_end (h : Q .normal a w) : OpsWp P ops Q [] a w := fun _ _ _ => ⟨.normal, a, w, h, .one step_region_end⟩
theorem opsWp_list {l : List Oper} {m : Nat} (hl : ∀ j, l[j]? = ops[m + j]?) (h : wpList P ops Q l a w) : OpsWp P ops Q (List.range' m l.length) a w := by
  rw [← wpOps_eq_wpList l m hl] at h
  exact fun b k cs => wp_ops _ a w h b k cs
theorem wp_opsWp {id : Nat} (h : OpsWp P ops Q (List.range ops.size) a w) : (Code.region id ops false).wp P Q a w :=
  fun b k cs => let ⟨e, a', w', q, r⟩ := h b k cs; ⟨e, a', w', q, .of_steps (.one step_region) r⟩

/-- What is asked once an operation has yielded this: all but a value is not served. -/
def uponV (o : Oper) (a : Act) (K : Act → World → Prop) : Result Next → Prop
  | .ok (.value v) w' => K (a.put o.dst v) w'
  | _ => False
@[simp] theorem uponV_value (o : Oper) (a : Act) (K : Act → World → Prop) (v : Value) (w' : World) : uponV o a K (.ok (.value v) w') = K (a.put o.dst v) w' := rfl

theorem opsWp_op (ho : ops[i]? = some o) (hw : Region.wanted o (yielded ops a.tmps) = true)
    (h : ∀ K : Act → World → Prop, (∀ a w, OpsWp P ops Q rest a w → K a w) → uponV o a K ((execOp a.eval o).run P w)) : OpsWp P ops Q (i :: rest) a w := by
  have h := h _ (fun _ _ h => h)
  intro b k cs
  generalize hr : (execOp a.eval o).run P w = r at h
  match r, h with
  | .ok (.value v) w', h =>
    obtain ⟨e, a', w'', hq, harr⟩ := h b k cs
    refine ⟨e, a', w'', hq, .of_steps (.one (step_lone_go ?_)) harr⟩
    have hfin : (b.at a (.inRegion ops (i :: rest) :: k)).finish v = b.at (a.put o.dst v) (.inRegion ops rest :: k) := by rw [Frame.finish_at, ho]; rfl
    rw [stepG_op ho hw, ← hfin]
    simp [stepG.apply, hr]

variable {c cap s r : Nat} {buf : Array Value} {z v : Value} {tm closed : Bool}
/-- A send into a buffer that has room. -/
theorem opsWp_send (ho : ops[i]? = some o) (hw : Region.wanted o (yielded ops a.tmps) = true) (hd : o.dst = none) (hr : (execOp a.eval o).run P w = .ok (.comm #[scase c v z] true .send) w)
    (hc : w.heap[c]? = some (.chan cap buf false s r tm)) (hroom : buf.size < cap) (h : OpsWp P ops Q rest a (w.setChan c cap (buf.push v) false (s + 1) r tm)) : OpsWp P ops Q (i :: rest) a w := by
  intro b k cs
  obtain ⟨e, a', w'', hq, harr⟩ := h b k cs
  obtain ⟨es, hs⟩ := comm_step (b := b) (k := k) (cs := cs) (rest := rest) ho hw hr
  refine ⟨e, a', w'', hq, .of_steps (.one ?_) harr⟩
  have := step_lone_send_room hs hc hroom
  rw [Frame.finish_at, ho] at this
  simpa [Act.put, hd, lone_eq_solo] using this

/-- A select of one receive with a default: the buffer holds something. -/
theorem opsWp_sel_some (ho : ops[i]? = some o) (hw : Region.wanted o (yielded ops a.tmps) = true) (hr : (execOp a.eval o).run P w = .ok (.comm #[rcase c z] false .select) w)
    (hc : w.heap[c]? = some (.chan cap buf closed s r tm)) (hsome : 0 < buf.size)
    (h : OpsWp P ops Q rest (a.put o.dst (.tuple #[goInt 0, .bool true, buf.getD 0 undef])) (w.setChan c cap (buf.extract 1 buf.size) closed s (r + 1) tm)) : OpsWp P ops Q (i :: rest) a w := by
  intro b k cs
  obtain ⟨e, a', w'', hq, harr⟩ := h b k cs
  obtain ⟨es, hs⟩ := comm_step (b := b) (k := k) (cs := cs) (rest := rest) ho hw hr
  refine ⟨e, a', w'', hq, .of_steps (.one ?_) harr⟩
  have := step_lone_select_recv_buf hs hc hsome
  rw [Frame.finish_at, ho] at this
  simpa [lone_eq_solo] using this

/-- A select of one receive with a default: the channel is open, and nothing is in its buffer. -/
theorem opsWp_sel_none (ho : ops[i]? = some o) (hw : Region.wanted o (yielded ops a.tmps) = true) (hr : (execOp a.eval o).run P w = .ok (.comm #[rcase c z] false .select) w)
    (hc : w.heap[c]? = some (.chan cap #[] false s r tm)) (h : OpsWp P ops Q rest (a.put o.dst (.tuple #[goInt (-1), .bool false, z])) w) : OpsWp P ops Q (i :: rest) a w := by
  intro b k cs
  obtain ⟨e, a', w'', hq, harr⟩ := h b k cs
  obtain ⟨es, hs⟩ := comm_step (b := b) (k := k) (cs := cs) (rest := rest) ho hw hr
  refine ⟨e, a', w'', hq, .of_steps (.one ?_) harr⟩
  have := step_lone_select_default hs hc
  rw [Frame.finish_at, ho] at this
  simpa [lone_eq_solo] using this
end
end Go.Proofs.Ytjghdbkkjhnpfaa
