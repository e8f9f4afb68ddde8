/-
  No cell of these rows narrows 'for every input' (looked for: loops, veiled, ifaces, maps, wideKeys, modest, calm, conditions, laid).
  DERIVED. THE GIVEN ROWS OF THIS SEAT. 4 by the template 'for every input the law returns true; each argument reads behind the call as it read before'; 0 by the template 'total and deterministic' (their statements: YtlbekjnpaiiilaaTotals.lean).
  GIVEN WITH THE SEED: the statements are not yours to turn. If you find one false, say at which input.
  Laid BY PROGRAM, IN A SANDBOX (cutbox-rows.mjs): the forced cells as the released guide's own fill.sh prints them over the translation 1afad9cecc36c0e4… (all of the seat's roots in one cut). By AI agents, Wed Nov 11 2026. No macro, syntax, notation, axiom, sorry.
-/
import Derived.Test.YtlbekjnpaiiilaaChecked
import GoSem.Claim
import GoSem.ClaimJoined
import GoSem.ClaimMapViews
import Derived.JoinedTies
import Derived.KernelRfl
namespace Go.Proofs.Ytlbekjnpaiiilaa
/- THE CELL 'sum', in the pinned program and in every row, IS THE sha256 OF THE DUMP (.gsa) THAT YtlbekjnpaiiilaaProg.lean LOADS. Nothing in Lean hashes anything: it is a label: what it is worth is what the hold of that sum in a sandbox is worth. -/
noncomputable def Try.pinned : Pinned := { name := "ytlbekjnpaiiilaa", sum := "1afad9cecc36c0e4720e8fe21441e4890eb7ee279dfa712b8bd15042e5e1e3e4", checked := Try.checked }
namespace Rows
def none {H : Type} : Left H := { results := [], args := [] }

/-- 'millstreamlaw14.GatherAll': WHATEVER THE INPUT: true; the input reads as it did. -/
def gatherAllSpec : ChangeSpec := { name := "gatherAll", fn := fun _ => fun
  | [d1, d2] => { results := [.lit (.bool true)], args := [d1, d2] }
  | _ => none }
def gatherAllRow : OpenClaim := { program := "ytlbekjnpaiiilaa", sum := "1afad9cecc36c0e4720e8fe21441e4890eb7ee279dfa712b8bd15042e5e1e3e4", func := "millstream/millstreamlaw14.GatherAll", spec := "gatherAll", unfollowed := true, recurses := true, apart := false }
def GatherAllSaid : Prop := gatherAllRow.holds Try.pinned (OpenSpec.ofChange gatherAllSpec)

/-- ITS FALSE NEIGHBOUR: 'it returns false'. Refute it at one input. -/
def gatherAllWrong : ChangeSpec := { name := "gatherAll", fn := fun _ => fun
  | [d1, d2] => { results := [.lit (.bool false)], args := [d1, d2] }
  | _ => none }
def GatherAllWrongFalsely : Prop := gatherAllRow.holds Try.pinned (OpenSpec.ofChange gatherAllWrong)

/-- 'millstreamlaw14.GatherWaits': WHATEVER THE INPUT: true; the input reads as it did. -/
def gatherWaitsSpec : ChangeSpec := { name := "gatherWaits", fn := fun _ => fun
  | [d1, d2] => { results := [.lit (.bool true)], args := [d1, d2] }
  | _ => none }
def gatherWaitsRow : OpenClaim := { program := "ytlbekjnpaiiilaa", sum := "1afad9cecc36c0e4720e8fe21441e4890eb7ee279dfa712b8bd15042e5e1e3e4", func := "millstream/millstreamlaw14.GatherWaits", spec := "gatherWaits", unfollowed := true, recurses := true, apart := false }
def GatherWaitsSaid : Prop := gatherWaitsRow.holds Try.pinned (OpenSpec.ofChange gatherWaitsSpec)

/-- ITS FALSE NEIGHBOUR: 'it returns false'. Refute it at one input. -/
def gatherWaitsWrong : ChangeSpec := { name := "gatherWaits", fn := fun _ => fun
  | [d1, d2] => { results := [.lit (.bool false)], args := [d1, d2] }
  | _ => none }
def GatherWaitsWrongFalsely : Prop := gatherWaitsRow.holds Try.pinned (OpenSpec.ofChange gatherWaitsWrong)

/-- 'millstreamlaw14.GatherRace': WHATEVER THE INPUT: true; the input reads as it did. -/
def gatherRaceSpec : ChangeSpec := { name := "gatherRace", fn := fun _ => fun
  | [d1, d2] => { results := [.lit (.bool true)], args := [d1, d2] }
  | _ => none }
def gatherRaceRow : OpenClaim := { program := "ytlbekjnpaiiilaa", sum := "1afad9cecc36c0e4720e8fe21441e4890eb7ee279dfa712b8bd15042e5e1e3e4", func := "millstream/millstreamlaw14.GatherRace", spec := "gatherRace", unfollowed := true, recurses := true, apart := false }
def GatherRaceSaid : Prop := gatherRaceRow.holds Try.pinned (OpenSpec.ofChange gatherRaceSpec)

/-- ITS FALSE NEIGHBOUR: 'it returns false'. Refute it at one input. -/
def gatherRaceWrong : ChangeSpec := { name := "gatherRace", fn := fun _ => fun
  | [d1, d2] => { results := [.lit (.bool false)], args := [d1, d2] }
  | _ => none }
def GatherRaceWrongFalsely : Prop := gatherRaceRow.holds Try.pinned (OpenSpec.ofChange gatherRaceWrong)

/-- 'millstreamlaw14.GatherLeaves': WHATEVER THE INPUT: true; the input reads as it did. -/
def gatherLeavesSpec : ChangeSpec := { name := "gatherLeaves", fn := fun _ => fun
  | [d] => { results := [.lit (.bool true)], args := [d] }
  | _ => none }
def gatherLeavesRow : OpenClaim := { program := "ytlbekjnpaiiilaa", sum := "1afad9cecc36c0e4720e8fe21441e4890eb7ee279dfa712b8bd15042e5e1e3e4", func := "millstream/millstreamlaw14.GatherLeaves", spec := "gatherLeaves", unfollowed := true, recurses := true, apart := false }
def GatherLeavesSaid : Prop := gatherLeavesRow.holds Try.pinned (OpenSpec.ofChange gatherLeavesSpec)

/-- ITS FALSE NEIGHBOUR: 'it returns false'. Refute it at one input. -/
def gatherLeavesWrong : ChangeSpec := { name := "gatherLeaves", fn := fun _ => fun
  | [d] => { results := [.lit (.bool false)], args := [d] }
  | _ => none }
def GatherLeavesWrongFalsely : Prop := gatherLeavesRow.holds Try.pinned (OpenSpec.ofChange gatherLeavesWrong)

/- THE SECOND FORM. 'bulk': how many values and letters a reading holds, each counted each time it is reached (what is shared counts as often as it is met; a slice's spare places count too). A statement '..UptoSaid' is the law's where the arguments, and the package variables that the reading takes, are together of bulk at most 1048576: NARROWER than '..Said'. Prove '..Said' where nothing that the law and all that it calls make is longer than what came in: it says more and counts as full. Else prove '..UptoSaid'. A law counts once. -/
mutual
def uptoBulk {H : Type} : DataW H → Nat
  | .lit (.string bytes) => bytes.length + 1
  | .lit _ => 1
  | .nil => 1
  | .ptr d => uptoBulk d + 1
  | .slice elems spare => uptoBulkAll elems + uptoBulkAll spare + 1
  | .agg parts => uptoBulkAll parts + 1
  | .iface _ d => uptoBulk d + 1
  | .map entries => uptoBulkEntries entries + 1
  | .held _ => 1
def uptoBulkAll {H : Type} : List (DataW H) → Nat
  | [] => 0
  | d :: r => uptoBulk d + uptoBulkAll r
def uptoBulkEntries {H : Type} : List (Lit × DataW H) → Nat
  | [] => 0
  | x :: r => uptoBulkEntry x + uptoBulkEntries r
def uptoBulkEntry {H : Type} : Lit × DataW H → Nat
  | (.string bytes, d) => bytes.length + uptoBulk d + 1
  | (_, d) => uptoBulk d + 1
 end
def uptoSmall : (H : Type) → List (DataW H) → Bool := fun _ ds => decide (uptoBulkAll ds ≤ 1048576)
def OpenSpec.upto (s : _root_.Go.ChangeSpec) : _root_.Go.OpenSpec := { _root_.Go.OpenSpec.ofChange s with cond := some uptoSmall }

/-- 'millstreamlaw14.GatherAll', WHERE WHAT IT READS IS OF BULK AT MOST 1048576: true; the input reads as it did. -/
def gatherAllUptoRow : OpenClaim := { program := "ytlbekjnpaiiilaa", sum := "1afad9cecc36c0e4720e8fe21441e4890eb7ee279dfa712b8bd15042e5e1e3e4", func := "millstream/millstreamlaw14.GatherAll", spec := "gatherAll", unfollowed := true, recurses := true, apart := false, narrowed := true }
def GatherAllUptoSaid : Prop := gatherAllUptoRow.holds Try.pinned (OpenSpec.upto gatherAllSpec)

/-- 'millstreamlaw14.GatherWaits', WHERE WHAT IT READS IS OF BULK AT MOST 1048576: true; the input reads as it did. -/
def gatherWaitsUptoRow : OpenClaim := { program := "ytlbekjnpaiiilaa", sum := "1afad9cecc36c0e4720e8fe21441e4890eb7ee279dfa712b8bd15042e5e1e3e4", func := "millstream/millstreamlaw14.GatherWaits", spec := "gatherWaits", unfollowed := true, recurses := true, apart := false, narrowed := true }
def GatherWaitsUptoSaid : Prop := gatherWaitsUptoRow.holds Try.pinned (OpenSpec.upto gatherWaitsSpec)

/-- 'millstreamlaw14.GatherRace', WHERE WHAT IT READS IS OF BULK AT MOST 1048576: true; the input reads as it did. -/
def gatherRaceUptoRow : OpenClaim := { program := "ytlbekjnpaiiilaa", sum := "1afad9cecc36c0e4720e8fe21441e4890eb7ee279dfa712b8bd15042e5e1e3e4", func := "millstream/millstreamlaw14.GatherRace", spec := "gatherRace", unfollowed := true, recurses := true, apart := false, narrowed := true }
def GatherRaceUptoSaid : Prop := gatherRaceUptoRow.holds Try.pinned (OpenSpec.upto gatherRaceSpec)

/-- 'millstreamlaw14.GatherLeaves', WHERE WHAT IT READS IS OF BULK AT MOST 1048576: true; the input reads as it did. -/
def gatherLeavesUptoRow : OpenClaim := { program := "ytlbekjnpaiiilaa", sum := "1afad9cecc36c0e4720e8fe21441e4890eb7ee279dfa712b8bd15042e5e1e3e4", func := "millstream/millstreamlaw14.GatherLeaves", spec := "gatherLeaves", unfollowed := true, recurses := true, apart := false, narrowed := true }
def GatherLeavesUptoSaid : Prop := gatherLeavesUptoRow.holds Try.pinned (OpenSpec.upto gatherLeavesSpec)

end Rows
end Go.Proofs.Ytlbekjnpaiiilaa
