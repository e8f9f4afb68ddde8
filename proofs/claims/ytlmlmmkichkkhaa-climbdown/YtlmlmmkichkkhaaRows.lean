/-
  No cell of these rows narrows 'for every input' (looked for: loops, veiled, ifaces, maps, wideKeys, modest, calm, conditions, laid).
  DERIVED. THE GIVEN ROWS OF THIS SEAT. 6 by the template 'for every input the law returns true; each argument reads behind the call as it read before'; 0 by the template 'total and deterministic' (their statements: YtlmlmmkichkkhaaTotals.lean).
  GIVEN WITH THE SEED: the statements are not yours to turn. If you find one false, say at which input.
  Laid BY PROGRAM, IN A SANDBOX (cutbox-rows.mjs): the forced cells as the released guide's own fill.sh prints them over the translation 40fea421bf502266… (all of the seat's roots in one cut). By AI agents, Wed Nov 11 2026. No macro, syntax, notation, axiom, sorry.
-/
import Derived.Test.YtlmlmmkichkkhaaChecked
import GoSem.Claim
import GoSem.ClaimJoined
import GoSem.ClaimMapViews
import Derived.JoinedTies
import Derived.KernelRfl
namespace Go.Proofs.Ytlmlmmkichkkhaa
/- THE CELL 'sum', in the pinned program and in every row, IS THE sha256 OF THE DUMP (.gsa) THAT YtlmlmmkichkkhaaProg.lean LOADS. Nothing in Lean hashes anything: it is a label: what it is worth is what the hold of that sum in a sandbox is worth. -/
noncomputable def Try.pinned : Pinned := { name := "ytlmlmmkichkkhaa", sum := "40fea421bf5022663f0da4dcc1a1e2ac947608686b3bcb1762b20904b95120bc", checked := Try.checked }
namespace Rows
def none {H : Type} : Left H := { results := [], args := [] }

/-- 'millstreamlaw13.ClimbSteps': WHATEVER THE INPUT: true; the input reads as it did. -/
def climbStepsSpec : ChangeSpec := { name := "climbSteps", fn := fun _ => fun
  | [d] => { results := [.lit (.bool true)], args := [d] }
  | _ => none }
def climbStepsRow : OpenClaim := { program := "ytlmlmmkichkkhaa", sum := "40fea421bf5022663f0da4dcc1a1e2ac947608686b3bcb1762b20904b95120bc", func := "millstream/millstreamlaw13.ClimbSteps", spec := "climbSteps", unfollowed := true, recurses := true, apart := false }
def ClimbStepsSaid : Prop := climbStepsRow.holds Try.pinned (OpenSpec.ofChange climbStepsSpec)

/-- ITS FALSE NEIGHBOUR: 'it returns false'. Refute it at one input. -/
def climbStepsWrong : ChangeSpec := { name := "climbSteps", fn := fun _ => fun
  | [d] => { results := [.lit (.bool false)], args := [d] }
  | _ => none }
def ClimbStepsWrongFalsely : Prop := climbStepsRow.holds Try.pinned (OpenSpec.ofChange climbStepsWrong)

/-- 'millstreamlaw13.ClimbAlone': WHATEVER THE INPUT: true; the input reads as it did. -/
def climbAloneSpec : ChangeSpec := { name := "climbAlone", fn := fun _ => fun
  | [d1, d2, d3] => { results := [.lit (.bool true)], args := [d1, d2, d3] }
  | _ => none }
def climbAloneRow : OpenClaim := { program := "ytlmlmmkichkkhaa", sum := "40fea421bf5022663f0da4dcc1a1e2ac947608686b3bcb1762b20904b95120bc", func := "millstream/millstreamlaw13.ClimbAlone", spec := "climbAlone", unfollowed := true, recurses := true, apart := false }
def ClimbAloneSaid : Prop := climbAloneRow.holds Try.pinned (OpenSpec.ofChange climbAloneSpec)

/-- ITS FALSE NEIGHBOUR: 'it returns false'. Refute it at one input. -/
def climbAloneWrong : ChangeSpec := { name := "climbAlone", fn := fun _ => fun
  | [d1, d2, d3] => { results := [.lit (.bool false)], args := [d1, d2, d3] }
  | _ => none }
def ClimbAloneWrongFalsely : Prop := climbAloneRow.holds Try.pinned (OpenSpec.ofChange climbAloneWrong)

/-- 'millstreamlaw13.ClimbJoins': WHATEVER THE INPUT: true; the input reads as it did. -/
def climbJoinsSpec : ChangeSpec := { name := "climbJoins", fn := fun _ => fun
  | [d1, d2, d3] => { results := [.lit (.bool true)], args := [d1, d2, d3] }
  | _ => none }
def climbJoinsRow : OpenClaim := { program := "ytlmlmmkichkkhaa", sum := "40fea421bf5022663f0da4dcc1a1e2ac947608686b3bcb1762b20904b95120bc", func := "millstream/millstreamlaw13.ClimbJoins", spec := "climbJoins", unfollowed := true, recurses := true, apart := false }
def ClimbJoinsSaid : Prop := climbJoinsRow.holds Try.pinned (OpenSpec.ofChange climbJoinsSpec)

/-- ITS FALSE NEIGHBOUR: 'it returns false'. Refute it at one input. -/
def climbJoinsWrong : ChangeSpec := { name := "climbJoins", fn := fun _ => fun
  | [d1, d2, d3] => { results := [.lit (.bool false)], args := [d1, d2, d3] }
  | _ => none }
def ClimbJoinsWrongFalsely : Prop := climbJoinsRow.holds Try.pinned (OpenSpec.ofChange climbJoinsWrong)

/-- 'millstreamlaw13.ClimbRace': WHATEVER THE INPUT: true; the input reads as it did. -/
def climbRaceSpec : ChangeSpec := { name := "climbRace", fn := fun _ => fun
  | [d1, d2] => { results := [.lit (.bool true)], args := [d1, d2] }
  | _ => none }
def climbRaceRow : OpenClaim := { program := "ytlmlmmkichkkhaa", sum := "40fea421bf5022663f0da4dcc1a1e2ac947608686b3bcb1762b20904b95120bc", func := "millstream/millstreamlaw13.ClimbRace", spec := "climbRace", unfollowed := true, recurses := true, apart := false }
def ClimbRaceSaid : Prop := climbRaceRow.holds Try.pinned (OpenSpec.ofChange climbRaceSpec)

/-- ITS FALSE NEIGHBOUR: 'it returns false'. Refute it at one input. -/
def climbRaceWrong : ChangeSpec := { name := "climbRace", fn := fun _ => fun
  | [d1, d2] => { results := [.lit (.bool false)], args := [d1, d2] }
  | _ => none }
def ClimbRaceWrongFalsely : Prop := climbRaceRow.holds Try.pinned (OpenSpec.ofChange climbRaceWrong)

/-- 'millstreamlaw13.ClimbDown': WHATEVER THE INPUT: true; the input reads as it did. -/
def climbDownSpec : ChangeSpec := { name := "climbDown", fn := fun _ => fun
  | [d] => { results := [.lit (.bool true)], args := [d] }
  | _ => none }
def climbDownRow : OpenClaim := { program := "ytlmlmmkichkkhaa", sum := "40fea421bf5022663f0da4dcc1a1e2ac947608686b3bcb1762b20904b95120bc", func := "millstream/millstreamlaw13.ClimbDown", spec := "climbDown", unfollowed := true, recurses := true, apart := false }
def ClimbDownSaid : Prop := climbDownRow.holds Try.pinned (OpenSpec.ofChange climbDownSpec)

/-- ITS FALSE NEIGHBOUR: 'it returns false'. Refute it at one input. -/
def climbDownWrong : ChangeSpec := { name := "climbDown", fn := fun _ => fun
  | [d] => { results := [.lit (.bool false)], args := [d] }
  | _ => none }
def ClimbDownWrongFalsely : Prop := climbDownRow.holds Try.pinned (OpenSpec.ofChange climbDownWrong)

/-- 'millstreamlaw13.ClimbOther': WHATEVER THE INPUT: true; the input reads as it did. -/
def climbOtherSpec : ChangeSpec := { name := "climbOther", fn := fun _ => fun
  | [d] => { results := [.lit (.bool true)], args := [d] }
  | _ => none }
def climbOtherRow : OpenClaim := { program := "ytlmlmmkichkkhaa", sum := "40fea421bf5022663f0da4dcc1a1e2ac947608686b3bcb1762b20904b95120bc", func := "millstream/millstreamlaw13.ClimbOther", spec := "climbOther", unfollowed := true, recurses := true, apart := false }
def ClimbOtherSaid : Prop := climbOtherRow.holds Try.pinned (OpenSpec.ofChange climbOtherSpec)

/-- ITS FALSE NEIGHBOUR: 'it returns false'. Refute it at one input. -/
def climbOtherWrong : ChangeSpec := { name := "climbOther", fn := fun _ => fun
  | [d] => { results := [.lit (.bool false)], args := [d] }
  | _ => none }
def ClimbOtherWrongFalsely : Prop := climbOtherRow.holds Try.pinned (OpenSpec.ofChange climbOtherWrong)

/- THE SECOND FORM. 'bulk': how many values and letters a reading holds, each counted each time it is reached (what is shared counts as often as it is met; a slice's spare places count too). A statement '..UptoSaid' is the law's where the arguments, and the package variables that the reading takes, are together of bulk at most 1048576: NARROWER than '..Said'. Prove '..Said' where nothing that the law and all that it calls make is longer than what came in: it says more and counts as full. Else prove '..UptoSaid'. A law counts once. -/
mutual
def uptoBulk {H : Type} : DataW H → Nat
  | .lit (.string bytes) => bytes.length + 1
  | .lit _ => 1
  | .nil => 1
  | .ptr d => uptoBulk d + 1
  | .slice elems spare => uptoBulkAll elems + uptoBulkAll spare + 1
  | .agg parts => uptoBulkAll parts + 1
  | .iface _ d => uptoBulk d + 1
  | .map entries => uptoBulkEntries entries + 1
  | .held _ => 1
def uptoBulkAll {H : Type} : List (DataW H) → Nat
  | [] => 0
  | d :: r => uptoBulk d + uptoBulkAll r
def uptoBulkEntries {H : Type} : List (Lit × DataW H) → Nat
  | [] => 0
  | x :: r => uptoBulkEntry x + uptoBulkEntries r
def uptoBulkEntry {H : Type} : Lit × DataW H → Nat
  | (.string bytes, d) => bytes.length + uptoBulk d + 1
  | (_, d) => uptoBulk d + 1
 end
def uptoSmall : (H : Type) → List (DataW H) → Bool := fun _ ds => decide (uptoBulkAll ds ≤ 1048576)
def OpenSpec.upto (s : _root_.Go.ChangeSpec) : _root_.Go.OpenSpec := { _root_.Go.OpenSpec.ofChange s with cond := some uptoSmall }

/-- 'millstreamlaw13.ClimbSteps', WHERE WHAT IT READS IS OF BULK AT MOST 1048576: true; the input reads as it did. -/
def climbStepsUptoRow : OpenClaim := { program := "ytlmlmmkichkkhaa", sum := "40fea421bf5022663f0da4dcc1a1e2ac947608686b3bcb1762b20904b95120bc", func := "millstream/millstreamlaw13.ClimbSteps", spec := "climbSteps", unfollowed := true, recurses := true, apart := false, narrowed := true }
def ClimbStepsUptoSaid : Prop := climbStepsUptoRow.holds Try.pinned (OpenSpec.upto climbStepsSpec)

/-- 'millstreamlaw13.ClimbAlone', WHERE WHAT IT READS IS OF BULK AT MOST 1048576: true; the input reads as it did. -/
def climbAloneUptoRow : OpenClaim := { program := "ytlmlmmkichkkhaa", sum := "40fea421bf5022663f0da4dcc1a1e2ac947608686b3bcb1762b20904b95120bc", func := "millstream/millstreamlaw13.ClimbAlone", spec := "climbAlone", unfollowed := true, recurses := true, apart := false, narrowed := true }
def ClimbAloneUptoSaid : Prop := climbAloneUptoRow.holds Try.pinned (OpenSpec.upto climbAloneSpec)

/-- 'millstreamlaw13.ClimbJoins', WHERE WHAT IT READS IS OF BULK AT MOST 1048576: true; the input reads as it did. -/
def climbJoinsUptoRow : OpenClaim := { program := "ytlmlmmkichkkhaa", sum := "40fea421bf5022663f0da4dcc1a1e2ac947608686b3bcb1762b20904b95120bc", func := "millstream/millstreamlaw13.ClimbJoins", spec := "climbJoins", unfollowed := true, recurses := true, apart := false, narrowed := true }
def ClimbJoinsUptoSaid : Prop := climbJoinsUptoRow.holds Try.pinned (OpenSpec.upto climbJoinsSpec)

/-- 'millstreamlaw13.ClimbRace', WHERE WHAT IT READS IS OF BULK AT MOST 1048576: true; the input reads as it did. -/
def climbRaceUptoRow : OpenClaim := { program := "ytlmlmmkichkkhaa", sum := "40fea421bf5022663f0da4dcc1a1e2ac947608686b3bcb1762b20904b95120bc", func := "millstream/millstreamlaw13.ClimbRace", spec := "climbRace", unfollowed := true, recurses := true, apart := false, narrowed := true }
def ClimbRaceUptoSaid : Prop := climbRaceUptoRow.holds Try.pinned (OpenSpec.upto climbRaceSpec)

/-- 'millstreamlaw13.ClimbDown', WHERE WHAT IT READS IS OF BULK AT MOST 1048576: true; the input reads as it did. -/
def climbDownUptoRow : OpenClaim := { program := "ytlmlmmkichkkhaa", sum := "40fea421bf5022663f0da4dcc1a1e2ac947608686b3bcb1762b20904b95120bc", func := "millstream/millstreamlaw13.ClimbDown", spec := "climbDown", unfollowed := true, recurses := true, apart := false, narrowed := true }
def ClimbDownUptoSaid : Prop := climbDownUptoRow.holds Try.pinned (OpenSpec.upto climbDownSpec)

/-- 'millstreamlaw13.ClimbOther', WHERE WHAT IT READS IS OF BULK AT MOST 1048576: true; the input reads as it did. -/
def climbOtherUptoRow : OpenClaim := { program := "ytlmlmmkichkkhaa", sum := "40fea421bf5022663f0da4dcc1a1e2ac947608686b3bcb1762b20904b95120bc", func := "millstream/millstreamlaw13.ClimbOther", spec := "climbOther", unfollowed := true, recurses := true, apart := false, narrowed := true }
def ClimbOtherUptoSaid : Prop := climbOtherUptoRow.holds Try.pinned (OpenSpec.upto climbOtherSpec)

end Rows
end Go.Proofs.Ytlmlmmkichkkhaa
