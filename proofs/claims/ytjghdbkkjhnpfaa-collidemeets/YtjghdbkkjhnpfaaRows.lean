/-
  No cell of these rows narrows 'for every input' (looked for: loops, veiled, ifaces, maps, wideKeys, modest, calm, conditions, laid).
  DERIVED. THE GIVEN ROWS OF THIS SEAT. 6 by the template 'for every input the law returns true; each argument reads behind the call as it read before'; 0 by the template 'total and deterministic' (their statements: YtjghdbkkjhnpfaaTotals.lean).
  GIVEN WITH THE SEED: the statements are not yours to turn. If you find one false, say at which input.
  Laid BY PROGRAM, IN A SANDBOX (cutbox-rows.mjs): the forced cells as the released guide's own fill.sh prints them over the translation e9ca69af4f6ab2dd… (all of the seat's roots in one cut). By AI agents, Wed Nov 11 2026. No macro, syntax, notation, axiom, sorry.
-/
import Derived.Test.YtjghdbkkjhnpfaaChecked
import GoSem.Claim
import GoSem.ClaimJoined
import GoSem.ClaimMapViews
import Derived.JoinedTies
import Derived.KernelRfl
namespace Go.Proofs.Ytjghdbkkjhnpfaa
/- THE CELL 'sum', in the pinned program and in every row, IS THE sha256 OF THE DUMP (.gsa) THAT YtjghdbkkjhnpfaaProg.lean LOADS. Nothing in Lean hashes anything: it is a label: what it is worth is what the hold of that sum in a sandbox is worth. -/
noncomputable def Try.pinned : Pinned := { name := "ytjghdbkkjhnpfaa", sum := "e9ca69af4f6ab2dd7afaeb6197a521f99e6b9c8e45a0caf88afa602a2ccff58e", checked := Try.checked }
namespace Rows
def none {H : Type} : Left H := { results := [], args := [] }

/-- 'millstreamlaw15.CollideAlone': WHATEVER THE INPUT: true; the input reads as it did. -/
def collideAloneSpec : ChangeSpec := { name := "collideAlone", fn := fun _ => fun
  | [d] => { results := [.lit (.bool true)], args := [d] }
  | _ => none }
def collideAloneRow : OpenClaim := { program := "ytjghdbkkjhnpfaa", sum := "e9ca69af4f6ab2dd7afaeb6197a521f99e6b9c8e45a0caf88afa602a2ccff58e", func := "millstream/millstreamlaw15.CollideAlone", spec := "collideAlone", unfollowed := true, recurses := true, apart := false }
def CollideAloneSaid : Prop := collideAloneRow.holds Try.pinned (OpenSpec.ofChange collideAloneSpec)

/-- ITS FALSE NEIGHBOUR: 'it returns false'. Refute it at one input. -/
def collideAloneWrong : ChangeSpec := { name := "collideAlone", fn := fun _ => fun
  | [d] => { results := [.lit (.bool false)], args := [d] }
  | _ => none }
def CollideAloneWrongFalsely : Prop := collideAloneRow.holds Try.pinned (OpenSpec.ofChange collideAloneWrong)

/-- 'millstreamlaw15.CollideMeets': WHATEVER THE INPUT: true; the input reads as it did. -/
def collideMeetsSpec : ChangeSpec := { name := "collideMeets", fn := fun _ => fun
  | [d1, d2, d3, d4] => { results := [.lit (.bool true)], args := [d1, d2, d3, d4] }
  | _ => none }
def collideMeetsRow : OpenClaim := { program := "ytjghdbkkjhnpfaa", sum := "e9ca69af4f6ab2dd7afaeb6197a521f99e6b9c8e45a0caf88afa602a2ccff58e", func := "millstream/millstreamlaw15.CollideMeets", spec := "collideMeets", unfollowed := true, recurses := true, apart := false }
def CollideMeetsSaid : Prop := collideMeetsRow.holds Try.pinned (OpenSpec.ofChange collideMeetsSpec)

/-- ITS FALSE NEIGHBOUR: 'it returns false'. Refute it at one input. -/
def collideMeetsWrong : ChangeSpec := { name := "collideMeets", fn := fun _ => fun
  | [d1, d2, d3, d4] => { results := [.lit (.bool false)], args := [d1, d2, d3, d4] }
  | _ => none }
def CollideMeetsWrongFalsely : Prop := collideMeetsRow.holds Try.pinned (OpenSpec.ofChange collideMeetsWrong)

/-- 'millstreamlaw15.CollideCaught': WHATEVER THE INPUT: true; the input reads as it did. -/
def collideCaughtSpec : ChangeSpec := { name := "collideCaught", fn := fun _ => fun
  | [d1, d2, d3] => { results := [.lit (.bool true)], args := [d1, d2, d3] }
  | _ => none }
def collideCaughtRow : OpenClaim := { program := "ytjghdbkkjhnpfaa", sum := "e9ca69af4f6ab2dd7afaeb6197a521f99e6b9c8e45a0caf88afa602a2ccff58e", func := "millstream/millstreamlaw15.CollideCaught", spec := "collideCaught", unfollowed := true, recurses := true, apart := false }
def CollideCaughtSaid : Prop := collideCaughtRow.holds Try.pinned (OpenSpec.ofChange collideCaughtSpec)

/-- ITS FALSE NEIGHBOUR: 'it returns false'. Refute it at one input. -/
def collideCaughtWrong : ChangeSpec := { name := "collideCaught", fn := fun _ => fun
  | [d1, d2, d3] => { results := [.lit (.bool false)], args := [d1, d2, d3] }
  | _ => none }
def CollideCaughtWrongFalsely : Prop := collideCaughtRow.holds Try.pinned (OpenSpec.ofChange collideCaughtWrong)

/-- 'millstreamlaw15.CollideSelf': WHATEVER THE INPUT: true; the input reads as it did. -/
def collideSelfSpec : ChangeSpec := { name := "collideSelf", fn := fun _ => fun
  | [d1, d2] => { results := [.lit (.bool true)], args := [d1, d2] }
  | _ => none }
def collideSelfRow : OpenClaim := { program := "ytjghdbkkjhnpfaa", sum := "e9ca69af4f6ab2dd7afaeb6197a521f99e6b9c8e45a0caf88afa602a2ccff58e", func := "millstream/millstreamlaw15.CollideSelf", spec := "collideSelf", unfollowed := true, recurses := true, apart := false }
def CollideSelfSaid : Prop := collideSelfRow.holds Try.pinned (OpenSpec.ofChange collideSelfSpec)

/-- ITS FALSE NEIGHBOUR: 'it returns false'. Refute it at one input. -/
def collideSelfWrong : ChangeSpec := { name := "collideSelf", fn := fun _ => fun
  | [d1, d2] => { results := [.lit (.bool false)], args := [d1, d2] }
  | _ => none }
def CollideSelfWrongFalsely : Prop := collideSelfRow.holds Try.pinned (OpenSpec.ofChange collideSelfWrong)

/-- 'millstreamlaw15.CollideSpins': WHATEVER THE INPUT: true; the input reads as it did. -/
def collideSpinsSpec : ChangeSpec := { name := "collideSpins", fn := fun _ => fun
  | [d1, d2] => { results := [.lit (.bool true)], args := [d1, d2] }
  | _ => none }
def collideSpinsRow : OpenClaim := { program := "ytjghdbkkjhnpfaa", sum := "e9ca69af4f6ab2dd7afaeb6197a521f99e6b9c8e45a0caf88afa602a2ccff58e", func := "millstream/millstreamlaw15.CollideSpins", spec := "collideSpins", unfollowed := true, recurses := true, apart := false }
def CollideSpinsSaid : Prop := collideSpinsRow.holds Try.pinned (OpenSpec.ofChange collideSpinsSpec)

/-- ITS FALSE NEIGHBOUR: 'it returns false'. Refute it at one input. -/
def collideSpinsWrong : ChangeSpec := { name := "collideSpins", fn := fun _ => fun
  | [d1, d2] => { results := [.lit (.bool false)], args := [d1, d2] }
  | _ => none }
def CollideSpinsWrongFalsely : Prop := collideSpinsRow.holds Try.pinned (OpenSpec.ofChange collideSpinsWrong)

/-- 'millstreamlaw15.CollideOther': WHATEVER THE INPUT: true; the input reads as it did. -/
def collideOtherSpec : ChangeSpec := { name := "collideOther", fn := fun _ => fun
  | [d] => { results := [.lit (.bool true)], args := [d] }
  | _ => none }
def collideOtherRow : OpenClaim := { program := "ytjghdbkkjhnpfaa", sum := "e9ca69af4f6ab2dd7afaeb6197a521f99e6b9c8e45a0caf88afa602a2ccff58e", func := "millstream/millstreamlaw15.CollideOther", spec := "collideOther", unfollowed := true, recurses := true, apart := false }
def CollideOtherSaid : Prop := collideOtherRow.holds Try.pinned (OpenSpec.ofChange collideOtherSpec)

/-- ITS FALSE NEIGHBOUR: 'it returns false'. Refute it at one input. -/
def collideOtherWrong : ChangeSpec := { name := "collideOther", fn := fun _ => fun
  | [d] => { results := [.lit (.bool false)], args := [d] }
  | _ => none }
def CollideOtherWrongFalsely : Prop := collideOtherRow.holds Try.pinned (OpenSpec.ofChange collideOtherWrong)

/- THE SECOND FORM. 'bulk': how many values and letters a reading holds, each counted each time it is reached (what is shared counts as often as it is met; a slice's spare places count too). A statement '..UptoSaid' is the law's where the arguments, and the package variables that the reading takes, are together of bulk at most 1048576: NARROWER than '..Said'. Prove '..Said' where nothing that the law and all that it calls make is longer than what came in: it says more and counts as full. Else prove '..UptoSaid'. A law counts once. -/
mutual
def uptoBulk {H : Type} : DataW H → Nat
  | .lit (.string bytes) => bytes.length + 1
  | .lit _ => 1
  | .nil => 1
  | .ptr d => uptoBulk d + 1
  | .slice elems spare => uptoBulkAll elems + uptoBulkAll spare + 1
  | .agg parts => uptoBulkAll parts + 1
  | .iface _ d => uptoBulk d + 1
  | .map entries => uptoBulkEntries entries + 1
  | .held _ => 1
def uptoBulkAll {H : Type} : List (DataW H) → Nat
  | [] => 0
  | d :: r => uptoBulk d + uptoBulkAll r
def uptoBulkEntries {H : Type} : List (Lit × DataW H) → Nat
  | [] => 0
  | x :: r => uptoBulkEntry x + uptoBulkEntries r
def uptoBulkEntry {H : Type} : Lit × DataW H → Nat
  | (.string bytes, d) => bytes.length + uptoBulk d + 1
  | (_, d) => uptoBulk d + 1
 end
def uptoSmall : (H : Type) → List (DataW H) → Bool := fun _ ds => decide (uptoBulkAll ds ≤ 1048576)
def OpenSpec.upto (s : _root_.Go.ChangeSpec) : _root_.Go.OpenSpec := { _root_.Go.OpenSpec.ofChange s with cond := some uptoSmall }

/-- 'millstreamlaw15.CollideAlone', WHERE WHAT IT READS IS OF BULK AT MOST 1048576: true; the input reads as it did. -/
def collideAloneUptoRow : OpenClaim := { program := "ytjghdbkkjhnpfaa", sum := "e9ca69af4f6ab2dd7afaeb6197a521f99e6b9c8e45a0caf88afa602a2ccff58e", func := "millstream/millstreamlaw15.CollideAlone", spec := "collideAlone", unfollowed := true, recurses := true, apart := false, narrowed := true }
def CollideAloneUptoSaid : Prop := collideAloneUptoRow.holds Try.pinned (OpenSpec.upto collideAloneSpec)

/-- 'millstreamlaw15.CollideMeets', WHERE WHAT IT READS IS OF BULK AT MOST 1048576: true; the input reads as it did. -/
def collideMeetsUptoRow : OpenClaim := { program := "ytjghdbkkjhnpfaa", sum := "e9ca69af4f6ab2dd7afaeb6197a521f99e6b9c8e45a0caf88afa602a2ccff58e", func := "millstream/millstreamlaw15.CollideMeets", spec := "collideMeets", unfollowed := true, recurses := true, apart := false, narrowed := true }
def CollideMeetsUptoSaid : Prop := collideMeetsUptoRow.holds Try.pinned (OpenSpec.upto collideMeetsSpec)

/-- 'millstreamlaw15.CollideCaught', WHERE WHAT IT READS IS OF BULK AT MOST 1048576: true; the input reads as it did. -/
def collideCaughtUptoRow : OpenClaim := { program := "ytjghdbkkjhnpfaa", sum := "e9ca69af4f6ab2dd7afaeb6197a521f99e6b9c8e45a0caf88afa602a2ccff58e", func := "millstream/millstreamlaw15.CollideCaught", spec := "collideCaught", unfollowed := true, recurses := true, apart := false, narrowed := true }
def CollideCaughtUptoSaid : Prop := collideCaughtUptoRow.holds Try.pinned (OpenSpec.upto collideCaughtSpec)

/-- 'millstreamlaw15.CollideSelf', WHERE WHAT IT READS IS OF BULK AT MOST 1048576: true; the input reads as it did. -/
def collideSelfUptoRow : OpenClaim := { program := "ytjghdbkkjhnpfaa", sum := "e9ca69af4f6ab2dd7afaeb6197a521f99e6b9c8e45a0caf88afa602a2ccff58e", func := "millstream/millstreamlaw15.CollideSelf", spec := "collideSelf", unfollowed := true, recurses := true, apart := false, narrowed := true }
def CollideSelfUptoSaid : Prop := collideSelfUptoRow.holds Try.pinned (OpenSpec.upto collideSelfSpec)

/-- 'millstreamlaw15.CollideSpins', WHERE WHAT IT READS IS OF BULK AT MOST 1048576: true; the input reads as it did. -/
def collideSpinsUptoRow : OpenClaim := { program := "ytjghdbkkjhnpfaa", sum := "e9ca69af4f6ab2dd7afaeb6197a521f99e6b9c8e45a0caf88afa602a2ccff58e", func := "millstream/millstreamlaw15.CollideSpins", spec := "collideSpins", unfollowed := true, recurses := true, apart := false, narrowed := true }
def CollideSpinsUptoSaid : Prop := collideSpinsUptoRow.holds Try.pinned (OpenSpec.upto collideSpinsSpec)

/-- 'millstreamlaw15.CollideOther', WHERE WHAT IT READS IS OF BULK AT MOST 1048576: true; the input reads as it did. -/
def collideOtherUptoRow : OpenClaim := { program := "ytjghdbkkjhnpfaa", sum := "e9ca69af4f6ab2dd7afaeb6197a521f99e6b9c8e45a0caf88afa602a2ccff58e", func := "millstream/millstreamlaw15.CollideOther", spec := "collideOther", unfollowed := true, recurses := true, apart := false, narrowed := true }
def CollideOtherUptoSaid : Prop := collideOtherUptoRow.holds Try.pinned (OpenSpec.upto collideOtherSpec)

end Rows
end Go.Proofs.Ytjghdbkkjhnpfaa
