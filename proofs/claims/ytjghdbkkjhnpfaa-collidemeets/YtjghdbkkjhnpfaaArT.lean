/- Contracts over configs and threads as one list of cells each. -/
import Derived.Test.YtjghdbkkjhnpfaaTn
import Derived.Test.YtjghdbkkjhnpfaaM5
import Derived.Test.YtjghdbkkjhnpfaaM3
namespace Go.Proofs.Ytjghdbkkjhnpfaa
open Go.RowKit Go.Sort
set_option linter.unusedVariables false
set_option linter.unusedSimpArgs false

/-- The line, the result of a thread of a config; how many words there are. -/
def lnV (c : Cf) (t : Int) : Int := lineV c.x1 (bkV c.x3 c.x4 c.x5) c.x0 t
def rsV (c : Cf) (t : Int) : Int := resV c.x1 (bkV c.x3 c.x4 c.x5) c.x0 t
def szV (c : Cf) : Int := sizeV c.x1 (bkV c.x3 c.x4 c.x5) c.x0
abbrev CfK (c : Cf) : Prop := CfOk c.x0 c.x1 c.x2 c.x3 c.x4 c.x5 c.x6 c.x7 c.b c.x9 c.x10 c.x11
theorem line_tn (c : Cf) (ok : CfK c) (n : Int) (hn : I64 n) (w : World) : Calls Try.prog 43 #[.agg (ccs c).toArray, .int .i64 n] w (IntPost (lnV c n) w) := line_any c.x0 c.x1 c.x2 c.x3 c.x4 c.x5 c.x6 c.x7 c.b c.x9 c.x10 c.x11 ok n hn w
theorem rline_tn (c : Cf) (ok : CfK c) (n : Int) (hn : I64 n) (w : World) : Calls Try.prog 14 #[.agg (ccs c).toArray, .int .i64 n] w (IntPost (lnV c n) w) := rline_any c.x0 c.x1 c.x2 c.x3 c.x4 c.x5 c.x6 c.x7 c.b c.x9 c.x10 c.x11 ok n hn w
theorem rsize_tn (c : Cf) (ok : CfK c) (w : World) : Calls Try.prog 37 #[.agg (ccs c).toArray] w (IntPost (szV c) w) := rsize_any c.x0 c.x1 c.x2 c.x3 c.x4 c.x5 c.x6 c.x7 c.b c.x9 c.x10 c.x11 ok w
def ckC (c : Cf) : Int := ckV c.x0 c.x1 c.x2 c.x3 c.x4 c.x5 c.x6 c.x7 c.b c.x9 c.x10 c.x11
theorem rcheck_tn (c : Cf) (w : World) : Calls Try.prog 36 #[.agg (ccs c).toArray] w (IntPost (ckC c) w) := rcheck_any c.x0 c.x1 c.x2 c.x3 c.x4 c.x5 c.x6 c.x7 c.b c.x9 c.x10 c.x11 w
end Go.Proofs.Ytjghdbkkjhnpfaa
