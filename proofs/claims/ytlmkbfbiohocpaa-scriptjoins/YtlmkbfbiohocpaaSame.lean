/- Contracts of Same and of its. -/
import Derived.Test.YtlmkbfbiohocpaaRefs
import Derived.Deep.RegionHeld3
import Derived.Deep.AppendLies
namespace Go.Proofs.Ytlmkbfbiohocpaa
open Go.RowKit

theorem own_ne {w : World} {base : Nat} {e : TypeId} {sz n b : Nat} {v : Value} {xs : List Value} (h : w.ownsRow base e sz v n xs) (hb : b < base) : v.ownBlock ≠ some b :=
  fun hv => absurd (own_at h b hv) (Nat.not_le.2 hb)

end Go.Proofs.Ytlmkbfbiohocpaa
