/- Struct literals of turns, as one step each. -/
import Derived.Test.YtpbneghabikpdaaThB
namespace Go.Proofs.Ytpbneghabikpdaa
open Go.RowKit
set_option linter.unusedVariables false

/-- A struct literal of that type, as one step. -/
def bdTn (parts : Array (Nat × Value)) : Sem Value := Instr.build 55 parts
theorem bdTn_is (parts : Array (Nat × Value)) : Instr.build 55 parts = bdTn parts := rfl
theorem run_bdNow (now : Int) (c0 c1 c2 c3 c4 c5 c6 c7 c8 c9 c10 c11 c12 c13 c14 c15 c16 : Value) (w : World) : (bdTn #[(2, .int .i64 now), (4, .agg #[c0, c1, c2, c3, c4, c5, c6, c7, c8, c9, c10, c11, c12, c13, c14, c15, c16])]).run Try.prog w = .ok (.agg (List.toArray (.int .i64 0 :: .int .i64 0 :: .int .i64 0 :: .int .i64 0 :: .int .i64 0 :: .int .i64 0 :: .int .i64 0 :: .int .i64 0 :: .bool false :: .int .i64 0 :: .int .i64 0 :: .int .i64 0 :: .int .i64 0 :: .int .i64 now :: .slice none 0 0 :: .slice none 0 0 :: c0 :: c1 :: c2 :: c3 :: c4 :: c5 :: c6 :: c7 :: c8 :: c9 :: c10 :: c11 :: c12 :: c13 :: c14 :: c15 :: c16 :: .slice none 0 0 :: .int .i64 0 :: .slice none 0 0 :: .bool false :: []))) w := by kernel_rfl
theorem run_bdCfg (now : Int) (k0 k1 k2 k3 k4 k5 k6 k7 k8 k9 k10 k11 c0 c1 c2 c3 c4 c5 c6 c7 c8 c9 c10 c11 c12 c13 c14 c15 c16 : Value) (w : World) : (bdTn #[(0, .agg #[k0, k1, k2, k3, k4, k5, k6, k7, k8, k9, k10, k11]), (2, .int .i64 now), (4, .agg #[c0, c1, c2, c3, c4, c5, c6, c7, c8, c9, c10, c11, c12, c13, c14, c15, c16])]).run Try.prog w = .ok (.agg (List.toArray (k0 :: k1 :: k2 :: k3 :: k4 :: k5 :: k6 :: k7 :: k8 :: k9 :: k10 :: k11 :: .int .i64 0 :: .int .i64 now :: .slice none 0 0 :: .slice none 0 0 :: c0 :: c1 :: c2 :: c3 :: c4 :: c5 :: c6 :: c7 :: c8 :: c9 :: c10 :: c11 :: c12 :: c13 :: c14 :: c15 :: c16 :: .slice none 0 0 :: .int .i64 0 :: .slice none 0 0 :: .bool false :: []))) w := by kernel_rfl
end Go.Proofs.Ytpbneghabikpdaa
