/- Configs and threads of noughts, made. -/
import Derived.Test.YtjghdbkkjhnpfaaTn
namespace Go.Proofs.Ytjghdbkkjhnpfaa
open Go.RowKit Go.Sort
set_option linter.unusedVariables false
set_option linter.unusedSimpArgs false

def zC : List Value := (.int .i64 0 :: .int .i64 0 :: .int .i64 0 :: .int .i64 0 :: .int .i64 0 :: .int .i64 0 :: .int .i64 0 :: .int .i64 0 :: .bool false :: .int .i64 0 :: .int .i64 0 :: .int .i64 0 :: [])
theorem zC_length : zC.length = 12 := id rfl
def zH : List Value := (.int .i64 0 :: .int .i64 0 :: .int .i64 0 :: .int .i64 0 :: .slice none 0 0 :: .slice none 0 0 :: .slice none 0 0 :: .int .i64 0 :: .int .i64 0 :: .int .i64 0 :: .int .i64 0 :: .int .i64 0 :: .int .i64 0 :: .int .i64 0 :: .int .i64 0 :: .int .i64 0 :: .int .i64 0 :: [])
theorem zH_length : zH.length = 17 := id rfl
def alCf (h : Bool) (o : Value) : Sem Value := Instr.alloc 23 h o
theorem alCf_is (h : Bool) (o : Value) : Instr.alloc 23 h o = alCf h o := rfl
theorem run_alCf (w : World) (o : Value) : (alCf true o).run Try.prog w = .ok (.pointer (some ⟨w.heap.size, 0, none⟩)) (w.alloc (.cells zC.toArray 23)) := by kernel_rfl
def alRc (h : Bool) (o : Value) : Sem Value := Instr.alloc 39 h o
theorem alRc_is (h : Bool) (o : Value) : Instr.alloc 39 h o = alRc h o := rfl
theorem run_alRc (w : World) (o : Value) : (alRc true o).run Try.prog w = .ok (.pointer (some ⟨w.heap.size, 0, none⟩)) (w.alloc (.cells zC.toArray 39)) := by kernel_rfl
def alTh (h : Bool) (o : Value) : Sem Value := Instr.alloc 33 h o
theorem alTh_is (h : Bool) (o : Value) : Instr.alloc 33 h o = alTh h o := rfl
theorem run_alTh (w : World) (o : Value) : (alTh true o).run Try.prog w = .ok (.pointer (some ⟨w.heap.size, 0, none⟩)) (w.alloc (.cells zH.toArray 33)) := by kernel_rfl
theorem put_conf (c : Cf) (cs : List Value) (h : cs.length = 12) : put 0 (ccs c) cs = ccs c := put_all _ _ h.symm
theorem put_thrd (d : Dt) (p : Ad) (cs : List Value) (h : cs.length = 17) : put 0 (thc d p) cs = thc d p := put_all _ _ h.symm
end Go.Proofs.Ytjghdbkkjhnpfaa
