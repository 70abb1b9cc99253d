import Derived.Test.YtdfmmolhfacahaaM7
import Derived.Deep.Slices
import Derived.Carry
namespace Go.Proofs.Ytdfmmolhfacahaa
open Go.ChangeShapes Go.WideShapes Go.ChangeAt Go.RowKit Go.Deep

theorem ownK : ownKnob Try.prog.godebug = none := by kernel_rfl
theorem laidOut : laidOutB Try.prog = true := by kernel_rfl
theorem cellsI : Try.prog.cellsOf 3 = 1 := by kernel_rfl
theorem cellsW : Try.prog.cellsOf 30 = 1 := by kernel_rfl

section
variable {H : Type} {enc : TypeId × Value → H}
/-- a script: len steps, each of three numbers -/
def OpsAt (W : World) (ao : Option Addr) (len : Nat) (K A V : Nat → Int) : Prop :=
  ∀ i, i < len → ∃ b off, ao = some ⟨b, off, none⟩ ∧ b < W.heap.size ∧ W.cell? ⟨b, off + i * 3, none⟩ = some (.int .i64 (K i)) ∧ W.cell? ⟨b, off + i * 3 + 1, none⟩ = some (.int .i64 (A i)) ∧ W.cell? ⟨b, off + i * 3 + 2, none⟩ = some (.int .u64 (V i))
end
end Go.Proofs.Ytdfmmolhfacahaa
