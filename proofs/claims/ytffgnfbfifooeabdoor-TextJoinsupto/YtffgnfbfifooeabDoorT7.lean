import Derived.Test.YtffgnfbfifooeabDoorT6
import Derived.Lib.ItoaMem
namespace Go.Proofs.YtffgnfbfifooeabDoor
open Go.ChangeShapes Go.WideShapes Go.ChangeAt Go.RowKit Num
attribute [local go_sem] frombits_run bits_run

theorem int_ne {b c : Nat} (h : b ≠ c) : ((b : Int) == (c : Int)) = false := by
  rw [beq_eq_false_iff_ne]; omega
theorem key_m53 : nan 14069245235905429504 = false ∧ key 14069245235905429504 = -4845873199050653696 := ⟨by decide, by decide⟩
theorem key_rung {b : Nat} (hb : b < 18446744073709551616) : (-4845873199050653696 < key b ∧ key b < 4845873199050653696) ↔ rung b < 4845873199050653696 := by
  rcases Num.shape hb with ⟨g1, g2, g3⟩ | ⟨g1, g2, g3⟩
  · rw [key_of_pos g2]; omega
  · rw [key_of_neg g2]; omega

end Go.Proofs.YtffgnfbfifooeabDoor
