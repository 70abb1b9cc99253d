import Derived.Test.YtaliehikdidiaaaGreatDoorGr
import Derived.Test.YtaliehikdidiaaaGreatDoorWalkG
import Derived.WalkKit
import Derived.ProofKit
import Derived.OpenShut
import Derived.WalkLawsBesides
import Derived.Laws.EntriesVeiled
namespace Go.Proofs.YtaliehikdidiaaaGreatDoor
open Go.ChangeShapes Go.WideShapes Go.ChangeAt Go.RowKit Num
attribute [local go_sem] frombits_run bits_run

/-! the document's 'whole' -/
theorem cnt_no {b : Nat} (h : nan b = true ∨ key b < 0 ∨ ¬ key b < 4845873199050653696) : cntB b = false := by
  unfold cntB
  rcases h with h | h | h
  · rw [h]; rfl
  · rw [decide_eq_false (by omega : ¬ 0 ≤ key b), Bool.and_false, Bool.false_and, Bool.false_and]
  · rw [decide_eq_false h, Bool.and_false, Bool.false_and]
theorem cnt_in {b : Nat} (hb : b < 18446744073709551616) (n : nan b = false) (h0 : 0 ≤ key b) (hl : key b < 4845873199050653696) : cntB b = (FloatKind.f64.format.order b (floorB b) == some .eq) := by
  rw [← whole_two hb (by have := key_pos h0; omega) h0]
  unfold cntB; rw [n, decide_eq_true h0, decide_eq_true hl]; rfl
/-! the document's 'first' -/
/-! the document's Two -/
end Go.Proofs.YtaliehikdidiaaaGreatDoor
