import Derived.Test.YtpboiggakehpoaaGreatDoorGr
import Derived.Test.YtpboiggakehpoaaGreatDoorWalkB
import Derived.Test.YtpboiggakehpoaaGreatDoorWalkF
import Derived.WalkKit
import Derived.ProofKit
import Derived.OpenShut
import Derived.WalkLawsBesides
import Derived.Laws.EntriesVeiled
namespace Go.Proofs.YtpboiggakehpoaaGreatDoor
open Go.ChangeShapes Go.WideShapes Go.ChangeAt Go.RowKit Num
attribute [local go_sem] frombits_run bits_run

theorem ret_int {k : IntKind} {a b : Int} (h : a = b) : Ending.returned (.int k a) = .returned (.int k b) := by rw [h]
theorem hash_forms (X : Int) (h : 0 ≤ X) : wrap64 (IntKind.u64.wrap (((IntKind.u64.wrap ((X.tmod 4294967296) * 2654435769)).tmod 4294967296).tdiv 65536)) = X % 4294967296 * 2654435769 % 4294967296 / 65536 := by
  rw [IntKind.wrap_u64, IntKind.wrap_u64, Int.tmod_eq_emod_of_nonneg h]
  have e : X % 4294967296 * 2654435769 % 18446744073709551616 = X % 4294967296 * 2654435769 := by omega
  rw [e, Int.tmod_eq_emod_of_nonneg (by omega), Int.tdiv_eq_ediv_of_nonneg (by omega)]
  have e2 : X % 4294967296 * 2654435769 % 4294967296 / 65536 % 18446744073709551616 = X % 4294967296 * 2654435769 % 4294967296 / 65536 := by omega
  rw [e2]
  unfold wrap64
  omega
/-! the document's Index -/
/-! the document's One -/
end Go.Proofs.YtpboiggakehpoaaGreatDoor
