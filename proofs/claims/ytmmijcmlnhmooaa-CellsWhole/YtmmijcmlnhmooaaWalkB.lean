import Derived.Test.YtmmijcmlnhmooaaWalkA
import Derived.WalkKit
import Derived.ProofKit
import Derived.OpenShut
import Derived.WalkLawsBesides
import Derived.Laws.EntriesVeiled
namespace Go.Proofs.Ytmmijcmlnhmooaa
open Go.ChangeShapes Go.WideShapes Go.ChangeAt Go.RowKit Num
attribute [local go_sem] frombits_run bits_run

theorem refFix_any (b : Nat) (w : World) : Calls Try.prog 33 #[.float .f64 b] w fun e w' => e = .returned (.float .f64 (fixB b)) ∧ w' = w := by
  cases g : nan b
  · have h := self_num g
    rw [fixB_num g]
    clear g
    go_enter Try.func33, Try.ntmps33
    go_wp2
    go_ret
    exact ⟨rfl, rfl⟩
  · have h := self_nan g
    rw [fixB_nan g]
    clear g
    go_enter Try.func33, Try.ntmps33
    go_wp2
    go_ret
    exact ⟨rfl, rfl⟩
theorem refBits_any (b : Nat) (w : World) : Calls Try.prog 35 #[.float .f64 b] w fun e w' => e = .returned (.int .u64 (fixB b)) ∧ w' = w := by
  cases g : nan b
  · have h := self_num g
    rw [fixB_num g]
    clear g
    go_enter Try.func35, Try.ntmps35
    go_wp2
    go_ret
    exact ⟨rfl, rfl⟩
  · have h := self_nan g
    rw [fixB_nan g]
    clear g
    go_enter Try.func35, Try.ntmps35
    go_wp2
    go_ret
    exact ⟨rfl, rfl⟩
theorem refOf_any (n : Nat) (w : World) : Calls Try.prog 51 #[.int .u64 n] w fun e w' => e = .returned (.float .f64 (fixB n)) ∧ w' = w := by
  go_enter Try.func51, Try.ntmps51
  go_wp2_with (first | (go_at_call 33; refine (refFix_any _ _).mono ?_; rintro e w' ⟨rfl, rfl⟩) | go_in)
  go_ret
  exact ⟨rfl, rfl⟩
end Go.Proofs.Ytmmijcmlnhmooaa
