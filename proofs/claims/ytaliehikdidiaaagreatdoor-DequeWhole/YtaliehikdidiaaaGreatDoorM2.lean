import Derived.Test.YtaliehikdidiaaaGreatDoorS1
namespace Go.Proofs.YtaliehikdidiaaaGreatDoor.Md
open Go.ChangeShapes Go.WideShapes Go.ChangeAt Go.RowKit

theorem within_any (n g : Int) (w : World) : Calls Tryz.prog 138 #[.int .i64 n, .int .i64 g] w fun e w' => e = .returned (.bool (decide (1 ≤ n) && decide (n ≤ g))) ∧ w' = w := by
  by_cases h1 : 1 ≤ n <;> by_cases h2 : n ≤ g
  all_goals
    go_enter Tryz.func138, Tryz.ntmps138
    go_wp2
    go_ret
    exact ⟨by simp [h1, h2], rfl⟩
section
variable {w : World} {b g : Nat} {ws : List Int} {o : Bool} {c : Int}
end
end Go.Proofs.YtaliehikdidiaaaGreatDoor.Md
