import Derived.Test.YteinilmecnlanabGreatDoorM1
namespace Go.Proofs.YteinilmecnlanabGreatDoor.Md
open Go.ChangeShapes Go.WideShapes Go.ChangeAt Go.RowKit

theorem within_any (n g : Int) (w : World) : Calls Tryz.prog 41 #[.int .i64 n, .int .i64 g] w fun e w' => e = .returned (.bool (decide (1 ≤ n) && decide (n ≤ g))) ∧ w' = w := by
  by_cases h1 : 1 ≤ n <;> by_cases h2 : n ≤ g
  all_goals
    go_enter Tryz.func41, Tryz.ntmps41
    go_wp2
    go_ret
    exact ⟨by simp [h1, h2], rfl⟩
section
variable {w : World} {b g : Nat} {ws : List Int} {o : Bool} {c : Int}
theorem has_any (h : MemAt 95 w b g ws o c) (i : Int) : Calls Tryz.prog 50 #[.pointer (some ⟨b, 0, none⟩), .int .i64 i] w fun e w' => e = .returned (.bool (hasB ws i)) ∧ w' = w := by
  have h0 := h.cell0
  have hb := h.ltB
  unfold hasB
  by_cases h1 : 0 ≤ i <;> by_cases h2 : i < (ws.length : Int)
  all_goals
    go_enter Tryz.func50, Tryz.ntmps50
    go_wp2
    go_ret
    exact ⟨by simp [h1, h2], rfl⟩
theorem len_any (h : MemAt 95 w b g ws o c) : Calls Tryz.prog 24 #[.pointer (some ⟨b, 0, none⟩)] w fun e w' => e = .returned (.int .i64 ws.length) ∧ w' = w := by
  have h0 := h.cell0
  have hb := h.ltB
  go_enter Tryz.func24, Tryz.ntmps24
  go_wp2
  go_ret
  exact ⟨rfl, rfl⟩
theorem count_any (h : MemAt 95 w b g ws o c) : Calls Tryz.prog 40 #[.pointer (some ⟨b, 0, none⟩)] w fun e w' => e = .returned (.int .i64 c) ∧ w' = w := by
  have h0 := h.cell2
  have hb := h.ltB
  go_enter Tryz.func40, Tryz.ntmps40
  go_wp2
  go_ret
  exact ⟨rfl, rfl⟩
theorem open_any (h : MemAt 95 w b g ws o c) : Calls Tryz.prog 26 #[.pointer (some ⟨b, 0, none⟩)] w fun e w' => e = .returned (.tuple #[]) ∧ MemAt 95 w' b g ws true c ∧ Chg b g w w' := by
  have h0 := h.cell1
  have hb := h.ltB
  have hf := h.freeB 1
  go_enter Tryz.func26, Tryz.ntmps26
  go_wp2
  go_end0
  exact ⟨rfl, h.setO true, (Chg.refl _ _ _).setB _ _⟩
end
end Go.Proofs.YteinilmecnlanabGreatDoor.Md
