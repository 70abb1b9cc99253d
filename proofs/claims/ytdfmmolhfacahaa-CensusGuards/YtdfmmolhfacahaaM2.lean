import Derived.Test.YtdfmmolhfacahaaM1
namespace Go.Proofs.Ytdfmmolhfacahaa
open Go.ChangeShapes Go.WideShapes Go.ChangeAt Go.RowKit

theorem within_any (n g : Int) (w : World) : Calls Try.prog 45 #[.int .i64 n, .int .i64 g] w fun e w' => e = .returned (.bool (decide (1 ≤ n) && decide (n ≤ g))) ∧ w' = w := by
  by_cases h1 : 1 ≤ n <;> by_cases h2 : n ≤ g
  all_goals
    go_enter Try.func45, Try.ntmps45
    go_wp2
    go_ret
    exact ⟨by simp [h1, h2], rfl⟩
section
variable {w : World} {b g : Nat} {ws : List Int} {o : Bool} {c : Int}
theorem has_any (h : MemAt 79 w b g ws o c) (i : Int) : Calls Try.prog 56 #[.pointer (some ⟨b, 0, none⟩), .int .i64 i] w fun e w' => e = .returned (.bool (hasB ws i)) ∧ w' = w := by
  have h0 := h.cell0
  have hb := h.ltB
  unfold hasB
  by_cases h1 : 0 ≤ i <;> by_cases h2 : i < (ws.length : Int)
  all_goals
    go_enter Try.func56, Try.ntmps56
    go_wp2
    go_ret
    exact ⟨by simp [h1, h2], rfl⟩
theorem count_any (h : MemAt 79 w b g ws o c) : Calls Try.prog 25 #[.pointer (some ⟨b, 0, none⟩)] w fun e w' => e = .returned (.int .i64 c) ∧ w' = w := by
  have h0 := h.cell2
  have hb := h.ltB
  go_enter Try.func25, Try.ntmps25
  go_wp2
  go_ret
  exact ⟨rfl, rfl⟩
theorem open_any (h : MemAt 79 w b g ws o c) : Calls Try.prog 11 #[.pointer (some ⟨b, 0, none⟩)] w fun e w' => e = .returned (.tuple #[]) ∧ MemAt 79 w' b g ws true c ∧ Chg b g w w' := by
  have h0 := h.cell1
  have hb := h.ltB
  have hf := h.freeB 1
  go_enter Try.func11, Try.ntmps11
  go_wp2
  go_end0
  exact ⟨rfl, h.setO true, (Chg.refl _ _ _).setB _ _⟩
theorem peek_any (h : MemAt 79 w b g ws o c) (i : Int) : Calls Try.prog 29 #[.pointer (some ⟨b, 0, none⟩), .int .i64 i] w fun e w' => e = .returned (.tuple #[.int .u64 (if hasB ws i then wordAt ws i else 0), .int .i64 (errP ws i)]) ∧ w' = w := by
  have h0 := h.cell0
  have hb := h.ltB
  have hg := h.ltG
  unfold errP
  cases hh : hasB ws i
  · go_enter Try.func29, Try.ntmps29
    go_wp2_with (go_at_call 56; refine (has_any h _).mono ?_; rw [hh]; rintro e w' ⟨rfl, hw⟩; subst w')
    go_ret2
    exact ⟨rfl, rfl⟩
  · obtain ⟨k, rfl, hk⟩ := hasB_pos hh
    have hx := h.word hk
    have hk2 : (k : Int) < (ws.length : Int) := by omega
    have hv : wordAt ws k = ws[k] := by simp [wordAt, hk]
    rw [hv]
    generalize ws[k] = x at *
    clear hv
    go_enter Try.func29, Try.ntmps29
    go_wp2_with (go_at_call 56; refine (has_any h _).mono ?_; rw [hh]; rintro e w' ⟨rfl, hw⟩; subst w')
    go_ret2
    exact ⟨rfl, rfl⟩
end
end Go.Proofs.Ytdfmmolhfacahaa
