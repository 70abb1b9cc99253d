import Derived.Test.YtlkldgopliablaaGreatDoorM1
namespace Go.Proofs.YtlkldgopliablaaGreatDoor.Md
open Go.ChangeShapes Go.WideShapes Go.ChangeAt Go.RowKit

theorem within_any (n g : Int) (w : World) : Calls Tryz.prog 104 #[.int .i64 n, .int .i64 g] w fun e w' => e = .returned (.bool (decide (1 ≤ n) && decide (n ≤ g))) ∧ w' = w := by
  by_cases h1 : 1 ≤ n <;> by_cases h2 : n ≤ g
  all_goals
    go_enter Tryz.func104, Tryz.ntmps104
    go_wp2
    go_ret
    exact ⟨by simp [h1, h2], rfl⟩
section
variable {w : World} {b g : Nat} {ws : List Int} {o : Bool} {c : Int}
theorem has_any (h : MemAt 145 w b g ws o c) (i : Int) : Calls Tryz.prog 97 #[.pointer (some ⟨b, 0, none⟩), .int .i64 i] w fun e w' => e = .returned (.bool (hasB ws i)) ∧ w' = w := by
  have h0 := h.cell0
  have hb := h.ltB
  unfold hasB
  by_cases h1 : 0 ≤ i <;> by_cases h2 : i < (ws.length : Int)
  all_goals
    go_enter Tryz.func97, Tryz.ntmps97
    go_wp2
    go_ret
    exact ⟨by simp [h1, h2], rfl⟩
theorem len_any (h : MemAt 145 w b g ws o c) : Calls Tryz.prog 326 #[.pointer (some ⟨b, 0, none⟩)] w fun e w' => e = .returned (.int .i64 ws.length) ∧ w' = w := by
  have h0 := h.cell0
  have hb := h.ltB
  go_enter Tryz.func326, Tryz.ntmps326
  go_wp2
  go_ret
  exact ⟨rfl, rfl⟩
theorem count_any (h : MemAt 145 w b g ws o c) : Calls Tryz.prog 40 #[.pointer (some ⟨b, 0, none⟩)] w fun e w' => e = .returned (.int .i64 c) ∧ w' = w := by
  have h0 := h.cell2
  have hb := h.ltB
  go_enter Tryz.func40, Tryz.ntmps40
  go_wp2
  go_ret
  exact ⟨rfl, rfl⟩
theorem open_any (h : MemAt 145 w b g ws o c) : Calls Tryz.prog 324 #[.pointer (some ⟨b, 0, none⟩)] w fun e w' => e = .returned (.tuple #[]) ∧ MemAt 145 w' b g ws true c ∧ Chg b g w w' := by
  have h0 := h.cell1
  have hb := h.ltB
  have hf := h.freeB 1
  go_enter Tryz.func324, Tryz.ntmps324
  go_wp2
  go_end0
  exact ⟨rfl, h.setO true, (Chg.refl _ _ _).setB _ _⟩
theorem peek_any (h : MemAt 145 w b g ws o c) (i : Int) : Calls Tryz.prog 60 #[.pointer (some ⟨b, 0, none⟩), .int .i64 i] w fun e w' => e = .returned (.tuple #[.int .u64 (if hasB ws i then wordAt ws i else 0), .int .i64 (errP ws i)]) ∧ w' = w := by
  have h0 := h.cell0
  have hb := h.ltB
  have hg := h.ltG
  unfold errP
  cases hh : hasB ws i
  · go_enter Tryz.func60, Tryz.ntmps60
    go_wp2_with (go_at_call 97; refine (has_any h _).mono ?_; rw [hh]; rintro e w' ⟨rfl, hw⟩; subst w')
    go_ret2
    exact ⟨rfl, rfl⟩
  · obtain ⟨k, rfl, hk⟩ := hasB_pos hh
    have hx := h.word hk
    have hk2 : (k : Int) < (ws.length : Int) := by omega
    have hv : wordAt ws k = ws[k] := by simp [wordAt, hk]
    rw [hv]
    generalize ws[k] = x at *
    clear hv
    go_enter Tryz.func60, Tryz.ntmps60
    go_wp2_with (go_at_call 97; refine (has_any h _).mono ?_; rw [hh]; rintro e w' ⟨rfl, hw⟩; subst w')
    go_ret2
    exact ⟨rfl, rfl⟩
end
end Go.Proofs.YtlkldgopliablaaGreatDoor.Md
