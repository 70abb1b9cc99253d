import Derived.Test.YtdfmmolhfacahaaM2b
namespace Go.Proofs.Ytdfmmolhfacahaa
open Go.ChangeShapes Go.WideShapes Go.ChangeAt Go.RowKit

section
variable {w : World} {b g : Nat} {ws : List Int} {o : Bool} {c : Int}
theorem access_none (h : MemAt 79 w b g ws o c) (i : Int) (hi : hasB ws i = false) (f : Fn) (first cap : Array Value) : Calls Try.prog 61 #[.pointer (some ⟨b, 0, none⟩), .int .i64 i, .func f first cap] w fun e w' => e = .returned (.int .i64 30) ∧ w' = w := by
  have HM : Hid (MemAt 79 w b g ws o c) := h
  clear h
  go_enter Try.func61, Try.ntmps61
  go_wp2_with (go_at_call 56; refine (has_any HM.out _).mono ?_; rw [hi]; rintro e w' ⟨rfl, hw⟩; subst w')
  go_ret
  exact ⟨rfl, rfl⟩
theorem access_spent (h : MemAt 79 w b g ws false c) (i : Int) (hi : hasB ws i = true) (f : Fn) (first cap : Array Value) : Calls Try.prog 61 #[.pointer (some ⟨b, 0, none⟩), .int .i64 i, .func f first cap] w fun e w' => e = .returned (.int .i64 31) ∧ w' = w := by
  have HM : Hid (MemAt 79 w b g ws false c) := h
  have h1 := h.cell1
  have hb := h.ltB
  clear h
  go_enter Try.func61, Try.ntmps61
  go_wp2_with (go_at_call 56; refine (has_any HM.out _).mono ?_; rw [hi]; rintro e w' ⟨rfl, hw⟩; subst w')
  go_ret
  exact ⟨rfl, rfl⟩
theorem access_let (h : MemAt 79 w b g ws true c) (i : Int) (hi : hasB ws i = true) (f : FuncId) (cap : Array Value) (Q : World → Prop) (hcall : ∀ (args : Array Value) (w : World), (callFunc f args).run Try.prog w = .ok (.enter f args) w)
    (hf : Calls Try.prog f cap ((w.setCell ⟨b, 1, none⟩ (.bool false)).setCell ⟨b, 2, none⟩ (.int .i64 (up c))) fun e w' => e = .returned (.tuple #[]) ∧ Q w') : Calls Try.prog 61 #[.pointer (some ⟨b, 0, none⟩), .int .i64 i, .func (.func f) #[] cap] w fun e w' => e = .returned (.int .i64 0) ∧ Q w' := by
  have HM : Hid (MemAt 79 w b g ws true c) := h
  have h1 := h.cell1
  have h2 := h.cell2
  have hb := h.ltB
  have hf1 := h.freeB 1
  have hf2 := h.freeB 2
  have HF := Lib.hid hf
  clear h hf
  unfold up at HF
  go_enter Try.func61, Try.ntmps61
  go_wp2_with (first | (go_at_call 56; refine (has_any HM.out _).mono ?_; rw [hi]; rintro e w' ⟨rfl, hw⟩; subst w') | (refine HF.out.mono ?_; rintro e w' ⟨rfl, hq⟩))
  go_ret
  exact ⟨rfl, hq⟩
end
end Go.Proofs.Ytdfmmolhfacahaa
