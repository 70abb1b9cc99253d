import Derived.Test.YtbeijepdklchaaaM4
import Derived.Deep.RegionWith
namespace Go.Proofs.Ytbeijepdklchaaa
open Go.ChangeShapes Go.WideShapes Go.ChangeAt Go.RowKit

theorem cloned {w w1 w2 : World} {b g : Nat} {ws : List Int} {o : Bool} {c : Int} (h : MemAt 57 w b g ws o c) (hr : RowAt w1 w.heap.size ws) (hb : Below w.heap.size w w1) (h2 : w2.heap = (w1.alloc (.cells #[.slice (some ⟨w.heap.size, 0, none⟩) ws.length ws.length, .bool o, .int .i64 c] 57)).heap) (ho : w2.os = w1.os) (ht : w2.tape = w1.tape) (hp : w2.output = w1.output) :
    MemAt 57 w2 w1.heap.size w.heap.size ws o c ∧ Below w.heap.size w w2 := by
  have hlt := hr.lt
  refine ⟨⟨?_, ?_, by omega, h.some', h.many⟩, ⟨ho.trans hb.os, ht.trans hb.tape, hp.trans hb.output, ?_, fun k hk => ?_⟩⟩
  · rw [h2]; exact heap_alloc_new _ _
  · rw [h2, Below.heap_alloc _ _ _ hlt]; exact hr
  · rw [h2]; simp; omega
  · rw [h2, Below.heap_alloc _ _ _ (by omega)]; exact hb.block k hk
section
variable {w : World} {b g : Nat} {ws : List Int} {o : Bool} {c : Int}
set_option maxRecDepth 100000 in
set_option maxHeartbeats 1000000 in
theorem clone_any (h : MemAt 57 w b g ws o c) : Calls Try.prog 13 #[.pointer (some ⟨b, 0, none⟩)] w fun e w' => ∃ nb, e = .returned (.pointer (some ⟨nb, 0, none⟩)) ∧ w.heap.size ≤ nb ∧ MemAt 57 w' nb w.heap.size ws o c ∧ Below w.heap.size w w' := by
  have HM : Hid (MemAt 57 w b g ws o c) := h
  have h1 := h.cell1
  have h2 := h.cell2
  have hb := h.ltB
  clear h
  go_enter Try.func13, Try.ntmps13
  go_wp2
  go_region_with (go_at_call 18; refine (all_any (by first | exact HM.out | exact HM.out.drew)).mono ?_; rintro e w1 ⟨rfl, hr, hbb⟩; have HR := Lib.hid hr; have HB := Lib.hid hbb; have q1 : w1.cell? ⟨b, 1, none⟩ = some (.bool o) := (hbb.cell (p := ⟨b, 1, none⟩) hb).trans h1; have q2 : w1.cell? ⟨b, 2, none⟩ = some (.int .i64 c) := (hbb.cell (p := ⟨b, 2, none⟩) hb).trans h2; clear hr hbb)
  all_goals (try go_wp2)
  all_goals go_ret
  all_goals exact ⟨_, rfl, HB.out.size, cloned HM.out HR.out ⟨HB.out.os, HB.out.tape, HB.out.output, HB.out.size, HB.out.block⟩ rfl rfl rfl rfl⟩

/-- what is left behind is changed: of whatever it is, nothing else is -/
theorem stir_any (h : MemAt 57 w b g ws o c) : Calls Try.prog 14 #[.pointer (some ⟨b, 0, none⟩)] w fun e w' => e = .returned (.tuple #[]) ∧ Chg b g w w' := by
  have HM : Hid (MemAt 57 w b g ws o c) := h
  have hn : (1 : Int) ≤ (ws.length : Int) := by have := h.some'; omega
  have hn2 : (ws.length : Int) ≤ 4096 := by have := h.many; omega
  clear h
  go_enter Try.func14, Try.ntmps14
  go_wp2_with (first
    | (go_at_call 24; refine (open_any HM.out).mono ?_; rintro e w1 ⟨rfl, hm1, hc1⟩; replace hm1 := Lib.hid hm1; replace hc1 := Lib.hid hc1; clear HM)
    | (go_at_call 27; refine (add_any hm1.out _ _).mono ?_; rintro e w2 ⟨rfl, hm2, hc2⟩; replace hm2 := Lib.hid hm2; replace hc2 := Lib.hid hc2; clear hm1)
    | (go_at_call 10; refine (len_any hm2.out).mono ?_; rintro e w3 ⟨rfl, hw⟩; subst w3)
    | (go_at_call 28; refine (poke_any hm2.out _ _).mono ?_; rintro e w4 ⟨rfl, hm4, hc4⟩; replace hm4 := Lib.hid hm4; replace hc4 := Lib.hid hc4; clear hm2)
    | (go_at_call 24; refine (open_any hm4.out).mono ?_; rintro e w5 ⟨rfl, hm5, hc5⟩; replace hc5 := Lib.hid hc5; clear hm5))
  go_end0
  exact ⟨rfl, ((hc1.out.trans hc2.out).trans hc4.out).trans hc5.out⟩
end
end Go.Proofs.Ytbeijepdklchaaa
