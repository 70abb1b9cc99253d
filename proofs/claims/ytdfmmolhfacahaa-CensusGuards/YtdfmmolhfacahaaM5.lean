import Derived.Test.YtdfmmolhfacahaaM4
import Derived.Deep.RegionWith
namespace Go.Proofs.Ytdfmmolhfacahaa
open Go.ChangeShapes Go.WideShapes Go.ChangeAt Go.RowKit

theorem cloned {w w1 w2 : World} {b g : Nat} {ws : List Int} {o : Bool} {c : Int} (h : MemAt 79 w b g ws o c) (hr : RowAt w1 w.heap.size ws) (hb : Below w.heap.size w w1) (h2 : w2.heap = (w1.alloc (.cells #[.slice (some ⟨w.heap.size, 0, none⟩) ws.length ws.length, .bool o, .int .i64 c] 79)).heap) (ho : w2.os = w1.os) (ht : w2.tape = w1.tape) (hp : w2.output = w1.output) :
    MemAt 79 w2 w1.heap.size w.heap.size ws o c ∧ Below w.heap.size w w2 := by
  have hlt := hr.lt
  refine ⟨⟨?_, ?_, by omega, h.some', h.many⟩, ⟨ho.trans hb.os, ht.trans hb.tape, hp.trans hb.output, ?_, fun k hk => ?_⟩⟩
  · rw [h2]; exact heap_alloc_new _ _
  · rw [h2, Below.heap_alloc _ _ _ hlt]; exact hr
  · rw [h2]; simp; omega
  · rw [h2, Below.heap_alloc _ _ _ (by omega)]; exact hb.block k hk
section
variable {w : World} {b g : Nat} {ws : List Int} {o : Bool} {c : Int}
set_option maxRecDepth 100000 in
set_option maxHeartbeats 1000000 in
theorem clone_any (h : MemAt 79 w b g ws o c) : Calls Try.prog 68 #[.pointer (some ⟨b, 0, none⟩)] w fun e w' => ∃ nb, e = .returned (.pointer (some ⟨nb, 0, none⟩)) ∧ w.heap.size ≤ nb ∧ MemAt 79 w' nb w.heap.size ws o c ∧ Below w.heap.size w w' := by
  have HM : Hid (MemAt 79 w b g ws o c) := h
  have h1 := h.cell1
  have h2 := h.cell2
  have hb := h.ltB
  clear h
  go_enter Try.func68, Try.ntmps68
  go_wp2
  go_region_with (go_at_call 24; refine (all_any (by first | exact HM.out | exact HM.out.drew)).mono ?_; rintro e w1 ⟨rfl, hr, hbb⟩; have HR := Lib.hid hr; have HB := Lib.hid hbb; have q1 : w1.cell? ⟨b, 1, none⟩ = some (.bool o) := (hbb.cell (p := ⟨b, 1, none⟩) hb).trans h1; have q2 : w1.cell? ⟨b, 2, none⟩ = some (.int .i64 c) := (hbb.cell (p := ⟨b, 2, none⟩) hb).trans h2; clear hr hbb)
  all_goals (try go_wp2)
  all_goals go_ret
  all_goals exact ⟨_, rfl, HB.out.size, cloned HM.out HR.out ⟨HB.out.os, HB.out.tape, HB.out.output, HB.out.size, HB.out.block⟩ rfl rfl rfl rfl⟩

end
end Go.Proofs.Ytdfmmolhfacahaa
