import Derived.Test.YtmkikapoflaghaaM4
import Derived.Deep.RegionWith
namespace Go.Proofs.Ytmkikapoflaghaa
open Go.ChangeShapes Go.WideShapes Go.ChangeAt Go.RowKit

theorem cloned {w w1 w2 : World} {b g : Nat} {ws : List Int} {o : Bool} {c : Int} (h : MemAt 59 w b g ws o c) (hr : RowAt w1 w.heap.size ws) (hb : Below w.heap.size w w1) (h2 : w2.heap = (w1.alloc (.cells #[.slice (some ⟨w.heap.size, 0, none⟩) ws.length ws.length, .bool o, .int .i64 c] 59)).heap) (ho : w2.os = w1.os) (ht : w2.tape = w1.tape) (hp : w2.output = w1.output) :
    MemAt 59 w2 w1.heap.size w.heap.size ws o c ∧ Below w.heap.size w w2 := by
  have hlt := hr.lt
  refine ⟨⟨?_, ?_, by omega, h.some', h.many⟩, ⟨ho.trans hb.os, ht.trans hb.tape, hp.trans hb.output, ?_, fun k hk => ?_⟩⟩
  · rw [h2]; exact heap_alloc_new _ _
  · rw [h2, Below.heap_alloc _ _ _ hlt]; exact hr
  · rw [h2]; simp; omega
  · rw [h2, Below.heap_alloc _ _ _ (by omega)]; exact hb.block k hk
section
variable {w : World} {b g : Nat} {ws : List Int} {o : Bool} {c : Int}
end
end Go.Proofs.Ytmkikapoflaghaa
