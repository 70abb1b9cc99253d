import Derived.Test.YtaliehikdidiaaaGreatDoorS1
namespace Go.Proofs.YtaliehikdidiaaaGreatDoor
open Go.ChangeShapes Go.WideShapes Go.ChangeAt Go.RowKit

/-- the memory is as it was, but for what is new -/
def Grw (W w' : World) : Prop := Below W.heap.size W w'
theorem Grw.refl (W : World) : Grw W W := Below.refl _ _
theorem Grw.alloc {W w' : World} (h : Grw W w') (c : Array Value) (t : TypeId) : Grw W (w'.alloc (.cells c t)) := Below.alloc h (Below.size h) _
theorem Grw.drew {W w' : World} (h : Grw W w') : Grw W w'.drew := Below.trans h ((Same.drew _).below _)
theorem Grw.setCell {W w' : World} (h : Grw W w') {a : Addr} (ha : W.heap.size ≤ a.block) (v : Value) : Grw W (w'.setCell a v) := Below.setCell h ha v
theorem grown_trans {a b c : World} (h : Grw a b) (g : Grw b c) : Grw a c := below_chain h g
theorem grown_drewN {W w' : World} (h : Grw W w') (n : Nat) : Grw W (w'.drewN n) := Below.trans h ((Same.drewN _ n).below _)
end Go.Proofs.YtaliehikdidiaaaGreatDoor
