import Derived.Test.YtdfmmolhfacahaaM5
import Derived.Test.YtdfmmolhfacahaaM10
namespace Go.Proofs.Ytdfmmolhfacahaa
open Go.ChangeShapes Go.WideShapes Go.ChangeAt Go.RowKit

/-- a block of three cells -/
theorem cells3 {w : World} {x : Nat} {v0 v1 v2 : Value} {T : TypeId} (h : w.heap[x]? = some (.cells #[v0, v1, v2] T (0, 0))) :
    w.cell? ⟨x, 0, none⟩ = some v0 ∧ w.cell? ⟨x, 1, none⟩ = some v1 ∧ w.cell? ⟨x, 2, none⟩ = some v2 ∧ x < w.heap.size :=
  ⟨by rw [cell_of_row w x 0 _ _ _ h]; rfl, by rw [cell_of_row w x 1 _ _ _ h]; rfl, by rw [cell_of_row w x 2 _ _ _ h]; rfl, lt_of_block h⟩
/-- both memories, apart from one another and from all that was there -/
structure Play (W w : World) (bm gm br gr : Nat) (ws : List Int) (o : Bool) (c : Int) (vs : List Int) (p : Bool) (d : Int) : Prop where
  m : MemAt 79 w bm gm ws o c
  r : MemAt 86 w br gr vs p d
  below : Below W.heap.size W w
  hm : W.heap.size ≤ bm ∧ W.heap.size ≤ gm
  hr : W.heap.size ≤ br ∧ W.heap.size ≤ gr
  ap : bm ≠ br ∧ bm ≠ gr ∧ gm ≠ br ∧ gm ≠ gr
/-- both have come to the same -/
def Goes (W w : World) (bm gm br gr : Nat) : Prop := ∃ ws o c, Play W w bm gm br gr ws o c ws o c
theorem Goes.mk {W w : World} {bm gm br gr : Nat} {ws : List Int} {o : Bool} {c : Int} (h : Play W w bm gm br gr ws o c ws o c) : Goes W w bm gm br gr := ⟨_, _, _, h⟩
section
variable {W w : World} {bm gm br gr : Nat} {ws vs : List Int} {o p : Bool} {c d : Int}
theorem Play.onM {w' : World} {ws' : List Int} {o' : Bool} {c' : Int} (h : Play W w bm gm br gr ws o c vs p d) (hm : MemAt 79 w' bm gm ws' o' c') (hc : Chg bm gm w w') : Play W w' bm gm br gr ws' o' c' vs p d :=
  ⟨hm, h.r.chg hc h.ap.1.symm h.ap.2.2.1.symm h.ap.2.1.symm h.ap.2.2.2.symm, below_chg h.below hc h.hm.1 h.hm.2, h.hm, h.hr, h.ap⟩
theorem Play.onR {w' : World} {vs' : List Int} {p' : Bool} {d' : Int} (h : Play W w bm gm br gr ws o c vs p d) (hr : MemAt 86 w' br gr vs' p' d') (hc : Chg br gr w w') : Play W w' bm gm br gr ws o c vs' p' d' :=
  ⟨h.m.chg hc h.ap.1 h.ap.2.1 h.ap.2.2.1 h.ap.2.2.2, hr, below_chg h.below hc h.hr.1 h.hr.2, h.hm, h.hr, h.ap⟩
theorem Play.on {w' : World} (h : Play W w bm gm br gr ws o c vs p d) (hb : Below w.heap.size w w') : Play W w' bm gm br gr ws o c vs p d :=
  ⟨h.m.on hb, h.r.on hb, below_chain h.below hb, h.hm, h.hr, h.ap⟩
theorem Play.alloc (h : Play W w bm gm br gr ws o c vs p d) (x : Obj) : Play W (w.alloc x) bm gm br gr ws o c vs p d := h.on ((Below.refl _ _).alloc (Nat.le_refl _) x)
/-- a clone in the memory's place, the old one left -/
theorem Play.clone {w1 w2 : World} {nb : Nat} {vs' : List Int} {p' : Bool} {d' : Int} (h : Play W w bm gm br gr ws o c vs' p' d') (hn : w.heap.size ≤ nb) (hm : MemAt 79 w1 nb w.heap.size ws o c) (hb : Below w.heap.size w w1) (hc : Chg bm gm w1 w2) : Play W w2 nb w.heap.size br gr ws o c vs' p' d' := by
  have h1 := h.m.ltB
  have h2 := h.m.ltG
  have h3 := h.r.ltB
  have h4 := h.r.ltG
  have hs := h.below.size
  refine ⟨hm.chg hc (by omega) (by omega) (by omega) (by omega), (h.r.on hb).chg hc h.ap.1.symm h.ap.2.2.1.symm h.ap.2.1.symm h.ap.2.2.2.symm, below_chg (below_chain h.below hb) hc h.hm.1 h.hm.2, ⟨by omega, hs⟩, h.hr, ⟨by omega, by omega, by omega, by omega⟩⟩
/-- a clone changed and left -/
theorem Play.leave {w1 w2 : World} {nb : Nat} {vs' : List Int} {p' : Bool} {d' : Int} (h : Play W w bm gm br gr ws o c vs' p' d') (hn : w.heap.size ≤ nb) (hb : Below w.heap.size w w1) (hc : Chg nb w.heap.size w1 w2) : Play W w2 bm gm br gr ws o c vs' p' d' :=
  h.on (hb.trans (hc.below hn (Nat.le_refl _) hb.size))

theorem words_all {w : World} {ga B gv cv : Nat} {l : List Int} (hl : l.length ≤ 4096) (ha : RowAt w ga l) (hb : w.ownsRow B 30 1 (.slice (some ⟨gv, 0, none⟩) l.length cv) l.length (u64s l)) :
    Calls Try.prog 23 #[.slice (some ⟨ga, 0, none⟩) l.length l.length, .slice (some ⟨gv, 0, none⟩) l.length cv] w fun e w' => e = .returned (.bool true) ∧ Below w.heap.size w w' := by
  refine words_cells l.length ga gv l.length cv (fun i => l.getD i 0) w hl (fun i hi => ?_) (fun i hi => ?_)
  · rw [ha.word hi]; simp [hi]
  · rw [World.ownsRow.cellAt hb i (by omega)]; simp [u64s, hi]
end
end Go.Proofs.Ytdfmmolhfacahaa
