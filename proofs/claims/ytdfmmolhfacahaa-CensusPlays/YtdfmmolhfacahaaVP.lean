import Derived.Test.YtdfmmolhfacahaaVA
namespace Go.Proofs.Ytdfmmolhfacahaa
open Go.ChangeShapes Go.WideShapes Go.ChangeAt Go.RowKit

/-- a world whose document's coming and scan are not there yet -/
structure Wp (W w : World) (X bm gm br gr xc xs : Nat) (v3 v5 : Value) (ws : List Int) (o : Bool) (n : Int) (c : Cs) (s : Ss) : Prop where
  box : w.heap[X]? = some (.cells #[.pointer (some ⟨bm, 0, none⟩), .pointer (some ⟨br, 0, none⟩), .pointer (some ⟨xc, 0, none⟩), v3, .pointer (some ⟨xs, 0, none⟩), v5] 47 (0, 0))
  m : MemAt 79 w bm gm ws o n
  d : MemAt 86 w br gr ws o n
  c : CmAt w xc c
  s : ScAt w xs s
  below : Below W.heap.size W w
  lo : (W.heap.size ≤ X ∧ W.heap.size ≤ bm ∧ W.heap.size ≤ gm ∧ W.heap.size ≤ br ∧ W.heap.size ≤ gr) ∧ W.heap.size ≤ xc ∧ W.heap.size ≤ xs
  ne : gm ≠ gr
section
variable {W w w' : World} {X bm gm br gr xc yc xs ys : Nat} {v3 v5 : Value} {A : Int} {ws : List Int} {o : Bool} {n : Int} {c e : Cs} {s u : Ss}
theorem Wp.on (h : Wp W w X bm gm br gr xc xs v3 v5 ws o n c s) (q : Below w.heap.size w w') : Wp W w' X bm gm br gr xc xs v3 v5 ws o n c s :=
  ⟨(q.block X (lt_of_block h.box)).trans h.box, h.m.on q, h.d.on q, h.c.on q, h.s.on q, below_step h.below q, h.lo, h.ne⟩
theorem Wp.low (h : Wp W w X bm gm br gr xc xs v3 v5 ws o n c s) (j : Nat) (v : Value) : Below W.heap.size W (w.setCell ⟨X, j, none⟩ v) :=
  h.below.trans ⟨rfl, rfl, rfl, by simp, fun i hi => heap_setCell_other _ _ _ _ (show i ≠ X by have := h.lo.1.1; omega)⟩
theorem Wp.set3 (h : Wp W w X bm gm br gr xc xs v3 v5 ws o n c s) (v : Value) : Wp W (w.setCell ⟨X, 3, none⟩ v) X bm gm br gr xc xs v v5 ws o n c s :=
  ⟨(heap_setCell_same w X 3 _ _ _ h.box).trans rfl, h.m.keep (heap_setCell_other _ _ _ _ (ne_ty h.m.box h.box rfl)) (heap_setCell_other _ _ _ _ (ne_ty h.m.row h.box rfl)), h.d.keep (heap_setCell_other _ _ _ _ (ne_ty h.d.box h.box rfl)) (heap_setCell_other _ _ _ _ (ne_ty h.d.row h.box rfl)), h.c.keep (heap_setCell_other _ _ _ _ (ne_ty h.c h.box rfl)), h.s.keep (heap_setCell_other _ _ _ _ (ne_ty h.s h.box rfl)), h.low 3 v, h.lo, h.ne⟩
theorem Wp.set5 (h : Wp W w X bm gm br gr xc xs v3 v5 ws o n c s) (v : Value) : Wp W (w.setCell ⟨X, 5, none⟩ v) X bm gm br gr xc xs v3 v ws o n c s :=
  ⟨(heap_setCell_same w X 5 _ _ _ h.box).trans rfl, h.m.keep (heap_setCell_other _ _ _ _ (ne_ty h.m.box h.box rfl)) (heap_setCell_other _ _ _ _ (ne_ty h.m.row h.box rfl)), h.d.keep (heap_setCell_other _ _ _ _ (ne_ty h.d.box h.box rfl)) (heap_setCell_other _ _ _ _ (ne_ty h.d.row h.box rfl)), h.c.keep (heap_setCell_other _ _ _ _ (ne_ty h.c h.box rfl)), h.s.keep (heap_setCell_other _ _ _ _ (ne_ty h.s h.box rfl)), h.low 5 v, h.lo, h.ne⟩
theorem Wp.cells (h : Wp W w X bm gm br gr xc xs v3 v5 ws o n c s) : X < w.heap.size ∧ w.cell? ⟨X, 2, none⟩ = some (.pointer (some ⟨xc, 0, none⟩)) ∧ w.cell? ⟨X, 3, none⟩ = some v3 ∧ w.cell? ⟨X, 4, none⟩ = some (.pointer (some ⟨xs, 0, none⟩)) ∧ w.cell? ⟨X, 5, none⟩ = some v5 ∧ w.frozen? ⟨X, 3, none⟩ = false ∧ w.frozen? ⟨X, 5, none⟩ = false :=
  ⟨lt_of_block h.box, by rw [cell_of_row w X 2 _ _ _ h.box]; rfl, by rw [cell_of_row w X 3 _ _ _ h.box]; rfl, by rw [cell_of_row w X 4 _ _ _ h.box]; rfl, by rw [cell_of_row w X 5 _ _ _ h.box]; rfl, frozen_of_row w X 3 _ _ h.box, frozen_of_row w X 5 _ _ h.box⟩
theorem Wp.dc3 {y : Nat} (h : Wp W w X bm gm br gr xc xs v3 v5 ws o n c s) (hy : DcAt w y e) (v : Value) : DcAt (w.setCell ⟨X, 3, none⟩ v) y e := hy.keep (heap_setCell_other _ _ _ _ (ne_ty hy h.box rfl))
theorem Wp.pl3 {q : Nat} (h : Wp W w X bm gm br gr xc xs v3 v5 ws o n c s) (hp : PlnAt w q 0 0 0 1 0 0) (v : Value) : PlnAt (w.setCell ⟨X, 3, none⟩ v) q 0 0 0 1 0 0 := (heap_setCell_other _ _ _ _ (ne_ty hp h.box rfl)).trans hp
/-- it is all there -/
theorem Wp.all (h : Wp W w X bm gm br gr xc xs (.pointer (some ⟨yc, 0, none⟩)) v5 ws o n c s) (hc : COk c) (hs : SOk s) (hy : DcAt w yc c) (ly : W.heap.size ≤ yc) (hz : EsAt w ys A s) (lz : W.heap.size ≤ ys) : Go13 W (w.setCell ⟨X, 5, none⟩ (.pointer (some ⟨ys, 0, none⟩))) X bm gm br gr :=
  have k := h.set5 (.pointer (some ⟨ys, 0, none⟩))
  ⟨xc, yc, xs, ys, A, ws, o, n, c, s, hc, hs, k.box, k.m, k.d, k.c, hy.keep (heap_setCell_other _ _ _ _ (ne_ty hy h.box rfl)), k.s, hz.keep (heap_setCell_other _ _ _ _ (ne_ty hz h.box rfl)), k.below, ⟨h.lo.1, h.lo.2.1, ly, h.lo.2.2, lz⟩, h.ne⟩
/-- both memories, as they are made -/
structure Both (W w : World) (bm gm br gr q : Nat) (ws : List Int) (o : Bool) (n : Int) : Prop where
  m : MemAt 79 w bm gm ws o n
  d : MemAt 86 w br gr ws o n
  p : PlnAt w q 0 0 0 1 0 0
  below : Below W.heap.size W w
  lo : W.heap.size ≤ bm ∧ W.heap.size ≤ gm ∧ W.heap.size ≤ br ∧ W.heap.size ≤ gr
  ne : gm ≠ gr
theorem Both.on {q : Nat} (h : Both W w bm gm br gr q ws o n) (k : Below w.heap.size w w') : Both W w' bm gm br gr q ws o n :=
  ⟨h.m.on k, h.d.on k, (k.block q (lt_of_block h.p)).trans h.p, below_step h.below k, h.lo, h.ne⟩
theorem both_new {w1 w2 w3 : World} {k : Nat} (hb : Below W.heap.size W w1) (hm : MemAt 79 w2 (w1.heap.size + 1) w1.heap.size (List.replicate k 0) false 0) (hb2 : Below w1.heap.size w1 w2) (hr : MemAt 86 w3 (w2.heap.size + 1) w2.heap.size (List.replicate k 0) false 0) (hb3 : Below w2.heap.size w2 w3) :
    Both W (w3.alloc (.cells #[.int .i64 0, .int .i64 0, .int .i64 0, .int .i64 1, .int .i64 0, .int .i64 0] 25)) (w1.heap.size + 1) w1.heap.size (w2.heap.size + 1) w2.heap.size w3.heap.size (List.replicate k 0) false 0 := by
  have h1 := hm.ltB
  have h2 := hb.size
  have h3 := hb2.size
  exact ⟨(hm.on hb3).alloc _, hr.alloc _, heap_alloc_new _ _, tb_alloc (below_step (below_step hb hb2) hb3) _, ⟨by omega, by omega, by omega, by omega⟩, by omega⟩
theorem Both.wp {q x z : Nat} {w2 w3 : World} (h : Both W w bm gm br gr q ws o n) (lx : w.heap.size ≤ x) (hx : CmAt w2 x c) (h2 : Below w.heap.size w w2) (lz : w2.heap.size ≤ z) (hz : ScAt w3 z s) (h3 : Below w2.heap.size w2 w3) :
    Wp W (w3.alloc (.cells #[.pointer (some ⟨bm, 0, none⟩), .pointer (some ⟨br, 0, none⟩), .pointer (some ⟨x, 0, none⟩), .pointer none, .pointer (some ⟨z, 0, none⟩), .pointer none] 47)) w3.heap.size bm gm br gr x z (.pointer none) (.pointer none) ws o n c s := by
  have h1 := h.below.size
  have e2 := h2.size
  have e3 := h3.size
  have k := (h.on h2).on h3
  exact ⟨heap_alloc_new _ _, k.m.alloc _, k.d.alloc _, (hx.on h3).on (tb_alloc (Below.refl _ _) _), hz.on (tb_alloc (Below.refl _ _) _), tb_alloc k.below _, ⟨⟨by omega, h.lo⟩, by omega, by omega⟩, h.ne⟩
end
end Go.Proofs.Ytdfmmolhfacahaa
