import Derived.Test.YtdfmmolhfacahaaVG1
namespace Go.Proofs.Ytdfmmolhfacahaa
open Go.ChangeShapes Go.WideShapes Go.ChangeAt Go.RowKit

/-- seven readers in a row: p what each has done, xb the box of its coming where it has one -/
def PeAt (w : World) (l : Nat) (p xb : Nat → Nat) (on : Nat → Bool) : Prop :=
  ∃ a : Array Value, w.heap[l]? = some (.cells a 70 (0, 0)) ∧ a.size = 14 ∧ ∀ i, i < 7 → a[i * 2]? = some (.int .i64 ((p i : Nat) : Int)) ∧ ∃ v, a[i * 2 + 1]? = some v ∧ (on i = true → v = .pointer (some ⟨xb i, 0, none⟩))
section
variable {w w' : World} {l : Nat} {p xb : Nat → Nat} {on : Nat → Bool}
theorem PeAt.lt (h : PeAt w l p xb on) : l < w.heap.size := by
  obtain ⟨a, h, _⟩ := h
  exact lt_of_block h
theorem PeAt.keep (h : PeAt w l p xb on) (e : w'.heap[l]? = w.heap[l]?) : PeAt w' l p xb on := by
  obtain ⟨a, h, r⟩ := h
  exact ⟨a, e.trans h, r⟩
theorem PeAt.ne (h : PeAt w l p xb on) {j : Nat} {c : Array Value} {T : TypeId} {y : Nat × Nat} (k : w.heap[j]? = some (.cells c T y)) (hT : (70 == T) = false) : l ≠ j := by
  obtain ⟨a, h, _⟩ := h
  exact ne_ty h k hT
theorem PeAt.at' (h : PeAt w l p xb on) {i : Nat} (hi : i < 7) : w.cell? ⟨l, i * 2, none⟩ = some (.int .i64 ((p i : Nat) : Int)) ∧ w.frozen? ⟨l, i * 2, none⟩ = false ∧ w.frozen? ⟨l, i * 2 + 1, none⟩ = false ∧ ∃ v, w.cell? ⟨l, i * 2 + 1, none⟩ = some v ∧ (on i = true → v = .pointer (some ⟨xb i, 0, none⟩)) := by
  obtain ⟨a, h, hs, hr⟩ := h
  refine ⟨by rw [cell_of_row w l _ _ _ _ h]; exact (hr i hi).1, frozen_of_row w l _ _ _ h, frozen_of_row w l _ _ _ h, ?_⟩
  obtain ⟨v, h1, h2⟩ := (hr i hi).2
  exact ⟨v, by rw [cell_of_row w l _ _ _ _ h]; exact h1, h2⟩
theorem PeAt.setP (h : PeAt w l p xb on) (t : Nat) (ht : t < 7) (v : Nat) : PeAt (w.setCell ⟨l, t * 2, none⟩ (.int .i64 ((v : Nat) : Int))) l (updN p t v) xb on := by
  obtain ⟨a, h, hs, hr⟩ := h
  refine ⟨_, heap_setCell_same _ _ _ _ _ _ h, by simp [hs], fun i hi => ⟨?_, ?_⟩⟩
  · by_cases e : i = t
    · subst e
      rw [updN_at, Array.getElem?_setIfInBounds_self]
      simp [show i * 2 < a.size by omega]
    · rw [updN_ne _ _ e, Array.getElem?_setIfInBounds_ne (by omega)]
      exact (hr i hi).1
  · rw [Array.getElem?_setIfInBounds_ne (by omega)]
    exact (hr i hi).2
theorem PeAt.setX (h : PeAt w l p xb on) (t : Nat) (ht : t < 7) (y : Nat) : PeAt (w.setCell ⟨l, t * 2 + 1, none⟩ (.pointer (some ⟨y, 0, none⟩))) l p (updN xb t y) (updB on t true) := by
  obtain ⟨a, h, hs, hr⟩ := h
  refine ⟨_, heap_setCell_same _ _ _ _ _ _ h, by simp [hs], fun i hi => ⟨?_, ?_⟩⟩
  · rw [Array.getElem?_setIfInBounds_ne (by omega)]
    exact (hr i hi).1
  · by_cases e : i = t
    · subst e
      refine ⟨.pointer (some ⟨y, 0, none⟩), ?_, fun _ => by rw [updN_at]⟩
      rw [Array.getElem?_setIfInBounds_self]
      simp [show i * 2 + 1 < a.size by omega]
    · obtain ⟨v, h1, h2⟩ := (hr i hi).2
      refine ⟨v, by rw [Array.getElem?_setIfInBounds_ne (by omega)]; exact h1, fun ho => ?_⟩
      rw [updB_ne _ _ e] at ho
      rw [updN_ne _ _ e]
      exact h2 ho
theorem PeAt.weak {on' : Nat → Bool} (h : PeAt w l p xb on) (k : ∀ i, on' i = true → on i = true) : PeAt w l p xb on' := by
  obtain ⟨a, h, hs, hr⟩ := h
  refine ⟨a, h, hs, fun i hi => ⟨(hr i hi).1, ?_⟩⟩
  obtain ⟨v, h1, h2⟩ := (hr i hi).2
  exact ⟨v, h1, fun ho => h2 (k i ho)⟩
end
/-- the guard: a memory, seven readers with their comings, an updater with its scan: all new since W -/
structure Gd (W w : World) (gx b g l : Nat) (p N K S xb : Nat → Nat) (on : Nat → Bool) (ws : List Int) (o : Bool) (n : Int) (d s : Nat) (zp : Value) (zo : Bool) (z : Nat) (ss : Ss) : Prop where
  gd : w.heap[gx]? = some (.cells #[.pointer (some ⟨b, 0, none⟩), .int .i64 0, .int .i64 0, .int .i64 0, .int .i64 1, .int .i64 0, .int .i64 0, .slice (some ⟨l, 0, none⟩) 7 7, .int .i64 ((d : Nat) : Int), .int .u64 ((s : Nat) : Int), zp] 67 (0, 0))
  pe : PeAt w l p xb on
  m : MemAt 79 w b g ws o n
  cm : ∀ i, i < 7 → on i = true → CmAt w (xb i) ⟨0, 1, (i : Nat), (N i : Nat), (K i : Nat), (S i : Nat)⟩ ∧ W.heap.size ≤ xb i
  di : ∀ i j, i < 7 → j < 7 → on i = true → on j = true → xb i = xb j → i = j
  sc : zo = true → zp = .pointer (some ⟨z, 0, none⟩) ∧ ScAt w z ss ∧ W.heap.size ≤ z
  below : Below W.heap.size W w
  lo : W.heap.size ≤ gx ∧ W.heap.size ≤ b ∧ W.heap.size ≤ g ∧ W.heap.size ≤ l
section
variable {W w w' : World} {gx b g l : Nat} {p N K S xb : Nat → Nat} {on on' : Nat → Bool} {ws ws' : List Int} {o o' : Bool} {n n' : Int} {d s : Nat} {zp : Value} {zo : Bool} {z : Nat} {ss ss' : Ss}
theorem Gd.hop (h : Gd W w gx b g l p N K S xb on ws o n d s zp zo z ss) (k : Below w.heap.size w w') : Gd W w' gx b g l p N K S xb on ws o n d s zp zo z ss :=
  ⟨(k.block gx (lt_of_block h.gd)).trans h.gd, h.pe.keep (k.block l h.pe.lt), h.m.on k, fun i hi ho => ⟨(h.cm i hi ho).1.on k, (h.cm i hi ho).2⟩, h.di, fun q => ⟨(h.sc q).1, (h.sc q).2.1.on k, (h.sc q).2.2⟩, below_step h.below k, h.lo⟩
theorem Gd.chg (h : Gd W w gx b g l p N K S xb on ws o n d s zp zo z ss) (hm : MemAt 79 w' b g ws' o' n') (k : Chg b g w w') : Gd W w' gx b g l p N K S xb on ws' o' n' d s zp zo z ss :=
  ⟨(k.block gx (lt_of_block h.gd) (ne_ty h.gd h.m.box rfl) (ne_ty h.gd h.m.row rfl)).trans h.gd, h.pe.keep (k.block l h.pe.lt (h.pe.ne h.m.box rfl) (h.pe.ne h.m.row rfl)), hm, fun i hi ho => ⟨(h.cm i hi ho).1.keep (k.block _ (h.cm i hi ho).1.lt ((h.cm i hi ho).1.ne h.m).1 ((h.cm i hi ho).1.ne h.m).2), (h.cm i hi ho).2⟩, h.di, fun q => ⟨(h.sc q).1, (h.sc q).2.1.keep (k.block _ (h.sc q).2.1.lt ((h.sc q).2.1.ne h.m).1 ((h.sc q).2.1.ne h.m).2), (h.sc q).2.2⟩, below_chg h.below k h.lo.2.1 h.lo.2.2.1, h.lo⟩
theorem Gd.onC {t N' K' S' : Nat} (h : Gd W w gx b g l p N K S xb on ws o n d s zp zo z ss) (ht : t < 7) (hon : on t = true) (hm : MemAt 79 w' b g ws' o' n') (hx : CmAt w' (xb t) ⟨0, 1, (t : Nat), (N' : Nat), (K' : Nat), (S' : Nat)⟩) (k : Ch3 b g (xb t) w w') : Gd W w' gx b g l p (updN N t N') (updN K t K') (updN S t S') xb on ws' o' n' d s zp zo z ss := by
  have hc := h.cm t ht hon
  refine ⟨(k.block gx (lt_of_block h.gd) (ne_ty h.gd h.m.box rfl) (ne_ty h.gd h.m.row rfl) (ne_ty h.gd hc.1 rfl)).trans h.gd, h.pe.keep (k.block l h.pe.lt (h.pe.ne h.m.box rfl) (h.pe.ne h.m.row rfl) (h.pe.ne hc.1 rfl)), hm, fun i hi ho => ?_, h.di, fun q => ⟨(h.sc q).1, (h.sc q).2.1.keep (k.block _ (h.sc q).2.1.lt ((h.sc q).2.1.ne h.m).1 ((h.sc q).2.1.ne h.m).2 (ne_ty (h.sc q).2.1 hc.1 rfl)), (h.sc q).2.2⟩, h.below.trans (k.below h.lo.2.1 h.lo.2.2.1 hc.2 h.below.size), h.lo⟩
  by_cases e : i = t
  · subst e
    rw [updN_at, updN_at, updN_at]
    exact ⟨hx, hc.2⟩
  · rw [updN_ne _ _ e, updN_ne _ _ e, updN_ne _ _ e]
    exact ⟨(h.cm i hi ho).1.keep (k.block _ (h.cm i hi ho).1.lt ((h.cm i hi ho).1.ne h.m).1 ((h.cm i hi ho).1.ne h.m).2 (fun q => e (h.di i t hi ht ho hon q))), (h.cm i hi ho).2⟩
theorem Gd.onS (h : Gd W w gx b g l p N K S xb on ws o n d s zp zo z ss) (hz : zo = true) (hm : MemAt 79 w' b g ws' o' n') (hx : ScAt w' z ss') (k : Ch3 b g z w w') : Gd W w' gx b g l p N K S xb on ws' o' n' d s zp zo z ss' := by
  have hc := h.sc hz
  exact ⟨(k.block gx (lt_of_block h.gd) (ne_ty h.gd h.m.box rfl) (ne_ty h.gd h.m.row rfl) (ne_ty h.gd hc.2.1 rfl)).trans h.gd, h.pe.keep (k.block l h.pe.lt (h.pe.ne h.m.box rfl) (h.pe.ne h.m.row rfl) (h.pe.ne hc.2.1 rfl)), hm, fun i hi ho => ⟨(h.cm i hi ho).1.keep (k.block _ (h.cm i hi ho).1.lt ((h.cm i hi ho).1.ne h.m).1 ((h.cm i hi ho).1.ne h.m).2 (ne_ty (h.cm i hi ho).1 hc.2.1 rfl)), (h.cm i hi ho).2⟩, h.di, fun _ => ⟨hc.1, hx, hc.2.2⟩, h.below.trans (k.below h.lo.2.1 h.lo.2.2.1 hc.2.2 h.below.size), h.lo⟩
theorem low_set {x : Nat} {u : Value} {j : Nat} (h : Below W.heap.size W w) (hx : W.heap.size ≤ x) : Below W.heap.size W (w.setCell ⟨x, j, none⟩ u) := h.trans ⟨rfl, rfl, rfl, by simp, fun i hi => heap_setCell_other _ _ _ _ (show i ≠ x by omega)⟩
theorem Gd.setP (h : Gd W w gx b g l p N K S xb on ws o n d s zp zo z ss) (t : Nat) (ht : t < 7) (v : Nat) : Gd W (w.setCell ⟨l, t * 2, none⟩ (.int .i64 ((v : Nat) : Int))) gx b g l (updN p t v) N K S xb on ws o n d s zp zo z ss :=
  ⟨(heap_setCell_other _ _ _ _ (h.pe.ne h.gd rfl).symm).trans h.gd, h.pe.setP t ht v, h.m.other (h.pe.ne h.m.box rfl).symm (h.pe.ne h.m.row rfl).symm _ _, fun i hi ho => ⟨(h.cm i hi ho).1.keep (heap_setCell_other _ _ _ _ (h.pe.ne (h.cm i hi ho).1 rfl).symm), (h.cm i hi ho).2⟩, h.di, fun q => ⟨(h.sc q).1, (h.sc q).2.1.keep (heap_setCell_other _ _ _ _ (h.pe.ne (h.sc q).2.1 rfl).symm), (h.sc q).2.2⟩, low_set h.below h.lo.2.2.2, h.lo⟩
theorem Gd.setX {y : Nat} (h : Gd W w gx b g l p N K S xb on ws o n d s zp zo z ss) (t : Nat) (ht : t < 7) (hy : CmAt w y ⟨0, 1, (t : Nat), 0, 0, 0⟩) (ly : W.heap.size ≤ y) (new : ∀ i, i < 7 → on i = true → xb i ≠ y) : Gd W (w.setCell ⟨l, t * 2 + 1, none⟩ (.pointer (some ⟨y, 0, none⟩))) gx b g l p (updN N t 0) (updN K t 0) (updN S t 0) (updN xb t y) (updB on t true) ws o n d s zp zo z ss := by
  refine ⟨(heap_setCell_other _ _ _ _ (h.pe.ne h.gd rfl).symm).trans h.gd, h.pe.setX t ht y, h.m.other (h.pe.ne h.m.box rfl).symm (h.pe.ne h.m.row rfl).symm _ _, fun i hi ho => ?_, fun i j hi hj h1 h2 h3 => ?_, fun q => ⟨(h.sc q).1, (h.sc q).2.1.keep (heap_setCell_other _ _ _ _ (h.pe.ne (h.sc q).2.1 rfl).symm), (h.sc q).2.2⟩, low_set h.below h.lo.2.2.2, h.lo⟩
  · by_cases e : i = t
    · subst e
      rw [updN_at, updN_at, updN_at, updN_at]
      exact ⟨hy.keep (heap_setCell_other _ _ _ _ (h.pe.ne hy rfl).symm), ly⟩
    · rw [updB_ne _ _ e] at ho
      rw [updN_ne _ _ e, updN_ne _ _ e, updN_ne _ _ e, updN_ne _ _ e]
      exact ⟨(h.cm i hi ho).1.keep (heap_setCell_other _ _ _ _ (h.pe.ne (h.cm i hi ho).1 rfl).symm), (h.cm i hi ho).2⟩
  · by_cases e : i = t
    · by_cases e2 : j = t
      · rw [e, e2]
      · subst e
        rw [updB_ne _ _ e2] at h2
        rw [updN_at, updN_ne _ _ e2] at h3
        exact absurd h3.symm (new j hj h2)
    · rw [updB_ne _ _ e] at h1
      by_cases e2 : j = t
      · subst e2
        rw [updN_at, updN_ne _ _ e] at h3
        exact absurd h3 (new i hi h1)
      · rw [updB_ne _ _ e2] at h2
        rw [updN_ne _ _ e, updN_ne _ _ e2] at h3
        exact h.di i j hi hj h1 h2 h3
theorem Gd.box (h : Gd W w gx b g l p N K S xb on ws o n d s zp zo z ss) (j : Nat) (u : Value) : PeAt (w.setCell ⟨gx, j, none⟩ u) l p xb on ∧ MemAt 79 (w.setCell ⟨gx, j, none⟩ u) b g ws o n ∧ (∀ i, i < 7 → on i = true → CmAt (w.setCell ⟨gx, j, none⟩ u) (xb i) ⟨0, 1, (i : Nat), (N i : Nat), (K i : Nat), (S i : Nat)⟩ ∧ W.heap.size ≤ xb i) ∧ (zo = true → ScAt (w.setCell ⟨gx, j, none⟩ u) z ss) ∧ Below W.heap.size W (w.setCell ⟨gx, j, none⟩ u) :=
  ⟨h.pe.keep (heap_setCell_other _ _ _ _ (h.pe.ne h.gd rfl)), h.m.other (ne_ty h.m.box h.gd rfl) (ne_ty h.m.row h.gd rfl) _ _, fun i hi ho => ⟨(h.cm i hi ho).1.keep (heap_setCell_other _ _ _ _ (ne_ty (h.cm i hi ho).1 h.gd rfl)), (h.cm i hi ho).2⟩, fun q => (h.sc q).2.1.keep (heap_setCell_other _ _ _ _ (ne_ty (h.sc q).2.1 h.gd rfl)), low_set h.below h.lo.1⟩
theorem Gd.setD (h : Gd W w gx b g l p N K S xb on ws o n d s zp zo z ss) (v : Nat) : Gd W (w.setCell ⟨gx, 8, none⟩ (.int .i64 ((v : Nat) : Int))) gx b g l p N K S xb on ws o n v s zp zo z ss :=
  have k := h.box 8 (.int .i64 ((v : Nat) : Int))
  ⟨(heap_setCell_same w gx 8 _ _ _ h.gd).trans rfl, k.1, k.2.1, k.2.2.1, h.di, fun q => ⟨(h.sc q).1, k.2.2.2.1 q, (h.sc q).2.2⟩, k.2.2.2.2, h.lo⟩
theorem Gd.setS (h : Gd W w gx b g l p N K S xb on ws o n d s zp zo z ss) (v : Nat) : Gd W (w.setCell ⟨gx, 9, none⟩ (.int .u64 ((v : Nat) : Int))) gx b g l p N K S xb on ws o n d v zp zo z ss :=
  have k := h.box 9 (.int .u64 ((v : Nat) : Int))
  ⟨(heap_setCell_same w gx 9 _ _ _ h.gd).trans rfl, k.1, k.2.1, k.2.2.1, h.di, fun q => ⟨(h.sc q).1, k.2.2.2.1 q, (h.sc q).2.2⟩, k.2.2.2.2, h.lo⟩
theorem Gd.setZ {y : Nat} (h : Gd W w gx b g l p N K S xb on ws o n d s zp zo z ss) (hy : ScAt w y ss') (ly : W.heap.size ≤ y) : Gd W (w.setCell ⟨gx, 10, none⟩ (.pointer (some ⟨y, 0, none⟩))) gx b g l p N K S xb on ws o n d s (.pointer (some ⟨y, 0, none⟩)) true y ss' :=
  have k := h.box 10 (.pointer (some ⟨y, 0, none⟩))
  ⟨(heap_setCell_same w gx 10 _ _ _ h.gd).trans rfl, k.1, k.2.1, k.2.2.1, h.di, fun _ => ⟨rfl, hy.keep (heap_setCell_other _ _ _ _ (ne_ty hy h.gd rfl)), ly⟩, k.2.2.2.2, h.lo⟩
theorem Gd.weak (h : Gd W w gx b g l p N K S xb on ws o n d s zp zo z ss) (k : ∀ i, on' i = true → on i = true) : Gd W w gx b g l p N K S xb on' ws o n d s zp zo z ss :=
  ⟨h.gd, h.pe.weak k, h.m, fun i hi ho => h.cm i hi (k i ho), fun i j hi hj h1 h2 => h.di i j hi hj (k i h1) (k j h2), h.sc, h.below, h.lo⟩
theorem Gd.off (h : Gd W w gx b g l p N K S xb on ws o n d s zp zo z ss) : Gd W w gx b g l p N K S xb on ws o n d s zp false z ss :=
  ⟨h.gd, h.pe, h.m, h.cm, h.di, fun q => (by cases q), h.below, h.lo⟩
theorem Gd.cells (h : Gd W w gx b g l p N K S xb on ws o n d s zp zo z ss) : (w.cell? ⟨gx, 0, none⟩ = some (.pointer (some ⟨b, 0, none⟩)) ∧ w.cell? ⟨gx, 1, none⟩ = some (.int .i64 0) ∧ w.cell? ⟨gx, 2, none⟩ = some (.int .i64 0) ∧ w.cell? ⟨gx, 3, none⟩ = some (.int .i64 0) ∧ w.cell? ⟨gx, 4, none⟩ = some (.int .i64 1) ∧ w.cell? ⟨gx, 5, none⟩ = some (.int .i64 0) ∧ w.cell? ⟨gx, 6, none⟩ = some (.int .i64 0)) ∧ w.cell? ⟨gx, 7, none⟩ = some (.slice (some ⟨l, 0, none⟩) 7 7) ∧ w.cell? ⟨gx, 8, none⟩ = some (.int .i64 ((d : Nat) : Int)) ∧ w.cell? ⟨gx, 9, none⟩ = some (.int .u64 ((s : Nat) : Int)) ∧ w.cell? ⟨gx, 10, none⟩ = some zp ∧ gx < w.heap.size ∧ l < w.heap.size ∧ w.frozen? ⟨gx, 8, none⟩ = false ∧ w.frozen? ⟨gx, 9, none⟩ = false ∧ w.frozen? ⟨gx, 10, none⟩ = false :=
  ⟨⟨by rw [cell_of_row w gx 0 _ _ _ h.gd]; rfl, by rw [cell_of_row w gx 1 _ _ _ h.gd]; rfl, by rw [cell_of_row w gx 2 _ _ _ h.gd]; rfl, by rw [cell_of_row w gx 3 _ _ _ h.gd]; rfl, by rw [cell_of_row w gx 4 _ _ _ h.gd]; rfl, by rw [cell_of_row w gx 5 _ _ _ h.gd]; rfl, by rw [cell_of_row w gx 6 _ _ _ h.gd]; rfl⟩, by rw [cell_of_row w gx 7 _ _ _ h.gd]; rfl, by rw [cell_of_row w gx 8 _ _ _ h.gd]; rfl, by rw [cell_of_row w gx 9 _ _ _ h.gd]; rfl, by rw [cell_of_row w gx 10 _ _ _ h.gd]; rfl, lt_of_block h.gd, h.pe.lt, frozen_of_row w gx 8 _ _ h.gd, frozen_of_row w gx 9 _ _ h.gd, frozen_of_row w gx 10 _ _ h.gd⟩
end
/-- who has a coming -/
def onP (p : Nat → Nat) : Nat → Bool := fun i => p i != 0
theorem onP_come (p : Nat → Nat) (t v : Nat) (hv : v ≠ 0) : updB (onP p) t true = onP (updN p t v) := by
  funext i
  by_cases e : i = t <;> simp [updB, updN, onP, e, hv]
theorem onP_go (p : Nat → Nat) (t v : Nat) (hv : v ≠ 0) (hp : p t ≠ 0) : onP p = onP (updN p t v) := by
  funext i
  by_cases e : i = t
  · simp only [updN, onP, e, if_true]
    rw [bne_iff_ne.2 hp, bne_iff_ne.2 hv]
  · simp [updN, onP, e]
theorem onP_leave (p : Nat → Nat) (t : Nat) (i : Nat) (h : onP (updN p t 0) i = true) : onP p i = true := by
  unfold onP updN at *
  by_cases e : i = t <;> simp [e] at h ⊢
  exact h
/-- between two steps of a script -/
structure Gr (W w : World) (gx b g l : Nat) (p K S xb : Nat → Nat) (ws : List Int) (o : Bool) (n : Int) (m d s a q k : Nat) (zp : Value) (z : Nat) : Prop where
  y : Gd W w gx b g l p p K S xb (onP p) ws o n d s zp (decide (d = 1)) z ⟨1, 7, (s : Nat), (a : Nat), (q : Nat)⟩
  i : Ginv p K S ws m d s a q k
end Go.Proofs.Ytdfmmolhfacahaa
