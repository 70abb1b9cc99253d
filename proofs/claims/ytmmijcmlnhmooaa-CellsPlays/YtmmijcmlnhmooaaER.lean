import Derived.Test.YtmmijcmlnhmooaaEQ
namespace Go.Proofs.Ytmmijcmlnhmooaa
open Go.ChangeShapes Go.WideShapes Go.ChangeAt Go.RowKit Num
attribute [local go_sem] run_store_float

section
variable {W w w' : World} {bx : Nat} {col : Nat → Nat} {x : Wo} {ws ws' : List Int} {o o' : Bool} {n n' : Int}
theorem Play.dyed {c : Nat} {K : List Nat} (h : Play W w bx col x ws o n ws' o' n') (hK : ∀ k, k ∈ K → col k = 0 ∧ W.heap.size ≤ k ∧ k < w.heap.size) : Play W w bx (paint col K c) x ws o n ws' o' n' := by
  refine h.recol (paint_old fun k hk => .inl (hK k hk).1) (fun k hk => ?_) (fun k hk => ?_)
  · unfold paint
    split
    · rename_i z
      have := (hK k z).2.1
      omega
    · exact h.old k hk
  · unfold paint
    split
    · rename_i z
      have := (hK k z).2.2
      omega
    · exact h.big k hk
theorem Play.putR {i nb : Nat} {r : Rd} (h : Play W w bx col x ws o n ws' o' n') (hi : i < 2) (hr : RdAt w nb r) (hK : col nb = 0 ∧ W.heap.size ≤ nb ∧ nb < w.heap.size) : ∃ col', Play W (w.setCell ⟨bx, 2 + i, none⟩ (.pointer (some ⟨nb, 0, none⟩))) bx col' { x with rp := upd x.rp i (some (nb, r)) } ws o n ws' o' n' := by
  have h2 := h.dyed (c := 4 + i) (K := [nb]) (by simpa using hK)
  have hch := (Ch.refl [bx] w).set (b := bx) (by simp) (2 + i) (.pointer (some ⟨nb, 0, none⟩))
  have hnb : nb ≠ bx := fun e => by have := h.cx; rw [← e, hK.1] at this; omega
  obtain ⟨a1, a2, a3, a4, a5, a6⟩ := h2.part hch (fun c => c = 1) (by simp [h2.cx]) (by omega)
  refine ⟨_, a1, h2.old, a2, ?_, h2.cx, a4 (by omega), h2.cm, a5 (by omega), h2.cd, fun j hj => ?_, fun j hj => (a6 j hj).2.1 (by omega), fun j hj => (a6 j hj).2.2.1 (by omega), fun j hj => (a6 j hj).2.2.2 (by omega)⟩
  · rw [heap_setCell_same _ _ _ _ _ _ h.box]
    obtain rfl | rfl : i = 0 ∨ i = 1 := by omega
    · rfl
    · rfl
  · exact upd_cases (P := RpOk _ _ j) (fun e => by subst e; exact fun z ez => by injection ez with ez; subst ez; exact ⟨hr.ch hch (by simpa using hnb), paint_in (by simp)⟩) (fun e => (a6 j hj).1 (by omega))
theorem Play.putT {i nb : Nat} {r : Wt} (h : Play W w bx col x ws o n ws' o' n') (hi : i < 2) (hr : WtAt w nb r) (hK : col nb = 0 ∧ W.heap.size ≤ nb ∧ nb < w.heap.size) : ∃ col', Play W (w.setCell ⟨bx, 6 + i, none⟩ (.pointer (some ⟨nb, 0, none⟩))) bx col' { x with tp := upd x.tp i (some (nb, r)) } ws o n ws' o' n' := by
  have h2 := h.dyed (c := 8 + i) (K := [nb]) (by simpa using hK)
  have hch := (Ch.refl [bx] w).set (b := bx) (by simp) (6 + i) (.pointer (some ⟨nb, 0, none⟩))
  have hnb : nb ≠ bx := fun e => by have := h.cx; rw [← e, hK.1] at this; omega
  obtain ⟨a1, a2, a3, a4, a5, a6⟩ := h2.part hch (fun c => c = 1) (by simp [h2.cx]) (by omega)
  refine ⟨_, a1, h2.old, a2, ?_, h2.cx, a4 (by omega), h2.cm, a5 (by omega), h2.cd, fun j hj => (a6 j hj).1 (by omega), fun j hj => (a6 j hj).2.1 (by omega), fun j hj => ?_, fun j hj => (a6 j hj).2.2.2 (by omega)⟩
  · rw [heap_setCell_same _ _ _ _ _ _ h.box]
    obtain rfl | rfl : i = 0 ∨ i = 1 := by omega
    · rfl
    · rfl
  · exact upd_cases (P := TpOk _ _ j) (fun e => by subst e; exact fun z ez => by injection ez with ez; subst ez; exact ⟨hr.ch hch (by simpa using hnb), paint_in (by simp)⟩) (fun e => (a6 j hj).2.2.1 (by omega))
theorem Play.putD {i nb : Nat} {p c s : Int} (h : Play W w bx col x ws o n ws' o' n') (hi : i < 2) (hr : DrAt w nb p c s [] none 0) (hK : col nb = 0 ∧ W.heap.size ≤ nb ∧ nb < w.heap.size) : ∃ col', Play W (w.setCell ⟨bx, 4 + i, none⟩ (.pointer (some ⟨nb, 0, none⟩))) bx col' { x with rd := upd x.rd i (some ⟨nb, p, c, s, [], none, 0⟩) } ws o n ws' o' n' := by
  have h2 := h.dyed (c := 6 + i) (K := [nb]) (by simpa using hK)
  have hch := (Ch.refl [bx] w).set (b := bx) (by simp) (4 + i) (.pointer (some ⟨nb, 0, none⟩))
  have hnb : nb ≠ bx := fun e => by have := h.cx; rw [← e, hK.1] at this; omega
  obtain ⟨a1, a2, a3, a4, a5, a6⟩ := h2.part hch (fun c => c = 1) (by simp [h2.cx]) (by omega)
  refine ⟨_, a1, h2.old, a2, ?_, h2.cx, a4 (by omega), h2.cm, a5 (by omega), h2.cd, fun j hj => (a6 j hj).1 (by omega), fun j hj => ?_, fun j hj => (a6 j hj).2.2.1 (by omega), fun j hj => (a6 j hj).2.2.2 (by omega)⟩
  · rw [heap_setCell_same _ _ _ _ _ _ h.box]
    obtain rfl | rfl : i = 0 ∨ i = 1 := by omega
    · rfl
    · rfl
  · refine upd_cases (P := RdOk _ _ j) (fun e => ?_) (fun e => (a6 j hj).2.1 (by omega))
    subst e
    exact fun z ez => by
      injection ez with ez
      subst ez
      exact ⟨hr.keep (hch.block nb hr.lt (by simpa using hnb)) (fun g hg => by simp [Value.ownBlock] at hg), paint_in (by simp), fun g hg => by simp [ownL] at hg⟩
theorem Play.putE {i nb ng : Nat} {t : Wt} (h : Play W w bx col x ws o n ws' o' n') (hi : i < 2) (hr : EwAt w nb ng t) (hK : col nb = 0 ∧ W.heap.size ≤ nb ∧ nb < w.heap.size) (hG : col ng = 0 ∧ W.heap.size ≤ ng ∧ ng < w.heap.size) : ∃ col', Play W (w.setCell ⟨bx, 8 + i, none⟩ (.pointer (some ⟨nb, 0, none⟩))) bx col' { x with td := upd x.td i (some (nb, ng, t)) } ws o n ws' o' n' := by
  have h2 := h.dyed (c := 10 + i) (K := [nb, ng]) (by simp; exact ⟨hK, hG⟩)
  have hch := (Ch.refl [bx] w).set (b := bx) (by simp) (8 + i) (.pointer (some ⟨nb, 0, none⟩))
  have hnb : nb ≠ bx := fun e => by have := h.cx; rw [← e, hK.1] at this; omega
  have hng : ng ≠ bx := fun e => by have := h.cx; rw [← e, hG.1] at this; omega
  obtain ⟨a1, a2, a3, a4, a5, a6⟩ := h2.part hch (fun c => c = 1) (by simp [h2.cx]) (by omega)
  refine ⟨_, a1, h2.old, a2, ?_, h2.cx, a4 (by omega), h2.cm, a5 (by omega), h2.cd, fun j hj => (a6 j hj).1 (by omega), fun j hj => (a6 j hj).2.1 (by omega), fun j hj => (a6 j hj).2.2.1 (by omega), fun j hj => ?_⟩
  · rw [heap_setCell_same _ _ _ _ _ _ h.box]
    obtain rfl | rfl : i = 0 ∨ i = 1 := by omega
    · rfl
    · rfl
  · refine upd_cases (P := TdOk _ _ j) (fun e => ?_) (fun e => (a6 j hj).2.2.2 (by omega))
    subst e
    exact fun z ez => by
      injection ez with ez
      subst ez
      exact ⟨hr.keep (hch.block nb hr.lt (by simpa using hnb)) (hch.block ng hr.ltG (by simpa using hng)), paint_in (by simp), paint_in (by simp)⟩
end
/-- both stand alike -/
structure Al (M : Nat × Nat) (x : Wo) : Prop where
  mm : x.bm = M.1 ∧ x.bd = M.2
  rd : ∀ i, i < 2 → x.rp i = none ∧ x.rd i = none ∨ ∃ b D, x.rp i = some (b, rdD D.p D.c D.s D.L) ∧ x.rd i = some D ∧ okL D.s D.L
  wt : ∀ i, i < 2 → x.tp i = none ∧ x.td i = none ∨ ∃ b b' g t, x.tp i = some (b, t) ∧ x.td i = some (b', g, t)
def Goes (W w : World) (bx : Nat) (M : Nat × Nat) : Prop := ∃ col x ws o n, Play W w bx col x ws o n ws o n ∧ Al M x
theorem Al.readTo {M : Nat × Nat} {x : Wo} {i b : Nat} {D : Dd} (h : Al M x) (ho : okL D.s D.L) : Al M { x with rp := upd x.rp i (some (b, rdD D.p D.c D.s D.L)), rd := upd x.rd i (some D) } :=
  ⟨h.mm, fun j hj => by
    by_cases e : j = i
    · subst e
      exact .inr ⟨b, D, upd_same _ _ _, upd_same _ _ _, ho⟩
    · show (upd x.rp i _ j = none ∧ upd x.rd i _ j = none) ∨ ∃ b' D', upd x.rp i _ j = _ ∧ upd x.rd i _ j = _ ∧ _
      rw [upd_other _ _ e, upd_other _ _ e]
      exact h.rd j hj, h.wt⟩
theorem Al.writeTo {M : Nat × Nat} {x : Wo} {i b b' g : Nat} {t : Wt} (h : Al M x) : Al M { x with tp := upd x.tp i (some (b, t)), td := upd x.td i (some (b', g, t)) } :=
  ⟨h.mm, h.rd, fun j hj => by
    by_cases e : j = i
    · subst e
      exact .inr ⟨b, b', g, t, upd_same _ _ _, upd_same _ _ _⟩
    · show (upd x.tp i _ j = none ∧ upd x.td i _ j = none) ∨ ∃ b1 b2 g1 t1, upd x.tp i _ j = _ ∧ upd x.td i _ j = _
      rw [upd_other _ _ e, upd_other _ _ e]
      exact h.wt j hj⟩
section
variable {W w : World} {bx : Nat} {col : Nat → Nat} {x : Wo} {ws ws' : List Int} {o o' : Bool} {n n' : Int}
theorem Play.cells (h : Play W w bx col x ws o n ws' o' n') : (w.cell? ⟨bx, 0, none⟩ = some (.pointer (some ⟨x.bm, 0, none⟩)) ∧ w.cell? ⟨bx, 1, none⟩ = some (.pointer (some ⟨x.bd, 0, none⟩)) ∧ bx < w.heap.size) ∧ ∀ i, i < 2 → w.cell? ⟨bx, 2 + i, none⟩ = some (ptV ((x.rp i).map (·.1))) ∧ w.cell? ⟨bx, 4 + i, none⟩ = some (ptV ((x.rd i).map (·.b))) ∧ w.cell? ⟨bx, 6 + i, none⟩ = some (ptV ((x.tp i).map (·.1))) ∧ w.cell? ⟨bx, 8 + i, none⟩ = some (ptV ((x.td i).map (·.1))) := by
  refine ⟨⟨by rw [cell_of_row _ _ _ _ _ _ h.box]; rfl, by rw [cell_of_row _ _ _ _ _ _ h.box]; rfl, lt_of_block h.box⟩, fun i hi => ?_⟩
  obtain rfl | rfl : i = 0 ∨ i = 1 := by omega
  · exact ⟨by rw [cell_of_row _ _ _ _ _ _ h.box]; rfl, by rw [cell_of_row _ _ _ _ _ _ h.box]; rfl, by rw [cell_of_row _ _ _ _ _ _ h.box]; rfl, by rw [cell_of_row _ _ _ _ _ _ h.box]; rfl⟩
  · exact ⟨by rw [cell_of_row _ _ _ _ _ _ h.box]; rfl, by rw [cell_of_row _ _ _ _ _ _ h.box]; rfl, by rw [cell_of_row _ _ _ _ _ _ h.box]; rfl, by rw [cell_of_row _ _ _ _ _ _ h.box]; rfl⟩
/-- where the read i of both stands -/
theorem Play.atR {i b : Nat} {D : Dd} {r : Rd} (h : Play W w bx col x ws o n ws' o' n') (hi : i < 2) (h1 : x.rp i = some (b, r)) (h2 : x.rd i = some D) : (w.cell? ⟨bx, 0, none⟩ = some (.pointer (some ⟨x.bm, 0, none⟩)) ∧ w.cell? ⟨bx, 1, none⟩ = some (.pointer (some ⟨x.bd, 0, none⟩)) ∧ bx < w.heap.size) ∧ w.cell? ⟨bx, 2 + i, none⟩ = some (.pointer (some ⟨b, 0, none⟩)) ∧ w.cell? ⟨bx, 4 + i, none⟩ = some (.pointer (some ⟨D.b, 0, none⟩)) := by
  obtain ⟨a, c⟩ := h.cells
  obtain ⟨c1, c2, _⟩ := c i hi
  rw [h1] at c1
  rw [h2] at c2
  exact ⟨a, c1, c2⟩
theorem Play.atW {i b b' g : Nat} {t t' : Wt} (h : Play W w bx col x ws o n ws' o' n') (hi : i < 2) (h1 : x.tp i = some (b, t)) (h2 : x.td i = some (b', g, t')) : (w.cell? ⟨bx, 0, none⟩ = some (.pointer (some ⟨x.bm, 0, none⟩)) ∧ w.cell? ⟨bx, 1, none⟩ = some (.pointer (some ⟨x.bd, 0, none⟩)) ∧ bx < w.heap.size) ∧ w.cell? ⟨bx, 6 + i, none⟩ = some (.pointer (some ⟨b, 0, none⟩)) ∧ w.cell? ⟨bx, 8 + i, none⟩ = some (.pointer (some ⟨b', 0, none⟩)) := by
  obtain ⟨a, c⟩ := h.cells
  obtain ⟨_, _, c1, c2⟩ := c i hi
  rw [h1] at c1
  rw [h2] at c2
  exact ⟨a, c1, c2⟩
end
end Go.Proofs.Ytmmijcmlnhmooaa
