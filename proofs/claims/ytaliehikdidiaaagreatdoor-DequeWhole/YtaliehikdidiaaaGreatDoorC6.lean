import Derived.Test.YtaliehikdidiaaaGreatDoorC4
namespace Go.Proofs.YtaliehikdidiaaaGreatDoor
open Go.ChangeShapes Go.WideShapes Go.ChangeAt Go.RowKit Num

/-! the document's tables -/
def rlo (k : Nat) : Int := if (shp k).kind = 3 then -1 else (shp k).lo
def rhi (k : Nat) : Int := if (shp k).kind = 3 then -1 else (shp k).hi
def rowC (k : Nat) : List Value := [strB (shp k).word, .int .i64 (rlo k), .int .i64 (rhi k), .int .i64 (shp k).takes, .int .i64 (shp k).lays]
def rowsC : List Value := (List.range 21).flatMap rowC
def onesO : Obj := .cells (oneT.map strB).toArray 9
def twosO : Obj := .cells (twoT.map strB).toArray 9
theorem rowsC_at : ∀ k, k < 21 → rowsC[k * 5]? = some (strB (shp k).word) ∧ rowsC[k * 5 + 1]? = some (.int .i64 (rlo k)) ∧ rowsC[k * 5 + 2]? = some (.int .i64 (rhi k)) ∧ rowsC[k * 5 + 3]? = some (.int .i64 (shp k).takes) ∧ rowsC[k * 5 + 4]? = some (.int .i64 (shp k).lays) := by
  intro k hk
  have h : ∀ (n : Nat) (l : List Nat) (m : Nat), l[n]? = some m → ∀ j, j < 5 → (l.flatMap rowC)[n * 5 + j]? = (rowC m)[j]? := by
    intro n
    induction n with
    | zero =>
      intro l m hm j hj
      cases l with
      | nil => simp at hm
      | cons a t =>
        simp at hm
        subst hm
        rw [List.flatMap_cons, List.getElem?_append_left (by simp [rowC]; omega)]
        simp
    | succ n ih =>
      intro l m hm j hj
      cases l with
      | nil => simp at hm
      | cons a t =>
        rw [List.flatMap_cons, List.getElem?_append_right (by simp [rowC]; omega)]
        have e : (n + 1) * 5 + j - (rowC a).length = n * 5 + j := by simp [rowC]; omega
        rw [e]
        exact ih t m (by simpa using hm) j hj
  have g := h k (List.range 21) k (by simp [hk])
  unfold rowsC
  exact ⟨g 0 (by decide), g 1 (by decide), g 2 (by decide), g 3 (by decide), g 4 (by decide)⟩
/-- what the document's table holds, at block b -/
structure RowsAt (w : World) (b : Nat) : Prop where
  lt : b < w.heap.size
  row : ∀ k, k < 21 → w.cell? ⟨b, k * 5, none⟩ = some (strB (shp k).word) ∧ w.cell? ⟨b, k * 5 + 1, none⟩ = some (.int .i64 (rlo k)) ∧ w.cell? ⟨b, k * 5 + 2, none⟩ = some (.int .i64 (rhi k)) ∧ w.cell? ⟨b, k * 5 + 3, none⟩ = some (.int .i64 (shp k).takes) ∧ w.cell? ⟨b, k * 5 + 4, none⟩ = some (.int .i64 (shp k).lays)
theorem onesO_at (w : World) : ∀ k, k < 9 → (w.alloc onesO).cell? ⟨w.heap.size, k, none⟩ = some (strB (oneW k)) := by
  have h := heap_alloc_new w onesO
  intro k hk
  rw [cell_of_row _ _ _ _ _ _ h]
  have hk' : k < oneT.length := hk
  unfold oneW
  simp only [List.getElem?_toArray, List.getElem?_map, List.getD_eq_getElem?_getD, List.getElem?_eq_getElem hk', Option.map_some, Option.getD_some]
theorem twosO_at (w : World) : ∀ k, k < 13 → (w.alloc twosO).cell? ⟨w.heap.size, k, none⟩ = some (strB (twoW k)) := by
  have h := heap_alloc_new w twosO
  intro k hk
  rw [cell_of_row _ _ _ _ _ _ h]
  have hk' : k < twoT.length := hk
  unfold twoW
  simp only [List.getElem?_toArray, List.getElem?_map, List.getD_eq_getElem?_getD, List.getElem?_eq_getElem hk', Option.map_some, Option.getD_some]
end Go.Proofs.YtaliehikdidiaaaGreatDoor
