import Derived.Test.YtlkldgopliablaaGreatDoorS1
import Derived.Laws.Tables
import Derived.Deep.WholeRow
import Derived.Deep.RegionHeld
namespace Go.Proofs.YtlkldgopliablaaGreatDoor.Sd
open Go.ChangeShapes Go.WideShapes Go.ChangeAt Go.RowKit

/-- rounds as numbers: how many threads, who has not finished, who was stepped, how many are over -/
structure Rd where
  n : Nat
  g : Nat → Bool
  s : Nat → Bool
  o : Nat
def putF (f : Nat → Bool) (t : Nat) (x : Bool) : Nat → Bool := fun k => if k = t then x else f k
def noneF : Nat → Bool := fun _ => false
def eq8 (f h : Nat → Bool) : Bool := f 0 == h 0 && f 1 == h 1 && f 2 == h 2 && f 3 == h 3 && f 4 == h 4 && f 5 == h 5 && f 6 == h 6 && f 7 == h 7
theorem eq8_iff (f h : Nat → Bool) : eq8 f h = true ↔ ∀ k, k < 8 → f k = h k := by
  simp only [eq8, Bool.and_eq_true, beq_iff_eq]
  constructor
  · rintro ⟨⟨⟨⟨⟨⟨⟨h0, h1⟩, h2⟩, h3⟩, h4⟩, h5⟩, h6⟩, h7⟩ k hk
    match k, hk with
    | 0, _ => exact h0
    | 1, _ => exact h1
    | 2, _ => exact h2
    | 3, _ => exact h3
    | 4, _ => exact h4
    | 5, _ => exact h5
    | 6, _ => exact h6
    | 7, _ => exact h7
    | k + 8, h => omega
  · intro q
    exact ⟨⟨⟨⟨⟨⟨⟨q 0 (by omega), q 1 (by omega)⟩, q 2 (by omega)⟩, q 3 (by omega)⟩, q 4 (by omega)⟩, q 5 (by omega)⟩, q 6 (by omega)⟩, q 7 (by omega)⟩
def overB (m : Rd) : Bool := !eq8 m.g noneF && eq8 m.s m.g
def settleM (m : Rd) : Rd := if overB m then { m with s := noneF, o := m.o + 1 } else m
def hasT (m : Rd) (t : Int) : Bool := decide (0 ≤ t ∧ t < (m.n : Int))
def errT (m : Rd) (t : Int) : Int := if hasT m t then 0 else 100
def stepN (m : Rd) (t : Nat) : Rd := if m.g t then settleM { m with s := putF m.s t true } else m
def finN (m : Rd) (t : Nat) : Rd := if m.g t then settleM { m with g := putF m.g t false, s := putF m.s t false } else m
def stepM (m : Rd) (t : Int) : Rd := if hasT m t then stepN m t.toNat else m
def finM (m : Rd) (t : Int) : Rd := if hasT m t then finN m t.toNat else m
def dueB (m : Rd) (k : Nat) : Bool := m.g k && !m.s k
def dueU (m : Rd) (i : Nat) : List Int := ((List.range i).filter (dueB m)).map Int.ofNat
def dueL (m : Rd) : List Int := dueU m m.n
theorem dueU_succ (m : Rd) (i : Nat) : dueU m (i + 1) = if dueB m i then dueU m i ++ [(i : Int)] else dueU m i := by
  unfold dueU
  rw [List.range_succ, List.filter_append]
  cases h : dueB m i <;> simp [h]
theorem dueU_len (m : Rd) (i : Nat) : (dueU m i).length ≤ i := by
  unfold dueU
  rw [List.length_map]
  exact Nat.le_trans (List.length_filter_le _ _) (by simp)
/-- as it lies -/
def boxV (m : Rd) : Array Value := #[.int .i64 m.n, .bool (m.g 0), .bool (m.g 1), .bool (m.g 2), .bool (m.g 3), .bool (m.g 4), .bool (m.g 5), .bool (m.g 6), .bool (m.g 7), .bool (m.s 0), .bool (m.s 1), .bool (m.s 2), .bool (m.s 3), .bool (m.s 4), .bool (m.s 5), .bool (m.s 6), .bool (m.s 7), .int .i64 m.o]
structure RdAt (w : World) (b : Nat) (m : Rd) : Prop where
  box : w.heap[b]? = some (.cells (boxV m) 170 (0, 0))
section
variable {w w' : World} {b : Nat} {m : Rd}
theorem RdAt.lt (h : RdAt w b m) : b < w.heap.size := lt_of_block h.box
theorem RdAt.free (h : RdAt w b m) (j : Nat) : w.frozen? ⟨b, j, none⟩ = false := frozen_of_row w b j _ _ h.box
theorem RdAt.cellN (h : RdAt w b m) : w.cell? ⟨b, 0, none⟩ = some (.int .i64 m.n) := by rw [cell_of_row w b 0 _ _ _ h.box]; rfl
theorem RdAt.cellO (h : RdAt w b m) : w.cell? ⟨b, 17, none⟩ = some (.int .i64 m.o) := by rw [cell_of_row w b 17 _ _ _ h.box]; rfl
theorem RdAt.cellG (h : RdAt w b m) (k : Nat) (hk : k < 8) : w.cell? ⟨b, 1 + k, none⟩ = some (.bool (m.g k)) := by
  rw [cell_of_row w b (1 + k) _ _ _ h.box]
  match k, hk with
  | 0, _ => rfl
  | 1, _ => rfl
  | 2, _ => rfl
  | 3, _ => rfl
  | 4, _ => rfl
  | 5, _ => rfl
  | 6, _ => rfl
  | 7, _ => rfl
  | k + 8, h => omega
theorem RdAt.cellS (h : RdAt w b m) (k : Nat) (hk : k < 8) : w.cell? ⟨b, 9 + k, none⟩ = some (.bool (m.s k)) := by
  rw [cell_of_row w b (9 + k) _ _ _ h.box]
  match k, hk with
  | 0, _ => rfl
  | 1, _ => rfl
  | 2, _ => rfl
  | 3, _ => rfl
  | 4, _ => rfl
  | 5, _ => rfl
  | 6, _ => rfl
  | 7, _ => rfl
  | k + 8, h => omega
theorem RdAt.keep (h : RdAt w b m) (k : Kept [b] w w') : RdAt w' b m := ⟨(k.2 b (List.mem_cons_self ..)).trans h.box⟩
theorem RdAt.same (h : RdAt w b m) (k : Same w w') : RdAt w' b m := h.keep (k.kept _)
theorem RdAt.on (h : RdAt w b m) (k : Below w.heap.size w w') : RdAt w' b m := ⟨(k.block b h.lt).trans h.box⟩
theorem RdAt.turn {G G' : List Nat} (h : RdAt w b m) (k : Turn G G' w w') (s : b ∉ G) : RdAt w' b m := ⟨(k.block b h.lt s).trans h.box⟩
theorem turn_set (w : World) (b j : Nat) (v : Value) : Turn [b] [b] w (w.setCell ⟨b, j, none⟩ v) :=
  ⟨rfl, rfl, rfl, by simp, fun k _ hn => heap_setCell_other _ _ _ _ (by simpa using hn), fun _ h => .inl h⟩
theorem RdAt.setG (h : RdAt w b m) (k : Nat) (hk : k < 8) (x : Bool) : RdAt (w.setCell ⟨b, 1 + k, none⟩ (.bool x)) b { m with g := putF m.g k x } := by
  refine ⟨(heap_setCell_same w b (1 + k) _ _ _ h.box).trans ?_⟩
  congr 2
  match k, hk with
  | 0, _ => rfl
  | 1, _ => rfl
  | 2, _ => rfl
  | 3, _ => rfl
  | 4, _ => rfl
  | 5, _ => rfl
  | 6, _ => rfl
  | 7, _ => rfl
  | k + 8, h => omega
theorem RdAt.setS (h : RdAt w b m) (k : Nat) (hk : k < 8) (x : Bool) : RdAt (w.setCell ⟨b, 9 + k, none⟩ (.bool x)) b { m with s := putF m.s k x } := by
  refine ⟨(heap_setCell_same w b (9 + k) _ _ _ h.box).trans ?_⟩
  congr 2
  match k, hk with
  | 0, _ => rfl
  | 1, _ => rfl
  | 2, _ => rfl
  | 3, _ => rfl
  | 4, _ => rfl
  | 5, _ => rfl
  | 6, _ => rfl
  | 7, _ => rfl
  | k + 8, h => omega
theorem RdAt.setO (h : RdAt w b m) (o : Nat) : RdAt (w.setCell ⟨b, 17, none⟩ (.int .i64 o)) b { m with o := o } :=
  ⟨(heap_setCell_same w b 17 _ _ _ h.box).trans rfl⟩
end
/-- may there be so many? -/
def mayT (t : Int) : Bool := decide (1 ≤ t ∧ t ≤ 8)
theorem mayBe_any (t : Int) (w : World) : Calls Tryz.prog 78 #[.int .i64 t] w fun e w' => e = .returned (.bool (mayT t)) ∧ w' = w := by
  unfold mayT
  by_cases h1 : 1 ≤ t
  · by_cases h2 : t ≤ 8
    · have e : decide (1 ≤ t ∧ t ≤ 8) = true := by simp [h1, h2]
      rw [e]
      clear e
      go_enter Tryz.func78, Tryz.ntmps78
      go_wp2
      go_ret
      exact ⟨by simp, rfl⟩
    · have e : decide (1 ≤ t ∧ t ≤ 8) = false := by simp [h2]
      rw [e]
      clear e
      go_enter Tryz.func78, Tryz.ntmps78
      go_wp2
      go_ret
      exact ⟨by simp, rfl⟩
  · have e : decide (1 ≤ t ∧ t ≤ 8) = false := by simp [h1]
    rw [e]
    clear e
    go_enter Tryz.func78, Tryz.ntmps78
    go_wp2
    go_ret
    exact ⟨by simp, rfl⟩
section
variable {w : World} {b : Nat} {m : Rd}
theorem has_any (h : RdAt w b m) (t : Int) : Calls Tryz.prog 117 #[.pointer (some ⟨b, 0, none⟩), .int .i64 t] w fun e w' => e = .returned (.bool (hasT m t)) ∧ w' = w := by
  have h0 := h.cellN
  have hb := h.lt
  unfold hasT
  clear h
  generalize m.n = n at h0
  by_cases h1 : 0 ≤ t
  · have e : decide (0 ≤ t ∧ t < (n : Int)) = decide (t < (n : Int)) := by simp [h1]
    rw [e]
    clear e
    go_enter Tryz.func117, Tryz.ntmps117
    go_wp2
    go_ret
    exact ⟨rfl, rfl⟩
  · have e : decide (0 ≤ t ∧ t < (n : Int)) = false := by simp [h1]
    rw [e]
    clear e
    go_enter Tryz.func117, Tryz.ntmps117
    go_wp2
    go_ret
    exact ⟨rfl, rfl⟩
theorem over_any (h : RdAt w b m) : Calls Tryz.prog 51 #[.pointer (some ⟨b, 0, none⟩)] w fun e w' => e = .returned (.int .i64 m.o) ∧ w' = w := by
  have h0 := h.cellO
  have hb := h.lt
  clear h
  go_enter Tryz.func51, Tryz.ntmps51
  go_wp2
  go_ret
  exact ⟨rfl, rfl⟩
end
end Go.Proofs.YtlkldgopliablaaGreatDoor.Sd
