import Derived.Test.YtlkldgopliablaaGreatDoorRows
import Derived.WalkKit
import Derived.ProofKit
import Derived.OpenShut
import Derived.WalkLawsBesides
import Derived.Laws.OwnMore
import Derived.OneCell
import Derived.Lib.Hide
namespace Go.Proofs.YtlkldgopliablaaGreatDoor
open Go.ChangeShapes Go.WideShapes Go.ChangeAt Go.RowKit

/-- words, as cells -/
def u64s (ws : List Int) : List Value := ws.map (Value.int .u64)
/-- a memory (T its type): b the block of its fields, g that of its words -/
structure MemAt (T : TypeId) (w : World) (b g : Nat) (ws : List Int) (o : Bool) (c : Int) : Prop where
  box : w.heap[b]? = some (.cells #[.slice (some ⟨g, 0, none⟩) ws.length ws.length, .bool o, .int .i64 c] T (0, 0))
  row : w.heap[g]? = some (.cells (u64s ws).toArray 69 (0, 0))
  ne : b ≠ g
  some' : 1 ≤ ws.length
  many : ws.length ≤ 4096
/-- nothing old but the blocks b and g has turned -/
structure Chg (b g : Nat) (w w' : World) : Prop where
  os : w'.os = w.os
  tape : w'.tape = w.tape
  output : w'.output = w.output
  size : w.heap.size ≤ w'.heap.size
  block : ∀ k, k < w.heap.size → k ≠ b → k ≠ g → w'.heap[k]? = w.heap[k]?
theorem Chg.refl (b g : Nat) (w : World) : Chg b g w w := ⟨rfl, rfl, rfl, Nat.le_refl _, fun _ _ _ _ => rfl⟩
theorem Chg.trans {b g : Nat} {a w c : World} (h : Chg b g a w) (k : Chg b g w c) : Chg b g a c :=
  ⟨k.os.trans h.os, k.tape.trans h.tape, k.output.trans h.output, Nat.le_trans h.size k.size, fun i hi h1 h2 => (k.block i (Nat.lt_of_lt_of_le hi h.size) h1 h2).trans (h.block i hi h1 h2)⟩
theorem Chg.alloc {b g : Nat} {a w : World} (h : Chg b g a w) (o : Obj) : Chg b g a (w.alloc o) :=
  h.trans ⟨rfl, rfl, rfl, by simp, fun k hk _ _ => Below.heap_alloc _ _ _ hk⟩
theorem Chg.drew {b g : Nat} {a w : World} (h : Chg b g a w) : Chg b g a w.drew := ⟨h.os, h.tape, h.output, h.size, h.block⟩
theorem Chg.setB {b g : Nat} {a w : World} (h : Chg b g a w) (j : Nat) (u : Value) : Chg b g a (w.setCell ⟨b, j, none⟩ u) :=
  h.trans ⟨rfl, rfl, rfl, by simp, fun k _ h1 _ => heap_setCell_other _ _ _ _ h1⟩
theorem Chg.setG {b g : Nat} {a w : World} (h : Chg b g a w) (j : Nat) (u : Value) : Chg b g a (w.setCell ⟨g, j, none⟩ u) :=
  h.trans ⟨rfl, rfl, rfl, by simp, fun k _ _ h2 => heap_setCell_other _ _ _ _ h2⟩
theorem Chg.setN {b g : Nat} {a w : World} (h : Chg b g a w) {n : Nat} (hn : a.heap.size ≤ n) (j : Nat) (u : Value) : Chg b g a (w.setCell ⟨n, j, none⟩ u) :=
  ⟨h.os, h.tape, h.output, by simpa using h.size, fun k hk h1 h2 => (heap_setCell_other w ⟨n, j, none⟩ k u (by show k ≠ n; omega)).trans (h.block k hk h1 h2)⟩
theorem Chg.below {b g B : Nat} {w w' : World} (h : Chg b g w w') (hb : B ≤ b) (hg : B ≤ g) (hB : B ≤ w.heap.size) : Below B w w' :=
  ⟨h.os, h.tape, h.output, h.size, fun k hk => h.block k (by omega) (by omega) (by omega)⟩

section
variable {T : TypeId} {w : World} {b g : Nat} {ws : List Int} {o : Bool} {c : Int}
theorem MemAt.ltB (h : MemAt T w b g ws o c) : b < w.heap.size := lt_of_block h.box
theorem MemAt.ltG (h : MemAt T w b g ws o c) : g < w.heap.size := lt_of_block h.row
theorem MemAt.cell0 (h : MemAt T w b g ws o c) : w.cell? ⟨b, 0, none⟩ = some (.slice (some ⟨g, 0, none⟩) ws.length ws.length) := by rw [cell_of_row w b 0 _ _ _ h.box]; rfl
theorem MemAt.cell1 (h : MemAt T w b g ws o c) : w.cell? ⟨b, 1, none⟩ = some (.bool o) := by rw [cell_of_row w b 1 _ _ _ h.box]; rfl
theorem MemAt.cell2 (h : MemAt T w b g ws o c) : w.cell? ⟨b, 2, none⟩ = some (.int .i64 c) := by rw [cell_of_row w b 2 _ _ _ h.box]; rfl
theorem MemAt.freeB (h : MemAt T w b g ws o c) (j : Nat) : w.frozen? ⟨b, j, none⟩ = false := frozen_of_row w b j _ _ h.box
theorem MemAt.freeG (h : MemAt T w b g ws o c) (j : Nat) : w.frozen? ⟨g, j, none⟩ = false := frozen_of_row w g j _ _ h.row
theorem MemAt.word (h : MemAt T w b g ws o c) {i : Nat} (hi : i < ws.length) : w.cell? ⟨g, i, none⟩ = some (.int .u64 ws[i]) := by
  rw [cell_of_row w g i _ _ _ h.row]
  simp [u64s, hi]
theorem MemAt.keep {w' : World} (h : MemAt T w b g ws o c) (hb : w'.heap[b]? = w.heap[b]?) (hg : w'.heap[g]? = w.heap[g]?) : MemAt T w' b g ws o c := ⟨hb.trans h.box, hg.trans h.row, h.ne, h.some', h.many⟩
theorem MemAt.alloc (h : MemAt T w b g ws o c) (x : Obj) : MemAt T (w.alloc x) b g ws o c := h.keep (Below.heap_alloc _ _ _ h.ltB) (Below.heap_alloc _ _ _ h.ltG)
theorem MemAt.drew (h : MemAt T w b g ws o c) : MemAt T w.drew b g ws o c := ⟨h.box, h.row, h.ne, h.some', h.many⟩
theorem MemAt.other (h : MemAt T w b g ws o c) {n : Nat} (h1 : b ≠ n) (h2 : g ≠ n) (j : Nat) (u : Value) : MemAt T (w.setCell ⟨n, j, none⟩ u) b g ws o c :=
  h.keep (heap_setCell_other _ _ _ _ h1) (heap_setCell_other _ _ _ _ h2)
theorem MemAt.setO (h : MemAt T w b g ws o c) (o' : Bool) : MemAt T (w.setCell ⟨b, 1, none⟩ (.bool o')) b g ws o' c :=
  ⟨(heap_setCell_same w b 1 _ T _ h.box).trans rfl, (heap_setCell_other _ _ _ _ (Ne.symm h.ne)).trans h.row, h.ne, h.some', h.many⟩
theorem MemAt.setC (h : MemAt T w b g ws o c) (c' : Int) : MemAt T (w.setCell ⟨b, 2, none⟩ (.int .i64 c')) b g ws o c' :=
  ⟨(heap_setCell_same w b 2 _ T _ h.box).trans rfl, (heap_setCell_other _ _ _ _ (Ne.symm h.ne)).trans h.row, h.ne, h.some', h.many⟩
theorem u64s_set (ws : List Int) (i : Nat) (v : Int) : (u64s ws).set i (.int .u64 v) = u64s (ws.set i v) := by
  unfold u64s
  rw [List.map_set]
theorem MemAt.setW (h : MemAt T w b g ws o c) (i : Nat) (v : Int) : MemAt T (w.setCell ⟨g, i, none⟩ (.int .u64 v)) b g (ws.set i v) o c := by
  refine ⟨?_, ?_, h.ne, by rw [List.length_set]; exact h.some', by rw [List.length_set]; exact h.many⟩
  · rw [List.length_set, heap_setCell_other _ _ _ _ h.ne]; exact h.box
  · rw [heap_setCell_same w g i _ _ _ h.row, ← u64s_set, List.setIfInBounds_toArray]
theorem MemAt.chg {w' : World} {b' g' : Nat} (h : MemAt T w b g ws o c) (k : Chg b' g' w w') (h1 : b ≠ b') (h2 : b ≠ g') (h3 : g ≠ b') (h4 : g ≠ g') : MemAt T w' b g ws o c :=
  h.keep (k.block b h.ltB h1 h2) (k.block g h.ltG h3 h4)
theorem MemAt.on {w' : World} (h : MemAt T w b g ws o c) (k : Below w.heap.size w w') : MemAt T w' b g ws o c :=
  h.keep (k.block b h.ltB) (k.block g h.ltG)
end

def hasB (ws : List Int) (i : Int) : Bool := decide (0 ≤ i ∧ i < (ws.length : Int))
/-- what is wrong with an access -/
def errA (ws : List Int) (o : Bool) (i : Int) : Int := if hasB ws i then (if o then 0 else 31) else 30
def errP (ws : List Int) (i : Int) : Int := if hasB ws i then 0 else 30
def wordAt (ws : List Int) (i : Int) : Int := ws.getD i.toNat 0
def addV (x n : Int) : Int := IntKind.u64.wrap (x + n)
def up (c : Int) : Int := wrap64 (c + 1)
theorem hasB_pos {ws : List Int} {i : Int} (h : hasB ws i = true) : ∃ k : Nat, i = k ∧ k < ws.length := by
  have := of_decide_eq_true h
  exact ⟨i.toNat, by omega, by omega⟩
theorem hasB_neg {ws : List Int} {i : Int} (h : hasB ws i = false) : ¬ (0 ≤ i ∧ i < (ws.length : Int)) := of_decide_eq_false h
end Go.Proofs.YtlkldgopliablaaGreatDoor
