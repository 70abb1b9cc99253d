import Derived.Test.YtlnobfmbnnfbdaaGreatDoorRows
import Derived.WalkKit
import Derived.ProofKit
import Derived.OpenShut
import Derived.WalkLawsBesides
import Derived.Laws.OwnMore
import Derived.OneCell
import Derived.Lib.Hide
import Derived.Lib.SliceRun
import Derived.WalkSmall
import Derived.BigQuiet
import Derived.Deep.RegionWith
import Derived.Deep.QuietTactic
import Derived.OwnWalk
import Derived.Maps.AppendAt
import Derived.Laws.CopyRow
namespace Go.Proofs.YtlnobfmbnnfbdaaGreatDoor
open Go.ChangeShapes Go.WideShapes Go.ChangeAt Go.RowKit

/-- the memory is as it was -/
structure Same (w w' : World) : Prop where
  os : w'.os = w.os
  tape : w'.tape = w.tape
  output : w'.output = w.output
  heap : w'.heap = w.heap
theorem Same.refl (w : World) : Same w w := ⟨rfl, rfl, rfl, rfl⟩
theorem Same.drew (w : World) : Same w w.drew := ⟨rfl, rfl, rfl, rfl⟩
theorem Same.drewN (w : World) (k : Nat) : Same w (w.drewN k) := ⟨rfl, rfl, rfl, rfl⟩
theorem Same.trans {a b c : World} (h : Same a b) (k : Same b c) : Same a c := ⟨k.os.trans h.os, k.tape.trans h.tape, k.output.trans h.output, k.heap.trans h.heap⟩
theorem Same.below {w w' : World} (h : Same w w') (B : Nat) : Below B w w' := ⟨h.os, h.tape, h.output, by rw [h.heap]; exact Nat.le_refl _, fun k _ => by rw [h.heap]⟩
/-- of the blocks of F alone something may have turned; F' are the old ones of F or new ones -/
structure Turn (F F' : List Nat) (w w' : World) : Prop where
  os : w'.os = w.os
  tape : w'.tape = w.tape
  output : w'.output = w.output
  size : w.heap.size ≤ w'.heap.size
  block : ∀ k, k < w.heap.size → k ∉ F → w'.heap[k]? = w.heap[k]?
  own : ∀ k, k ∈ F' → k ∈ F ∨ w.heap.size ≤ k
theorem Turn.refl (F : List Nat) (w : World) : Turn F F w w := ⟨rfl, rfl, rfl, Nat.le_refl _, fun _ _ _ => rfl, fun _ h => .inl h⟩
theorem Turn.trans {F G H : List Nat} {a b c : World} (h : Turn F G a b) (k : Turn G H b c) : Turn F H a c :=
  ⟨k.os.trans h.os, k.tape.trans h.tape, k.output.trans h.output, Nat.le_trans h.size k.size,
   fun i hi hf => (k.block i (Nat.lt_of_lt_of_le hi h.size) (fun q => (h.own i q).elim hf (fun z => absurd hi (Nat.not_lt.2 z)))).trans (h.block i hi hf),
   fun i hi => (k.own i hi).elim (h.own i) (fun z => .inr (Nat.le_trans h.size z))⟩
theorem Same.turn {w w' : World} (h : Same w w') (F : List Nat) : Turn F F w w' := ⟨h.os, h.tape, h.output, by rw [h.heap]; exact Nat.le_refl _, fun k _ _ => by rw [h.heap], fun _ q => .inl q⟩
theorem Turn.mono {F F' G : List Nat} {w w' : World} (h : Turn F F' w w') (hg : ∀ k, k ∈ G → k ∈ F ∨ w.heap.size ≤ k) : Turn F G w w' := ⟨h.os, h.tape, h.output, h.size, h.block, hg⟩
def Sep (F G : List Nat) : Prop := ∀ k, k ∈ F → k ∉ G
def Abv (B : Nat) (F : List Nat) : Prop := ∀ k, k ∈ F → B ≤ k
def Blw (w : World) (F : List Nat) : Prop := ∀ k, k ∈ F → k < w.heap.size
theorem Sep.symm {F G : List Nat} (h : Sep F G) : Sep G F := fun k hk q => h k q hk
theorem Sep.turn {F G G' : List Nat} {w w' : World} (h : Sep F G) (hb : Blw w F) (k : Turn G G' w w') : Sep F G' := fun i hi q => (k.own i q).elim (h i hi) (fun z => absurd (hb i hi) (Nat.not_lt.2 z))
theorem Abv.turn {B : Nat} {F F' : List Nat} {w w' : World} (h : Abv B F) (hB : B ≤ w.heap.size) (k : Turn F F' w w') : Abv B F' := fun i hi => (k.own i hi).elim (h i) (Nat.le_trans hB)
theorem Turn.below {B : Nat} {F F' : List Nat} {w w' : World} (k : Turn F F' w w') (h : Abv B F) (hB : B ≤ w.heap.size) : Below B w w' :=
  ⟨k.os, k.tape, k.output, k.size, fun i hi => k.block i (by omega) (fun q => absurd (h i q) (by omega))⟩
theorem Abv.sep {F G : List Nat} {w : World} (h : Abv w.heap.size F) (k : Blw w G) : Sep F G := fun i hi q => absurd (h i hi) (Nat.not_le.2 (k i q))
theorem Abv.mono {B B' : Nat} {F : List Nat} (h : Abv B F) (k : B' ≤ B) : Abv B' F := fun i hi => Nat.le_trans k (h i hi)
/-- what stands in the blocks of F has been left -/
def Kept (F : List Nat) (w w' : World) : Prop := w.heap.size ≤ w'.heap.size ∧ ∀ k, k ∈ F → w'.heap[k]? = w.heap[k]?
theorem Turn.kept {F G G' : List Nat} {w w' : World} (k : Turn G G' w w') (h : Sep F G) (hb : Blw w F) : Kept F w w' := ⟨k.size, fun i hi => k.block i (hb i hi) (h i hi)⟩
theorem kept_below {F : List Nat} {w w' : World} (k : Below w.heap.size w w') (hb : Blw w F) : Kept F w w' := ⟨k.size, fun i hi => k.block i (hb i hi)⟩
theorem Same.kept {w w' : World} (h : Same w w') (F : List Nat) : Kept F w w' := ⟨by rw [h.heap]; exact Nat.le_refl _, fun i _ => by rw [h.heap]⟩

/-- the blocks of a slice of one's own -/
def fpR (p : Option Addr) : List Nat := (p.map (·.block)).toList
theorem mem_fpR {p : Option Addr} {k : Nat} : k ∈ fpR p ↔ ∃ a, p = some a ∧ a.block = k := by
  cases p <;> simp [fpR, eq_comm]
theorem own_fpR {p : Option Addr} {n c k : Nat} : k ∈ fpR p ↔ (Value.slice p n c).ownBlock = some k := by
  cases p <;> simp [fpR, Value.ownBlock, eq_comm]
end Go.Proofs.YtlnobfmbnnfbdaaGreatDoor
