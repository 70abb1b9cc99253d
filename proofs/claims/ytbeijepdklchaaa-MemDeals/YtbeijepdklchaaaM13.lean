import Derived.Test.YtbeijepdklchaaaM9
import Derived.Test.YtbeijepdklchaaaM10
namespace Go.Proofs.Ytbeijepdklchaaa
open Go.ChangeShapes Go.WideShapes Go.ChangeAt Go.RowKit

theorem intInfo : (Try.prog.info? 3).map (fun i => (i.zero, i.size, i.bytes)) = some (some (.int .i64 0), 1, 8) := by kernel_rfl
/-- the numbers from 0 on, as cells -/
def upto (n : Nat) : List Value := (List.range n).map fun (i : Nat) => Value.int .i64 (i : Int)
theorem upto_succ (n : Nat) : upto (n + 1) = upto n ++ [.int .i64 (n : Int)] := by
  unfold upto
  rw [List.range_succ, List.map_append]
  rfl
theorem upto_len (n : Nat) : (upto n).length = n := by unfold upto; rw [List.length_map, List.length_range]
theorem upto_at (n i : Nat) (h : i < n) : (upto n)[i]? = some (.int .i64 (i : Int)) := by
  unfold upto
  rw [List.getElem?_map, List.getElem?_range h]
  rfl
/-- which words were dealt: from i on none -/
def Seen (w : World) (sb i : Nat) : Prop := ∃ L : List Int, L.length = 779 ∧ (∀ j, i ≤ j → j < 779 → L[j]? = some 0) ∧ w.heap[sb]? = some (.cells (L.map (Value.int .i64)).toArray 3 (0, 0))
theorem Seen.cell {w : World} {sb i : Nat} (h : Seen w sb i) (hi : i < 779) : w.cell? ⟨sb, i, none⟩ = some (.int .i64 0) := by
  obtain ⟨L, _, hz, hb⟩ := h
  rw [cell_of_row w sb i _ _ _ hb]
  simp [hz i (Nat.le_refl _) hi]
theorem Seen.free {w : World} {sb i : Nat} (h : Seen w sb i) (j : Nat) : w.frozen? ⟨sb, j, none⟩ = false := by
  obtain ⟨L, _, _, hb⟩ := h
  exact frozen_of_row w sb j _ _ hb
theorem Seen.lt {w : World} {sb i : Nat} (h : Seen w sb i) : sb < w.heap.size := by
  obtain ⟨L, _, _, hb⟩ := h
  exact lt_of_block hb
theorem Seen.keep {w w' : World} {sb i : Nat} (h : Seen w sb i) (k : w'.heap[sb]? = w.heap[sb]?) : Seen w' sb i := by
  obtain ⟨L, h1, h2, hb⟩ := h
  exact ⟨L, h1, h2, k.trans hb⟩
theorem Seen.set {w : World} {sb i : Nat} (h : Seen w sb i) : Seen (w.setCell ⟨sb, i, none⟩ (.int .i64 1)) sb (i + 1) := by
  obtain ⟨L, h1, h2, hb⟩ := h
  refine ⟨L.set i 1, by rw [List.length_set]; exact h1, fun j hj hlt => ?_, ?_⟩
  · rw [List.getElem?_set_ne (by omega)]
    exact h2 j (by omega) hlt
  · rw [heap_setCell_same w sb i _ _ _ hb, List.setIfInBounds_toArray, List.map_set]
theorem make_seen : ∃ Z : Array Value, (∀ w : World, (Instr.makeSlice 49 (.int .i64 779) (.int .i64 779)).run Try.prog w = .ok (.slice (some ⟨w.heap.size, 0, none⟩) 779 779) (w.alloc (.cells Z 3))) ∧ Hid (∀ w : World, Seen (w.alloc (.cells Z 3)) w.heap.size 0) := by
  obtain ⟨i, hi, hz0, hz1, hz2⟩ := info_parts intInfo
  refine ⟨((List.replicate 779 (0 : Int)).map (Value.int .i64)).toArray, fun w => ?_, fun w => ⟨List.replicate 779 0, List.length_replicate, fun j _ hj => by rw [List.getElem?_replicate, if_pos hj], heap_alloc_new _ _⟩⟩
  rw [run_make w 49 3 i (.int .i64 0) Try.underlying49 hi hz0 .i64 .i64 779 779 (by omega) (Int.le_refl _) (by rw [hz2]; omega) (by omega)]
  have e : (madeCells (Value.int .i64 0).cells (((779 : Int)).toNat * i.size)) = ((List.replicate 779 (0 : Int)).map (Value.int .i64)).toArray := by
    rw [hz1, Nat.mul_one]
    apply Array.toList_inj.1
    rw [show (Value.int .i64 0).cells = #[.int .i64 0] from rfl, toList_madeCells_one, List.map_replicate]
    rfl
  rw [e]
  rfl
structure Deal (W w : World) (cb pb sb B : Nat) (C T c e : Int) (i : Nat) : Prop where
  cfg : w.heap[cb]? = some (.cells #[.int .i64 C, .int .i64 T, .int .i64 c, .int .i64 e] 43 (0, 0))
  plan : w.heap[pb]? = some (.cells #[.int .i64 0, .int .i64 1, .int .i64 2, .int .i64 3, .int .i64 (3 + T), .int .i64 (3 + T + 3 * C)] 45 (0, 0))
  seen : Seen w sb i
  below : Below W.heap.size W w
  lt : cb < B ∧ pb < B ∧ sb < B ∧ W.heap.size ≤ sb ∧ cb ≠ sb ∧ pb ≠ sb
section
variable {W w w' : World} {cb pb sb B i : Nat} {C T c e : Int}
theorem Deal.app (h : Deal W w cb pb sb B C T c e i) (ob : Obj) {v : Value} (hv : ∀ k, v.ownBlock = some k → B ≤ k) (hg : (w.alloc ob).grownBy w' v.ownBlock) : Deal W w' cb pb sb B C T c e i := by
  have key : ∀ x, x < B → x < w.heap.size → w'.heap[x]? = w.heap[x]? := fun x hx hl =>
    (hg.block x (by simp; omega) (fun q => by have := hv x q.symm; omega)).trans (Below.heap_alloc _ _ _ hl)
  refine ⟨(key _ h.lt.1 (lt_of_block h.cfg)).trans h.cfg, (key _ h.lt.2.1 (lt_of_block h.plan)).trans h.plan, h.seen.keep (key _ h.lt.2.2.1 h.seen.lt), ?_, h.lt⟩
  exact (h.below.alloc h.below.size ob).grown hg (Nat.le_trans h.below.size (by simp)) (fun k hk => by have := hv k hk; have := h.lt; omega)
theorem Deal.set (h : Deal W w cb pb sb B C T c e i) : Deal W (w.setCell ⟨sb, i, none⟩ (.int .i64 1)) cb pb sb B C T c e (i + 1) :=
  ⟨(heap_setCell_other _ _ _ _ h.lt.2.2.2.2.1).trans h.cfg, (heap_setCell_other _ _ _ _ h.lt.2.2.2.2.2).trans h.plan, h.seen.set, h.below.setCell h.lt.2.2.2.1 _, h.lt⟩
end
theorem deal_new {W w1 w2 : World} {C T c e : Int} {Z : Array Value} (hx : w2.heap[W.heap.size]? = some (.cells #[.int .i64 C, .int .i64 T, .int .i64 c, .int .i64 e] 43 (0, 0))) (hb1 : Below (W.alloc (.cells #[.int .i64 C, .int .i64 T, .int .i64 c, .int .i64 e] 43)).heap.size (W.alloc (.cells #[.int .i64 C, .int .i64 T, .int .i64 c, .int .i64 e] 43)) w1) (hb2 : Below w1.heap.size w1 w2) (hZ : ∀ w : World, Seen (w.alloc (.cells Z 3)) w.heap.size 0) :
    Deal W (((w2.alloc (.cells #[.int .i64 0, .int .i64 1, .int .i64 2, .int .i64 3, .int .i64 (3 + T), .int .i64 (3 + T + 3 * C)] 45)).alloc (.cells Z 3)).alloc (.cells #[.int .i64 0, .int .i64 1, .int .i64 2] 3)) W.heap.size w2.heap.size (w2.heap.size + 1) (w2.heap.size + 1 + 1) C T c e 0 := by
  have hl := lt_of_block hx
  have hs : W.heap.size ≤ w2.heap.size := by omega
  have hW : Below W.heap.size W w2 := below_chain (below_chain ((Below.refl _ _).alloc (Nat.le_refl _) _) hb1) hb2
  refine ⟨?_, ?_, ?_, ?_, by omega, by omega, by omega, by omega, by omega, by omega⟩
  · rw [Below.heap_alloc _ _ _ (by simp; omega), Below.heap_alloc _ _ _ (by simp; omega), Below.heap_alloc _ _ _ hl]; exact hx
  · rw [Below.heap_alloc _ _ _ (by simp; omega), Below.heap_alloc _ _ _ (by simp)]; exact heap_alloc_new _ _
  · have h := hZ (w2.alloc (.cells #[.int .i64 0, .int .i64 1, .int .i64 2, .int .i64 3, .int .i64 (3 + T), .int .i64 (3 + T + 3 * C)] 45))
    rw [World.size_alloc] at h
    exact h.keep (Below.heap_alloc _ _ _ (by simp))
  · exact ((hW.alloc hs _).alloc (by simp; omega) _).alloc (by simp; omega) _
end Go.Proofs.Ytbeijepdklchaaa
