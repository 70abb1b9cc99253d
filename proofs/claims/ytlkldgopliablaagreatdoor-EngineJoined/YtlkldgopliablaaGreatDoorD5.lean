import Derived.Test.YtlkldgopliablaaGreatDoorD2
namespace Go.Proofs.YtlkldgopliablaaGreatDoor.Sd
open Go.ChangeShapes Go.WideShapes Go.ChangeAt Go.RowKit

theorem iInfo : (Tryz.prog.info? 3).map (fun i => (i.zero, i.size, i.bytes)) = some (some (.int .i64 0), 1, 8) := by kernel_rfl
/-- a list of numbers that grows, new since B -/
structure Grow (B : Nat) (W w : World) (p : Option Addr) (c : Nat) (l : List Int) : Prop where
  own : w.ownsRow B 3 1 (.slice p l.length c) l.length (i64s l)
  below : Below B W w
section
variable {B : Nat} {W w : World} {p : Option Addr} {c : Nat} {l : List Int}
theorem grow_nil (h : Below B W w) : Grow B W w none 0 [] := ⟨World.ownsRow_nil _ _ _ _, h⟩
theorem Grow.app {o : Obj} {w3 : World} {v : Value} {x : Int} (h : Grow B W w p c l) (hB : B ≤ w.heap.size) (hown : w3.ownsRow B 3 1 v (l.length + 1) (i64s l ++ [.int .i64 x])) (hg : (w.alloc o).grownBy w3 (Value.slice p l.length c).ownBlock) : ∃ p' c', v = .slice p' (l.length + 1) c' ∧ Grow B W w3 p' c' (l ++ [x]) := by
  have e : l.length + 1 = (l ++ [x]).length := by simp
  have hown' := hown
  rw [← i64s_snoc] at hown'
  obtain ⟨p', c', rfl, hr, ha⟩ := ownsRow_based hown'
  rw [i64s_len] at hown' ⊢
  rw [e] at hown' ⊢
  refine ⟨p', c', rfl, hown', ?_⟩
  exact (h.below.alloc hB o).grown hg (by simp; omega) (fun j hj => (h.own.lt j hj).1)
theorem Grow.row (h : Grow B W w p c l) : RowAt 3 w p c (i64s l) ∧ Abv B (fpR p) := by
  have q := h.own
  obtain ⟨p', c', e, hr, ha⟩ := ownsRow_based q
  injection e with e1 e2 e3
  subst e1 e3
  exact ⟨hr, ha⟩
theorem Grow.on {w' : World} (h : Grow B W w p c l) (k : Below w.heap.size w w') (hB : B ≤ w.heap.size) : Grow B W w' p c l := by
  refine ⟨⟨h.own.1, ?_⟩, h.below.trans (k.mono hB)⟩
  rcases h.own.2 with q | ⟨g, cap, cur, hv, hb, hg, rest⟩
  · exact .inl q
  · exact .inr ⟨g, cap, cur, hv, hb, (k.block g (lt_of_block hg)).trans hg, rest⟩
theorem Grow.same {w' : World} (h : Grow B W w p c l) (k : Same w w') : Grow B W w' p c l := by
  refine ⟨⟨h.own.1, ?_⟩, h.below.trans (k.below _)⟩
  rcases h.own.2 with q | ⟨g, cap, cur, hv, hb, hg, rest⟩
  · exact .inl q
  · exact .inr ⟨g, cap, cur, hv, hb, by rw [k.heap]; exact hg, rest⟩
end
end Go.Proofs.YtlkldgopliablaaGreatDoor.Sd
