import Derived.Test.YtlebjdohneiaaaaYQ
namespace Go.Proofs.Ytlebjdohneiaaaa
open Go.ChangeShapes Go.WideShapes Go.ChangeAt Go.RowKit Num Go.Maps

section
variable {W w : World} {bm br : Nat} {Fm Fr : List Nat} {m : Int} {l l2 : Wr}
theorem pput (o : Obj) (h : Play W w bm Fm br Fr m l l2) {C : Int} (hC : (Lit.int .i64 C).wf = true) (X : Nat) : Hid (∀ w1, Same (w.alloc o) w1 → Calls Try.prog 18 #[.pointer (some ⟨bm, 0, none⟩), .int .i64 C, .float .f64 X] w1 fun e w' => e = .returned (.tuple #[.bool (putF m l C), .int .i64 (putE m l C)]) ∧ (∃ F', Play W w' bm F' br Fr m (putL m l C X) l2) ∧ w'.heap[w.heap.size]? = (w.alloc o).heap[w.heap.size]?) := fun w1 k => (put_any ((h.alloc o).m.same k) hC X).mono fun e w' ⟨F', a1, a2, a3⟩ => by
  have ht := (k.turn _).trans a3
  exact ⟨a1, ⟨F', (h.alloc o).onM a2 ht⟩, ht.new h.m.blw⟩
theorem prput {b : Nat} (hB : b ∉ Fr) (C : Int) (X : Nat) : Hid (∀ w1 w2 F', Play W w1 bm F' br Fr m l l2 → Same w1 w2 → b < w1.heap.size → Calls Try.prog 22 #[.pointer (some ⟨br, 0, none⟩), .int .i64 C, .float .f64 X] w2 fun e w' => e = .returned (.tuple #[.bool (putF m l2 C), .int .i64 (putE m l2 C)]) ∧ (∃ F2, Play W w' bm F' br F2 m l (putL m l2 C X)) ∧ w'.heap[b]? = w1.heap[b]?) := fun w1 w2 F' h k hlt => (refPut_any (h.r.same k) C X).mono fun e w' ⟨F2, a1, a2, a3⟩ => by
  have ht := (k.turn _).trans a3
  exact ⟨a1, ⟨F2, h.onR a2 ht⟩, ht.block _ hlt hB⟩
/-- another block has turned -/
theorem Play.far {w' : World} {g : Nat} (h : Play W w bm Fm br Fr m l l2) (ht : Turn [g] [g] w w') (h1 : g ∉ Fm) (h2 : g ∉ Fr) (h3 : W.heap.size ≤ g) : Play W w' bm Fm br Fr m l l2 :=
  ⟨h.m.turn ht (fun k hk q => h1 (by simp at q; rw [← q]; exact hk)), h.r.turn ht (fun k hk q => h2 (by simp at q; rw [← q]; exact hk)), turn_chain h.below ht (fun k hk => by simp at hk; omega), h.am, h.ar, h.ap⟩
end
theorem TRow.cur {w : World} {g c : Nat} {l : Wr} (h : TRow w (some ⟨g, 0, none⟩) c l) : ∃ cur, w.heap[g]? = some (.cells cur 47 (0, 0)) ∧ cur.size = c * 2 ∧ l.length ≤ c := by
  rcases h.own.2 with ⟨q, _⟩ | ⟨g', cap, cur, hv, _, hg, hc, _, hs, _⟩
  · cases q
  · cases hv
    exact ⟨cur, hg, hs, hc⟩
/-- two cells of it are written -/
theorem cur_two {w : World} {g k : Nat} {cur : Array Value} {T : TypeId} (h : w.heap[g]? = some (.cells cur T (0, 0))) (u v : Value) : ((w.setCell ⟨g, k, none⟩ u).setCell ⟨g, k + 1, none⟩ v).heap[g]? = some (.cells ((cur.setIfInBounds k u).setIfInBounds (k + 1) v) T (0, 0)) ∧ Turn [g] [g] w ((w.setCell ⟨g, k, none⟩ u).setCell ⟨g, k + 1, none⟩ v) :=
  ⟨heap_setCell_same _ _ _ _ _ _ (heap_setCell_same _ _ _ _ _ _ h), ⟨rfl, rfl, rfl, by simp, fun i hi hn => by simp at hn; rw [heap_setCell_other _ _ _ _ hn, heap_setCell_other _ _ _ _ hn], fun k hk => .inl hk⟩⟩
theorem cur_owns {w : World} {g n : Nat} {cur : Array Value} {T : TypeId} (h : w.heap[g]? = some (.cells cur T (0, 0))) (hs : cur.size = n * 2) (hn : n ≤ 32) : w.ownsRow 0 T 2 (.slice (some ⟨g, 0, none⟩) n n) n cur.toList :=
  ⟨by simpa using hs, .inr ⟨g, n, cur, rfl, Nat.zero_le _, h, Nat.le_refl _, by unfold maxLen; omega, hs, List.take_of_length_le (by rw [Array.length_toList, hs]; exact Nat.le_refl _)⟩⟩
theorem four_cells (a b : Int) (x y : Nat) : ∀ u ∈ [Value.int .i64 a, .float .f64 x, .int .i64 b, .float .f64 y], u.oneCell' = true := fun u hu => by
  simp at hu
  rcases hu with rfl | rfl | rfl | rfl <;> rfl
end Go.Proofs.Ytlebjdohneiaaaa
