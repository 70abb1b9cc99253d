/- stage 22 (deque): the row's own makers; the seven programs -/
import Derived.Test.YtaliehikdidiaaaDoorWJ
namespace Go.Proofs.YtaliehikdidiaaaDoor.Dq
open Go.ChangeShapes Go.WideShapes Go.ChangeAt Go.RowKit Num Go.Maps As
open Go.ChangeMaps Go.MapKept
attribute [local go_sem] run_store_float frombits_run bits_run

abbrev rwB (f : Nat → Nat × Array Value) : Obj := .cells (rwA f) 37
/-- a row's box, read -/
abbrev Sr (n : Nat) (f : Nat → Nat × Array Value) (u : World) : Prop := (u.cell? ⟨n, 0, none⟩ = some (fv (f 0).1 (f 0).2) ∧ u.cell? ⟨n, 1, none⟩ = some (fv (f 1).1 (f 1).2) ∧ u.cell? ⟨n, 2, none⟩ = some (fv (f 2).1 (f 2).2) ∧ u.cell? ⟨n, 3, none⟩ = some (fv (f 3).1 (f 3).2) ∧ u.cell? ⟨n, 4, none⟩ = some (fv (f 4).1 (f 4).2) ∧ u.cell? ⟨n, 5, none⟩ = some (fv (f 5).1 (f 5).2) ∧ u.cell? ⟨n, 6, none⟩ = some (fv (f 6).1 (f 6).2) ∧ u.cell? ⟨n, 7, none⟩ = some (fv (f 7).1 (f 7).2) ∧ u.cell? ⟨n, 8, none⟩ = some (fv (f 8).1 (f 8).2)) ∧ n < u.heap.size
theorem sr_of {u : World} {n : Nat} {f : Nat → Nat × Array Value} (h : u.heap[n]? = some (rwB f)) : Sr n f u :=
  ⟨⟨(cell_of_row _ _ 0 _ _ _ h).trans rfl, (cell_of_row _ _ 1 _ _ _ h).trans rfl, (cell_of_row _ _ 2 _ _ _ h).trans rfl, (cell_of_row _ _ 3 _ _ _ h).trans rfl, (cell_of_row _ _ 4 _ _ _ h).trans rfl, (cell_of_row _ _ 5 _ _ _ h).trans rfl, (cell_of_row _ _ 6 _ _ _ h).trans rfl, (cell_of_row _ _ 7 _ _ _ h).trans rfl, (cell_of_row _ _ 8 _ _ _ h).trans rfl⟩, lt_of_block h⟩
theorem rw_acc {W u : World} {f : Nat → Nat × Array Value} {B R : Int} (h : RwAt u f B R) (k : Below W.heap.size W u) : Acc W u [(fv (f 0).1 (f 0).2, loadO B 0), (fv (f 1).1 (f 1).2, turnO B R 0 1), (fv (f 2).1 (f 2).2, turnO B R 0 (R - 1)), (fv (f 3).1 (f 3).2, loadO (B + 1) 1), (fv (f 4).1 (f 4).2, turnO (B + 1) (R + 1) 1 1), (fv (f 5).1 (f 5).2, turnO (B + 1) (R + 1) 1 R), (fv (f 6).1 (f 6).2, needO R), (fv (f 7).1 (f 7).2, foldO R), (fv (f 8).1 (f 8).2, cellO B R)] := ⟨k, fun t ht => by
  simp only [List.mem_cons, List.not_mem_nil, or_false] at ht
  rcases ht with rfl | rfl | rfl | rfl | rfl | rfl | rfl | rfl | rfl
  · exact h.at_ 0 (by decide)
  · exact h.at_ 1 (by decide)
  · exact h.at_ 2 (by decide)
  · exact h.at_ 3 (by decide)
  · exact h.at_ 4 (by decide)
  · exact h.at_ 5 (by decide)
  · exact h.at_ 6 (by decide)
  · exact h.at_ 7 (by decide)
  · exact h.at_ 8 (by decide)⟩
theorem join_at {W u : World} {s : Nat} {L : List (Value × List O)} {vs : Array Value} {k : Nat} (h : Acc W u L) (hs : u.heap.size = s) (hv : (L.reverse.map (·.1)).toArray = vs) (hk : L.length = k) (hk2 : k ≤ 4096) : Calls Tryd.prog 16 #[.slice (some ⟨s, 0, none⟩) k k] (u.alloc (.cells vs 33)) fun e w' => Gv W (catL L.reverse) e w' := by
  subst hs
  exact join_acc h hv hk hk2
section
variable {w : World} {f : Nat → Nat × Array Value} {B R : Int}
set_option maxRecDepth 100000 in
set_option maxHeartbeats 1000000 in
theorem c_load (h : RwAt w f B R) : Calls Tryd.prog 24 #[.agg (rwA f)] w fun e w' => Gv w (ldO B) e w' := by
  have HX : Hid (∀ u, Below (w.alloc (rwB f)).heap.size (w.alloc (rwB f)) u → Sr w.heap.size f u) := fun u k => sr_of ((k.block _ (by simp)).trans (heap_alloc_new w (rwB f)))
  have A : Hid (Acc (w.alloc (rwB f)) (w.alloc (rwB f)) _) := rw_acc (h.on (bl1 _ _)) (Below.refl _ _)
  obtain ⟨⟨y0, y1, y2, y3, y4, y5, y6, y7, y8⟩, y9⟩ := HX.out _ (Below.refl _ _)
  clear h
  go_enter Tryd.func24, Tryd.ntmps24
  go_wp2_with (go_at_call 16; refine (join_at (L := [(fv (f 0).1 (f 0).2, loadO B 0), (fv (f 3).1 (f 3).2, loadO (B + 1) 1)]) (A.out.sub (by simp)) (by simp) rfl rfl (Nat.le_of_ble_eq_true rfl)).mono ?_; rintro e u ⟨fn, cp, rfl, hZ⟩; clear A)
  go_ret
  exact ⟨fn, cp, rfl, hZ.out.1, (bl1 w (rwB f)).trans (hZ.out.2.mono (by simp))⟩
set_option maxRecDepth 100000 in
set_option maxHeartbeats 1000000 in
theorem c_put (h : RwAt w f B R) {fa : Nat} {ka : Array Value} {la : List O} (ha : Does w (fv fa ka) la) : Calls Tryd.prog 25 #[.agg (rwA f), fv fa ka] w fun e w' => Gv w (putO B R la) e w' := by
  have HX : Hid (∀ u, Below (w.alloc (rwB f)).heap.size (w.alloc (rwB f)) u → Sr w.heap.size f u) := fun u k => sr_of ((k.block _ (by simp)).trans (heap_alloc_new w (rwB f)))
  have A : Hid (Acc (w.alloc (rwB f)) (w.alloc (rwB f)).drew _) := rw_acc ((h.on (bl1 _ _)).on ((Same.drew _).below _)) ((Same.drew _).below _)
  replace A := Lib.hid (A.out.also ((ha.on (bl1 _ _)).on ((Same.drew _).below _)))
  clear h ha
  go_enter Tryd.func25, Tryd.ntmps25
  go_wp2_with fail
  refine wp_region_seq (Sr w.heap.size f) ((1, true) :: (2, true) :: (3, true) :: (0, false) :: (4, false) :: (5, false) :: (6, false) :: (7, true) :: []) follows (by kernel_rfl) (fun _ _ _ _ _ h => h) (HX.out _ ((Same.drew _).below _)) ?_
  (repeat (first | (refine wpSeq_take (v := ?_) rfl (by rfl) (fun wq hSq => ?_) ?_; rotate_left; (focus ((try dsimp only at hSq); go_simp; try with_reducible rfl)); simp only [Act.put, List.setIfInBounds_toArray, List.set_cons_zero, List.set_cons_succ]) | (refine wpSeq_skip rfl (by rfl) ?_; simp only [Act.put, List.setIfInBounds_toArray, List.set_cons_zero, List.set_cons_succ])))
  (refine wpSeq_do rfl (by rfl) (fun KK hK => ?_); go_simp)
  refine (c_do _ _ _).mono ?_
  rintro e u1 ⟨f1, k1, rfl, h⟩
  replace A := Lib.hid (A.out.more h.out)
  clear h
  refine hK.out _ _ (HX.out _ A.out.bl) ?_
  (clear hK KK; try simp only [Act.put, List.setIfInBounds_toArray, List.set_cons_zero, List.set_cons_succ])
  (repeat (first | (refine wpSeq_take (v := ?_) rfl (by rfl) (fun wq hSq => ?_) ?_; rotate_left; (focus ((try dsimp only at hSq); go_simp; try with_reducible rfl)); simp only [Act.put, List.setIfInBounds_toArray, List.set_cons_zero, List.set_cons_succ]) | (refine wpSeq_skip rfl (by rfl) ?_; simp only [Act.put, List.setIfInBounds_toArray, List.set_cons_zero, List.set_cons_succ])))
  (refine wpSeq_do rfl (by rfl) (fun KK hK => ?_); go_simp)
  refine (c_write _).mono ?_
  rintro e u2 ⟨f2, k2, rfl, h⟩
  replace A := Lib.hid (A.out.more h.out)
  clear h
  refine hK.out _ _ (HX.out _ A.out.bl) ?_
  (clear hK KK; try simp only [Act.put, List.setIfInBounds_toArray, List.set_cons_zero, List.set_cons_succ])
  (repeat (first | (refine wpSeq_take (v := ?_) rfl (by rfl) (fun wq hSq => ?_) ?_; rotate_left; (focus ((try dsimp only at hSq); go_simp; try with_reducible rfl)); simp only [Act.put, List.setIfInBounds_toArray, List.set_cons_zero, List.set_cons_succ]) | (refine wpSeq_skip rfl (by rfl) ?_; simp only [Act.put, List.setIfInBounds_toArray, List.set_cons_zero, List.set_cons_succ])))
  (refine wpSeq_do rfl (by rfl) (fun KK hK => ?_); go_simp)
  refine hK.out _ _ (HX.out _ (A.out.on (bl1 _ _)).bl) ?_
  (clear hK KK; try simp only [Act.put, List.setIfInBounds_toArray, List.set_cons_zero, List.set_cons_succ])
  (repeat (first | (refine wpSeq_take (v := ?_) rfl (by rfl) (fun wq hSq => ?_) ?_; rotate_left; (focus ((try dsimp only at hSq); go_simp; try with_reducible rfl)); simp only [Act.put, List.setIfInBounds_toArray, List.set_cons_zero, List.set_cons_succ]) | (refine wpSeq_skip rfl (by rfl) ?_; simp only [Act.put, List.setIfInBounds_toArray, List.set_cons_zero, List.set_cons_succ])))
  (refine wpSeq_do rfl (by rfl) (fun KK hK => ?_); go_simp)
  refine (join_acc (L := [(fv f2 k2, [⟨0, 17, 0⟩]), (fv (f 8).1 (f 8).2, cellO B R), (fv fa ka, la), (fv f1 k1, [⟨0, 6, 0⟩])]) (A.out.sub (by simp)) rfl rfl (Nat.le_of_ble_eq_true rfl)).mono ?_
  rintro e u9 ⟨fn, cp, rfl, hZ⟩
  refine hK.out _ _ (HX.out _ hZ.out.2) ?_
  (clear hK KK; try simp only [Act.put, List.setIfInBounds_toArray, List.set_cons_zero, List.set_cons_succ])
  (repeat (first | (refine wpSeq_take (v := ?_) rfl (by rfl) (fun wq hSq => ?_) ?_; rotate_left; (focus ((try dsimp only at hSq); go_simp; try with_reducible rfl)); simp only [Act.put, List.setIfInBounds_toArray, List.set_cons_zero, List.set_cons_succ]) | (refine wpSeq_skip rfl (by rfl) ?_; simp only [Act.put, List.setIfInBounds_toArray, List.set_cons_zero, List.set_cons_succ])))
  refine wpSeq_nil ?_
  go_wp2_with fail
  go_ret
  exact ⟨fn, cp, rfl, hZ.out.1, (bl1 w (rwB f)).trans (hZ.out.2.mono (by simp))⟩
set_option maxRecDepth 100000 in
set_option maxHeartbeats 1000000 in
theorem c_tell (h : RwAt w f B R) {fa : Nat} {ka : Array Value} {la : List O} (ha : Does w (fv fa ka) la) : Calls Tryd.prog 27 #[.agg (rwA f), fv fa ka] w fun e w' => Gv w (telO B R la) e w' := by
  have HX : Hid (∀ u, Below (w.alloc (rwB f)).heap.size (w.alloc (rwB f)) u → Sr w.heap.size f u) := fun u k => sr_of ((k.block _ (by simp)).trans (heap_alloc_new w (rwB f)))
  have A : Hid (Acc (w.alloc (rwB f)) (w.alloc (rwB f)).drew _) := rw_acc ((h.on (bl1 _ _)).on ((Same.drew _).below _)) ((Same.drew _).below _)
  replace A := Lib.hid (A.out.also ((ha.on (bl1 _ _)).on ((Same.drew _).below _)))
  clear h ha
  go_enter Tryd.func27, Tryd.ntmps27
  go_wp2_with fail
  refine wp_region_seq (Sr w.heap.size f) ((0, true) :: (1, true) :: (2, true) :: (3, false) :: (4, false) :: (5, false) :: (6, false) :: (7, true) :: []) follows (by kernel_rfl) (fun _ _ _ _ _ h => h) (HX.out _ ((Same.drew _).below _)) ?_
  (repeat (first | (refine wpSeq_take (v := ?_) rfl (by rfl) (fun wq hSq => ?_) ?_; rotate_left; (focus ((try dsimp only at hSq); go_simp; try with_reducible rfl)); simp only [Act.put, List.setIfInBounds_toArray, List.set_cons_zero, List.set_cons_succ]) | (refine wpSeq_skip rfl (by rfl) ?_; simp only [Act.put, List.setIfInBounds_toArray, List.set_cons_zero, List.set_cons_succ])))
  (refine wpSeq_do rfl (by rfl) (fun KK hK => ?_); go_simp)
  refine (c_read _).mono ?_
  rintro e u1 ⟨f1, k1, rfl, h⟩
  replace A := Lib.hid (A.out.more h.out)
  clear h
  refine hK.out _ _ (HX.out _ A.out.bl) ?_
  (clear hK KK; try simp only [Act.put, List.setIfInBounds_toArray, List.set_cons_zero, List.set_cons_succ])
  (repeat (first | (refine wpSeq_take (v := ?_) rfl (by rfl) (fun wq hSq => ?_) ?_; rotate_left; (focus ((try dsimp only at hSq); go_simp; try with_reducible rfl)); simp only [Act.put, List.setIfInBounds_toArray, List.set_cons_zero, List.set_cons_succ]) | (refine wpSeq_skip rfl (by rfl) ?_; simp only [Act.put, List.setIfInBounds_toArray, List.set_cons_zero, List.set_cons_succ])))
  (refine wpSeq_do rfl (by rfl) (fun KK hK => ?_); go_simp)
  refine (c_emit _).mono ?_
  rintro e u2 ⟨f2, k2, rfl, h⟩
  replace A := Lib.hid (A.out.more h.out)
  clear h
  refine hK.out _ _ (HX.out _ A.out.bl) ?_
  (clear hK KK; try simp only [Act.put, List.setIfInBounds_toArray, List.set_cons_zero, List.set_cons_succ])
  (repeat (first | (refine wpSeq_take (v := ?_) rfl (by rfl) (fun wq hSq => ?_) ?_; rotate_left; (focus ((try dsimp only at hSq); go_simp; try with_reducible rfl)); simp only [Act.put, List.setIfInBounds_toArray, List.set_cons_zero, List.set_cons_succ]) | (refine wpSeq_skip rfl (by rfl) ?_; simp only [Act.put, List.setIfInBounds_toArray, List.set_cons_zero, List.set_cons_succ])))
  (refine wpSeq_do rfl (by rfl) (fun KK hK => ?_); go_simp)
  refine hK.out _ _ (HX.out _ (A.out.on (bl1 _ _)).bl) ?_
  (clear hK KK; try simp only [Act.put, List.setIfInBounds_toArray, List.set_cons_zero, List.set_cons_succ])
  (repeat (first | (refine wpSeq_take (v := ?_) rfl (by rfl) (fun wq hSq => ?_) ?_; rotate_left; (focus ((try dsimp only at hSq); go_simp; try with_reducible rfl)); simp only [Act.put, List.setIfInBounds_toArray, List.set_cons_zero, List.set_cons_succ]) | (refine wpSeq_skip rfl (by rfl) ?_; simp only [Act.put, List.setIfInBounds_toArray, List.set_cons_zero, List.set_cons_succ])))
  (refine wpSeq_do rfl (by rfl) (fun KK hK => ?_); go_simp)
  refine (join_acc (L := [(fv f2 k2, [⟨0, 18, 0⟩]), (fv f1 k1, [⟨0, 16, 0⟩]), (fv (f 8).1 (f 8).2, cellO B R), (fv fa ka, la)]) (A.out.sub (by simp)) rfl rfl (Nat.le_of_ble_eq_true rfl)).mono ?_
  rintro e u9 ⟨fn, cp, rfl, hZ⟩
  refine hK.out _ _ (HX.out _ hZ.out.2) ?_
  (clear hK KK; try simp only [Act.put, List.setIfInBounds_toArray, List.set_cons_zero, List.set_cons_succ])
  (repeat (first | (refine wpSeq_take (v := ?_) rfl (by rfl) (fun wq hSq => ?_) ?_; rotate_left; (focus ((try dsimp only at hSq); go_simp; try with_reducible rfl)); simp only [Act.put, List.setIfInBounds_toArray, List.set_cons_zero, List.set_cons_succ]) | (refine wpSeq_skip rfl (by rfl) ?_; simp only [Act.put, List.setIfInBounds_toArray, List.set_cons_zero, List.set_cons_succ])))
  refine wpSeq_nil ?_
  go_wp2_with fail
  go_ret
  exact ⟨fn, cp, rfl, hZ.out.1, (bl1 w (rwB f)).trans (hZ.out.2.mono (by simp))⟩
end
end Go.Proofs.YtaliehikdidiaaaDoor.Dq
