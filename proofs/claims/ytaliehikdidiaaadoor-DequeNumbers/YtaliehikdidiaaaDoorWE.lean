/- stage 22 (deque): the small makers; a dial; the row of pieces -/
import Derived.Test.YtaliehikdidiaaaDoorWD
namespace Go.Proofs.YtaliehikdidiaaaDoor.Dq
open Go.ChangeShapes Go.WideShapes Go.ChangeAt Go.RowKit Num Go.Maps As
open Go.ChangeMaps Go.MapKept
attribute [local go_sem] run_store_float frombits_run bits_run

theorem join_acc {W u : World} {L : List (Value × List O)} {vs : Array Value} {k : Nat} (h : Acc W u L) (hv : (L.reverse.map (·.1)).toArray = vs) (hk : L.length = k) (hk2 : k ≤ 4096) : Calls Tryd.prog 16 #[.slice (some ⟨u.heap.size, 0, none⟩) k k] (u.alloc (.cells vs 33)) fun e w' => Gv W (catL L.reverse) e w' := by
  refine (join_any (h.parts hv) (by rw [List.length_reverse]; exact hk) hk2).mono ?_
  rintro e w' ⟨fn, cp, rfl, hR⟩
  exact ⟨fn, cp, rfl, hR.out.1, h.bl.trans (((bl1 u _).trans (hR.out.2.mono (by simp))).mono h.bl.size)⟩
theorem Acc.sub {W u : World} {L L' : List (Value × List O)} (h : Acc W u L) (k : ∀ t ∈ L', t ∈ L) : Acc W u L' := ⟨h.bl, fun t ht => h.it t (k t ht)⟩

set_option maxRecDepth 100000 in
theorem c_one (n : Int) (w : World) : Calls Tryd.prog 29 #[.int .i64 n] w fun e w' => Gv w [⟨0, 9, n⟩] e w' := by
  go_enter Tryd.func29, Tryd.ntmps29
  go_wp2_with (go_at_call 21; refine (c_do _ _ _).mono ?_; rintro e u ⟨fn, cp, rfl, h⟩)
  go_ret
  exact ⟨fn, cp, rfl, h.out⟩

set_option maxRecDepth 100000 in
theorem c_two (n : Int) (w : World) : Calls Tryd.prog 19 #[.int .i64 n] w fun e w' => Gv w [⟨0, 10, n⟩] e w' := by
  go_enter Tryd.func19, Tryd.ntmps19
  go_wp2_with (go_at_call 21; refine (c_do _ _ _).mono ?_; rintro e u ⟨fn, cp, rfl, h⟩)
  go_ret
  exact ⟨fn, cp, rfl, h.out⟩

set_option maxRecDepth 100000 in
theorem c_get (n : Int) (w : World) : Calls Tryd.prog 17 #[.int .i64 n] w fun e w' => Gv w [⟨0, 7, n⟩] e w' := by
  go_enter Tryd.func17, Tryd.ntmps17
  go_wp2_with (go_at_call 21; refine (c_do _ _ _).mono ?_; rintro e u ⟨fn, cp, rfl, h⟩)
  go_ret
  exact ⟨fn, cp, rfl, h.out⟩

set_option maxRecDepth 100000 in
theorem c_set (n : Int) (w : World) : Calls Tryd.prog 30 #[.int .i64 n] w fun e w' => Gv w [⟨0, 8, n⟩] e w' := by
  go_enter Tryd.func30, Tryd.ntmps30
  go_wp2_with (go_at_call 21; refine (c_do _ _ _).mono ?_; rintro e u ⟨fn, cp, rfl, h⟩)
  go_ret
  exact ⟨fn, cp, rfl, h.out⟩

set_option maxRecDepth 100000 in
theorem c_read (w : World) : Calls Tryd.prog 33 #[] w fun e w' => Gv w [⟨0, 16, 0⟩] e w' := by
  go_enter Tryd.func33, Tryd.ntmps33
  go_wp2_with (go_at_call 21; refine (c_do _ _ _).mono ?_; rintro e u ⟨fn, cp, rfl, h⟩)
  go_ret
  exact ⟨fn, cp, rfl, h.out⟩

set_option maxRecDepth 100000 in
theorem c_write (w : World) : Calls Tryd.prog 32 #[] w fun e w' => Gv w [⟨0, 17, 0⟩] e w' := by
  go_enter Tryd.func32, Tryd.ntmps32
  go_wp2_with (go_at_call 21; refine (c_do _ _ _).mono ?_; rintro e u ⟨fn, cp, rfl, h⟩)
  go_ret
  exact ⟨fn, cp, rfl, h.out⟩

set_option maxRecDepth 100000 in
theorem c_emit (w : World) : Calls Tryd.prog 46 #[] w fun e w' => Gv w [⟨0, 18, 0⟩] e w' := by
  go_enter Tryd.func46, Tryd.ntmps46
  go_wp2_with (go_at_call 21; refine (c_do _ _ _).mono ?_; rintro e u ⟨fn, cp, rfl, h⟩)
  go_ret
  exact ⟨fn, cp, rfl, h.out⟩

set_option maxRecDepth 100000 in
theorem c_halt (w : World) : Calls Tryd.prog 28 #[] w fun e w' => Gv w [⟨0, 20, 0⟩] e w' := by
  go_enter Tryd.func28, Tryd.ntmps28
  go_wp2_with (go_at_call 21; refine (c_do _ _ _).mono ?_; rintro e u ⟨fn, cp, rfl, h⟩)
  go_ret
  exact ⟨fn, cp, rfl, h.out⟩

def foldO (R : Int) : List O := [⟨1, 0, R⟩, ⟨0, 10, 5⟩]
set_option maxRecDepth 100000 in
theorem c_foldTo (n : Int) (w : World) : Calls Tryd.prog 14 #[.int .i64 n] w fun e w' => Gv w (foldO n) e w' := by
  have A : Hid (Acc w w []) := acc_nil (Below.refl _ _)
  go_enter Tryd.func14, Tryd.ntmps14
  go_wp2_with (first
    | (go_at_call 18; refine (c_push _ _).mono ?_; rintro e u ⟨fn, cp, rfl, h⟩; replace A := Lib.hid (A.out.more h.out); clear h)
    | (go_at_call 19; refine (c_two _ _).mono ?_; rintro e u ⟨fn, cp, rfl, h⟩; replace A := Lib.hid (A.out.more h.out); clear h)
    | (go_at_call 16; refine (join_acc A.out rfl rfl (Nat.le_of_ble_eq_true rfl)).mono ?_; rintro e u ⟨fn, cp, rfl, hZ⟩; clear A))
  go_ret
  exact ⟨fn, cp, rfl, hZ.out⟩
def manyO : List O := [⟨0, 7, 1⟩, ⟨0, 18, 0⟩, ⟨0, 20, 0⟩]
set_option maxRecDepth 100000 in
theorem c_tellMany (w : World) : Calls Tryd.prog 26 #[] w fun e w' => Gv w manyO e w' := by
  have A : Hid (Acc w w []) := acc_nil (Below.refl _ _)
  go_enter Tryd.func26, Tryd.ntmps26
  go_wp2_with (first
    | (go_at_call 17; refine (c_get _ _).mono ?_; rintro e u ⟨fn, cp, rfl, h⟩; replace A := Lib.hid (A.out.more h.out); clear h)
    | (go_at_call 46; refine (c_emit _).mono ?_; rintro e u ⟨fn, cp, rfl, h⟩; replace A := Lib.hid (A.out.more h.out); clear h)
    | (go_at_call 28; refine (c_halt _).mono ?_; rintro e u ⟨fn, cp, rfl, h⟩; replace A := Lib.hid (A.out.more h.out); clear h)
    | (go_at_call 16; refine (join_acc A.out rfl rfl (Nat.le_of_ble_eq_true rfl)).mono ?_; rintro e u ⟨fn, cp, rfl, hZ⟩; clear A))
  go_ret
  exact ⟨fn, cp, rfl, hZ.out⟩

def turnO (c size l by_ : Int) : List O := [⟨0, 7, l⟩, ⟨1, 0, by_⟩, ⟨0, 10, 1⟩, ⟨1, 0, size⟩, ⟨0, 10, 5⟩, ⟨0, 8, l⟩, ⟨0, 7, l⟩, ⟨1, 0, c⟩, ⟨0, 17, 0⟩]
theorem capt3 {w u : World} {x y z : Int} (h : Below (((w.alloc (iO x)).alloc (iO y)).alloc (iO z)).heap.size (((w.alloc (iO x)).alloc (iO y)).alloc (iO z)) u) : (u.cell? ⟨w.heap.size, 0, none⟩ = some (.int .i64 x) ∧ u.cell? ⟨w.heap.size + 1, 0, none⟩ = some (.int .i64 y) ∧ u.cell? ⟨w.heap.size + 2, 0, none⟩ = some (.int .i64 z)) ∧ w.heap.size + 2 < u.heap.size := by
  have e0 : (((w.alloc (iO x)).alloc (iO y)).alloc (iO z)).heap[w.heap.size]? = some (iO x) := (heap_alloc_old _ _ (by simp; omega)).trans ((heap_alloc_old _ _ (by simp)).trans (heap_alloc_new w _))
  have e1 : (((w.alloc (iO x)).alloc (iO y)).alloc (iO z)).heap[w.heap.size + 1]? = some (iO y) := (heap_alloc_old _ _ (by simp)).trans (by have := heap_alloc_new (w.alloc (iO x)) (iO y); rwa [World.size_alloc] at this)
  have e2 : (((w.alloc (iO x)).alloc (iO y)).alloc (iO z)).heap[w.heap.size + 2]? = some (iO z) := by have := heap_alloc_new ((w.alloc (iO x)).alloc (iO y)) (iO z); rwa [World.size_alloc, World.size_alloc] at this
  have f0 := (h.block _ (lt_of_block e0)).trans e0
  have f1 := (h.block _ (lt_of_block e1)).trans e1
  have f2 := (h.block _ (lt_of_block e2)).trans e2
  exact ⟨⟨(cell_of_row u _ 0 _ _ _ f0).trans rfl, (cell_of_row u _ 0 _ _ _ f1).trans rfl, (cell_of_row u _ 0 _ _ _ f2).trans rfl⟩, lt_of_block f2⟩
set_option maxRecDepth 100000 in
set_option maxHeartbeats 1000000 in
theorem c_turn {u : World} {gl gs gc : Nat} {c size l : Int} (by_ : Int) (hl : ∀ v, Below u.heap.size u v → (v.cell? ⟨gl, 0, none⟩ = some (.int .i64 l) ∧ v.cell? ⟨gs, 0, none⟩ = some (.int .i64 size) ∧ v.cell? ⟨gc, 0, none⟩ = some (.int .i64 c)) ∧ gl < v.heap.size ∧ gs < v.heap.size ∧ gc < v.heap.size) : Calls Tryd.prog 31 #[.int .i64 by_, .pointer (some ⟨gl, 0, none⟩), .pointer (some ⟨gs, 0, none⟩), .pointer (some ⟨gc, 0, none⟩)] u fun e w' => Gv u (turnO c size l by_) e w' := by
  have HX := Lib.hid hl
  have A : Hid (Acc u u.drew []) := acc_nil ((Same.drew _).below _)
  clear hl
  go_enter Tryd.func31, Tryd.ntmps31
  go_wp2_with fail
  refine wp_region_seq (fun v => (v.cell? ⟨gl, 0, none⟩ = some (.int .i64 l) ∧ v.cell? ⟨gs, 0, none⟩ = some (.int .i64 size) ∧ v.cell? ⟨gc, 0, none⟩ = some (.int .i64 c)) ∧ gl < v.heap.size ∧ gs < v.heap.size ∧ gc < v.heap.size) ((0, true) :: (2, true) :: (5, true) :: (7, true) :: (9, true) :: (11, true) :: (1, false) :: (3, false) :: (4, false) :: (6, false) :: (8, false) :: (10, false) :: (12, false) :: (13, false) :: (14, false) :: (15, false) :: (16, true) :: []) follows (by kernel_rfl) (fun _ _ _ _ _ h => h) (HX.out _ ((Same.drew _).below _)) ?_
  (repeat (first | (refine wpSeq_take (v := ?_) rfl (by rfl) (fun wq hSq => ?_) ?_; rotate_left; (focus ((try dsimp only at hSq); go_simp; try with_reducible rfl)); simp only [Act.put, List.setIfInBounds_toArray, List.set_cons_zero, List.set_cons_succ]) | (refine wpSeq_skip rfl (by rfl) ?_; simp only [Act.put, List.setIfInBounds_toArray, List.set_cons_zero, List.set_cons_succ])))

  (refine wpSeq_do rfl (by rfl) (fun KK hK => ?_); go_simp)
  refine (c_get _ _).mono ?_
  rintro e u1 ⟨fn, cp, rfl, h⟩
  replace A := Lib.hid (A.out.more h.out)
  clear h
  refine hK.out _ _ (HX.out _ A.out.bl) ?_
  (clear hK KK; try simp only [Act.put, List.setIfInBounds_toArray, List.set_cons_zero, List.set_cons_succ])
  (repeat (first | (refine wpSeq_take (v := ?_) rfl (by rfl) (fun wq hSq => ?_) ?_; rotate_left; (focus ((try dsimp only at hSq); go_simp; try with_reducible rfl)); simp only [Act.put, List.setIfInBounds_toArray, List.set_cons_zero, List.set_cons_succ]) | (refine wpSeq_skip rfl (by rfl) ?_; simp only [Act.put, List.setIfInBounds_toArray, List.set_cons_zero, List.set_cons_succ])))

  (refine wpSeq_do rfl (by rfl) (fun KK hK => ?_); go_simp)
  refine (c_push _ _).mono ?_
  rintro e u1 ⟨fn, cp, rfl, h⟩
  replace A := Lib.hid (A.out.more h.out)
  clear h
  refine hK.out _ _ (HX.out _ A.out.bl) ?_
  (clear hK KK; try simp only [Act.put, List.setIfInBounds_toArray, List.set_cons_zero, List.set_cons_succ])
  (repeat (first | (refine wpSeq_take (v := ?_) rfl (by rfl) (fun wq hSq => ?_) ?_; rotate_left; (focus ((try dsimp only at hSq); go_simp; try with_reducible rfl)); simp only [Act.put, List.setIfInBounds_toArray, List.set_cons_zero, List.set_cons_succ]) | (refine wpSeq_skip rfl (by rfl) ?_; simp only [Act.put, List.setIfInBounds_toArray, List.set_cons_zero, List.set_cons_succ])))

  (refine wpSeq_do rfl (by rfl) (fun KK hK => ?_); go_simp)
  refine (c_two _ _).mono ?_
  rintro e u1 ⟨fn, cp, rfl, h⟩
  replace A := Lib.hid (A.out.more h.out)
  clear h
  refine hK.out _ _ (HX.out _ A.out.bl) ?_
  (clear hK KK; try simp only [Act.put, List.setIfInBounds_toArray, List.set_cons_zero, List.set_cons_succ])
  (repeat (first | (refine wpSeq_take (v := ?_) rfl (by rfl) (fun wq hSq => ?_) ?_; rotate_left; (focus ((try dsimp only at hSq); go_simp; try with_reducible rfl)); simp only [Act.put, List.setIfInBounds_toArray, List.set_cons_zero, List.set_cons_succ]) | (refine wpSeq_skip rfl (by rfl) ?_; simp only [Act.put, List.setIfInBounds_toArray, List.set_cons_zero, List.set_cons_succ])))

  (refine wpSeq_do rfl (by rfl) (fun KK hK => ?_); go_simp)
  refine (c_foldTo _ _).mono ?_
  rintro e u1 ⟨fn, cp, rfl, h⟩
  replace A := Lib.hid (A.out.more h.out)
  clear h
  refine hK.out _ _ (HX.out _ A.out.bl) ?_
  (clear hK KK; try simp only [Act.put, List.setIfInBounds_toArray, List.set_cons_zero, List.set_cons_succ])
  (repeat (first | (refine wpSeq_take (v := ?_) rfl (by rfl) (fun wq hSq => ?_) ?_; rotate_left; (focus ((try dsimp only at hSq); go_simp; try with_reducible rfl)); simp only [Act.put, List.setIfInBounds_toArray, List.set_cons_zero, List.set_cons_succ]) | (refine wpSeq_skip rfl (by rfl) ?_; simp only [Act.put, List.setIfInBounds_toArray, List.set_cons_zero, List.set_cons_succ])))

  (refine wpSeq_do rfl (by rfl) (fun KK hK => ?_); go_simp)
  refine (c_set _ _).mono ?_
  rintro e u1 ⟨fn, cp, rfl, h⟩
  replace A := Lib.hid (A.out.more h.out)
  clear h
  refine hK.out _ _ (HX.out _ A.out.bl) ?_
  (clear hK KK; try simp only [Act.put, List.setIfInBounds_toArray, List.set_cons_zero, List.set_cons_succ])
  (repeat (first | (refine wpSeq_take (v := ?_) rfl (by rfl) (fun wq hSq => ?_) ?_; rotate_left; (focus ((try dsimp only at hSq); go_simp; try with_reducible rfl)); simp only [Act.put, List.setIfInBounds_toArray, List.set_cons_zero, List.set_cons_succ]) | (refine wpSeq_skip rfl (by rfl) ?_; simp only [Act.put, List.setIfInBounds_toArray, List.set_cons_zero, List.set_cons_succ])))

  (refine wpSeq_do rfl (by rfl) (fun KK hK => ?_); go_simp)
  refine (c_get _ _).mono ?_
  rintro e u1 ⟨fn, cp, rfl, h⟩
  replace A := Lib.hid (A.out.more h.out)
  clear h
  refine hK.out _ _ (HX.out _ A.out.bl) ?_
  (clear hK KK; try simp only [Act.put, List.setIfInBounds_toArray, List.set_cons_zero, List.set_cons_succ])
  (repeat (first | (refine wpSeq_take (v := ?_) rfl (by rfl) (fun wq hSq => ?_) ?_; rotate_left; (focus ((try dsimp only at hSq); go_simp; try with_reducible rfl)); simp only [Act.put, List.setIfInBounds_toArray, List.set_cons_zero, List.set_cons_succ]) | (refine wpSeq_skip rfl (by rfl) ?_; simp only [Act.put, List.setIfInBounds_toArray, List.set_cons_zero, List.set_cons_succ])))

  (refine wpSeq_do rfl (by rfl) (fun KK hK => ?_); go_simp)
  refine (c_push _ _).mono ?_
  rintro e u1 ⟨fn, cp, rfl, h⟩
  replace A := Lib.hid (A.out.more h.out)
  clear h
  refine hK.out _ _ (HX.out _ A.out.bl) ?_
  (clear hK KK; try simp only [Act.put, List.setIfInBounds_toArray, List.set_cons_zero, List.set_cons_succ])
  (repeat (first | (refine wpSeq_take (v := ?_) rfl (by rfl) (fun wq hSq => ?_) ?_; rotate_left; (focus ((try dsimp only at hSq); go_simp; try with_reducible rfl)); simp only [Act.put, List.setIfInBounds_toArray, List.set_cons_zero, List.set_cons_succ]) | (refine wpSeq_skip rfl (by rfl) ?_; simp only [Act.put, List.setIfInBounds_toArray, List.set_cons_zero, List.set_cons_succ])))

  (refine wpSeq_do rfl (by rfl) (fun KK hK => ?_); go_simp)
  refine (c_write _).mono ?_
  rintro e u1 ⟨fn, cp, rfl, h⟩
  replace A := Lib.hid (A.out.more h.out)
  clear h
  refine hK.out _ _ (HX.out _ A.out.bl) ?_
  (clear hK KK; try simp only [Act.put, List.setIfInBounds_toArray, List.set_cons_zero, List.set_cons_succ])
  (repeat (first | (refine wpSeq_take (v := ?_) rfl (by rfl) (fun wq hSq => ?_) ?_; rotate_left; (focus ((try dsimp only at hSq); go_simp; try with_reducible rfl)); simp only [Act.put, List.setIfInBounds_toArray, List.set_cons_zero, List.set_cons_succ]) | (refine wpSeq_skip rfl (by rfl) ?_; simp only [Act.put, List.setIfInBounds_toArray, List.set_cons_zero, List.set_cons_succ])))

  (refine wpSeq_do rfl (by rfl) (fun KK hK => ?_); go_simp)
  refine hK.out _ _ (HX.out _ (A.out.on (bl1 _ _)).bl) ?_
  (clear hK KK; try simp only [Act.put, List.setIfInBounds_toArray, List.set_cons_zero, List.set_cons_succ])
  (repeat (first | (refine wpSeq_take (v := ?_) rfl (by rfl) (fun wq hSq => ?_) ?_; rotate_left; (focus ((try dsimp only at hSq); go_simp; try with_reducible rfl)); simp only [Act.put, List.setIfInBounds_toArray, List.set_cons_zero, List.set_cons_succ]) | (refine wpSeq_skip rfl (by rfl) ?_; simp only [Act.put, List.setIfInBounds_toArray, List.set_cons_zero, List.set_cons_succ])))
  (refine wpSeq_do rfl (by rfl) (fun KK hK => ?_); go_simp)
  refine (join_acc A.out rfl rfl (Nat.le_of_ble_eq_true rfl)).mono ?_
  rintro e u9 ⟨fn, cp, rfl, hZ⟩
  refine hK.out _ _ (HX.out _ hZ.out.2) ?_
  (clear hK KK; try simp only [Act.put, List.setIfInBounds_toArray, List.set_cons_zero, List.set_cons_succ])
  (repeat (first | (refine wpSeq_take (v := ?_) rfl (by rfl) (fun wq hSq => ?_) ?_; rotate_left; (focus ((try dsimp only at hSq); go_simp; try with_reducible rfl)); simp only [Act.put, List.setIfInBounds_toArray, List.set_cons_zero, List.set_cons_succ]) | (refine wpSeq_skip rfl (by rfl) ?_; simp only [Act.put, List.setIfInBounds_toArray, List.set_cons_zero, List.set_cons_succ])))
  refine wpSeq_nil ?_
  go_wp2_with fail
  go_ret
  exact ⟨fn, cp, rfl, hZ.out⟩
end Go.Proofs.YtaliehikdidiaaaDoor.Dq
