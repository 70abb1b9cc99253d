import Derived.Test.YtpboiggakehpoaaGreatDoorJF1
import Derived.Test.YtpboiggakehpoaaGreatDoorSq
import Derived.Test.YtpboiggakehpoaaGreatDoorQX
import Derived.Test.YtpboiggakehpoaaGreatDoorNum2
import Derived.Test.YtpboiggakehpoaaGreatDoorK3
namespace Go.Proofs.YtpboiggakehpoaaGreatDoor.Tr
open Go.ChangeShapes Go.WideShapes Go.ChangeAt Go.RowKit Num Go.Maps As
open Go.ChangeMaps Go.MapKept
attribute [local go_sem] run_store_float frombits_run bits_run
section
variable {w : World} {B R : Int}
def oFold (_B R : Int)  : List O := ([oPush (R + 1), oTwo (5)]).flatten
theorem oFold_len (B R : Int)  : (oFold B R).length = 2 := rfl
set_option maxHeartbeats 1000000 in
set_option maxRecDepth 100000 in
theorem g_fold (hB : 0 ≤ B ∧ B ≤ 256) (hR : 0 ≤ R ∧ R ≤ 16)  (w : World) : Calls Tryz.prog 128 #[.agg #[.int .i64 B, .int .i64 R]] w fun e w' => Gv w (oFold B R) e w' := by
  have A : Hid (Acc (w.alloc (.cells #[.int .i64 B, .int .i64 R] 83)) (w.alloc (.cells #[.int .i64 B, .int .i64 R] 83)) []) := acc_nil (Below.refl _ _)
  go_enter Tryz.func128, Tryz.ntmps128
  go_wp2_with (first
    | (go_at_call 124; refine (join_acc A.out rfl rfl (Nat.le_of_ble_eq_true rfl) (Nat.le_of_ble_eq_true rfl) (Nat.le_of_ble_eq_true rfl)).mono ?_; rintro e u ⟨g, n, c, rfl, hZ⟩; clear A)
    | (go_at_call 91; refine (g_wide hB hR _).mono ?_; rintro e u ⟨rfl, h⟩; replace A := Lib.hid (A.out.on h); clear h)
    | (go_at_call 77; refine (g_push _ _).mono ?_; rintro e u ⟨g, n, c, rfl, h⟩; replace A := Lib.hid (A.out.more h.out); clear h)
    | (go_at_call 78; refine (g_two _ _).mono ?_; rintro e u ⟨g, n, c, rfl, h⟩; replace A := Lib.hid (A.out.more h.out); clear h))
  go_ret
  exact ⟨g, n, c, rfl, hZ.out.1, (bl1 w _).trans (hZ.out.2.mono (by simp))⟩
def oFolded (B R : Int) (c : Int) : List O := ([oPush (c), oRead, oFold B R]).flatten
theorem oFolded_len (B R : Int) (c : Int) : (oFolded B R c).length = 4 := rfl
set_option maxHeartbeats 1000000 in
set_option maxRecDepth 100000 in
theorem g_folded (hB : 0 ≤ B ∧ B ≤ 256) (hR : 0 ≤ R ∧ R ≤ 16) (c : Int) (w : World) : Calls Tryz.prog 75 #[.agg #[.int .i64 B, .int .i64 R], .int .i64 c] w fun e w' => Gv w (oFolded B R c) e w' := by
  have A : Hid (Acc (w.alloc (.cells #[.int .i64 B, .int .i64 R] 83)) ((w.alloc (.cells #[.int .i64 B, .int .i64 R] 83)).drew) []) := acc_nil ((Same.drew _).below _)
  have HB : Hid (∀ u, Below (w.alloc (.cells #[.int .i64 B, .int .i64 R] 83)).heap.size (w.alloc (.cells #[.int .i64 B, .int .i64 R] 83)) u → u.cell? ⟨w.heap.size, 0, none⟩ = some (.int .i64 B) ∧ u.cell? ⟨w.heap.size, 1, none⟩ = some (.int .i64 R)) := fun u k => by
    have := cells2_of ((k.block _ (by simp)).trans (heap_alloc_new w (.cells #[.int .i64 B, .int .i64 R] 83)))
    exact ⟨this.1, this.2.1⟩
  go_enter Tryz.func75, Tryz.ntmps75
  go_wp2_with fail
  refine wp_region_seq (fun u => u.cell? ⟨w.heap.size, 0, none⟩ = some (.int .i64 B) ∧ u.cell? ⟨w.heap.size, 1, none⟩ = some (.int .i64 R)) ((0, true) :: (3, true) :: (1, false) :: (2, false) :: (4, false) :: (5, false) :: (6, false) :: (7, true) :: []) follows (by kernel_rfl) (fun _ _ _ _ _ h => h) (HB.out _ ((Same.drew _).below _)) ?_
  (repeat ((first | (refine wpSeq_take (v := ?_) rfl (by rfl) (fun wq hSq => ?_) ?_; rotate_left; (focus ((try dsimp only at hSq); go_simp; try with_reducible rfl))) | refine wpSeq_skip rfl (by rfl) ?_); simp only [Act.put, List.setIfInBounds_toArray, List.set_cons_zero, List.set_cons_succ]))
  (refine wpSeq_do rfl (by rfl) (fun KK hK => ?_); go_simp)
  refine (g_push _ _).mono ?_; rintro e u ⟨g, n, c, rfl, h⟩; replace A := Lib.hid (A.out.more h.out); clear h
  refine hK.out _ _ (HB.out _ A.out.bl) ?_
  (clear hK KK; try simp only [Act.put, List.setIfInBounds_toArray, List.set_cons_zero, List.set_cons_succ])
  (repeat ((first | (refine wpSeq_take (v := ?_) rfl (by rfl) (fun wq hSq => ?_) ?_; rotate_left; (focus ((try dsimp only at hSq); go_simp; try with_reducible rfl))) | refine wpSeq_skip rfl (by rfl) ?_); simp only [Act.put, List.setIfInBounds_toArray, List.set_cons_zero, List.set_cons_succ]))
  (refine wpSeq_do rfl (by rfl) (fun KK hK => ?_); go_simp)
  refine (g_read _).mono ?_; rintro e u ⟨g, n, c, rfl, h⟩; replace A := Lib.hid (A.out.more h.out); clear h
  refine hK.out _ _ (HB.out _ A.out.bl) ?_
  (clear hK KK; try simp only [Act.put, List.setIfInBounds_toArray, List.set_cons_zero, List.set_cons_succ])
  (repeat ((first | (refine wpSeq_take (v := ?_) rfl (by rfl) (fun wq hSq => ?_) ?_; rotate_left; (focus ((try dsimp only at hSq); go_simp; try with_reducible rfl))) | refine wpSeq_skip rfl (by rfl) ?_); simp only [Act.put, List.setIfInBounds_toArray, List.set_cons_zero, List.set_cons_succ]))
  (refine wpSeq_do rfl (by rfl) (fun KK hK => ?_); go_simp)
  refine (g_fold hB hR _).mono ?_; rintro e u ⟨g, n, c, rfl, h⟩; replace A := Lib.hid (A.out.more h.out); clear h
  refine hK.out _ _ (HB.out _ A.out.bl) ?_
  (clear hK KK; try simp only [Act.put, List.setIfInBounds_toArray, List.set_cons_zero, List.set_cons_succ])
  (repeat ((first | (refine wpSeq_take (v := ?_) rfl (by rfl) (fun wq hSq => ?_) ?_; rotate_left; (focus ((try dsimp only at hSq); go_simp; try with_reducible rfl))) | refine wpSeq_skip rfl (by rfl) ?_); simp only [Act.put, List.setIfInBounds_toArray, List.set_cons_zero, List.set_cons_succ]))
  (refine wpSeq_do rfl (by rfl) (fun KK hK => ?_); go_simp)
  refine hK.out _ _ (HB.out _ (A.out.on (bl1 _ _)).bl) ?_
  (clear hK KK; try simp only [Act.put, List.setIfInBounds_toArray, List.set_cons_zero, List.set_cons_succ])
  (repeat ((first | (refine wpSeq_take (v := ?_) rfl (by rfl) (fun wq hSq => ?_) ?_; rotate_left; (focus ((try dsimp only at hSq); go_simp; try with_reducible rfl))) | refine wpSeq_skip rfl (by rfl) ?_); simp only [Act.put, List.setIfInBounds_toArray, List.set_cons_zero, List.set_cons_succ]))
  (refine wpSeq_do rfl (by rfl) (fun KK hK => ?_); go_simp)
  refine (join_acc A.out rfl rfl (Nat.le_of_ble_eq_true rfl) (Nat.le_of_ble_eq_true rfl) (Nat.le_of_ble_eq_true rfl)).mono ?_; rintro e u ⟨g, n, c, rfl, hZ⟩; clear A
  refine hK.out _ _ (HB.out _ hZ.out.2) ?_
  (clear hK KK; try simp only [Act.put, List.setIfInBounds_toArray, List.set_cons_zero, List.set_cons_succ])
  (repeat ((first | (refine wpSeq_take (v := ?_) rfl (by rfl) (fun wq hSq => ?_) ?_; rotate_left; (focus ((try dsimp only at hSq); go_simp; try with_reducible rfl))) | refine wpSeq_skip rfl (by rfl) ?_); simp only [Act.put, List.setIfInBounds_toArray, List.set_cons_zero, List.set_cons_succ]))
  refine wpSeq_nil ?_
  go_wp2_with fail
  go_ret
  exact ⟨g, n, c, rfl, hZ.out.1, (bl1 w _).trans (hZ.out.2.mono (by simp))⟩
def oGoTo (B _R : Int)  : List O := ([oGet (0), oPush (3), oTwo (3), oPush (B), oTwo (1), oSet (1)]).flatten
theorem oGoTo_len (B R : Int)  : (oGoTo B R).length = 6 := rfl
set_option maxHeartbeats 1000000 in
set_option maxRecDepth 100000 in
theorem g_goTo (_hB : 0 ≤ B ∧ B ≤ 256) (_hR : 0 ≤ R ∧ R ≤ 16)  (w : World) : Calls Tryz.prog 84 #[.agg #[.int .i64 B, .int .i64 R]] w fun e w' => Gv w (oGoTo B R) e w' := by
  have A : Hid (Acc (w.alloc (.cells #[.int .i64 B, .int .i64 R] 83)) ((w.alloc (.cells #[.int .i64 B, .int .i64 R] 83)).drew) []) := acc_nil ((Same.drew _).below _)
  have HB : Hid (∀ u, Below (w.alloc (.cells #[.int .i64 B, .int .i64 R] 83)).heap.size (w.alloc (.cells #[.int .i64 B, .int .i64 R] 83)) u → u.cell? ⟨w.heap.size, 0, none⟩ = some (.int .i64 B) ∧ u.cell? ⟨w.heap.size, 1, none⟩ = some (.int .i64 R)) := fun u k => by
    have := cells2_of ((k.block _ (by simp)).trans (heap_alloc_new w (.cells #[.int .i64 B, .int .i64 R] 83)))
    exact ⟨this.1, this.2.1⟩
  go_enter Tryz.func84, Tryz.ntmps84
  go_wp2_with fail
  refine wp_region_seq (fun u => u.cell? ⟨w.heap.size, 0, none⟩ = some (.int .i64 B) ∧ u.cell? ⟨w.heap.size, 1, none⟩ = some (.int .i64 R)) ((3, true) :: (4, true) :: (0, false) :: (1, false) :: (2, false) :: (5, false) :: (6, false) :: (7, false) :: (8, false) :: (9, false) :: (10, true) :: []) follows (by kernel_rfl) (fun _ _ _ _ _ h => h) (HB.out _ ((Same.drew _).below _)) ?_
  (repeat ((first | (refine wpSeq_take (v := ?_) rfl (by rfl) (fun wq hSq => ?_) ?_; rotate_left; (focus ((try dsimp only at hSq); go_simp; try with_reducible rfl))) | refine wpSeq_skip rfl (by rfl) ?_); simp only [Act.put, List.setIfInBounds_toArray, List.set_cons_zero, List.set_cons_succ]))
  (refine wpSeq_do rfl (by rfl) (fun KK hK => ?_); go_simp)
  refine (g_get _ _).mono ?_; rintro e u ⟨g, n, c, rfl, h⟩; replace A := Lib.hid (A.out.more h.out); clear h
  refine hK.out _ _ (HB.out _ A.out.bl) ?_
  (clear hK KK; try simp only [Act.put, List.setIfInBounds_toArray, List.set_cons_zero, List.set_cons_succ])
  (repeat ((first | (refine wpSeq_take (v := ?_) rfl (by rfl) (fun wq hSq => ?_) ?_; rotate_left; (focus ((try dsimp only at hSq); go_simp; try with_reducible rfl))) | refine wpSeq_skip rfl (by rfl) ?_); simp only [Act.put, List.setIfInBounds_toArray, List.set_cons_zero, List.set_cons_succ]))
  (refine wpSeq_do rfl (by rfl) (fun KK hK => ?_); go_simp)
  refine (g_push _ _).mono ?_; rintro e u ⟨g, n, c, rfl, h⟩; replace A := Lib.hid (A.out.more h.out); clear h
  refine hK.out _ _ (HB.out _ A.out.bl) ?_
  (clear hK KK; try simp only [Act.put, List.setIfInBounds_toArray, List.set_cons_zero, List.set_cons_succ])
  (repeat ((first | (refine wpSeq_take (v := ?_) rfl (by rfl) (fun wq hSq => ?_) ?_; rotate_left; (focus ((try dsimp only at hSq); go_simp; try with_reducible rfl))) | refine wpSeq_skip rfl (by rfl) ?_); simp only [Act.put, List.setIfInBounds_toArray, List.set_cons_zero, List.set_cons_succ]))
  (refine wpSeq_do rfl (by rfl) (fun KK hK => ?_); go_simp)
  refine (g_two _ _).mono ?_; rintro e u ⟨g, n, c, rfl, h⟩; replace A := Lib.hid (A.out.more h.out); clear h
  refine hK.out _ _ (HB.out _ A.out.bl) ?_
  (clear hK KK; try simp only [Act.put, List.setIfInBounds_toArray, List.set_cons_zero, List.set_cons_succ])
  (repeat ((first | (refine wpSeq_take (v := ?_) rfl (by rfl) (fun wq hSq => ?_) ?_; rotate_left; (focus ((try dsimp only at hSq); go_simp; try with_reducible rfl))) | refine wpSeq_skip rfl (by rfl) ?_); simp only [Act.put, List.setIfInBounds_toArray, List.set_cons_zero, List.set_cons_succ]))
  (refine wpSeq_do rfl (by rfl) (fun KK hK => ?_); go_simp)
  refine (g_push _ _).mono ?_; rintro e u ⟨g, n, c, rfl, h⟩; replace A := Lib.hid (A.out.more h.out); clear h
  refine hK.out _ _ (HB.out _ A.out.bl) ?_
  (clear hK KK; try simp only [Act.put, List.setIfInBounds_toArray, List.set_cons_zero, List.set_cons_succ])
  (repeat ((first | (refine wpSeq_take (v := ?_) rfl (by rfl) (fun wq hSq => ?_) ?_; rotate_left; (focus ((try dsimp only at hSq); go_simp; try with_reducible rfl))) | refine wpSeq_skip rfl (by rfl) ?_); simp only [Act.put, List.setIfInBounds_toArray, List.set_cons_zero, List.set_cons_succ]))
  (refine wpSeq_do rfl (by rfl) (fun KK hK => ?_); go_simp)
  refine (g_two _ _).mono ?_; rintro e u ⟨g, n, c, rfl, h⟩; replace A := Lib.hid (A.out.more h.out); clear h
  refine hK.out _ _ (HB.out _ A.out.bl) ?_
  (clear hK KK; try simp only [Act.put, List.setIfInBounds_toArray, List.set_cons_zero, List.set_cons_succ])
  (repeat ((first | (refine wpSeq_take (v := ?_) rfl (by rfl) (fun wq hSq => ?_) ?_; rotate_left; (focus ((try dsimp only at hSq); go_simp; try with_reducible rfl))) | refine wpSeq_skip rfl (by rfl) ?_); simp only [Act.put, List.setIfInBounds_toArray, List.set_cons_zero, List.set_cons_succ]))
  (refine wpSeq_do rfl (by rfl) (fun KK hK => ?_); go_simp)
  refine (g_set _ _).mono ?_; rintro e u ⟨g, n, c, rfl, h⟩; replace A := Lib.hid (A.out.more h.out); clear h
  refine hK.out _ _ (HB.out _ A.out.bl) ?_
  (clear hK KK; try simp only [Act.put, List.setIfInBounds_toArray, List.set_cons_zero, List.set_cons_succ])
  (repeat ((first | (refine wpSeq_take (v := ?_) rfl (by rfl) (fun wq hSq => ?_) ?_; rotate_left; (focus ((try dsimp only at hSq); go_simp; try with_reducible rfl))) | refine wpSeq_skip rfl (by rfl) ?_); simp only [Act.put, List.setIfInBounds_toArray, List.set_cons_zero, List.set_cons_succ]))
  (refine wpSeq_do rfl (by rfl) (fun KK hK => ?_); go_simp)
  refine hK.out _ _ (HB.out _ (A.out.on (bl1 _ _)).bl) ?_
  (clear hK KK; try simp only [Act.put, List.setIfInBounds_toArray, List.set_cons_zero, List.set_cons_succ])
  (repeat ((first | (refine wpSeq_take (v := ?_) rfl (by rfl) (fun wq hSq => ?_) ?_; rotate_left; (focus ((try dsimp only at hSq); go_simp; try with_reducible rfl))) | refine wpSeq_skip rfl (by rfl) ?_); simp only [Act.put, List.setIfInBounds_toArray, List.set_cons_zero, List.set_cons_succ]))
  (refine wpSeq_do rfl (by rfl) (fun KK hK => ?_); go_simp)
  refine (join_acc A.out rfl rfl (Nat.le_of_ble_eq_true rfl) (Nat.le_of_ble_eq_true rfl) (Nat.le_of_ble_eq_true rfl)).mono ?_; rintro e u ⟨g, n, c, rfl, hZ⟩; clear A
  refine hK.out _ _ (HB.out _ hZ.out.2) ?_
  (clear hK KK; try simp only [Act.put, List.setIfInBounds_toArray, List.set_cons_zero, List.set_cons_succ])
  (repeat ((first | (refine wpSeq_take (v := ?_) rfl (by rfl) (fun wq hSq => ?_) ?_; rotate_left; (focus ((try dsimp only at hSq); go_simp; try with_reducible rfl))) | refine wpSeq_skip rfl (by rfl) ?_); simp only [Act.put, List.setIfInBounds_toArray, List.set_cons_zero, List.set_cons_succ]))
  refine wpSeq_nil ?_
  go_wp2_with fail
  go_ret
  exact ⟨g, n, c, rfl, hZ.out.1, (bl1 w _).trans (hZ.out.2.mono (by simp))⟩
def oLinked (B R : Int) (a : List O) (s : List O) : List O := ([a, oRead, s, oTwo (4), oOne (3), oFold B R]).flatten
theorem oLinked_len (B R : Int) (a : List O) (s : List O) : (oLinked B R a s).length = 5 + a.length + s.length := by simp [oLinked, oOne_len, oTwo_len, oRead_len, oFold_len]; try omega
set_option maxHeartbeats 1000000 in
set_option maxRecDepth 100000 in
theorem g_linked (hB : 0 ≤ B ∧ B ≤ 256) (hR : 0 ≤ R ∧ R ≤ 16) {ga na ca : Nat} {a : List O} {gs ns cs : Nat} {s : List O} (ha : Op1 w ga na ca a) (hs : Op1 w gs ns cs s) (ma : a.length ≤ 8) (ms : s.length ≤ 8)  : Calls Tryz.prog 129 #[.agg #[.int .i64 B, .int .i64 R], .slice (some ⟨ga, 0, none⟩) na ca, .slice (some ⟨gs, 0, none⟩) ns cs] w fun e w' => Gv w (oLinked B R a s) e w' := by
  have HA : Hid (Op1 (w.alloc (.cells #[.int .i64 B, .int .i64 R] 83)) ga na ca a) := ha.on (bl1 _ _)
  have HS : Hid (Op1 (w.alloc (.cells #[.int .i64 B, .int .i64 R] 83)) gs ns cs s) := hs.on (bl1 _ _)
  have A : Hid (Acc (w.alloc (.cells #[.int .i64 B, .int .i64 R] 83)) ((w.alloc (.cells #[.int .i64 B, .int .i64 R] 83)).drew) []) := acc_nil ((Same.drew _).below _)
  have HB : Hid (∀ u, Below (w.alloc (.cells #[.int .i64 B, .int .i64 R] 83)).heap.size (w.alloc (.cells #[.int .i64 B, .int .i64 R] 83)) u → u.cell? ⟨w.heap.size, 0, none⟩ = some (.int .i64 B) ∧ u.cell? ⟨w.heap.size, 1, none⟩ = some (.int .i64 R)) := fun u k => by
    have := cells2_of ((k.block _ (by simp)).trans (heap_alloc_new w (.cells #[.int .i64 B, .int .i64 R] 83)))
    exact ⟨this.1, this.2.1⟩
  clear ha hs
  go_enter Tryz.func129, Tryz.ntmps129
  go_wp2_with fail
  refine wp_region_seq (fun u => u.cell? ⟨w.heap.size, 0, none⟩ = some (.int .i64 B) ∧ u.cell? ⟨w.heap.size, 1, none⟩ = some (.int .i64 R)) ((0, true) :: (2, true) :: (5, true) :: (1, false) :: (3, false) :: (4, false) :: (6, false) :: (7, false) :: (8, false) :: (9, true) :: []) follows (by kernel_rfl) (fun _ _ _ _ _ h => h) (HB.out _ ((Same.drew _).below _)) ?_
  replace A := Lib.hid (A.out.also (HA.out.on ((Same.drew _).below _)))
  (repeat ((first | (refine wpSeq_take (v := ?_) rfl (by rfl) (fun wq hSq => ?_) ?_; rotate_left; (focus ((try dsimp only at hSq); go_simp; try with_reducible rfl))) | refine wpSeq_skip rfl (by rfl) ?_); simp only [Act.put, List.setIfInBounds_toArray, List.set_cons_zero, List.set_cons_succ]))
  (refine wpSeq_do rfl (by rfl) (fun KK hK => ?_); go_simp)
  refine (g_read _).mono ?_; rintro e u ⟨g, n, c, rfl, h⟩; replace A := Lib.hid (A.out.more h.out); clear h
  refine hK.out _ _ (HB.out _ A.out.bl) ?_
  (clear hK KK; try simp only [Act.put, List.setIfInBounds_toArray, List.set_cons_zero, List.set_cons_succ])
  (repeat ((first | (refine wpSeq_take (v := ?_) rfl (by rfl) (fun wq hSq => ?_) ?_; rotate_left; (focus ((try dsimp only at hSq); go_simp; try with_reducible rfl))) | refine wpSeq_skip rfl (by rfl) ?_); simp only [Act.put, List.setIfInBounds_toArray, List.set_cons_zero, List.set_cons_succ]))
  replace A := Lib.hid (A.out.also (HS.out.on A.out.bl))
  (refine wpSeq_do rfl (by rfl) (fun KK hK => ?_); go_simp)
  refine (g_two _ _).mono ?_; rintro e u ⟨g, n, c, rfl, h⟩; replace A := Lib.hid (A.out.more h.out); clear h
  refine hK.out _ _ (HB.out _ A.out.bl) ?_
  (clear hK KK; try simp only [Act.put, List.setIfInBounds_toArray, List.set_cons_zero, List.set_cons_succ])
  (repeat ((first | (refine wpSeq_take (v := ?_) rfl (by rfl) (fun wq hSq => ?_) ?_; rotate_left; (focus ((try dsimp only at hSq); go_simp; try with_reducible rfl))) | refine wpSeq_skip rfl (by rfl) ?_); simp only [Act.put, List.setIfInBounds_toArray, List.set_cons_zero, List.set_cons_succ]))
  (refine wpSeq_do rfl (by rfl) (fun KK hK => ?_); go_simp)
  refine (g_one _ _).mono ?_; rintro e u ⟨g, n, c, rfl, h⟩; replace A := Lib.hid (A.out.more h.out); clear h
  refine hK.out _ _ (HB.out _ A.out.bl) ?_
  (clear hK KK; try simp only [Act.put, List.setIfInBounds_toArray, List.set_cons_zero, List.set_cons_succ])
  (repeat ((first | (refine wpSeq_take (v := ?_) rfl (by rfl) (fun wq hSq => ?_) ?_; rotate_left; (focus ((try dsimp only at hSq); go_simp; try with_reducible rfl))) | refine wpSeq_skip rfl (by rfl) ?_); simp only [Act.put, List.setIfInBounds_toArray, List.set_cons_zero, List.set_cons_succ]))
  (refine wpSeq_do rfl (by rfl) (fun KK hK => ?_); go_simp)
  refine (g_fold hB hR _).mono ?_; rintro e u ⟨g, n, c, rfl, h⟩; replace A := Lib.hid (A.out.more h.out); clear h
  refine hK.out _ _ (HB.out _ A.out.bl) ?_
  (clear hK KK; try simp only [Act.put, List.setIfInBounds_toArray, List.set_cons_zero, List.set_cons_succ])
  (repeat ((first | (refine wpSeq_take (v := ?_) rfl (by rfl) (fun wq hSq => ?_) ?_; rotate_left; (focus ((try dsimp only at hSq); go_simp; try with_reducible rfl))) | refine wpSeq_skip rfl (by rfl) ?_); simp only [Act.put, List.setIfInBounds_toArray, List.set_cons_zero, List.set_cons_succ]))
  (refine wpSeq_do rfl (by rfl) (fun KK hK => ?_); go_simp)
  refine hK.out _ _ (HB.out _ (A.out.on (bl1 _ _)).bl) ?_
  (clear hK KK; try simp only [Act.put, List.setIfInBounds_toArray, List.set_cons_zero, List.set_cons_succ])
  (repeat ((first | (refine wpSeq_take (v := ?_) rfl (by rfl) (fun wq hSq => ?_) ?_; rotate_left; (focus ((try dsimp only at hSq); go_simp; try with_reducible rfl))) | refine wpSeq_skip rfl (by rfl) ?_); simp only [Act.put, List.setIfInBounds_toArray, List.set_cons_zero, List.set_cons_succ]))
  (refine wpSeq_do rfl (by rfl) (fun KK hK => ?_); go_simp)
  refine (join_acc A.out rfl rfl (by simp [sumL, oOne_len, oTwo_len, oRead_len, oFold_len] <;> omega) (by simp [sumL, oOne_len, oTwo_len, oRead_len, oFold_len] <;> omega) (Nat.le_of_ble_eq_true rfl)).mono ?_; rintro e u ⟨g, n, c, rfl, hZ⟩; clear A
  refine hK.out _ _ (HB.out _ hZ.out.2) ?_
  (clear hK KK; try simp only [Act.put, List.setIfInBounds_toArray, List.set_cons_zero, List.set_cons_succ])
  (repeat ((first | (refine wpSeq_take (v := ?_) rfl (by rfl) (fun wq hSq => ?_) ?_; rotate_left; (focus ((try dsimp only at hSq); go_simp; try with_reducible rfl))) | refine wpSeq_skip rfl (by rfl) ?_); simp only [Act.put, List.setIfInBounds_toArray, List.set_cons_zero, List.set_cons_succ]))
  refine wpSeq_nil ?_
  go_wp2_with fail
  go_ret
  exact ⟨g, n, c, rfl, hZ.out.1, (bl1 w _).trans (hZ.out.2.mono (by simp))⟩
def oAhead (B R : Int)  : List O := oLinked B R (oCell (1) (2)) (oPush (1))
theorem oAhead_len (B R : Int)  : (oAhead B R).length = 9 := rfl
set_option maxHeartbeats 1000000 in
set_option maxRecDepth 100000 in
theorem g_ahead (hB : 0 ≤ B ∧ B ≤ 256) (hR : 0 ≤ R ∧ R ≤ 16)  (w : World) : Calls Tryz.prog 88 #[.agg #[.int .i64 B, .int .i64 R]] w fun e w' => Gv w (oAhead B R) e w' := by
  have A : Hid (Acc (w.alloc (.cells #[.int .i64 B, .int .i64 R] 83)) ((w.alloc (.cells #[.int .i64 B, .int .i64 R] 83)).drew) []) := acc_nil ((Same.drew _).below _)
  have HB : Hid (∀ u, Below (w.alloc (.cells #[.int .i64 B, .int .i64 R] 83)).heap.size (w.alloc (.cells #[.int .i64 B, .int .i64 R] 83)) u → u.cell? ⟨w.heap.size, 0, none⟩ = some (.int .i64 B) ∧ u.cell? ⟨w.heap.size, 1, none⟩ = some (.int .i64 R)) := fun u k => by
    have := cells2_of ((k.block _ (by simp)).trans (heap_alloc_new w (.cells #[.int .i64 B, .int .i64 R] 83)))
    exact ⟨this.1, this.2.1⟩
  go_enter Tryz.func88, Tryz.ntmps88
  go_wp2_with fail
  refine wp_region_seq (fun u => u.cell? ⟨w.heap.size, 0, none⟩ = some (.int .i64 B) ∧ u.cell? ⟨w.heap.size, 1, none⟩ = some (.int .i64 R)) ((0, true) :: (1, false) :: (2, false) :: (3, false) :: (4, true) :: []) follows (by kernel_rfl) (fun _ _ _ _ _ h => h) (HB.out _ ((Same.drew _).below _)) ?_
  (repeat ((first | (refine wpSeq_take (v := ?_) rfl (by rfl) (fun wq hSq => ?_) ?_; rotate_left; (focus ((try dsimp only at hSq); go_simp; try with_reducible rfl))) | refine wpSeq_skip rfl (by rfl) ?_); simp only [Act.put, List.setIfInBounds_toArray, List.set_cons_zero, List.set_cons_succ]))
  (refine wpSeq_do rfl (by rfl) (fun KK hK => ?_); go_simp)
  refine (g_cell _ _ _).mono ?_; rintro e u ⟨g, n, c, rfl, h⟩; replace A := Lib.hid (A.out.more h.out); clear h
  refine hK.out _ _ (HB.out _ A.out.bl) ?_
  (clear hK KK; try simp only [Act.put, List.setIfInBounds_toArray, List.set_cons_zero, List.set_cons_succ])
  (repeat ((first | (refine wpSeq_take (v := ?_) rfl (by rfl) (fun wq hSq => ?_) ?_; rotate_left; (focus ((try dsimp only at hSq); go_simp; try with_reducible rfl))) | refine wpSeq_skip rfl (by rfl) ?_); simp only [Act.put, List.setIfInBounds_toArray, List.set_cons_zero, List.set_cons_succ]))
  (refine wpSeq_do rfl (by rfl) (fun KK hK => ?_); go_simp)
  refine (g_push _ _).mono ?_; rintro e u ⟨g, n, c, rfl, h⟩; replace A := Lib.hid (A.out.more h.out); clear h
  refine hK.out _ _ (HB.out _ A.out.bl) ?_
  (clear hK KK; try simp only [Act.put, List.setIfInBounds_toArray, List.set_cons_zero, List.set_cons_succ])
  (repeat ((first | (refine wpSeq_take (v := ?_) rfl (by rfl) (fun wq hSq => ?_) ?_; rotate_left; (focus ((try dsimp only at hSq); go_simp; try with_reducible rfl))) | refine wpSeq_skip rfl (by rfl) ?_); simp only [Act.put, List.setIfInBounds_toArray, List.set_cons_zero, List.set_cons_succ]))
  (refine wpSeq_do rfl (by rfl) (fun KK hK => ?_); go_simp)
  refine (g_linked hB hR A.out.snd A.out.fst (Nat.le_of_ble_eq_true rfl) (Nat.le_of_ble_eq_true rfl)).mono ?_; rintro e u ⟨g, n, c, rfl, h⟩; replace A := Lib.hid (A.out.pop.pop.more h.out); clear h
  refine hK.out _ _ (HB.out _ A.out.bl) ?_
  (clear hK KK; try simp only [Act.put, List.setIfInBounds_toArray, List.set_cons_zero, List.set_cons_succ])
  (repeat ((first | (refine wpSeq_take (v := ?_) rfl (by rfl) (fun wq hSq => ?_) ?_; rotate_left; (focus ((try dsimp only at hSq); go_simp; try with_reducible rfl))) | refine wpSeq_skip rfl (by rfl) ?_); simp only [Act.put, List.setIfInBounds_toArray, List.set_cons_zero, List.set_cons_succ]))
  refine wpSeq_nil ?_
  go_wp2_with fail
  go_ret
  exact ⟨g, n, c, rfl, A.out.fst, (bl1 w _).trans (A.out.bl.mono (by simp))⟩
def oBehind (B R : Int)  : List O := oLinked B R (oCell (1) (2)) (oPush (R + 1))
theorem oBehind_len (B R : Int)  : (oBehind B R).length = 9 := rfl
set_option maxHeartbeats 1000000 in
set_option maxRecDepth 100000 in
theorem g_behind (hB : 0 ≤ B ∧ B ≤ 256) (hR : 0 ≤ R ∧ R ≤ 16)  (w : World) : Calls Tryz.prog 89 #[.agg #[.int .i64 B, .int .i64 R]] w fun e w' => Gv w (oBehind B R) e w' := by
  have A : Hid (Acc (w.alloc (.cells #[.int .i64 B, .int .i64 R] 83)) ((w.alloc (.cells #[.int .i64 B, .int .i64 R] 83)).drew) []) := acc_nil ((Same.drew _).below _)
  have HB : Hid (∀ u, Below (w.alloc (.cells #[.int .i64 B, .int .i64 R] 83)).heap.size (w.alloc (.cells #[.int .i64 B, .int .i64 R] 83)) u → u.cell? ⟨w.heap.size, 0, none⟩ = some (.int .i64 B) ∧ u.cell? ⟨w.heap.size, 1, none⟩ = some (.int .i64 R)) := fun u k => by
    have := cells2_of ((k.block _ (by simp)).trans (heap_alloc_new w (.cells #[.int .i64 B, .int .i64 R] 83)))
    exact ⟨this.1, this.2.1⟩
  go_enter Tryz.func89, Tryz.ntmps89
  go_wp2_with fail
  refine wp_region_seq (fun u => u.cell? ⟨w.heap.size, 0, none⟩ = some (.int .i64 B) ∧ u.cell? ⟨w.heap.size, 1, none⟩ = some (.int .i64 R)) ((0, true) :: (2, true) :: (1, false) :: (3, false) :: (4, false) :: (5, false) :: (6, true) :: []) follows (by kernel_rfl) (fun _ _ _ _ _ h => h) (HB.out _ ((Same.drew _).below _)) ?_
  (repeat ((first | (refine wpSeq_take (v := ?_) rfl (by rfl) (fun wq hSq => ?_) ?_; rotate_left; (focus ((try dsimp only at hSq); go_simp; try with_reducible rfl))) | refine wpSeq_skip rfl (by rfl) ?_); simp only [Act.put, List.setIfInBounds_toArray, List.set_cons_zero, List.set_cons_succ]))
  (refine wpSeq_do rfl (by rfl) (fun KK hK => ?_); go_simp)
  refine (g_cell _ _ _).mono ?_; rintro e u ⟨g, n, c, rfl, h⟩; replace A := Lib.hid (A.out.more h.out); clear h
  refine hK.out _ _ (HB.out _ A.out.bl) ?_
  (clear hK KK; try simp only [Act.put, List.setIfInBounds_toArray, List.set_cons_zero, List.set_cons_succ])
  (repeat ((first | (refine wpSeq_take (v := ?_) rfl (by rfl) (fun wq hSq => ?_) ?_; rotate_left; (focus ((try dsimp only at hSq); go_simp; try with_reducible rfl))) | refine wpSeq_skip rfl (by rfl) ?_); simp only [Act.put, List.setIfInBounds_toArray, List.set_cons_zero, List.set_cons_succ]))
  (refine wpSeq_do rfl (by rfl) (fun KK hK => ?_); go_simp)
  refine (g_wide hB hR _).mono ?_; rintro e u ⟨rfl, h⟩; replace A := Lib.hid (A.out.on h); clear h
  refine hK.out _ _ (HB.out _ A.out.bl) ?_
  (clear hK KK; try simp only [Act.put, List.setIfInBounds_toArray, List.set_cons_zero, List.set_cons_succ])
  (repeat ((first | (refine wpSeq_take (v := ?_) rfl (by rfl) (fun wq hSq => ?_) ?_; rotate_left; (focus ((try dsimp only at hSq); go_simp; try with_reducible rfl))) | refine wpSeq_skip rfl (by rfl) ?_); simp only [Act.put, List.setIfInBounds_toArray, List.set_cons_zero, List.set_cons_succ]))
  (refine wpSeq_do rfl (by rfl) (fun KK hK => ?_); go_simp)
  refine (g_push _ _).mono ?_; rintro e u ⟨g, n, c, rfl, h⟩; replace A := Lib.hid (A.out.more h.out); clear h
  refine hK.out _ _ (HB.out _ A.out.bl) ?_
  (clear hK KK; try simp only [Act.put, List.setIfInBounds_toArray, List.set_cons_zero, List.set_cons_succ])
  (repeat ((first | (refine wpSeq_take (v := ?_) rfl (by rfl) (fun wq hSq => ?_) ?_; rotate_left; (focus ((try dsimp only at hSq); go_simp; try with_reducible rfl))) | refine wpSeq_skip rfl (by rfl) ?_); simp only [Act.put, List.setIfInBounds_toArray, List.set_cons_zero, List.set_cons_succ]))
  (refine wpSeq_do rfl (by rfl) (fun KK hK => ?_); go_simp)
  refine (g_linked hB hR A.out.snd A.out.fst (Nat.le_of_ble_eq_true rfl) (Nat.le_of_ble_eq_true rfl)).mono ?_; rintro e u ⟨g, n, c, rfl, h⟩; replace A := Lib.hid (A.out.pop.pop.more h.out); clear h
  refine hK.out _ _ (HB.out _ A.out.bl) ?_
  (clear hK KK; try simp only [Act.put, List.setIfInBounds_toArray, List.set_cons_zero, List.set_cons_succ])
  (repeat ((first | (refine wpSeq_take (v := ?_) rfl (by rfl) (fun wq hSq => ?_) ?_; rotate_left; (focus ((try dsimp only at hSq); go_simp; try with_reducible rfl))) | refine wpSeq_skip rfl (by rfl) ?_); simp only [Act.put, List.setIfInBounds_toArray, List.set_cons_zero, List.set_cons_succ]))
  refine wpSeq_nil ?_
  go_wp2_with fail
  go_ret
  exact ⟨g, n, c, rfl, A.out.fst, (bl1 w _).trans (A.out.bl.mono (by simp))⟩
def oBegin (B _R : Int)  : List O := ([oPush (B + 2), oSet (2), oPush (1), oSet (3)]).flatten
theorem oBegin_len (B R : Int)  : (oBegin B R).length = 4 := rfl
set_option maxHeartbeats 1000000 in
set_option maxRecDepth 100000 in
theorem g_begin (hB : 0 ≤ B ∧ B ≤ 256) (hR : 0 ≤ R ∧ R ≤ 16)  (w : World) : Calls Tryz.prog 93 #[.agg #[.int .i64 B, .int .i64 R]] w fun e w' => Gv w (oBegin B R) e w' := by
  have A : Hid (Acc (w.alloc (.cells #[.int .i64 B, .int .i64 R] 83)) (w.alloc (.cells #[.int .i64 B, .int .i64 R] 83)) []) := acc_nil (Below.refl _ _)
  go_enter Tryz.func93, Tryz.ntmps93
  go_wp2_with (first
    | (go_at_call 124; refine (join_acc A.out rfl rfl (Nat.le_of_ble_eq_true rfl) (Nat.le_of_ble_eq_true rfl) (Nat.le_of_ble_eq_true rfl)).mono ?_; rintro e u ⟨g, n, c, rfl, hZ⟩; clear A)
    | (go_at_call 130; refine (g_root hB hR _).mono ?_; rintro e u ⟨rfl, h⟩; replace A := Lib.hid (A.out.on h); clear h)
    | (go_at_call 77; refine (g_push _ _).mono ?_; rintro e u ⟨g, n, c, rfl, h⟩; replace A := Lib.hid (A.out.more h.out); clear h)
    | (go_at_call 82; refine (g_set _ _).mono ?_; rintro e u ⟨g, n, c, rfl, h⟩; replace A := Lib.hid (A.out.more h.out); clear h))
  go_ret
  exact ⟨g, n, c, rfl, hZ.out.1, (bl1 w _).trans (hZ.out.2.mono (by simp))⟩
def oWalk (B R : Int) (again : Int) (fin : Int) (Ls : List (List O)) : List O := ([oMark (again), oLinked B R (oGet (2)) (oGet (3)), oSet (0), oGet (0), oTo (13) (fin), oGoTo B R, (Ls).flatten, oCell (1) (2), oSet (2), oTo (11) (again)]).flatten
theorem oWalk_len (B R : Int) (again : Int) (fin : Int) (Ls : List (List O)) : (oWalk B R again fin Ls).length = sumL Ls + 22 := by simp [oWalk, sumL, oTo_len, oMark_len, oGet_len, oSet_len, oCell_len, oGoTo_len, oLinked_len]; try omega
set_option maxHeartbeats 1000000 in
set_option maxRecDepth 100000 in
theorem g_walk (hB : 0 ≤ B ∧ B ≤ 256) (hR : 0 ≤ R ∧ R ≤ 16) {b k cc : Nat} {Ls : List (List O)} (hp : Parts w b Ls) (hk : Ls.length = k) (h0 : 0 < sumL Ls) (h1 : sumL Ls ≤ 100) (h2 : k ≤ 4096) (again : Int) (fin : Int) : Calls Tryz.prog 92 #[.agg #[.int .i64 B, .int .i64 R], .int .i64 again, .int .i64 fin, .slice (some ⟨b, 0, none⟩) k cc] w fun e w' => Gv w (oWalk B R again fin Ls) e w' := by
  have HP : Hid (Parts (w.alloc (.cells #[.int .i64 B, .int .i64 R] 83)) b Ls) := hp.on (bl1 _ _)
  have HK := Lib.hid hk
  have H0 := Lib.hid h0
  have H1 : Hid (sumL Ls ≤ 4096) := Nat.le_trans h1 (by decide)
  have H3 := Lib.hid h1
  have H2 := Lib.hid h2
  have A : Hid (Acc (w.alloc (.cells #[.int .i64 B, .int .i64 R] 83)) ((w.alloc (.cells #[.int .i64 B, .int .i64 R] 83)).drew) []) := acc_nil ((Same.drew _).below _)
  have HB : Hid (∀ u, Below (w.alloc (.cells #[.int .i64 B, .int .i64 R] 83)).heap.size (w.alloc (.cells #[.int .i64 B, .int .i64 R] 83)) u → u.cell? ⟨w.heap.size, 0, none⟩ = some (.int .i64 B) ∧ u.cell? ⟨w.heap.size, 1, none⟩ = some (.int .i64 R)) := fun u k => by
    have := cells2_of ((k.block _ (by simp)).trans (heap_alloc_new w (.cells #[.int .i64 B, .int .i64 R] 83)))
    exact ⟨this.1, this.2.1⟩
  clear hp hk h0 h1 h2
  go_enter Tryz.func92, Tryz.ntmps92
  go_wp2_with fail
  refine wp_region_seq (fun u => u.cell? ⟨w.heap.size, 0, none⟩ = some (.int .i64 B) ∧ u.cell? ⟨w.heap.size, 1, none⟩ = some (.int .i64 R)) ((0, true) :: (2, true) :: (8, true) :: (10, true) :: (12, true) :: (16, true) :: (1, false) :: (3, false) :: (4, false) :: (5, false) :: (6, false) :: (7, false) :: (9, false) :: (11, false) :: (13, false) :: (14, false) :: (15, false) :: (17, false) :: (18, false) :: (19, false) :: (20, true) :: []) follows (by kernel_rfl) (fun _ _ _ _ _ h => h) (HB.out _ ((Same.drew _).below _)) ?_
  (repeat ((first | (refine wpSeq_take (v := ?_) rfl (by rfl) (fun wq hSq => ?_) ?_; rotate_left; (focus ((try dsimp only at hSq); go_simp; try with_reducible rfl))) | refine wpSeq_skip rfl (by rfl) ?_); simp only [Act.put, List.setIfInBounds_toArray, List.set_cons_zero, List.set_cons_succ]))
  (refine wpSeq_do rfl (by rfl) (fun KK hK => ?_); go_simp)
  refine (g_mark _ _).mono ?_; rintro e u ⟨g, n, c, rfl, h⟩; replace A := Lib.hid (A.out.more h.out); clear h
  refine hK.out _ _ (HB.out _ A.out.bl) ?_
  (clear hK KK; try simp only [Act.put, List.setIfInBounds_toArray, List.set_cons_zero, List.set_cons_succ])
  (repeat ((first | (refine wpSeq_take (v := ?_) rfl (by rfl) (fun wq hSq => ?_) ?_; rotate_left; (focus ((try dsimp only at hSq); go_simp; try with_reducible rfl))) | refine wpSeq_skip rfl (by rfl) ?_); simp only [Act.put, List.setIfInBounds_toArray, List.set_cons_zero, List.set_cons_succ]))
  (refine wpSeq_do rfl (by rfl) (fun KK hK => ?_); go_simp)
  refine (g_get _ _).mono ?_; rintro e u ⟨g, n, c, rfl, h⟩; replace A := Lib.hid (A.out.more h.out); clear h
  refine hK.out _ _ (HB.out _ A.out.bl) ?_
  (clear hK KK; try simp only [Act.put, List.setIfInBounds_toArray, List.set_cons_zero, List.set_cons_succ])
  (repeat ((first | (refine wpSeq_take (v := ?_) rfl (by rfl) (fun wq hSq => ?_) ?_; rotate_left; (focus ((try dsimp only at hSq); go_simp; try with_reducible rfl))) | refine wpSeq_skip rfl (by rfl) ?_); simp only [Act.put, List.setIfInBounds_toArray, List.set_cons_zero, List.set_cons_succ]))
  (refine wpSeq_do rfl (by rfl) (fun KK hK => ?_); go_simp)
  refine (g_get _ _).mono ?_; rintro e u ⟨g, n, c, rfl, h⟩; replace A := Lib.hid (A.out.more h.out); clear h
  refine hK.out _ _ (HB.out _ A.out.bl) ?_
  (clear hK KK; try simp only [Act.put, List.setIfInBounds_toArray, List.set_cons_zero, List.set_cons_succ])
  (repeat ((first | (refine wpSeq_take (v := ?_) rfl (by rfl) (fun wq hSq => ?_) ?_; rotate_left; (focus ((try dsimp only at hSq); go_simp; try with_reducible rfl))) | refine wpSeq_skip rfl (by rfl) ?_); simp only [Act.put, List.setIfInBounds_toArray, List.set_cons_zero, List.set_cons_succ]))
  (refine wpSeq_do rfl (by rfl) (fun KK hK => ?_); go_simp)
  refine (g_linked hB hR A.out.snd A.out.fst (Nat.le_of_ble_eq_true rfl) (Nat.le_of_ble_eq_true rfl)).mono ?_; rintro e u ⟨g, n, c, rfl, h⟩; replace A := Lib.hid (A.out.pop.pop.more h.out); clear h
  refine hK.out _ _ (HB.out _ A.out.bl) ?_
  (clear hK KK; try simp only [Act.put, List.setIfInBounds_toArray, List.set_cons_zero, List.set_cons_succ])
  (repeat ((first | (refine wpSeq_take (v := ?_) rfl (by rfl) (fun wq hSq => ?_) ?_; rotate_left; (focus ((try dsimp only at hSq); go_simp; try with_reducible rfl))) | refine wpSeq_skip rfl (by rfl) ?_); simp only [Act.put, List.setIfInBounds_toArray, List.set_cons_zero, List.set_cons_succ]))
  (refine wpSeq_do rfl (by rfl) (fun KK hK => ?_); go_simp)
  refine (g_set _ _).mono ?_; rintro e u ⟨g, n, c, rfl, h⟩; replace A := Lib.hid (A.out.more h.out); clear h
  refine hK.out _ _ (HB.out _ A.out.bl) ?_
  (clear hK KK; try simp only [Act.put, List.setIfInBounds_toArray, List.set_cons_zero, List.set_cons_succ])
  (repeat ((first | (refine wpSeq_take (v := ?_) rfl (by rfl) (fun wq hSq => ?_) ?_; rotate_left; (focus ((try dsimp only at hSq); go_simp; try with_reducible rfl))) | refine wpSeq_skip rfl (by rfl) ?_); simp only [Act.put, List.setIfInBounds_toArray, List.set_cons_zero, List.set_cons_succ]))
  (refine wpSeq_do rfl (by rfl) (fun KK hK => ?_); go_simp)
  refine (g_get _ _).mono ?_; rintro e u ⟨g, n, c, rfl, h⟩; replace A := Lib.hid (A.out.more h.out); clear h
  refine hK.out _ _ (HB.out _ A.out.bl) ?_
  (clear hK KK; try simp only [Act.put, List.setIfInBounds_toArray, List.set_cons_zero, List.set_cons_succ])
  (repeat ((first | (refine wpSeq_take (v := ?_) rfl (by rfl) (fun wq hSq => ?_) ?_; rotate_left; (focus ((try dsimp only at hSq); go_simp; try with_reducible rfl))) | refine wpSeq_skip rfl (by rfl) ?_); simp only [Act.put, List.setIfInBounds_toArray, List.set_cons_zero, List.set_cons_succ]))
  (refine wpSeq_do rfl (by rfl) (fun KK hK => ?_); go_simp)
  refine (g_to _ _ _).mono ?_; rintro e u ⟨g, n, c, rfl, h⟩; replace A := Lib.hid (A.out.more h.out); clear h
  refine hK.out _ _ (HB.out _ A.out.bl) ?_
  (clear hK KK; try simp only [Act.put, List.setIfInBounds_toArray, List.set_cons_zero, List.set_cons_succ])
  (repeat ((first | (refine wpSeq_take (v := ?_) rfl (by rfl) (fun wq hSq => ?_) ?_; rotate_left; (focus ((try dsimp only at hSq); go_simp; try with_reducible rfl))) | refine wpSeq_skip rfl (by rfl) ?_); simp only [Act.put, List.setIfInBounds_toArray, List.set_cons_zero, List.set_cons_succ]))
  (refine wpSeq_do rfl (by rfl) (fun KK hK => ?_); go_simp)
  refine (g_goTo hB hR _).mono ?_; rintro e u ⟨g, n, c, rfl, h⟩; replace A := Lib.hid (A.out.more h.out); clear h
  refine hK.out _ _ (HB.out _ A.out.bl) ?_
  (clear hK KK; try simp only [Act.put, List.setIfInBounds_toArray, List.set_cons_zero, List.set_cons_succ])
  (repeat ((first | (refine wpSeq_take (v := ?_) rfl (by rfl) (fun wq hSq => ?_) ?_; rotate_left; (focus ((try dsimp only at hSq); go_simp; try with_reducible rfl))) | refine wpSeq_skip rfl (by rfl) ?_); simp only [Act.put, List.setIfInBounds_toArray, List.set_cons_zero, List.set_cons_succ]))
  (refine wpSeq_do rfl (by rfl) (fun KK hK => ?_); go_simp)
  refine (join_parts (HP.out.on A.out.bl) HK.out H0.out H1.out H2.out).mono ?_; rintro e u ⟨g, n, c, rfl, h⟩; replace A := Lib.hid (A.out.more h.out); have HJ := Lib.hid (And.intro H0.out H3.out); clear h HP HK H0 H1 H2 H3
  refine hK.out _ _ (HB.out _ A.out.bl) ?_
  (clear hK KK; try simp only [Act.put, List.setIfInBounds_toArray, List.set_cons_zero, List.set_cons_succ])
  (repeat ((first | (refine wpSeq_take (v := ?_) rfl (by rfl) (fun wq hSq => ?_) ?_; rotate_left; (focus ((try dsimp only at hSq); go_simp; try with_reducible rfl))) | refine wpSeq_skip rfl (by rfl) ?_); simp only [Act.put, List.setIfInBounds_toArray, List.set_cons_zero, List.set_cons_succ]))
  (refine wpSeq_do rfl (by rfl) (fun KK hK => ?_); go_simp)
  refine (g_cell _ _ _).mono ?_; rintro e u ⟨g, n, c, rfl, h⟩; replace A := Lib.hid (A.out.more h.out); clear h
  refine hK.out _ _ (HB.out _ A.out.bl) ?_
  (clear hK KK; try simp only [Act.put, List.setIfInBounds_toArray, List.set_cons_zero, List.set_cons_succ])
  (repeat ((first | (refine wpSeq_take (v := ?_) rfl (by rfl) (fun wq hSq => ?_) ?_; rotate_left; (focus ((try dsimp only at hSq); go_simp; try with_reducible rfl))) | refine wpSeq_skip rfl (by rfl) ?_); simp only [Act.put, List.setIfInBounds_toArray, List.set_cons_zero, List.set_cons_succ]))
  (refine wpSeq_do rfl (by rfl) (fun KK hK => ?_); go_simp)
  refine (g_set _ _).mono ?_; rintro e u ⟨g, n, c, rfl, h⟩; replace A := Lib.hid (A.out.more h.out); clear h
  refine hK.out _ _ (HB.out _ A.out.bl) ?_
  (clear hK KK; try simp only [Act.put, List.setIfInBounds_toArray, List.set_cons_zero, List.set_cons_succ])
  (repeat ((first | (refine wpSeq_take (v := ?_) rfl (by rfl) (fun wq hSq => ?_) ?_; rotate_left; (focus ((try dsimp only at hSq); go_simp; try with_reducible rfl))) | refine wpSeq_skip rfl (by rfl) ?_); simp only [Act.put, List.setIfInBounds_toArray, List.set_cons_zero, List.set_cons_succ]))
  (refine wpSeq_do rfl (by rfl) (fun KK hK => ?_); go_simp)
  refine (g_to _ _ _).mono ?_; rintro e u ⟨g, n, c, rfl, h⟩; replace A := Lib.hid (A.out.more h.out); clear h
  refine hK.out _ _ (HB.out _ A.out.bl) ?_
  (clear hK KK; try simp only [Act.put, List.setIfInBounds_toArray, List.set_cons_zero, List.set_cons_succ])
  (repeat ((first | (refine wpSeq_take (v := ?_) rfl (by rfl) (fun wq hSq => ?_) ?_; rotate_left; (focus ((try dsimp only at hSq); go_simp; try with_reducible rfl))) | refine wpSeq_skip rfl (by rfl) ?_); simp only [Act.put, List.setIfInBounds_toArray, List.set_cons_zero, List.set_cons_succ]))
  (refine wpSeq_do rfl (by rfl) (fun KK hK => ?_); go_simp)
  refine hK.out _ _ (HB.out _ (A.out.on (bl1 _ _)).bl) ?_
  (clear hK KK; try simp only [Act.put, List.setIfInBounds_toArray, List.set_cons_zero, List.set_cons_succ])
  (repeat ((first | (refine wpSeq_take (v := ?_) rfl (by rfl) (fun wq hSq => ?_) ?_; rotate_left; (focus ((try dsimp only at hSq); go_simp; try with_reducible rfl))) | refine wpSeq_skip rfl (by rfl) ?_); simp only [Act.put, List.setIfInBounds_toArray, List.set_cons_zero, List.set_cons_succ]))
  (refine wpSeq_do rfl (by rfl) (fun KK hK => ?_); go_simp)
  refine (join_acc A.out rfl rfl (by have h7 := HJ.out.2; simp [sumL] at h7; simp [sumL, oTo_len, oMark_len, oGet_len, oSet_len, oCell_len, oGoTo_len, oLinked_len] <;> omega) (by have h7 := HJ.out.2; simp [sumL] at h7; simp [sumL, oTo_len, oMark_len, oGet_len, oSet_len, oCell_len, oGoTo_len, oLinked_len] <;> omega) (Nat.le_of_ble_eq_true rfl)).mono ?_; rintro e u ⟨g, n, c, rfl, hZ⟩; clear A
  refine hK.out _ _ (HB.out _ hZ.out.2) ?_
  (clear hK KK; try simp only [Act.put, List.setIfInBounds_toArray, List.set_cons_zero, List.set_cons_succ])
  (repeat ((first | (refine wpSeq_take (v := ?_) rfl (by rfl) (fun wq hSq => ?_) ?_; rotate_left; (focus ((try dsimp only at hSq); go_simp; try with_reducible rfl))) | refine wpSeq_skip rfl (by rfl) ?_); simp only [Act.put, List.setIfInBounds_toArray, List.set_cons_zero, List.set_cons_succ]))
  refine wpSeq_nil ?_
  go_wp2_with fail
  go_ret
  exact ⟨g, n, c, rfl, hZ.out.1, (bl1 w _).trans (hZ.out.2.mono (by simp))⟩
def oTurn (_B R : Int)  : List O := ([oPush (R), oTwo (3), oPush (1), oTwo (1), oSet (3)]).flatten
theorem oTurn_len (B R : Int)  : (oTurn B R).length = 5 := rfl
set_option maxHeartbeats 1000000 in
set_option maxRecDepth 100000 in
theorem g_turn (hB : 0 ≤ B ∧ B ≤ 256) (hR : 0 ≤ R ∧ R ≤ 16)  (w : World) : Calls Tryz.prog 96 #[.agg #[.int .i64 B, .int .i64 R]] w fun e w' => Gv w (oTurn B R) e w' := by
  have A : Hid (Acc (w.alloc (.cells #[.int .i64 B, .int .i64 R] 83)) (w.alloc (.cells #[.int .i64 B, .int .i64 R] 83)) []) := acc_nil (Below.refl _ _)
  go_enter Tryz.func96, Tryz.ntmps96
  go_wp2_with (first
    | (go_at_call 124; refine (join_acc A.out rfl rfl (Nat.le_of_ble_eq_true rfl) (Nat.le_of_ble_eq_true rfl) (Nat.le_of_ble_eq_true rfl)).mono ?_; rintro e u ⟨g, n, c, rfl, hZ⟩; clear A)
    | (go_at_call 91; refine (g_wide hB hR _).mono ?_; rintro e u ⟨rfl, h⟩; replace A := Lib.hid (A.out.on h); clear h)
    | (go_at_call 77; refine (g_push _ _).mono ?_; rintro e u ⟨g, n, c, rfl, h⟩; replace A := Lib.hid (A.out.more h.out); clear h)
    | (go_at_call 78; refine (g_two _ _).mono ?_; rintro e u ⟨g, n, c, rfl, h⟩; replace A := Lib.hid (A.out.more h.out); clear h)
    | (go_at_call 82; refine (g_set _ _).mono ?_; rintro e u ⟨g, n, c, rfl, h⟩; replace A := Lib.hid (A.out.more h.out); clear h))
  go_ret
  exact ⟨g, n, c, rfl, hZ.out.1, (bl1 w _).trans (hZ.out.2.mono (by simp))⟩
def oSearch (B R : Int)  : List O := ([oBegin B R, oWalk B R (0) (1) ([oLoad (1) (0), oArg (0), oTwo (11), oTo (12) (2), oLoad (1) (0), oArg (0), oTwo (12), oTurn B R])]).flatten
theorem oSearch_len (B R : Int)  : (oSearch B R).length = 44 := rfl
set_option maxHeartbeats 1000000 in
set_option maxRecDepth 100000 in
theorem g_search (hB : 0 ≤ B ∧ B ≤ 256) (hR : 0 ≤ R ∧ R ≤ 16)  (w : World) : Calls Tryz.prog 67 #[.agg #[.int .i64 B, .int .i64 R]] w fun e w' => Gv w (oSearch B R) e w' := by
  have A : Hid (Acc (w.alloc (.cells #[.int .i64 B, .int .i64 R] 83)) ((w.alloc (.cells #[.int .i64 B, .int .i64 R] 83)).drew) []) := acc_nil ((Same.drew _).below _)
  have HB : Hid (∀ u, Below (w.alloc (.cells #[.int .i64 B, .int .i64 R] 83)).heap.size (w.alloc (.cells #[.int .i64 B, .int .i64 R] 83)) u → u.cell? ⟨w.heap.size, 0, none⟩ = some (.int .i64 B) ∧ u.cell? ⟨w.heap.size, 1, none⟩ = some (.int .i64 R)) := fun u k => by
    have := cells2_of ((k.block _ (by simp)).trans (heap_alloc_new w (.cells #[.int .i64 B, .int .i64 R] 83)))
    exact ⟨this.1, this.2.1⟩
  go_enter Tryz.func67, Tryz.ntmps67
  go_wp2_with fail
  refine wp_region_seq (fun u => u.cell? ⟨w.heap.size, 0, none⟩ = some (.int .i64 B) ∧ u.cell? ⟨w.heap.size, 1, none⟩ = some (.int .i64 R)) ((0, true) :: (2, true) :: (10, true) :: (1, false) :: (3, false) :: (4, false) :: (5, false) :: (6, false) :: (7, false) :: (8, false) :: (9, false) :: (11, false) :: (12, false) :: (13, false) :: (14, false) :: (15, false) :: (16, true) :: []) follows (by kernel_rfl) (fun _ _ _ _ _ h => h) (HB.out _ ((Same.drew _).below _)) ?_
  (repeat ((first | (refine wpSeq_take (v := ?_) rfl (by rfl) (fun wq hSq => ?_) ?_; rotate_left; (focus ((try dsimp only at hSq); go_simp; try with_reducible rfl))) | refine wpSeq_skip rfl (by rfl) ?_); simp only [Act.put, List.setIfInBounds_toArray, List.set_cons_zero, List.set_cons_succ]))
  (refine wpSeq_do rfl (by rfl) (fun KK hK => ?_); go_simp)
  refine (g_begin hB hR _).mono ?_; rintro e u ⟨g, n, c, rfl, h⟩; replace A := Lib.hid (A.out.more h.out); clear h
  refine hK.out _ _ (HB.out _ A.out.bl) ?_
  (clear hK KK; try simp only [Act.put, List.setIfInBounds_toArray, List.set_cons_zero, List.set_cons_succ])
  (repeat ((first | (refine wpSeq_take (v := ?_) rfl (by rfl) (fun wq hSq => ?_) ?_; rotate_left; (focus ((try dsimp only at hSq); go_simp; try with_reducible rfl))) | refine wpSeq_skip rfl (by rfl) ?_); simp only [Act.put, List.setIfInBounds_toArray, List.set_cons_zero, List.set_cons_succ]))
  (refine wpSeq_do rfl (by rfl) (fun KK hK => ?_); go_simp)
  refine (g_load _ _ _).mono ?_; rintro e u ⟨g, n, c, rfl, h⟩; replace A := Lib.hid (A.out.more h.out); clear h
  refine hK.out _ _ (HB.out _ A.out.bl) ?_
  (clear hK KK; try simp only [Act.put, List.setIfInBounds_toArray, List.set_cons_zero, List.set_cons_succ])
  (repeat ((first | (refine wpSeq_take (v := ?_) rfl (by rfl) (fun wq hSq => ?_) ?_; rotate_left; (focus ((try dsimp only at hSq); go_simp; try with_reducible rfl))) | refine wpSeq_skip rfl (by rfl) ?_); simp only [Act.put, List.setIfInBounds_toArray, List.set_cons_zero, List.set_cons_succ]))
  (refine wpSeq_do rfl (by rfl) (fun KK hK => ?_); go_simp)
  refine (g_arg _ _).mono ?_; rintro e u ⟨g, n, c, rfl, h⟩; replace A := Lib.hid (A.out.more h.out); clear h
  refine hK.out _ _ (HB.out _ A.out.bl) ?_
  (clear hK KK; try simp only [Act.put, List.setIfInBounds_toArray, List.set_cons_zero, List.set_cons_succ])
  (repeat ((first | (refine wpSeq_take (v := ?_) rfl (by rfl) (fun wq hSq => ?_) ?_; rotate_left; (focus ((try dsimp only at hSq); go_simp; try with_reducible rfl))) | refine wpSeq_skip rfl (by rfl) ?_); simp only [Act.put, List.setIfInBounds_toArray, List.set_cons_zero, List.set_cons_succ]))
  (refine wpSeq_do rfl (by rfl) (fun KK hK => ?_); go_simp)
  refine (g_two _ _).mono ?_; rintro e u ⟨g, n, c, rfl, h⟩; replace A := Lib.hid (A.out.more h.out); clear h
  refine hK.out _ _ (HB.out _ A.out.bl) ?_
  (clear hK KK; try simp only [Act.put, List.setIfInBounds_toArray, List.set_cons_zero, List.set_cons_succ])
  (repeat ((first | (refine wpSeq_take (v := ?_) rfl (by rfl) (fun wq hSq => ?_) ?_; rotate_left; (focus ((try dsimp only at hSq); go_simp; try with_reducible rfl))) | refine wpSeq_skip rfl (by rfl) ?_); simp only [Act.put, List.setIfInBounds_toArray, List.set_cons_zero, List.set_cons_succ]))
  (refine wpSeq_do rfl (by rfl) (fun KK hK => ?_); go_simp)
  refine (g_to _ _ _).mono ?_; rintro e u ⟨g, n, c, rfl, h⟩; replace A := Lib.hid (A.out.more h.out); clear h
  refine hK.out _ _ (HB.out _ A.out.bl) ?_
  (clear hK KK; try simp only [Act.put, List.setIfInBounds_toArray, List.set_cons_zero, List.set_cons_succ])
  (repeat ((first | (refine wpSeq_take (v := ?_) rfl (by rfl) (fun wq hSq => ?_) ?_; rotate_left; (focus ((try dsimp only at hSq); go_simp; try with_reducible rfl))) | refine wpSeq_skip rfl (by rfl) ?_); simp only [Act.put, List.setIfInBounds_toArray, List.set_cons_zero, List.set_cons_succ]))
  (refine wpSeq_do rfl (by rfl) (fun KK hK => ?_); go_simp)
  refine (g_load _ _ _).mono ?_; rintro e u ⟨g, n, c, rfl, h⟩; replace A := Lib.hid (A.out.more h.out); clear h
  refine hK.out _ _ (HB.out _ A.out.bl) ?_
  (clear hK KK; try simp only [Act.put, List.setIfInBounds_toArray, List.set_cons_zero, List.set_cons_succ])
  (repeat ((first | (refine wpSeq_take (v := ?_) rfl (by rfl) (fun wq hSq => ?_) ?_; rotate_left; (focus ((try dsimp only at hSq); go_simp; try with_reducible rfl))) | refine wpSeq_skip rfl (by rfl) ?_); simp only [Act.put, List.setIfInBounds_toArray, List.set_cons_zero, List.set_cons_succ]))
  (refine wpSeq_do rfl (by rfl) (fun KK hK => ?_); go_simp)
  refine (g_arg _ _).mono ?_; rintro e u ⟨g, n, c, rfl, h⟩; replace A := Lib.hid (A.out.more h.out); clear h
  refine hK.out _ _ (HB.out _ A.out.bl) ?_
  (clear hK KK; try simp only [Act.put, List.setIfInBounds_toArray, List.set_cons_zero, List.set_cons_succ])
  (repeat ((first | (refine wpSeq_take (v := ?_) rfl (by rfl) (fun wq hSq => ?_) ?_; rotate_left; (focus ((try dsimp only at hSq); go_simp; try with_reducible rfl))) | refine wpSeq_skip rfl (by rfl) ?_); simp only [Act.put, List.setIfInBounds_toArray, List.set_cons_zero, List.set_cons_succ]))
  (refine wpSeq_do rfl (by rfl) (fun KK hK => ?_); go_simp)
  refine (g_two _ _).mono ?_; rintro e u ⟨g, n, c, rfl, h⟩; replace A := Lib.hid (A.out.more h.out); clear h
  refine hK.out _ _ (HB.out _ A.out.bl) ?_
  (clear hK KK; try simp only [Act.put, List.setIfInBounds_toArray, List.set_cons_zero, List.set_cons_succ])
  (repeat ((first | (refine wpSeq_take (v := ?_) rfl (by rfl) (fun wq hSq => ?_) ?_; rotate_left; (focus ((try dsimp only at hSq); go_simp; try with_reducible rfl))) | refine wpSeq_skip rfl (by rfl) ?_); simp only [Act.put, List.setIfInBounds_toArray, List.set_cons_zero, List.set_cons_succ]))
  (refine wpSeq_do rfl (by rfl) (fun KK hK => ?_); go_simp)
  refine (g_turn hB hR _).mono ?_; rintro e u ⟨g, n, c, rfl, h⟩; replace A := Lib.hid (A.out.more h.out); clear h
  refine hK.out _ _ (HB.out _ A.out.bl) ?_
  (clear hK KK; try simp only [Act.put, List.setIfInBounds_toArray, List.set_cons_zero, List.set_cons_succ])
  (repeat ((first | (refine wpSeq_take (v := ?_) rfl (by rfl) (fun wq hSq => ?_) ?_; rotate_left; (focus ((try dsimp only at hSq); go_simp; try with_reducible rfl))) | refine wpSeq_skip rfl (by rfl) ?_); simp only [Act.put, List.setIfInBounds_toArray, List.set_cons_zero, List.set_cons_succ]))
  (refine wpSeq_do rfl (by rfl) (fun KK hK => ?_); go_simp)
  refine hK.out _ _ (HB.out _ (A.out.on (bl1 _ _)).bl) ?_
  (clear hK KK; try simp only [Act.put, List.setIfInBounds_toArray, List.set_cons_zero, List.set_cons_succ])
  (repeat ((first | (refine wpSeq_take (v := ?_) rfl (by rfl) (fun wq hSq => ?_) ?_; rotate_left; (focus ((try dsimp only at hSq); go_simp; try with_reducible rfl))) | refine wpSeq_skip rfl (by rfl) ?_); simp only [Act.put, List.setIfInBounds_toArray, List.set_cons_zero, List.set_cons_succ]))
  (refine wpSeq_do rfl (by rfl) (fun KK hK => ?_); go_simp)
  refine (g_walk hB hR ((A.out.take 8).parts rfl) rfl (Nat.le_of_ble_eq_true rfl) (Nat.le_of_ble_eq_true rfl) (Nat.le_of_ble_eq_true rfl) _ _).mono ?_; rintro e u ⟨g, n, c, rfl, h⟩; replace A := Lib.hid ((A.out.drop 8).over h.out); clear h
  refine hK.out _ _ (HB.out _ A.out.bl) ?_
  (clear hK KK; try simp only [Act.put, List.setIfInBounds_toArray, List.set_cons_zero, List.set_cons_succ])
  (repeat ((first | (refine wpSeq_take (v := ?_) rfl (by rfl) (fun wq hSq => ?_) ?_; rotate_left; (focus ((try dsimp only at hSq); go_simp; try with_reducible rfl))) | refine wpSeq_skip rfl (by rfl) ?_); simp only [Act.put, List.setIfInBounds_toArray, List.set_cons_zero, List.set_cons_succ]))
  (refine wpSeq_do rfl (by rfl) (fun KK hK => ?_); go_simp)
  refine hK.out _ _ (HB.out _ (A.out.on (bl1 _ _)).bl) ?_
  (clear hK KK; try simp only [Act.put, List.setIfInBounds_toArray, List.set_cons_zero, List.set_cons_succ])
  (repeat ((first | (refine wpSeq_take (v := ?_) rfl (by rfl) (fun wq hSq => ?_) ?_; rotate_left; (focus ((try dsimp only at hSq); go_simp; try with_reducible rfl))) | refine wpSeq_skip rfl (by rfl) ?_); simp only [Act.put, List.setIfInBounds_toArray, List.set_cons_zero, List.set_cons_succ]))
  (refine wpSeq_do rfl (by rfl) (fun KK hK => ?_); go_simp)
  refine (join_acc A.out rfl rfl (Nat.le_of_ble_eq_true rfl) (Nat.le_of_ble_eq_true rfl) (Nat.le_of_ble_eq_true rfl)).mono ?_; rintro e u ⟨g, n, c, rfl, hZ⟩; clear A
  refine hK.out _ _ (HB.out _ hZ.out.2) ?_
  (clear hK KK; try simp only [Act.put, List.setIfInBounds_toArray, List.set_cons_zero, List.set_cons_succ])
  (repeat ((first | (refine wpSeq_take (v := ?_) rfl (by rfl) (fun wq hSq => ?_) ?_; rotate_left; (focus ((try dsimp only at hSq); go_simp; try with_reducible rfl))) | refine wpSeq_skip rfl (by rfl) ?_); simp only [Act.put, List.setIfInBounds_toArray, List.set_cons_zero, List.set_cons_succ]))
  refine wpSeq_nil ?_
  go_wp2_with fail
  go_ret
  exact ⟨g, n, c, rfl, hZ.out.1, (bl1 w _).trans (hZ.out.2.mono (by simp))⟩
def oRelink (_B _R : Int) (Ls : List (List O)) : List O := ([oGet (2), oRead, (Ls).flatten, oGet (3), oTwo (3), oTwo (1), oGet (2), oWrite]).flatten
theorem oRelink_len (B R : Int) (Ls : List (List O)) : (oRelink B R Ls).length = sumL Ls + 7 := by simp [oRelink, sumL, oTwo_len, oGet_len, oRead_len, oWrite_len]; try omega
set_option maxHeartbeats 1000000 in
set_option maxRecDepth 100000 in
theorem g_relink (_hB : 0 ≤ B ∧ B ≤ 256) (_hR : 0 ≤ R ∧ R ≤ 16) {b k cc : Nat} {Ls : List (List O)} (hp : Parts w b Ls) (hk : Ls.length = k) (h0 : 0 < sumL Ls) (h1 : sumL Ls ≤ 100) (h2 : k ≤ 4096)  : Calls Tryz.prog 86 #[.agg #[.int .i64 B, .int .i64 R], .slice (some ⟨b, 0, none⟩) k cc] w fun e w' => Gv w (oRelink B R Ls) e w' := by
  have HP : Hid (Parts (w.alloc (.cells #[.int .i64 B, .int .i64 R] 83)) b Ls) := hp.on (bl1 _ _)
  have HK := Lib.hid hk
  have H0 := Lib.hid h0
  have H1 : Hid (sumL Ls ≤ 4096) := Nat.le_trans h1 (by decide)
  have H3 := Lib.hid h1
  have H2 := Lib.hid h2
  clear hp hk h0 h1 h2
  have A : Hid (Acc (w.alloc (.cells #[.int .i64 B, .int .i64 R] 83)) (w.alloc (.cells #[.int .i64 B, .int .i64 R] 83)) []) := acc_nil (Below.refl _ _)
  go_enter Tryz.func86, Tryz.ntmps86
  go_wp2_with (first
    | (go_at_call 124; refine (join_parts (HP.out.on A.out.bl) HK.out H0.out H1.out H2.out).mono ?_; rintro e u ⟨g, n, c, rfl, h⟩; replace A := Lib.hid (A.out.more h.out); have HJ := Lib.hid (And.intro H0.out H3.out); clear h HP HK H0 H1 H2 H3)
    | (go_at_call 124; refine (join_acc A.out rfl rfl (by have h7 := HJ.out.2; simp [sumL] at h7; simp [sumL, oTwo_len, oGet_len, oRead_len, oWrite_len] <;> omega) (by have h7 := HJ.out.2; simp [sumL] at h7; simp [sumL, oTwo_len, oGet_len, oRead_len, oWrite_len] <;> omega) (Nat.le_of_ble_eq_true rfl)).mono ?_; rintro e u ⟨g, n, c, rfl, hZ⟩; clear A)
    | (go_at_call 83; refine (g_get _ _).mono ?_; rintro e u ⟨g, n, c, rfl, h⟩; replace A := Lib.hid (A.out.more h.out); clear h)
    | (go_at_call 127; refine (g_read _).mono ?_; rintro e u ⟨g, n, c, rfl, h⟩; replace A := Lib.hid (A.out.more h.out); clear h)
    | (go_at_call 78; refine (g_two _ _).mono ?_; rintro e u ⟨g, n, c, rfl, h⟩; replace A := Lib.hid (A.out.more h.out); clear h)
    | (go_at_call 85; refine (g_write _).mono ?_; rintro e u ⟨g, n, c, rfl, h⟩; replace A := Lib.hid (A.out.more h.out); clear h))
  go_ret
  exact ⟨g, n, c, rfl, hZ.out.1, (bl1 w _).trans (hZ.out.2.mono (by simp))⟩
def oGrow (B R : Int) (k : Int) : List O := ([oFolded B R (B + 1), oPush (k), oTwo (1), oPush (B + 1), oWrite]).flatten
theorem oGrow_len (B R : Int) (k : Int) : (oGrow B R k).length = 8 := rfl
set_option maxHeartbeats 1000000 in
set_option maxRecDepth 100000 in
theorem g_grow (hB : 0 ≤ B ∧ B ≤ 256) (hR : 0 ≤ R ∧ R ≤ 16) (k : Int) (w : World) : Calls Tryz.prog 87 #[.agg #[.int .i64 B, .int .i64 R], .int .i64 k] w fun e w' => Gv w (oGrow B R k) e w' := by
  have A : Hid (Acc (w.alloc (.cells #[.int .i64 B, .int .i64 R] 83)) ((w.alloc (.cells #[.int .i64 B, .int .i64 R] 83)).drew) []) := acc_nil ((Same.drew _).below _)
  have HB : Hid (∀ u, Below (w.alloc (.cells #[.int .i64 B, .int .i64 R] 83)).heap.size (w.alloc (.cells #[.int .i64 B, .int .i64 R] 83)) u → u.cell? ⟨w.heap.size, 0, none⟩ = some (.int .i64 B) ∧ u.cell? ⟨w.heap.size, 1, none⟩ = some (.int .i64 R)) := fun u k => by
    have := cells2_of ((k.block _ (by simp)).trans (heap_alloc_new w (.cells #[.int .i64 B, .int .i64 R] 83)))
    exact ⟨this.1, this.2.1⟩
  go_enter Tryz.func87, Tryz.ntmps87
  go_wp2_with fail
  refine wp_region_seq (fun u => u.cell? ⟨w.heap.size, 0, none⟩ = some (.int .i64 B) ∧ u.cell? ⟨w.heap.size, 1, none⟩ = some (.int .i64 R)) ((0, true) :: (1, true) :: (4, true) :: (7, true) :: (2, false) :: (3, false) :: (5, false) :: (6, false) :: (8, false) :: (9, false) :: (10, false) :: (11, false) :: (12, false) :: (13, true) :: []) follows (by kernel_rfl) (fun _ _ _ _ _ h => h) (HB.out _ ((Same.drew _).below _)) ?_
  (repeat ((first | (refine wpSeq_take (v := ?_) rfl (by rfl) (fun wq hSq => ?_) ?_; rotate_left; (focus ((try dsimp only at hSq); go_simp; try with_reducible rfl))) | refine wpSeq_skip rfl (by rfl) ?_); simp only [Act.put, List.setIfInBounds_toArray, List.set_cons_zero, List.set_cons_succ]))
  (refine wpSeq_do rfl (by rfl) (fun KK hK => ?_); go_simp)
  refine (g_count hB hR _).mono ?_; rintro e u ⟨rfl, h⟩; replace A := Lib.hid (A.out.on h); clear h
  refine hK.out _ _ (HB.out _ A.out.bl) ?_
  (clear hK KK; try simp only [Act.put, List.setIfInBounds_toArray, List.set_cons_zero, List.set_cons_succ])
  (repeat ((first | (refine wpSeq_take (v := ?_) rfl (by rfl) (fun wq hSq => ?_) ?_; rotate_left; (focus ((try dsimp only at hSq); go_simp; try with_reducible rfl))) | refine wpSeq_skip rfl (by rfl) ?_); simp only [Act.put, List.setIfInBounds_toArray, List.set_cons_zero, List.set_cons_succ]))
  (refine wpSeq_do rfl (by rfl) (fun KK hK => ?_); go_simp)
  refine (g_folded hB hR _ _).mono ?_; rintro e u ⟨g, n, c, rfl, h⟩; replace A := Lib.hid (A.out.more h.out); clear h
  refine hK.out _ _ (HB.out _ A.out.bl) ?_
  (clear hK KK; try simp only [Act.put, List.setIfInBounds_toArray, List.set_cons_zero, List.set_cons_succ])
  (repeat ((first | (refine wpSeq_take (v := ?_) rfl (by rfl) (fun wq hSq => ?_) ?_; rotate_left; (focus ((try dsimp only at hSq); go_simp; try with_reducible rfl))) | refine wpSeq_skip rfl (by rfl) ?_); simp only [Act.put, List.setIfInBounds_toArray, List.set_cons_zero, List.set_cons_succ]))
  (refine wpSeq_do rfl (by rfl) (fun KK hK => ?_); go_simp)
  refine (g_push _ _).mono ?_; rintro e u ⟨g, n, c, rfl, h⟩; replace A := Lib.hid (A.out.more h.out); clear h
  refine hK.out _ _ (HB.out _ A.out.bl) ?_
  (clear hK KK; try simp only [Act.put, List.setIfInBounds_toArray, List.set_cons_zero, List.set_cons_succ])
  (repeat ((first | (refine wpSeq_take (v := ?_) rfl (by rfl) (fun wq hSq => ?_) ?_; rotate_left; (focus ((try dsimp only at hSq); go_simp; try with_reducible rfl))) | refine wpSeq_skip rfl (by rfl) ?_); simp only [Act.put, List.setIfInBounds_toArray, List.set_cons_zero, List.set_cons_succ]))
  (refine wpSeq_do rfl (by rfl) (fun KK hK => ?_); go_simp)
  refine (g_two _ _).mono ?_; rintro e u ⟨g, n, c, rfl, h⟩; replace A := Lib.hid (A.out.more h.out); clear h
  refine hK.out _ _ (HB.out _ A.out.bl) ?_
  (clear hK KK; try simp only [Act.put, List.setIfInBounds_toArray, List.set_cons_zero, List.set_cons_succ])
  (repeat ((first | (refine wpSeq_take (v := ?_) rfl (by rfl) (fun wq hSq => ?_) ?_; rotate_left; (focus ((try dsimp only at hSq); go_simp; try with_reducible rfl))) | refine wpSeq_skip rfl (by rfl) ?_); simp only [Act.put, List.setIfInBounds_toArray, List.set_cons_zero, List.set_cons_succ]))
  (refine wpSeq_do rfl (by rfl) (fun KK hK => ?_); go_simp)
  refine (g_count hB hR _).mono ?_; rintro e u ⟨rfl, h⟩; replace A := Lib.hid (A.out.on h); clear h
  refine hK.out _ _ (HB.out _ A.out.bl) ?_
  (clear hK KK; try simp only [Act.put, List.setIfInBounds_toArray, List.set_cons_zero, List.set_cons_succ])
  (repeat ((first | (refine wpSeq_take (v := ?_) rfl (by rfl) (fun wq hSq => ?_) ?_; rotate_left; (focus ((try dsimp only at hSq); go_simp; try with_reducible rfl))) | refine wpSeq_skip rfl (by rfl) ?_); simp only [Act.put, List.setIfInBounds_toArray, List.set_cons_zero, List.set_cons_succ]))
  (refine wpSeq_do rfl (by rfl) (fun KK hK => ?_); go_simp)
  refine (g_push _ _).mono ?_; rintro e u ⟨g, n, c, rfl, h⟩; replace A := Lib.hid (A.out.more h.out); clear h
  refine hK.out _ _ (HB.out _ A.out.bl) ?_
  (clear hK KK; try simp only [Act.put, List.setIfInBounds_toArray, List.set_cons_zero, List.set_cons_succ])
  (repeat ((first | (refine wpSeq_take (v := ?_) rfl (by rfl) (fun wq hSq => ?_) ?_; rotate_left; (focus ((try dsimp only at hSq); go_simp; try with_reducible rfl))) | refine wpSeq_skip rfl (by rfl) ?_); simp only [Act.put, List.setIfInBounds_toArray, List.set_cons_zero, List.set_cons_succ]))
  (refine wpSeq_do rfl (by rfl) (fun KK hK => ?_); go_simp)
  refine (g_write _).mono ?_; rintro e u ⟨g, n, c, rfl, h⟩; replace A := Lib.hid (A.out.more h.out); clear h
  refine hK.out _ _ (HB.out _ A.out.bl) ?_
  (clear hK KK; try simp only [Act.put, List.setIfInBounds_toArray, List.set_cons_zero, List.set_cons_succ])
  (repeat ((first | (refine wpSeq_take (v := ?_) rfl (by rfl) (fun wq hSq => ?_) ?_; rotate_left; (focus ((try dsimp only at hSq); go_simp; try with_reducible rfl))) | refine wpSeq_skip rfl (by rfl) ?_); simp only [Act.put, List.setIfInBounds_toArray, List.set_cons_zero, List.set_cons_succ]))
  (refine wpSeq_do rfl (by rfl) (fun KK hK => ?_); go_simp)
  refine hK.out _ _ (HB.out _ (A.out.on (bl1 _ _)).bl) ?_
  (clear hK KK; try simp only [Act.put, List.setIfInBounds_toArray, List.set_cons_zero, List.set_cons_succ])
  (repeat ((first | (refine wpSeq_take (v := ?_) rfl (by rfl) (fun wq hSq => ?_) ?_; rotate_left; (focus ((try dsimp only at hSq); go_simp; try with_reducible rfl))) | refine wpSeq_skip rfl (by rfl) ?_); simp only [Act.put, List.setIfInBounds_toArray, List.set_cons_zero, List.set_cons_succ]))
  (refine wpSeq_do rfl (by rfl) (fun KK hK => ?_); go_simp)
  refine (join_acc A.out rfl rfl (Nat.le_of_ble_eq_true rfl) (Nat.le_of_ble_eq_true rfl) (Nat.le_of_ble_eq_true rfl)).mono ?_; rintro e u ⟨g, n, c, rfl, hZ⟩; clear A
  refine hK.out _ _ (HB.out _ hZ.out.2) ?_
  (clear hK KK; try simp only [Act.put, List.setIfInBounds_toArray, List.set_cons_zero, List.set_cons_succ])
  (repeat ((first | (refine wpSeq_take (v := ?_) rfl (by rfl) (fun wq hSq => ?_) ?_; rotate_left; (focus ((try dsimp only at hSq); go_simp; try with_reducible rfl))) | refine wpSeq_skip rfl (by rfl) ?_); simp only [Act.put, List.setIfInBounds_toArray, List.set_cons_zero, List.set_cons_succ]))
  refine wpSeq_nil ?_
  go_wp2_with fail
  go_ret
  exact ⟨g, n, c, rfl, hZ.out.1, (bl1 w _).trans (hZ.out.2.mono (by simp))⟩
end
end Go.Proofs.YtpboiggakehpoaaGreatDoor.Tr
namespace Go.Proofs.YtpboiggakehpoaaGreatDoor.As
open Go.ChangeShapes Go.WideShapes Go.ChangeAt Go.RowKit Num Go.Maps
attribute [local go_sem] run_store_float frombits_run bits_run
def On (w u : World) (b : Nat) (s : Bs) : Prop := ∃ F, Bld u b F s ∧ Abv w.heap.size F ∧ Below w.heap.size w u
section
variable {w u u' : World} {b : Nat} {s s' : Bs}
theorem on_turn {F F' : List Nat} (a : Abv w.heap.size F) (k : Below w.heap.size w u) (h' : Bld u' b F' s') (t : Turn F F' u u') : On w u' b s' := ⟨F', h', a.turn k.size t, k.trans (t.below a k.size)⟩
theorem On.label (h : On w u b s) : Calls Tryz.prog 123 #[.pointer (some ⟨b, 0, none⟩)] u fun e w' => e = .returned (.int .i64 s.labV) ∧ Hid (On w w' b s.lab) := by
  obtain ⟨F, h1, h2, h3⟩ := h
  refine (label_any h1).mono ?_
  rintro e w' ⟨F', rfl, q, t⟩
  exact ⟨rfl, on_turn h2 h3 q t⟩
theorem On.on (h : On w u b s) (k : Below u.heap.size u u') : On w u' b s := by
  obtain ⟨F, h1, h2, h3⟩ := h
  exact ⟨F, h1.on k, h2, h3.trans (k.mono h3.size)⟩
theorem new_on (w u : World) (k : Below w.heap.size w u) (t : Int) : Calls Tryz.prog 122 #[.int .i64 t] u fun e w' => ∃ b, e = .returned (.pointer (some ⟨b, 0, none⟩)) ∧ Hid (On w w' b (new t)) := by
  refine (new_any t u).mono ?_
  rintro e w' ⟨b, F, rfl, h1, h2, h3⟩
  exact ⟨b, rfl, F, h1, h2.mono k.size, k.trans (h3.mono k.size)⟩
theorem On.prog (h : On w u b s) (hT : Shaped5 w) (hl : s.code.length < lim) (hwf : ∀ l, hasM s.marks l = true → Wf l) : Calls Tryz.prog 126 #[.pointer (some ⟨b, 0, none⟩)] u fun e w' => ∃ t p n c, e = .returned (.tuple #[.agg #[.int .i64 t, .slice p n c], .int .i64 s.ans]) ∧ Hid (PrE u w' s t p n c ∧ On w w' b s) := by
  have h0 := h
  obtain ⟨F, h1, h2, h3⟩ := h
  refine (prog_any h1 (hT.on h3) hl hwf).mono ?_
  rintro e w' ⟨t, p, n, c, rfl, q⟩
  exact ⟨t, p, n, c, rfl, q.out, h0.on q.out.1⟩
end
end Go.Proofs.YtpboiggakehpoaaGreatDoor.As
namespace Go.Proofs.YtpboiggakehpoaaGreatDoor.Tr
open Go.ChangeShapes Go.WideShapes Go.ChangeAt Go.RowKit Num Go.Maps As
open Go.ChangeMaps Go.MapKept
attribute [local go_sem] run_store_float frombits_run bits_run
def addB (s : Bs) (o : O) : Bs := if o.kind = 1 then s.add ⟨1, 0, X o.n⟩ none else if o.kind = 2 then s.add ⟨o.code, 0, 0⟩ (some o.n) else if o.kind = 3 then s.mark o.n else s.add ⟨o.code, o.n, 0⟩ none
def labs : Nat → Bs → Bs
  | 0, s => s
  | k + 1, s => (labs k s).lab
def bsOf (t : Int) (l : List O) : Bs := l.foldl addB (labs 10 (new t))
theorem addB_len (s : Bs) (o : O) : (addB s o).code.length ≤ s.code.length + 1 ∧ (addB s o).marks.length ≤ s.marks.length + 1 := by
  unfold addB
  split
  · exact ⟨by simp [Bs.add], Nat.le_succ _⟩
  · split
    · exact ⟨by simp [Bs.add], Nat.le_succ _⟩
    · split
      · exact ⟨Nat.le_succ _, by simp [Bs.mark]⟩
      · exact ⟨by simp [Bs.add], Nat.le_succ _⟩
theorem foldB_len : ∀ (l : List O) (s : Bs), (l.foldl addB s).code.length ≤ s.code.length + l.length ∧ (l.foldl addB s).marks.length ≤ s.marks.length + l.length
  | [], s => ⟨Nat.le_refl _, Nat.le_refl _⟩
  | o :: l, s => by
    have h1 := foldB_len l (addB s o)
    have h2 := addB_len s o
    simp only [List.foldl_cons, List.length_cons]
    omega
theorem labs_len (k : Nat) (t : Int) : (labs k (new t)).code = [] ∧ (labs k (new t)).marks = [] ∧ (labs k (new t)).tag = t := by
  induction k with
  | zero => exact ⟨rfl, rfl, rfl⟩
  | succ k ih =>
    have e : labs (k + 1) (new t) = (labs k (new t)).lab := rfl
    rw [e]
    unfold Bs.lab
    split <;> exact ih
theorem fold_tag : ∀ (l : List O) (s : Bs), (l.foldl addB s).tag = s.tag
  | [], _ => rfl
  | o :: l, s => by
    refine (fold_tag l (addB s o)).trans ?_
    unfold addB
    split
    · rfl
    · split
      · rfl
      · split <;> rfl
theorem fold_marks : ∀ (l : List O) (s : Bs), (∀ o ∈ l, o.kind = 2 ∨ o.kind = 3 → Wf o.n) → (∀ x, hasM s.marks x = true → Wf x) → ∀ x, hasM (l.foldl addB s).marks x = true → Wf x
  | [], _, _, h => h
  | o :: l, s, hl, h => by
    refine fold_marks l (addB s o) (fun q hq => hl q (List.mem_cons_of_mem _ hq)) ?_
    intro x hx
    unfold addB at hx
    split at hx
    · exact h x hx
    · split at hx
      · exact h x hx
      · split at hx
        · rename_i h3
          rw [show (s.mark o.n).marks = (o.n, s.code.length) :: s.marks from rfl, hasM_cons, Bool.or_eq_true, decide_eq_true_eq] at hx
          rcases hx with hx | hx
          · rw [← hx]; exact hl o (List.mem_cons_self ..) (.inr h3)
          · exact h x hx
        · exact h x hx
theorem flat3 : ∀ (l : List O) (i : Nat) (h : i < l.length) (j : Nat), j < 3 → (opC l)[i * 3 + j]? = ([.int .i64 l[i].kind, .int .i64 l[i].code, .int .i64 l[i].n] : List Value)[j]?
  | [], i, h, _, _ => absurd h (by simp)
  | o :: l, 0, _, j, hj => by
    show ([.int .i64 o.kind, .int .i64 o.code, .int .i64 o.n] ++ opC l)[0 * 3 + j]? = _
    rw [Nat.zero_mul, Nat.zero_add, List.getElem?_append_left (by simpa using hj)]
    rfl
  | o :: l, i + 1, h, j, hj => by
    show ([.int .i64 o.kind, .int .i64 o.code, .int .i64 o.n] ++ opC l)[(i + 1) * 3 + j]? = _
    rw [List.getElem?_append_right (by simp; omega)]
    have e : (i + 1) * 3 + j - [Value.int .i64 o.kind, .int .i64 o.code, .int .i64 o.n].length = i * 3 + j := by simp; omega
    rw [e]
    exact flat3 l i (by simpa using h) j hj
section
variable {w u : World} {b : Nat} {s : Bs}
set_option maxHeartbeats 1000000 in
set_option maxRecDepth 100000 in
theorem g_add {F : List Nat} (h : Bld u b F s) (k c n : Int) (hw : k = 2 ∨ k = 3 → Wf n) (hl : s.code.length < lim) (hm : s.marks.length < maxLen) : Calls Tryz.prog 125 #[.pointer (some ⟨b, 0, none⟩), .agg #[.int .i64 k, .int .i64 c, .int .i64 n]] u fun e w' => e = .returned (.tuple #[]) ∧ Hid (∃ F', Bld w' b F' (addB s ⟨k, c, n⟩) ∧ Turn F F' u w') := by
  have H : Hid (Bld (u.alloc (.cells #[.int .i64 k, .int .i64 c, .int .i64 n] 153)) b F s) := h.on (bl1 _ _)
  have HT : Hid (Turn F F u (u.alloc (.cells #[.int .i64 k, .int .i64 c, .int .i64 n] 153))) := As.turn_alloc F u _
  unfold addB
  by_cases h1 : k = 1
  · subst h1
    have HC := Lib.hid (push_any H.out (X n) hl)
    rw [if_pos rfl]
    clear h H
    go_enter Tryz.func125, Tryz.ntmps125
    go_wp2_with (go_at_call 144; refine HC.out.mono ?_; rintro e w2 ⟨F', rfl, hR⟩; have hR := Lib.hid hR; clear HC)
    go_end0
    exact ⟨rfl, F', hR.out.1, HT.out.trans hR.out.2⟩
  · by_cases h2 : k = 2
    · subst h2
      have HC := Lib.hid (to_any H.out c n (hw (.inl rfl)) hl)
      rw [if_neg (show ¬ (2 : Int) = 1 by decide), if_pos rfl]
      clear h H
      go_enter Tryz.func125, Tryz.ntmps125
      go_wp2_with (go_at_call 145; refine HC.out.mono ?_; rintro e w2 ⟨F', rfl, hR⟩; have hR := Lib.hid hR; clear HC)
      go_end0
      exact ⟨rfl, F', hR.out.1, HT.out.trans hR.out.2⟩
    · by_cases h3 : k = 3
      · subst h3
        have HC := Lib.hid (mark_any H.out (hw (.inr rfl)) hm)
        rw [if_neg (show ¬ (3 : Int) = 1 by decide), if_neg (show ¬ (3 : Int) = 2 by decide), if_pos rfl]
        clear h H
        go_enter Tryz.func125, Tryz.ntmps125
        go_wp2_with (go_at_call 146; refine HC.out.mono ?_; rintro e w2 ⟨F', rfl, hR⟩; have hR := Lib.hid hR; clear HC)
        go_end0
        exact ⟨rfl, F', hR.out.1, HT.out.trans hR.out.2⟩
      · have HC := Lib.hid (add_any H.out c n hl)
        rw [if_neg h1, if_neg h2, if_neg h3]
        have e1 : (k == 1) = false := by simpa using h1
        have e2 : (k == 2) = false := by simpa using h2
        have e3 : (k == 3) = false := by simpa using h3
        clear h H h1 h2 h3
        go_enter Tryz.func125, Tryz.ntmps125
        go_wp2_with (go_at_call 147; refine HC.out.mono ?_; rintro e w2 ⟨F', rfl, hR⟩; have hR := Lib.hid hR; clear HC)
        go_end0
        exact ⟨rfl, F', hR.out.1, HT.out.trans hR.out.2⟩
def OnG (w u : World) (b g : Nat) (s : Bs) : Prop := ∃ F, Bld u b F s ∧ Abv w.heap.size F ∧ Below w.heap.size w u ∧ g ∉ F ∧ g < u.heap.size
theorem OnG.add {g : Nat} {u' : World} (h : OnG w u b g s) (k : Below u.heap.size u u') (kk c n : Int) (hw : kk = 2 ∨ kk = 3 → Wf n) (hl : s.code.length < lim) (hm : s.marks.length < maxLen) : Calls Tryz.prog 125 #[.pointer (some ⟨b, 0, none⟩), .agg #[.int .i64 kk, .int .i64 c, .int .i64 n]] u' fun e w' => e = .returned (.tuple #[]) ∧ Hid (OnG w w' b g (addB s ⟨kk, c, n⟩) ∧ w'.heap[g]? = u.heap[g]? ∧ u.heap.size ≤ w'.heap.size) := by
  obtain ⟨F, h1, h2, h3, h4, h5⟩ := h
  refine (g_add (h1.on k) kk c n hw hl hm).mono ?_
  rintro e w' ⟨rfl, hR⟩
  obtain ⟨F', q1, q2⟩ := hR.out
  have h6 : g < u'.heap.size := Nat.lt_of_lt_of_le h5 k.size
  have h7 : u.heap.size ≤ u'.heap.size := k.size
  have h8 : w.heap.size ≤ u.heap.size := h3.size
  refine ⟨rfl, ⟨F', q1, h2.turn (Nat.le_trans h8 h7) q2, (h3.trans (k.mono h8)).trans (q2.below h2 (Nat.le_trans h8 h7)), fun z => (q2.own g z).elim h4 (fun q => absurd h6 (Nat.not_lt.2 q)), Nat.lt_of_lt_of_le h6 q2.size⟩, (q2.block g h6 h4).trans (k.block g h5), Nat.le_trans h7 q2.size⟩
theorem pg_back {fn : Func} {p : Tmp} (h : fn.results = #[.cell p 26]) {Q : Ending → World → Prop} {a : Act} {w : World} (g : Nat) (t : Int) (po : Option Addr) (n c : Nat) (hp : a.tmps.getD p undef = .pointer (some ⟨g, 0, none⟩))
    (hg : w.heap[g]? = some (.cells #[.int .i64 t, .slice po n c] 26 (0, 0))) (hd : a.defers = []) (hR : Q (.returned (.agg #[.int .i64 t, .slice po n c])) w) : bodyPost Tryz.prog fn Q .ret a w :=
  bodyPost_ret (results_cell_row h _ _ g _ _ _ _ hp hg Tryz.underlying26 rfl (by kernel_rfl)) hd hR
def Pg (W : World) (s : Bs) (t : Int) (e : Ending) (w' : World) : Prop := ∃ p n c, e = .returned (.agg #[.int .i64 t, .slice p n c]) ∧ Hid (n = s.code.length ∧ RowW 86 3 w' p c n (codC (s.filled.map fixI)) ∧ Below W.heap.size W w')
set_option maxHeartbeats 2000000 in
set_option maxRecDepth 100000 in
theorem g_program {w : World} {b k cc : Nat} {Ls : List (List O)} (t : Int) (h : Parts w b Ls) (hk : Ls.length = k) (h0 : 0 < sumL Ls) (h1 : sumL Ls ≤ 4096) (h2 : k ≤ 4096) (hwf : ∀ o ∈ Ls.flatten, o.kind = 2 ∨ o.kind = 3 → Wf o.n) (hT : Shaped5 w) (hans : (bsOf t Ls.flatten).ans = 0) : Calls Tryz.prog 66 #[.int .i64 t, .slice (some ⟨b, 0, none⟩) k cc] w fun e w' => Pg w (bsOf t Ls.flatten) t e w' := by
  have hin : (w.alloc (.cells #[.int .i64 0, .slice none 0 0] 26)).heap[w.heap.size]? = some (.cells #[.int .i64 0, .slice none 0 0] 26 (0, 0)) := heap_alloc_new _ _
  obtain ⟨W, hW⟩ : ∃ W, w.alloc (.cells #[.int .i64 0, .slice none 0 0] 26) = W := ⟨_, rfl⟩
  have hbW : Below w.heap.size w W := hW ▸ bl1 w _
  rw [hW] at hin
  have HT : Hid (Shaped5 W) := hT.on hbW
  have HP : Hid (Parts W b Ls) := h.on hbW
  have HK := Lib.hid hk
  have H0 := Lib.hid h0
  have H1 := Lib.hid h1
  have H2 := Lib.hid h2
  have HWF := Lib.hid hwf
  have HANS := Lib.hid hans
  have HIN := Lib.hid hin
  have HBW := Lib.hid hbW
  have hsW : w.heap.size < W.heap.size := by rw [← hW]; simp
  obtain ⟨l, hl⟩ : ∃ l, Ls.flatten = l := ⟨_, rfl⟩
  rw [hl]
  have HL := Lib.hid hl
  clear h hk h0 h1 h2 hwf hT hans hin hbW hl
  have HEND : Hid (∀ (u : World) (x y : Value), Below W.heap.size W u → Below w.heap.size w ((u.setCell ⟨w.heap.size, 0, none⟩ x).setCell ⟨w.heap.size, 1, none⟩ y) ∧ ((u.setCell ⟨w.heap.size, 0, none⟩ x).setCell ⟨w.heap.size, 1, none⟩ y).heap[w.heap.size]? = some (.cells #[x, y] 26 (0, 0)) ∧ Turn [w.heap.size] [w.heap.size] u ((u.setCell ⟨w.heap.size, 0, none⟩ x).setCell ⟨w.heap.size, 1, none⟩ y)) := fun u x y k => by
    have t4 := (As.turn_set w.heap.size 0 x u).trans (As.turn_set w.heap.size 1 y _)
    have hr := (k.block _ hsW).trans HIN.out
    exact ⟨(HBW.out.trans (k.mono HBW.out.size)).trans (t4.below (fun i hi => by simp at hi; omega) (Nat.le_trans HBW.out.size k.size)), (heap_setCell_same _ _ 1 _ _ _ (heap_setCell_same _ _ 0 _ _ _ hr)).trans rfl, t4⟩
  have HCL : Hid (∀ u, Below W.heap.size W u → w.heap.size < u.heap.size ∧ u.cell? ⟨w.heap.size, 0, none⟩ = some (.int .i64 0) ∧ u.cell? ⟨w.heap.size, 1, none⟩ = some (.slice none 0 0) ∧ (∀ j, u.frozen? ⟨w.heap.size, j, none⟩ = false)) := fun u k => by
    have hr := (k.block _ hsW).trans HIN.out
    have h2 := cells2_of hr
    exact ⟨h2.2.2, h2.1, h2.2.1, fun j => frozen_of_row _ _ _ _ _ hr⟩
  go_enter Tryz.func66, Tryz.ntmps66
  go_wp2_with (go_at_call 122; refine (new_on W W (Below.refl _ _) t).mono ?_; rintro e w1 ⟨bb, rfl, HB⟩)
  go_loopw [12] (fun vi wr => ∃ i : Nat, vi = .int .i64 i ∧ i ≤ 10 ∧ Hid (On W wr bb (labs i (new t)))) (fun vi _ => 10 - (intOf vi).toNat)
  case atStart => exact ⟨0, rfl, Nat.zero_le _, HB.out⟩
  case round =>
    obtain ⟨i, rfl, hi, HI⟩ := hrel
    by_cases hlt : i < 10
    · have hltI : (i : Int) < 10 := by omega
      have HC := Lib.hid HI.out.label
      clear HI HEND HCL HT HP HK H0 H1 H2 HWF HANS HIN HBW HL
      go_wp2_with (go_at_call 123; refine HC.out.mono ?_; rintro e w2 ⟨rfl, hR⟩; clear HC)
      exact ⟨⟨i + 1, by first | rfl | (congr 1), by omega, hR.out⟩, by simp [intOf]; omega⟩
    · have hltI : ¬ (i : Int) < 10 := by omega
      obtain rfl : 10 = i := by omega
      have HON : Hid (∃ F, Bld wr bb F (labs 10 (new t)) ∧ Abv W.heap.size F ∧ Below W.heap.size W wr) := HI.out
      have hbw : Below W.heap.size W wr := by obtain ⟨F, _, _, q⟩ := HON.out; exact q
      have HJ := Lib.hid (join_new (cc := cc) (HP.out.on hbw) HK.out H0.out H1.out H2.out)
      have hblw : Hid (∃ F, Bld wr bb F (labs 10 (new t)) ∧ Abv W.heap.size F ∧ Below W.heap.size W wr ∧ ∀ x ∈ F, x < wr.heap.size) := by
        obtain ⟨F, q1, q2, q3⟩ := HON.out
        exact ⟨F, q1, q2, q3, q1.blw⟩
      clear hbw HI HON
      go_wp2_with (go_at_call 124; refine HJ.out.mono ?_; rintro e w2 ⟨g, n, c, rfl, hJ⟩; clear HJ)
      have HI2 : Hid (OnG W w2 bb g (labs 10 (new t))) := by
        obtain ⟨F, q1, q2, q3, q4⟩ := hblw.out
        exact ⟨F, q1.on hJ.out.1.2, q2, q3.trans (hJ.out.1.2.mono q3.size), fun z => absurd (q4 g z) (Nat.not_lt.2 hJ.out.2), hJ.out.1.1.2.2.blw g (by simp [fpR])⟩
      have hlen : n = l.length := by rw [← HL.out]; exact hJ.out.1.1.1
      have hn63 : n ≤ 4096 := by rw [hlen, ← HL.out]; exact H1.out
      go_loopw [20] (fun vi wq => ∃ i : Nat, vi = .int .i64 i ∧ i ≤ n ∧ Hid (OnG W wq bb g ((l.take i).foldl addB (labs 10 (new t))) ∧ OpsW wq (some ⟨g, 0, none⟩) c n l)) (fun vi _ => n - (intOf vi).toNat)
      case atStart => exact ⟨0, rfl, Nat.zero_le _, HI2.out, by rw [← HL.out]; exact hJ.out.1.1.2.2⟩
      case round =>
        obtain ⟨i, rfl, hi, HQ⟩ := hrel
        by_cases hlt : i < n
        · have hltI : (i : Int) < (n : Int) := by omega
          have hil : i < l.length := by omega
          obtain ⟨g', e', hg, _, _, cg, fg⟩ := HQ.out.2.at (by omega)
          cases e'
          obtain ⟨o, ho⟩ : ∃ o, l[i] = o := ⟨_, rfl⟩
          have hopc : ∀ j, j < 3 → (opC l)[i * 3 + j]? = ([.int .i64 o.kind, .int .i64 o.code, .int .i64 o.n] : List Value)[j]? := fun j hj => by
            rw [← ho]
            exact flat3 l i hil j hj
          have c0 : wr.cell? ⟨g, i * 3, none⟩ = some (.int .i64 o.kind) := (cg _ (by omega)).trans (hopc 0 (by decide))
          have c1 : wr.cell? ⟨g, i * 3 + 1, none⟩ = some (.int .i64 o.code) := (cg _ (by omega)).trans (hopc 1 (by decide))
          have c2 : wr.cell? ⟨g, i * 3 + 2, none⟩ = some (.int .i64 o.n) := (cg _ (by omega)).trans (hopc 2 (by decide))
          have hbnd := foldB_len (l.take i) (labs 10 (new t))
          rw [(labs_len 10 t).1, (labs_len 10 t).2.1, List.length_take, List.length_nil, List.length_nil] at hbnd
          have HW : Hid (o.kind = 2 ∨ o.kind = 3 → Wf o.n) := HWF.out o (by rw [HL.out, ← ho]; exact List.getElem_mem hil)
          have HA : Hid (∀ u, Below wr.heap.size wr u → Calls Tryz.prog 125 #[.pointer (some ⟨bb, 0, none⟩), .agg #[.int .i64 o.kind, .int .i64 o.code, .int .i64 o.n]] u fun e w' => e = .returned (.tuple #[]) ∧ Hid (OnG W w' bb g ((l.take (i + 1)).foldl addB (labs 10 (new t))) ∧ OpsW w' (some ⟨g, 0, none⟩) c n l)) := fun u k => by
            have etk : (l.take (i + 1)).foldl addB (labs 10 (new t)) = addB ((l.take i).foldl addB (labs 10 (new t))) o := by
              rw [List.take_succ_eq_append_getElem hil, List.foldl_append, ho]
              rfl
            rw [etk]
            refine (HQ.out.1.add k o.kind o.code o.n HW.out (by unfold lim; omega) (by unfold maxLen; omega)).mono ?_
            rintro e w' ⟨rfl, hR⟩
            exact ⟨rfl, hR.out.1, HQ.out.2.keep ⟨hR.out.2.2, fun x hx => by rw [show x = g by simpa [fpR] using hx]; exact hR.out.2.1⟩⟩
          clear HQ HW hbnd hopc cg fg ho hil HT HP HK H0 H1 H2 HWF HANS HIN HBW HL HEND HCL hlen hJ HI2 hblw
          go_wp2_with (go_at_call 125; refine (HA.out _ (by first | exact (bl1 _ _) | exact ((bl1 _ _).trans (bl1 _ _)) | exact Below.refl _ _)).mono ?_; rintro e w3 ⟨rfl, hR⟩; clear HA)
          exact ⟨⟨i + 1, by first | rfl | (congr 1), by omega, hR.out⟩, by simp [intOf]; omega⟩
        · have hltI : ¬ (i : Int) < (n : Int) := by omega
          obtain rfl : n = i := by omega
          have etk : l.take n = l := by rw [hlen, List.take_length]
          have HON2 : Hid (On W wr bb (bsOf t l)) := by
            obtain ⟨F, q1, q2, q3, _, _⟩ := HQ.out.1
            rw [etk] at q1
            exact ⟨F, q1, q2, q3⟩
          have hbnd := foldB_len l (labs 10 (new t))
          rw [(labs_len 10 t).1, (labs_len 10 t).2.1, List.length_nil, List.length_nil] at hbnd
          have HPR := Lib.hid (HON2.out.prog HT.out (by show (l.foldl addB (labs 10 (new t))).code.length < lim; unfold lim; omega) (fold_marks l _ (fun o ho => HWF.out o (HL.out ▸ ho)) (fun x hx => by rw [(labs_len 10 t).2.1] at hx; cases hx)))
          have hans : (bsOf t l).ans = 0 := by rw [← HL.out]; exact HANS.out
          rw [hans] at HPR
          have HZ : Hid (∀ w' t' p n' c', PrE wr w' (bsOf t l) t' p n' c' ∧ On W w' bb (bsOf t l) → t' = t ∧ n' = (bsOf t l).code.length ∧ RowW 86 3 w' p c' n' (codC ((bsOf t l).filled.map fixI)) ∧ Below W.heap.size W w' ∧ Abv W.heap.size (fpR p)) := fun w' t' p n' c' ⟨k1, k2⟩ => by
            have hbq : Below W.heap.size W wr := by obtain ⟨F, _, _, q⟩ := HON2.out; exact q
            obtain ⟨z1, z2, ⟨z3, z4, z5, z6⟩ | ⟨z3, _⟩⟩ := k1
            · exact ⟨z4.trans (by unfold bsOf; exact fold_tag l _ |>.trans (labs_len 10 t).2.2), z5, z6, hbq.trans (z1.mono hbq.size), z2.mono hbq.size⟩
            · exact absurd hans z3
          clear HQ HON2 hbnd HT HP HK H0 H1 H2 HWF HANS HIN HL hJ HI2 hblw hlen etk hans
          go_wp2_with (go_at_call 126; refine HPR.out.mono ?_; rintro e w3 ⟨t', p, n', c', rfl, hR⟩; obtain ⟨y1, y2, y3, y4, y5⟩ := HZ.out _ _ _ _ _ hR.out; subst y1; have hF := Lib.hid (And.intro y2 (And.intro y3 (And.intro y4 y5))); obtain ⟨x1, x2, x3, x4⟩ := HCL.out _ y4; have x40 := x4 0; have x41 := x4 1; clear x4 y2 y3 y4 y5 hR HPR HZ)
          obtain ⟨f1, f2, f3, f4⟩ := hF.out
          obtain ⟨g1, g2, g3⟩ := HEND.out w3 (.int .i64 t') (.slice p n' c') f3
          have hlt4 : w.heap.size < ((w3.setCell ⟨w.heap.size, 0, none⟩ (.int .i64 t')).setCell ⟨w.heap.size, 1, none⟩ (.slice p n' c')).heap.size := lt_of_block g2
          refine pg_back rfl w.heap.size t' p n' c' rfl ((Below.heap_alloc _ _ _ hlt4).trans g2) rfl ⟨p, n', c', rfl, f1, (f2.keep (g3.kept (fun x hx z => ?_) f2.blw)).keep (kept_below (bl1 _ _) ?_), g1.trans ((bl1 _ _).mono g1.size)⟩
          · have := f4 x hx
            simp at z
            omega
          · exact (f2.keep (g3.kept (fun x hx z => by have := f4 x hx; simp at z; omega) f2.blw)).blw
end
end Go.Proofs.YtpboiggakehpoaaGreatDoor.Tr
namespace Go.Proofs.YtpboiggakehpoaaGreatDoor.Tr
open Num As
def wfB (l : List O) : Bool := l.all fun o => (o.kind != 2 && o.kind != 3) || (decide (0 ≤ o.n) && decide (o.n ≤ 1000))
theorem wf_all {l : List O} (h : wfB l = true) : ∀ o ∈ l, o.kind = 2 ∨ o.kind = 3 → Wf o.n := by
  intro o ho hk
  have h1 := List.all_eq_true.1 h o ho
  rw [Bool.or_eq_true, Bool.and_eq_true, Bool.and_eq_true, decide_eq_true_eq, decide_eq_true_eq] at h1
  rcases h1 with ⟨h1, h2⟩ | ⟨h1, h2⟩
  · rcases hk with hk | hk <;> rw [hk] at h1 h2
    · exact absurd h1 (by decide)
    · exact absurd h2 (by decide)
  · show (Lit.int .i64 o.n).wf = true
    have e1 : IntKind.i64.min = -9223372036854775808 := by decide
    have e2 : IntKind.i64.max = 9223372036854775807 := by decide
    simp [Lit.wf]
    omega
def getO (_B _R : Int) : List (List O) := [oSearch _B _R, oMark (2), oLoad (1) (1), oEmit, oMark (1), oHalt]
theorem get_code (B R : Int) : (bsOf 1 (getO B R).flatten).filled.map fixI = getC B R := by kernel_rfl
theorem get_ans (B R : Int) : (bsOf 1 (getO B R).flatten).ans = 0 := by kernel_rfl
theorem get_wf (B R : Int) : ∀ o ∈ (getO B R).flatten, o.kind = 2 ∨ o.kind = 3 → Wf o.n := wf_all (by kernel_rfl)
def putO (_B _R : Int) : List (List O) := [oSearch _B _R, oMark (2), oStore (1) (1) ([oArg (1)]), oTell (0), oMark (1), oFolded _B _R (_B + 1), oPush (_R), oTwo (8), oTo (12) (6), oDo (19) (1), oMark (6), oFolded _B _R (_B), oSet (0), oGet (0), oTo (12) (7), oFolded _B _R (_B + 1), oPush (1), oTwo (1), oSet (0), oMark (7), oGoTo _B _R, oLoad (1) (2), oPush (_B), oWrite, oStore (1) (0) ([oArg (0)]), oStore (1) (1) ([oArg (1)]), oStore (1) (2) ([oPush (0)]), oRelink _B _R ([oGet (0)]), oGrow _B _R (1), oTell (1)]
theorem put_code (B R : Int) : (bsOf 2 (putO B R).flatten).filled.map fixI = putCd B R := by kernel_rfl
theorem put_ans (B R : Int) : (bsOf 2 (putO B R).flatten).ans = 0 := by kernel_rfl
theorem put_wf (B R : Int) : ∀ o ∈ (putO B R).flatten, o.kind = 2 ∨ o.kind = 3 → Wf o.n := wf_all (by kernel_rfl)
def delO (_B _R : Int) : List (List O) := [oSearch _B _R, oMark (1), oTell (0), oMark (2), oAhead _B _R, oTo (13) (5), oBehind _B _R, oTo (13) (5), oGet (1), oSet (4), oCell (1) (2), oSet (2), oPush (_R + 1), oSet (3), oWalk _B _R (3) (1) ([oAhead _B _R, oTo (13) (4), oPush (1), oSet (3)]), oMark (4), oStore (4) (0) ([oLoad (1) (0)]), oStore (4) (1) ([oLoad (1) (1)]), oMark (5), oRelink _B _R ([oAhead _B _R, oBehind _B _R, oTwo (1), oGet (0), oTwo (2)]), oStore (1) (2) ([oFolded _B _R (_B)]), oGet (0), oPush (_B), oWrite, oGrow _B _R ((-1)), oTell (1)]
theorem del_code (B R : Int) : (bsOf 2 (delO B R).flatten).filled.map fixI = delC B R := by kernel_rfl
theorem del_ans (B R : Int) : (bsOf 2 (delO B R).flatten).ans = 0 := by kernel_rfl
theorem del_wf (B R : Int) : ∀ o ∈ (delO B R).flatten, o.kind = 2 ∨ o.kind = 3 → Wf o.n := wf_all (by kernel_rfl)
def leastO (_B _R : Int) : List (List O) := [oBegin _B _R, oWalk _B _R (0) (1) ([oGet (1), oSet (4)]), oMark (1), oEmitKept]
theorem least_code (B R : Int) : (bsOf 1 (leastO B R).flatten).filled.map fixI = leastC B R := by kernel_rfl
theorem least_ans (B R : Int) : (bsOf 1 (leastO B R).flatten).ans = 0 := by kernel_rfl
theorem least_wf (B R : Int) : ∀ o ∈ (leastO B R).flatten, o.kind = 2 ∨ o.kind = 3 → Wf o.n := wf_all (by kernel_rfl)
def afterO (_B _R : Int) : List (List O) := [oBegin _B _R, oWalk _B _R (0) (1) ([oArg (0), oLoad (1) (0), oTwo (12), oDo (3) (0), oTo (13) (8), oGet (1), oSet (4), oMark (8), oOne (5), oTurn _B _R]), oMark (1), oEmitKept]
theorem after_code (B R : Int) : (bsOf 1 (afterO B R).flatten).filled.map fixI = afterC B R := by kernel_rfl
theorem after_ans (B R : Int) : (bsOf 1 (afterO B R).flatten).ans = 0 := by kernel_rfl
theorem after_wf (B R : Int) : ∀ o ∈ (afterO B R).flatten, o.kind = 2 ∨ o.kind = 3 → Wf o.n := wf_all (by kernel_rfl)
def lenO (_B _R : Int) : List (List O) := [oFolded _B _R (_B + 1), oEmit, oHalt]
theorem len_code (B R : Int) : (bsOf 1 (lenO B R).flatten).filled.map fixI = lenC B R := by kernel_rfl
theorem len_ans (B R : Int) : (bsOf 1 (lenO B R).flatten).ans = 0 := by kernel_rfl
theorem len_wf (B R : Int) : ∀ o ∈ (lenO B R).flatten, o.kind = 2 ∨ o.kind = 3 → Wf o.n := wf_all (by kernel_rfl)
def allO (_B _R : Int) : List (List O) := [oPush (0), oBegin _B _R, oWalk _B _R (0) (1) ([oGet (1), oPush (1), oSet (3)]), oMark (1), oDo (3) (0), oTo (13) (9), oSet (1), oEmitPair (1), oCell (1) (2), oSet (2), oPush (_R + 1), oSet (3), oTo (11) (0), oMark (9), oHalt]
theorem all_code (B R : Int) : (bsOf 1 (allO B R).flatten).filled.map fixI = allC B R := by kernel_rfl
theorem all_ans (B R : Int) : (bsOf 1 (allO B R).flatten).ans = 0 := by kernel_rfl
theorem all_wf (B R : Int) : ∀ o ∈ (allO B R).flatten, o.kind = 2 ∨ o.kind = 3 → Wf o.n := wf_all (by kernel_rfl)
end Go.Proofs.YtpboiggakehpoaaGreatDoor.Tr
namespace Go.Proofs.YtpboiggakehpoaaGreatDoor.Num
open Ieee
theorem cut_whole (s : Bool) (h d : Nat) : Toward.even.cut s (h * 2 ^ d) d = h := by
  unfold Toward.cut
  rcases Nat.eq_zero_or_pos h with z | z
  · subst z; simp
  · have hne : h * 2 ^ d ≠ 0 := by have := Nat.two_pow_pos d; exact Nat.ne_of_gt (Nat.mul_pos z this)
    have hd : d ≤ (h * 2 ^ d).log2 := by
      rw [Nat.le_log2 hne]
      exact Nat.le_mul_of_pos_left _ z
    rw [Nat.min_eq_left (by omega)]
    simp only [Nat.shiftLeft_eq, Nat.one_mul, Nat.mul_div_cancel _ (Nat.two_pow_pos d), Nat.mul_mod_left, Nat.mul_zero]
    have p := Nat.two_pow_pos d
    have e1 : decide (2 ^ d < 0) = false := decide_eq_false (by omega)
    have e2 : (2 ^ d == 0) = false := by rw [beq_eq_false_iff_ne]; omega
    rw [e1, e2]
    rfl
theorem nearest_exact (s : Bool) (mag k r : Nat) (hr : r < 9218868437227405312) (h : mag * 2 ^ k = val r) : double.nearest s mag (-1074 + k) = double.word s r := by
  unfold Format.nearest
  by_cases z : mag = 0
  · rw [if_pos z]
    subst z
    have r0 : r = 0 := by
      rcases Nat.eq_zero_or_pos r with e | e
      · exact e
      · have := val_lt e; rw [show val 0 = 0 from rfl] at this; omega
    rw [r0]
  · rw [if_neg z]
    have l1 : 2 ^ mag.log2 ≤ mag := Nat.log2_self_le z
    have l2 : mag < 2 ^ (mag.log2 + 1) := Nat.lt_log2_self
    have pk := Nat.two_pow_pos k
    have m1 : 2 ^ (mag.log2 + k) ≤ val r := by rw [← h, Nat.pow_add]; exact Nat.mul_le_mul_right _ l1
    have m2 : val r < 2 ^ (mag.log2 + 1 + k) := by rw [← h, Nat.pow_add]; exact Nat.mul_lt_mul_of_pos_right l2 pk
    generalize mag.log2 = L at *
    have fb : (double.fractionBits : Int) = 52 := rfl
    have lp : double.leastPlace = -1074 := rfl
    have bn : double.binade = 4503599627370496 := rfl
    have ir : double.infRung = 9218868437227405312 := rfl
    dsimp only
    rw [fb, lp, bn, ir]
    by_cases g : r < 4503599627370496
    · have hv : val r = r := by unfold val; rw [if_pos g]
      rw [hv] at h m1
      have hl : L + k < 52 := (Nat.pow_lt_pow_iff_right (by decide : 1 < 2)).1 (Nat.lt_of_le_of_lt m1 g)
      have e : max (-1074 + (k : Int) + L - 52) (-1074) = -1074 := by omega
      rw [e]
      rw [show (-1074 + (k : Int) - -1074).toNat = k by omega, show (-1074 - (-1074 + (k : Int))).toNat = 0 by omega, Nat.shiftLeft_eq, h]
      have c := cut_whole s r 0
      rw [Nat.pow_zero, Nat.mul_one] at c
      rw [c, show (-1074 - -1074 : Int).toNat = 0 from rfl, Nat.zero_mul, Nat.zero_add, Nat.min_eq_left (by omega)]
    · have hv : val r = (4503599627370496 + r % 4503599627370496) * 2 ^ (r / 4503599627370496 - 1) := by unfold val; rw [if_neg g]
      have hq : 1 ≤ r / 4503599627370496 := by omega
      have hrq : r = r / 4503599627370496 * 4503599627370496 + r % 4503599627370496 := by omega
      have hf : r % 4503599627370496 < 4503599627370496 := by omega
      generalize r / 4503599627370496 = q at *
      generalize r % 4503599627370496 = f at *
      have v1 : 2 ^ (52 + (q - 1)) ≤ val r := by rw [hv, Nat.pow_add]; exact Nat.mul_le_mul_right _ (by omega)
      have v2 : val r < 2 ^ (53 + (q - 1)) := by rw [hv, Nat.pow_add]; exact Nat.mul_lt_mul_of_pos_right (by omega) (Nat.two_pow_pos _)
      have a1 : L + k < 53 + (q - 1) := (Nat.pow_lt_pow_iff_right (by decide : 1 < 2)).1 (Nat.lt_of_le_of_lt m1 v2)
      have a2 : 52 + (q - 1) < L + 1 + k := (Nat.pow_lt_pow_iff_right (by decide : 1 < 2)).1 (Nat.lt_of_le_of_lt v1 m2)
      have e : max (-1074 + (k : Int) + L - 52) (-1074) = -1074 + ((q - 1 : Nat) : Int) := by omega
      rw [e]
      have kept : Toward.even.cut s (mag <<< (-1074 + (k : Int) - (-1074 + ((q - 1 : Nat) : Int))).toNat) (-1074 + ((q - 1 : Nat) : Int) - (-1074 + (k : Int))).toNat = 4503599627370496 + f := by
        rw [Nat.shiftLeft_eq]
        by_cases c : q - 1 ≤ k
        · rw [show (-1074 + (k : Int) - (-1074 + ((q - 1 : Nat) : Int))).toNat = k - (q - 1) by omega, show (-1074 + ((q - 1 : Nat) : Int) - (-1074 + (k : Int))).toNat = 0 by omega]
          have e2 : mag * 2 ^ (k - (q - 1)) = 4503599627370496 + f := by
            apply Nat.eq_of_mul_eq_mul_right (Nat.two_pow_pos (q - 1))
            rw [Nat.mul_assoc, ← Nat.pow_add, show k - (q - 1) + (q - 1) = k by omega, h, hv]
          rw [e2]
          have c0 := cut_whole s (4503599627370496 + f) 0
          rw [Nat.pow_zero, Nat.mul_one] at c0
          exact c0
        · rw [show (-1074 + (k : Int) - (-1074 + ((q - 1 : Nat) : Int))).toNat = 0 by omega, show (-1074 + ((q - 1 : Nat) : Int) - (-1074 + (k : Int))).toNat = q - 1 - k by omega, Nat.pow_zero, Nat.mul_one]
          have e2 : mag = (4503599627370496 + f) * 2 ^ (q - 1 - k) := by
            apply Nat.eq_of_mul_eq_mul_right pk
            rw [h, hv, Nat.mul_assoc, ← Nat.pow_add, show q - 1 - k + k = q - 1 by omega]
          rw [e2]
          exact cut_whole s _ _
      rw [kept, show (-1074 + ((q - 1 : Nat) : Int) - -1074).toNat = q - 1 by omega]
      rw [show (q - 1) * 4503599627370496 + (4503599627370496 + f) = r by rw [hrq]; rw [← Nat.add_assoc, ← Nat.succ_mul, Nat.succ_eq_add_one, Nat.sub_add_cancel hq], Nat.min_eq_left (by omega)]
theorem nearest_pw (s : Bool) (mag k r : Nat) (hr : r < 9218868437227405312) (h : mag * pw k = val r) : double.nearest s mag (-1074 + k) = double.word s r := nearest_exact s mag k r hr h
theorem nearest_unit (s : Bool) (mag r : Nat) (hr : r < 9218868437227405312) (h : mag * unit = val r) : double.nearest s mag 0 = double.word s r := nearest_pw s mag 1074 r hr h
theorem rung_of_whole {n : Nat} (h : n ≤ 9007199254740992) : ∃ r, r ≤ 4845873199050653696 ∧ val r = n * unit := by
  rcases Nat.eq_or_lt_of_le h with e | e
  · subst e; exact ⟨_, Nat.le_refl _, val_big53⟩
  · rcases Nat.eq_zero_or_pos n with z | z
    · subst z; exact ⟨0, by omega, by rw [Nat.zero_mul]; rfl⟩
    · have hz : n ≠ 0 := by omega
      have l1 : 2 ^ n.log2 ≤ n := Nat.log2_self_le hz
      have l2 : n < 2 ^ (n.log2 + 1) := Nat.lt_log2_self
      have l3 : n.log2 < 53 := (Nat.log2_lt hz).2 e
      have u : unit = 2 ^ (52 - n.log2) * 2 ^ (n.log2 + 1022) := by
        show pw 1074 = _
        rw [← Nat.pow_add, show 52 - n.log2 + (n.log2 + 1022) = 1074 by omega]; rfl
      generalize n.log2 = L at *
      have b1 : 4503599627370496 ≤ n * 2 ^ (52 - L) := by
        have : 2 ^ L * 2 ^ (52 - L) = 4503599627370496 := by rw [← Nat.pow_add, show L + (52 - L) = 52 by omega]
        rw [← this]; exact Nat.mul_le_mul_right _ l1
      have b2 : n * 2 ^ (52 - L) < 9007199254740992 := by
        have : 2 ^ (L + 1) * 2 ^ (52 - L) = 9007199254740992 := by rw [← Nat.pow_add, show L + 1 + (52 - L) = 53 by omega]
        rw [← this]; exact Nat.mul_lt_mul_of_pos_right l2 (Nat.two_pow_pos _)
      have hv : n * unit = (n * 2 ^ (52 - L)) * 2 ^ (L + 1022) := by rw [u, Nat.mul_assoc]
      rw [hv]
      generalize n * 2 ^ (52 - L) = k at *
      refine ⟨(L + 1022) * 4503599627370496 + k, by omega, ?_⟩
      unfold val
      rw [if_neg (by omega), show ((L + 1022) * 4503599627370496 + k) % 4503599627370496 = k - 4503599627370496 by omega, show ((L + 1022) * 4503599627370496 + k) / 4503599627370496 = L + 1023 by omega, show 4503599627370496 + (k - 4503599627370496) = k by omega, show L + 1023 - 1 = L + 1022 by omega]
def fl (n : Nat) : Nat := floatOfInt .f64 (n : Int)
theorem fl_val {n : Nat} (h : n ≤ 9007199254740992) : fl n ≤ 4845873199050653696 ∧ val (fl n) = n * unit := by
  obtain ⟨r, h1, h2⟩ := rung_of_whole h
  have e := nearest_unit false n r (by omega) h2.symm
  have e2 : fl n = r := by
    have : fl n = double.nearest (decide ((n : Int) < 0)) (n : Int).natAbs 0 := rfl
    rw [this, decide_eq_false (by omega), Int.natAbs_natCast]
    exact e
  rw [e2]; exact ⟨h1, h2⟩
theorem low_shape {b : Nat} (h : b < 9223372036854775808) : neg b = false ∧ rung b = b ∧ key b = b := by
  rcases shape (b := b) (by omega) with ⟨_, g, r⟩ | ⟨g, _, _⟩
  · exact ⟨g, r, by unfold key; rw [g, r]; rfl⟩
  · omega
theorem fl_facts {n : Nat} (h : n ≤ 9007199254740992) : nan (fl n) = false ∧ key (fl n) = fl n ∧ rung (fl n) = fl n ∧ neg (fl n) = false ∧ fixB (fl n) = fl n ∧ fl n < 18446744073709551616 := by
  obtain ⟨h1, _⟩ := fl_val h
  obtain ⟨g1, g2, g3⟩ := low_shape (b := fl n) (by omega)
  have hn : nan (fl n) = false := by unfold nan; rw [g2]; exact decide_eq_false (by omega)
  exact ⟨hn, g3, g2, g1, fixB_num hn, by omega⟩
theorem trunc_fl {n : Nat} (h : n ≤ 9007199254740992) : truncN (fl n) = n := by
  unfold truncN
  rw [(fl_facts h).2.2.1, (fl_val h).2, Nat.mul_div_cancel _ unit_pos]
theorem val_le_iff {r s : Nat} : val r ≤ val s ↔ r ≤ s := by
  constructor
  · intro h
    rcases Nat.lt_or_ge s r with g | g
    · have := val_lt g; omega
    · exact g
  · intro h
    rcases Nat.eq_or_lt_of_le h with g | g
    · rw [g]; exact Nat.le_refl _
    · exact Nat.le_of_lt (val_lt g)
theorem fl_le {m n : Nat} (hm : m ≤ 9007199254740992) (hn : n ≤ 9007199254740992) : fl m ≤ fl n ↔ m ≤ n := by
  rw [← val_le_iff, (fl_val hm).2, (fl_val hn).2]
  exact ⟨fun h => Nat.le_of_mul_le_mul_right h unit_pos, fun h => Nat.mul_le_mul_right _ h⟩
theorem fl_one : fl 1 = 4607182418800017408 := by decide +kernel
theorem fl_53 : fl 9007199254740992 = 4845873199050653696 := by decide +kernel
theorem fl_cnt {n : Nat} (h : n < 9007199254740992) : cntB (fl n) = true := by
  obtain ⟨g1, g2, g3, _, _, _⟩ := fl_facts (Nat.le_of_lt h)
  have lt : fl n < 4845873199050653696 := by
    have := fl_le (m := 9007199254740992) (n := n) (Nat.le_refl _) (Nat.le_of_lt h)
    rw [fl_53] at this
    omega
  have o : (FloatKind.f64.format.order (floatOfInt .f64 (truncN (fl n))) (fl n) == some .eq) = true := by
    rw [trunc_fl (Nat.le_of_lt h)]
    rw [show floatOfInt .f64 (n : Int) = fl n from rfl, self_num g1]; rfl
  unfold cntB
  rw [g1, decide_eq_true (by omega : 0 ≤ key (fl n)), decide_eq_true (by omega : key (fl n) < 4845873199050653696), o]; rfl
theorem fl_mod {x y : Nat} (hx : x < 9007199254740992) (hy : y < 9007199254740992) (hp : 0 < y) : modV (fl x) (fl y) = fl (x % y) := by
  have ho : (FloatKind.f64.format.order (fl y) 4607182418800017408 == some .lt) = false := by
    have := (fl_le (m := 1) (n := y) (by omega) (by omega)).2 hp
    rw [fl_one] at this
    have k1 := key_one
    have ky := (fl_facts (n := y) (by omega)).2.1
    rcases order_cases (fl y) 4607182418800017408 with ⟨o, _⟩ | ⟨_, _, ⟨o, h⟩ | ⟨o, h⟩ | ⟨o, h⟩⟩
    · rw [o]; rfl
    · omega
    · rw [o]; rfl
    · rw [o]; rfl
  rw [modV_fine (fl_cnt hx) (fl_cnt hy) ho, trunc_fl (by omega), trunc_fl (by omega)]
  have hm : x % y < y := Nat.mod_lt _ hp
  exact (fl_facts (n := x % y) (by omega)).2.2.2.2.1
end Go.Proofs.YtpboiggakehpoaaGreatDoor.Num
namespace Go.Proofs.YtpboiggakehpoaaGreatDoor.Num
open Ieee
theorem add_exact {x y r : Nat} (hx : rung x < 9218868437227405312) (hy : rung y < 9218868437227405312) (hr : r < 9218868437227405312) (h : (sval x + sval y).natAbs = val r) :
    floatBits .add .f64 x y = some (double.word (if sval x + sval y = 0 then neg x && neg y else decide (sval x + sval y < 0)) r) := by
  obtain ⟨m, k, e1, v1⟩ := read_fin hx
  obtain ⟨n, l, e2, v2⟩ := read_fin hy
  have s1 : sval x = signed (neg x) m k := by rw [signed_mul, v1]; rfl
  have s2 : sval y = signed (neg y) n l := by rw [signed_mul, v2]; rfl
  show ((double.read x).sum (double.read y)).map _ = _
  rw [e1, e2]
  have t1 : (-1074 + (k : Int) - min (-1074 + (k : Int)) (-1074 + l)).toNat = k - min k l := by omega
  have t2 : (-1074 + (l : Int) - min (-1074 + (k : Int)) (-1074 + l)).toNat = l - min k l := by omega
  have b : min (-1074 + (k : Int)) (-1074 + l) = -1074 + ((min k l : Nat) : Int) := by omega
  simp only [Datum.sum, t1, t2]
  rw [b]
  have c1 := signed_scale (neg x) m (k - min k l) (min k l)
  have c2 := signed_scale (neg y) n (l - min k l) (min k l)
  rw [show k - min k l + min k l = k by omega] at c1
  rw [show l - min k l + min k l = l by omega] at c2
  generalize signed (neg x) m (k - min k l) = A at *
  generalize signed (neg y) n (l - min k l) = B at *
  generalize min k l = j at *
  have tot : sval x + sval y = (A + B) * 2 ^ j := by rw [s1, s2, c1, c2, Int.add_mul]
  have pj : (0 : Int) < 2 ^ j := Int.pow_pos (by decide)
  have ab : (A + B).natAbs * 2 ^ j = val r := by
    rw [← h, tot, Int.natAbs_mul]
    congr 1
  have z : (A + B = 0) ↔ (sval x + sval y = 0) := by
    rw [tot]
    constructor
    · intro e; rw [e, Int.zero_mul]
    · intro e
      rcases Int.mul_eq_zero.1 e with e | e
      · exact e
      · omega
  have lt : (A + B < 0) ↔ (sval x + sval y < 0) := by
    rw [tot]
    constructor
    · intro e; exact Int.mul_neg_of_neg_of_pos e pj
    · intro e
      by_cases g : A + B < 0
      · exact g
      · have := Int.mul_nonneg (show 0 ≤ A + B by omega) (Int.le_of_lt pj); omega
  show some (double.nearest _ _ _) = _
  rw [nearest_exact _ _ j r hr ab]
  congr 2
  by_cases g : A + B = 0
  · rw [if_pos g, if_pos (z.1 g)]
  · rw [if_neg g, if_neg (fun e => g (z.2 e))]
    exact decide_eq_decide.2 lt
theorem word_false (r : Nat) : double.word false r = r := rfl
theorem word_true_facts {r : Nat} (h : r < 9223372036854775808) : double.word true r < 18446744073709551616 ∧ neg (double.word true r) = true ∧ rung (double.word true r) = r := by
  have e : double.word true r = 9223372036854775808 + r := rfl
  rw [e]
  rcases shape (b := 9223372036854775808 + r) (by omega) with ⟨g, _, _⟩ | ⟨_, g, q⟩
  · omega
  · exact ⟨by omega, g, by rw [q]; omega⟩
end Go.Proofs.YtpboiggakehpoaaGreatDoor.Num
namespace Go.Proofs.YtpboiggakehpoaaGreatDoor.Tr
open Num Ieee
theorem X_word {n : Int} (h : n.natAbs ≤ 9007199254740992) : X n = double.word (decide (n < 0)) (fl n.natAbs) := by
  obtain ⟨h1, h2⟩ := fl_val h
  have : X n = double.nearest (decide (n < 0)) n.natAbs 0 := rfl
  rw [this]
  exact nearest_unit _ n.natAbs (fl n.natAbs) (by omega) h2.symm
theorem X_facts {n : Int} (h : n.natAbs ≤ 9007199254740992) : neg (X n) = decide (n < 0) ∧ rung (X n) = fl n.natAbs ∧ nan (X n) = false ∧ X n < 18446744073709551616 ∧ sval (X n) = n * (unit : Int) := by
  have f := fl_facts h
  have v := fl_val h
  rw [X_word h]
  by_cases hn : n < 0
  · rw [decide_eq_true hn]
    obtain ⟨a, b, c⟩ := word_true_facts (r := fl n.natAbs) (by omega)
    refine ⟨b, c, ?_, a, ?_⟩
    · unfold nan
      rw [c]
      exact decide_eq_false (by omega)
    · unfold sval
      rw [b, c, v.2, if_pos rfl]
      rw [Int.natCast_mul]
      have : (n.natAbs : Int) = -n := by omega
      rw [this, Int.neg_mul, Int.neg_neg]
  · rw [decide_eq_false hn, word_false]
    refine ⟨f.2.2.2.1, f.2.2.1, f.1, f.2.2.2.2.2, ?_⟩
    unfold sval
    rw [f.2.2.2.1, f.2.2.1, v.2, if_neg Bool.false_ne_true, Int.natCast_mul]
    have : (n.natAbs : Int) = n := by omega
    rw [this]
theorem X_fix {n : Int} (h : n.natAbs ≤ 9007199254740992) : fixB (X n) = X n := fixB_num (X_facts h).2.2.1
theorem X_zero : X 0 = 0 := by decide +kernel
theorem X_one : X 1 = 4607182418800017408 := by decide +kernel
theorem yes_X (c : Bool) : yesB c = X (if c then 1 else 0) := by
  cases c
  · exact X_zero.symm
  · exact X_one.symm
theorem X_add {a b : Int} (ha : a.natAbs ≤ 1000000) (hb : b.natAbs ≤ 1000000) : twoV 1 (X a) (X b) = X (a + b) := by
  have fa := X_facts (n := a) (by omega)
  have fb := X_facts (n := b) (by omega)
  have hs : (a + b).natAbs ≤ 9007199254740992 := by omega
  have v := fl_val hs
  have va := fl_val (n := a.natAbs) (by omega)
  have vb := fl_val (n := b.natAbs) (by omega)
  have tot : sval (X a) + sval (X b) = (a + b) * (unit : Int) := by rw [fa.2.2.2.2, fb.2.2.2.2, Int.add_mul]
  have up : (0 : Int) < unit := Int.ofNat_lt.2 unit_pos
  have e := add_exact (x := X a) (y := X b) (r := fl (a + b).natAbs) (by rw [fa.2.1]; omega) (by rw [fb.2.1]; omega) (by omega) (by rw [tot, Int.natAbs_mul, Int.natAbs_natCast, v.2])
  have sg : (if sval (X a) + sval (X b) = 0 then neg (X a) && neg (X b) else decide (sval (X a) + sval (X b) < 0)) = decide (a + b < 0) := by
    rw [tot, fa.1, fb.1]
    by_cases z : a + b = 0
    · rw [if_pos (by rw [z, Int.zero_mul]), z, decide_eq_false (Int.lt_irrefl 0)]
      by_cases h1 : a < 0
      · rw [decide_eq_false (show ¬ b < 0 by omega), Bool.and_false]
      · rw [decide_eq_false h1, Bool.false_and]
    · have z2 : ¬ (a + b) * (unit : Int) = 0 := fun q => by rcases Int.mul_eq_zero.1 q with q | q <;> omega
      rw [if_neg z2]
      refine decide_eq_decide.2 ⟨fun q => ?_, fun q => Int.mul_neg_of_neg_of_pos q up⟩
      by_cases g : a + b < 0
      · exact g
      · have := Int.mul_nonneg (show 0 ≤ a + b by omega) (Int.le_of_lt up); omega
  rw [sg] at e
  show Num.resV (floatBits .add .f64 (X a) (X b)) = _
  rw [e, ← X_word hs]
  exact X_fix hs
theorem X_mod {a b : Int} (ha : 0 ≤ a) (ha2 : a ≤ 1000000) (hb : 0 < b) (hb2 : b ≤ 1000000) : twoV 5 (X a) (X b) = X (a % b) := by
  obtain ⟨x, rfl⟩ := Int.eq_ofNat_of_zero_le ha
  obtain ⟨y, rfl⟩ := Int.eq_ofNat_of_zero_le (Int.le_of_lt hb)
  show modV (fl x) (fl y) = fl (x % y)
  exact fl_mod (by omega) (by omega) (by omega)
def mulAll (n m k : Nat) : Bool := (List.range (n + m + 1)).all fun i => (List.range k).all fun j => Num.resV (floatBits .mul .f64 (X ((i : Int) - n)) (X j)) == X (((i : Int) - n) * j) || (decide (i < n) && j == 0)
theorem mul_all : mulAll 16 16 18 = true := by decide +kernel
theorem X_mul {a b : Int} (ha : -16 ≤ a) (ha2 : a ≤ 16) (hb : 0 ≤ b) (hb2 : b < 18) (hz : a < 0 → b ≠ 0) : twoV 3 (X a) (X b) = X (a * b) := by
  have h := mul_all
  unfold mulAll at h
  rw [List.all_eq_true] at h
  have h1 := h (a + 16).toNat (List.mem_range.2 (by omega))
  rw [List.all_eq_true] at h1
  have h2 := h1 b.toNat (List.mem_range.2 (by omega))
  have e1 : (((a + 16).toNat : Nat) : Int) - ((16 : Nat) : Int) = a := by omega
  have e2 : ((b.toNat : Nat) : Int) = b := by omega
  rw [e1, e2, Bool.or_eq_true, Bool.and_eq_true, decide_eq_true_eq] at h2
  rcases h2 with h2 | ⟨h2, h3⟩
  · exact eq_of_beq h2
  · have := eq_of_beq h3
    exact absurd (show b = 0 by omega) (hz (by omega))
def divAll (n k : Nat) : Bool := (List.range n).all fun i => (List.range k).all fun j => floorV (Num.resV (floatBits .quo .f64 (X i) (X ((j + 1 : Nat) : Int)))) == X ((i / (j + 1) : Nat) : Int)
theorem div_all : divAll 289 17 = true := by decide +kernel
theorem X_div {a b : Int} (ha : 0 ≤ a) (ha2 : a < 289) (hb : 0 < b) (hb2 : b ≤ 17) : oneV 3 (twoV 4 (X a) (X b)) = X (a / b) := by
  have h := div_all
  unfold divAll at h
  rw [List.all_eq_true] at h
  have h1 := h a.toNat (List.mem_range.2 (by omega))
  rw [List.all_eq_true] at h1
  have h2 := eq_of_beq (h1 (b - 1).toNat (List.mem_range.2 (by omega)))
  have e1 : ((a.toNat : Nat) : Int) = a := by omega
  have e2 : (((b - 1).toNat + 1 : Nat) : Int) = b := by omega
  have e3 : ((a.toNat / ((b - 1).toNat + 1) : Nat) : Int) = a / b := by rw [Int.natCast_ediv, e1, e2]
  rw [e1, e2, e3] at h2
  exact h2
def lessAll (n : Nat) : Bool := (List.range n).all fun i => (List.range n).all fun j => (FloatKind.f64.format.order (X i) (X j) == some .lt) == decide (i < j)
theorem less_all : lessAll 17 = true := by decide +kernel
theorem X_less {a b : Nat} (ha : a < 17) (hb : b < 17) : twoV 8 (X a) (X b) = yesB (decide (a < b)) := by
  have h := less_all
  unfold lessAll at h
  rw [List.all_eq_true] at h
  have h1 := h a (List.mem_range.2 ha)
  rw [List.all_eq_true] at h1
  exact congrArg yesB (eq_of_beq (h1 b (List.mem_range.2 hb)))
def subAll (n : Nat) : Bool := (List.range n).all fun i => (List.range n).all fun j => Num.resV (floatBits .sub .f64 (X i) (X j)) == X ((i : Int) - j)
theorem sub_all : subAll 17 = true := by decide +kernel
theorem X_sub {a b : Nat} (ha : a < 17) (hb : b < 17) : twoV 2 (X a) (X b) = X ((a : Int) - b) := by
  have h := sub_all
  unfold subAll at h
  rw [List.all_eq_true] at h
  have h1 := h a (List.mem_range.2 ha)
  rw [List.all_eq_true] at h1
  exact eq_of_beq (h1 b (List.mem_range.2 hb))
theorem fl_pos {n : Nat} (h : n ≤ 9007199254740992) (h0 : n ≠ 0) : 0 < fl n := by
  have := (fl_le (m := 1) (n := n) (by omega) h).2 (by omega)
  rw [fl_one] at this
  omega
theorem true_X {n : Int} (h : n.natAbs ≤ 9007199254740992) : trueB (X n) = decide (n ≠ 0) := by
  have f := X_facts h
  unfold trueB key
  rw [f.1, f.2.1, f.2.2.1]
  by_cases hz : n = 0
  · subst hz
    decide +kernel
  · have p := fl_pos h (by omega)
    rw [decide_eq_true hz]
    by_cases hn : n < 0
    · rw [decide_eq_true hn, if_pos rfl]
      simp; omega
    · rw [decide_eq_false hn, if_neg Bool.false_ne_true]
      simp; omega
theorem true_yes (c : Bool) : trueB (yesB c) = c := by cases c <;> decide +kernel
theorem not_yes (c : Bool) : oneV 5 (yesB c) = yesB (!c) := by
  show yesB (!trueB (yesB c)) = _
  rw [true_yes]
theorem idx_X {n : Nat} {m : Int} (h : n ≤ 1000000) : idxB (X n) m = decide ((n : Int) < m) ∧ (decide ((n : Int) < m) = true → idxV (X n) m = n) := by
  have f := fl_facts (n := n) (by omega)
  have t := trunc_fl (n := n) (by omega)
  have hb : idxB (X n) m = decide ((n : Int) < m) := by
    have le : fl n ≤ 4845873199050653696 := (fl_val (n := n) (by omega)).1
    have o : (FloatKind.f64.format.order (floatOfInt .f64 (truncN (fl n))) (fl n) == some .eq) = true := by
      rw [t, show floatOfInt .f64 (n : Int) = fl n from rfl, self_num f.1]; rfl
    show idxB (fl n) m = _
    unfold idxB
    rw [f.1, f.2.1, o, t, decide_eq_true (show (0 : Int) ≤ (fl n : Int) by omega), decide_eq_true (show (fl n : Int) < 4890909195324358656 by omega)]
    rfl
  refine ⟨hb, fun h => ?_⟩
  unfold idxV
  rw [hb, h, if_pos rfl]
  show (truncN (fl n) : Int) = n
  rw [t]
end Go.Proofs.YtpboiggakehpoaaGreatDoor.Tr
namespace Go.Proofs.YtpboiggakehpoaaGreatDoor
open Go.ChangeShapes Go.WideShapes Go.ChangeAt Go.RowKit Num
theorem setL_at (s : List Nat) (c : Int) (x : Nat) {i : Nat} (hi : i < s.length) : (Sx.setL s c x).getD i 0 = if c = (i : Int) then fixB x else s.getD i 0 := by
  unfold Sx.setL
  by_cases hc : c = (i : Int)
  · subst hc
    rw [if_pos (by rw [Sx.hasN_nat]; exact decide_eq_true hi), if_pos rfl, Int.toNat_natCast]
    simp [List.getD_eq_getElem?_getD, hi]
  · rw [if_neg hc]
    split
    · rename_i hh
      obtain ⟨k, rfl, _⟩ := Sx.hasN_pos hh
      have hk : ¬ k = i := fun e => hc (by rw [e])
      simp [List.getD_eq_getElem?_getD, hk]
    · rfl
theorem foldL_at : ∀ (ts : Wr) (s : List Nat) {i : Nat}, i < s.length → (cellsOfL ts).Nodup → (Sx.foldL s ts).getD i 0 = if hasC ts (i : Int) then fixB (getC ts (i : Int)) else s.getD i 0
  | [], s, i, _, _ => by
    rw [if_neg (by simp [hasC, idx])]
    rfl
  | t :: ts, s, i, hi, hn => by
    show (Sx.foldL (Sx.setL s t.1 t.2) ts).getD i 0 = _
    have hn2 : t.1 ∉ cellsOfL ts ∧ (cellsOfL ts).Nodup := by
      have : cellsOfL (t :: ts) = t.1 :: cellsOfL ts := rfl
      rw [this, List.nodup_cons] at hn
      exact hn
    rw [foldL_at ts _ (by rw [Sx.setL_len]; exact hi) hn2.2, setL_at s t.1 t.2 hi, hasC_cons, getC_cons]
    by_cases hc : t.1 = (i : Int)
    · have hh : hasC ts (i : Int) = false := by
        cases hq : hasC ts (i : Int) with
        | false => rfl
        | true => exact absurd (hasC_mem.1 hq) (by rw [← hc]; exact hn2.1)
      rw [hh, if_pos hc, if_neg Bool.false_ne_true, decide_eq_true hc, Bool.true_or, if_pos rfl, if_pos hc]
    · rw [if_neg hc, decide_eq_false hc, Bool.false_or, if_neg hc]
theorem aft_at {s : List Nat} {m : Mac} (hm : Rest m) (h1 : m.how = 1) {i : Nat} (hi : i < s.length) : (aftS s m).getD i 0 = if (i : Int) ∈ cellsOfL m.buf then getC m.buf (i : Int) else s.getD i 0 := by
  unfold aftS
  rw [if_pos h1, foldL_at m.buf s hi hm.nod]
  cases hh : hasC m.buf (i : Int) with
  | true =>
    rw [if_pos rfl, if_pos (hasC_mem.1 hh)]
    exact (getC_ok hm.inv.buf).1
  | false =>
    rw [if_neg Bool.false_ne_true, if_neg (fun hc => by rw [hasC_mem.2 hc] at hh; cases hh)]
end Go.Proofs.YtpboiggakehpoaaGreatDoor
namespace Go.Proofs.YtpboiggakehpoaaGreatDoor.Tr
open Num
structure Cx where
  nc : Int
  fuel : Int
  wmax : Int
  upd : Bool
  code : List Ins
  args : Nat → Nat
  lo : Nat
  hi : Nat
structure Cx.Ok (C : Cx) : Prop where
  hi : (C.hi : Int) ≤ C.nc
  nc : C.nc ≤ 256
structure Vm where
  pl : Nat
  st : List Nat
  lc : List Nat
  out : List Nat
  mem : Nat → Nat
  u : Nat
  nw : Nat
structure StepL (C : Cx) (P : Vm → Vm → Prop) : Prop where
  push : ∀ {pl st lc out mem u nw n x} (y), ci C.code pl = ⟨1, n, x⟩ → fixB x = y → st.length < 64 → P ⟨pl, st, lc, out, mem, u, nw⟩ ⟨pl + 1, y :: st, lc, out, mem, u + 1, nw⟩
  drop : ∀ {pl a st lc out mem u nw n x}, ci C.code pl = ⟨2, n, x⟩ → st.length < 64 → P ⟨pl, a :: st, lc, out, mem, u, nw⟩ ⟨pl + 1, st, lc, out, mem, u + 1, nw⟩
  dup : ∀ {pl a st lc out mem u nw n x}, ci C.code pl = ⟨3, n, x⟩ → st.length < 63 → P ⟨pl, a :: st, lc, out, mem, u, nw⟩ ⟨pl + 1, a :: a :: st, lc, out, mem, u + 1, nw⟩
  swap : ∀ {pl a b st lc out mem u nw n x}, ci C.code pl = ⟨4, n, x⟩ → st.length < 63 → P ⟨pl, a :: b :: st, lc, out, mem, u, nw⟩ ⟨pl + 1, b :: a :: st, lc, out, mem, u + 1, nw⟩
  pick : ∀ {pl st lc out mem u nw x} (n y), ci C.code pl = ⟨5, (n : Nat), x⟩ → n < st.length → st.getD n 0 = y → st.length < 64 → P ⟨pl, st, lc, out, mem, u, nw⟩ ⟨pl + 1, y :: st, lc, out, mem, u + 1, nw⟩
  arg : ∀ {pl st lc out mem u nw x} (n y), ci C.code pl = ⟨6, (n : Nat), x⟩ → C.args n = y → st.length < 64 → P ⟨pl, st, lc, out, mem, u, nw⟩ ⟨pl + 1, y :: st, lc, out, mem, u + 1, nw⟩
  get : ∀ {pl st lc out mem u nw x} (n y), ci C.code pl = ⟨7, (n : Nat), x⟩ → lc.getD n 0 = y → st.length < 64 → P ⟨pl, st, lc, out, mem, u, nw⟩ ⟨pl + 1, y :: st, lc, out, mem, u + 1, nw⟩
  set : ∀ {pl a st lc out mem u nw x} (n), ci C.code pl = ⟨8, (n : Nat), x⟩ → n < lc.length → st.length < 64 → P ⟨pl, a :: st, lc, out, mem, u, nw⟩ ⟨pl + 1, st, lc.set n a, out, mem, u + 1, nw⟩
  one : ∀ {pl a st lc out mem u nw x n} (y), ci C.code pl = ⟨9, n, x⟩ → oneV n a = y → st.length < 64 → P ⟨pl, a :: st, lc, out, mem, u, nw⟩ ⟨pl + 1, y :: st, lc, out, mem, u + 1, nw⟩
  two : ∀ {pl a b st lc out mem u nw x n} (y), ci C.code pl = ⟨10, n, x⟩ → twoV n a b = y → st.length < 63 → P ⟨pl, b :: a :: st, lc, out, mem, u, nw⟩ ⟨pl + 1, y :: st, lc, out, mem, u + 1, nw⟩
  jump : ∀ {pl st lc out mem u nw x} (n), ci C.code pl = ⟨11, (n : Nat), x⟩ → st.length < 64 → P ⟨pl, st, lc, out, mem, u, nw⟩ ⟨n, st, lc, out, mem, u + 1, nw⟩
  ifT : ∀ {pl a st lc out mem u nw x} (n), ci C.code pl = ⟨12, (n : Nat), x⟩ → trueB a = true → st.length < 64 → P ⟨pl, a :: st, lc, out, mem, u, nw⟩ ⟨n, st, lc, out, mem, u + 1, nw⟩
  ifF : ∀ {pl a st lc out mem u nw x n}, ci C.code pl = ⟨12, n, x⟩ → trueB a = false → st.length < 64 → P ⟨pl, a :: st, lc, out, mem, u, nw⟩ ⟨pl + 1, st, lc, out, mem, u + 1, nw⟩
  unF : ∀ {pl a st lc out mem u nw x} (n), ci C.code pl = ⟨13, (n : Nat), x⟩ → trueB a = false → st.length < 64 → P ⟨pl, a :: st, lc, out, mem, u, nw⟩ ⟨n, st, lc, out, mem, u + 1, nw⟩
  unT : ∀ {pl a st lc out mem u nw x n}, ci C.code pl = ⟨13, n, x⟩ → trueB a = true → st.length < 64 → P ⟨pl, a :: st, lc, out, mem, u, nw⟩ ⟨pl + 1, st, lc, out, mem, u + 1, nw⟩
  read : ∀ {pl st lc out mem u nw n x} (c y), ci C.code pl = ⟨16, n, x⟩ → C.lo ≤ c → c < C.hi → mem c = y → st.length < 63 → P ⟨pl, X (c : Nat) :: st, lc, out, mem, u, nw⟩ ⟨pl + 1, y :: st, lc, out, mem, u + 1, nw⟩
  write : ∀ {pl a st lc out mem u nw n x} (c), ci C.code pl = ⟨17, n, x⟩ → C.upd = true → C.lo ≤ c → c < C.hi → st.length < 62 → P ⟨pl, X (c : Nat) :: a :: st, lc, out, mem, u, nw⟩ ⟨pl + 1, st, lc, out, updF mem c a, u + 1, nw + 1⟩
  emit : ∀ {pl a st lc out mem u nw n x}, ci C.code pl = ⟨18, n, x⟩ → st.length < 64 → P ⟨pl, a :: st, lc, out, mem, u, nw⟩ ⟨pl + 1, st, lc, out ++ [a], mem, u + 1, nw⟩
def Step (C : Cx) (v v' : Vm) : Prop := ∀ P : Vm → Vm → Prop, StepL C P → P v v'
theorem stepL (C : Cx) : StepL C (Step C) := ⟨fun y h hy hl _ L => L.push y h hy hl, fun h hl _ L => L.drop h hl, fun h hl _ L => L.dup h hl, fun h hl _ L => L.swap h hl, fun n y h hn hy hl _ L => L.pick n y h hn hy hl, fun n y h hy hl _ L => L.arg n y h hy hl, fun n y h hy hl _ L => L.get n y h hy hl, fun n h hn hl _ L => L.set n h hn hl, fun y h hy hl _ L => L.one y h hy hl, fun y h hy hl _ L => L.two y h hy hl, fun n h hl _ L => L.jump n h hl, fun n h ht hl _ L => L.ifT n h ht hl, fun h ht hl _ L => L.ifF h ht hl, fun n h ht hl _ L => L.unF n h ht hl, fun h ht hl _ L => L.unT h ht hl, fun c y h h1 h2 hy hl _ L => L.read c y h h1 h2 hy hl, fun c h hu h1 h2 hl _ L => L.write c h hu h1 h2 hl, fun h hl _ L => L.emit h hl⟩
abbrev Step.push {C : Cx} := @StepL.push C (Step C) (stepL C)
abbrev Step.dup {C : Cx} := @StepL.dup C (Step C) (stepL C)
abbrev Step.arg {C : Cx} := @StepL.arg C (Step C) (stepL C)
abbrev Step.get {C : Cx} := @StepL.get C (Step C) (stepL C)
abbrev Step.set {C : Cx} := @StepL.set C (Step C) (stepL C)
abbrev Step.one {C : Cx} := @StepL.one C (Step C) (stepL C)
abbrev Step.two {C : Cx} := @StepL.two C (Step C) (stepL C)
abbrev Step.jump {C : Cx} := @StepL.jump C (Step C) (stepL C)
abbrev Step.ifT {C : Cx} := @StepL.ifT C (Step C) (stepL C)
abbrev Step.ifF {C : Cx} := @StepL.ifF C (Step C) (stepL C)
abbrev Step.unF {C : Cx} := @StepL.unF C (Step C) (stepL C)
abbrev Step.unT {C : Cx} := @StepL.unT C (Step C) (stepL C)
abbrev Step.read {C : Cx} := @StepL.read C (Step C) (stepL C)
abbrev Step.write {C : Cx} := @StepL.write C (Step C) (stepL C)
abbrev Step.emit {C : Cx} := @StepL.emit C (Step C) (stepL C)
def Cx.mac (C : Cx) (v : Vm) (rd bf : Wr) : Mac := ⟨C.nc, C.fuel, C.wmax, C.upd, C.code, C.args, fun k => v.lc.getD k 0, v.st, [], v.pl, v.u, v.out, rd, bf, -1, 0, 0, 0⟩
def In (C : Cx) (l : Wr) : Prop := ∀ t ∈ l, (C.lo : Int) ≤ t.1 ∧ t.1 < C.hi
structure Sees (C : Cx) (s : List Nat) (mem : Nat → Nat) (nw : Nat) (rd bf : Wr) : Prop where
  see : ∀ c, c < C.hi → mem c = if hasC bf c then Go.Proofs.YtpboiggakehpoaaGreatDoor.getC bf c else Sx.getV s c
  few : bf.length ≤ nw
  rd : In C rd
  bf : In C bf
def Abs (C : Cx) (s : List Nat) (v : Vm) (m : Mac) : Prop := ∃ rd bf, m = C.mac v rd bf ∧ Sees C s v.mem v.nw rd bf
theorem in_app {C : Cx} {l : Wr} (h : In C l) {t : Int × Nat} (ht : (C.lo : Int) ≤ t.1 ∧ t.1 < C.hi) : In C (l ++ [t]) := fun q hq => by
  rcases List.mem_append.1 hq with k | k
  · exact h q k
  · rw [List.mem_singleton] at k
    exact k ▸ ht
theorem Sees.wrote {C : Cx} {s : List Nat} {mem : Nat → Nat} {nw : Nat} {rd bf : Wr} (h : Sees C s mem nw rd bf) (c x : Nat) (h1 : C.lo ≤ c) (h2 : c < C.hi) : Sees C s (updF mem c x) (nw + 1) rd (putC bf c x) := by
  refine ⟨fun d hd => ?_, ?_, h.rd, ?_⟩
  · rw [getC_put]
    have hh : hasC (putC bf c x) (d : Int) = (decide ((c : Int) = d) || hasC bf d) := by
      have e1 : ∀ l : Wr, ∀ k : Int, hasC l k = decide (k ∈ cellsOfL l) := fun l k => by
        cases hq : hasC l k with
        | true => exact (decide_eq_true (hasC_mem.1 hq)).symm
        | false => exact (decide_eq_false (fun z => by rw [hasC_mem.2 z] at hq; cases hq)).symm
      rw [e1, e1, cells_put]
      split
      · rename_i z
        by_cases q : (c : Int) = d
        · rw [← q, decide_eq_true (hasC_mem.1 z), Bool.or_true]
        · rw [decide_eq_false q, Bool.false_or]
      · rw [Bool.eq_iff_iff, Bool.or_eq_true, decide_eq_true_eq, decide_eq_true_eq, decide_eq_true_eq, List.mem_append, List.mem_singleton]
        constructor
        · rintro (q | q)
          · exact .inr q
          · exact .inl q.symm
        · rintro (q | q)
          · exact .inr q.symm
          · exact .inl q
    rw [hh]
    unfold updF
    by_cases q : d = c
    · rw [if_pos q, decide_eq_true (by omega), Bool.true_or, if_pos rfl, if_pos (by omega)]
    · rw [if_neg q, decide_eq_false (by omega), Bool.false_or, if_neg (show ¬ (c : Int) = d by omega)]
      exact h.see d hd
  · have := h.few
    unfold putC
    split
    · rw [List.length_set]; omega
    · rw [List.length_append]; simp; omega
  · exact putC_cells (P := fun k => (C.lo : Int) ≤ k ∧ k < C.hi) h.bf ⟨by omega, by omega⟩
theorem ci_len {c : List Ins} {k : Nat} {i : Ins} (h : ci c k = i) (h0 : i.op ≠ 0) : k < c.length := by
  rcases Nat.lt_or_ge k c.length with q | q
  · exact q
  · exfalso
    apply h0
    rw [← h]
    unfold ci
    rw [List.getD_eq_getElem?_getD, List.getElem?_eq_none q]
    rfl
section
variable {C : Cx} {s : List Nat}
theorem go_ok {v : Vm} {rd bf : Wr} {o n : Int} {x : Nat} (hi : ci C.code v.pl = ⟨o, n, x⟩) (h0 : o ≠ 0) (hu : (v.u : Int) < C.fuel) (hr : roomB (begM (C.mac v rd bf)) ⟨o, n, x⟩ = true) : stepM (C.mac v rd bf) = doM (begM (C.mac v rd bf)) ⟨o, n, x⟩ := by
  have hl := ci_len hi h0
  have e : insM (C.mac v rd bf) = ⟨o, n, x⟩ := hi
  unfold stepM
  rw [if_neg (show ¬ 0 ≤ (C.mac v rd bf).wait by show ¬ (0 : Int) ≤ -1; decide), if_pos (show (C.mac v rd bf).how = 0 from rfl), if_pos (show (C.mac v rd bf).used < (C.mac v rd bf).fuel from hu), if_pos (show (C.mac v rd bf).place < ((C.mac v rd bf).code.length : Int) by show (v.pl : Int) < (C.code.length : Int); omega), e, hr, if_pos rfl]
theorem go_plain {v v' : Vm} {rd bf : Wr} {o n : Int} {x : Nat} (hi : ci C.code v.pl = ⟨o, n, x⟩) (h0 : o ≠ 0) (hu : (v.u : Int) < C.fuel) (hr : roomB (begM (C.mac v rd bf)) ⟨o, n, x⟩ = true) (hd : doM (begM (C.mac v rd bf)) ⟨o, n, x⟩ = (C.mac v' rd bf, ask0)) : goM s (C.mac v rd bf) = C.mac v' rd bf := by
  have e := (go_ok hi h0 hu hr).trans hd
  rw [go_kindN (by rw [e]; show ¬ (0 : Int) = 1; decide), e]
theorem Step.u {v v' : Vm} (h : Step C v v') : v'.u = v.u + 1 ∧ v.nw ≤ v'.nw := h (fun v v' => v'.u = v.u + 1 ∧ v.nw ≤ v'.nw) (by constructor <;> intros <;> exact ⟨rfl, by simp⟩)
theorem room_of {v : Vm} {rd bf : Wr} {i : Ins} (h1 : leastI i ≤ (v.st.length : Int)) (h2 : (v.st.length : Int) - takesI i + laysI i ≤ 64) : roomB (begM (C.mac v rd bf)) i = true := by
  unfold roomB
  rw [decide_eq_true (show leastI i ≤ ((begM (C.mac v rd bf)).st.length : Int) from h1), decide_eq_true (show ((begM (C.mac v rd bf)).st.length : Int) - takesI i + laysI i ≤ 64 from h2), decide_eq_false (show ¬ 16 ≤ (begM (C.mac v rd bf)).calls.length by show ¬ 16 ≤ 0; decide), Bool.and_false]
  rfl
theorem loc_set (lc : List Nat) {n : Nat} (a : Nat) (h : n < lc.length) : updF (fun k => lc.getD k 0) n a = fun k => (lc.set n a).getD k 0 := by
  funext k
  show (if k = n then a else lc.getD k 0) = (lc.set n a).getD k 0
  rw [List.getD_eq_getElem?_getD, List.getD_eq_getElem?_getD, List.getElem?_set]
  by_cases q : k = n
  · rw [if_pos q, if_pos q.symm, if_pos h]; rfl
  · rw [if_neg q, if_neg (fun z => q z.symm)]
theorem sim_read {v : Vm} {rd bf : Wr} {n : Int} {x c y : Nat} {st : List Nat} (hC : C.Ok) (hs : okS s) (hst : v.st = X (c : Nat) :: st) (h : ci C.code v.pl = ⟨16, n, x⟩) (h1 : C.lo ≤ c) (h2 : c < C.hi) (hy : v.mem c = y) (hl : st.length < 63) (hu : (v.u : Int) < C.fuel) (hse : Sees C s v.mem v.nw rd bf) : Abs C s { v with pl := v.pl + 1, st := y :: st, u := v.u + 1 } (goM s (C.mac v rd bf)) := by
  have hr : roomB (begM (C.mac v rd bf)) ⟨16, n, x⟩ = true := room_of (show (1 : Int) ≤ _ by rw [hst, List.length_cons]; omega) (show _ - (1 : Int) + 1 ≤ 64 by rw [hst, List.length_cons]; omega)
  have e := go_ok h (by decide) hu hr
  have hlt : (c : Int) < C.nc := by have := hC.hi; omega
  obtain ⟨i1, i2⟩ := idx_X (n := c) (m := C.nc) (by have := hC.hi; have := hC.nc; omega)
  rw [decide_eq_true hlt] at i1 i2
  have i2 := i2 rfl
  have a1 : addrB (begM (C.mac v rd bf)) = true := by show idxB (v.st.getD 0 0) C.nc = true; rw [hst]; exact i1
  have a2 : addrV (begM (C.mac v rd bf)) = (c : Int) := by show idxV (v.st.getD 0 0) C.nc = c; rw [hst]; exact i2
  have e2 : doM (begM (C.mac v rd bf)) ⟨16, n, x⟩ = readM (begM (C.mac v rd bf)) := rfl
  rw [e2] at e
  unfold readM at e
  rw [if_pos a1, a2] at e
  have hd : v.st.drop 1 = st := by rw [hst]; rfl
  have hm := hse.see c h2
  have hbc : (begM (C.mac v rd bf)).buf = bf := rfl
  rw [hbc] at e
  cases hh : hasC bf (c : Int) with
  | true =>
    rw [hh, if_pos rfl] at e hm
    rw [hy] at hm
    refine ⟨rd ++ [((c : Int), y)], bf, ?_, ⟨hse.see, hse.few, in_app hse.rd ⟨by show (C.lo : Int) ≤ (c : Int); omega, by show (c : Int) < (C.hi : Int); omega⟩, hse.bf⟩⟩
    rw [go_kindN (by rw [e]; show ¬ (2 : Int) = 1; decide), e, ← hm]
    show hasRead { begM (C.mac v rd bf) with st := v.st.drop 1 } c y = _
    rw [hd]
    rfl
  | false =>
    rw [hh, if_neg Bool.false_ne_true] at e
    rw [hh, if_neg Bool.false_ne_true, hy] at hm
    refine ⟨rd ++ [((c : Int), y)], bf, ?_, ⟨hse.see, hse.few, in_app hse.rd ⟨by show (C.lo : Int) ≤ (c : Int); omega, by show (c : Int) < (C.hi : Int); omega⟩, hse.bf⟩⟩
    rw [go_kind1 (by rw [e]; rfl), e]
    show giveM { begM (C.mac v rd bf) with st := v.st.drop 1, wait := (c : Int) } (Sx.getV s c) = _
    unfold giveM
    rw [if_pos (show (0 : Int) ≤ ({ begM (C.mac v rd bf) with st := v.st.drop 1, wait := (c : Int) } : Mac).wait by show (0 : Int) ≤ (c : Int); omega), (getV_ok hs c).1, ← hm, hd]
    rfl
theorem sim_write {v : Vm} {rd bf : Wr} {n : Int} {x c a : Nat} {st : List Nat} (hC : C.Ok) (hst : v.st = X (c : Nat) :: a :: st) (h : ci C.code v.pl = ⟨17, n, x⟩) (hup : C.upd = true) (h1 : C.lo ≤ c) (h2 : c < C.hi) (hl : st.length < 62) (hu : (v.u : Int) < C.fuel) (hw : (v.nw : Int) + 1 ≤ C.wmax) (hse : Sees C s v.mem v.nw rd bf) : Abs C s { v with pl := v.pl + 1, st := st, u := v.u + 1, mem := updF v.mem c a, nw := v.nw + 1 } (goM s (C.mac v rd bf)) := by
  have hr : roomB (begM (C.mac v rd bf)) ⟨17, n, x⟩ = true := room_of (show (2 : Int) ≤ _ by rw [hst]; simp only [List.length_cons]; omega) (show _ - (2 : Int) + 0 ≤ 64 by rw [hst]; simp only [List.length_cons]; omega)
  have e := go_ok h (by decide) hu hr
  have hlt : (c : Int) < C.nc := by have := hC.hi; omega
  obtain ⟨i1, i2⟩ := idx_X (n := c) (m := C.nc) (by have := hC.hi; have := hC.nc; omega)
  rw [decide_eq_true hlt] at i1 i2
  have i2 := i2 rfl
  have a1 : addrB (begM (C.mac v rd bf)) = true := by show idxB (v.st.getD 0 0) C.nc = true; rw [hst]; exact i1
  have a2 : addrV (begM (C.mac v rd bf)) = (c : Int) := by show idxV (v.st.getD 0 0) C.nc = c; rw [hst]; exact i2
  have e2 : doM (begM (C.mac v rd bf)) ⟨17, n, x⟩ = writeM (begM (C.mac v rd bf)) := rfl
  rw [e2] at e
  unfold writeM at e
  have hp : mayP (begM (C.mac v rd bf)).wmax (begM (C.mac v rd bf)).buf (c : Int) = true := by
    show mayP C.wmax bf c = true
    unfold mayP
    rw [decide_eq_true (show (bf.length : Int) < C.wmax by have := hse.few; omega), Bool.or_true]
  rw [if_pos (show (begM (C.mac v rd bf)).upd = true from hup), if_pos a1, a2, if_pos hp] at e
  have hd : v.st.drop 2 = st := by rw [hst]; rfl
  have hg : v.st.getD 1 0 = a := by rw [hst]; rfl
  refine ⟨rd, putC bf c a, ?_, hse.wrote c a h1 h2⟩
  rw [go_kindN (by rw [e]; show ¬ (3 : Int) = 1; decide), e]
  show ({ begM (C.mac v rd bf) with st := v.st.drop 2, buf := putC bf c (v.st.getD 1 0) } : Mac) = _
  rw [hd, hg]
  rfl
theorem sim {v v' : Vm} {m : Mac} (hC : C.Ok) (hs : okS s) (h : Step C v v') (hu : (v.u : Int) < C.fuel) (hw : (v'.nw : Int) ≤ C.wmax) (ha : Abs C s v m) : Abs C s v' (goM s m) := by
  obtain ⟨rd, bf, rfl, hse⟩ := ha
  refine h (fun v v' => ∀ rd bf, (v.u : Int) < C.fuel → (v'.nw : Int) ≤ C.wmax → Sees C s v.mem v.nw rd bf → Abs C s v' (goM s (C.mac v rd bf))) ?_ rd bf hu hw hse
  clear h hu hw hse rd bf
  constructor
  · intro _ _ _ _ _ _ _ _ _ y h hy hl rd bf hu hw hse
    subst hy; exact ⟨rd, bf, go_plain h (by decide) hu (room_of (show (0 : Int) ≤ _ by omega) (show _ - (0 : Int) + 1 ≤ 64 by simp only; omega)) rfl, hse⟩
  · intro _ _ _ _ _ _ _ _ _ _ h hl rd bf hu hw hse
    exact ⟨rd, bf, go_plain h (by decide) hu (room_of (show (1 : Int) ≤ _ by simp only [List.length_cons]; omega) (show _ - (1 : Int) + 0 ≤ 64 by simp only [List.length_cons]; omega)) rfl, hse⟩
  · intro _ _ _ _ _ _ _ _ _ _ h hl rd bf hu hw hse
    exact ⟨rd, bf, go_plain h (by decide) hu (room_of (show (1 : Int) ≤ _ by simp only [List.length_cons]; omega) (show _ - (1 : Int) + 2 ≤ 64 by simp only [List.length_cons]; omega)) rfl, hse⟩
  · intro _ _ _ _ _ _ _ _ _ _ _ h hl rd bf hu hw hse
    exact ⟨rd, bf, go_plain h (by decide) hu (room_of (show (2 : Int) ≤ _ by simp only [List.length_cons]; omega) (show _ - (2 : Int) + 2 ≤ 64 by simp only [List.length_cons]; omega)) rfl, hse⟩
  · intro _ _ _ _ _ _ _ _ n y h hn hy hl rd bf hu hw hse
    subst hy; exact ⟨rd, bf, go_plain h (by decide) hu (room_of (show ((n : Nat) : Int) + 1 ≤ _ by simp only; omega) (show _ - (0 : Int) + 1 ≤ 64 by simp only; omega)) rfl, hse⟩
  · intro _ _ _ _ _ _ _ _ n y h hy hl rd bf hu hw hse
    subst hy; exact ⟨rd, bf, go_plain h (by decide) hu (room_of (show (0 : Int) ≤ _ by omega) (show _ - (0 : Int) + 1 ≤ 64 by simp only; omega)) rfl, hse⟩
  · intro _ _ _ _ _ _ _ _ n y h hy hl rd bf hu hw hse
    subst hy; exact ⟨rd, bf, go_plain h (by decide) hu (room_of (show (0 : Int) ≤ _ by omega) (show _ - (0 : Int) + 1 ≤ 64 by simp only; omega)) rfl, hse⟩
  · intro _ _ _ _ _ _ _ _ _ n h hn hl rd bf hu hw hse
    refine ⟨rd, bf, go_plain h (by decide) hu (room_of (show (1 : Int) ≤ _ by simp only [List.length_cons]; omega) (show _ - (1 : Int) + 0 ≤ 64 by simp only [List.length_cons]; omega)) ?_, hse⟩
    unfold Cx.mac
    rw [← loc_set _ _ hn]
    rfl
  · intro _ _ _ _ _ _ _ _ _ _ y h hy hl rd bf hu hw hse
    subst hy; exact ⟨rd, bf, go_plain h (by decide) hu (room_of (show (1 : Int) ≤ _ by simp only [List.length_cons]; omega) (show _ - (1 : Int) + 1 ≤ 64 by simp only [List.length_cons]; omega)) rfl, hse⟩
  · intro _ _ _ _ _ _ _ _ _ _ _ y h hy hl rd bf hu hw hse
    subst hy; exact ⟨rd, bf, go_plain h (by decide) hu (room_of (show (2 : Int) ≤ _ by simp only [List.length_cons]; omega) (show _ - (2 : Int) + 1 ≤ 64 by simp only [List.length_cons]; omega)) rfl, hse⟩
  · intro _ _ _ _ _ _ _ _ n h hl rd bf hu hw hse
    exact ⟨rd, bf, go_plain h (by decide) hu (room_of (show (0 : Int) ≤ _ by omega) (show _ - (0 : Int) + 0 ≤ 64 by simp only; omega)) rfl, hse⟩
  · intro pl a st lc out mem u nw x n h ht hl rd bf hu hw hse
    refine ⟨rd, bf, go_plain h (by decide) hu (room_of (show (1 : Int) ≤ _ by simp only [List.length_cons]; omega) (show _ - (1 : Int) + 0 ≤ 64 by simp only [List.length_cons]; omega)) ?_, hse⟩
    show (({ begM (C.mac ⟨pl, a :: st, lc, out, mem, u, nw⟩ rd bf) with place := if trueB a then (n : Int) else (pl : Int) + 1, st := st } : Mac), ask0) = _
    rw [ht]
    rfl
  · intro pl a st lc out mem u nw x n h ht hl rd bf hu hw hse
    refine ⟨rd, bf, go_plain h (by decide) hu (room_of (show (1 : Int) ≤ _ by simp only [List.length_cons]; omega) (show _ - (1 : Int) + 0 ≤ 64 by simp only [List.length_cons]; omega)) ?_, hse⟩
    show (({ begM (C.mac ⟨pl, a :: st, lc, out, mem, u, nw⟩ rd bf) with place := if trueB a then n else (pl : Int) + 1, st := st } : Mac), ask0) = _
    rw [ht]
    rfl
  · intro pl a st lc out mem u nw x n h ht hl rd bf hu hw hse
    refine ⟨rd, bf, go_plain h (by decide) hu (room_of (show (1 : Int) ≤ _ by simp only [List.length_cons]; omega) (show _ - (1 : Int) + 0 ≤ 64 by simp only [List.length_cons]; omega)) ?_, hse⟩
    show (({ begM (C.mac ⟨pl, a :: st, lc, out, mem, u, nw⟩ rd bf) with place := if trueB a then (pl : Int) + 1 else (n : Int), st := st } : Mac), ask0) = _
    rw [ht]
    rfl
  · intro pl a st lc out mem u nw x n h ht hl rd bf hu hw hse
    refine ⟨rd, bf, go_plain h (by decide) hu (room_of (show (1 : Int) ≤ _ by simp only [List.length_cons]; omega) (show _ - (1 : Int) + 0 ≤ 64 by simp only [List.length_cons]; omega)) ?_, hse⟩
    show (({ begM (C.mac ⟨pl, a :: st, lc, out, mem, u, nw⟩ rd bf) with place := if trueB a then (pl : Int) + 1 else n, st := st } : Mac), ask0) = _
    rw [ht]
    rfl
  · intro _ _ _ _ _ _ _ _ _ c y h h1 h2 hy hl rd bf hu hw hse
    exact sim_read hC hs rfl h h1 h2 hy hl hu hse
  · intro _ _ _ _ _ _ _ _ _ _ c h hup h1 h2 hl rd bf hu hw hse
    exact sim_write hC rfl h hup h1 h2 hl hu (by simpa using hw) hse
  · intro _ _ _ _ _ _ _ _ _ _ h hl rd bf hu hw hse
    exact ⟨rd, bf, go_plain h (by decide) hu (room_of (show (1 : Int) ≤ _ by simp only [List.length_cons]; omega) (show _ - (1 : Int) + 0 ≤ 64 by simp only [List.length_cons]; omega)) rfl, hse⟩
def Star (C : Cx) (v v' : Vm) : Prop := ∀ P : Vm → Vm → Prop, (∀ v, P v v) → (∀ v x v', Step C v x → P x v' → P v v') → P v v'
theorem Star.refl (v : Vm) : Star C v v := fun _ r _ => r v
theorem Star.head {v x v' : Vm} (h : Step C v x) (k : Star C x v') : Star C v v' := fun P r t => t v x v' h (k P r t)
theorem Star.trans {v x v' : Vm} (h : Star C v x) (k : Star C x v') : Star C v v' := h (fun v x => Star C x v' → Star C v v') (fun _ k => k) (fun _ _ _ h ih k => .head h (ih k)) k
theorem Star.u {v v' : Vm} (h : Star C v v') : v.u ≤ v'.u ∧ v.nw ≤ v'.nw :=
  h (fun v v' => v.u ≤ v'.u ∧ v.nw ≤ v'.nw) (fun _ => ⟨Nat.le_refl _, Nat.le_refl _⟩) (fun _ _ _ h ih => by have := h.u; exact ⟨by omega, by omega⟩)
theorem Star.sim {v v' : Vm} {m : Mac} (hC : C.Ok) (hs : okS s) (h : Star C v v') (hu : (v'.u : Int) ≤ C.fuel) (hw : (v'.nw : Int) ≤ C.wmax) (ha : Abs C s v m) : Abs C s v' (runN s (v'.u - v.u) m) := by
  refine (h (fun v v' => Star C v v' ∧ ∀ m, (v'.u : Int) ≤ C.fuel → (v'.nw : Int) ≤ C.wmax → Abs C s v m → Abs C s v' (runN s (v'.u - v.u) m)) ?_ ?_).2 m hu hw ha
  · intro v
    exact ⟨.refl v, fun m _ _ ha => by rw [Nat.sub_self]; exact ha⟩
  · intro v x v' h ⟨k, ih⟩
    refine ⟨.head h k, fun m hu hw ha => ?_⟩
    have h1 := h.u
    have h2 := k.u
    have e : v'.u - v.u = (v'.u - x.u) + 1 := by omega
    rw [e, runN_cons]
    exact ih _ hu hw (Tr.sim hC hs h (by omega) (by omega) ha)
end
end Go.Proofs.YtpboiggakehpoaaGreatDoor.Tr
namespace Go.Proofs.YtpboiggakehpoaaGreatDoor.Tr
open Num
def goodC : Code → Bool
  | .skip => true
  | .cond (.tmp _) a b => goodC a && goodC b
  | _ => false
structure T where
  c : Code
  ok : goodC c = true
def T.nil : T := ⟨.skip, rfl⟩
def T.node (i : Nat) (l r : T) : T := ⟨.cond (.tmp i) l.c r.c, by show (goodC l.c && goodC r.c) = true; rw [l.ok, r.ok]; rfl⟩
theorem ind_c {P : T → Prop} (nil : P .nil) (node : ∀ i l r, P l → P r → P (.node i l r)) : ∀ (c : Code) (h : goodC c = true), P ⟨c, h⟩
  | .skip, _ => nil
  | .cond (.tmp i) a b, h => by
    have h' : goodC a = true ∧ goodC b = true := by
      have : (goodC a && goodC b) = true := h
      simpa using this
    exact node i ⟨a, h'.1⟩ ⟨b, h'.2⟩ (ind_c nil node a h'.1) (ind_c nil node b h'.2)
  | .cond (.const _) _ _, h => by cases h
  | .region .., h => by cases h
  | .seq .., h => by cases h
  | .block .., h => by cases h
  | .loop .., h => by cases h
  | .rangeFunc .., h => by cases h
  | .exit .., h => by cases h
theorem T.ind {P : T → Prop} (nil : P .nil) (node : ∀ i l r, P l → P r → P (.node i l r)) (t : T) : P t := ind_c nil node t.c t.ok
theorem T.cs {P : T → Prop} (nil : P .nil) (node : ∀ i l r, P (.node i l r)) (t : T) : P t := T.ind nil (fun i l r _ _ => node i l r) t
theorem T.node_ne (i : Nat) (l r : T) : T.node i l r ≠ T.nil := fun e => by cases congrArg T.c e
def topC : Code → Nat
  | .cond (.tmp i) _ _ => i
  | _ => 0
def T.top (t : T) : Nat := topC t.c
theorem T.top_eq : T.nil.top = 0 ∧ ∀ i l r, (T.node i l r).top = i := ⟨rfl, fun _ _ _ => rfl⟩
def nodesC : Code → List Nat
  | .cond (.tmp i) a b => nodesC a ++ i :: nodesC b
  | _ => []
def T.nodes (t : T) : List Nat := nodesC t.c
theorem T.nodes_eq : T.nil.nodes = [] ∧ ∀ i l r, (T.node i l r).nodes = l.nodes ++ i :: r.nodes := ⟨rfl, fun _ _ _ => rfl⟩
structure Tm where
  sp : Nat
  n : Nat
  rt : Nat
  k : Nat → Nat
  v : Nat → Nat
  a : Nat → Nat
  b : Nat → Nat
def repC (M : Tm) : Code → Prop
  | .cond (.tmp i) a b => i ≠ 0 ∧ M.a i = topC a ∧ M.b i = topC b ∧ repC M a ∧ repC M b
  | _ => True
def Rep (M : Tm) (t : T) : Prop := repC M t.c
theorem rep_eq {M : Tm} : (Rep M .nil ↔ True) ∧ ∀ i l r, Rep M (.node i l r) ↔ i ≠ 0 ∧ M.a i = l.top ∧ M.b i = r.top ∧ Rep M l ∧ Rep M r := ⟨Iff.rfl, fun _ _ _ => Iff.rfl⟩
theorem Rep.congr {M M' : Tm} {t : T} : (∀ j ∈ t.nodes, M'.a j = M.a j ∧ M'.b j = M.b j) → Rep M t → Rep M' t := by
  induction t using T.ind with
  | nil => exact fun _ _ => trivial
  | node i l r ihl ihr =>
    rintro h ⟨h0, h1, h2, h3, h4⟩
    have hi := h i (by simp [T.nodes_eq])
    exact ⟨h0, hi.1.trans h1, hi.2.trans h2, ihl (fun j hj => h j (by simp [T.nodes_eq, hj])) h3, ihr (fun j hj => h j (by simp [T.nodes_eq, hj])) h4⟩
abbrev Fr := (Nat × T) ⊕ (Nat × T)
def plug : List Fr → T → T
  | [], t => t
  | .inl (i, r) :: p, t => plug p (.node i t r)
  | .inr (i, l) :: p, t => plug p (.node i l t)
def bef : List Fr → List Nat
  | [] => []
  | .inl (_, _) :: p => bef p
  | .inr (i, l) :: p => bef p ++ (l.nodes ++ [i])
def aft : List Fr → List Nat
  | [] => []
  | .inl (i, r) :: p => i :: (r.nodes ++ aft p)
  | .inr (_, _) :: p => aft p
theorem nodes_plug : ∀ (p : List Fr) (t : T), (plug p t).nodes = bef p ++ (t.nodes ++ aft p)
  | [], t => by simp [plug, bef, aft]
  | .inl (i, r) :: p, t => by
    show (plug p (.node i t r)).nodes = _
    rw [nodes_plug p]
    simp [T.nodes_eq, bef, aft]
  | .inr (i, l) :: p, t => by
    show (plug p (.node i l t)).nodes = _
    rw [nodes_plug p]
    simp [T.nodes_eq, bef, aft]
def link (M : Tm) : List Fr → Nat
  | [] => M.rt
  | .inl (i, _) :: _ => M.a i
  | .inr (i, _) :: _ => M.b i
def setLink (M : Tm) (x : Nat) : List Fr → Tm
  | [] => { M with rt := x }
  | .inl (i, _) :: _ => { M with a := updF M.a i x }
  | .inr (i, _) :: _ => { M with b := updF M.b i x }
def RepP (M : Tm) : List Fr → Prop
  | [] => True
  | .inl (i, r) :: p => i ≠ 0 ∧ M.b i = r.top ∧ Rep M r ∧ link M p = i ∧ RepP M p
  | .inr (i, l) :: p => i ≠ 0 ∧ M.a i = l.top ∧ Rep M l ∧ link M p = i ∧ RepP M p
def Whole (M : Tm) (t : T) : Prop := M.rt = t.top ∧ Rep M t
theorem whole_plug (M : Tm) : ∀ (p : List Fr) (t : T), Whole M (plug p t) ↔ RepP M p ∧ link M p = t.top ∧ Rep M t
  | [], t => by simp [plug, RepP, link, Whole]
  | .inl (i, r) :: p, t => by
    show Whole M (plug p (.node i t r)) ↔ _
    rw [whole_plug M p]
    simp only [RepP, link, rep_eq, T.top_eq]
    constructor
    · rintro ⟨h1, h2, h3, h4, h5, h6, h7⟩
      exact ⟨⟨h3, h5, h7, h2, h1⟩, h4, h6⟩
    · rintro ⟨⟨h3, h5, h7, h2, h1⟩, h4, h6⟩
      exact ⟨h1, h2, h3, h4, h5, h6, h7⟩
  | .inr (i, l) :: p, t => by
    show Whole M (plug p (.node i l t)) ↔ _
    rw [whole_plug M p]
    simp only [RepP, link, rep_eq, T.top_eq]
    constructor
    · rintro ⟨h1, h2, h3, h4, h5, h6, h7⟩
      exact ⟨⟨h3, h4, h6, h2, h1⟩, h5, h7⟩
    · rintro ⟨⟨h3, h4, h6, h2, h1⟩, h5, h7⟩
      exact ⟨h1, h2, h3, h4, h5, h6, h7⟩
def ups : List Fr → List Nat
  | [] => []
  | .inl (i, r) :: p => i :: (r.nodes ++ ups p)
  | .inr (i, l) :: p => i :: (l.nodes ++ ups p)
theorem mem_ups : ∀ (p : List Fr) (x : Nat), x ∈ ups p ↔ x ∈ bef p ∨ x ∈ aft p
  | [], x => by simp [ups, bef, aft]
  | .inl (i, r) :: p, x => by simp only [ups, bef, aft, List.mem_cons, List.mem_append, mem_ups p x]; grind
  | .inr (i, l) :: p, x => by simp only [ups, bef, aft, List.mem_cons, List.mem_append, mem_ups p x, List.not_mem_nil, or_false]; grind
theorem RepP.congr {M M' : Tm} (hr : M'.rt = M.rt) : ∀ {p : List Fr}, (∀ j ∈ ups p, M'.a j = M.a j ∧ M'.b j = M.b j) → RepP M p → RepP M' p
  | [], _, _ => trivial
  | .inl (i, r) :: p, h, ⟨h0, h1, h2, h3, h4⟩ => by
    have hi := h i (by simp [ups])
    refine ⟨h0, hi.2.trans h1, Rep.congr (fun j hj => h j (by simp [ups, hj])) h2, ?_, RepP.congr hr (fun j hj => h j (by simp [ups, hj])) h4⟩
    rw [← h3]
    cases p with
    | nil => exact hr
    | cons f p =>
      rcases f with ⟨j, r⟩ | ⟨j, l⟩
      · exact (h j (by simp [ups])).1
      · exact (h j (by simp [ups])).2
  | .inr (i, l) :: p, h, ⟨h0, h1, h2, h3, h4⟩ => by
    have hi := h i (by simp [ups])
    refine ⟨h0, hi.1.trans h1, Rep.congr (fun j hj => h j (by simp [ups, hj])) h2, ?_, RepP.congr hr (fun j hj => h j (by simp [ups, hj])) h4⟩
    rw [← h3]
    cases p with
    | nil => exact hr
    | cons f p =>
      rcases f with ⟨j, r⟩ | ⟨j, l⟩
      · exact (h j (by simp [ups])).1
      · exact (h j (by simp [ups])).2
theorem link_congr {M M' : Tm} (hr : M'.rt = M.rt) {p : List Fr} (h : ∀ j ∈ ups p, M'.a j = M.a j ∧ M'.b j = M.b j) : link M' p = link M p := by
  cases p with
  | nil => exact hr
  | cons f p =>
    rcases f with ⟨j, r⟩ | ⟨j, l⟩
    · exact (h j (by simp [ups])).1
    · exact (h j (by simp [ups])).2
theorem updF_ne {f : Nat → Nat} {n x k : Nat} (h : k ≠ n) : updF f n x k = f k := by unfold updF; rw [if_neg h]
theorem updF_eq (f : Nat → Nat) (n x : Nat) : updF f n x n = x := by unfold updF; rw [if_pos rfl]
theorem link_set (M : Tm) (x : Nat) (p : List Fr) : link (setLink M x p) p = x := by
  cases p with
  | nil => rfl
  | cons f p => rcases f with ⟨i, r⟩ | ⟨i, l⟩ <;> exact updF_eq _ _ _
theorem setLink_far (M : Tm) (x : Nat) (p : List Fr) {j : Nat} (h : j ∉ ups p) : (setLink M x p).a j = M.a j ∧ (setLink M x p).b j = M.b j := by
  cases p with
  | nil => exact ⟨rfl, rfl⟩
  | cons f p =>
    rcases f with ⟨i, r⟩ | ⟨i, l⟩
    · exact ⟨updF_ne (fun e => h (by simp [ups, e])), rfl⟩
    · exact ⟨rfl, updF_ne (fun e => h (by simp [ups, e]))⟩
theorem setLink_same (M : Tm) (x : Nat) (p : List Fr) : (setLink M x p).sp = M.sp ∧ (setLink M x p).n = M.n ∧ (setLink M x p).k = M.k ∧ (setLink M x p).v = M.v := by
  cases p with
  | nil => exact ⟨rfl, rfl, rfl, rfl⟩
  | cons f p => rcases f with ⟨i, r⟩ | ⟨i, l⟩ <;> exact ⟨rfl, rfl, rfl, rfl⟩
theorem RepP.set {M : Tm} (x : Nat) : ∀ {p : List Fr}, (ups p).Nodup → RepP M p → RepP (setLink M x p) p
  | [], _, _ => trivial
  | .inl (i, r) :: p, hn, ⟨h0, h1, h2, h3, h4⟩ => by
    have hn' : i ∉ r.nodes ++ ups p := (List.nodup_cons.1 hn).1
    have key : ∀ j ∈ r.nodes ++ ups p, (setLink M x (.inl (i, r) :: p)).a j = M.a j ∧ (setLink M x (.inl (i, r) :: p)).b j = M.b j := fun j hj => ⟨updF_ne (fun e => hn' (e ▸ hj)), rfl⟩
    exact ⟨h0, h1, h2.congr (fun j hj => key j (by simp [hj])), (link_congr (M := M) (M' := setLink M x (.inl (i, r) :: p)) rfl (fun j hj => key j (by simp [hj]))).trans h3, RepP.congr (M := M) (M' := setLink M x (.inl (i, r) :: p)) rfl (fun j hj => key j (by simp [hj])) h4⟩
  | .inr (i, l) :: p, hn, ⟨h0, h1, h2, h3, h4⟩ => by
    have hn' : i ∉ l.nodes ++ ups p := (List.nodup_cons.1 hn).1
    have key : ∀ j ∈ l.nodes ++ ups p, (setLink M x (.inr (i, l) :: p)).a j = M.a j ∧ (setLink M x (.inr (i, l) :: p)).b j = M.b j := fun j hj => ⟨rfl, updF_ne (fun e => hn' (e ▸ hj))⟩
    exact ⟨h0, h1, h2.congr (fun j hj => key j (by simp [hj])), (link_congr (M := M) (M' := setLink M x (.inr (i, l) :: p)) rfl (fun j hj => key j (by simp [hj]))).trans h3, RepP.congr (M := M) (M' := setLink M x (.inr (i, l) :: p)) rfl (fun j hj => key j (by simp [hj])) h4⟩
theorem ups_nodup {p : List Fr} {t : T} (h : (plug p t).nodes.Nodup) : (ups p).Nodup ∧ t.nodes.Nodup ∧ ∀ j ∈ t.nodes, j ∉ ups p := by
  rw [nodes_plug] at h
  rw [List.nodup_append] at h
  obtain ⟨h1, h2, h3⟩ := h
  rw [List.nodup_append] at h2
  obtain ⟨h4, h5, h6⟩ := h2
  refine ⟨?_, h4, fun j hj hu => ?_⟩
  · have : ∀ (p : List Fr), (bef p).Nodup → (aft p).Nodup → (∀ a ∈ bef p, ∀ b ∈ aft p, a ≠ b) → (ups p).Nodup := by
      intro p
      induction p with
      | nil => intro _ _ _; exact List.nodup_nil
      | cons f p ih =>
        rcases f with ⟨i, r⟩ | ⟨i, l⟩
        · intro b1 b2 b3
          simp only [aft, List.nodup_cons, List.nodup_append, List.mem_append] at b2
          simp only [aft, bef, List.mem_cons, List.mem_append] at b3
          simp only [ups, List.nodup_cons, List.nodup_append, List.mem_append, mem_ups]
          have := ih b1 b2.2.2.1 (fun a ha b hb => b3 a ha b (.inr (.inr hb)))
          simp only [bef] at b1
          refine ⟨?_, b2.2.1, this, ?_⟩
          · rintro (q | q | q)
            · exact b2.1 (.inl q)
            · exact b3 _ q _ (.inl rfl) rfl
            · exact b2.1 (.inr q)
          · rintro a ha b (q | q) rfl
            · exact b3 _ q _ (.inr (.inl ha)) rfl
            · exact b2.2.2.2 _ ha _ q rfl
        · intro b1 b2 b3
          simp only [bef, List.nodup_append, List.nodup_cons, List.mem_append, List.mem_cons, List.not_mem_nil, or_false] at b1
          simp only [aft, bef, List.mem_cons, List.mem_append, List.not_mem_nil, or_false] at b3
          simp only [aft] at b2
          simp only [ups, List.nodup_cons, List.nodup_append, List.mem_append, mem_ups]
          have := ih b1.1 b2 (fun a ha b hb => b3 a (.inl ha) b hb)
          refine ⟨?_, b1.2.1.1, this, ?_⟩
          · rintro (q | q | q)
            · exact b1.2.1.2.2 _ q _ rfl rfl
            · exact b1.2.2 _ q _ (.inr rfl) rfl
            · exact b3 _ (.inr (.inr rfl)) _ q rfl
          · rintro a ha b (q | q) rfl
            · exact b1.2.2 _ q _ (.inl ha) rfl
            · exact b3 _ (.inr (.inl ha)) _ q rfl
    exact this p h1 h5 (fun a ha b hb => h3 a ha b (by simp [hb]))
  · rcases (mem_ups p j).1 hu with q | q
    · exact h3 j q j (by simp [hj]) rfl
    · exact h6 j hj j q rfl
theorem Whole.put {M : Tm} {p : List Fr} {t t' : T} {M' : Tm} (h : Whole M (plug p t)) (hn : (plug p t).nodes.Nodup) (h1 : ∀ j ∈ ups p, M'.a j = M.a j ∧ M'.b j = M.b j) (hr : M'.rt = M.rt) (h2 : Rep M' t') (hd : ∀ j ∈ t'.nodes, j ∉ ups p) : Whole (setLink M' t'.top p) (plug p t') := by
  obtain ⟨a1, _, _⟩ := (whole_plug M p t).1 h
  obtain ⟨n1, _, _⟩ := ups_nodup hn
  exact (whole_plug _ p t').2 ⟨(RepP.congr (M := M) hr h1 a1).set _ n1, link_set _ _ _, h2.congr fun j hj => setLink_far _ _ _ (hd j hj)⟩
end Go.Proofs.YtpboiggakehpoaaGreatDoor.Tr
namespace Go.Proofs.YtpboiggakehpoaaGreatDoor.Tr
open Num
def Seg (c : List Ins) : Nat → List Ins → Prop
  | _, [] => True
  | p, i :: l => ci c p = i ∧ Seg c (p + 1) l
theorem P_push {n : Int} (h : n.natAbs ≤ 9007199254740992) : fixB (fixB (X n)) = X n := by rw [X_fix h, X_fix h]
structure Fit (C : Cx) (B R : Nat) : Prop where
  ok : C.Ok
  lo : C.lo ≤ B
  hi : B + 3 * R + 2 < C.hi
  r1 : 1 ≤ R
  r16 : R ≤ 16
theorem Fit.small {C : Cx} {B R : Nat} (h : Fit C B R) : B + 3 * R + 2 < 256 := by have := h.hi; have := h.ok.hi; have := h.ok.nc; omega
structure Holds (B R : Nat) (M : Tm) (mem : Nat → Nat) : Prop where
  sp : mem B = X M.sp
  n : mem (B + 1) = X M.n
  rt : mem (B + 2) = X M.rt
  k : ∀ i, 1 ≤ i → i ≤ R → mem (B + 3 * i) = M.k i
  v : ∀ i, 1 ≤ i → i ≤ R → mem (B + 3 * i + 1) = M.v i
  l : ∀ i, 1 ≤ i → i ≤ R → mem (B + 3 * i + 2) = X ((M.a i + (R + 1) * M.b i : Nat) : Int)
  bs : M.sp ≤ R
  bn : M.n ≤ R
  br : M.rt ≤ R
  ba : ∀ i, M.a i ≤ R
  bb : ∀ i, M.b i ≤ R
def hc (B : Nat) : List Fr → Nat
  | [] => B + 2
  | .inl (i, _) :: _ => B + 3 * i + 2
  | .inr (i, _) :: _ => B + 3 * i + 2
def sd (R : Nat) : List Fr → Nat
  | [] => 1
  | .inl (_, _) :: _ => 1
  | .inr (_, _) :: _ => R + 1
def oldV (R : Nat) (M : Tm) : List Fr → Nat
  | [] => M.rt
  | .inl (i, _) :: _ => M.a i + (R + 1) * M.b i
  | .inr (i, _) :: _ => M.a i + (R + 1) * M.b i
def InR (R : Nat) : List Fr → Prop
  | [] => True
  | .inl (i, _) :: _ => 1 ≤ i ∧ i ≤ R
  | .inr (i, _) :: _ => 1 ≤ i ∧ i ≤ R
section
variable {C : Cx} {B R : Nat} {M : Tm} {mem : Nat → Nat} {p : List Fr}
theorem hole_mem (h : Holds B R M mem) (hp : InR R p) : mem (hc B p) = X (oldV R M p) := by
  cases p with
  | nil => exact h.rt
  | cons f p =>
    rcases f with ⟨i, r⟩ | ⟨i, l⟩
    · exact h.l i hp.1 hp.2
    · exact h.l i hp.1 hp.2
theorem mix {a b R : Nat} (ha : a ≤ R) (hb : b ≤ R) (hR : R ≤ 16) : a + (R + 1) * b < 289 ∧ (a + (R + 1) * b) / 1 % (R + 1) = a ∧ (a + (R + 1) * b) / (R + 1) % (R + 1) = b := by
  refine ⟨?_, ?_, ?_⟩
  · have : (R + 1) * b ≤ 17 * 16 := Nat.mul_le_mul (by omega) (by omega)
    omega
  · rw [Nat.div_one, Nat.add_mul_mod_self_left, Nat.mod_eq_of_lt (by omega)]
  · rw [Nat.add_mul_div_left _ _ (by omega), Nat.div_eq_of_lt (by omega), Nat.zero_add, Nat.mod_eq_of_lt (by omega)]
theorem hole_num (h : Holds B R M mem) (hR : R ≤ 16) : oldV R M p < 289 ∧ oldV R M p / sd R p % (R + 1) = link M p ∧ link M p ≤ R := by
  cases p with
  | nil => have := h.br; exact ⟨by show M.rt < 289; omega, by show M.rt / 1 % (R + 1) = M.rt; rw [Nat.div_one, Nat.mod_eq_of_lt (by omega)], this⟩
  | cons f p =>
    rcases f with ⟨i, r⟩ | ⟨i, l⟩
    · obtain ⟨a, b, c⟩ := mix (h.ba i) (h.bb i) hR; exact ⟨a, b, h.ba i⟩
    · obtain ⟨a, b, c⟩ := mix (h.ba i) (h.bb i) hR; exact ⟨a, c, h.bb i⟩
theorem sd_one (hR : R ≤ 16) : 1 ≤ sd R p ∧ sd R p ≤ 17 := by
  cases p with
  | nil => exact ⟨Nat.le_refl _, by show 1 ≤ 17; decide⟩
  | cons f p => rcases f with ⟨i, r⟩ | ⟨i, l⟩ <;> exact ⟨by simp [sd], by simp [sd]; try omega⟩
theorem hc_in (hF : Fit C B R) (hp : InR R p) : C.lo ≤ hc B p ∧ hc B p < C.hi ∧ hc B p < 256 := by
  have h1 := hF.lo
  have h2 := hF.hi
  have h3 := hF.small
  cases p with
  | nil => have := hF.r1; simp only [hc]; omega
  | cons f p => rcases f with ⟨i, r⟩ | ⟨i, l⟩ <;> (have := hp.2; simp only [hc]; omega)
theorem div_mod {o s R x : Nat} (ho : o < 289) (hs : 1 ≤ s ∧ s ≤ 17) (hR : R ≤ 16) (h : o / s % (R + 1) = x) : twoV 5 (oneV 3 (twoV 4 (X o) (X s))) (X ((R : Int) + 1)) = X x := by
  rw [X_div (a := (o : Int)) (b := (s : Int)) (by omega) (by omega) (by omega) (by omega)]
  have h1 : ((o : Int) / (s : Int)) ≤ 400 := by
    have := Nat.div_le_self o s
    have e : ((o / s : Nat) : Int) = (o : Int) / (s : Int) := Int.natCast_ediv o s
    omega
  have h0 : (0 : Int) ≤ (o : Int) / (s : Int) := Int.ediv_nonneg (by omega) (by omega)
  rw [X_mod h0 (by omega) (by omega) (by omega), ← h]
  congr 1
variable {st out : List Nat} {q e u nw x0 x1 x4 : Nat}
theorem seek_num (hF : Fit C B R) (hS : Seg C.code q (seek B R e)) (hH : Holds B R M mem) (hp : InR R p) (hl : st.length ≤ 50) : Star C ⟨q, st, [x0, x1, X (hc B p : Nat), X (sd R p : Nat), x4], out, mem, u, nw⟩ ⟨q + 9, X (link M p : Nat) :: st, [X (link M p : Nat), x1, X (hc B p : Nat), X (sd R p : Nat), x4], out, mem, u + 9, nw⟩ := by
  obtain ⟨h0, h1, h2, h3, h4, h5, h6, h7, h8, _⟩ := hS
  obtain ⟨c1, c2, _⟩ := hc_in hF hp
  obtain ⟨o1, o2, o3⟩ := hole_num (p := p) hH hF.r16
  have hr := hF.r16
  refine .head (.get 2 _ h0 rfl (by omega)) ?_
  refine .head (.read (hc B p) _ h1 c1 c2 (hole_mem hH hp) (by omega)) ?_
  refine .head (.get 3 _ h2 rfl (by simp only [List.length_cons]; omega)) ?_
  refine .head (.two _ h3 rfl (by omega)) ?_
  refine .head (.one _ h4 rfl (by omega)) ?_
  refine .head (.push _ h5 (P_push (by omega)) (by simp only [List.length_cons]; omega)) ?_
  refine .head (.two _ h6 (div_mod o1 (sd_one hr) hr o2) (by omega)) ?_
  refine .head (.set 0 h7 (by simp) (by omega)) ?_
  refine .head (.get 0 _ h8 rfl (by omega)) ?_
  exact .refl _
theorem seek_end (hF : Fit C B R) (hS : Seg C.code q (seek B R e)) (hH : Holds B R M mem) (hp : InR R p) (hl : st.length ≤ 50) (h0 : link M p = 0) : Star C ⟨q, st, [x0, x1, X (hc B p : Nat), X (sd R p : Nat), x4], out, mem, u, nw⟩ ⟨e, st, [X (0 : Nat), x1, X (hc B p : Nat), X (sd R p : Nat), x4], out, mem, u + 10, nw⟩ := by
  have k := seek_num (x0 := x0) (x1 := x1) (x4 := x4) (out := out) (u := u) (nw := nw) hF hS hH hp hl
  rw [h0] at k
  obtain ⟨_, _, _, _, _, _, _, _, _, h9, _⟩ := hS
  refine k.trans (.head (.unF e h9 (by rw [true_X (by decide)]; decide) (by omega)) (.refl _))
theorem seek_in {i : Nat} (hF : Fit C B R) (hS : Seg C.code q (seek B R e)) (hH : Holds B R M mem) (hp : InR R p) (hl : st.length ≤ 50) (h0 : link M p = i) (hi : i ≠ 0) : Star C ⟨q, st, [x0, x1, X (hc B p : Nat), X (sd R p : Nat), x4], out, mem, u, nw⟩ ⟨q + 16, st, [X (i : Nat), X ((B + 3 * i : Nat) : Int), X (hc B p : Nat), X (sd R p : Nat), x4], out, mem, u + 16, nw⟩ := by
  have k := seek_num (x0 := x0) (x1 := x1) (x4 := x4) (out := out) (u := u) (nw := nw) hF hS hH hp hl
  have hr := hF.r16
  have hs := hF.small
  have o3 := (hole_num (p := p) hH hr).2.2
  rw [h0] at k o3
  obtain ⟨_, _, _, _, _, _, _, _, _, h9, h10, h11, h12, h13, h14, h15, _⟩ := hS
  refine k.trans ?_
  refine .head (.unT h9 (by rw [true_X (by omega)]; simp; omega) (by omega)) ?_
  refine .head (.get 0 _ h10 rfl (by omega)) ?_
  refine .head (.push _ h11 (P_push (by decide)) (by simp only [List.length_cons]; omega)) ?_
  refine .head (.two _ h12 (X_mul (by omega) (by omega) (by omega) (by omega) (fun z => by omega)) (by omega)) ?_
  refine .head (.push _ h13 (P_push (by omega)) (by simp only [List.length_cons]; omega)) ?_
  refine .head (.two (X ((B + 3 * i : Nat) : Int)) h14 ((X_add (by omega) (by omega)).trans (congrArg X (by omega))) (by omega)) ?_
  refine .head (.set 1 h15 (by simp) (by omega)) ?_
  exact .refl _
end
end Go.Proofs.YtpboiggakehpoaaGreatDoor.Tr
namespace Go.Proofs.YtpboiggakehpoaaGreatDoor.Tr
open Num
theorem cmp_place (a b : Nat) : (cmpB a b < 0 ↔ place a < place b) ∧ (cmpB a b = 0 ↔ place a = place b) ∧ (0 ≤ cmpB a b ↔ place b ≤ place a) := by
  rcases Nat.lt_trichotomy (place a) (place b) with h | h | h
  · rw [cmpB_lt h]; omega
  · rw [cmpB_eq h]; omega
  · rw [cmpB_gt h]; omega
theorem place_def (b : Nat) : place b = if 9223372036854775808 ≤ fixB b then 18446744073709551615 - fixB b else fixB b + 9223372036854775808 := rfl
theorem place_inj {a b : Nat} (ha : okN a) (hb : okN b) (h : place a = place b) : a = b := by
  rw [place_def, place_def, ha.1, hb.1] at h
  have h1 := ha.2
  have h2 := hb.2
  split at h <;> split at h <;> omega
theorem seg_split {c : List Ins} : ∀ {a b : List Ins} {p : Nat}, Seg c p (a ++ b) → Seg c p a ∧ Seg c (p + a.length) b
  | [], b, p, h => ⟨trivial, h⟩
  | i :: a, b, p, h => by
    obtain ⟨h1, h2⟩ := seg_split h.2
    refine ⟨⟨h.1, h1⟩, ?_⟩
    rw [List.length_cons, Nat.add_comm a.length 1, ← Nat.add_assoc]
    exact h2
section
variable {C : Cx} {B R : Nat} {M : Tm} {mem : Nat → Nat} {st out : List Nat} {q e u nw x0 x1 x2 x3 x4 i y : Nat}
theorem addr_at {f : Nat} (hF : Fit C B R) (hi : i ≤ R) (hf : f ≤ 2) (h1 : ci C.code q = I 7 1) (h2 : ci C.code (q + 1) = P f) (h3 : ci C.code (q + 1 + 1) = I 10 1) (hl : st.length ≤ 50) :
    Star C ⟨q, st, [x0, X ((B + 3 * i : Nat) : Int), x2, x3, x4], out, mem, u, nw⟩ ⟨q + 3, X ((B + 3 * i + f : Nat) : Int) :: st, [x0, X ((B + 3 * i : Nat) : Int), x2, x3, x4], out, mem, u + 3, nw⟩ := by
  have hs := hF.small
  refine .head (.get 1 _ h1 rfl (by omega)) ?_
  refine .head (.push _ h2 (P_push (by omega)) (by simp only [List.length_cons]; omega)) ?_
  refine .head (.two (X ((B + 3 * i + f : Nat) : Int)) h3 ((X_add (by omega) (by omega)).trans (congrArg X (by omega))) (by omega)) ?_
  exact .refl _
theorem load_at {f : Nat} (hF : Fit C B R) (hi : i ≤ R) (hf : f ≤ 2) (hS : Seg C.code q (loadK f)) (hm : mem (B + 3 * i + f) = y) (hl : st.length ≤ 50) :
    Star C ⟨q, st, [x0, X ((B + 3 * i : Nat) : Int), x2, x3, x4], out, mem, u, nw⟩ ⟨q + 4, y :: st, [x0, X ((B + 3 * i : Nat) : Int), x2, x3, x4], out, mem, u + 4, nw⟩ := by
  obtain ⟨h1, h2, h3, h4, _⟩ := hS
  have hlo := hF.lo
  have hhi := hF.hi
  refine (addr_at hF hi hf h1 h2 h3 hl).trans ?_
  refine .head (.read (B + 3 * i + f) _ h4 (by omega) (by omega) hm (by omega)) ?_
  exact .refl _
theorem next_at {again : Nat} (hF : Fit C B R) (hi : i ≤ R) (hS : Seg C.code q (nextS again)) (hl : st.length ≤ 50) :
    Star C ⟨q, st, [x0, X ((B + 3 * i : Nat) : Int), x2, x3, x4], out, mem, u, nw⟩ ⟨again, st, [x0, X ((B + 3 * i : Nat) : Int), X ((B + 3 * i + 2 : Nat) : Int), x3, x4], out, mem, u + 5, nw⟩ := by
  obtain ⟨h1, h2, h3, h4, h5, _⟩ := hS
  refine (addr_at (f := 2) hF hi (by omega) h1 h2 h3 hl).trans ?_
  refine .head (.set 2 h4 (by simp) (by omega)) ?_
  refine .head (.jump again h5 (by omega)) ?_
  exact .refl _
theorem turn_at (hR : R ≤ 16) (c : Bool) (hS : Seg C.code q (turnS R)) (hl : st.length ≤ 50) :
    Star C ⟨q, yesB c :: st, [x0, x1, x2, x3, x4], out, mem, u, nw⟩ ⟨q + 5, st, [x0, x1, x2, X (((if c then R + 1 else 1) : Nat) : Int), x4], out, mem, u + 5, nw⟩ := by
  obtain ⟨h1, h2, h3, h4, h5, _⟩ := hS
  have e : X (((if c then R + 1 else 1) : Nat) : Int) = twoV 1 (twoV 3 (yesB c) (X (R : Int))) (X 1) := by
    rw [yes_X]
    cases c
    · rw [if_neg Bool.false_ne_true, if_neg Bool.false_ne_true, X_mul (by omega) (by omega) (by omega) (by omega) (fun z => by omega), X_add (by omega) (by omega)]
      congr 1
      omega
    · rw [if_pos rfl, if_pos rfl, X_mul (by omega) (by omega) (by omega) (by omega) (fun z => by omega), X_add (by omega) (by omega)]
      congr 1
      omega
  rw [e]
  refine .head (.push _ h1 (P_push (by omega)) (by simp only [List.length_cons]; omega)) ?_
  refine .head (.two _ h2 rfl (by omega)) ?_
  refine .head (.push _ h3 (P_push (by decide)) (by simp only [List.length_cons]; omega)) ?_
  refine .head (.two _ h4 rfl (by omega)) ?_
  refine .head (.set 3 h5 (by simp) (by omega)) ?_
  exact .refl _
def Srt (M : Tm) (l : List Nat) : Prop := l.Pairwise fun i j => place (M.k i) < place (M.k j)
structure Way (M : Tm) (K : Nat) (p : List Fr) : Prop where
  b : ∀ j ∈ bef p, place (M.k j) < place K
  a : ∀ j ∈ aft p, place K < place (M.k j)
theorem way_lf {l r : T} {p : List Fr} {K : Nat} (hs : Srt M (plug p (.node i l r)).nodes) (hw : Way M K p) (hk : place K < place (M.k i)) : Way M K (.inl (i, r) :: p) := by
  refine ⟨hw.b, fun j hj => ?_⟩
  simp only [aft, List.mem_cons, List.mem_append] at hj
  rcases hj with rfl | hj | hj
  · exact hk
  · rw [nodes_plug] at hs
    have h1 := ((List.pairwise_append.1 ((List.pairwise_append.1 hs).2.1)).1)
    have h2 := (List.pairwise_append.1 h1).2.1
    exact Nat.lt_trans hk ((List.pairwise_cons.1 h2).1 j hj)
  · exact hw.a j hj
theorem way_rg {l r : T} {p : List Fr} {K : Nat} (hs : Srt M (plug p (.node i l r)).nodes) (hw : Way M K p) (hk : place (M.k i) < place K) : Way M K (.inr (i, l) :: p) := by
  refine ⟨fun j hj => ?_, hw.a⟩
  simp only [bef, List.mem_append, List.mem_singleton] at hj
  rcases hj with hj | hj | rfl
  · exact hw.b j hj
  · rw [nodes_plug] at hs
    have h1 := ((List.pairwise_append.1 ((List.pairwise_append.1 hs).2.1)).1)
    have h2 := (List.pairwise_append.1 h1).2.2
    exact Nat.lt_trans (h2 j hj i (by simp)) hk
  · exact hk
def Found (C : Cx) (B R : Nat) (M : Tm) (mem : Nat → Nat) (K bottom found : Nat) (v : Vm) (st out : List Nat) (u nw x4 : Nat) (n : Nat) (t : T) : Prop :=
  (∃ p', plug p' .nil = t ∧ Way M K p' ∧ n ≤ p'.length ∧ ∃ y1 u', u' = u + 39 * (p'.length - n) + 10 ∧ Star C v ⟨bottom, st, [X (0 : Nat), y1, X (hc B p' : Nat), X (sd R p' : Nat), x4], out, mem, u', nw⟩) ∨
  ∃ p' i l r, plug p' (.node i l r) = t ∧ Way M K p' ∧ place (M.k i) = place K ∧ n ≤ p'.length ∧ ∃ u', u' = u + 39 * (p'.length - n) + 23 ∧ Star C v ⟨found, st, [X (i : Nat), X ((B + 3 * i : Nat) : Int), X (hc B p' : Nat), X (sd R p' : Nat), x4], out, mem, u', nw⟩
theorem Found.no {K bottom found : Nat} {v : Vm} {n : Nat} {t : T} (p' : List Fr) (h : plug p' .nil = t) (w : Way M K p') (hl : n ≤ p'.length) (y1 u' : Nat) (hu : u' = u + 39 * (p'.length - n) + 10) (s : Star C v ⟨bottom, st, [X (0 : Nat), y1, X (hc B p' : Nat), X (sd R p' : Nat), x4], out, mem, u', nw⟩) : Found C B R M mem K bottom found v st out u nw x4 n t := .inl ⟨p', h, w, hl, y1, u', hu, s⟩
theorem Found.yes {K bottom found : Nat} {v : Vm} {n : Nat} {t : T} (p' : List Fr) (i : Nat) (l r : T) (h : plug p' (.node i l r) = t) (w : Way M K p') (hk : place (M.k i) = place K) (hl : n ≤ p'.length) (u' : Nat) (hu : u' = u + 39 * (p'.length - n) + 23) (s : Star C v ⟨found, st, [X (i : Nat), X ((B + 3 * i : Nat) : Int), X (hc B p' : Nat), X (sd R p' : Nat), x4], out, mem, u', nw⟩) : Found C B R M mem K bottom found v st out u nw x4 n t := .inr ⟨p', i, l, r, h, w, hk, hl, u', hu, s⟩
theorem Found.step {K bottom found n : Nat} {v v' : Vm} {t : T} (h : Found C B R M mem K bottom found v' st out (u + 39) nw x4 (n + 1) t) (s : Star C v v') : Found C B R M mem K bottom found v st out u nw x4 n t := by
  rcases h with ⟨p', h, w, hl, y1, u', hu, k⟩ | ⟨p', i, l, r, h, w, hk, hl, u', hu, k⟩
  · exact .no p' h w (by omega) y1 u' (by omega) (s.trans k)
  · exact .yes p' i l r h w hk (by omega) u' (by omega) (s.trans k)
theorem inR_of {p : List Fr} {t : T} (h : ∀ j ∈ (plug p t).nodes, 1 ≤ j ∧ j ≤ R) : InR R p := by
  cases p with
  | nil => trivial
  | cons f p =>
    rcases f with ⟨i, r⟩ | ⟨i, l⟩
    · exact h i (by rw [nodes_plug]; simp [aft])
    · exact h i (by rw [nodes_plug]; simp [bef])
theorem same_no {a b : Nat} (ha : okN a) (hb : okN b) (h : place a ≠ place b) : twoV 11 a b = yesB false := by
  show yesB (fixB a == fixB b) = _
  rw [ha.1, hb.1, beq_eq_false_iff_ne.2 (fun e => h (by rw [e]))]
theorem same_yes {a b : Nat} (ha : okN a) (hb : okN b) (h : place a = place b) : twoV 11 a b = yesB true := by
  show yesB (fixB a == fixB b) = _
  rw [place_inj ha hb h, beq_self_eq_true]
theorem ahead_is (a b : Nat) : twoV 12 a b = yesB (decide (place a < place b)) := congrArg yesB (decide_eq_decide.2 (cmp_place a b).1)
theorem search_any {again bottom found K : Nat} (hF : Fit C B R) (hS : Seg C.code again (lookS B R again bottom found)) (hH : Holds B R M mem) (hK : C.args 0 = K) (hKo : okN K) (hko : ∀ j, okN (M.k j)) (hl : st.length ≤ 40) (t : T) : ∀ (p : List Fr) (x0 x1 u : Nat), Whole M (plug p t) → Srt M (plug p t).nodes → (∀ j ∈ (plug p t).nodes, 1 ≤ j ∧ j ≤ R) → Way M K p →
    Found C B R M mem K bottom found ⟨again, st, [x0, x1, X (hc B p : Nat), X (sd R p : Nat), x4], out, mem, u, nw⟩ st out u nw x4 p.length (plug p t) := by
  obtain ⟨hS0, hS1⟩ := seg_split hS
  obtain ⟨hS1, hS2⟩ := seg_split hS1
  obtain ⟨hS2, hS3⟩ := seg_split hS2
  obtain ⟨hS3, hS4⟩ := seg_split hS3
  obtain ⟨hS4, hS5⟩ := seg_split hS4
  obtain ⟨hS5, hS6⟩ := seg_split hS5
  have hR := hF.r16
  induction t using T.ind with
  | nil =>
    intro p x0 x1 u hW hs hj hw
    have hlink : link M p = 0 := ((whole_plug M p .nil).1 hW).2.1
    exact .no p rfl hw (Nat.le_refl _) x1 (u + 10) (by omega) (seek_end hF hS0 hH (inR_of hj) (by omega) hlink)
  | node i l r ihl ihr =>
    intro p x0 x1 u hW hs hj hw
    obtain ⟨hi1, hi2⟩ := hj i (by rw [nodes_plug]; simp [T.nodes_eq])
    have hlink : link M p = i := ((whole_plug M p (.node i l r)).1 hW).2.1
    have s0 := seek_in (st := st) (x0 := x0) (x1 := x1) (x4 := x4) (out := out) (u := u) (nw := nw) hF hS0 hH (inR_of hj) (by omega) hlink (by omega)
    have s1 := load_at (f := 0) (st := st) (x0 := X (i : Nat)) (x2 := X (hc B p : Nat)) (x3 := X (sd R p : Nat)) (x4 := x4) (out := out) (u := u + 16) (nw := nw) hF hi2 (by omega) hS1 (hH.k i hi1 hi2) (by omega)
    obtain ⟨a1, a2, a3, _⟩ := hS2
    by_cases hk : place (M.k i) = place K
    · refine .yes p i l r rfl hw hk (Nat.le_refl _) (u + 23) (by omega) (s0.trans (s1.trans ?_))
      refine .head (.arg 0 _ a1 hK (by simp only [List.length_cons]; omega)) ?_
      refine .head (.two _ a2 (same_yes (hko i) hKo hk) (by omega)) ?_
      refine .head (.ifT found a3 (true_yes true) (by omega)) ?_
      exact .refl _
    · have s2 : Star C ⟨again, st, [x0, x1, X (hc B p : Nat), X (sd R p : Nat), x4], out, mem, u, nw⟩ ⟨again + 16 + 4 + 3, st, [X (i : Nat), X ((B + 3 * i : Nat) : Int), X (hc B p : Nat), X (sd R p : Nat), x4], out, mem, u + 23, nw⟩ := by
        refine s0.trans (s1.trans ?_)
        refine .head (.arg 0 _ a1 hK (by simp only [List.length_cons]; omega)) ?_
        refine .head (.two _ a2 (same_no (hko i) hKo hk) (by omega)) ?_
        refine .head (.ifF a3 (true_yes false) (by omega)) ?_
        exact .refl _
      have s3 := load_at (f := 0) (st := st) (x0 := X (i : Nat)) (x2 := X (hc B p : Nat)) (x3 := X (sd R p : Nat)) (x4 := x4) (out := out) (u := u + 23) (nw := nw) hF hi2 (by omega) hS3 (hH.k i hi1 hi2) (by omega)
      obtain ⟨b1, b2, _⟩ := hS4
      have s4 : Star C ⟨again, st, [x0, x1, X (hc B p : Nat), X (sd R p : Nat), x4], out, mem, u, nw⟩ ⟨again + 16 + 4 + 3 + 4 + 2, yesB (decide (place (M.k i) < place K)) :: st, [X (i : Nat), X ((B + 3 * i : Nat) : Int), X (hc B p : Nat), X (sd R p : Nat), x4], out, mem, u + 29, nw⟩ := by
        refine s2.trans (s3.trans ?_)
        refine .head (.arg 0 _ b1 hK (by simp only [List.length_cons]; omega)) ?_
        refine .head (.two _ b2 (ahead_is _ _) (by omega)) ?_
        exact .refl _
      have s5 := s4.trans ((turn_at hR _ hS5 (by omega)).trans (next_at hF hi2 hS6 (by omega)))
      by_cases hlt : place (M.k i) < place K
      · rw [decide_eq_true hlt, if_pos rfl] at s5
        exact (ihr (.inr (i, l) :: p) (X (i : Nat)) (X ((B + 3 * i : Nat) : Int)) (u + 39) hW hs hj (way_rg hs hw hlt)).step s5
      · rw [decide_eq_false hlt, if_neg Bool.false_ne_true] at s5
        exact (ihl (.inl (i, r) :: p) (X (i : Nat)) (X ((B + 3 * i : Nat) : Int)) (u + 39) hW hs hj (way_lf hs hw (by omega))).step s5
end
end Go.Proofs.YtpboiggakehpoaaGreatDoor.Tr
namespace Go.Proofs.YtpboiggakehpoaaGreatDoor.Tr
open Num
def v0 (s : List Nat) : Vm := ⟨0, [], [0, 0, 0, 0, 0], [], fun c => Sx.getV s (c : Nat), 0, 0⟩
structure Res (C : Cx) (s : List Nat) (v : Vm) (how cod : Int) (m : Mac) : Prop where
  how : m.how = how
  cod : m.cod = cod
  err : m.err = 0
  out : m.out = v.out
  used : m.used = (v.u : Int) + 1
  rd : In C m.reads
  bf : In C m.buf
  few : m.buf.length ≤ v.nw
  rest : Rest m
  see : ∀ c, c < C.hi → v.mem c = if hasC m.buf c then Go.Proofs.YtpboiggakehpoaaGreatDoor.getC m.buf c else Sx.getV s c
def cxOf (a b e t : Int) (cs : List Ins) (l : List Nat) (lo hi : Nat) : Cx := ⟨a, b, e, t == 2, cs, argF l, lo, hi⟩
theorem abs_new {a b e t : Int} {cs : List Ins} {l s : List Nat} {lo hi : Nat} (hc : checkB t cs = true) : Abs (cxOf a b e t cs l lo hi) s (v0 s) (newM a b e t cs l) := by
  refine ⟨[], [], ?_, ⟨fun c _ => by rw [if_neg (by simp [hasC, idx])]; rfl, Nat.le_refl _, fun t ht => (by cases ht), fun t ht => (by cases ht)⟩⟩
  unfold newM Cx.mac cxOf v0
  rw [hc, if_pos rfl]
  have e : (fun k : Nat => ([0, 0, 0, 0, 0] : List Nat).getD k 0) = fun _ => 0 := by
    funext k
    match k with
    | 0 => rfl
    | 1 => rfl
    | 2 => rfl
    | 3 => rfl
    | 4 => rfl
    | k + 5 => rfl
  rw [e]
  rfl
section
variable {C : Cx} {s : List Nat}
theorem go_halt {v : Vm} {m : Mac} {i : Ins} {how cod : Int} (hi : ci C.code v.pl = i) (h : (i = I 20 0 ∧ how = 1 ∧ cod = 0) ∨ (∃ n : Nat, i = I 19 n ∧ how = 2 ∧ cod = n)) (hl : v.st.length ≤ 64) (hu : (v.u : Int) < C.fuel) (ha : Abs C s v m) (hr : Rest (goM s m)) : Res C s v how cod (goM s m) := by
  obtain ⟨rd, bf, rfl, hse⟩ := ha
  rcases h with ⟨rfl, rfl, rfl⟩ | ⟨n, rfl, rfl, rfl⟩
  · have e : stepM (C.mac v rd bf) = doM (begM (C.mac v rd bf)) (I 20 0) := go_ok (rd := rd) (bf := bf) hi (by decide) hu (room_of (show (0 : Int) ≤ _ by omega) (show _ - (0 : Int) + 0 ≤ 64 by omega))
    have e2 : doM (begM (C.mac v rd bf)) (I 20 0) = ({ begM (C.mac v rd bf) with how := 1, cod := 0, err := 0 }, askEnd) := rfl
    rw [e2] at e
    have e3 : goM s (C.mac v rd bf) = { begM (C.mac v rd bf) with how := 1, cod := 0, err := 0 } := by rw [go_kindN (by rw [e]; show ¬ (4 : Int) = 1; decide), e]
    rw [e3] at hr ⊢
    exact ⟨rfl, rfl, rfl, rfl, rfl, hse.rd, hse.bf, hse.few, hr, hse.see⟩
  · have e : stepM (C.mac v rd bf) = doM (begM (C.mac v rd bf)) (I 19 n) := go_ok (rd := rd) (bf := bf) hi (by decide) hu (room_of (show (0 : Int) ≤ _ by omega) (show _ - (0 : Int) + 0 ≤ 64 by omega))
    have e2 : doM (begM (C.mac v rd bf)) (I 19 n) = ({ begM (C.mac v rd bf) with how := 2, cod := n, err := 0 }, askEnd) := rfl
    rw [e2] at e
    have e3 : goM s (C.mac v rd bf) = { begM (C.mac v rd bf) with how := 2, cod := n, err := 0 } := by rw [go_kindN (by rw [e]; show ¬ (4 : Int) = 1; decide), e]
    rw [e3] at hr ⊢
    exact ⟨rfl, rfl, rfl, rfl, rfl, hse.rd, hse.bf, hse.few, hr, hse.see⟩
end
theorem run_res {a b c e t : Int} {cs : List Ins} {l s : List Nat} {lo hi : Nat} {v : Vm} {i : Ins} {how cod : Int} (hg : goodB a b c e s.length l.length = true) (hk : checkB t cs = true) (hx : ∀ k, k < cs.length → (ci cs k).x < 18446744073709551616) (hl : ∀ x ∈ l, x < 18446744073709551616) (hs : okS s)
    (hC : (cxOf a c e t cs l lo hi).Ok) (hv : Star (cxOf a c e t cs l lo hi) (v0 s) v) (hi' : ci cs v.pl = i) (h : (i = I 20 0 ∧ how = 1 ∧ cod = 0) ∨ (∃ n : Nat, i = I 19 n ∧ how = 2 ∧ cod = n)) (hl2 : v.st.length ≤ 64) (hu : (v.u : Int) < c) (hw : (v.nw : Int) ≤ e) :
    Res (cxOf a c e t cs l lo hi) s v how cod (runR a b c e t cs l s) := by
  have hcfg : Md.cfgB a b c e = true := by unfold goodB at hg; simp only [Bool.and_eq_true] at hg; exact hg.1.1
  have hr0 := new_rest (a := a) (b := b) (f := c) (e := e) (t := t) hcfg hx hl
  have ha := hv.sim hC hs (by show (v.u : Int) ≤ c; omega) hw (abs_new (a := a) (b := c) (e := e) (l := l) (lo := lo) (hi := hi) hk)
  have hfuel := (Md.cfgB_iff.1 hcfg).2.2.1
  have e0 : v.u - (v0 s).u = v.u := Nat.sub_zero _
  rw [e0] at ha
  have hrr := (hr0.run (k := v.u) hs).go hs
  have hres := go_halt hi' h hl2 hu ha hrr
  have e1 : runR a b c e t cs l s = goM s (runN s v.u (newM a c e t cs l)) := by
    unfold runR
    rw [hg, if_pos rfl]
    unfold endM
    have hle : v.u + 1 ≤ 1025 := by omega
    have e2 : (1025 : Nat) = (v.u + 1) + (1025 - (v.u + 1)) := by omega
    rw [e2, runN_add, runN_succ]
    exact runN_over hrr.nw (by rw [hres.how]; rcases h with ⟨_, h, _⟩ | ⟨_, _, h, _⟩ <;> rw [h] <;> decide) _
  rw [e1]
  exact hres
theorem Res.aft {C : Cx} {s : List Nat} {v : Vm} {cod : Int} {m : Mac} (h : Res C s v 1 cod m) {i : Nat} (hi : i < s.length) : (aftS s m).getD i 0 = if i < C.hi then v.mem i else s.getD i 0 := by
  rw [aft_at h.rest h.how hi]
  have hg : Sx.getV s (i : Nat) = s.getD i 0 := by
    unfold Sx.getV
    rw [Sx.hasN_nat, decide_eq_true hi, if_pos rfl, Int.toNat_natCast]
  by_cases hh : i < C.hi
  · rw [if_pos hh, h.see i hh, hg]
    cases hq : hasC m.buf (i : Int) with
    | true => rw [if_pos (hasC_mem.1 hq), if_pos rfl]
    | false => rw [if_neg (fun z => by rw [hasC_mem.2 z] at hq; cases hq), if_neg Bool.false_ne_true]
  · rw [if_neg hh, if_neg]
    intro z
    obtain ⟨t, ht, e⟩ := cells_mem.1 z
    have := h.bf t ht
    omega
end Go.Proofs.YtpboiggakehpoaaGreatDoor.Tr
namespace Go.Proofs.YtpboiggakehpoaaGreatDoor.Tr
open Num
abbrev Prs := List (Nat × Nat)
def ahd (L : Prs) (K : Nat) : Nat := (L.takeWhile fun q => decide (place q.1 < place K)).length
def isK (L : Prs) (K : Nat) : Bool := decide (ahd L K < L.length) && decide (place (L.getD (ahd L K) (0, 0)).1 = place K)
def getS (L : Prs) (K : Nat) : List Nat := if isK L K then [(L.getD (ahd L K) (0, 0)).2] else []
def putS (L : Prs) (K V : Nat) : Prs := if isK L K then L.set (ahd L K) ((L.getD (ahd L K) (0, 0)).1, V) else L.take (ahd L K) ++ (K, V) :: L.drop (ahd L K)
def delS (L : Prs) (K : Nat) : Prs := if isK L K then L.take (ahd L K) ++ L.drop (ahd L K + 1) else L
def fstS (L : Prs) (i : Nat) : List Nat := if i < L.length then [(L.getD i (0, 0)).1, (L.getD i (0, 0)).2] else []
def aftS2 (L : Prs) (K : Nat) : List Nat := fstS L (if isK L K then ahd L K + 1 else ahd L K)
def allS (L : Prs) : List Nat := L.flatMap fun q => [q.1, q.2]
theorem ahd_app {A Z : Prs} {K : Nat} (hA : ∀ q ∈ A, place q.1 < place K) (hZ : ∀ q, Z.head? = some q → ¬ place q.1 < place K) : ahd (A ++ Z) K = A.length := by
  unfold ahd
  rw [List.takeWhile_append_of_pos (fun q hq => decide_eq_true (hA q hq))]
  cases Z with
  | nil => simp
  | cons q Z =>
    rw [List.takeWhile_cons_of_neg (by simpa using hZ q rfl)]
    simp
theorem isK_no {A Z : Prs} {K : Nat} (hA : ∀ q ∈ A, place q.1 < place K) (hZ : ∀ q ∈ Z, place K < place q.1) : ahd (A ++ Z) K = A.length ∧ isK (A ++ Z) K = false := by
  have h := ahd_app (Z := Z) hA (fun q hq => by have := hZ q (List.mem_of_mem_head? hq); omega)
  refine ⟨h, ?_⟩
  unfold isK
  rw [h]
  cases Z with
  | nil => simp
  | cons q Z =>
    have e : (A ++ q :: Z).getD A.length (0, 0) = q := by simp [List.getD_eq_getElem?_getD]
    rw [e, decide_eq_false (show ¬ place q.1 = place K by have := hZ q (by simp); omega), Bool.and_false]
theorem isK_yes {A Z : Prs} {K : Nat} {q : Nat × Nat} (hA : ∀ q ∈ A, place q.1 < place K) (hq : place q.1 = place K) : ahd (A ++ q :: Z) K = A.length ∧ isK (A ++ q :: Z) K = true ∧ (A ++ q :: Z).getD A.length (0, 0) = q := by
  have h := ahd_app (Z := q :: Z) hA (fun x hx => by injection hx with hx; subst hx; omega)
  have e : (A ++ q :: Z).getD A.length (0, 0) = q := by simp [List.getD_eq_getElem?_getD]
  refine ⟨h, ?_, e⟩
  unfold isK
  rw [h, e, decide_eq_true hq, decide_eq_true (by simp)]
  rfl
def prs (M : Tm) (l : List Nat) : Prs := l.map fun j => (M.k j, M.v j)
def Chain (M : Tm) : Nat → List Nat → Prop
  | x, [] => x = 0
  | x, i :: S => x = i ∧ i ≠ 0 ∧ M.b i = 0 ∧ Chain M (M.a i) S
structure Form (B R : Nat) (M : Tm) (mem : Nat → Nat) (t : T) (S : List Nat) : Prop where
  H : Holds B R M mem
  W : Whole M t
  ch : Chain M M.sp S
  nd : (t.nodes ++ S).Nodup
  rng : ∀ j ∈ t.nodes ++ S, 1 ≤ j ∧ j ≤ M.n + S.length
  top : M.n + S.length ≤ R
  fresh : ∀ j, M.n + S.length < j → j ≤ R → M.a j = 0 ∧ M.b j = 0
  len : t.nodes.length = M.n
  ko : ∀ j, okN (M.k j)
  vo : ∀ j, okN (M.v j)
structure Tree (B R : Nat) (M : Tm) (mem : Nat → Nat) (t : T) (S : List Nat) : Prop extends Form B R M mem t S where
  srt : Srt M t.nodes
theorem Form.in_ {B R : Nat} {M : Tm} {mem : Nat → Nat} {t : T} {S : List Nat} (h : Form B R M mem t S) : ∀ j ∈ t.nodes, 1 ≤ j ∧ j ≤ R := fun j hj => by
  have := h.rng j (List.mem_append_left _ hj)
  have := h.top
  omega
theorem Tree.in_ {B R : Nat} {M : Tm} {mem : Nat → Nat} {t : T} {S : List Nat} (h : Tree B R M mem t S) : ∀ j ∈ t.nodes, 1 ≤ j ∧ j ≤ R := h.toForm.in_
theorem len_plug : ∀ (p : List Fr) (t : T), p.length + t.nodes.length ≤ (plug p t).nodes.length
  | [], t => by simp [plug]
  | .inl (i, r) :: p, t => by
    have := len_plug p (.node i t r)
    simp only [T.nodes_eq, List.length_append, List.length_cons] at this
    simp only [plug, List.length_cons]
    omega
  | .inr (i, l) :: p, t => by
    have := len_plug p (.node i l t)
    simp only [T.nodes_eq, List.length_append, List.length_cons] at this
    simp only [plug, List.length_cons]
    omega
section
variable {B R : Nat} {M : Tm} {mem : Nat → Nat} {t : T} {S : List Nat} {K : Nat} {p : List Fr}
theorem part_no (w : Way M K p) : prs M (plug p .nil).nodes = prs M (bef p) ++ prs M (aft p) ∧ (∀ q ∈ prs M (bef p), place q.1 < place K) ∧ ∀ q ∈ prs M (aft p), place K < place q.1 := by
  refine ⟨by rw [nodes_plug]; simp [prs, T.nodes_eq], fun q hq => ?_, fun q hq => ?_⟩
  · obtain ⟨j, hj, rfl⟩ := List.mem_map.1 hq
    exact w.b j hj
  · obtain ⟨j, hj, rfl⟩ := List.mem_map.1 hq
    exact w.a j hj
theorem part_yes {i : Nat} {l r : T} (hs : Srt M (plug p (.node i l r)).nodes) (w : Way M K p) (hk : place (M.k i) = place K) : prs M (plug p (.node i l r)).nodes = prs M (bef p ++ l.nodes) ++ (M.k i, M.v i) :: prs M (r.nodes ++ aft p) ∧ (∀ q ∈ prs M (bef p ++ l.nodes), place q.1 < place K) ∧ ∀ q ∈ prs M (r.nodes ++ aft p), place K < place q.1 := by
  rw [nodes_plug] at hs
  have h1 := (List.pairwise_append.1 ((List.pairwise_append.1 hs).2.1)).1
  refine ⟨by rw [nodes_plug]; simp [prs, T.nodes_eq], fun q hq => ?_, fun q hq => ?_⟩
  · obtain ⟨j, hj, rfl⟩ := List.mem_map.1 hq
    rcases List.mem_append.1 hj with hj | hj
    · exact w.b j hj
    · rw [← hk]; exact (List.pairwise_append.1 h1).2.2 j hj i (by simp)
  · obtain ⟨j, hj, rfl⟩ := List.mem_map.1 hq
    rcases List.mem_append.1 hj with hj | hj
    · rw [← hk]; exact (List.pairwise_cons.1 (List.pairwise_append.1 h1).2.1).1 j hj
    · exact w.a j hj
end
theorem way_nil (M : Tm) (K : Nat) : Way M K [] := ⟨fun j hj => absurd hj (by simp [bef]), fun j hj => absurd hj (by simp [aft])⟩
theorem seg_all : ∀ (pre l : List Ins), Seg (pre ++ l) pre.length l
  | _, [] => trivial
  | pre, i :: l => by
    refine ⟨by unfold ci; simp [List.getD_eq_getElem?_getD], ?_⟩
    have := seg_all (pre ++ [i]) l
    rw [List.append_assoc, List.length_append] at this
    exact this
theorem seg_whole (l : List Ins) : Seg l 0 l := seg_all [] l
def Ends (C : Cx) (s : List Nat) (how cod : Int) (Q : Vm → Prop) : Prop := ∃ v i, Star C (v0 s) v ∧ ci C.code v.pl = i ∧ ((i = I 20 0 ∧ how = 1 ∧ cod = 0) ∨ ∃ n : Nat, i = I 19 n ∧ how = 2 ∧ cod = n) ∧ v.st.length ≤ 64 ∧ v.u < 1024 ∧ v.nw ≤ 8 ∧ Q v
section
variable {C : Cx} {B R : Nat} {M : Tm} {mem : Nat → Nat} {st out : List Nat} {q e u nw x0 x1 x2 x3 x4 i y K : Nat} {t : T} {S : List Nat}
theorem begin_at (hF : Fit C B R) (hS : Seg C.code q (beginS B)) (hl : st.length ≤ 50) : Star C ⟨q, st, [x0, x1, x2, x3, x4], out, mem, u, nw⟩ ⟨q + 4, st, [x0, x1, X (hc B [] : Nat), X (sd R [] : Nat), x4], out, mem, u + 4, nw⟩ := by
  have hs := hF.small
  obtain ⟨h1, h2, h3, h4, _⟩ := hS
  refine .head (.push (X (hc B [] : Nat)) h1 ((P_push (by omega)).trans (congrArg X (by simp [hc]))) (by omega)) ?_
  refine .head (.set 2 h2 (by simp) (by omega)) ?_
  refine .head (.push (X (sd R [] : Nat)) h3 ((P_push (by decide)).trans (congrArg X (by simp [sd]))) (by omega)) ?_
  refine .head (.set 3 h4 (by simp) (by omega)) ?_
  exact .refl _
theorem fold_at {c z : Nat} (hF : Fit C B R) (hcB : B ≤ c ∧ c ≤ B + 2) (hS : Seg C.code q (foldS R c)) (hm : mem c = X (z : Nat)) (hz : z ≤ R) (hl : st.length ≤ 50) : Star C ⟨q, st, [x0, x1, x2, x3, x4], out, mem, u, nw⟩ ⟨q + 4, X (z : Nat) :: st, [x0, x1, x2, x3, x4], out, mem, u + 4, nw⟩ := by
  have hs := hF.small
  have hlo := hF.lo
  have hhi := hF.hi
  have hr := hF.r16
  have hr1 := hF.r1
  obtain ⟨h1, h2, h3, h4, _⟩ := hS
  refine .head (.push (X (c : Nat)) h1 (P_push (by omega)) (by omega)) ?_
  refine .head (.read c _ h2 (by omega) (by omega) hm (by omega)) ?_
  refine .head (.push _ h3 (P_push (by omega)) (by simp only [List.length_cons]; omega)) ?_
  refine .head (.two (X (z : Nat)) h4 ((X_mod (by omega) (by omega) (by omega) (by omega)).trans (congrArg X (Int.emod_eq_of_lt (by omega) (by omega)))) (by omega)) ?_
  exact .refl _
theorem len_ends {s : List Nat} (hF : Fit C B R) (hC : C.code = lenC B R) (hT : Tree B R M (v0 s).mem t S) : Ends C s 1 0 fun v => v.mem = (v0 s).mem ∧ v.out = [X ((prs M t.nodes).length : Nat)] ∧ v.nw = 0 := by
  have hseg : Seg C.code 0 (lenC B R) := by rw [hC]; exact seg_whole _
  obtain ⟨s1, s2⟩ := seg_split hseg
  obtain ⟨h5, h6, _⟩ := s2
  have hn : (prs M t.nodes).length = M.n := by rw [prs, List.length_map, hT.len]
  have k := fold_at (st := []) (out := []) (x0 := 0) (x1 := 0) (x2 := 0) (x3 := 0) (x4 := 0) (u := 0) (nw := 0) (c := B + 1) hF (by omega) s1 hT.H.n hT.H.bn (by simp)
  refine ⟨_, _, k.trans (.head (.emit h5 (by simp)) (.refl _)), h6, .inl ⟨rfl, rfl, rfl⟩, by simp, by simp, by simp, rfl, ?_, rfl⟩
  rw [hn]
  rfl
theorem get_ends {s : List Nat} (hF : Fit C B R) (hC : C.code = getC B R) (hT : Tree B R M (v0 s).mem t S) (hK : C.args 0 = K) (hKo : okN K) : Ends C s 1 0 fun v => v.mem = (v0 s).mem ∧ v.out = getS (prs M t.nodes) K ∧ v.nw = 0 := by
  have hseg : Seg C.code 0 (getC B R) := by rw [hC]; exact seg_whole _
  obtain ⟨s1, s2⟩ := seg_split hseg
  obtain ⟨s2, s3⟩ := seg_split s2
  obtain ⟨s3, s4⟩ := seg_split s3
  obtain ⟨h5, h6, _⟩ := s4
  have hR := hF.r16
  have k1 := begin_at (R := R) (mem := (v0 s).mem) (st := []) (out := []) (x0 := 0) (x1 := 0) (x2 := 0) (x3 := 0) (x4 := 0) (u := 0) (nw := 0) hF s1 (by simp)
  have hf := search_any (st := []) (out := []) (x4 := 0) (nw := 0) hF s2 hT.H hK hKo hT.ko (by simp) t [] 0 0 4 hT.W hT.srt hT.in_ (way_nil M K)
  have hnn := hT.len
  have hbn := hT.H.bn
  rcases hf with ⟨p', h, w, hl, y1, u', hu, k⟩ | ⟨p', i, l, r, h, w, hk, hl, u', hu, k⟩
  · have hlen := len_plug p' .nil
    rw [h] at hlen
    obtain ⟨e1, e2, e3⟩ := part_no w
    rw [h] at e1
    have hp : (plug [] t).nodes.length = M.n := hnn
    rw [hp] at hlen
    simp only [List.length_nil, T.nodes_eq] at hlen hu
    refine ⟨_, _, k1.trans k, h6, .inl ⟨rfl, rfl, rfl⟩, by simp, ?_, by simp, rfl, ?_, rfl⟩
    · show u' < 1024
      omega
    · show [] = getS (prs M (plug [] t).nodes) K
      unfold getS
      rw [e1, (isK_no e2 e3).2, if_neg Bool.false_ne_true]
  · have hlen := len_plug p' (.node i l r)
    have hij := hT.in_ i (by have : t = plug p' (.node i l r) := h.symm; rw [this, nodes_plug]; simp [T.nodes_eq])
    have hs := hT.srt
    have hp : (plug [] t).nodes.length = M.n := hnn
    rw [h, hp] at hlen
    have ht : t = plug p' (.node i l r) := h.symm
    rw [ht] at hs
    obtain ⟨e1, e2, e3⟩ := part_yes hs w hk
    simp only [List.length_nil, T.nodes_eq, List.length_append, List.length_cons] at hlen hu
    have k3 := load_at (f := 1) (st := []) (out := []) (x0 := X (i : Nat)) (x2 := X (hc B p' : Nat)) (x3 := X (sd R p' : Nat)) (x4 := 0) (u := u') (nw := 0) hF hij.2 (by omega) s3 (hT.H.v i hij.1 hij.2) (by simp)
    refine ⟨_, _, k1.trans (k.trans (k3.trans (.head (.emit h5 (by simp)) (.refl _)))), h6, .inl ⟨rfl, rfl, rfl⟩, by simp, ?_, by simp, rfl, ?_, rfl⟩
    · show u' + 4 + 1 < 1024
      omega
    · show [M.v i] = getS (prs M t.nodes) K
      unfold getS
      obtain ⟨a1, a2, a3⟩ := isK_yes (Z := prs M (r.nodes ++ aft p')) (q := (M.k i, M.v i)) e2 hk
      rw [ht, e1, a2, if_pos rfl, a1, a3]
end
end Go.Proofs.YtpboiggakehpoaaGreatDoor.Tr
namespace Go.Proofs.YtpboiggakehpoaaGreatDoor.Tr
open Num
def keptV (B : Nat) (o : Option Nat) (x : Nat) : Nat := match o with
  | some m => X ((B + 3 * m : Nat) : Int)
  | none => x
section
variable {C : Cx} {B R : Nat} {M : Tm} {mem : Nat → Nat} {st out : List Nat} {q e u nw x0 x1 x2 x3 x4 i y K : Nat} {t : T} {S : List Nat}
theorem emit_kept {m : Nat} (hF : Fit C B R) (hm : 1 ≤ m ∧ m ≤ R) (hH : Holds B R M mem) (hS : Seg C.code q emitKS) (hl : st.length ≤ 50) : Star C ⟨q, st, [x0, x1, x2, x3, X ((B + 3 * m : Nat) : Int)], out, mem, u, nw⟩ ⟨q + 10, st, [x0, x1, x2, x3, X ((B + 3 * m : Nat) : Int)], out ++ [M.k m] ++ [M.v m], mem, u + 10, nw⟩ ∧ ci C.code (q + 10) = I 20 0 := by
  obtain ⟨h0, h1, h2, h3, h4, h5, h6, h7, h8, h9, h10, _⟩ := hS
  have hs := hF.small
  have hlo := hF.lo
  have hhi := hF.hi
  refine ⟨?_, h10⟩
  refine .head (.get 4 _ h0 rfl (by omega)) ?_
  refine .head (.push _ h1 (P_push (by decide)) (by simp only [List.length_cons]; omega)) ?_
  refine .head (.two (X ((B + 3 * m : Nat) : Int)) h2 ((X_add (by omega) (by omega)).trans (congrArg X (by omega))) (by omega)) ?_
  refine .head (.read (B + 3 * m) _ h3 (by omega) (by omega) (hH.k m hm.1 hm.2) (by omega)) ?_
  refine .head (.emit h4 (by omega)) ?_
  refine .head (.get 4 _ h5 rfl (by omega)) ?_
  refine .head (.push _ h6 (P_push (by decide)) (by simp only [List.length_cons]; omega)) ?_
  refine .head (.two (X ((B + 3 * m + 1 : Nat) : Int)) h7 ((X_add (by omega) (by omega)).trans (congrArg X (by omega))) (by omega)) ?_
  refine .head (.read (B + 3 * m + 1) _ h8 (by omega) (by omega) (hH.v m hm.1 hm.2) (by omega)) ?_
  refine .head (.emit h9 (by omega)) ?_
  exact .refl _
def Lefts : List Fr → Prop
  | [] => True
  | .inl (_, _) :: _ => True
  | .inr (_, _) :: _ => False
theorem lefts_sd {p : List Fr} (h : Lefts p) : sd R p = 1 := by
  cases p with
  | nil => rfl
  | cons f p =>
    rcases f with ⟨i, r⟩ | ⟨i, l⟩
    · rfl
    · exact h.elim
theorem head_app (l r : List Nat) (i : Nat) : (l ++ i :: r).head? = l.head?.or (some i) := by cases l <;> rfl
theorem least_walk (hF : Fit C B R) (hS0 : Seg C.code 4 (seek B R 27)) (h1 : ci C.code 20 = I 7 1) (h2 : ci C.code 21 = I 8 4) (hS1 : Seg C.code 22 (nextS 4)) (hH : Holds B R M mem) (hl : st.length ≤ 40) (t : T) : ∀ (p : List Fr) (x0 x1 x4 u : Nat), Lefts p → Whole M (plug p t) → (∀ j ∈ (plug p t).nodes, 1 ≤ j ∧ j ≤ R) →
    ∃ y1 y2 y3 u', u' ≤ u + 23 * t.nodes.length + 10 ∧ Star C ⟨4, st, [x0, x1, X (hc B p : Nat), X (sd R p : Nat), x4], out, mem, u, nw⟩ ⟨27, st, [X (0 : Nat), y1, y2, y3, keptV B t.nodes.head? x4], out, mem, u', nw⟩ := by
  induction t using T.ind with
  | nil =>
    intro p x0 x1 x4 u hp hW hj
    have hlink : link M p = 0 := ((whole_plug M p .nil).1 hW).2.1
    exact ⟨_, _, _, u + 10, by simp [T.nodes_eq], seek_end hF hS0 hH (inR_of hj) (by omega) hlink⟩
  | node i l r ihl ihr =>
    intro p x0 x1 x4 u hp hW hj
    obtain ⟨hi1, hi2⟩ := hj i (by rw [nodes_plug]; simp [T.nodes_eq])
    have hlink : link M p = i := ((whole_plug M p (.node i l r)).1 hW).2.1
    have s0 := seek_in (st := st) (x0 := x0) (x1 := x1) (x4 := x4) (out := out) (u := u) (nw := nw) hF hS0 hH (inR_of hj) (by omega) hlink (by omega)
    have s1 : Star C ⟨20, st, [X (i : Nat), X ((B + 3 * i : Nat) : Int), X (hc B p : Nat), X (sd R p : Nat), x4], out, mem, u + 16, nw⟩ ⟨22, st, [X (i : Nat), X ((B + 3 * i : Nat) : Int), X (hc B p : Nat), X (sd R p : Nat), X ((B + 3 * i : Nat) : Int)], out, mem, u + 18, nw⟩ := by
      refine .head (.get 1 _ h1 rfl (by omega)) ?_
      refine .head (.set 4 h2 (by simp) (by omega)) ?_
      exact .refl _
    have s2 := next_at (st := st) (x0 := X (i : Nat)) (x2 := X (hc B p : Nat)) (x3 := X (sd R p : Nat)) (x4 := X ((B + 3 * i : Nat) : Int)) (out := out) (mem := mem) (u := u + 18) (nw := nw) hF hi2 hS1 (by omega)
    rw [lefts_sd hp] at s0 s1 s2
    obtain ⟨y1, y2, y3, u', hu, k⟩ := ihl (.inl (i, r) :: p) (X (i : Nat)) (X ((B + 3 * i : Nat) : Int)) (X ((B + 3 * i : Nat) : Int)) (u + 23) trivial hW hj
    refine ⟨y1, y2, y3, u', ?_, ?_⟩
    · simp only [T.nodes_eq, List.length_append, List.length_cons]
      omega
    · rw [lefts_sd hp]
      refine s0.trans (s1.trans (s2.trans ?_))
      have e : keptV B (T.node i l r).nodes.head? x4 = keptV B l.nodes.head? (X ((B + 3 * i : Nat) : Int)) := by
        show keptV B (l.nodes ++ i :: r.nodes).head? x4 = _
        rw [head_app]
        cases l.nodes.head? <;> rfl
      rw [e]
      exact k
theorem least_ends {s : List Nat} (hF : Fit C B R) (hC : C.code = leastC B R) (hT : Tree B R M (v0 s).mem t S) : Ends C s 1 0 fun v => v.mem = (v0 s).mem ∧ v.out = fstS (prs M t.nodes) 0 ∧ v.nw = 0 := by
  have hseg : Seg C.code 0 (leastC B R) := by rw [hC]; exact seg_whole _
  obtain ⟨s1, s2⟩ := seg_split hseg
  obtain ⟨s2, s3⟩ := seg_split s2
  obtain ⟨s3, s4⟩ := seg_split s3
  obtain ⟨s4, s5⟩ := seg_split s4
  obtain ⟨s5, s6⟩ := seg_split s5
  obtain ⟨a1, a2, _⟩ := s3
  obtain ⟨b1, b2, _⟩ := s5
  have hR := hF.r16
  have k1 := begin_at (R := R) (mem := (v0 s).mem) (st := []) (out := []) (x0 := 0) (x1 := 0) (x2 := 0) (x3 := 0) (x4 := 0) (u := 0) (nw := 0) hF s1 (by simp)
  obtain ⟨y1, y2, y3, u', hu, k2⟩ := least_walk (st := []) (out := []) (nw := 0) hF s2 a1 a2 s4 hT.H (by simp) t [] 0 0 0 4 trivial hT.W hT.in_
  have hnn := hT.len
  have hbn := hT.H.bn
  have hlen : (prs M t.nodes).length = M.n := by rw [prs, List.length_map, hnn]
  cases hh : t.nodes with
  | nil =>
    rw [hh] at k2
    refine ⟨_, _, k1.trans (k2.trans (.head (.get 4 _ b1 rfl (by simp)) (.head (.unF 39 b2 (show trueB 0 = false by decide +kernel) (by simp)) (.refl _)))), s6.2.2.2.2.2.2.2.2.2.2.1, .inl ⟨rfl, rfl, rfl⟩, by simp, ?_, by simp, rfl, ?_, rfl⟩
    · show u' + 1 + 1 < 1024
      omega
    · rfl
  | cons m r =>
    have hm := hT.in_ m (by rw [hh]; simp)
    have hsm := hF.small
    rw [hh] at k2
    have k3 := emit_kept (st := []) (out := []) (x0 := X (0 : Nat)) (x1 := y1) (x2 := y2) (x3 := y3) (u := u' + 2) (nw := 0) hF hm hT.H s6 (by simp)
    refine ⟨_, _, k1.trans (k2.trans (.head (.get 4 _ b1 rfl (by simp)) (.head (.unT b2 (by show trueB (X ((B + 3 * m : Nat) : Int)) = true; rw [true_X (by omega)]; exact decide_eq_true (by omega)) (by simp)) k3.1))), k3.2, .inl ⟨rfl, rfl, rfl⟩, by simp, ?_, by simp, rfl, ?_, rfl⟩
    · show u' + 2 + 10 < 1024
      omega
    · show [] ++ [M.k m] ++ [M.v m] = fstS (prs M (m :: r)) 0
      simp [fstS, prs]
def nxt (M : Tm) (K : Nat) (l : List Nat) : Option Nat := l.find? fun j => decide (place K < place (M.k j))
theorem after_walk (hF : Fit C B R) (hS0 : Seg C.code 4 (seek B R 41)) (h0 : ci C.code 20 = I 6 0) (hS1 : Seg C.code 21 (loadK 0)) (hS2 : Seg C.code 25 [I 10 12, I 3 0, I 13 30, I 7 1, I 8 4, I 9 5]) (hS3 : Seg C.code 31 (turnS R)) (hS4 : Seg C.code 36 (nextS 4)) (hH : Holds B R M mem) (hK : C.args 0 = K) (hl : st.length ≤ 40) (t : T) : ∀ (p : List Fr) (x0 x1 x4 u : Nat), Whole M (plug p t) → Srt M (plug p t).nodes → (∀ j ∈ (plug p t).nodes, 1 ≤ j ∧ j ≤ R) →
    ∃ y1 y2 y3 u', u' ≤ u + 37 * t.nodes.length + 10 ∧ Star C ⟨4, st, [x0, x1, X (hc B p : Nat), X (sd R p : Nat), x4], out, mem, u, nw⟩ ⟨41, st, [X (0 : Nat), y1, y2, y3, keptV B (nxt M K t.nodes) x4], out, mem, u', nw⟩ := by
  induction t using T.ind with
  | nil =>
    intro p x0 x1 x4 u hW hs hj
    have hlink : link M p = 0 := ((whole_plug M p .nil).1 hW).2.1
    exact ⟨_, _, _, u + 10, by simp [T.nodes_eq], seek_end hF hS0 hH (inR_of hj) (by omega) hlink⟩
  | node i l r ihl ihr =>
    intro p x0 x1 x4 u hW hs hj
    obtain ⟨hi1, hi2⟩ := hj i (by rw [nodes_plug]; simp [T.nodes_eq])
    have hlink : link M p = i := ((whole_plug M p (.node i l r)).1 hW).2.1
    have hs2 := (List.pairwise_append.1 (List.pairwise_append.1 ((nodes_plug p (.node i l r)) ▸ hs)).2.1).1
    have s0 := seek_in (st := st) (x0 := x0) (x1 := x1) (x4 := x4) (out := out) (u := u) (nw := nw) hF hS0 hH (inR_of hj) (by omega) hlink (by omega)
    have s1 := load_at (f := 0) (st := K :: st) (x0 := X (i : Nat)) (x2 := X (hc B p : Nat)) (x3 := X (sd R p : Nat)) (x4 := x4) (out := out) (u := u + 17) (nw := nw) hF hi2 (by omega) hS1 (hH.k i hi1 hi2) (by simp only [List.length_cons]; omega)
    obtain ⟨b1, b2, b3, b4, b5, b6, _⟩ := hS2
    have s2 : Star C ⟨4, st, [x0, x1, X (hc B p : Nat), X (sd R p : Nat), x4], out, mem, u, nw⟩ ⟨25, M.k i :: K :: st, [X (i : Nat), X ((B + 3 * i : Nat) : Int), X (hc B p : Nat), X (sd R p : Nat), x4], out, mem, u + 21, nw⟩ :=
      s0.trans (.head (.arg 0 _ h0 hK (by omega)) s1)
    by_cases hlt : place K < place (M.k i)
    · have s3 : Star C ⟨25, M.k i :: K :: st, [X (i : Nat), X ((B + 3 * i : Nat) : Int), X (hc B p : Nat), X (sd R p : Nat), x4], out, mem, u + 21, nw⟩ ⟨31, yesB false :: st, [X (i : Nat), X ((B + 3 * i : Nat) : Int), X (hc B p : Nat), X (sd R p : Nat), X ((B + 3 * i : Nat) : Int)], out, mem, u + 27, nw⟩ := by
        refine .head (.two (yesB true) b1 ((ahead_is _ _).trans (by rw [decide_eq_true hlt])) (by omega)) ?_
        refine .head (.dup b2 (by omega)) ?_
        refine .head (.unT b3 (true_yes true) (by simp only [List.length_cons]; omega)) ?_
        refine .head (.get 1 _ b4 rfl (by simp only [List.length_cons]; omega)) ?_
        refine .head (.set 4 b5 (by simp) (by simp only [List.length_cons]; omega)) ?_
        refine .head (.one (yesB false) b6 (not_yes true) (by omega)) ?_
        exact .refl _
      have s5 := s2.trans (s3.trans ((turn_at hF.r16 _ hS3 (by omega)).trans (next_at hF hi2 hS4 (by omega))))
      rw [if_neg Bool.false_ne_true] at s5
      obtain ⟨y1, y2, y3, u', hu, k⟩ := ihl (.inl (i, r) :: p) (X (i : Nat)) (X ((B + 3 * i : Nat) : Int)) (X ((B + 3 * i : Nat) : Int)) (u + 37) hW hs hj
      refine ⟨y1, y2, y3, u', ?_, s5.trans ?_⟩
      · simp only [T.nodes_eq, List.length_append, List.length_cons]
        omega
      · have e : keptV B (nxt M K (T.node i l r).nodes) x4 = keptV B (nxt M K l.nodes) (X ((B + 3 * i : Nat) : Int)) := by
          show keptV B ((l.nodes ++ i :: r.nodes).find? _) x4 = _
          rw [List.find?_append, List.find?_cons_of_pos (by simpa using hlt)]
          show keptV B (Option.or (nxt M K l.nodes) (some i)) x4 = _
          cases nxt M K l.nodes <;> rfl
        rw [e]
        exact k
    · have s3 : Star C ⟨25, M.k i :: K :: st, [X (i : Nat), X ((B + 3 * i : Nat) : Int), X (hc B p : Nat), X (sd R p : Nat), x4], out, mem, u + 21, nw⟩ ⟨31, yesB true :: st, [X (i : Nat), X ((B + 3 * i : Nat) : Int), X (hc B p : Nat), X (sd R p : Nat), x4], out, mem, u + 25, nw⟩ := by
        refine .head (.two (yesB false) b1 ((ahead_is _ _).trans (by rw [decide_eq_false hlt])) (by omega)) ?_
        refine .head (.dup b2 (by omega)) ?_
        refine .head (.unF 30 b3 (true_yes false) (by simp only [List.length_cons]; omega)) ?_
        refine .head (.one (yesB true) b6 (not_yes false) (by omega)) ?_
        exact .refl _
      have s5 := s2.trans (s3.trans ((turn_at hF.r16 _ hS3 (by omega)).trans (next_at hF hi2 hS4 (by omega))))
      rw [if_pos rfl] at s5
      obtain ⟨y1, y2, y3, u', hu, k⟩ := ihr (.inr (i, l) :: p) (X (i : Nat)) (X ((B + 3 * i : Nat) : Int)) x4 (u + 35) hW hs hj
      refine ⟨y1, y2, y3, u', ?_, s5.trans ?_⟩
      · simp only [T.nodes_eq, List.length_append, List.length_cons]
        omega
      · have e : keptV B (nxt M K (T.node i l r).nodes) x4 = keptV B (nxt M K r.nodes) x4 := by
          show keptV B ((l.nodes ++ i :: r.nodes).find? _) x4 = _
          have hn : l.nodes.find? (fun j => decide (place K < place (M.k j))) = none := by
            rw [List.find?_eq_none]
            intro j hj
            have := (List.pairwise_append.1 hs2).2.2 j hj i (by simp)
            simp
            omega
          rw [List.find?_append, List.find?_cons_of_neg (by simpa using hlt), hn]
          rfl
        rw [e]
        exact k
theorem nxt_is {l : List Nat} (hs : Srt M l) : aftS2 (prs M l) K = (match nxt M K l with | some j => [M.k j, M.v j] | none => []) := by
  have hcut : ∀ l : List Nat, Srt M l → ∃ a z, l = a ++ z ∧ (∀ j ∈ a, place (M.k j) < place K) ∧ ∀ j ∈ z, ¬ place (M.k j) < place K := by
    intro l
    induction l with
    | nil => intro _; exact ⟨[], [], rfl, by simp, by simp⟩
    | cons i l ih =>
      intro hs
      obtain ⟨h1, h2⟩ := List.pairwise_cons.1 hs
      by_cases hi : place (M.k i) < place K
      · obtain ⟨a, z, rfl, ha, hz⟩ := ih h2
        exact ⟨i :: a, z, rfl, by simpa using ⟨hi, ha⟩, hz⟩
      · exact ⟨[], i :: l, rfl, by simp, fun j hj => by rcases List.mem_cons.1 hj with rfl | hj; exact hi; have := h1 j hj; omega⟩
  obtain ⟨a, z, rfl, ha, hz⟩ := hcut l hs
  have hpa : ∀ q ∈ prs M a, place q.1 < place K := fun q hq => by obtain ⟨j, hj, rfl⟩ := List.mem_map.1 hq; exact ha j hj
  have hna : nxt M K (a ++ z) = nxt M K z := by
    unfold nxt
    rw [List.find?_append, List.find?_eq_none.2 (fun j hj => by have := ha j hj; simp; omega)]
    rfl
  have hmap : prs M (a ++ z) = prs M a ++ prs M z := by simp [prs]
  rw [hna, hmap]
  have hlen : (prs M a).length = a.length := by simp [prs]
  cases z with
  | nil =>
    obtain ⟨h1, h2⟩ := isK_no (Z := []) hpa (by simp)
    unfold aftS2 fstS
    rw [show prs M ([] : List Nat) = [] from rfl, h1, h2, if_neg Bool.false_ne_true, if_neg (by simp)]
    rfl
  | cons i z =>
    have hs2 := (List.pairwise_cons.1 (List.pairwise_append.1 hs).2.1)
    by_cases hk : place (M.k i) = place K
    · obtain ⟨h1, h2, _⟩ := isK_yes (Z := prs M z) (q := (M.k i, M.v i)) hpa hk
      have e : prs M (i :: z) = (M.k i, M.v i) :: prs M z := rfl
      unfold aftS2 fstS
      rw [e, h1, h2, if_pos rfl]
      have hn : nxt M K (i :: z) = nxt M K z := List.find?_cons_of_neg (by simp; omega)
      rw [hn]
      cases z with
      | nil => rw [if_neg (by simp [prs])]; rfl
      | cons j z =>
        have hj : place K < place (M.k j) := by rw [← hk]; exact hs2.1 j (by simp)
        have hn2 : nxt M K (j :: z) = some j := List.find?_cons_of_pos (by simpa using hj)
        rw [hn2, if_pos (by simp [prs])]
        have e3 : (prs M a ++ (M.k i, M.v i) :: prs M (j :: z)).getD ((prs M a).length + 1) (0, 0) = (M.k j, M.v j) := by simp [prs, List.getD_eq_getElem?_getD]
        rw [e3]
    · have hgt : place K < place (M.k i) := by have := hz i (by simp); omega
      obtain ⟨h1, h2⟩ := isK_no (Z := prs M (i :: z)) hpa (fun q hq => by
        obtain ⟨j, hj, rfl⟩ := List.mem_map.1 hq
        rcases List.mem_cons.1 hj with rfl | hj
        · exact hgt
        · have := hs2.1 j hj; show place K < place (M.k j); omega)
      have hn : nxt M K (i :: z) = some i := List.find?_cons_of_pos (by simpa using hgt)
      unfold aftS2 fstS
      rw [h1, h2, if_neg Bool.false_ne_true, hn, if_pos (by simp [prs])]
      have e3 : (prs M a ++ prs M (i :: z)).getD (prs M a).length (0, 0) = (M.k i, M.v i) := by simp [prs, List.getD_eq_getElem?_getD]
      rw [e3]
theorem after_ends {s : List Nat} (hF : Fit C B R) (hC : C.code = afterC B R) (hT : Tree B R M (v0 s).mem t S) (hK : C.args 0 = K) : Ends C s 1 0 fun v => v.mem = (v0 s).mem ∧ v.out = aftS2 (prs M t.nodes) K ∧ v.nw = 0 := by
  have hseg : Seg C.code 0 (afterC B R) := by rw [hC]; exact seg_whole _
  obtain ⟨s1, s2⟩ := seg_split hseg
  obtain ⟨s2, s3⟩ := seg_split s2
  obtain ⟨s3, s4⟩ := seg_split s3
  obtain ⟨s4, s5⟩ := seg_split s4
  obtain ⟨s5, s6⟩ := seg_split s5
  obtain ⟨s6, s7⟩ := seg_split s6
  obtain ⟨s7, s8⟩ := seg_split s7
  obtain ⟨s8, s9⟩ := seg_split s8
  obtain ⟨b1, b2, _⟩ := s8
  have hR := hF.r16
  have k1 := begin_at (R := R) (mem := (v0 s).mem) (st := []) (out := []) (x0 := 0) (x1 := 0) (x2 := 0) (x3 := 0) (x4 := 0) (u := 0) (nw := 0) hF s1 (by simp)
  obtain ⟨y1, y2, y3, u', hu, k2⟩ := after_walk (st := []) (out := []) (nw := 0) hF s2 s3.1 s4 s5 s6 s7 hT.H hK (by simp) t [] 0 0 0 4 hT.W hT.srt hT.in_
  have hnn := hT.len
  have hbn := hT.H.bn
  have hsp := nxt_is (K := K) hT.srt
  cases hh : nxt M K t.nodes with
  | none =>
    rw [hh] at k2 hsp
    refine ⟨_, _, k1.trans (k2.trans (.head (.get 4 _ b1 rfl (by simp)) (.head (.unF 53 b2 (show trueB 0 = false by decide +kernel) (by simp)) (.refl _)))), s9.2.2.2.2.2.2.2.2.2.2.1, .inl ⟨rfl, rfl, rfl⟩, by simp, ?_, by simp, rfl, hsp.symm, rfl⟩
    show u' + 1 + 1 < 1024
    omega
  | some m =>
    have hm := hT.in_ m (List.mem_of_find?_eq_some hh)
    have hsm := hF.small
    rw [hh] at k2 hsp
    have k3 := emit_kept (st := []) (out := []) (x0 := X (0 : Nat)) (x1 := y1) (x2 := y2) (x3 := y3) (u := u' + 2) (nw := 0) hF hm hT.H s9 (by simp)
    refine ⟨_, _, k1.trans (k2.trans (.head (.get 4 _ b1 rfl (by simp)) (.head (.unT b2 (by show trueB (X ((B + 3 * m : Nat) : Int)) = true; rw [true_X (by omega)]; exact decide_eq_true (by omega)) (by simp)) k3.1))), k3.2, .inl ⟨rfl, rfl, rfl⟩, by simp, ?_, by simp, rfl, ?_, rfl⟩
    · show u' + 2 + 10 < 1024
      omega
    · rw [hsp]
      rfl
theorem all_walk (hF : Fit C B R) (hS0 : Seg C.code 5 (seek B R 29)) (hS1 : Seg C.code 21 [I 7 1, P 1, I 8 3]) (hS2 : Seg C.code 24 (nextS 5)) (hS3 : Seg C.code 29 [I 3 0, I 13 49, I 8 1]) (hS4 : Seg C.code 32 (loadK 0)) (hS5 : ci C.code 36 = I 18 0) (hS6 : Seg C.code 37 (loadK 1)) (hS7 : ci C.code 41 = I 18 0) (hS8 : Seg C.code 42 [I 7 1, P 2, I 10 1, I 8 2, P (R + 1), I 8 3, I 11 5]) (hH : Holds B R M mem) (t : T) : ∀ (p : List Fr) (st out : List Nat) (x0 x1 x4 u : Nat), Whole M (plug p t) → (∀ j ∈ (plug p t).nodes, 1 ≤ j ∧ j ≤ R) → st.length + t.nodes.length ≤ 20 →
    ∃ y1 y2 y3 y4 u', u' = u + 54 * t.nodes.length + 10 ∧ Star C ⟨5, st, [x0, x1, X (hc B p : Nat), X (sd R p : Nat), x4], out, mem, u, nw⟩ ⟨29, st, [X (0 : Nat), y1, y2, y3, y4], out ++ allS (prs M t.nodes), mem, u', nw⟩ := by
  induction t using T.ind with
  | nil =>
    intro p st out x0 x1 x4 u hW hj hl
    have hlink : link M p = 0 := ((whole_plug M p .nil).1 hW).2.1
    refine ⟨x1, X (hc B p : Nat), X (sd R p : Nat), x4, u + 10, by simp [T.nodes_eq], ?_⟩
    have e : out ++ allS (prs M T.nil.nodes) = out := by simp [T.nodes_eq, prs, allS]
    rw [e]
    exact seek_end hF hS0 hH (inR_of hj) (by omega) hlink
  | node i l r ihl ihr =>
    intro p st out x0 x1 x4 u hW hj hl
    simp only [T.nodes_eq, List.length_append, List.length_cons] at hl
    obtain ⟨hi1, hi2⟩ := hj i (by rw [nodes_plug]; simp [T.nodes_eq])
    have hR := hF.r16
    have hlink : link M p = i := ((whole_plug M p (.node i l r)).1 hW).2.1
    have s0 := seek_in (st := st) (x0 := x0) (x1 := x1) (x4 := x4) (out := out) (u := u) (nw := nw) hF hS0 hH (inR_of hj) (by omega) hlink (by omega)
    obtain ⟨a1, a2, a3, _⟩ := hS1
    have s1 : Star C ⟨21, st, [X (i : Nat), X ((B + 3 * i : Nat) : Int), X (hc B p : Nat), X (sd R p : Nat), x4], out, mem, u + 16, nw⟩ ⟨24, X ((B + 3 * i : Nat) : Int) :: st, [X (i : Nat), X ((B + 3 * i : Nat) : Int), X (hc B p : Nat), X (1 : Nat), x4], out, mem, u + 19, nw⟩ := by
      refine .head (.get 1 _ a1 rfl (by omega)) ?_
      refine .head (.push (X (1 : Nat)) a2 (P_push (by decide)) (by simp only [List.length_cons]; omega)) ?_
      refine .head (.set 3 a3 (by simp) (by simp only [List.length_cons]; omega)) ?_
      exact .refl _
    have s2 := s0.trans (s1.trans (next_at hF hi2 hS2 (by simp only [List.length_cons]; omega)))
    obtain ⟨y1, y2, y3, y4, u', hu, k⟩ := ihl (.inl (i, r) :: p) (X ((B + 3 * i : Nat) : Int) :: st) out (X (i : Nat)) (X ((B + 3 * i : Nat) : Int)) x4 (u + 24) hW hj (by simp only [List.length_cons]; omega)
    obtain ⟨b1, b2, b3, _⟩ := hS3
    have hsm := hF.small
    have s3 : Star C ⟨29, X ((B + 3 * i : Nat) : Int) :: st, [X (0 : Nat), y1, y2, y3, y4], out ++ allS (prs M l.nodes), mem, u', nw⟩ ⟨32, st, [X (0 : Nat), X ((B + 3 * i : Nat) : Int), y2, y3, y4], out ++ allS (prs M l.nodes), mem, u' + 3, nw⟩ := by
      refine .head (.dup b1 (by omega)) ?_
      refine .head (.unT b2 (by rw [true_X (by omega)]; exact decide_eq_true (by omega)) (by simp only [List.length_cons]; omega)) ?_
      refine .head (.set 1 b3 (by simp) (by omega)) ?_
      exact .refl _
    have s4 := load_at (f := 0) (st := st) (x0 := X (0 : Nat)) (x2 := y2) (x3 := y3) (x4 := y4) (out := out ++ allS (prs M l.nodes)) (u := u' + 3) (nw := nw) hF hi2 (by omega) hS4 (hH.k i hi1 hi2) (by omega)
    have s5 := load_at (f := 1) (st := st) (x0 := X (0 : Nat)) (x2 := y2) (x3 := y3) (x4 := y4) (out := out ++ allS (prs M l.nodes) ++ [M.k i]) (u := u' + 8) (nw := nw) hF hi2 (by omega) hS6 (hH.v i hi1 hi2) (by omega)
    obtain ⟨c1, c2, c3, c4, c5, c6, c7, _⟩ := hS8
    have s6 : Star C ⟨42, st, [X (0 : Nat), X ((B + 3 * i : Nat) : Int), y2, y3, y4], out ++ allS (prs M l.nodes) ++ [M.k i] ++ [M.v i], mem, u' + 13, nw⟩ ⟨5, st, [X (0 : Nat), X ((B + 3 * i : Nat) : Int), X (hc B (.inr (i, l) :: p) : Nat), X (sd R (.inr (i, l) :: p) : Nat), y4], out ++ allS (prs M l.nodes) ++ [M.k i] ++ [M.v i], mem, u' + 20, nw⟩ := by
      refine (addr_at (f := 2) hF hi2 (by omega) c1 c2 c3 (by omega)).trans ?_
      refine .head (.set 2 c4 (by simp) (by omega)) ?_
      refine .head (.push (X (sd R (.inr (i, l) :: p) : Nat)) c5 ((P_push (by omega)).trans (congrArg X (by simp [sd]))) (by omega)) ?_
      refine .head (.set 3 c6 (by simp) (by omega)) ?_
      refine .head (.jump 5 c7 (by omega)) ?_
      exact .refl _
    obtain ⟨z1, z2, z3, z4, u2, hu2, k2⟩ := ihr (.inr (i, l) :: p) st (out ++ allS (prs M l.nodes) ++ [M.k i] ++ [M.v i]) (X (0 : Nat)) (X ((B + 3 * i : Nat) : Int)) y4 (u' + 20) hW hj (by omega)
    refine ⟨z1, z2, z3, z4, u2, ?_, ?_⟩
    · simp only [T.nodes_eq, List.length_append, List.length_cons]
      omega
    · have e : out ++ allS (prs M (T.node i l r).nodes) = out ++ allS (prs M l.nodes) ++ [M.k i] ++ [M.v i] ++ allS (prs M r.nodes) := by simp [T.nodes_eq, prs, allS]
      rw [e]
      exact s2.trans (k.trans (s3.trans (s4.trans (.head (.emit hS5 (by omega)) (s5.trans (.head (.emit hS7 (by omega)) (s6.trans k2)))))))
theorem all_ends {s : List Nat} (hF : Fit C B R) (hC : C.code = allC B R) (hT : Tree B R M (v0 s).mem t S) : Ends C s 1 0 fun v => v.mem = (v0 s).mem ∧ v.out = allS (prs M t.nodes) ∧ v.nw = 0 := by
  have hseg : Seg C.code 0 (allC B R) := by rw [hC]; exact seg_whole _
  obtain ⟨s1, s2⟩ := seg_split hseg
  obtain ⟨s2, s3⟩ := seg_split s2
  obtain ⟨s3, s4⟩ := seg_split s3
  obtain ⟨s4, s5⟩ := seg_split s4
  obtain ⟨s5, s6⟩ := seg_split s5
  obtain ⟨s6, s7⟩ := seg_split s6
  obtain ⟨s7, s8⟩ := seg_split s7
  obtain ⟨s8, s9⟩ := seg_split s8
  obtain ⟨s9, sa⟩ := seg_split s9
  obtain ⟨sa, sb⟩ := seg_split sa
  obtain ⟨sb, sc⟩ := seg_split sb
  have hR := hF.r16
  have hnn := hT.len
  have hbn := hT.H.bn
  have k1 := begin_at (R := R) (mem := (v0 s).mem) (st := [X (0 : Nat)]) (out := []) (x0 := 0) (x1 := 0) (x2 := 0) (x3 := 0) (x4 := 0) (u := 1) (nw := 0) hF s2 (by simp)
  obtain ⟨y1, y2, y3, y4, u', hu, k2⟩ := all_walk (nw := 0) hF s3 s4 s5 s6 s7 s8.1 s9 sa.1 sb hT.H t [] [X (0 : Nat)] [] 0 0 0 5 hT.W hT.in_ (by simp only [List.length_cons, List.length_nil]; omega)
  refine ⟨_, _, .head (.push (X (0 : Nat)) s1.1 (P_push (by decide)) (by simp)) (k1.trans (k2.trans (.head (.dup s6.1 (by simp)) (.head (.unF 49 s6.2.1 (by decide +kernel) (by simp)) (.refl _))))), sc.1, .inl ⟨rfl, rfl, rfl⟩, by simp, ?_, by simp, rfl, rfl, rfl⟩
  show u' + 1 + 1 < 1024
  omega
end
end Go.Proofs.YtpboiggakehpoaaGreatDoor.Tr
namespace Go.Proofs.YtpboiggakehpoaaGreatDoor.Tr
open Num
section
variable {B R : Nat} {M : Tm} {mem : Nat → Nat} {p : List Fr} {t : T} {S : List Nat} {j x y : Nat}
theorem Holds.set_sp (h : Holds B R M mem) (hx : x ≤ R) : Holds B R { M with sp := x } (updF mem B (X (x : Nat))) :=
  ⟨updF_eq _ _ _, (updF_ne (by omega)).trans h.n, (updF_ne (by omega)).trans h.rt, fun i h1 h2 => (updF_ne (by omega)).trans (h.k i h1 h2), fun i h1 h2 => (updF_ne (by omega)).trans (h.v i h1 h2), fun i h1 h2 => (updF_ne (by omega)).trans (h.l i h1 h2), hx, h.bn, h.br, h.ba, h.bb⟩
theorem Holds.set_n (h : Holds B R M mem) (hx : x ≤ R) : Holds B R { M with n := x } (updF mem (B + 1) (X (x : Nat))) :=
  ⟨(updF_ne (by omega)).trans h.sp, updF_eq _ _ _, (updF_ne (by omega)).trans h.rt, fun i h1 h2 => (updF_ne (by omega)).trans (h.k i h1 h2), fun i h1 h2 => (updF_ne (by omega)).trans (h.v i h1 h2), fun i h1 h2 => (updF_ne (by omega)).trans (h.l i h1 h2), h.bs, hx, h.br, h.ba, h.bb⟩
theorem Holds.set_k (h : Holds B R M mem) (hj : 1 ≤ j) : Holds B R { M with k := updF M.k j x } (updF mem (B + 3 * j) x) :=
  ⟨(updF_ne (by omega)).trans h.sp, (updF_ne (by omega)).trans h.n, (updF_ne (by omega)).trans h.rt, fun i h1 h2 => by
    by_cases e : i = j
    · subst e; exact (updF_eq _ _ _).trans (updF_eq _ _ _).symm
    · exact (updF_ne (by omega)).trans ((h.k i h1 h2).trans (updF_ne e).symm), fun i h1 h2 => (updF_ne (by omega)).trans (h.v i h1 h2), fun i h1 h2 => (updF_ne (by omega)).trans (h.l i h1 h2), h.bs, h.bn, h.br, h.ba, h.bb⟩
theorem Holds.set_v (h : Holds B R M mem) (hj : 1 ≤ j) : Holds B R { M with v := updF M.v j x } (updF mem (B + 3 * j + 1) x) :=
  ⟨(updF_ne (by omega)).trans h.sp, (updF_ne (by omega)).trans h.n, (updF_ne (by omega)).trans h.rt, fun i h1 h2 => (updF_ne (by omega)).trans (h.k i h1 h2), fun i h1 h2 => by
    by_cases e : i = j
    · subst e; exact (updF_eq _ _ _).trans (updF_eq _ _ _).symm
    · exact (updF_ne (by omega)).trans ((h.v i h1 h2).trans (updF_ne e).symm), fun i h1 h2 => (updF_ne (by omega)).trans (h.l i h1 h2), h.bs, h.bn, h.br, h.ba, h.bb⟩
theorem updF_le {f : Nat → Nat} {n x k : Nat} (h : ∀ i, f i ≤ R) (hx : x ≤ R) : updF f n x k ≤ R := by
  unfold updF
  split
  · exact hx
  · exact h k
theorem Holds.set_l (h : Holds B R M mem) (hj : 1 ≤ j) (hx : x ≤ R) (hy : y ≤ R) : Holds B R { M with a := updF M.a j x, b := updF M.b j y } (updF mem (B + 3 * j + 2) (X ((x + (R + 1) * y : Nat) : Int))) :=
  ⟨(updF_ne (by omega)).trans h.sp, (updF_ne (by omega)).trans h.n, (updF_ne (by omega)).trans h.rt, fun i h1 h2 => (updF_ne (by omega)).trans (h.k i h1 h2), fun i h1 h2 => (updF_ne (by omega)).trans (h.v i h1 h2), fun i h1 h2 => by
    by_cases e : i = j
    · subst e
      show _ = X ((updF M.a i x i + (R + 1) * updF M.b i y i : Nat) : Int)
      rw [updF_eq, updF_eq, updF_eq]
    · show _ = X ((updF M.a j x i + (R + 1) * updF M.b j y i : Nat) : Int)
      rw [updF_ne e, updF_ne e]
      exact (updF_ne (by omega)).trans (h.l i h1 h2), h.bs, h.bn, h.br, fun i => updF_le h.ba hx, fun i => updF_le h.bb hy⟩
theorem upd_self (f : Nat → Nat) (n : Nat) : updF f n (f n) = f := by
  funext k
  unfold updF
  split
  · rename_i e; rw [e]
  · rfl
theorem Holds.set_hole (h : Holds B R M mem) (hp : InR R p) (hx : x ≤ R) : Holds B R (setLink M x p) (updF mem (hc B p) (X (oldV R (setLink M x p) p : Nat))) := by
  cases p with
  | nil => exact ⟨(updF_ne (by simp [hc])).trans h.sp, (updF_ne (by simp [hc])).trans h.n, updF_eq _ _ _, fun i h1 h2 => (updF_ne (by simp only [hc]; omega)).trans (h.k i h1 h2), fun i h1 h2 => (updF_ne (by simp only [hc]; omega)).trans (h.v i h1 h2), fun i h1 h2 => (updF_ne (by simp only [hc]; omega)).trans (h.l i h1 h2), h.bs, h.bn, hx, h.ba, h.bb⟩
  | cons f p =>
    rcases f with ⟨i, r⟩ | ⟨i, l⟩
    · have k := h.set_l (j := i) (x := x) (y := M.b i) hp.1 hx (h.bb i)
      rw [upd_self] at k
      have e : oldV R (setLink M x (.inl (i, r) :: p)) (.inl (i, r) :: p) = x + (R + 1) * M.b i := by show updF M.a i x i + _ = _; rw [updF_eq]; rfl
      rw [e]
      exact k
    · have k := h.set_l (j := i) (x := M.a i) (y := x) hp.1 (h.ba i) hx
      rw [upd_self] at k
      have e : oldV R (setLink M x (.inr (i, l) :: p)) (.inr (i, l) :: p) = M.a i + (R + 1) * x := by show _ + (R + 1) * updF M.b i x i = _; rw [updF_eq]; rfl
      rw [e]
      exact k
theorem relink_num (M : Tm) (R x : Nat) (p : List Fr) : (oldV R M p : Int) + ((x : Int) - (link M p : Int)) * (sd R p : Int) = (oldV R (setLink M x p) p : Nat) := by
  cases p with
  | nil => simp only [oldV, link, sd, setLink]; omega
  | cons f p =>
    rcases f with ⟨i, r⟩ | ⟨i, l⟩
    · have e : oldV R (setLink M x (.inl (i, r) :: p)) (.inl (i, r) :: p) = x + (R + 1) * M.b i := by show updF M.a i x i + _ = _; rw [updF_eq]; rfl
      rw [e]
      simp only [oldV, link, sd]
      omega
    · have e : oldV R (setLink M x (.inr (i, l) :: p)) (.inr (i, l) :: p) = M.a i + (R + 1) * x := by show _ + (R + 1) * updF M.b i x i = _; rw [updF_eq]; rfl
      rw [e]
      simp only [oldV, link, sd, Int.natCast_add, Int.natCast_mul, Int.sub_mul]
      rw [Int.mul_comm (x : Int), Int.mul_comm (M.b i : Int)]
      omega
theorem Chain.congr {M M' : Tm} : ∀ {S : List Nat} {x : Nat}, (∀ i ∈ S, M'.a i = M.a i ∧ M'.b i = M.b i) → Chain M x S → Chain M' x S
  | [], _, _, h => h
  | i :: S, x, hs, ⟨h1, h2, h3, h4⟩ => by
    obtain ⟨e1, e2⟩ := hs i (by simp)
    refine ⟨h1, h2, e2.trans h3, ?_⟩
    rw [e1]
    exact Chain.congr (fun k hk => hs k (by simp [hk])) h4
theorem ups_in {p : List Fr} {t : T} {k : Nat} (h : k ∈ ups p) : k ∈ (plug p t).nodes := by
  rw [nodes_plug]
  rcases (mem_ups p k).1 h with q | q <;> simp [q]
def takeN (M : Tm) : Nat := if M.sp = 0 then M.n + 1 else M.sp
def putM (M : Tm) (K V : Nat) (p : List Fr) : Tm := setLink { M with sp := M.a (takeN M), n := M.n + 1, k := updF M.k (takeN M) K, v := updF M.v (takeN M) V, a := updF M.a (takeN M) 0, b := updF M.b (takeN M) 0 } (takeN M) p
theorem take_facts (h : Form B R M mem t S) (hn : M.n < R) : 1 ≤ takeN M ∧ takeN M ≤ R ∧ takeN M ∉ t.nodes ∧ M.b (takeN M) = 0 ∧ ∃ S', Chain M (M.a (takeN M)) S' ∧ takeN M ∉ S' ∧ (∀ i ∈ S', i ∈ S) ∧ M.n + 1 + S'.length ≤ R ∧ M.n + S.length ≤ M.n + 1 + S'.length ∧ takeN M ≤ M.n + 1 + S'.length ∧ (t.nodes ++ S').Nodup := by
  unfold takeN
  have hc := h.ch
  have ht := h.top
  have hnd := h.nd
  cases S with
  | nil =>
    have e : M.sp = 0 := hc
    rw [if_pos e]
    have hf := h.fresh (M.n + 1) (by simp) (by omega)
    refine ⟨by omega, by omega, fun q => ?_, hf.2, [], hf.1, by simp, by simp, by simp; omega, by simp, by simp, hnd⟩
    have := h.rng _ (List.mem_append_left _ q)
    simp at this
    omega
  | cons i S =>
    obtain ⟨h1, h2, h3, h4⟩ := hc
    rw [h1, if_neg h2]
    have hi := h.rng i (by simp)
    simp only [List.length_cons] at hi ht ⊢
    have hnd2 := List.nodup_append.1 hnd
    refine ⟨by omega, by omega, fun q => hnd2.2.2 i q i (by simp) rfl, h3, S, h4, (List.nodup_cons.1 hnd2.2.1).1, fun k hk => by simp [hk], by omega, by omega, by omega, ?_⟩
    rw [List.nodup_append]
    exact ⟨hnd2.1, (List.nodup_cons.1 hnd2.2.1).2, fun a ha b hb => hnd2.2.2 a ha b (by simp [hb])⟩
theorem putM_far (M : Tm) (K V : Nat) (p : List Fr) {i : Nat} (h1 : i ≠ takeN M) (h2 : i ∉ ups p) : (putM M K V p).a i = M.a i ∧ (putM M K V p).b i = M.b i := by
  obtain ⟨e1, e2⟩ := setLink_far { M with sp := M.a (takeN M), n := M.n + 1, k := updF M.k (takeN M) K, v := updF M.v (takeN M) V, a := updF M.a (takeN M) 0, b := updF M.b (takeN M) 0 } (takeN M) p h2
  exact ⟨e1.trans (updF_ne h1), e2.trans (updF_ne h1)⟩
theorem put_tree {K V : Nat} {mem' : Nat → Nat} (h : Tree B R M mem (plug p .nil) S) (w : Way M K p) (hn : M.n < R) (hK : okN K) (hV : okN V) (hH : Holds B R (putM M K V p) mem') : ∃ S', Tree B R (putM M K V p) mem' (plug p (.node (takeN M) .nil .nil)) S' ∧ prs (putM M K V p) (plug p (.node (takeN M) .nil .nil)).nodes = putS (prs M (plug p .nil).nodes) K V := by
  obtain ⟨f1, f2, f3, f4, S', g1, g2, g3, g4, g5, g6, g7⟩ := take_facts h.toForm hn
  obtain ⟨e1, e2, e3, e4⟩ := setLink_same { M with sp := M.a (takeN M), n := M.n + 1, k := updF M.k (takeN M) K, v := updF M.v (takeN M) V, a := updF M.a (takeN M) 0, b := updF M.b (takeN M) 0 } (takeN M) p
  have hup : takeN M ∉ ups p := fun q => f3 (ups_in q)
  have hne : ∀ i ∈ (plug p .nil).nodes, i ≠ takeN M := fun i hi q => f3 (q ▸ hi)
  have hnodes : (plug p (.node (takeN M) .nil .nil)).nodes = bef p ++ takeN M :: aft p := by rw [nodes_plug]; simp [T.nodes_eq]
  have hold : (plug p .nil).nodes = bef p ++ aft p := by rw [nodes_plug]; simp [T.nodes_eq]
  have hperm : (plug p (.node (takeN M) .nil .nil)).nodes.Perm (takeN M :: (plug p .nil).nodes) := by rw [hnodes, hold]; exact List.perm_middle
  have hkb : ∀ i ∈ bef p ++ aft p, (putM M K V p).k i = M.k i ∧ (putM M K V p).v i = M.v i := fun i hi => by
    have := hne i (hold ▸ hi)
    exact ⟨(congrFun e3 i).trans (updF_ne this), (congrFun e4 i).trans (updF_ne this)⟩
  have hkt : (putM M K V p).k (takeN M) = K ∧ (putM M K V p).v (takeN M) = V := ⟨(congrFun e3 _).trans (updF_eq _ _ _), (congrFun e4 _).trans (updF_eq _ _ _)⟩
  have hdis : ∀ i ∈ S', i ∉ ups p := fun i hi q => (List.nodup_append.1 g7).2.2 i (ups_in q) i hi rfl
  refine ⟨S', ⟨⟨hH, ?_, ?_, ?_, ?_, ?_, ?_, ?_, ?_, ?_⟩, ?_⟩, ?_⟩
  · exact Whole.put (t := .nil) (t' := .node (takeN M) .nil .nil) h.W (List.nodup_append.1 h.nd).1 (M' := { M with sp := M.a (takeN M), n := M.n + 1, k := updF M.k (takeN M) K, v := updF M.v (takeN M) V, a := updF M.a (takeN M) 0, b := updF M.b (takeN M) 0 })
      (fun i hi => ⟨updF_ne (hne i (ups_in hi)), updF_ne (hne i (ups_in hi))⟩) rfl ((rep_eq.2 _ _ _).2 ⟨by omega, updF_eq _ _ _, updF_eq _ _ _, trivial, trivial⟩) (fun i hi => by
        have : i = takeN M := by simpa [T.nodes_eq] using hi
        rw [this]; exact hup)
  · show Chain _ (putM M K V p).sp S'
    rw [show (putM M K V p).sp = M.a (takeN M) from e1]
    exact g1.congr fun i hi => putM_far M K V p (fun q => g2 (q ▸ hi)) (hdis i hi)
  · rw [(hperm.append_right S').nodup_iff]
    refine List.nodup_cons.2 ⟨fun q => ?_, g7⟩
    rcases List.mem_append.1 q with q | q
    · exact f3 q
    · exact g2 q
  · intro i hi
    show 1 ≤ i ∧ i ≤ (putM M K V p).n + S'.length
    rw [show (putM M K V p).n = M.n + 1 from e2]
    rcases List.mem_append.1 hi with hi | hi
    · rcases List.mem_cons.1 (hperm.mem_iff.1 hi) with rfl | hi
      · exact ⟨f1, g6⟩
      · have := h.rng i (List.mem_append_left _ hi)
        omega
    · have := h.rng i (List.mem_append_right _ (g3 i hi))
      omega
  · show (putM M K V p).n + S'.length ≤ R
    rw [show (putM M K V p).n = M.n + 1 from e2]
    exact g4
  · intro i hi hR
    have hi : M.n + 1 + S'.length < i := by rw [show (putM M K V p).n = M.n + 1 from e2] at hi; exact hi
    have hq : i ∉ ups p := fun q => by have := h.rng i (List.mem_append_left _ (ups_in q)); omega
    obtain ⟨a1, a2⟩ := putM_far M K V p (i := i) (by omega) hq
    obtain ⟨b1, b2⟩ := h.fresh i (by omega) hR
    exact ⟨a1.trans b1, a2.trans b2⟩
  · rw [show (putM M K V p).n = M.n + 1 from e2, hperm.length_eq, List.length_cons, h.len]
  · intro i
    rw [show (putM M K V p).k = updF M.k (takeN M) K from e3]
    unfold updF
    split
    · exact hK
    · exact h.ko i
  · intro i
    rw [show (putM M K V p).v = updF M.v (takeN M) V from e4]
    unfold updF
    split
    · exact hV
    · exact h.vo i
  · rw [hnodes]
    have hs := h.srt
    rw [hold] at hs
    obtain ⟨s1, s2, s3⟩ := List.pairwise_append.1 hs
    refine List.pairwise_append.2 ⟨?_, List.pairwise_cons.2 ⟨?_, ?_⟩, ?_⟩
    · exact s1.imp_of_mem fun {a b} ha hb q => by rw [(hkb a (by simp [ha])).1, (hkb b (by simp [hb])).1]; exact q
    · intro b hb
      rw [hkt.1, (hkb b (by simp [hb])).1]
      exact w.a b hb
    · exact s2.imp_of_mem fun {a b} ha hb q => by rw [(hkb a (by simp [ha])).1, (hkb b (by simp [hb])).1]; exact q
    · intro a ha b hb
      rw [(hkb a (by simp [ha])).1]
      rcases List.mem_cons.1 hb with rfl | hb
      · rw [hkt.1]; exact w.b a ha
      · rw [(hkb b (by simp [hb])).1]; exact s3 a ha b hb
  · obtain ⟨p1, p2, p3⟩ := part_no w
    obtain ⟨i1, i2⟩ := isK_no p2 p3
    unfold putS
    rw [p1, i2, if_neg Bool.false_ne_true, i1, List.take_left, List.drop_left, hnodes]
    have m1 : ∀ l : List Nat, (∀ i ∈ l, i ∈ bef p ++ aft p) → prs (putM M K V p) l = prs M l := fun l hl => List.map_congr_left fun i hi => by rw [(hkb i (hl i hi)).1, (hkb i (hl i hi)).2]
    have e5 : prs (putM M K V p) (bef p ++ takeN M :: aft p) = prs (putM M K V p) (bef p) ++ ((putM M K V p).k (takeN M), (putM M K V p).v (takeN M)) :: prs (putM M K V p) (aft p) := by simp [prs]
    rw [e5, hkt.1, hkt.2, m1 _ (fun i hi => by simp [hi]), m1 _ (fun i hi => by simp [hi])]
theorem put_same {K V i : Nat} {l r : T} {mem' : Nat → Nat} (h : Tree B R M mem (plug p (.node i l r)) S) (w : Way M K p) (hk : place (M.k i) = place K) (hV : okN V) (hH : Holds B R { M with v := updF M.v i V } mem') : Tree B R { M with v := updF M.v i V } mem' (plug p (.node i l r)) S ∧ prs { M with v := updF M.v i V } (plug p (.node i l r)).nodes = putS (prs M (plug p (.node i l r)).nodes) K V := by
  have rc : ∀ t : T, Rep M t → Rep { M with v := updF M.v i V } t := fun t ht => Rep.congr (M := M) (fun j _ => ⟨rfl, rfl⟩) ht
  refine ⟨⟨⟨hH, ⟨h.W.1, rc _ h.W.2⟩, Chain.congr (M := M) (fun i _ => ⟨rfl, rfl⟩) h.ch, h.nd, h.rng, h.top, h.fresh, h.len, h.ko, fun j => ?_⟩, h.srt⟩, ?_⟩
  · show okN (updF M.v i V j)
    unfold updF
    split
    · exact hV
    · exact h.vo j
  · obtain ⟨p1, p2, p3⟩ := part_yes h.srt w hk
    obtain ⟨i1, i2, i3⟩ := isK_yes (Z := prs M (r.nodes ++ aft p)) (q := (M.k i, M.v i)) p2 hk
    have hnd := (List.nodup_append.1 h.nd).1
    rw [nodes_plug] at hnd
    have hnd' : (bef p ++ l.nodes ++ i :: (r.nodes ++ aft p)).Nodup := by simpa [T.nodes_eq] using hnd
    have hA : ∀ j ∈ bef p ++ l.nodes, j ≠ i := fun j hj => (List.nodup_append.1 hnd').2.2 j hj i (by simp)
    have hZ : ∀ j ∈ r.nodes ++ aft p, j ≠ i := fun j hj e => (List.nodup_cons.1 (List.nodup_append.1 hnd').2.1).1 (e ▸ hj)
    have m1 : ∀ ls : List Nat, (∀ j ∈ ls, j ≠ i) → prs { M with v := updF M.v i V } ls = prs M ls := fun ls hl => List.map_congr_left fun j hj => by show (M.k j, updF M.v i V j) = _; rw [updF_ne (hl j hj)]
    have e5 : prs { M with v := updF M.v i V } (plug p (.node i l r)).nodes = prs { M with v := updF M.v i V } (bef p ++ l.nodes) ++ (M.k i, updF M.v i V i) :: prs { M with v := updF M.v i V } (r.nodes ++ aft p) := by rw [nodes_plug]; simp [prs, T.nodes_eq]
    unfold putS
    rw [p1, i2, if_pos rfl, i1, i3, e5, updF_eq, m1 _ hA, m1 _ hZ, List.set_append_right _ _ (Nat.le_refl _), Nat.sub_self]
    rfl
end
end Go.Proofs.YtpboiggakehpoaaGreatDoor.Tr
namespace Go.Proofs.YtpboiggakehpoaaGreatDoor.Tr
open Num
theorem seg_cut {c a b : List Ins} {p : Nat} (n m : Nat) (hn : a.length = n) (hm : p + n = m) (h : Seg c p (a ++ b)) : Seg c p a ∧ Seg c m b := by
  obtain ⟨h1, h2⟩ := seg_split h
  rw [hn, hm] at h2
  exact ⟨h1, h2⟩
section
variable {C : Cx} {B R : Nat} {M : Tm} {mem : Nat → Nat} {st out : List Nat} {q e u nw x0 x1 x2 x3 x4 i y K V : Nat} {t : T} {S : List Nat} {p : List Fr}
theorem addr_of {f : Nat} (hF : Fit C B R) (hi : i ≤ R) (hf : f ≤ 2) (hS : Seg C.code q (addrS f)) (hl : st.length ≤ 50) :
    Star C ⟨q, st, [x0, X ((B + 3 * i : Nat) : Int), x2, x3, x4], out, mem, u, nw⟩ ⟨q + 3, X ((B + 3 * i + f : Nat) : Int) :: st, [x0, X ((B + 3 * i : Nat) : Int), x2, x3, x4], out, mem, u + 3, nw⟩ := addr_at hF hi hf hS.1 hS.2.1 hS.2.2.1 hl
theorem goTo_at (hF : Fit C B R) (hi : i ≤ R) (hS : Seg C.code q (goToS B)) (hl : st.length ≤ 50) :
    Star C ⟨q, st, [X (i : Nat), x1, x2, x3, x4], out, mem, u, nw⟩ ⟨q + 6, st, [X (i : Nat), X ((B + 3 * i : Nat) : Int), x2, x3, x4], out, mem, u + 6, nw⟩ := by
  have hs := hF.small
  have hr := hF.r16
  obtain ⟨h10, h11, h12, h13, h14, h15, _⟩ := hS
  refine .head (.get 0 _ h10 rfl (by omega)) ?_
  refine .head (.push _ h11 (P_push (by decide)) (by simp only [List.length_cons]; omega)) ?_
  refine .head (.two _ h12 (X_mul (by omega) (by omega) (by omega) (by omega) (fun z => by omega)) (by omega)) ?_
  refine .head (.push _ h13 (P_push (by omega)) (by simp only [List.length_cons]; omega)) ?_
  refine .head (.two (X ((B + 3 * i : Nat) : Int)) h14 ((X_add (by omega) (by omega)).trans (congrArg X (by omega))) (by omega)) ?_
  refine .head (.set 1 h15 (by simp) (by omega)) ?_
  exact .refl _
theorem grow_at {c z z' : Nat} {b : Int} (hF : Fit C B R) (hu : C.upd = true) (hcB : B ≤ c ∧ c ≤ B + 2) (hS : Seg C.code q (growS R c b)) (hm : mem c = X (z : Nat)) (hz : z ≤ R) (hb : (z : Int) + b = (z' : Nat)) (hb2 : b.natAbs ≤ 10) (hl : st.length ≤ 50) : Star C ⟨q, st, [x0, x1, x2, x3, x4], out, mem, u, nw⟩ ⟨q + 8, st, [x0, x1, x2, x3, x4], out, updF mem c (X (z' : Nat)), u + 8, nw + 1⟩ := by
  have hs := hF.small
  have hlo := hF.lo
  have hhi := hF.hi
  have hr := hF.r16
  have hr1 := hF.r1
  obtain ⟨s1, s2⟩ := seg_split hS
  obtain ⟨h1, h2, h3, h4, _⟩ := s2
  refine (fold_at hF hcB s1 hm hz hl).trans ?_
  refine .head (.push (X b) h1 (P_push (by omega)) (by simp only [List.length_cons]; omega)) ?_
  refine .head (.two (X (z' : Nat)) h2 ((X_add (by omega) (by omega)).trans (congrArg X hb)) (by omega)) ?_
  refine .head (.push (X (c : Nat)) h3 (P_push (by omega)) (by simp only [List.length_cons]; omega)) ?_
  refine .head (.write c h4 hu (by omega) (by omega) (by omega)) ?_
  exact .refl _
theorem put_tail (hF : Fit C B R) (hup : C.upd = true) (hK : C.args 0 = K) (hV : C.args 1 = V) (hH : Holds B R M mem) (hp : InR R p) (hlk : link M p = 0) (hj : 1 ≤ takeN M ∧ takeN M ≤ R) (hb0 : M.b (takeN M) = 0) (hn : M.n < R) (hnp : takeN M ∉ ups p)
    (h1 : Seg C.code 73 (goToS B)) (h2 : Seg C.code 79 (loadK 2)) (h3 : Seg C.code 83 [P B, I 17 0, I 6 0]) (h4 : Seg C.code 86 (addrS 0)) (h5 : Seg C.code 89 [I 17 0, I 6 1]) (h6 : Seg C.code 91 (addrS 1)) (h7 : Seg C.code 94 [I 17 0, P 0]) (h8 : Seg C.code 96 (addrS 2)) (h9 : Seg C.code 99 [I 17 0, I 7 2, I 16 0, I 7 0, I 7 3, I 10 3, I 10 1, I 7 2, I 17 0]) (ha : Seg C.code 108 (growS R (B + 1 : Nat) 1)) (hb : Seg C.code 116 [P 1, I 18 0, I 20 0]) :
    ∃ v, Star C ⟨73, [], [X (takeN M : Nat), x1, X (hc B p : Nat), X (sd R p : Nat), x4], [], mem, u, 0⟩ v ∧ ci C.code v.pl = I 20 0 ∧ v.st = [] ∧ v.u = u + 45 ∧ v.nw = 6 ∧ v.out = [X (1 : Nat)] ∧ Holds B R (putM M K V p) v.mem ∧ ∀ c, c < C.lo ∨ C.hi ≤ c → v.mem c = mem c := by
  have hs := hF.small
  have hlo := hF.lo
  have hhi := hF.hi
  have hr := hF.r16
  generalize hjj : takeN M = j at *
  obtain ⟨c1, c2, c3⟩ := hc_in hF hp
  have k1 := goTo_at (st := []) (x1 := x1) (x2 := X (hc B p : Nat)) (x3 := X (sd R p : Nat)) (x4 := x4) (out := []) (mem := mem) (u := u) (nw := 0) hF hj.2 h1 (by simp)
  have hlj : mem (B + 3 * j + 2) = X (M.a j : Nat) := by
    have := hH.l j hj.1 hj.2
    rw [hb0] at this
    exact this
  have k2 := load_at (f := 2) (st := []) (x0 := X (j : Nat)) (x2 := X (hc B p : Nat)) (x3 := X (sd R p : Nat)) (x4 := x4) (out := []) (u := u + 6) (nw := 0) hF hj.2 (by omega) h2 hlj (by simp)
  obtain ⟨g1, g2, g3, _⟩ := h3
  have H1 := hH.set_sp (hH.ba j)
  have k3 : Star C ⟨83, [X (M.a j : Nat)], [X (j : Nat), X ((B + 3 * j : Nat) : Int), X (hc B p : Nat), X (sd R p : Nat), x4], [], mem, u + 10, 0⟩ ⟨86, [K], [X (j : Nat), X ((B + 3 * j : Nat) : Int), X (hc B p : Nat), X (sd R p : Nat), x4], [], updF mem B (X (M.a j : Nat)), u + 13, 1⟩ := by
    refine .head (.push (X (B : Nat)) g1 (P_push (by omega)) (by simp)) ?_
    refine .head (.write B g2 hup (by omega) (by omega) (by simp)) ?_
    refine .head (.arg 0 _ g3 hK (by simp)) ?_
    exact .refl _
  have k4 := addr_of (f := 0) (st := [K]) (x0 := X (j : Nat)) (x2 := X (hc B p : Nat)) (x3 := X (sd R p : Nat)) (x4 := x4) (out := []) (mem := updF mem B (X (M.a j : Nat))) (u := u + 13) (nw := 1) hF hj.2 (by omega) h4 (by simp)
  have H2 := H1.set_k (j := j) (x := K) hj.1
  obtain ⟨m1, m2, _⟩ := h5
  have k5 : Star C ⟨89, [X ((B + 3 * j + 0 : Nat) : Int), K], [X (j : Nat), X ((B + 3 * j : Nat) : Int), X (hc B p : Nat), X (sd R p : Nat), x4], [], updF mem B (X (M.a j : Nat)), u + 16, 1⟩ ⟨91, [V], [X (j : Nat), X ((B + 3 * j : Nat) : Int), X (hc B p : Nat), X (sd R p : Nat), x4], [], updF (updF mem B (X (M.a j : Nat))) (B + 3 * j) K, u + 18, 2⟩ := by
    refine .head (.write (B + 3 * j) m1 hup (by omega) (by omega) (by simp)) ?_
    refine .head (.arg 1 _ m2 hV (by simp)) ?_
    exact .refl _
  have k6 := addr_of (f := 1) (st := [V]) (x0 := X (j : Nat)) (x2 := X (hc B p : Nat)) (x3 := X (sd R p : Nat)) (x4 := x4) (out := []) (mem := updF (updF mem B (X (M.a j : Nat))) (B + 3 * j) K) (u := u + 18) (nw := 2) hF hj.2 (by omega) h6 (by simp)
  have H3 := H2.set_v (j := j) (x := V) hj.1
  obtain ⟨n1, n2, _⟩ := h7
  have k7 : Star C ⟨94, [X ((B + 3 * j + 1 : Nat) : Int), V], [X (j : Nat), X ((B + 3 * j : Nat) : Int), X (hc B p : Nat), X (sd R p : Nat), x4], [], updF (updF mem B (X (M.a j : Nat))) (B + 3 * j) K, u + 21, 2⟩ ⟨96, [X (0 : Nat)], [X (j : Nat), X ((B + 3 * j : Nat) : Int), X (hc B p : Nat), X (sd R p : Nat), x4], [], updF (updF (updF mem B (X (M.a j : Nat))) (B + 3 * j) K) (B + 3 * j + 1) V, u + 23, 3⟩ := by
    refine .head (.write (B + 3 * j + 1) n1 hup (by omega) (by omega) (by simp)) ?_
    refine .head (.push (X (0 : Nat)) n2 (P_push (by decide)) (by simp)) ?_
    exact .refl _
  have k8 := addr_of (f := 2) (st := [X (0 : Nat)]) (x0 := X (j : Nat)) (x2 := X (hc B p : Nat)) (x3 := X (sd R p : Nat)) (x4 := x4) (out := []) (mem := updF (updF (updF mem B (X (M.a j : Nat))) (B + 3 * j) K) (B + 3 * j + 1) V) (u := u + 23) (nw := 3) hF hj.2 (by omega) h8 (by simp)
  have H4 := H3.set_l (j := j) (x := 0) (y := 0) hj.1 (by omega) (by omega)
  rw [Nat.mul_zero] at H4
  obtain ⟨r1, r2, r3, r4, r5, r6, r7, r8, r9, _⟩ := h9
  generalize hM4 : ({ M with sp := M.a j, k := updF M.k j K, v := updF M.v j V, a := updF M.a j 0, b := updF M.b j 0 } : Tm) = M4 at H4
  generalize hm4 : updF (updF (updF (updF mem B (X (M.a j : Nat))) (B + 3 * j) K) (B + 3 * j + 1) V) (B + 3 * j + 2) (X ((0 + 0 : Nat) : Int)) = mem4 at H4
  have hl4 : link M4 p = 0 := by
    rw [← hM4]
    refine (link_congr (M := M) (M' := { M with sp := M.a j, k := updF M.k j K, v := updF M.v j V, a := updF M.a j 0, b := updF M.b j 0 }) rfl fun i hi => ?_).trans hlk
    have hne : i ≠ j := fun e => hnp (e ▸ hi)
    exact ⟨updF_ne hne, updF_ne hne⟩
  have ho := (hole_num (p := p) H4 hr).1
  have H5 := H4.set_hole (x := j) hp hj.2
  have hnum := relink_num M4 R j p
  rw [hl4] at hnum
  have hsd := sd_one (R := R) (p := p) hr
  have ho5 := (hole_num (p := p) H5 hr).1
  have k9 : Star C ⟨99, [X ((B + 3 * j + 2 : Nat) : Int), X (0 : Nat)], [X (j : Nat), X ((B + 3 * j : Nat) : Int), X (hc B p : Nat), X (sd R p : Nat), x4], [], updF (updF (updF mem B (X (M.a j : Nat))) (B + 3 * j) K) (B + 3 * j + 1) V, u + 26, 3⟩ ⟨108, [], [X (j : Nat), X ((B + 3 * j : Nat) : Int), X (hc B p : Nat), X (sd R p : Nat), x4], [], updF mem4 (hc B p) (X (oldV R (setLink M4 j p) p : Nat)), u + 35, 5⟩ := by
    refine .head (.write (B + 3 * j + 2) r1 hup (by omega) (by omega) (by simp)) ?_
    rw [show updF (updF (updF (updF mem B (X (M.a j : Nat))) (B + 3 * j) K) (B + 3 * j + 1) V) (B + 3 * j + 2) (X (0 : Nat)) = mem4 from hm4]
    refine .head (.get 2 _ r2 rfl (by simp)) ?_
    refine .head (.read (hc B p) _ r3 c1 c2 (hole_mem H4 hp) (by simp)) ?_
    refine .head (.get 0 _ r4 rfl (by simp)) ?_
    refine .head (.get 3 _ r5 rfl (by simp)) ?_
    refine .head (.two (X ((j : Int) * (sd R p : Int))) r6 (X_mul (by omega) (by omega) (by omega) (by omega) (fun z => by omega)) (by simp)) ?_
    have hmul : ((j : Int) * (sd R p : Int)).natAbs ≤ 1000 := by
      have h1 : j * sd R p ≤ 16 * 17 := Nat.mul_le_mul (by omega) hsd.2
      have e : (j : Int) * (sd R p : Int) = ((j * sd R p : Nat) : Int) := by rw [Int.natCast_mul]
      rw [e]
      omega
    refine .head (.two (X (oldV R (setLink M4 j p) p : Nat)) r7 ((X_add (by omega) (by omega)).trans (congrArg X (by rw [← hnum]; simp))) (by simp)) ?_
    refine .head (.get 2 _ r8 rfl (by simp)) ?_
    refine .head (.write (hc B p) r9 hup c1 c2 (by simp)) ?_
    exact .refl _
  have e4 := setLink_same M4 j p
  have hn5 : (setLink M4 j p).n = M.n := by rw [e4.2.1, ← hM4]
  have k10 := grow_at (st := []) (x0 := X (j : Nat)) (x1 := X ((B + 3 * j : Nat) : Int)) (x2 := X (hc B p : Nat)) (x3 := X (sd R p : Nat)) (x4 := x4) (out := []) (u := u + 35) (nw := 5) (z := M.n) (z' := M.n + 1) (c := B + 1) hF hup (by omega) ha (by rw [← hn5]; exact H5.n) (by omega) (by omega) (by decide) (by simp)
  have H6 := H5.set_n (x := M.n + 1) (by omega)
  obtain ⟨f1, f2, f3, _⟩ := hb
  refine ⟨_, k1.trans (k2.trans (k3.trans (k4.trans (k5.trans (k6.trans (k7.trans (k8.trans (k9.trans (k10.trans (.head (.push (X (1 : Nat)) f1 (P_push (by decide)) (by simp)) (.head (.emit f2 (by simp)) (.refl _)))))))))))), f3, rfl, rfl, rfl, rfl, ?_, ?_⟩
  · have e : putM M K V p = { setLink M4 j p with n := M.n + 1 } := by
      unfold putM
      rw [hjj, ← hM4]
      cases p with
      | nil => rfl
      | cons f p => rcases f with ⟨i, r⟩ | ⟨i, l⟩ <;> rfl
    rw [e]
    exact H6
  · intro c hcc
    show updF (updF mem4 (hc B p) _) (B + 1) _ c = mem c
    rw [updF_ne (by omega), updF_ne (by omega), ← hm4, updF_ne (by omega), updF_ne (by omega), updF_ne (by omega), updF_ne (by omega)]
theorem put_ends {s : List Nat} (hF : Fit C B R) (hup : C.upd = true) (hC : C.code = putCd B R) (hT : Tree B R M (v0 s).mem t S) (hK : C.args 0 = K) (hV : C.args 1 = V) (hKo : okN K) (hVo : okN V) :
    (isK (prs M t.nodes) K = false ∧ R ≤ (prs M t.nodes).length ∧ Ends C s 2 1 fun v => v.out = [] ∧ v.nw = 0) ∨
    ((isK (prs M t.nodes) K = true ∨ (prs M t.nodes).length < R) ∧ Ends C s 1 0 fun v => v.out = [X ((if isK (prs M t.nodes) K then 0 else 1 : Nat) : Int)] ∧ (∀ c, c < C.lo ∨ C.hi ≤ c → v.mem c = (v0 s).mem c) ∧ ∃ M' t' S', Tree B R M' v.mem t' S' ∧ prs M' t'.nodes = putS (prs M t.nodes) K V) := by
  have hseg : Seg C.code 0 (putCd B R) := by rw [hC]; exact seg_whole _
  obtain ⟨s1, s2⟩ := seg_cut 4 4 rfl rfl hseg
  obtain ⟨s2, s3⟩ := seg_cut 39 43 rfl rfl s2
  obtain ⟨s3, s4⟩ := seg_cut 8 51 rfl rfl s3
  obtain ⟨s4, s5⟩ := seg_cut 4 55 rfl rfl s4
  obtain ⟨s5, s6⟩ := seg_cut 4 59 rfl rfl s5
  obtain ⟨s6, s7⟩ := seg_cut 4 63 rfl rfl s6
  obtain ⟨s7, s8⟩ := seg_cut 3 66 rfl rfl s7
  obtain ⟨s8, s9⟩ := seg_cut 4 70 rfl rfl s8
  obtain ⟨s9, sa⟩ := seg_cut 3 73 rfl rfl s9
  obtain ⟨sa, sb⟩ := seg_cut 6 79 rfl rfl sa
  obtain ⟨sb, sc⟩ := seg_cut 4 83 rfl rfl sb
  obtain ⟨sc, sd_⟩ := seg_cut 3 86 rfl rfl sc
  obtain ⟨sd_, se⟩ := seg_cut 3 89 rfl rfl sd_
  obtain ⟨se, sf⟩ := seg_cut 2 91 rfl rfl se
  obtain ⟨sf, sg⟩ := seg_cut 3 94 rfl rfl sf
  obtain ⟨sg, sh⟩ := seg_cut 2 96 rfl rfl sg
  obtain ⟨sh, si⟩ := seg_cut 3 99 rfl rfl sh
  obtain ⟨si, sj⟩ := seg_cut 9 108 rfl rfl si
  obtain ⟨sj, sk⟩ := seg_cut 8 116 rfl rfl sj
  have hR := hF.r16
  have hsm := hF.small
  have hlo := hF.lo
  have hhi := hF.hi
  have k1 := begin_at (R := R) (mem := (v0 s).mem) (st := []) (out := []) (x0 := 0) (x1 := 0) (x2 := 0) (x3 := 0) (x4 := 0) (u := 0) (nw := 0) hF s1 (by simp)
  have hf := search_any (st := []) (out := []) (x4 := 0) (nw := 0) hF s2 hT.H hK hKo hT.ko (by simp) t [] 0 0 4 hT.W hT.srt hT.in_ (way_nil M K)
  have hnn := hT.len
  have hbn := hT.H.bn
  have hpl : (prs M t.nodes).length = M.n := by rw [prs, List.length_map, hnn]
  rcases hf with ⟨p', h, w, hl, y1, u', hu, k⟩ | ⟨p', i, l, r, h, w, hk, hl, u', hu, k⟩
  · have hlen := len_plug p' .nil
    have ht : t = plug p' .nil := h.symm
    have hin := hT.in_
    rw [← ht, hnn] at hlen
    simp only [List.length_nil, T.nodes_eq] at hlen hu
    obtain ⟨e1, e2, e3⟩ := part_no w
    have hno : isK (prs M t.nodes) K = false := by rw [ht, e1]; exact (isK_no e2 e3).2
    have k3 := fold_at (st := []) (out := []) (x0 := X (0 : Nat)) (x1 := y1) (x2 := X (hc B p' : Nat)) (x3 := X (sd R p' : Nat)) (x4 := 0) (u := u') (nw := 0) (c := B + 1) hF (by omega) s4 hT.H.n hbn (by simp)
    obtain ⟨b1, b2, b3, b4, _⟩ := s5
    by_cases hfull : M.n < R
    · right
      refine ⟨.inr (by omega), ?_⟩
      obtain ⟨f1, f2, f3, f4, _⟩ := take_facts hT.toForm hfull
      have k4 : Star C ⟨51, [], [X (0 : Nat), y1, X (hc B p' : Nat), X (sd R p' : Nat), 0], [], (v0 s).mem, u', 0⟩ ⟨59, [], [X (0 : Nat), y1, X (hc B p' : Nat), X (sd R p' : Nat), 0], [], (v0 s).mem, u' + 7, 0⟩ := by
        refine k3.trans ?_
        refine .head (.push (X (R : Nat)) b1 (P_push (by omega)) (by simp)) ?_
        refine .head (.two (yesB true) b2 ((X_less (by omega) (by omega)).trans (by rw [decide_eq_true hfull])) (by simp)) ?_
        refine .head (.ifT 59 b3 (true_yes true) (by simp)) ?_
        exact .refl _
      have k5 := fold_at (st := []) (out := []) (x0 := X (0 : Nat)) (x1 := y1) (x2 := X (hc B p' : Nat)) (x3 := X (sd R p' : Nat)) (x4 := 0) (u := u' + 7) (nw := 0) (c := B) hF (by omega) s6 hT.H.sp hT.H.bs (by simp)
      obtain ⟨d1, d2, d3, _⟩ := s7
      have k6 : ∃ u2, u2 ≤ u' + 21 ∧ Star C ⟨59, [], [X (0 : Nat), y1, X (hc B p' : Nat), X (sd R p' : Nat), 0], [], (v0 s).mem, u' + 7, 0⟩ ⟨73, [], [X (takeN M : Nat), y1, X (hc B p' : Nat), X (sd R p' : Nat), 0], [], (v0 s).mem, u2, 0⟩ := by
        have hbs := hT.H.bs
        by_cases hz : M.sp = 0
        · have ht0 : takeN M = M.n + 1 := by unfold takeN; rw [if_pos hz]
          rw [hz] at k5
          have k7 := fold_at (st := []) (out := []) (x0 := X (0 : Nat)) (x1 := y1) (x2 := X (hc B p' : Nat)) (x3 := X (sd R p' : Nat)) (x4 := 0) (u := u' + 14) (nw := 0) (c := B + 1) hF (by omega) s8 hT.H.n hbn (by simp)
          obtain ⟨g1, g2, g3, _⟩ := s9
          refine ⟨u' + 21, by omega, k5.trans (.head (.set 0 d1 (by simp) (by simp)) (.head (.get 0 _ d2 rfl (by simp)) (.head (.ifF d3 (show trueB (X (0 : Nat)) = false by rw [true_X (by decide)]; decide) (by simp)) (k7.trans ?_))))⟩
          refine .head (.push (X (1 : Nat)) g1 (P_push (by decide)) (by simp)) ?_
          refine .head (.two (X (takeN M : Nat)) g2 ((X_add (by omega) (by omega)).trans (congrArg X (by rw [ht0]; omega))) (by simp)) ?_
          refine .head (.set 0 g3 (by simp) (by simp)) ?_
          exact .refl _
        · have ht0 : takeN M = M.sp := by unfold takeN; rw [if_neg hz]
          rw [ht0]
          refine ⟨u' + 14, by omega, k5.trans (.head (.set 0 d1 (by simp) (by simp)) (.head (.get 0 _ d2 rfl (by simp)) (.head (.ifT 73 d3 (show trueB (X (M.sp : Nat)) = true by rw [true_X (by omega)]; exact decide_eq_true (by omega)) (by simp)) (.refl _))))⟩
      obtain ⟨u2, hu2, k6⟩ := k6
      have hW := hT.W
      rw [ht] at hW
      have hlk : link M p' = 0 := ((whole_plug M p' .nil).1 hW).2.1
      have hinr : InR R p' := inR_of (t := .nil) (ht ▸ hin)
      obtain ⟨v, q1, q2, q3, q4, q5, q6, q7, q8⟩ := put_tail (u := u2) (x1 := y1) (x4 := 0) hF hup hK hV hT.H hinr hlk ⟨f1, f2⟩ f4 hfull (fun z => f3 (by rw [ht]; exact ups_in z)) sa sb sc sd_ se sf sg sh si sj sk
      refine ⟨v, _, k1.trans (k.trans (k4.trans (k6.trans q1))), q2, .inl ⟨rfl, rfl, rfl⟩, by rw [q3]; simp, by omega, by omega, ?_, q8, ?_⟩
      · rw [q6, hno]
        rfl
      · have hT2 := hT
        rw [ht] at hT2
        obtain ⟨S', z1, z2⟩ := put_tree hT2 w hfull hKo hVo q7
        exact ⟨_, _, S', z1, by rw [ht]; exact z2⟩
    · left
      refine ⟨hno, by omega, ?_⟩
      refine ⟨_, _, k1.trans (k.trans (k3.trans (.head (.push (X (R : Nat)) b1 (P_push (by omega)) (by simp)) (.head (.two (yesB false) b2 ((X_less (by omega) (by omega)).trans (by rw [decide_eq_false hfull])) (by simp)) (.head (.ifF b3 (true_yes false) (by simp)) (.refl _)))))), b4, .inr ⟨1, rfl, rfl, rfl⟩, by simp, ?_, by simp, rfl, rfl⟩
      show u' + 4 + 1 + 1 + 1 < 1024
      omega
  · right
    have hlen := len_plug p' (.node i l r)
    have ht : t = plug p' (.node i l r) := h.symm
    have hij := hT.in_ i (by rw [ht, nodes_plug]; simp [T.nodes_eq])
    rw [← ht, hnn] at hlen
    simp only [List.length_nil, T.nodes_eq, List.length_append, List.length_cons] at hlen hu
    have hT2 := hT
    rw [ht] at hT2
    obtain ⟨e1, e2, e3⟩ := part_yes hT2.srt w hk
    have hyes : isK (prs M t.nodes) K = true := by rw [ht, e1]; exact (isK_yes (q := (M.k i, M.v i)) e2 hk).2.1
    refine ⟨.inl hyes, ?_⟩
    obtain ⟨s3a, s3b⟩ := seg_cut 1 44 rfl rfl s3
    obtain ⟨s3b, s3c⟩ := seg_cut 3 47 rfl rfl s3b
    obtain ⟨g1, g2, g3, g4, _⟩ := s3c
    have k3 := addr_of (f := 1) (st := [V]) (out := []) (mem := (v0 s).mem) (x0 := X (i : Nat)) (x2 := X (hc B p' : Nat)) (x3 := X (sd R p' : Nat)) (x4 := 0) (u := u' + 1) (nw := 0) hF hij.2 (by omega) s3b (by simp)
    have H2 := hT.H.set_v (j := i) (x := V) hij.1
    obtain ⟨z1, z2⟩ := put_same hT2 w hk hVo H2
    refine ⟨_, _, k1.trans (k.trans (.head (.arg 1 _ s3a.1 hV (by simp)) (k3.trans (.head (.write (B + 3 * i + 1) g1 hup (by omega) (by omega) (by simp)) (.head (.push (X (0 : Nat)) g2 (P_push (by decide)) (by simp)) (.head (.emit g3 (by simp)) (.refl _))))))), g4, .inl ⟨rfl, rfl, rfl⟩, by simp, ?_, by simp, ?_, ?_, ?_⟩
    · show u' + 1 + 3 + 1 + 1 + 1 < 1024
      omega
    · rw [hyes]
      rfl
    · intro c hcc
      exact updF_ne (by omega)
    · exact ⟨_, _, S, z1, by rw [ht]; exact z2⟩
end
end Go.Proofs.YtpboiggakehpoaaGreatDoor.Tr
namespace Go.Proofs.YtpboiggakehpoaaGreatDoor.Tr
open Num
section
variable {B R : Nat} {M : Tm} {mem : Nat → Nat} {p : List Fr} {t : T} {S : List Nat} {j x y K : Nat} {l r : T}
def delM (M : Tm) (j : Nat) (p : List Fr) : Tm :=
  { setLink M (M.a j + M.b j) p with sp := j, n := M.n - 1, a := updF (setLink M (M.a j + M.b j) p).a j M.sp, b := updF (setLink M (M.a j + M.b j) p).b j 0 }
def rest1 (l r : T) : T := match l.c with
  | .skip => r
  | _ => l
theorem rest1_eq : (∀ r, rest1 .nil r = r) ∧ ∀ i a b r, rest1 (.node i a b) r = .node i a b := ⟨fun _ => rfl, fun _ _ _ _ => rfl⟩
theorem del_form {mem' : Nat → Nat} (h : Form B R M mem (plug p (.node j l r)) S) (hlr : l = .nil ∨ r = .nil) (hH : Holds B R (delM M j p) mem') :
    Form B R (delM M j p) mem' (plug p (rest1 l r)) (j :: S) ∧ (delM M j p).k = M.k ∧ (delM M j p).v = M.v ∧ (rest1 l r).nodes = l.nodes ++ r.nodes := by
  obtain ⟨e1, e2, e3, e4⟩ := setLink_same M (M.a j + M.b j) p
  obtain ⟨n1, n2, n3⟩ := ups_nodup (List.nodup_append.1 h.nd).1
  obtain ⟨w1, w2, w3⟩ := (whole_plug M p (.node j l r)).1 h.W
  obtain ⟨v0, v1, v2, v3, v4⟩ := (rep_eq.2 _ _ _).1 w3
  have hr1 : (rest1 l r).nodes = l.nodes ++ r.nodes := by
    rcases hlr with rfl | rfl
    · rfl
    · cases l using T.cs <;> simp [rest1_eq, T.nodes_eq]
  have htop : (rest1 l r).top = M.a j + M.b j := by
    rcases hlr with rfl | rfl
    · rw [v1, v2]; simp [rest1_eq, T.top_eq]
    · rw [v1, v2]; cases l using T.cs <;> simp [rest1_eq, T.top_eq]
  have hjn : j ∈ (plug p (.node j l r)).nodes := by rw [nodes_plug]; simp [T.nodes_eq]
  have hju : j ∉ ups p := n3 j (by simp [T.nodes_eq])
  have hsub : ∀ i ∈ (rest1 l r).nodes, i ∈ (T.node j l r).nodes ∧ i ≠ j := by
    intro i hi
    rw [hr1] at hi
    refine ⟨by rcases List.mem_append.1 hi with q | q <;> simp [T.nodes_eq, q], fun e => ?_⟩
    subst e
    simp only [T.nodes_eq] at n2
    have := List.nodup_append.1 n2
    rcases List.mem_append.1 hi with q | q
    · exact this.2.2 i q i (by simp) rfl
    · exact (List.nodup_cons.1 this.2.1).1 q
  have hrep : Rep M (rest1 l r) := by
    rcases hlr with rfl | rfl
    · exact v4
    · cases l using T.cs with
      | nil => exact v4
      | node a b c => exact v3
  have hperm : (plug p (.node j l r)).nodes.Perm (j :: (plug p (rest1 l r)).nodes) := by
    rw [nodes_plug, nodes_plug, hr1]
    simp only [T.nodes_eq, List.append_assoc, List.cons_append]
    rw [← List.append_assoc, ← List.append_assoc]
    exact List.perm_middle
  have far : ∀ i, i ≠ j → i ∉ ups p → (delM M j p).a i = M.a i ∧ (delM M j p).b i = M.b i := fun i h1 h2 => by
    obtain ⟨a1, a2⟩ := setLink_far M (M.a j + M.b j) p h2
    exact ⟨(updF_ne h1).trans a1, (updF_ne h1).trans a2⟩
  have hnj : M.n + S.length ≤ R := h.top
  have hjr := h.rng j (List.mem_append_left _ hjn)
  have hlen := h.len
  have hpos : 0 < M.n := by rw [← hlen]; exact List.length_pos_of_mem hjn
  have hSd : ∀ i ∈ S, i ≠ j ∧ i ∉ ups p := fun i hi => ⟨fun e => (List.nodup_append.1 h.nd).2.2 j hjn i hi e.symm, fun q => (List.nodup_append.1 h.nd).2.2 i (ups_in q) i hi rfl⟩
  have hW1 : Whole (setLink M (rest1 l r).top p) (plug p (rest1 l r)) := Whole.put (M' := M) h.W (List.nodup_append.1 h.nd).1 (fun i _ => ⟨rfl, rfl⟩) rfl hrep (fun i hi => n3 i (hsub i hi).1)
  rw [htop] at hW1
  refine ⟨⟨hH, ?_, ?_, ?_, ?_, ?_, ?_, ?_, ?_, ?_⟩, e3, e4, hr1⟩
  · refine ⟨hW1.1, Rep.congr (M := setLink M (M.a j + M.b j) p) (fun i hi => ?_) hW1.2⟩
    have hij : i ≠ j := fun e => by
      have hnd := (hperm.nodup_iff.1 (List.nodup_append.1 h.nd).1)
      exact (List.nodup_cons.1 hnd).1 (e ▸ hi)
    exact ⟨updF_ne hij, updF_ne hij⟩
  · refine ⟨rfl, v0, updF_eq _ _ _, ?_⟩
    have e : (delM M j p).a j = M.sp := updF_eq _ _ _
    rw [e]
    exact h.ch.congr fun i hi => far i (hSd i hi).1 (hSd i hi).2
  · have h1 := h.nd
    rw [(hperm.append_right S).nodup_iff] at h1
    exact ((List.perm_middle (a := j) (l₁ := (plug p (rest1 l r)).nodes) (l₂ := S)).nodup_iff).2 h1
  · intro i hi
    have hi' : i ∈ (plug p (.node j l r)).nodes ++ S := by
      rw [(hperm.append_right S).mem_iff]
      exact ((List.perm_middle (a := j) (l₁ := (plug p (rest1 l r)).nodes) (l₂ := S)).mem_iff).1 hi
    have := h.rng i hi'
    show 1 ≤ i ∧ i ≤ M.n - 1 + (S.length + 1)
    omega
  · show M.n - 1 + (S.length + 1) ≤ R
    omega
  · intro i hi hiR
    have hi : M.n - 1 + (S.length + 1) < i := hi
    have hq : i ∉ ups p := fun q => by have := h.rng i (List.mem_append_left _ (ups_in q)); omega
    obtain ⟨a1, a2⟩ := far i (by omega) hq
    obtain ⟨b1, b2⟩ := h.fresh i (by omega) hiR
    exact ⟨a1.trans b1, a2.trans b2⟩
  · have := hperm.length_eq
    rw [hlen, List.length_cons] at this
    show _ = M.n - 1
    omega
  · intro i
    show okN ((setLink M (M.a j + M.b j) p).k i)
    rw [e3]
    exact h.ko i
  · intro i
    show okN ((setLink M (M.a j + M.b j) p).v i)
    rw [e4]
    exact h.vo i
end
section
variable {C : Cx} {B R : Nat} {M : Tm} {mem : Nat → Nat} {st out : List Nat} {q e u nw x0 x1 x2 x3 x4 i j y K V : Nat} {t l r : T} {S : List Nat} {p : List Fr}
theorem child_at {sv x : Nat} (hF : Fit C B R) (hj : 1 ≤ j ∧ j ≤ R) (hS : Seg C.code q (childS R (sv : Nat))) (hH : Holds B R M mem) (hs : (sv = 1 ∧ x = M.a j) ∨ (sv = R + 1 ∧ x = M.b j)) (hl : st.length ≤ 45) :
    Star C ⟨q, st, [x0, X ((B + 3 * j : Nat) : Int), x2, x3, x4], out, mem, u, nw⟩ ⟨q + 9, X (x : Nat) :: st, [x0, X ((B + 3 * j : Nat) : Int), x2, x3, x4], out, mem, u + 9, nw⟩ := by
  have hr := hF.r16
  obtain ⟨s1, s2⟩ := seg_split hS
  obtain ⟨h1, h2, h3, h4, h5, _⟩ := s2
  obtain ⟨m1, m2, m3⟩ := mix (hH.ba j) (hH.bb j) hr
  have hsv : 1 ≤ sv ∧ sv ≤ 17 := by omega
  have hx : (M.a j + (R + 1) * M.b j) / sv % (R + 1) = x := by
    rcases hs with ⟨rfl, rfl⟩ | ⟨rfl, rfl⟩
    · exact m2
    · exact m3
  refine (load_at (f := 2) hF hj.2 (by omega) s1 (hH.l j hj.1 hj.2) (by omega)).trans ?_
  refine .head (.push (X (sv : Nat)) h1 (P_push (by omega)) (by simp only [List.length_cons]; omega)) ?_
  refine .head (.two _ h2 rfl (by omega)) ?_
  refine .head (.one _ h3 rfl (by omega)) ?_
  refine .head (.push _ h4 (P_push (by omega)) (by simp only [List.length_cons]; omega)) ?_
  refine .head (.two _ h5 (div_mod m1 hsv hr hx) (by omega)) ?_
  exact .refl _
theorem lone_at (hF : Fit C B R) (hup : C.upd = true) (hH : Holds B R M mem) (hp : InR R p) (hj : 1 ≤ j ∧ j ≤ R) (hlk : link M p = j) (hab : M.a j + M.b j ≤ R ∧ M.a j + M.b j ≠ j) (hn : 0 < M.n) (hS : Seg C.code 123 (loneS B R)) :
    ∃ v, Star C ⟨123, [], [X (j : Nat), X ((B + 3 * j : Nat) : Int), X (hc B p : Nat), X (sd R p : Nat), x4], out, mem, u, nw⟩ v ∧ ci C.code v.pl = I 20 0 ∧ v.st = [] ∧ v.u = u + 49 ∧ v.nw = nw + 4 ∧ v.out = out ++ [X (1 : Nat)] ∧ Holds B R (delM M j p) v.mem ∧ ∀ c, c < C.lo ∨ C.hi ≤ c → v.mem c = mem c := by
  have hs := hF.small
  have hlo := hF.lo
  have hhi := hF.hi
  have hr := hF.r16
  obtain ⟨c1, c2, c3⟩ := hc_in hF hp
  obtain ⟨s1, s2⟩ := seg_cut 2 125 rfl rfl hS
  obtain ⟨s2, s3⟩ := seg_cut 9 134 rfl rfl s2
  obtain ⟨s3, s4⟩ := seg_cut 9 143 rfl rfl s3
  obtain ⟨s4, s5⟩ := seg_cut 8 151 rfl rfl s4
  obtain ⟨s5, s6⟩ := seg_cut 4 155 rfl rfl s5
  obtain ⟨s6, s7⟩ := seg_cut 3 158 rfl rfl s6
  obtain ⟨s7, s8⟩ := seg_cut 4 162 rfl rfl s7
  obtain ⟨s8, s9⟩ := seg_cut 8 170 rfl rfl s8
  obtain ⟨a1, a2, _⟩ := s1
  have hsd := sd_one (R := R) (p := p) hr
  have ho := (hole_num (p := p) hH hr).1
  have H1 := hH.set_hole (x := M.a j + M.b j) hp hab.1
  have ho1 := (hole_num (p := p) H1 hr).1
  have hnum := relink_num M R (M.a j + M.b j) p
  rw [hlk] at hnum
  have k1 := child_at (sv := 1) (x := M.a j) (st := [X (oldV R M p : Nat)]) (out := out) (x0 := X (j : Nat)) (x2 := X (hc B p : Nat)) (x3 := X (sd R p : Nat)) (x4 := x4) (u := u + 2) (nw := nw) hF hj s2 hH (.inl ⟨rfl, rfl⟩) (by simp)
  have k2 := child_at (sv := R + 1) (x := M.b j) (st := [X (M.a j : Nat), X (oldV R M p : Nat)]) (out := out) (x0 := X (j : Nat)) (x2 := X (hc B p : Nat)) (x3 := X (sd R p : Nat)) (x4 := x4) (u := u + 11) (nw := nw) hF hj s3 hH (.inr ⟨rfl, rfl⟩) (by simp)
  obtain ⟨b1, b2, b3, b4, b5, b6, b7, b8, _⟩ := s4
  have k3 : Star C ⟨143, [X (M.b j : Nat), X (M.a j : Nat), X (oldV R M p : Nat)], [X (j : Nat), X ((B + 3 * j : Nat) : Int), X (hc B p : Nat), X (sd R p : Nat), x4], out, mem, u + 20, nw⟩ ⟨151, [], [X (j : Nat), X ((B + 3 * j : Nat) : Int), X (hc B p : Nat), X (sd R p : Nat), x4], out, updF mem (hc B p) (X (oldV R (setLink M (M.a j + M.b j) p) p : Nat)), u + 28, nw + 1⟩ := by
    have hba := hH.ba j
    have hbb := hH.bb j
    refine .head (.two (X ((M.a j + M.b j : Nat) : Int)) b1 ((X_add (by omega) (by omega)).trans (congrArg X (by omega))) (by simp)) ?_
    refine .head (.get 0 _ b2 rfl (by simp)) ?_
    refine .head (.two (X (((M.a j + M.b j : Nat) : Int) - (j : Int))) b3 (X_sub (by omega) (by omega)) (by simp)) ?_
    refine .head (.get 3 _ b4 rfl (by simp)) ?_
    refine .head (.two (X ((((M.a j + M.b j : Nat) : Int) - (j : Int)) * (sd R p : Int))) b5 (X_mul (by omega) (by omega) (by omega) (by omega) (fun z => by omega)) (by simp)) ?_
    have hmul : ((((M.a j + M.b j : Nat) : Int) - (j : Int)) * (sd R p : Int)).natAbs ≤ 1000 := by
      rw [Int.natAbs_mul]
      have h1 : (((M.a j + M.b j : Nat) : Int) - (j : Int)).natAbs * ((sd R p : Int)).natAbs ≤ 16 * 17 := Nat.mul_le_mul (by omega) (by omega)
      omega
    refine .head (.two (X (oldV R (setLink M (M.a j + M.b j) p) p : Nat)) b6 ((X_add (by omega) (by omega)).trans (congrArg X hnum)) (by simp)) ?_
    refine .head (.get 2 _ b7 rfl (by simp)) ?_
    refine .head (.write (hc B p) b8 hup c1 c2 (by simp)) ?_
    exact .refl _
  obtain ⟨e1, e2, e3, e4⟩ := setLink_same M (M.a j + M.b j) p
  have hq4 : updF mem (hc B p) (X (oldV R (setLink M (M.a j + M.b j) p) p : Nat)) B = X (M.sp : Nat) := by rw [← e1]; exact H1.sp
  have k4 := fold_at (st := []) (out := out) (x0 := X (j : Nat)) (x1 := X ((B + 3 * j : Nat) : Int)) (x2 := X (hc B p : Nat)) (x3 := X (sd R p : Nat)) (x4 := x4) (u := u + 28) (nw := nw + 1) (c := B) (z := M.sp) hF (by omega) s5 hq4 hH.bs (by simp)
  have k5 := addr_of (f := 2) (st := [X (M.sp : Nat)]) (x0 := X (j : Nat)) (x2 := X (hc B p : Nat)) (x3 := X (sd R p : Nat)) (x4 := x4) (out := out) (mem := updF mem (hc B p) (X (oldV R (setLink M (M.a j + M.b j) p) p : Nat))) (u := u + 32) (nw := nw + 1) hF hj.2 (by omega) s6 (by simp)
  obtain ⟨d1, d2, d3, d4, _⟩ := s7
  have H2 := H1.set_l (j := j) (x := M.sp) (y := 0) hj.1 hH.bs (by omega)
  have H3 := H2.set_sp (x := j) hj.2
  rw [Nat.mul_zero] at H3
  have k6 : Star C ⟨158, [X ((B + 3 * j + 2 : Nat) : Int), X (M.sp : Nat)], [X (j : Nat), X ((B + 3 * j : Nat) : Int), X (hc B p : Nat), X (sd R p : Nat), x4], out, updF mem (hc B p) (X (oldV R (setLink M (M.a j + M.b j) p) p : Nat)), u + 35, nw + 1⟩ ⟨162, [], [X (j : Nat), X ((B + 3 * j : Nat) : Int), X (hc B p : Nat), X (sd R p : Nat), x4], out, updF (updF (updF mem (hc B p) (X (oldV R (setLink M (M.a j + M.b j) p) p : Nat))) (B + 3 * j + 2) (X ((M.sp + 0 : Nat) : Int))) B (X (j : Nat)), u + 39, nw + 3⟩ := by
    refine .head (.write (B + 3 * j + 2) d1 hup (by omega) (by omega) (by simp)) ?_
    refine .head (.get 0 _ d2 rfl (by simp)) ?_
    refine .head (.push (X (B : Nat)) d3 (P_push (by omega)) (by simp)) ?_
    refine .head (.write B d4 hup (by omega) (by omega) (by simp)) ?_
    exact .refl _
  have hbn := hH.bn
  have hn3 : ({ setLink M (M.a j + M.b j) p with sp := j, a := updF (setLink M (M.a j + M.b j) p).a j M.sp, b := updF (setLink M (M.a j + M.b j) p).b j 0 } : Tm).n = M.n := e2
  have hq7 : updF (updF (updF mem (hc B p) (X (oldV R (setLink M (M.a j + M.b j) p) p : Nat))) (B + 3 * j + 2) (X ((M.sp + 0 : Nat) : Int))) B (X (j : Nat)) (B + 1) = X (M.n : Nat) := by rw [← hn3]; exact H3.n
  have k7 := grow_at (st := []) (x0 := X (j : Nat)) (x1 := X ((B + 3 * j : Nat) : Int)) (x2 := X (hc B p : Nat)) (x3 := X (sd R p : Nat)) (x4 := x4) (out := out) (u := u + 39) (nw := nw + 3) (z := M.n) (z' := M.n - 1) (c := B + 1) (b := -1) hF hup (by omega) s8 hq7 (by omega) (by omega) (by decide) (by simp)
  have H4 := H3.set_n (x := M.n - 1) (by omega)
  obtain ⟨f1, f2, f3, _⟩ := s9
  refine ⟨_, .head (.get 2 _ a1 rfl (by simp)) (.head (.read (hc B p) _ a2 c1 c2 (hole_mem hH hp) (by simp)) (k1.trans (k2.trans (k3.trans (k4.trans (k5.trans (k6.trans (k7.trans (.head (.push (X (1 : Nat)) f1 (P_push (by decide)) (by simp)) (.head (.emit f2 (by simp)) (.refl _))))))))))), f3, rfl, rfl, rfl, rfl, H4, ?_⟩
  intro c hcc
  show updF (updF (updF (updF mem (hc B p) _) (B + 3 * j + 2) _) B _) (B + 1) _ c = mem c
  rw [updF_ne (by omega), updF_ne (by omega), updF_ne (by omega), updF_ne (by omega)]
theorem second_walk (hF : Fit C B R) (hS0 : Seg C.code 74 (seek B R 43)) (hS1 : Seg C.code 90 (childS R 1)) (hS2 : Seg C.code 99 [I 13 107, P 1, I 8 3]) (hS3 : Seg C.code 102 (nextS 74)) (hH : Holds B R M mem) (t : T) : ∀ (p : List Fr) (x0 x1 u : Nat), Whole M (plug p t) → (∀ j ∈ (plug p t).nodes, 1 ≤ j ∧ j ≤ R) → t ≠ .nil →
    ∃ p2 j r' rest u', plug p2 (.node j .nil r') = plug p t ∧ bef p2 = bef p ∧ aft p2 = rest ++ aft p ∧ t.nodes = j :: (r'.nodes ++ rest) ∧ u' = u + 33 * (p2.length - p.length) + 26 ∧ p.length ≤ p2.length ∧ (∀ k ∈ ups p, k ∈ ups p2) ∧ Star C ⟨74, [], [x0, x1, X (hc B p : Nat), X (sd R p : Nat), x4], out, mem, u, nw⟩ ⟨107, [], [X (j : Nat), X ((B + 3 * j : Nat) : Int), X (hc B p2 : Nat), X (sd R p2 : Nat), x4], out, mem, u', nw⟩ := by
  induction t using T.ind with
  | nil => intro p x0 x1 u _ _ h; exact absurd rfl h
  | node i l r ihl ihr =>
    intro p x0 x1 u hW hj _
    have hr := hF.r16
    obtain ⟨hi1, hi2⟩ := hj i (by rw [nodes_plug]; simp [T.nodes_eq])
    obtain ⟨_, hlink, hrep⟩ := (whole_plug M p (.node i l r)).1 hW
    have hlink : link M p = i := hlink
    have s0 := seek_in (st := []) (x0 := x0) (x1 := x1) (x4 := x4) (out := out) (u := u) (nw := nw) hF hS0 hH (inR_of hj) (by simp) hlink (by omega)
    have s1 := child_at (sv := 1) (x := M.a i) (st := []) (out := out) (x0 := X (i : Nat)) (x2 := X (hc B p : Nat)) (x3 := X (sd R p : Nat)) (x4 := x4) (u := u + 16) (nw := nw) hF ⟨hi1, hi2⟩ hS1 hH (.inl ⟨rfl, rfl⟩) (by simp)
    obtain ⟨a1, a2, a3, _⟩ := hS2
    have hba := hH.ba i
    cases l using T.cs with
    | nil =>
      have hz : M.a i = 0 := hrep.2.1
      rw [hz] at s1
      exact ⟨p, i, r, [], u + 26, rfl, rfl, rfl, by simp [T.nodes_eq], by omega, Nat.le_refl _, fun k hk => hk, s0.trans (s1.trans (.head (.unF 107 a1 (by rw [true_X (by decide)]; decide) (by simp)) (.refl _)))⟩
    | node i2 l2 r2 =>
      have hz : M.a i = i2 := hrep.2.1
      have hi0 : i2 ≠ 0 := hrep.2.2.2.1.1
      have s2 : Star C ⟨99, [X (M.a i : Nat)], [X (i : Nat), X ((B + 3 * i : Nat) : Int), X (hc B p : Nat), X (sd R p : Nat), x4], out, mem, u + 25, nw⟩ ⟨102, [], [X (i : Nat), X ((B + 3 * i : Nat) : Int), X (hc B p : Nat), X (1 : Nat), x4], out, mem, u + 28, nw⟩ := by
        refine .head (.unT a1 (by rw [true_X (by omega)]; exact decide_eq_true (by omega)) (by simp)) ?_
        refine .head (.push (X (1 : Nat)) a2 (P_push (by decide)) (by simp)) ?_
        refine .head (.set 3 a3 (by simp) (by simp)) ?_
        exact .refl _
      have s3 := s0.trans (s1.trans (s2.trans (next_at hF hi2 hS3 (by simp))))
      obtain ⟨p2, j, r', rest, u', q1, q2, q3, q4, q5, q6, q7, q8⟩ := ihl (.inl (i, r) :: p) (X (i : Nat)) (X ((B + 3 * i : Nat) : Int)) (u + 33) hW hj (T.node_ne _ _ _)
      rw [List.length_cons] at q5 q6
      refine ⟨p2, j, r', rest ++ i :: r.nodes, u', q1, q2, by rw [q3]; simp [aft], ?_, by omega, by omega, fun k hk => q7 k (by simp [ups, hk]), s3.trans q8⟩
      rw [T.nodes_eq.2, q4]
      simp
theorem del_ends {s : List Nat} (hF : Fit C B R) (hup : C.upd = true) (hC : C.code = delC B R) (hT : Tree B R M (v0 s).mem t S) (hK : C.args 0 = K) (hKo : okN K) :
    Ends C s 1 0 fun v => v.out = [X ((if isK (prs M t.nodes) K then 1 else 0 : Nat) : Int)] ∧ (∀ c, c < C.lo ∨ C.hi ≤ c → v.mem c = (v0 s).mem c) ∧ ∃ M' t' S', Tree B R M' v.mem t' S' ∧ prs M' t'.nodes = delS (prs M t.nodes) K := by
  have hseg : Seg C.code 0 (delC B R) := by rw [hC]; exact seg_whole _
  obtain ⟨s1, s2⟩ := seg_cut 4 4 rfl rfl hseg
  obtain ⟨s2, s3⟩ := seg_cut 39 43 rfl rfl s2
  obtain ⟨s3, s4⟩ := seg_cut 3 46 rfl rfl s3
  obtain ⟨s4, s5⟩ := seg_cut 9 55 rfl rfl s4
  obtain ⟨s5, s6⟩ := seg_cut 1 56 rfl rfl s5
  obtain ⟨s6, s7⟩ := seg_cut 9 65 rfl rfl s6
  obtain ⟨s7, s8⟩ := seg_cut 3 68 rfl rfl s7
  obtain ⟨s8, s9⟩ := seg_cut 3 71 rfl rfl s8
  obtain ⟨s9, sa⟩ := seg_cut 3 74 rfl rfl s9
  obtain ⟨sa, sb⟩ := seg_cut 16 90 rfl rfl sa
  obtain ⟨sb, sc⟩ := seg_cut 9 99 rfl rfl sb
  obtain ⟨sc, sd_⟩ := seg_cut 3 102 rfl rfl sc
  obtain ⟨sd_, se⟩ := seg_cut 5 107 rfl rfl sd_
  obtain ⟨se, sf⟩ := seg_cut 4 111 rfl rfl se
  obtain ⟨sf, sg⟩ := seg_cut 4 115 rfl rfl sf
  obtain ⟨sg, sh⟩ := seg_cut 4 119 rfl rfl sg
  obtain ⟨sh, sl⟩ := seg_cut 4 123 rfl rfl sh
  have hR := hF.r16
  have hsm := hF.small
  have hlo := hF.lo
  have hhi := hF.hi
  have k1 := begin_at (R := R) (mem := (v0 s).mem) (st := []) (out := []) (x0 := 0) (x1 := 0) (x2 := 0) (x3 := 0) (x4 := 0) (u := 0) (nw := 0) hF s1 (by simp)
  have hf := search_any (st := []) (out := []) (x4 := 0) (nw := 0) hF s2 hT.H hK hKo hT.ko (by simp) t [] 0 0 4 hT.W hT.srt hT.in_ (way_nil M K)
  have hnn := hT.len
  have hbn := hT.H.bn
  rcases hf with ⟨p', h, w, hl, y1, u', hu, k⟩ | ⟨p', i, l, r, h, w, hk, hl, u', hu, k⟩
  · have hlen := len_plug p' .nil
    have ht : t = plug p' .nil := h.symm
    rw [← ht, hnn] at hlen
    simp only [List.length_nil, T.nodes_eq] at hlen hu
    obtain ⟨e1, e2, e3⟩ := part_no w
    have hno : isK (prs M t.nodes) K = false := by rw [ht, e1]; exact (isK_no e2 e3).2
    obtain ⟨b1, b2, b3, _⟩ := s3
    refine ⟨_, _, k1.trans (k.trans (.head (.push (X (0 : Nat)) b1 (P_push (by decide)) (by simp)) (.head (.emit b2 (by simp)) (.refl _)))), b3, .inl ⟨rfl, rfl, rfl⟩, by simp, ?_, by simp, by rw [hno]; rfl, fun c _ => rfl, M, t, S, hT, ?_⟩
    · show u' + 1 + 1 < 1024
      omega
    · unfold delS
      rw [hno, if_neg Bool.false_ne_true]
  · have hlen := len_plug p' (.node i l r)
    have ht : t = plug p' (.node i l r) := h.symm
    rw [← ht, hnn] at hlen
    simp only [List.length_nil, T.nodes_eq, List.length_append, List.length_cons] at hlen hu
    have hT2 := hT
    rw [ht] at hT2
    have hij := hT.in_ i (by rw [ht, nodes_plug]; simp [T.nodes_eq])
    obtain ⟨e1, e2, e3⟩ := part_yes hT2.srt w hk
    obtain ⟨i1, i2, i3⟩ := isK_yes (Z := prs M (r.nodes ++ aft p')) (q := (M.k i, M.v i)) e2 hk
    have hyes : isK (prs M t.nodes) K = true := by rw [ht, e1]; exact i2
    have hdel : delS (prs M t.nodes) K = prs M (bef p' ++ l.nodes) ++ prs M (r.nodes ++ aft p') := by
      unfold delS
      rw [ht, e1, i2, if_pos rfl, i1, List.take_left, ← List.drop_drop, List.drop_left]
      rfl
    have hsub : ∀ M' : Tm, ∀ L : List Nat, prs M' L = delS (prs M t.nodes) K → Srt M' L := fun M' L hL => by
      have hs := hT2.srt
      have e5 : (prs M (plug p' (.node i l r)).nodes).Pairwise fun a b => place a.1 < place b.1 := (List.pairwise_map (R := fun a b : Nat × Nat => place a.1 < place b.1) (f := fun j => (M.k j, M.v j))).2 hs
      have e6 : (prs M' L).Pairwise fun a b => place a.1 < place b.1 := by
        rw [hL, hdel]
        refine e5.sublist ?_
        rw [e1]
        exact List.Sublist.append_left (List.sublist_cons_self _ _) _
      exact (List.pairwise_map (R := fun a b : Nat × Nat => place a.1 < place b.1) (f := fun j => (M'.k j, M'.v j))).1 e6
    have hW := hT2.W
    obtain ⟨w1, w2, w3⟩ := (whole_plug M p' (.node i l r)).1 hW
    obtain ⟨v0', v1, v2, v3, v4⟩ := (rep_eq.2 _ _ _).1 w3
    have hnd := (List.nodup_append.1 hT2.nd).1
    obtain ⟨n1, n2, n3⟩ := ups_nodup hnd
    have hinr : InR R p' := inR_of (t := .node i l r) (ht ▸ hT.in_)
    have hba := hT.H.ba i
    have hbb := hT.H.bb i
    have hpos : 0 < M.n := by omega
    have k2 := child_at (sv := 1) (x := M.a i) (st := []) (out := []) (x0 := X (i : Nat)) (x2 := X (hc B p' : Nat)) (x3 := X (sd R p' : Nat)) (x4 := 0) (u := u') (nw := 0) hF hij s4 hT.H (.inl ⟨rfl, rfl⟩) (by simp)
    have k4 := child_at (sv := R + 1) (x := M.b i) (st := []) (out := []) (x0 := X (i : Nat)) (x2 := X (hc B p' : Nat)) (x3 := X (sd R p' : Nat)) (x4 := 0) (u := u' + 10) (nw := 0) hF hij s6 hT.H (.inr ⟨rfl, rfl⟩) (by simp)
    obtain ⟨g1, g2, g3, _⟩ := s7
    have one : ∀ u2, u2 ≤ u' + 20 → l = .nil ∨ r = .nil → Star C ⟨46, [], [X (i : Nat), X ((B + 3 * i : Nat) : Int), X (hc B p' : Nat), X (sd R p' : Nat), 0], [], (v0 s).mem, u', 0⟩ ⟨123, [], [X (i : Nat), X ((B + 3 * i : Nat) : Int), X (hc B p' : Nat), X (sd R p' : Nat), 0], [], (v0 s).mem, u2, 0⟩ → Ends C s 1 0 fun v => v.out = [X ((if isK (prs M t.nodes) K then 1 else 0 : Nat) : Int)] ∧ (∀ c, c < C.lo ∨ C.hi ≤ c → v.mem c = (v0 s).mem c) ∧ ∃ M' t' S', Tree B R M' v.mem t' S' ∧ prs M' t'.nodes = delS (prs M t.nodes) K := by
      intro u2 hu2 hlr ks
      have hti : ∀ t' : T, t' = l ∨ t' = r → t'.top ≠ i := fun t' hq hz => by
        cases t' using T.cs with
        | nil => exact v0' hz.symm
        | node a b c =>
          have hm : i ∈ l.nodes ∨ i ∈ r.nodes := by
            have hz : a = i := hz
            rcases hq with hq | hq
            · left; rw [← hq, ← hz]; simp [T.nodes_eq]
            · right; rw [← hq, ← hz]; simp [T.nodes_eq]
          simp only [T.nodes_eq] at n2
          have h2 := List.nodup_append.1 n2
          rcases hm with hm | hm
          · exact h2.2.2 i hm i (by simp) rfl
          · exact (List.nodup_cons.1 h2.2.1).1 hm
      have hab : M.a i + M.b i ≤ R ∧ M.a i + M.b i ≠ i := by
        rcases hlr with rfl | rfl
        · have : M.a i = 0 := v1
          have := hti r (.inr rfl)
          rw [← v2] at this
          omega
        · have : M.b i = 0 := v2
          have := hti l (.inl rfl)
          rw [← v1] at this
          omega
      obtain ⟨v, q1, q2, q3, q4, q5, q6, q7, q8⟩ := lone_at (x4 := 0) (out := []) (u := u2) (nw := 0) hF hup hT.H hinr hij w2 hab hpos sl
      obtain ⟨f1, f2, f3, f4⟩ := del_form hT2.toForm hlr q7
      have hp2 : prs (delM M i p') (plug p' (rest1 l r)).nodes = delS (prs M t.nodes) K := by
        rw [hdel, nodes_plug, f4]
        unfold prs
        rw [f2, f3]
        simp
      refine ⟨v, _, k1.trans (k.trans (ks.trans q1)), q2, .inl ⟨rfl, rfl, rfl⟩, by rw [q3]; simp, by omega, by omega, by rw [q6, hyes]; rfl, q8, _, _, _, ⟨f1, hsub _ _ hp2⟩, hp2⟩
    by_cases hl0 : l = .nil
    · have hz : M.a i = 0 := by rw [v1, hl0]; rfl
      rw [hz] at k2
      exact one (u' + 10) (by omega) (.inl hl0) (k2.trans (.head (.unF 123 s5.1 (by rw [true_X (by decide)]; decide) (by simp)) (.refl _)))
    have hA : M.a i ≠ 0 := by
      rw [v1]
      cases l using T.cs with
      | nil => exact absurd rfl hl0
      | node a b c => exact v3.1
    have k3 : Star C ⟨46, [], [X (i : Nat), X ((B + 3 * i : Nat) : Int), X (hc B p' : Nat), X (sd R p' : Nat), 0], [], (v0 s).mem, u', 0⟩ ⟨65, [X (M.b i : Nat)], [X (i : Nat), X ((B + 3 * i : Nat) : Int), X (hc B p' : Nat), X (sd R p' : Nat), 0], [], (v0 s).mem, u' + 19, 0⟩ :=
      k2.trans (.head (.unT s5.1 (by rw [true_X (by omega)]; exact decide_eq_true (by omega)) (by simp)) k4)
    by_cases hr0 : r = .nil
    · have hz : M.b i = 0 := by rw [v2, hr0]; rfl
      rw [hz] at k3
      exact one (u' + 20) (by omega) (.inr hr0) (k3.trans (.head (.unF 123 g1 (by rw [true_X (by decide)]; decide) (by simp)) (.refl _)))
    have hBn : M.b i ≠ 0 := by
      rw [v2]
      cases r using T.cs with
      | nil => exact absurd rfl hr0
      | node a b c => exact v4.1
    -- both links: the pair that stands next behind it
    obtain ⟨d1, d2, d3, _⟩ := s9
    have k5 : Star C ⟨65, [X (M.b i : Nat)], [X (i : Nat), X ((B + 3 * i : Nat) : Int), X (hc B p' : Nat), X (sd R p' : Nat), 0], [], (v0 s).mem, u' + 19, 0⟩ ⟨74, [], [X (i : Nat), X ((B + 3 * i : Nat) : Int), X (hc B (.inr (i, l) :: p') : Nat), X (sd R (.inr (i, l) :: p') : Nat), X ((B + 3 * i : Nat) : Int)], [], (v0 s).mem, u' + 28, 0⟩ := by
      refine .head (.unT g1 (by rw [true_X (by omega)]; exact decide_eq_true (by omega)) (by simp)) ?_
      refine .head (.get 1 _ g2 rfl (by simp)) ?_
      refine .head (.set 4 g3 (by simp) (by simp)) ?_
      refine (addr_of (f := 2) hF hij.2 (by omega) s8 (by simp)).trans ?_
      refine .head (.set 2 d1 (by simp) (by simp)) ?_
      refine .head (.push (X (sd R (.inr (i, l) :: p') : Nat)) d2 ((P_push (by omega)).trans (congrArg X (by simp [sd]))) (by simp)) ?_
      refine .head (.set 3 d3 (by simp) (by simp)) ?_
      exact .refl _
    have hjin : ∀ j ∈ (plug (.inr (i, l) :: p') r).nodes, 1 ≤ j ∧ j ≤ R := fun j hj => hT.in_ j (by rw [ht]; exact hj)
    obtain ⟨p2, j, r', rest, u2, z1, z2, z3, z4, z5, z6, z7, z8⟩ := second_walk (x4 := X ((B + 3 * i : Nat) : Int)) (out := []) (nw := 0) hF sa sb sc sd_ hT.H r (.inr (i, l) :: p') (X (i : Nat)) (X ((B + 3 * i : Nat) : Int)) (u' + 28) hW hjin hr0
    have z1' : plug p2 (.node j .nil r') = plug p' (.node i l r) := z1
    have hjj := hT.in_ j (by rw [ht, ← z1', nodes_plug]; simp [T.nodes_eq])
    have hnd2 := hnd
    rw [← z1'] at hnd2
    obtain ⟨m1, m2, m3⟩ := ups_nodup hnd2
    have hiu : i ∈ ups p2 := z7 i (by simp [ups])
    have hijne : j ≠ i := fun e => m3 j (by simp [T.nodes_eq]) (e ▸ hiu)
    have k6 := load_at (f := 0) (st := []) (x0 := X (j : Nat)) (x2 := X (hc B p2 : Nat)) (x3 := X (sd R p2 : Nat)) (x4 := X ((B + 3 * i : Nat) : Int)) (out := []) (u := u2) (nw := 0) hF hjj.2 (by omega) se (hT.H.k j hjj.1 hjj.2) (by simp)
    obtain ⟨o1, o2, o3, o4, _⟩ := sf
    have H1 := hT.H.set_k (j := i) (x := M.k j) hij.1
    have k7 : Star C ⟨111, [M.k j], [X (j : Nat), X ((B + 3 * j : Nat) : Int), X (hc B p2 : Nat), X (sd R p2 : Nat), X ((B + 3 * i : Nat) : Int)], [], (v0 s).mem, u2 + 4, 0⟩ ⟨115, [], [X (j : Nat), X ((B + 3 * j : Nat) : Int), X (hc B p2 : Nat), X (sd R p2 : Nat), X ((B + 3 * i : Nat) : Int)], [], updF (v0 s).mem (B + 3 * i) (M.k j), u2 + 8, 1⟩ := by
      refine .head (.get 4 _ o1 rfl (by simp)) ?_
      refine .head (.push _ o2 (P_push (by decide)) (by simp)) ?_
      refine .head (.two (X ((B + 3 * i : Nat) : Int)) o3 ((X_add (by omega) (by omega)).trans (congrArg X (by omega))) (by simp)) ?_
      refine .head (.write (B + 3 * i) o4 hup (by omega) (by omega) (by simp)) ?_
      exact .refl _
    have k8 := load_at (f := 1) (st := []) (x0 := X (j : Nat)) (x2 := X (hc B p2 : Nat)) (x3 := X (sd R p2 : Nat)) (x4 := X ((B + 3 * i : Nat) : Int)) (out := []) (u := u2 + 8) (nw := 1) hF hjj.2 (by omega) sg (H1.v j hjj.1 hjj.2) (by simp)
    obtain ⟨r1, r2, r3, r4, _⟩ := sh
    have H2 := H1.set_v (j := i) (x := M.v j) hij.1
    have k9 : Star C ⟨119, [M.v j], [X (j : Nat), X ((B + 3 * j : Nat) : Int), X (hc B p2 : Nat), X (sd R p2 : Nat), X ((B + 3 * i : Nat) : Int)], [], updF (v0 s).mem (B + 3 * i) (M.k j), u2 + 12, 1⟩ ⟨123, [], [X (j : Nat), X ((B + 3 * j : Nat) : Int), X (hc B p2 : Nat), X (sd R p2 : Nat), X ((B + 3 * i : Nat) : Int)], [], updF (updF (v0 s).mem (B + 3 * i) (M.k j)) (B + 3 * i + 1) (M.v j), u2 + 16, 2⟩ := by
      refine .head (.get 4 _ r1 rfl (by simp)) ?_
      refine .head (.push _ r2 (P_push (by decide)) (by simp)) ?_
      refine .head (.two (X ((B + 3 * i + 1 : Nat) : Int)) r3 ((X_add (by omega) (by omega)).trans (congrArg X (by omega))) (by simp)) ?_
      refine .head (.write (B + 3 * i + 1) r4 hup (by omega) (by omega) (by simp)) ?_
      exact .refl _
    have hF2 : Form B R { M with k := updF M.k i (M.k j), v := updF M.v i (M.v j) } (updF (updF (v0 s).mem (B + 3 * i) (M.k j)) (B + 3 * i + 1) (M.v j)) (plug p2 (.node j .nil r')) S := by
      have hf1 := hT2.toForm
      rw [← z1'] at hf1
      refine ⟨H2, ⟨hf1.W.1, Rep.congr (M := M) (fun _ _ => ⟨rfl, rfl⟩) hf1.W.2⟩, Chain.congr (M := M) (fun _ _ => ⟨rfl, rfl⟩) hf1.ch, hf1.nd, hf1.rng, hf1.top, hf1.fresh, hf1.len, fun c => ?_, fun c => ?_⟩
      · show okN (updF M.k i (M.k j) c)
        unfold updF
        split
        · exact hT.ko j
        · exact hT.ko c
      · show okN (updF M.v i (M.v j) c)
        unfold updF
        split
        · exact hT.vo j
        · exact hT.vo c
    obtain ⟨y1, y2, y3⟩ := (whole_plug _ p2 (.node j .nil r')).1 hF2.W
    have ha0 : M.a j = 0 := y3.2.1
    have hb0 : M.b j = r'.top := y3.2.2.1
    have hab : M.a j + M.b j ≤ R ∧ M.a j + M.b j ≠ j := by
      have hbb2 := hT.H.bb j
      refine ⟨by omega, fun e => ?_⟩
      have e9 : r'.top = j := by omega
      cases r' using T.cs with
      | nil => exact absurd e9 (by show ¬ 0 = j; omega)
      | node a b c =>
        have e9 : a = j := e9
        simp only [T.nodes_eq, List.nil_append] at m2
        exact (List.nodup_cons.1 m2).1 (by rw [e9]; simp)
    have hinr2 : InR R p2 := inR_of (t := .node j .nil r') (by rw [z1']; exact fun k hk => hT.in_ k (by rw [ht]; exact hk))
    obtain ⟨v, q1, q2, q3, q4, q5, q6, q7, q8⟩ := lone_at (M := { M with k := updF M.k i (M.k j), v := updF M.v i (M.v j) }) (x4 := X ((B + 3 * i : Nat) : Int)) (out := []) (u := u2 + 16) (nw := 2) hF hup H2 hinr2 hjj y2 hab hpos sl
    obtain ⟨f1, f2, f3, f4⟩ := del_form hF2 (.inl rfl) q7
    have hlen2 := len_plug p2 (.node j .nil r')
    rw [z1', ← ht, hnn] at hlen2
    simp only [T.nodes_eq, List.length_append, List.length_cons, List.length_nil] at hlen2
    have hp2 : prs (delM { M with k := updF M.k i (M.k j), v := updF M.v i (M.v j) } j p2) (plug p2 (rest1 .nil r')).nodes = delS (prs M t.nodes) K := by
      have hbi : bef p2 = (bef p' ++ l.nodes) ++ [i] := by rw [z2]; simp [bef]
      have hai : aft p2 = rest ++ aft p' := z3
      have hnd3 := hnd
      rw [nodes_plug] at hnd3
      have hnd4 : (bef p' ++ l.nodes ++ i :: (r.nodes ++ aft p')).Nodup := by simpa [T.nodes_eq] using hnd3
      have hB1 : ∀ c ∈ bef p' ++ l.nodes, c ≠ i := fun c hc => (List.nodup_append.1 hnd4).2.2 c hc i (by simp)
      have hA1 : ∀ c ∈ r.nodes ++ aft p', c ≠ i := fun c hc e => (List.nodup_cons.1 (List.nodup_append.1 hnd4).2.1).1 (e ▸ hc)
      have mm : ∀ L : List Nat, (∀ c ∈ L, c ≠ i) → (L.map fun c => (updF M.k i (M.k j) c, updF M.v i (M.v j) c)) = prs M L := fun L hL => List.map_congr_left fun c hc => by rw [updF_ne (hL c hc), updF_ne (hL c hc)]
      rw [hdel, nodes_plug, f4, hbi, hai, z4]
      unfold prs
      rw [f2, f3]
      simp only [T.nodes_eq, List.nil_append, List.map_append, List.map_cons, List.map_nil, updF_eq]
      rw [← List.map_append, mm _ hB1]
      have e7 : r.nodes = j :: (r'.nodes ++ rest) := z4
      have e8 : ((r'.nodes ++ (rest ++ aft p')).map fun c => (updF M.k i (M.k j) c, updF M.v i (M.v j) c)) = prs M (r'.nodes ++ (rest ++ aft p')) := mm _ fun c hc => hA1 c (by rw [e7]; simp only [List.mem_append, List.mem_cons] at hc ⊢; grind)
      rw [List.map_append, List.map_append] at e8
      rw [e8]
      simp [prs]
    refine ⟨v, _, k1.trans (k.trans (k3.trans (k5.trans (z8.trans (k6.trans (k7.trans (k8.trans (k9.trans q1)))))))), q2, .inl ⟨rfl, rfl, rfl⟩, by rw [q3]; simp, ?_, by omega, by rw [q6, hyes]; rfl, ?_, _, _, _, ⟨f1, hsub _ _ hp2⟩, hp2⟩
    · rw [List.length_cons] at z5 z6
      omega
    · intro c hcc
      rw [q8 c hcc, updF_ne (by omega), updF_ne (by omega)]
end
end Go.Proofs.YtpboiggakehpoaaGreatDoor.Tr
namespace Go.Proofs.YtpboiggakehpoaaGreatDoor.Tr
open Num As
def Has (B R : Nat) (s : List Nat) (L : Prs) : Prop := ∃ M t S, Tree B R M (v0 s).mem t S ∧ prs M t.nodes = L
structure Lies (a b e : Int) (B R cells n : Nat) : Prop where
  cfg : Md.cfgB a b 1024 e = true
  n : (n : Int) = a
  e : 8 ≤ e
  room : (R : Int) = min 16 (((cells : Int) - 4) / 3)
  c7 : 7 ≤ cells
  fit : (B : Int) + cells ≤ a
structure Ran (s : List Nat) (m : Mac) (B cells : Nat) (how cod : Int) (out : List Nat) : Prop where
  how : m.how = how
  cod : m.cod = cod
  err : m.err = 0
  out : m.out = out
  used : m.used ≤ 1024
  few : m.buf.length ≤ 8
  rd : ∀ t ∈ m.reads, (B : Int) ≤ t.1 ∧ t.1 < (B : Int) + cells
  bf : ∀ t ∈ m.buf, (B : Int) ≤ t.1 ∧ t.1 < (B : Int) + cells
  rest : Rest m
section
variable {a b e : Int} {B R cells : Nat} {s l : List Nat} {L : Prs}
theorem Lies.r (h : Lies a b e B R cells s.length) : 1 ≤ R ∧ R ≤ 16 ∧ B + 3 * R + 2 < B + cells ∧ (B : Int) + cells ≤ 256 := by
  have h1 := h.room
  have h2 := h.c7
  have h3 := h.fit
  have h4 := (Md.cfgB_iff.1 h.cfg).1
  omega
theorem Lies.good (h : Lies a b e B R cells s.length) (hl : l.length ≤ 8) : goodB a b 1024 e s.length l.length = true := by
  unfold goodB
  rw [h.cfg, decide_eq_true h.n, decide_eq_true hl]
  rfl
theorem Lies.fits (h : Lies a b e B R cells s.length) (t : Int) (cs : List Ins) : Fit (cxOf a 1024 e t cs l B (B + cells)) B R := by
  have h1 := h.r
  have h3 := h.fit
  have h4 := (Md.cfgB_iff.1 h.cfg).1
  refine ⟨⟨?_, h4.2⟩, Nat.le_refl _, ?_, h1.1, h1.2.1⟩
  · show ((B + cells : Nat) : Int) ≤ a
    omega
  · show B + 3 * R + 2 < B + cells
    exact h1.2.2.1
theorem ran_of (h : Lies a b e B R cells s.length) (hl8 : l.length ≤ 8) (hl : ∀ x ∈ l, x < 18446744073709551616) (hs : okS s) {t : Int} {cs : List Ins} (hk : checkB t cs = true) (hx : ∀ k, k < cs.length → (ci cs k).x < 18446744073709551616) {how cod : Int} {Q : Vm → Prop} (hE : Ends (cxOf a 1024 e t cs l B (B + cells)) s how cod Q) :
    ∃ v, Q v ∧ Ran s (runR a b 1024 e t cs l s) B cells how cod v.out ∧ (runR a b 1024 e t cs l s).buf.length ≤ v.nw ∧ (how = 1 → ∀ i, i < s.length → (aftS s (runR a b 1024 e t cs l s)).getD i 0 = if i < B + cells then v.mem i else s.getD i 0) := by
  obtain ⟨v, i, h1, h2, h3, h4, h5, h6, h7⟩ := hE
  have hr := run_res (h.good hl8) hk hx hl hs (h.fits t cs).ok h1 h2 h3 h4 (by omega) (by have := h.e; omega)
  refine ⟨v, h7, ⟨hr.how, hr.cod, hr.err, hr.out, by rw [hr.used]; omega, Nat.le_trans hr.few h6, fun q hq => ?_, fun q hq => ?_, hr.rest⟩, hr.few, fun hh i hi => ?_⟩
  · have := hr.rd q hq
    have e1 : ((cxOf a 1024 e t cs l B (B + cells)).hi : Int) = (B : Int) + cells := by show ((B + cells : Nat) : Int) = _; omega
    rw [e1] at this
    exact this
  · have := hr.bf q hq
    have e1 : ((cxOf a 1024 e t cs l B (B + cells)).hi : Int) = (B : Int) + cells := by show ((B + cells : Nat) : Int) = _; omega
    rw [e1] at this
    exact this
  · subst hh
    exact hr.aft hi
theorem check_of {t : Int} {ops : List O} {cs : List Ins} (h1 : (bsOf t ops).filled.map fixI = cs) (h2 : (bsOf t ops).ans = 0) : checkB t cs = true := by
  have ht : (bsOf t ops).tag = t := (fold_tag ops _).trans (labs_len 10 t).2.2
  unfold Bs.ans at h2
  split at h2
  · rw [ht, ← checkE_fix, h1] at h2
    unfold checkE at h2
    split at h2
    · assumption
    · cases h2
  · cases h2
theorem small_of {ops : List O} {t : Int} {cs : List Ins} (h1 : (bsOf t ops).filled.map fixI = cs) (hb : ∀ i ∈ (bsOf t ops).filled, i.x < 18446744073709551616) : ∀ k, k < cs.length → (ci cs k).x < 18446744073709551616 := by
  intro k hk
  have hm : ci cs k ∈ cs := by unfold ci; rw [List.getD_eq_getElem?_getD, List.getElem?_eq_getElem hk]; exact List.getElem_mem hk
  rw [← h1] at hm
  obtain ⟨i, hi, e⟩ := List.mem_map.1 hm
  rw [← h1, ← e]
  exact fixB_lt (hb i hi)
theorem v0_mem {i : Nat} (hi : i < s.length) : (v0 s).mem i = s.getD i 0 := by
  show Sx.getV s (i : Nat) = _
  unfold Sx.getV
  rw [Sx.hasN_nat, decide_eq_true hi, if_pos rfl, Int.toNat_natCast]
end
end Go.Proofs.YtpboiggakehpoaaGreatDoor.Tr
