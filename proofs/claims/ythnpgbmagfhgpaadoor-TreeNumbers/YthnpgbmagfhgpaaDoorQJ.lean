/- stage 20 (tree): the seven programs -/
import Derived.Test.YthnpgbmagfhgpaaDoorQI
namespace Go.Proofs.YthnpgbmagfhgpaaDoor.Tr
open Go.ChangeShapes Go.WideShapes Go.ChangeAt Go.RowKit Num Go.Maps As
open Go.ChangeMaps Go.MapKept
attribute [local go_sem] run_store_float frombits_run bits_run

/-- a program that was made: its tag, its instructions -/
def PgC (W : World) (t : Int) (cs : List Ins) (e : Ending) (w' : World) : Prop := ∃ p n c, e = .returned (.agg #[.int .i64 t, .slice p n c]) ∧ Hid (n = cs.length ∧ RowW 63 3 w' p c n (codC cs) ∧ Below W.heap.size W w')
theorem bs_len {t : Int} {l : List O} {cs : List Ins} (h : (bsOf t l).filled.map fixI = cs) : (bsOf t l).code.length = cs.length := by rw [← h, List.length_map, filled_len]
def plotO (B R : Int) : Obj := .cells #[.int .i64 B, .int .i64 R] 33
def pg0 : Obj := .cells #[.int .i64 0, .slice none 0 0] 24
def pgW (w : World) (B R : Int) : World := (w.alloc (plotO B R)).alloc pg0
theorem pgW_size (w : World) (B R : Int) : (pgW w B R).heap.size = w.heap.size + 2 := by simp [pgW]
theorem pgW_bl (w : World) (B R : Int) : Below w.heap.size w (pgW w B R) := (bl1 w _).trans ((bl1 _ _).mono (by simp))
theorem pg_cells (w : World) (B R : Int) (u : World) (k : Below (pgW w B R).heap.size (pgW w B R) u) : (u.cell? ⟨w.heap.size, 0, none⟩ = some (.int .i64 B) ∧ u.cell? ⟨w.heap.size, 1, none⟩ = some (.int .i64 R)) ∧ (w.heap.size + 1 < u.heap.size ∧ u.cell? ⟨w.heap.size + 1, 0, none⟩ = some (.int .i64 0) ∧ u.cell? ⟨w.heap.size + 1, 1, none⟩ = some (.slice none 0 0) ∧ u.frozen? ⟨w.heap.size + 1, 0, none⟩ = false ∧ u.frozen? ⟨w.heap.size + 1, 1, none⟩ = false) := by
  have h1 : (pgW w B R).heap[w.heap.size + 1]? = some pg0 := by
    have := heap_alloc_new (w.alloc (plotO B R)) pg0
    simpa [pgW] using this
  have h0 : (pgW w B R).heap[w.heap.size]? = some (plotO B R) := (Below.heap_alloc _ _ _ (by simp)).trans (heap_alloc_new w _)
  have hs : (pgW w B R).heap.size = w.heap.size + 2 := by simp [pgW]
  have a := cells2_of ((k.block _ (by omega)).trans h0)
  have hb := (k.block _ (by omega)).trans h1
  have b := cells2_of hb
  exact ⟨⟨a.1, a.2.1⟩, b.2.2, b.1, b.2.1, frozen_of_row _ _ 0 _ _ hb, frozen_of_row _ _ 1 _ _ hb⟩
/-- the program is laid into the result -/
theorem pg_end {w u : World} {B R t : Int} {p : Option Addr} {n c : Nat} {cs : List Ins} (k : Below (pgW w B R).heap.size (pgW w B R) u) (hr : RowW 63 3 u p c n (codC cs)) :
    ((u.setCell ⟨w.heap.size + 1, 0, none⟩ (.int .i64 t)).setCell ⟨w.heap.size + 1, 1, none⟩ (.slice p n c)).heap[w.heap.size + 1]? = some (.cells #[.int .i64 t, .slice p n c] 24 (0, 0)) ∧ RowW 63 3 ((u.setCell ⟨w.heap.size + 1, 0, none⟩ (.int .i64 t)).setCell ⟨w.heap.size + 1, 1, none⟩ (.slice p n c)) p c n (codC cs) ∧ Below w.heap.size w ((u.setCell ⟨w.heap.size + 1, 0, none⟩ (.int .i64 t)).setCell ⟨w.heap.size + 1, 1, none⟩ (.slice p n c)) := by
  have h1 : (pgW w B R).heap[w.heap.size + 1]? = some pg0 := by
    have := heap_alloc_new (w.alloc (plotO B R)) pg0
    simpa [pgW] using this
  have hs : (pgW w B R).heap.size = w.heap.size + 2 := by simp [pgW]
  have hb := (k.block _ (by omega)).trans h1
  have t4 := (As.turn_set (w.heap.size + 1) 0 (.int .i64 t) u).trans (As.turn_set (w.heap.size + 1) 1 (.slice p n c) _)
  have hbw : Below w.heap.size w (pgW w B R) := (bl1 w _).trans ((bl1 _ _).mono (by simp))
  exact ⟨(heap_setCell_same _ _ 1 _ _ _ (heap_setCell_same _ _ 0 _ _ _ hb)).trans rfl, hr.keep (t4.kept (fun x hx z => by
    obtain ⟨arr, e⟩ := hr.blk hx
    rw [show x = w.heap.size + 1 by simpa using z] at e
    exact ne_ty e hb (by decide) rfl) hr.blw), (hbw.trans (k.mono hbw.size)).trans (t4.below (fun i hi => by simp at hi; omega) (Nat.le_trans hbw.size k.size))⟩
section
variable {w : World} {B R : Int}

set_option maxHeartbeats 2000000 in
set_option maxRecDepth 100000 in
theorem g_pget (hB : 0 ≤ B ∧ B ≤ 256) (hR : 0 ≤ R ∧ R ≤ 16) (hT : Shaped5 w) : Calls Tryd.prog 6 #[.agg #[.int .i64 B, .int .i64 R]] w fun e w' => PgC w 1 (getC B R) e w' := by
  have A : Hid (Acc (pgW w B R) (pgW w B R) []) := acc_nil (Below.refl _ _)
  have HT : Hid (Shaped5 w) := hT
  clear hT
  go_enter Tryd.func6, Tryd.ntmps6
  go_wp2_with (first
    | (go_at_call 14; refine (g_search hB hR _).mono ?_; rintro e u ⟨g, n, c, rfl, h⟩; replace A := Lib.hid (A.out.more h.out); clear h)
    | (go_at_call 15; refine (g_mark _ _).mono ?_; rintro e u ⟨g, n, c, rfl, h⟩; replace A := Lib.hid (A.out.more h.out); clear h)
    | (go_at_call 16; refine (g_load _ _ _).mono ?_; rintro e u ⟨g, n, c, rfl, h⟩; replace A := Lib.hid (A.out.more h.out); clear h)
    | (go_at_call 17; refine (g_emit _).mono ?_; rintro e u ⟨g, n, c, rfl, h⟩; replace A := Lib.hid (A.out.more h.out); clear h)
    | (go_at_call 18; refine (g_halt _).mono ?_; rintro e u ⟨g, n, c, rfl, h⟩; replace A := Lib.hid (A.out.more h.out); clear h)
    | (go_at_call 13; refine (g_program 1 (A.out.parts rfl) rfl (Nat.le_of_ble_eq_true rfl) (Nat.le_of_ble_eq_true rfl) (Nat.le_of_ble_eq_true rfl) (get_wf B R) (HT.out.on ((pgW_bl w B R).trans (((A.out.on (bl1 _ _)).bl).mono (by rw [pgW_size]; omega)))) (get_ans B R)).mono ?_; rintro e u ⟨p, n, c, rfl, hZ⟩; have HBL := Lib.hid (A.out.bl.trans (((bl1 _ _).trans (hZ.out.2.2.mono (by simp))).mono A.out.bl.size)); obtain ⟨⟨x0, x1⟩, y0, y1, y2, y3, y4⟩ := pg_cells w B R _ HBL.out))
  obtain ⟨f1, f2, f3⟩ := hZ.out
  change RowW 63 3 u p c n (codC ((bsOf 1 (getO B R).flatten).filled.map fixI)) at f2
  change n = (bsOf 1 (getO B R).flatten).code.length at f1
  rw [get_code] at f2
  obtain ⟨z1, z2, z3⟩ := pg_end (t := 1) HBL.out f2
  exact pg_back rfl (w.heap.size + 1) 1 p n c rfl z1 rfl ⟨p, n, c, rfl, f1.trans (bs_len (get_code B R)), z2, z3⟩

set_option maxHeartbeats 2000000 in
set_option maxRecDepth 100000 in
theorem g_pput (hB : 0 ≤ B ∧ B ≤ 256) (hR : 0 ≤ R ∧ R ≤ 16) (hT : Shaped5 w) : Calls Tryd.prog 7 #[.agg #[.int .i64 B, .int .i64 R]] w fun e w' => PgC w 2 (putCd B R) e w' := by
  have HB : Hid (∀ u, Below (pgW w B R).heap.size (pgW w B R) u → u.cell? ⟨w.heap.size, 0, none⟩ = some (.int .i64 B) ∧ u.cell? ⟨w.heap.size, 1, none⟩ = some (.int .i64 R)) := fun u k => (pg_cells w B R u k).1
  have A : Hid (Acc (pgW w B R) ((pgW w B R).drew) []) := acc_nil ((Same.drew _).below _)
  have HT : Hid (Shaped5 w) := hT
  clear hT
  go_enter Tryd.func7, Tryd.ntmps7
  go_wp2_with fail
  refine wp_region_seqE (fun u => u.cell? ⟨w.heap.size, 0, none⟩ = some (.int .i64 B) ∧ u.cell? ⟨w.heap.size, 1, none⟩ = some (.int .i64 R)) ((0, true) :: (8, true) :: (9, true) :: (12, true) :: (19, true) :: (20, true) :: (26, true) :: (27, true) :: (34, true) :: (37, true) :: (50, true) :: (54, true) :: (13, true) :: (1, false) :: (2, false) :: (3, false) :: (4, false) :: (5, false) :: (6, false) :: (7, false) :: (10, false) :: (11, false) :: (14, false) :: (15, false) :: (16, false) :: (17, false) :: (18, false) :: (21, false) :: (22, false) :: (23, false) :: (24, false) :: (25, false) :: (28, false) :: (29, false) :: (30, false) :: (31, false) :: (32, false) :: (33, false) :: (35, false) :: (36, false) :: (38, false) :: (39, false) :: (40, false) :: (41, false) :: (42, false) :: (43, false) :: (44, false) :: (45, false) :: (46, false) :: (47, false) :: (48, false) :: (49, false) :: (51, false) :: (52, false) :: (53, false) :: (55, false) :: (56, false) :: (57, false) :: (58, false) :: (59, false) :: []) follows (by kernel_rfl) (fun _ _ _ _ _ h => h) (HB.out _ ((Same.drew _).below _)) ?_
  (repeat (refine wpSeqE_take (v := ?_) rfl (by rfl) (fun wq hSq => ?_) ?_; rotate_left; (focus ((try dsimp only at hSq); go_simp; try with_reducible rfl)); simp only [Act.put, List.setIfInBounds_toArray, List.set_cons_zero, List.set_cons_succ]))
  (refine wpSeqE_do rfl (by rfl) (fun KK hK => ?_); go_simp)
  refine (g_search hB hR _).mono ?_; rintro e u ⟨g, n, c, rfl, h⟩; replace A := Lib.hid (A.out.more h.out); clear h
  refine hK.out _ _ (fun _ => HB.out _ A.out.bl) ?_
  (clear hK KK; try simp only [Act.put, List.setIfInBounds_toArray, List.set_cons_zero, List.set_cons_succ])
  (repeat (refine wpSeqE_take (v := ?_) rfl (by rfl) (fun wq hSq => ?_) ?_; rotate_left; (focus ((try dsimp only at hSq); go_simp; try with_reducible rfl)); simp only [Act.put, List.setIfInBounds_toArray, List.set_cons_zero, List.set_cons_succ]))
  (refine wpSeqE_do rfl (by rfl) (fun KK hK => ?_); go_simp)
  refine (g_mark _ _).mono ?_; rintro e u ⟨g, n, c, rfl, h⟩; replace A := Lib.hid (A.out.more h.out); clear h
  refine hK.out _ _ (fun _ => HB.out _ A.out.bl) ?_
  (clear hK KK; try simp only [Act.put, List.setIfInBounds_toArray, List.set_cons_zero, List.set_cons_succ])
  (repeat (refine wpSeqE_take (v := ?_) rfl (by rfl) (fun wq hSq => ?_) ?_; rotate_left; (focus ((try dsimp only at hSq); go_simp; try with_reducible rfl)); simp only [Act.put, List.setIfInBounds_toArray, List.set_cons_zero, List.set_cons_succ]))
  (refine wpSeqE_do rfl (by rfl) (fun KK hK => ?_); go_simp)
  refine (g_arg _ _).mono ?_; rintro e u ⟨g, n, c, rfl, h⟩; replace A := Lib.hid (A.out.more h.out); clear h
  refine hK.out _ _ (fun _ => HB.out _ A.out.bl) ?_
  (clear hK KK; try simp only [Act.put, List.setIfInBounds_toArray, List.set_cons_zero, List.set_cons_succ])
  (repeat (refine wpSeqE_take (v := ?_) rfl (by rfl) (fun wq hSq => ?_) ?_; rotate_left; (focus ((try dsimp only at hSq); go_simp; try with_reducible rfl)); simp only [Act.put, List.setIfInBounds_toArray, List.set_cons_zero, List.set_cons_succ]))
  (refine wpSeqE_do rfl (by rfl) (fun KK hK => ?_); go_simp)
  refine hK.out _ _ (fun _ => HB.out _ (A.out.on (bl1 _ _)).bl) ?_
  (clear hK KK; try simp only [Act.put, List.setIfInBounds_toArray, List.set_cons_zero, List.set_cons_succ])
  (repeat (refine wpSeqE_take (v := ?_) rfl (by rfl) (fun wq hSq => ?_) ?_; rotate_left; (focus ((try dsimp only at hSq); go_simp; try with_reducible rfl)); simp only [Act.put, List.setIfInBounds_toArray, List.set_cons_zero, List.set_cons_succ]))
  (refine wpSeqE_do rfl (by rfl) (fun KK hK => ?_); go_simp)
  refine (g_store ((A.out.take 1).parts rfl) rfl (Nat.le_of_ble_eq_true rfl) (Nat.le_of_ble_eq_true rfl) (Nat.le_of_ble_eq_true rfl) _ _).mono ?_; rintro e u ⟨g, n, c, rfl, h⟩; replace A := Lib.hid ((A.out.drop 1).over h.out); clear h
  refine hK.out _ _ (fun _ => HB.out _ A.out.bl) ?_
  (clear hK KK; try simp only [Act.put, List.setIfInBounds_toArray, List.set_cons_zero, List.set_cons_succ])
  (repeat (refine wpSeqE_take (v := ?_) rfl (by rfl) (fun wq hSq => ?_) ?_; rotate_left; (focus ((try dsimp only at hSq); go_simp; try with_reducible rfl)); simp only [Act.put, List.setIfInBounds_toArray, List.set_cons_zero, List.set_cons_succ]))
  (refine wpSeqE_do rfl (by rfl) (fun KK hK => ?_); go_simp)
  refine (g_tell _ _).mono ?_; rintro e u ⟨g, n, c, rfl, h⟩; replace A := Lib.hid (A.out.more h.out); clear h
  refine hK.out _ _ (fun _ => HB.out _ A.out.bl) ?_
  (clear hK KK; try simp only [Act.put, List.setIfInBounds_toArray, List.set_cons_zero, List.set_cons_succ])
  (repeat (refine wpSeqE_take (v := ?_) rfl (by rfl) (fun wq hSq => ?_) ?_; rotate_left; (focus ((try dsimp only at hSq); go_simp; try with_reducible rfl)); simp only [Act.put, List.setIfInBounds_toArray, List.set_cons_zero, List.set_cons_succ]))
  (refine wpSeqE_do rfl (by rfl) (fun KK hK => ?_); go_simp)
  refine (g_mark _ _).mono ?_; rintro e u ⟨g, n, c, rfl, h⟩; replace A := Lib.hid (A.out.more h.out); clear h
  refine hK.out _ _ (fun _ => HB.out _ A.out.bl) ?_
  (clear hK KK; try simp only [Act.put, List.setIfInBounds_toArray, List.set_cons_zero, List.set_cons_succ])
  (repeat (refine wpSeqE_take (v := ?_) rfl (by rfl) (fun wq hSq => ?_) ?_; rotate_left; (focus ((try dsimp only at hSq); go_simp; try with_reducible rfl)); simp only [Act.put, List.setIfInBounds_toArray, List.set_cons_zero, List.set_cons_succ]))
  (refine wpSeqE_do rfl (by rfl) (fun KK hK => ?_); go_simp)
  refine (g_count hB hR _).mono ?_; rintro e u ⟨rfl, h⟩; replace A := Lib.hid (A.out.on h); clear h
  refine hK.out _ _ (fun _ => HB.out _ A.out.bl) ?_
  (clear hK KK; try simp only [Act.put, List.setIfInBounds_toArray, List.set_cons_zero, List.set_cons_succ])
  (repeat (refine wpSeqE_take (v := ?_) rfl (by rfl) (fun wq hSq => ?_) ?_; rotate_left; (focus ((try dsimp only at hSq); go_simp; try with_reducible rfl)); simp only [Act.put, List.setIfInBounds_toArray, List.set_cons_zero, List.set_cons_succ]))
  (refine wpSeqE_do rfl (by rfl) (fun KK hK => ?_); go_simp)
  refine (g_folded hB hR _ _).mono ?_; rintro e u ⟨g, n, c, rfl, h⟩; replace A := Lib.hid (A.out.more h.out); clear h
  refine hK.out _ _ (fun _ => HB.out _ A.out.bl) ?_
  (clear hK KK; try simp only [Act.put, List.setIfInBounds_toArray, List.set_cons_zero, List.set_cons_succ])
  (repeat (refine wpSeqE_take (v := ?_) rfl (by rfl) (fun wq hSq => ?_) ?_; rotate_left; (focus ((try dsimp only at hSq); go_simp; try with_reducible rfl)); simp only [Act.put, List.setIfInBounds_toArray, List.set_cons_zero, List.set_cons_succ]))
  (refine wpSeqE_do rfl (by rfl) (fun KK hK => ?_); go_simp)
  refine (g_push _ _).mono ?_; rintro e u ⟨g, n, c, rfl, h⟩; replace A := Lib.hid (A.out.more h.out); clear h
  refine hK.out _ _ (fun _ => HB.out _ A.out.bl) ?_
  (clear hK KK; try simp only [Act.put, List.setIfInBounds_toArray, List.set_cons_zero, List.set_cons_succ])
  (repeat (refine wpSeqE_take (v := ?_) rfl (by rfl) (fun wq hSq => ?_) ?_; rotate_left; (focus ((try dsimp only at hSq); go_simp; try with_reducible rfl)); simp only [Act.put, List.setIfInBounds_toArray, List.set_cons_zero, List.set_cons_succ]))
  (refine wpSeqE_do rfl (by rfl) (fun KK hK => ?_); go_simp)
  refine (g_two _ _).mono ?_; rintro e u ⟨g, n, c, rfl, h⟩; replace A := Lib.hid (A.out.more h.out); clear h
  refine hK.out _ _ (fun _ => HB.out _ A.out.bl) ?_
  (clear hK KK; try simp only [Act.put, List.setIfInBounds_toArray, List.set_cons_zero, List.set_cons_succ])
  (repeat (refine wpSeqE_take (v := ?_) rfl (by rfl) (fun wq hSq => ?_) ?_; rotate_left; (focus ((try dsimp only at hSq); go_simp; try with_reducible rfl)); simp only [Act.put, List.setIfInBounds_toArray, List.set_cons_zero, List.set_cons_succ]))
  (refine wpSeqE_do rfl (by rfl) (fun KK hK => ?_); go_simp)
  refine (g_to _ _ _).mono ?_; rintro e u ⟨g, n, c, rfl, h⟩; replace A := Lib.hid (A.out.more h.out); clear h
  refine hK.out _ _ (fun _ => HB.out _ A.out.bl) ?_
  (clear hK KK; try simp only [Act.put, List.setIfInBounds_toArray, List.set_cons_zero, List.set_cons_succ])
  (repeat (refine wpSeqE_take (v := ?_) rfl (by rfl) (fun wq hSq => ?_) ?_; rotate_left; (focus ((try dsimp only at hSq); go_simp; try with_reducible rfl)); simp only [Act.put, List.setIfInBounds_toArray, List.set_cons_zero, List.set_cons_succ]))
  (refine wpSeqE_do rfl (by rfl) (fun KK hK => ?_); go_simp)
  refine (g_do _ _ _).mono ?_; rintro e u ⟨g, n, c, rfl, h⟩; replace A := Lib.hid (A.out.more h.out); clear h
  refine hK.out _ _ (fun _ => HB.out _ A.out.bl) ?_
  (clear hK KK; try simp only [Act.put, List.setIfInBounds_toArray, List.set_cons_zero, List.set_cons_succ])
  (repeat (refine wpSeqE_take (v := ?_) rfl (by rfl) (fun wq hSq => ?_) ?_; rotate_left; (focus ((try dsimp only at hSq); go_simp; try with_reducible rfl)); simp only [Act.put, List.setIfInBounds_toArray, List.set_cons_zero, List.set_cons_succ]))
  (refine wpSeqE_do rfl (by rfl) (fun KK hK => ?_); go_simp)
  refine (g_mark _ _).mono ?_; rintro e u ⟨g, n, c, rfl, h⟩; replace A := Lib.hid (A.out.more h.out); clear h
  refine hK.out _ _ (fun _ => HB.out _ A.out.bl) ?_
  (clear hK KK; try simp only [Act.put, List.setIfInBounds_toArray, List.set_cons_zero, List.set_cons_succ])
  (repeat (refine wpSeqE_take (v := ?_) rfl (by rfl) (fun wq hSq => ?_) ?_; rotate_left; (focus ((try dsimp only at hSq); go_simp; try with_reducible rfl)); simp only [Act.put, List.setIfInBounds_toArray, List.set_cons_zero, List.set_cons_succ]))
  (refine wpSeqE_do rfl (by rfl) (fun KK hK => ?_); go_simp)
  refine (g_spare hB hR _).mono ?_; rintro e u ⟨rfl, h⟩; replace A := Lib.hid (A.out.on h); clear h
  refine hK.out _ _ (fun _ => HB.out _ A.out.bl) ?_
  (clear hK KK; try simp only [Act.put, List.setIfInBounds_toArray, List.set_cons_zero, List.set_cons_succ])
  (repeat (refine wpSeqE_take (v := ?_) rfl (by rfl) (fun wq hSq => ?_) ?_; rotate_left; (focus ((try dsimp only at hSq); go_simp; try with_reducible rfl)); simp only [Act.put, List.setIfInBounds_toArray, List.set_cons_zero, List.set_cons_succ]))
  (refine wpSeqE_do rfl (by rfl) (fun KK hK => ?_); go_simp)
  refine (g_folded hB hR _ _).mono ?_; rintro e u ⟨g, n, c, rfl, h⟩; replace A := Lib.hid (A.out.more h.out); clear h
  refine hK.out _ _ (fun _ => HB.out _ A.out.bl) ?_
  (clear hK KK; try simp only [Act.put, List.setIfInBounds_toArray, List.set_cons_zero, List.set_cons_succ])
  (repeat (refine wpSeqE_take (v := ?_) rfl (by rfl) (fun wq hSq => ?_) ?_; rotate_left; (focus ((try dsimp only at hSq); go_simp; try with_reducible rfl)); simp only [Act.put, List.setIfInBounds_toArray, List.set_cons_zero, List.set_cons_succ]))
  (refine wpSeqE_do rfl (by rfl) (fun KK hK => ?_); go_simp)
  refine (g_set _ _).mono ?_; rintro e u ⟨g, n, c, rfl, h⟩; replace A := Lib.hid (A.out.more h.out); clear h
  refine hK.out _ _ (fun _ => HB.out _ A.out.bl) ?_
  (clear hK KK; try simp only [Act.put, List.setIfInBounds_toArray, List.set_cons_zero, List.set_cons_succ])
  (repeat (refine wpSeqE_take (v := ?_) rfl (by rfl) (fun wq hSq => ?_) ?_; rotate_left; (focus ((try dsimp only at hSq); go_simp; try with_reducible rfl)); simp only [Act.put, List.setIfInBounds_toArray, List.set_cons_zero, List.set_cons_succ]))
  (refine wpSeqE_do rfl (by rfl) (fun KK hK => ?_); go_simp)
  refine (g_get _ _).mono ?_; rintro e u ⟨g, n, c, rfl, h⟩; replace A := Lib.hid (A.out.more h.out); clear h
  refine hK.out _ _ (fun _ => HB.out _ A.out.bl) ?_
  (clear hK KK; try simp only [Act.put, List.setIfInBounds_toArray, List.set_cons_zero, List.set_cons_succ])
  (repeat (refine wpSeqE_take (v := ?_) rfl (by rfl) (fun wq hSq => ?_) ?_; rotate_left; (focus ((try dsimp only at hSq); go_simp; try with_reducible rfl)); simp only [Act.put, List.setIfInBounds_toArray, List.set_cons_zero, List.set_cons_succ]))
  (refine wpSeqE_do rfl (by rfl) (fun KK hK => ?_); go_simp)
  refine (g_to _ _ _).mono ?_; rintro e u ⟨g, n, c, rfl, h⟩; replace A := Lib.hid (A.out.more h.out); clear h
  refine hK.out _ _ (fun _ => HB.out _ A.out.bl) ?_
  (clear hK KK; try simp only [Act.put, List.setIfInBounds_toArray, List.set_cons_zero, List.set_cons_succ])
  (repeat (refine wpSeqE_take (v := ?_) rfl (by rfl) (fun wq hSq => ?_) ?_; rotate_left; (focus ((try dsimp only at hSq); go_simp; try with_reducible rfl)); simp only [Act.put, List.setIfInBounds_toArray, List.set_cons_zero, List.set_cons_succ]))
  (refine wpSeqE_do rfl (by rfl) (fun KK hK => ?_); go_simp)
  refine (g_count hB hR _).mono ?_; rintro e u ⟨rfl, h⟩; replace A := Lib.hid (A.out.on h); clear h
  refine hK.out _ _ (fun _ => HB.out _ A.out.bl) ?_
  (clear hK KK; try simp only [Act.put, List.setIfInBounds_toArray, List.set_cons_zero, List.set_cons_succ])
  (repeat (refine wpSeqE_take (v := ?_) rfl (by rfl) (fun wq hSq => ?_) ?_; rotate_left; (focus ((try dsimp only at hSq); go_simp; try with_reducible rfl)); simp only [Act.put, List.setIfInBounds_toArray, List.set_cons_zero, List.set_cons_succ]))
  (refine wpSeqE_do rfl (by rfl) (fun KK hK => ?_); go_simp)
  refine (g_folded hB hR _ _).mono ?_; rintro e u ⟨g, n, c, rfl, h⟩; replace A := Lib.hid (A.out.more h.out); clear h
  refine hK.out _ _ (fun _ => HB.out _ A.out.bl) ?_
  (clear hK KK; try simp only [Act.put, List.setIfInBounds_toArray, List.set_cons_zero, List.set_cons_succ])
  (repeat (refine wpSeqE_take (v := ?_) rfl (by rfl) (fun wq hSq => ?_) ?_; rotate_left; (focus ((try dsimp only at hSq); go_simp; try with_reducible rfl)); simp only [Act.put, List.setIfInBounds_toArray, List.set_cons_zero, List.set_cons_succ]))
  (refine wpSeqE_do rfl (by rfl) (fun KK hK => ?_); go_simp)
  refine (g_push _ _).mono ?_; rintro e u ⟨g, n, c, rfl, h⟩; replace A := Lib.hid (A.out.more h.out); clear h
  refine hK.out _ _ (fun _ => HB.out _ A.out.bl) ?_
  (clear hK KK; try simp only [Act.put, List.setIfInBounds_toArray, List.set_cons_zero, List.set_cons_succ])
  (repeat (refine wpSeqE_take (v := ?_) rfl (by rfl) (fun wq hSq => ?_) ?_; rotate_left; (focus ((try dsimp only at hSq); go_simp; try with_reducible rfl)); simp only [Act.put, List.setIfInBounds_toArray, List.set_cons_zero, List.set_cons_succ]))
  (refine wpSeqE_do rfl (by rfl) (fun KK hK => ?_); go_simp)
  refine (g_two _ _).mono ?_; rintro e u ⟨g, n, c, rfl, h⟩; replace A := Lib.hid (A.out.more h.out); clear h
  refine hK.out _ _ (fun _ => HB.out _ A.out.bl) ?_
  (clear hK KK; try simp only [Act.put, List.setIfInBounds_toArray, List.set_cons_zero, List.set_cons_succ])
  (repeat (refine wpSeqE_take (v := ?_) rfl (by rfl) (fun wq hSq => ?_) ?_; rotate_left; (focus ((try dsimp only at hSq); go_simp; try with_reducible rfl)); simp only [Act.put, List.setIfInBounds_toArray, List.set_cons_zero, List.set_cons_succ]))
  (refine wpSeqE_do rfl (by rfl) (fun KK hK => ?_); go_simp)
  refine (g_set _ _).mono ?_; rintro e u ⟨g, n, c, rfl, h⟩; replace A := Lib.hid (A.out.more h.out); clear h
  refine hK.out _ _ (fun _ => HB.out _ A.out.bl) ?_
  (clear hK KK; try simp only [Act.put, List.setIfInBounds_toArray, List.set_cons_zero, List.set_cons_succ])
  (repeat (refine wpSeqE_take (v := ?_) rfl (by rfl) (fun wq hSq => ?_) ?_; rotate_left; (focus ((try dsimp only at hSq); go_simp; try with_reducible rfl)); simp only [Act.put, List.setIfInBounds_toArray, List.set_cons_zero, List.set_cons_succ]))
  (refine wpSeqE_do rfl (by rfl) (fun KK hK => ?_); go_simp)
  refine (g_mark _ _).mono ?_; rintro e u ⟨g, n, c, rfl, h⟩; replace A := Lib.hid (A.out.more h.out); clear h
  refine hK.out _ _ (fun _ => HB.out _ A.out.bl) ?_
  (clear hK KK; try simp only [Act.put, List.setIfInBounds_toArray, List.set_cons_zero, List.set_cons_succ])
  (repeat (refine wpSeqE_take (v := ?_) rfl (by rfl) (fun wq hSq => ?_) ?_; rotate_left; (focus ((try dsimp only at hSq); go_simp; try with_reducible rfl)); simp only [Act.put, List.setIfInBounds_toArray, List.set_cons_zero, List.set_cons_succ]))
  (refine wpSeqE_do rfl (by rfl) (fun KK hK => ?_); go_simp)
  refine (g_goTo hB hR _).mono ?_; rintro e u ⟨g, n, c, rfl, h⟩; replace A := Lib.hid (A.out.more h.out); clear h
  refine hK.out _ _ (fun _ => HB.out _ A.out.bl) ?_
  (clear hK KK; try simp only [Act.put, List.setIfInBounds_toArray, List.set_cons_zero, List.set_cons_succ])
  (repeat (refine wpSeqE_take (v := ?_) rfl (by rfl) (fun wq hSq => ?_) ?_; rotate_left; (focus ((try dsimp only at hSq); go_simp; try with_reducible rfl)); simp only [Act.put, List.setIfInBounds_toArray, List.set_cons_zero, List.set_cons_succ]))
  (refine wpSeqE_do rfl (by rfl) (fun KK hK => ?_); go_simp)
  refine (g_load _ _ _).mono ?_; rintro e u ⟨g, n, c, rfl, h⟩; replace A := Lib.hid (A.out.more h.out); clear h
  refine hK.out _ _ (fun _ => HB.out _ A.out.bl) ?_
  (clear hK KK; try simp only [Act.put, List.setIfInBounds_toArray, List.set_cons_zero, List.set_cons_succ])
  (repeat (refine wpSeqE_take (v := ?_) rfl (by rfl) (fun wq hSq => ?_) ?_; rotate_left; (focus ((try dsimp only at hSq); go_simp; try with_reducible rfl)); simp only [Act.put, List.setIfInBounds_toArray, List.set_cons_zero, List.set_cons_succ]))
  (refine wpSeqE_do rfl (by rfl) (fun KK hK => ?_); go_simp)
  refine (g_spare hB hR _).mono ?_; rintro e u ⟨rfl, h⟩; replace A := Lib.hid (A.out.on h); clear h
  refine hK.out _ _ (fun _ => HB.out _ A.out.bl) ?_
  (clear hK KK; try simp only [Act.put, List.setIfInBounds_toArray, List.set_cons_zero, List.set_cons_succ])
  (repeat (refine wpSeqE_take (v := ?_) rfl (by rfl) (fun wq hSq => ?_) ?_; rotate_left; (focus ((try dsimp only at hSq); go_simp; try with_reducible rfl)); simp only [Act.put, List.setIfInBounds_toArray, List.set_cons_zero, List.set_cons_succ]))
  (refine wpSeqE_do rfl (by rfl) (fun KK hK => ?_); go_simp)
  refine (g_push _ _).mono ?_; rintro e u ⟨g, n, c, rfl, h⟩; replace A := Lib.hid (A.out.more h.out); clear h
  refine hK.out _ _ (fun _ => HB.out _ A.out.bl) ?_
  (clear hK KK; try simp only [Act.put, List.setIfInBounds_toArray, List.set_cons_zero, List.set_cons_succ])
  (repeat (refine wpSeqE_take (v := ?_) rfl (by rfl) (fun wq hSq => ?_) ?_; rotate_left; (focus ((try dsimp only at hSq); go_simp; try with_reducible rfl)); simp only [Act.put, List.setIfInBounds_toArray, List.set_cons_zero, List.set_cons_succ]))
  (refine wpSeqE_do rfl (by rfl) (fun KK hK => ?_); go_simp)
  refine (g_write _).mono ?_; rintro e u ⟨g, n, c, rfl, h⟩; replace A := Lib.hid (A.out.more h.out); clear h
  refine hK.out _ _ (fun _ => HB.out _ A.out.bl) ?_
  (clear hK KK; try simp only [Act.put, List.setIfInBounds_toArray, List.set_cons_zero, List.set_cons_succ])
  (repeat (refine wpSeqE_take (v := ?_) rfl (by rfl) (fun wq hSq => ?_) ?_; rotate_left; (focus ((try dsimp only at hSq); go_simp; try with_reducible rfl)); simp only [Act.put, List.setIfInBounds_toArray, List.set_cons_zero, List.set_cons_succ]))
  (refine wpSeqE_do rfl (by rfl) (fun KK hK => ?_); go_simp)
  refine (g_arg _ _).mono ?_; rintro e u ⟨g, n, c, rfl, h⟩; replace A := Lib.hid (A.out.more h.out); clear h
  refine hK.out _ _ (fun _ => HB.out _ A.out.bl) ?_
  (clear hK KK; try simp only [Act.put, List.setIfInBounds_toArray, List.set_cons_zero, List.set_cons_succ])
  (repeat (refine wpSeqE_take (v := ?_) rfl (by rfl) (fun wq hSq => ?_) ?_; rotate_left; (focus ((try dsimp only at hSq); go_simp; try with_reducible rfl)); simp only [Act.put, List.setIfInBounds_toArray, List.set_cons_zero, List.set_cons_succ]))
  (refine wpSeqE_do rfl (by rfl) (fun KK hK => ?_); go_simp)
  refine hK.out _ _ (fun _ => HB.out _ (A.out.on (bl1 _ _)).bl) ?_
  (clear hK KK; try simp only [Act.put, List.setIfInBounds_toArray, List.set_cons_zero, List.set_cons_succ])
  (repeat (refine wpSeqE_take (v := ?_) rfl (by rfl) (fun wq hSq => ?_) ?_; rotate_left; (focus ((try dsimp only at hSq); go_simp; try with_reducible rfl)); simp only [Act.put, List.setIfInBounds_toArray, List.set_cons_zero, List.set_cons_succ]))
  (refine wpSeqE_do rfl (by rfl) (fun KK hK => ?_); go_simp)
  refine (g_store ((A.out.take 1).parts rfl) rfl (Nat.le_of_ble_eq_true rfl) (Nat.le_of_ble_eq_true rfl) (Nat.le_of_ble_eq_true rfl) _ _).mono ?_; rintro e u ⟨g, n, c, rfl, h⟩; replace A := Lib.hid ((A.out.drop 1).over h.out); clear h
  refine hK.out _ _ (fun _ => HB.out _ A.out.bl) ?_
  (clear hK KK; try simp only [Act.put, List.setIfInBounds_toArray, List.set_cons_zero, List.set_cons_succ])
  (repeat (refine wpSeqE_take (v := ?_) rfl (by rfl) (fun wq hSq => ?_) ?_; rotate_left; (focus ((try dsimp only at hSq); go_simp; try with_reducible rfl)); simp only [Act.put, List.setIfInBounds_toArray, List.set_cons_zero, List.set_cons_succ]))
  (refine wpSeqE_do rfl (by rfl) (fun KK hK => ?_); go_simp)
  refine (g_arg _ _).mono ?_; rintro e u ⟨g, n, c, rfl, h⟩; replace A := Lib.hid (A.out.more h.out); clear h
  refine hK.out _ _ (fun _ => HB.out _ A.out.bl) ?_
  (clear hK KK; try simp only [Act.put, List.setIfInBounds_toArray, List.set_cons_zero, List.set_cons_succ])
  (repeat (refine wpSeqE_take (v := ?_) rfl (by rfl) (fun wq hSq => ?_) ?_; rotate_left; (focus ((try dsimp only at hSq); go_simp; try with_reducible rfl)); simp only [Act.put, List.setIfInBounds_toArray, List.set_cons_zero, List.set_cons_succ]))
  (refine wpSeqE_do rfl (by rfl) (fun KK hK => ?_); go_simp)
  refine hK.out _ _ (fun _ => HB.out _ (A.out.on (bl1 _ _)).bl) ?_
  (clear hK KK; try simp only [Act.put, List.setIfInBounds_toArray, List.set_cons_zero, List.set_cons_succ])
  (repeat (refine wpSeqE_take (v := ?_) rfl (by rfl) (fun wq hSq => ?_) ?_; rotate_left; (focus ((try dsimp only at hSq); go_simp; try with_reducible rfl)); simp only [Act.put, List.setIfInBounds_toArray, List.set_cons_zero, List.set_cons_succ]))
  (refine wpSeqE_do rfl (by rfl) (fun KK hK => ?_); go_simp)
  refine (g_store ((A.out.take 1).parts rfl) rfl (Nat.le_of_ble_eq_true rfl) (Nat.le_of_ble_eq_true rfl) (Nat.le_of_ble_eq_true rfl) _ _).mono ?_; rintro e u ⟨g, n, c, rfl, h⟩; replace A := Lib.hid ((A.out.drop 1).over h.out); clear h
  refine hK.out _ _ (fun _ => HB.out _ A.out.bl) ?_
  (clear hK KK; try simp only [Act.put, List.setIfInBounds_toArray, List.set_cons_zero, List.set_cons_succ])
  (repeat (refine wpSeqE_take (v := ?_) rfl (by rfl) (fun wq hSq => ?_) ?_; rotate_left; (focus ((try dsimp only at hSq); go_simp; try with_reducible rfl)); simp only [Act.put, List.setIfInBounds_toArray, List.set_cons_zero, List.set_cons_succ]))
  (refine wpSeqE_do rfl (by rfl) (fun KK hK => ?_); go_simp)
  refine (g_push _ _).mono ?_; rintro e u ⟨g, n, c, rfl, h⟩; replace A := Lib.hid (A.out.more h.out); clear h
  refine hK.out _ _ (fun _ => HB.out _ A.out.bl) ?_
  (clear hK KK; try simp only [Act.put, List.setIfInBounds_toArray, List.set_cons_zero, List.set_cons_succ])
  (repeat (refine wpSeqE_take (v := ?_) rfl (by rfl) (fun wq hSq => ?_) ?_; rotate_left; (focus ((try dsimp only at hSq); go_simp; try with_reducible rfl)); simp only [Act.put, List.setIfInBounds_toArray, List.set_cons_zero, List.set_cons_succ]))
  (refine wpSeqE_do rfl (by rfl) (fun KK hK => ?_); go_simp)
  refine hK.out _ _ (fun _ => HB.out _ (A.out.on (bl1 _ _)).bl) ?_
  (clear hK KK; try simp only [Act.put, List.setIfInBounds_toArray, List.set_cons_zero, List.set_cons_succ])
  (repeat (refine wpSeqE_take (v := ?_) rfl (by rfl) (fun wq hSq => ?_) ?_; rotate_left; (focus ((try dsimp only at hSq); go_simp; try with_reducible rfl)); simp only [Act.put, List.setIfInBounds_toArray, List.set_cons_zero, List.set_cons_succ]))
  (refine wpSeqE_do rfl (by rfl) (fun KK hK => ?_); go_simp)
  refine (g_store ((A.out.take 1).parts rfl) rfl (Nat.le_of_ble_eq_true rfl) (Nat.le_of_ble_eq_true rfl) (Nat.le_of_ble_eq_true rfl) _ _).mono ?_; rintro e u ⟨g, n, c, rfl, h⟩; replace A := Lib.hid ((A.out.drop 1).over h.out); clear h
  refine hK.out _ _ (fun _ => HB.out _ A.out.bl) ?_
  (clear hK KK; try simp only [Act.put, List.setIfInBounds_toArray, List.set_cons_zero, List.set_cons_succ])
  (repeat (refine wpSeqE_take (v := ?_) rfl (by rfl) (fun wq hSq => ?_) ?_; rotate_left; (focus ((try dsimp only at hSq); go_simp; try with_reducible rfl)); simp only [Act.put, List.setIfInBounds_toArray, List.set_cons_zero, List.set_cons_succ]))
  (refine wpSeqE_do rfl (by rfl) (fun KK hK => ?_); go_simp)
  refine (g_get _ _).mono ?_; rintro e u ⟨g, n, c, rfl, h⟩; replace A := Lib.hid (A.out.more h.out); clear h
  refine hK.out _ _ (fun _ => HB.out _ A.out.bl) ?_
  (clear hK KK; try simp only [Act.put, List.setIfInBounds_toArray, List.set_cons_zero, List.set_cons_succ])
  (repeat (refine wpSeqE_take (v := ?_) rfl (by rfl) (fun wq hSq => ?_) ?_; rotate_left; (focus ((try dsimp only at hSq); go_simp; try with_reducible rfl)); simp only [Act.put, List.setIfInBounds_toArray, List.set_cons_zero, List.set_cons_succ]))
  (refine wpSeqE_do rfl (by rfl) (fun KK hK => ?_); go_simp)
  refine hK.out _ _ (fun _ => HB.out _ (A.out.on (bl1 _ _)).bl) ?_
  (clear hK KK; try simp only [Act.put, List.setIfInBounds_toArray, List.set_cons_zero, List.set_cons_succ])
  (repeat (refine wpSeqE_take (v := ?_) rfl (by rfl) (fun wq hSq => ?_) ?_; rotate_left; (focus ((try dsimp only at hSq); go_simp; try with_reducible rfl)); simp only [Act.put, List.setIfInBounds_toArray, List.set_cons_zero, List.set_cons_succ]))
  (refine wpSeqE_do rfl (by rfl) (fun KK hK => ?_); go_simp)
  refine (g_relink hB hR ((A.out.take 1).parts rfl) rfl (Nat.le_of_ble_eq_true rfl) (Nat.le_of_ble_eq_true rfl) (Nat.le_of_ble_eq_true rfl)).mono ?_; rintro e u ⟨g, n, c, rfl, h⟩; replace A := Lib.hid ((A.out.drop 1).over h.out); clear h
  refine hK.out _ _ (fun _ => HB.out _ A.out.bl) ?_
  (clear hK KK; try simp only [Act.put, List.setIfInBounds_toArray, List.set_cons_zero, List.set_cons_succ])
  (repeat (refine wpSeqE_take (v := ?_) rfl (by rfl) (fun wq hSq => ?_) ?_; rotate_left; (focus ((try dsimp only at hSq); go_simp; try with_reducible rfl)); simp only [Act.put, List.setIfInBounds_toArray, List.set_cons_zero, List.set_cons_succ]))
  (refine wpSeqE_do rfl (by rfl) (fun KK hK => ?_); go_simp)
  refine (g_grow hB hR _ _).mono ?_; rintro e u ⟨g, n, c, rfl, h⟩; replace A := Lib.hid (A.out.more h.out); clear h
  refine hK.out _ _ (fun _ => HB.out _ A.out.bl) ?_
  (clear hK KK; try simp only [Act.put, List.setIfInBounds_toArray, List.set_cons_zero, List.set_cons_succ])
  (repeat (refine wpSeqE_take (v := ?_) rfl (by rfl) (fun wq hSq => ?_) ?_; rotate_left; (focus ((try dsimp only at hSq); go_simp; try with_reducible rfl)); simp only [Act.put, List.setIfInBounds_toArray, List.set_cons_zero, List.set_cons_succ]))
  (refine wpSeqE_do rfl (by rfl) (fun KK hK => ?_); go_simp)
  refine (g_tell _ _).mono ?_; rintro e u ⟨g, n, c, rfl, h⟩; replace A := Lib.hid (A.out.more h.out); clear h
  refine hK.out _ _ (fun _ => HB.out _ A.out.bl) ?_
  (clear hK KK; try simp only [Act.put, List.setIfInBounds_toArray, List.set_cons_zero, List.set_cons_succ])
  (repeat (refine wpSeqE_take (v := ?_) rfl (by rfl) (fun wq hSq => ?_) ?_; rotate_left; (focus ((try dsimp only at hSq); go_simp; try with_reducible rfl)); simp only [Act.put, List.setIfInBounds_toArray, List.set_cons_zero, List.set_cons_succ]))
  (refine wpSeqE_do rfl (by rfl) (fun KK hK => ?_); go_simp)
  refine hK.out _ _ (fun _ => HB.out _ (A.out.on (bl1 _ _)).bl) ?_
  (clear hK KK; try simp only [Act.put, List.setIfInBounds_toArray, List.set_cons_zero, List.set_cons_succ])
  (repeat (refine wpSeqE_take (v := ?_) rfl (by rfl) (fun wq hSq => ?_) ?_; rotate_left; (focus ((try dsimp only at hSq); go_simp; try with_reducible rfl)); simp only [Act.put, List.setIfInBounds_toArray, List.set_cons_zero, List.set_cons_succ]))
  (refine wpSeqE_do rfl (by rfl) (fun KK hK => ?_); go_simp)
  refine (g_program 2 (A.out.parts rfl) rfl (Nat.le_of_ble_eq_true rfl) (Nat.le_of_ble_eq_true rfl) (Nat.le_of_ble_eq_true rfl) (put_wf B R) (HT.out.on ((pgW_bl w B R).trans (((A.out.on (bl1 _ _)).bl).mono (by rw [pgW_size]; omega)))) (put_ans B R)).mono ?_; rintro e u ⟨p, n, c, rfl, hZ⟩; have HBL := Lib.hid (A.out.bl.trans (((bl1 _ _).trans (hZ.out.2.2.mono (by simp))).mono A.out.bl.size)); obtain ⟨⟨x0, x1⟩, y0, y1, y2, y3, y4⟩ := pg_cells w B R _ HBL.out
  refine hK.out _ _ (fun _ => ⟨x0, x1⟩) ?_
  (clear hK KK; try simp only [Act.put, List.setIfInBounds_toArray, List.set_cons_zero, List.set_cons_succ])
  (repeat (refine wpSeqE_take (v := ?_) rfl (by rfl) (fun wq hSq => ?_) ?_; rotate_left; (focus ((try dsimp only at hSq); go_simp; try with_reducible rfl)); simp only [Act.put, List.setIfInBounds_toArray, List.set_cons_zero, List.set_cons_succ]))
  (refine wpSeqE_do rfl (by rfl) (fun KK hK => ?_); go_simp)
  refine hK.out _ _ (fun hn => absurd rfl hn) ?_
  (clear hK KK; try simp only [Act.put])
  refine wpSeqE_nil ?_
  go_wp2_with fail
  obtain ⟨f1, f2, f3⟩ := hZ.out
  change RowW 63 3 u p c n (codC ((bsOf 2 (putO B R).flatten).filled.map fixI)) at f2
  change n = (bsOf 2 (putO B R).flatten).code.length at f1
  rw [put_code] at f2
  obtain ⟨z1, z2, z3⟩ := pg_end (t := 2) HBL.out f2
  exact pg_back rfl (w.heap.size + 1) 2 p n c rfl z1 rfl ⟨p, n, c, rfl, f1.trans (bs_len (put_code B R)), z2, z3⟩

set_option maxHeartbeats 2000000 in
set_option maxRecDepth 100000 in
theorem g_pdel (hB : 0 ≤ B ∧ B ≤ 256) (hR : 0 ≤ R ∧ R ≤ 16) (hT : Shaped5 w) : Calls Tryd.prog 8 #[.agg #[.int .i64 B, .int .i64 R]] w fun e w' => PgC w 2 (delC B R) e w' := by
  have HB : Hid (∀ u, Below (pgW w B R).heap.size (pgW w B R) u → u.cell? ⟨w.heap.size, 0, none⟩ = some (.int .i64 B) ∧ u.cell? ⟨w.heap.size, 1, none⟩ = some (.int .i64 R)) := fun u k => (pg_cells w B R u k).1
  have A : Hid (Acc (pgW w B R) ((pgW w B R).drew) []) := acc_nil ((Same.drew _).below _)
  have HT : Hid (Shaped5 w) := hT
  clear hT
  go_enter Tryd.func8, Tryd.ntmps8
  go_wp2_with fail
  refine wp_region_seqE (fun u => u.cell? ⟨w.heap.size, 0, none⟩ = some (.int .i64 B) ∧ u.cell? ⟨w.heap.size, 1, none⟩ = some (.int .i64 R)) ((0, true) :: (5, true) :: (8, true) :: (15, true) :: (19, true) :: (20, true) :: (35, true) :: (36, true) :: (38, true) :: (45, true) :: (46, true) :: (52, true) :: (56, true) :: (1, false) :: (2, false) :: (3, false) :: (4, false) :: (6, false) :: (7, false) :: (9, false) :: (10, false) :: (11, false) :: (12, false) :: (13, false) :: (14, false) :: (16, false) :: (17, false) :: (18, false) :: (21, false) :: (22, false) :: (23, false) :: (24, false) :: (25, false) :: (26, false) :: (27, false) :: (28, false) :: (29, false) :: (30, false) :: (31, false) :: (32, false) :: (33, false) :: (34, false) :: (37, false) :: (39, false) :: (40, false) :: (41, false) :: (42, false) :: (43, false) :: (44, false) :: (47, false) :: (48, false) :: (49, false) :: (50, false) :: (51, false) :: (53, false) :: (54, false) :: (55, false) :: (57, false) :: (58, false) :: (59, false) :: (60, false) :: (61, false) :: []) follows (by kernel_rfl) (fun _ _ _ _ _ h => h) (HB.out _ ((Same.drew _).below _)) ?_
  (repeat (refine wpSeqE_take (v := ?_) rfl (by rfl) (fun wq hSq => ?_) ?_; rotate_left; (focus ((try dsimp only at hSq); go_simp; try with_reducible rfl)); simp only [Act.put, List.setIfInBounds_toArray, List.set_cons_zero, List.set_cons_succ]))
  (refine wpSeqE_do rfl (by rfl) (fun KK hK => ?_); go_simp)
  refine (g_search hB hR _).mono ?_; rintro e u ⟨g, n, c, rfl, h⟩; replace A := Lib.hid (A.out.more h.out); clear h
  refine hK.out _ _ (fun _ => HB.out _ A.out.bl) ?_
  (clear hK KK; try simp only [Act.put, List.setIfInBounds_toArray, List.set_cons_zero, List.set_cons_succ])
  (repeat (refine wpSeqE_take (v := ?_) rfl (by rfl) (fun wq hSq => ?_) ?_; rotate_left; (focus ((try dsimp only at hSq); go_simp; try with_reducible rfl)); simp only [Act.put, List.setIfInBounds_toArray, List.set_cons_zero, List.set_cons_succ]))
  (refine wpSeqE_do rfl (by rfl) (fun KK hK => ?_); go_simp)
  refine (g_mark _ _).mono ?_; rintro e u ⟨g, n, c, rfl, h⟩; replace A := Lib.hid (A.out.more h.out); clear h
  refine hK.out _ _ (fun _ => HB.out _ A.out.bl) ?_
  (clear hK KK; try simp only [Act.put, List.setIfInBounds_toArray, List.set_cons_zero, List.set_cons_succ])
  (repeat (refine wpSeqE_take (v := ?_) rfl (by rfl) (fun wq hSq => ?_) ?_; rotate_left; (focus ((try dsimp only at hSq); go_simp; try with_reducible rfl)); simp only [Act.put, List.setIfInBounds_toArray, List.set_cons_zero, List.set_cons_succ]))
  (refine wpSeqE_do rfl (by rfl) (fun KK hK => ?_); go_simp)
  refine (g_tell _ _).mono ?_; rintro e u ⟨g, n, c, rfl, h⟩; replace A := Lib.hid (A.out.more h.out); clear h
  refine hK.out _ _ (fun _ => HB.out _ A.out.bl) ?_
  (clear hK KK; try simp only [Act.put, List.setIfInBounds_toArray, List.set_cons_zero, List.set_cons_succ])
  (repeat (refine wpSeqE_take (v := ?_) rfl (by rfl) (fun wq hSq => ?_) ?_; rotate_left; (focus ((try dsimp only at hSq); go_simp; try with_reducible rfl)); simp only [Act.put, List.setIfInBounds_toArray, List.set_cons_zero, List.set_cons_succ]))
  (refine wpSeqE_do rfl (by rfl) (fun KK hK => ?_); go_simp)
  refine (g_mark _ _).mono ?_; rintro e u ⟨g, n, c, rfl, h⟩; replace A := Lib.hid (A.out.more h.out); clear h
  refine hK.out _ _ (fun _ => HB.out _ A.out.bl) ?_
  (clear hK KK; try simp only [Act.put, List.setIfInBounds_toArray, List.set_cons_zero, List.set_cons_succ])
  (repeat (refine wpSeqE_take (v := ?_) rfl (by rfl) (fun wq hSq => ?_) ?_; rotate_left; (focus ((try dsimp only at hSq); go_simp; try with_reducible rfl)); simp only [Act.put, List.setIfInBounds_toArray, List.set_cons_zero, List.set_cons_succ]))
  (refine wpSeqE_do rfl (by rfl) (fun KK hK => ?_); go_simp)
  refine (g_ahead hB hR _).mono ?_; rintro e u ⟨g, n, c, rfl, h⟩; replace A := Lib.hid (A.out.more h.out); clear h
  refine hK.out _ _ (fun _ => HB.out _ A.out.bl) ?_
  (clear hK KK; try simp only [Act.put, List.setIfInBounds_toArray, List.set_cons_zero, List.set_cons_succ])
  (repeat (refine wpSeqE_take (v := ?_) rfl (by rfl) (fun wq hSq => ?_) ?_; rotate_left; (focus ((try dsimp only at hSq); go_simp; try with_reducible rfl)); simp only [Act.put, List.setIfInBounds_toArray, List.set_cons_zero, List.set_cons_succ]))
  (refine wpSeqE_do rfl (by rfl) (fun KK hK => ?_); go_simp)
  refine (g_to _ _ _).mono ?_; rintro e u ⟨g, n, c, rfl, h⟩; replace A := Lib.hid (A.out.more h.out); clear h
  refine hK.out _ _ (fun _ => HB.out _ A.out.bl) ?_
  (clear hK KK; try simp only [Act.put, List.setIfInBounds_toArray, List.set_cons_zero, List.set_cons_succ])
  (repeat (refine wpSeqE_take (v := ?_) rfl (by rfl) (fun wq hSq => ?_) ?_; rotate_left; (focus ((try dsimp only at hSq); go_simp; try with_reducible rfl)); simp only [Act.put, List.setIfInBounds_toArray, List.set_cons_zero, List.set_cons_succ]))
  (refine wpSeqE_do rfl (by rfl) (fun KK hK => ?_); go_simp)
  refine (g_behind hB hR _).mono ?_; rintro e u ⟨g, n, c, rfl, h⟩; replace A := Lib.hid (A.out.more h.out); clear h
  refine hK.out _ _ (fun _ => HB.out _ A.out.bl) ?_
  (clear hK KK; try simp only [Act.put, List.setIfInBounds_toArray, List.set_cons_zero, List.set_cons_succ])
  (repeat (refine wpSeqE_take (v := ?_) rfl (by rfl) (fun wq hSq => ?_) ?_; rotate_left; (focus ((try dsimp only at hSq); go_simp; try with_reducible rfl)); simp only [Act.put, List.setIfInBounds_toArray, List.set_cons_zero, List.set_cons_succ]))
  (refine wpSeqE_do rfl (by rfl) (fun KK hK => ?_); go_simp)
  refine (g_to _ _ _).mono ?_; rintro e u ⟨g, n, c, rfl, h⟩; replace A := Lib.hid (A.out.more h.out); clear h
  refine hK.out _ _ (fun _ => HB.out _ A.out.bl) ?_
  (clear hK KK; try simp only [Act.put, List.setIfInBounds_toArray, List.set_cons_zero, List.set_cons_succ])
  (repeat (refine wpSeqE_take (v := ?_) rfl (by rfl) (fun wq hSq => ?_) ?_; rotate_left; (focus ((try dsimp only at hSq); go_simp; try with_reducible rfl)); simp only [Act.put, List.setIfInBounds_toArray, List.set_cons_zero, List.set_cons_succ]))
  (refine wpSeqE_do rfl (by rfl) (fun KK hK => ?_); go_simp)
  refine (g_get _ _).mono ?_; rintro e u ⟨g, n, c, rfl, h⟩; replace A := Lib.hid (A.out.more h.out); clear h
  refine hK.out _ _ (fun _ => HB.out _ A.out.bl) ?_
  (clear hK KK; try simp only [Act.put, List.setIfInBounds_toArray, List.set_cons_zero, List.set_cons_succ])
  (repeat (refine wpSeqE_take (v := ?_) rfl (by rfl) (fun wq hSq => ?_) ?_; rotate_left; (focus ((try dsimp only at hSq); go_simp; try with_reducible rfl)); simp only [Act.put, List.setIfInBounds_toArray, List.set_cons_zero, List.set_cons_succ]))
  (refine wpSeqE_do rfl (by rfl) (fun KK hK => ?_); go_simp)
  refine (g_set _ _).mono ?_; rintro e u ⟨g, n, c, rfl, h⟩; replace A := Lib.hid (A.out.more h.out); clear h
  refine hK.out _ _ (fun _ => HB.out _ A.out.bl) ?_
  (clear hK KK; try simp only [Act.put, List.setIfInBounds_toArray, List.set_cons_zero, List.set_cons_succ])
  (repeat (refine wpSeqE_take (v := ?_) rfl (by rfl) (fun wq hSq => ?_) ?_; rotate_left; (focus ((try dsimp only at hSq); go_simp; try with_reducible rfl)); simp only [Act.put, List.setIfInBounds_toArray, List.set_cons_zero, List.set_cons_succ]))
  (refine wpSeqE_do rfl (by rfl) (fun KK hK => ?_); go_simp)
  refine (g_cell _ _ _).mono ?_; rintro e u ⟨g, n, c, rfl, h⟩; replace A := Lib.hid (A.out.more h.out); clear h
  refine hK.out _ _ (fun _ => HB.out _ A.out.bl) ?_
  (clear hK KK; try simp only [Act.put, List.setIfInBounds_toArray, List.set_cons_zero, List.set_cons_succ])
  (repeat (refine wpSeqE_take (v := ?_) rfl (by rfl) (fun wq hSq => ?_) ?_; rotate_left; (focus ((try dsimp only at hSq); go_simp; try with_reducible rfl)); simp only [Act.put, List.setIfInBounds_toArray, List.set_cons_zero, List.set_cons_succ]))
  (refine wpSeqE_do rfl (by rfl) (fun KK hK => ?_); go_simp)
  refine (g_set _ _).mono ?_; rintro e u ⟨g, n, c, rfl, h⟩; replace A := Lib.hid (A.out.more h.out); clear h
  refine hK.out _ _ (fun _ => HB.out _ A.out.bl) ?_
  (clear hK KK; try simp only [Act.put, List.setIfInBounds_toArray, List.set_cons_zero, List.set_cons_succ])
  (repeat (refine wpSeqE_take (v := ?_) rfl (by rfl) (fun wq hSq => ?_) ?_; rotate_left; (focus ((try dsimp only at hSq); go_simp; try with_reducible rfl)); simp only [Act.put, List.setIfInBounds_toArray, List.set_cons_zero, List.set_cons_succ]))
  (refine wpSeqE_do rfl (by rfl) (fun KK hK => ?_); go_simp)
  refine (g_wide hB hR _).mono ?_; rintro e u ⟨rfl, h⟩; replace A := Lib.hid (A.out.on h); clear h
  refine hK.out _ _ (fun _ => HB.out _ A.out.bl) ?_
  (clear hK KK; try simp only [Act.put, List.setIfInBounds_toArray, List.set_cons_zero, List.set_cons_succ])
  (repeat (refine wpSeqE_take (v := ?_) rfl (by rfl) (fun wq hSq => ?_) ?_; rotate_left; (focus ((try dsimp only at hSq); go_simp; try with_reducible rfl)); simp only [Act.put, List.setIfInBounds_toArray, List.set_cons_zero, List.set_cons_succ]))
  (refine wpSeqE_do rfl (by rfl) (fun KK hK => ?_); go_simp)
  refine (g_push _ _).mono ?_; rintro e u ⟨g, n, c, rfl, h⟩; replace A := Lib.hid (A.out.more h.out); clear h
  refine hK.out _ _ (fun _ => HB.out _ A.out.bl) ?_
  (clear hK KK; try simp only [Act.put, List.setIfInBounds_toArray, List.set_cons_zero, List.set_cons_succ])
  (repeat (refine wpSeqE_take (v := ?_) rfl (by rfl) (fun wq hSq => ?_) ?_; rotate_left; (focus ((try dsimp only at hSq); go_simp; try with_reducible rfl)); simp only [Act.put, List.setIfInBounds_toArray, List.set_cons_zero, List.set_cons_succ]))
  (refine wpSeqE_do rfl (by rfl) (fun KK hK => ?_); go_simp)
  refine (g_set _ _).mono ?_; rintro e u ⟨g, n, c, rfl, h⟩; replace A := Lib.hid (A.out.more h.out); clear h
  refine hK.out _ _ (fun _ => HB.out _ A.out.bl) ?_
  (clear hK KK; try simp only [Act.put, List.setIfInBounds_toArray, List.set_cons_zero, List.set_cons_succ])
  (repeat (refine wpSeqE_take (v := ?_) rfl (by rfl) (fun wq hSq => ?_) ?_; rotate_left; (focus ((try dsimp only at hSq); go_simp; try with_reducible rfl)); simp only [Act.put, List.setIfInBounds_toArray, List.set_cons_zero, List.set_cons_succ]))
  (refine wpSeqE_do rfl (by rfl) (fun KK hK => ?_); go_simp)
  refine (g_ahead hB hR _).mono ?_; rintro e u ⟨g, n, c, rfl, h⟩; replace A := Lib.hid (A.out.more h.out); clear h
  refine hK.out _ _ (fun _ => HB.out _ A.out.bl) ?_
  (clear hK KK; try simp only [Act.put, List.setIfInBounds_toArray, List.set_cons_zero, List.set_cons_succ])
  (repeat (refine wpSeqE_take (v := ?_) rfl (by rfl) (fun wq hSq => ?_) ?_; rotate_left; (focus ((try dsimp only at hSq); go_simp; try with_reducible rfl)); simp only [Act.put, List.setIfInBounds_toArray, List.set_cons_zero, List.set_cons_succ]))
  (refine wpSeqE_do rfl (by rfl) (fun KK hK => ?_); go_simp)
  refine (g_to _ _ _).mono ?_; rintro e u ⟨g, n, c, rfl, h⟩; replace A := Lib.hid (A.out.more h.out); clear h
  refine hK.out _ _ (fun _ => HB.out _ A.out.bl) ?_
  (clear hK KK; try simp only [Act.put, List.setIfInBounds_toArray, List.set_cons_zero, List.set_cons_succ])
  (repeat (refine wpSeqE_take (v := ?_) rfl (by rfl) (fun wq hSq => ?_) ?_; rotate_left; (focus ((try dsimp only at hSq); go_simp; try with_reducible rfl)); simp only [Act.put, List.setIfInBounds_toArray, List.set_cons_zero, List.set_cons_succ]))
  (refine wpSeqE_do rfl (by rfl) (fun KK hK => ?_); go_simp)
  refine (g_push _ _).mono ?_; rintro e u ⟨g, n, c, rfl, h⟩; replace A := Lib.hid (A.out.more h.out); clear h
  refine hK.out _ _ (fun _ => HB.out _ A.out.bl) ?_
  (clear hK KK; try simp only [Act.put, List.setIfInBounds_toArray, List.set_cons_zero, List.set_cons_succ])
  (repeat (refine wpSeqE_take (v := ?_) rfl (by rfl) (fun wq hSq => ?_) ?_; rotate_left; (focus ((try dsimp only at hSq); go_simp; try with_reducible rfl)); simp only [Act.put, List.setIfInBounds_toArray, List.set_cons_zero, List.set_cons_succ]))
  (refine wpSeqE_do rfl (by rfl) (fun KK hK => ?_); go_simp)
  refine (g_set _ _).mono ?_; rintro e u ⟨g, n, c, rfl, h⟩; replace A := Lib.hid (A.out.more h.out); clear h
  refine hK.out _ _ (fun _ => HB.out _ A.out.bl) ?_
  (clear hK KK; try simp only [Act.put, List.setIfInBounds_toArray, List.set_cons_zero, List.set_cons_succ])
  (repeat (refine wpSeqE_take (v := ?_) rfl (by rfl) (fun wq hSq => ?_) ?_; rotate_left; (focus ((try dsimp only at hSq); go_simp; try with_reducible rfl)); simp only [Act.put, List.setIfInBounds_toArray, List.set_cons_zero, List.set_cons_succ]))
  (refine wpSeqE_do rfl (by rfl) (fun KK hK => ?_); go_simp)
  refine hK.out _ _ (fun _ => HB.out _ (A.out.on (bl1 _ _)).bl) ?_
  (clear hK KK; try simp only [Act.put, List.setIfInBounds_toArray, List.set_cons_zero, List.set_cons_succ])
  (repeat (refine wpSeqE_take (v := ?_) rfl (by rfl) (fun wq hSq => ?_) ?_; rotate_left; (focus ((try dsimp only at hSq); go_simp; try with_reducible rfl)); simp only [Act.put, List.setIfInBounds_toArray, List.set_cons_zero, List.set_cons_succ]))
  (refine wpSeqE_do rfl (by rfl) (fun KK hK => ?_); go_simp)
  refine (g_walk hB hR ((A.out.take 4).parts rfl) rfl (Nat.le_of_ble_eq_true rfl) (Nat.le_of_ble_eq_true rfl) (Nat.le_of_ble_eq_true rfl) _ _).mono ?_; rintro e u ⟨g, n, c, rfl, h⟩; replace A := Lib.hid ((A.out.drop 4).over h.out); clear h
  refine hK.out _ _ (fun _ => HB.out _ A.out.bl) ?_
  (clear hK KK; try simp only [Act.put, List.setIfInBounds_toArray, List.set_cons_zero, List.set_cons_succ])
  (repeat (refine wpSeqE_take (v := ?_) rfl (by rfl) (fun wq hSq => ?_) ?_; rotate_left; (focus ((try dsimp only at hSq); go_simp; try with_reducible rfl)); simp only [Act.put, List.setIfInBounds_toArray, List.set_cons_zero, List.set_cons_succ]))
  (refine wpSeqE_do rfl (by rfl) (fun KK hK => ?_); go_simp)
  refine (g_mark _ _).mono ?_; rintro e u ⟨g, n, c, rfl, h⟩; replace A := Lib.hid (A.out.more h.out); clear h
  refine hK.out _ _ (fun _ => HB.out _ A.out.bl) ?_
  (clear hK KK; try simp only [Act.put, List.setIfInBounds_toArray, List.set_cons_zero, List.set_cons_succ])
  (repeat (refine wpSeqE_take (v := ?_) rfl (by rfl) (fun wq hSq => ?_) ?_; rotate_left; (focus ((try dsimp only at hSq); go_simp; try with_reducible rfl)); simp only [Act.put, List.setIfInBounds_toArray, List.set_cons_zero, List.set_cons_succ]))
  (refine wpSeqE_do rfl (by rfl) (fun KK hK => ?_); go_simp)
  refine (g_load _ _ _).mono ?_; rintro e u ⟨g, n, c, rfl, h⟩; replace A := Lib.hid (A.out.more h.out); clear h
  refine hK.out _ _ (fun _ => HB.out _ A.out.bl) ?_
  (clear hK KK; try simp only [Act.put, List.setIfInBounds_toArray, List.set_cons_zero, List.set_cons_succ])
  (repeat (refine wpSeqE_take (v := ?_) rfl (by rfl) (fun wq hSq => ?_) ?_; rotate_left; (focus ((try dsimp only at hSq); go_simp; try with_reducible rfl)); simp only [Act.put, List.setIfInBounds_toArray, List.set_cons_zero, List.set_cons_succ]))
  (refine wpSeqE_do rfl (by rfl) (fun KK hK => ?_); go_simp)
  refine hK.out _ _ (fun _ => HB.out _ (A.out.on (bl1 _ _)).bl) ?_
  (clear hK KK; try simp only [Act.put, List.setIfInBounds_toArray, List.set_cons_zero, List.set_cons_succ])
  (repeat (refine wpSeqE_take (v := ?_) rfl (by rfl) (fun wq hSq => ?_) ?_; rotate_left; (focus ((try dsimp only at hSq); go_simp; try with_reducible rfl)); simp only [Act.put, List.setIfInBounds_toArray, List.set_cons_zero, List.set_cons_succ]))
  (refine wpSeqE_do rfl (by rfl) (fun KK hK => ?_); go_simp)
  refine (g_store ((A.out.take 1).parts rfl) rfl (Nat.le_of_ble_eq_true rfl) (Nat.le_of_ble_eq_true rfl) (Nat.le_of_ble_eq_true rfl) _ _).mono ?_; rintro e u ⟨g, n, c, rfl, h⟩; replace A := Lib.hid ((A.out.drop 1).over h.out); clear h
  refine hK.out _ _ (fun _ => HB.out _ A.out.bl) ?_
  (clear hK KK; try simp only [Act.put, List.setIfInBounds_toArray, List.set_cons_zero, List.set_cons_succ])
  (repeat (refine wpSeqE_take (v := ?_) rfl (by rfl) (fun wq hSq => ?_) ?_; rotate_left; (focus ((try dsimp only at hSq); go_simp; try with_reducible rfl)); simp only [Act.put, List.setIfInBounds_toArray, List.set_cons_zero, List.set_cons_succ]))
  (refine wpSeqE_do rfl (by rfl) (fun KK hK => ?_); go_simp)
  refine (g_load _ _ _).mono ?_; rintro e u ⟨g, n, c, rfl, h⟩; replace A := Lib.hid (A.out.more h.out); clear h
  refine hK.out _ _ (fun _ => HB.out _ A.out.bl) ?_
  (clear hK KK; try simp only [Act.put, List.setIfInBounds_toArray, List.set_cons_zero, List.set_cons_succ])
  (repeat (refine wpSeqE_take (v := ?_) rfl (by rfl) (fun wq hSq => ?_) ?_; rotate_left; (focus ((try dsimp only at hSq); go_simp; try with_reducible rfl)); simp only [Act.put, List.setIfInBounds_toArray, List.set_cons_zero, List.set_cons_succ]))
  (refine wpSeqE_do rfl (by rfl) (fun KK hK => ?_); go_simp)
  refine hK.out _ _ (fun _ => HB.out _ (A.out.on (bl1 _ _)).bl) ?_
  (clear hK KK; try simp only [Act.put, List.setIfInBounds_toArray, List.set_cons_zero, List.set_cons_succ])
  (repeat (refine wpSeqE_take (v := ?_) rfl (by rfl) (fun wq hSq => ?_) ?_; rotate_left; (focus ((try dsimp only at hSq); go_simp; try with_reducible rfl)); simp only [Act.put, List.setIfInBounds_toArray, List.set_cons_zero, List.set_cons_succ]))
  (refine wpSeqE_do rfl (by rfl) (fun KK hK => ?_); go_simp)
  refine (g_store ((A.out.take 1).parts rfl) rfl (Nat.le_of_ble_eq_true rfl) (Nat.le_of_ble_eq_true rfl) (Nat.le_of_ble_eq_true rfl) _ _).mono ?_; rintro e u ⟨g, n, c, rfl, h⟩; replace A := Lib.hid ((A.out.drop 1).over h.out); clear h
  refine hK.out _ _ (fun _ => HB.out _ A.out.bl) ?_
  (clear hK KK; try simp only [Act.put, List.setIfInBounds_toArray, List.set_cons_zero, List.set_cons_succ])
  (repeat (refine wpSeqE_take (v := ?_) rfl (by rfl) (fun wq hSq => ?_) ?_; rotate_left; (focus ((try dsimp only at hSq); go_simp; try with_reducible rfl)); simp only [Act.put, List.setIfInBounds_toArray, List.set_cons_zero, List.set_cons_succ]))
  (refine wpSeqE_do rfl (by rfl) (fun KK hK => ?_); go_simp)
  refine (g_mark _ _).mono ?_; rintro e u ⟨g, n, c, rfl, h⟩; replace A := Lib.hid (A.out.more h.out); clear h
  refine hK.out _ _ (fun _ => HB.out _ A.out.bl) ?_
  (clear hK KK; try simp only [Act.put, List.setIfInBounds_toArray, List.set_cons_zero, List.set_cons_succ])
  (repeat (refine wpSeqE_take (v := ?_) rfl (by rfl) (fun wq hSq => ?_) ?_; rotate_left; (focus ((try dsimp only at hSq); go_simp; try with_reducible rfl)); simp only [Act.put, List.setIfInBounds_toArray, List.set_cons_zero, List.set_cons_succ]))
  (refine wpSeqE_do rfl (by rfl) (fun KK hK => ?_); go_simp)
  refine (g_ahead hB hR _).mono ?_; rintro e u ⟨g, n, c, rfl, h⟩; replace A := Lib.hid (A.out.more h.out); clear h
  refine hK.out _ _ (fun _ => HB.out _ A.out.bl) ?_
  (clear hK KK; try simp only [Act.put, List.setIfInBounds_toArray, List.set_cons_zero, List.set_cons_succ])
  (repeat (refine wpSeqE_take (v := ?_) rfl (by rfl) (fun wq hSq => ?_) ?_; rotate_left; (focus ((try dsimp only at hSq); go_simp; try with_reducible rfl)); simp only [Act.put, List.setIfInBounds_toArray, List.set_cons_zero, List.set_cons_succ]))
  (refine wpSeqE_do rfl (by rfl) (fun KK hK => ?_); go_simp)
  refine (g_behind hB hR _).mono ?_; rintro e u ⟨g, n, c, rfl, h⟩; replace A := Lib.hid (A.out.more h.out); clear h
  refine hK.out _ _ (fun _ => HB.out _ A.out.bl) ?_
  (clear hK KK; try simp only [Act.put, List.setIfInBounds_toArray, List.set_cons_zero, List.set_cons_succ])
  (repeat (refine wpSeqE_take (v := ?_) rfl (by rfl) (fun wq hSq => ?_) ?_; rotate_left; (focus ((try dsimp only at hSq); go_simp; try with_reducible rfl)); simp only [Act.put, List.setIfInBounds_toArray, List.set_cons_zero, List.set_cons_succ]))
  (refine wpSeqE_do rfl (by rfl) (fun KK hK => ?_); go_simp)
  refine (g_two _ _).mono ?_; rintro e u ⟨g, n, c, rfl, h⟩; replace A := Lib.hid (A.out.more h.out); clear h
  refine hK.out _ _ (fun _ => HB.out _ A.out.bl) ?_
  (clear hK KK; try simp only [Act.put, List.setIfInBounds_toArray, List.set_cons_zero, List.set_cons_succ])
  (repeat (refine wpSeqE_take (v := ?_) rfl (by rfl) (fun wq hSq => ?_) ?_; rotate_left; (focus ((try dsimp only at hSq); go_simp; try with_reducible rfl)); simp only [Act.put, List.setIfInBounds_toArray, List.set_cons_zero, List.set_cons_succ]))
  (refine wpSeqE_do rfl (by rfl) (fun KK hK => ?_); go_simp)
  refine (g_get _ _).mono ?_; rintro e u ⟨g, n, c, rfl, h⟩; replace A := Lib.hid (A.out.more h.out); clear h
  refine hK.out _ _ (fun _ => HB.out _ A.out.bl) ?_
  (clear hK KK; try simp only [Act.put, List.setIfInBounds_toArray, List.set_cons_zero, List.set_cons_succ])
  (repeat (refine wpSeqE_take (v := ?_) rfl (by rfl) (fun wq hSq => ?_) ?_; rotate_left; (focus ((try dsimp only at hSq); go_simp; try with_reducible rfl)); simp only [Act.put, List.setIfInBounds_toArray, List.set_cons_zero, List.set_cons_succ]))
  (refine wpSeqE_do rfl (by rfl) (fun KK hK => ?_); go_simp)
  refine (g_two _ _).mono ?_; rintro e u ⟨g, n, c, rfl, h⟩; replace A := Lib.hid (A.out.more h.out); clear h
  refine hK.out _ _ (fun _ => HB.out _ A.out.bl) ?_
  (clear hK KK; try simp only [Act.put, List.setIfInBounds_toArray, List.set_cons_zero, List.set_cons_succ])
  (repeat (refine wpSeqE_take (v := ?_) rfl (by rfl) (fun wq hSq => ?_) ?_; rotate_left; (focus ((try dsimp only at hSq); go_simp; try with_reducible rfl)); simp only [Act.put, List.setIfInBounds_toArray, List.set_cons_zero, List.set_cons_succ]))
  (refine wpSeqE_do rfl (by rfl) (fun KK hK => ?_); go_simp)
  refine hK.out _ _ (fun _ => HB.out _ (A.out.on (bl1 _ _)).bl) ?_
  (clear hK KK; try simp only [Act.put, List.setIfInBounds_toArray, List.set_cons_zero, List.set_cons_succ])
  (repeat (refine wpSeqE_take (v := ?_) rfl (by rfl) (fun wq hSq => ?_) ?_; rotate_left; (focus ((try dsimp only at hSq); go_simp; try with_reducible rfl)); simp only [Act.put, List.setIfInBounds_toArray, List.set_cons_zero, List.set_cons_succ]))
  (refine wpSeqE_do rfl (by rfl) (fun KK hK => ?_); go_simp)
  refine (g_relink hB hR ((A.out.take 5).parts rfl) rfl (Nat.le_of_ble_eq_true rfl) (Nat.le_of_ble_eq_true rfl) (Nat.le_of_ble_eq_true rfl)).mono ?_; rintro e u ⟨g, n, c, rfl, h⟩; replace A := Lib.hid ((A.out.drop 5).over h.out); clear h
  refine hK.out _ _ (fun _ => HB.out _ A.out.bl) ?_
  (clear hK KK; try simp only [Act.put, List.setIfInBounds_toArray, List.set_cons_zero, List.set_cons_succ])
  (repeat (refine wpSeqE_take (v := ?_) rfl (by rfl) (fun wq hSq => ?_) ?_; rotate_left; (focus ((try dsimp only at hSq); go_simp; try with_reducible rfl)); simp only [Act.put, List.setIfInBounds_toArray, List.set_cons_zero, List.set_cons_succ]))
  (refine wpSeqE_do rfl (by rfl) (fun KK hK => ?_); go_simp)
  refine (g_spare hB hR _).mono ?_; rintro e u ⟨rfl, h⟩; replace A := Lib.hid (A.out.on h); clear h
  refine hK.out _ _ (fun _ => HB.out _ A.out.bl) ?_
  (clear hK KK; try simp only [Act.put, List.setIfInBounds_toArray, List.set_cons_zero, List.set_cons_succ])
  (repeat (refine wpSeqE_take (v := ?_) rfl (by rfl) (fun wq hSq => ?_) ?_; rotate_left; (focus ((try dsimp only at hSq); go_simp; try with_reducible rfl)); simp only [Act.put, List.setIfInBounds_toArray, List.set_cons_zero, List.set_cons_succ]))
  (refine wpSeqE_do rfl (by rfl) (fun KK hK => ?_); go_simp)
  refine (g_folded hB hR _ _).mono ?_; rintro e u ⟨g, n, c, rfl, h⟩; replace A := Lib.hid (A.out.more h.out); clear h
  refine hK.out _ _ (fun _ => HB.out _ A.out.bl) ?_
  (clear hK KK; try simp only [Act.put, List.setIfInBounds_toArray, List.set_cons_zero, List.set_cons_succ])
  (repeat (refine wpSeqE_take (v := ?_) rfl (by rfl) (fun wq hSq => ?_) ?_; rotate_left; (focus ((try dsimp only at hSq); go_simp; try with_reducible rfl)); simp only [Act.put, List.setIfInBounds_toArray, List.set_cons_zero, List.set_cons_succ]))
  (refine wpSeqE_do rfl (by rfl) (fun KK hK => ?_); go_simp)
  refine hK.out _ _ (fun _ => HB.out _ (A.out.on (bl1 _ _)).bl) ?_
  (clear hK KK; try simp only [Act.put, List.setIfInBounds_toArray, List.set_cons_zero, List.set_cons_succ])
  (repeat (refine wpSeqE_take (v := ?_) rfl (by rfl) (fun wq hSq => ?_) ?_; rotate_left; (focus ((try dsimp only at hSq); go_simp; try with_reducible rfl)); simp only [Act.put, List.setIfInBounds_toArray, List.set_cons_zero, List.set_cons_succ]))
  (refine wpSeqE_do rfl (by rfl) (fun KK hK => ?_); go_simp)
  refine (g_store ((A.out.take 1).parts rfl) rfl (Nat.le_of_ble_eq_true rfl) (Nat.le_of_ble_eq_true rfl) (Nat.le_of_ble_eq_true rfl) _ _).mono ?_; rintro e u ⟨g, n, c, rfl, h⟩; replace A := Lib.hid ((A.out.drop 1).over h.out); clear h
  refine hK.out _ _ (fun _ => HB.out _ A.out.bl) ?_
  (clear hK KK; try simp only [Act.put, List.setIfInBounds_toArray, List.set_cons_zero, List.set_cons_succ])
  (repeat (refine wpSeqE_take (v := ?_) rfl (by rfl) (fun wq hSq => ?_) ?_; rotate_left; (focus ((try dsimp only at hSq); go_simp; try with_reducible rfl)); simp only [Act.put, List.setIfInBounds_toArray, List.set_cons_zero, List.set_cons_succ]))
  (refine wpSeqE_do rfl (by rfl) (fun KK hK => ?_); go_simp)
  refine (g_get _ _).mono ?_; rintro e u ⟨g, n, c, rfl, h⟩; replace A := Lib.hid (A.out.more h.out); clear h
  refine hK.out _ _ (fun _ => HB.out _ A.out.bl) ?_
  (clear hK KK; try simp only [Act.put, List.setIfInBounds_toArray, List.set_cons_zero, List.set_cons_succ])
  (repeat (refine wpSeqE_take (v := ?_) rfl (by rfl) (fun wq hSq => ?_) ?_; rotate_left; (focus ((try dsimp only at hSq); go_simp; try with_reducible rfl)); simp only [Act.put, List.setIfInBounds_toArray, List.set_cons_zero, List.set_cons_succ]))
  (refine wpSeqE_do rfl (by rfl) (fun KK hK => ?_); go_simp)
  refine (g_spare hB hR _).mono ?_; rintro e u ⟨rfl, h⟩; replace A := Lib.hid (A.out.on h); clear h
  refine hK.out _ _ (fun _ => HB.out _ A.out.bl) ?_
  (clear hK KK; try simp only [Act.put, List.setIfInBounds_toArray, List.set_cons_zero, List.set_cons_succ])
  (repeat (refine wpSeqE_take (v := ?_) rfl (by rfl) (fun wq hSq => ?_) ?_; rotate_left; (focus ((try dsimp only at hSq); go_simp; try with_reducible rfl)); simp only [Act.put, List.setIfInBounds_toArray, List.set_cons_zero, List.set_cons_succ]))
  (refine wpSeqE_do rfl (by rfl) (fun KK hK => ?_); go_simp)
  refine (g_push _ _).mono ?_; rintro e u ⟨g, n, c, rfl, h⟩; replace A := Lib.hid (A.out.more h.out); clear h
  refine hK.out _ _ (fun _ => HB.out _ A.out.bl) ?_
  (clear hK KK; try simp only [Act.put, List.setIfInBounds_toArray, List.set_cons_zero, List.set_cons_succ])
  (repeat (refine wpSeqE_take (v := ?_) rfl (by rfl) (fun wq hSq => ?_) ?_; rotate_left; (focus ((try dsimp only at hSq); go_simp; try with_reducible rfl)); simp only [Act.put, List.setIfInBounds_toArray, List.set_cons_zero, List.set_cons_succ]))
  (refine wpSeqE_do rfl (by rfl) (fun KK hK => ?_); go_simp)
  refine (g_write _).mono ?_; rintro e u ⟨g, n, c, rfl, h⟩; replace A := Lib.hid (A.out.more h.out); clear h
  refine hK.out _ _ (fun _ => HB.out _ A.out.bl) ?_
  (clear hK KK; try simp only [Act.put, List.setIfInBounds_toArray, List.set_cons_zero, List.set_cons_succ])
  (repeat (refine wpSeqE_take (v := ?_) rfl (by rfl) (fun wq hSq => ?_) ?_; rotate_left; (focus ((try dsimp only at hSq); go_simp; try with_reducible rfl)); simp only [Act.put, List.setIfInBounds_toArray, List.set_cons_zero, List.set_cons_succ]))
  (refine wpSeqE_do rfl (by rfl) (fun KK hK => ?_); go_simp)
  refine (g_grow hB hR _ _).mono ?_; rintro e u ⟨g, n, c, rfl, h⟩; replace A := Lib.hid (A.out.more h.out); clear h
  refine hK.out _ _ (fun _ => HB.out _ A.out.bl) ?_
  (clear hK KK; try simp only [Act.put, List.setIfInBounds_toArray, List.set_cons_zero, List.set_cons_succ])
  (repeat (refine wpSeqE_take (v := ?_) rfl (by rfl) (fun wq hSq => ?_) ?_; rotate_left; (focus ((try dsimp only at hSq); go_simp; try with_reducible rfl)); simp only [Act.put, List.setIfInBounds_toArray, List.set_cons_zero, List.set_cons_succ]))
  (refine wpSeqE_do rfl (by rfl) (fun KK hK => ?_); go_simp)
  refine (g_tell _ _).mono ?_; rintro e u ⟨g, n, c, rfl, h⟩; replace A := Lib.hid (A.out.more h.out); clear h
  refine hK.out _ _ (fun _ => HB.out _ A.out.bl) ?_
  (clear hK KK; try simp only [Act.put, List.setIfInBounds_toArray, List.set_cons_zero, List.set_cons_succ])
  (repeat (refine wpSeqE_take (v := ?_) rfl (by rfl) (fun wq hSq => ?_) ?_; rotate_left; (focus ((try dsimp only at hSq); go_simp; try with_reducible rfl)); simp only [Act.put, List.setIfInBounds_toArray, List.set_cons_zero, List.set_cons_succ]))
  (refine wpSeqE_do rfl (by rfl) (fun KK hK => ?_); go_simp)
  refine hK.out _ _ (fun _ => HB.out _ (A.out.on (bl1 _ _)).bl) ?_
  (clear hK KK; try simp only [Act.put, List.setIfInBounds_toArray, List.set_cons_zero, List.set_cons_succ])
  (repeat (refine wpSeqE_take (v := ?_) rfl (by rfl) (fun wq hSq => ?_) ?_; rotate_left; (focus ((try dsimp only at hSq); go_simp; try with_reducible rfl)); simp only [Act.put, List.setIfInBounds_toArray, List.set_cons_zero, List.set_cons_succ]))
  (refine wpSeqE_do rfl (by rfl) (fun KK hK => ?_); go_simp)
  refine (g_program 2 (A.out.parts rfl) rfl (Nat.le_of_ble_eq_true rfl) (Nat.le_of_ble_eq_true rfl) (Nat.le_of_ble_eq_true rfl) (del_wf B R) (HT.out.on ((pgW_bl w B R).trans (((A.out.on (bl1 _ _)).bl).mono (by rw [pgW_size]; omega)))) (del_ans B R)).mono ?_; rintro e u ⟨p, n, c, rfl, hZ⟩; have HBL := Lib.hid (A.out.bl.trans (((bl1 _ _).trans (hZ.out.2.2.mono (by simp))).mono A.out.bl.size)); obtain ⟨⟨x0, x1⟩, y0, y1, y2, y3, y4⟩ := pg_cells w B R _ HBL.out
  refine hK.out _ _ (fun _ => ⟨x0, x1⟩) ?_
  (clear hK KK; try simp only [Act.put, List.setIfInBounds_toArray, List.set_cons_zero, List.set_cons_succ])
  (repeat (refine wpSeqE_take (v := ?_) rfl (by rfl) (fun wq hSq => ?_) ?_; rotate_left; (focus ((try dsimp only at hSq); go_simp; try with_reducible rfl)); simp only [Act.put, List.setIfInBounds_toArray, List.set_cons_zero, List.set_cons_succ]))
  (refine wpSeqE_do rfl (by rfl) (fun KK hK => ?_); go_simp)
  refine hK.out _ _ (fun hn => absurd rfl hn) ?_
  (clear hK KK; try simp only [Act.put])
  refine wpSeqE_nil ?_
  go_wp2_with fail
  obtain ⟨f1, f2, f3⟩ := hZ.out
  change RowW 63 3 u p c n (codC ((bsOf 2 (delO B R).flatten).filled.map fixI)) at f2
  change n = (bsOf 2 (delO B R).flatten).code.length at f1
  rw [del_code] at f2
  obtain ⟨z1, z2, z3⟩ := pg_end (t := 2) HBL.out f2
  exact pg_back rfl (w.heap.size + 1) 2 p n c rfl z1 rfl ⟨p, n, c, rfl, f1.trans (bs_len (del_code B R)), z2, z3⟩

set_option maxHeartbeats 2000000 in
set_option maxRecDepth 100000 in
theorem g_pleast (hB : 0 ≤ B ∧ B ≤ 256) (hR : 0 ≤ R ∧ R ≤ 16) (hT : Shaped5 w) : Calls Tryd.prog 9 #[.agg #[.int .i64 B, .int .i64 R]] w fun e w' => PgC w 1 (leastC B R) e w' := by
  have HB : Hid (∀ u, Below (pgW w B R).heap.size (pgW w B R) u → u.cell? ⟨w.heap.size, 0, none⟩ = some (.int .i64 B) ∧ u.cell? ⟨w.heap.size, 1, none⟩ = some (.int .i64 R)) := fun u k => (pg_cells w B R u k).1
  have A : Hid (Acc (pgW w B R) ((pgW w B R).drew) []) := acc_nil ((Same.drew _).below _)
  have HT : Hid (Shaped5 w) := hT
  clear hT
  go_enter Tryd.func9, Tryd.ntmps9
  go_wp2_with fail
  refine wp_region_seqE (fun u => u.cell? ⟨w.heap.size, 0, none⟩ = some (.int .i64 B) ∧ u.cell? ⟨w.heap.size, 1, none⟩ = some (.int .i64 R)) ((0, true) :: (2, true) :: (1, false) :: (3, false) :: (4, false) :: (5, false) :: (6, false) :: (7, false) :: (8, false) :: (9, false) :: (10, false) :: (11, false) :: []) follows (by kernel_rfl) (fun _ _ _ _ _ h => h) (HB.out _ ((Same.drew _).below _)) ?_
  (repeat (refine wpSeqE_take (v := ?_) rfl (by rfl) (fun wq hSq => ?_) ?_; rotate_left; (focus ((try dsimp only at hSq); go_simp; try with_reducible rfl)); simp only [Act.put, List.setIfInBounds_toArray, List.set_cons_zero, List.set_cons_succ]))
  (refine wpSeqE_do rfl (by rfl) (fun KK hK => ?_); go_simp)
  refine (g_begin hB hR _).mono ?_; rintro e u ⟨g, n, c, rfl, h⟩; replace A := Lib.hid (A.out.more h.out); clear h
  refine hK.out _ _ (fun _ => HB.out _ A.out.bl) ?_
  (clear hK KK; try simp only [Act.put, List.setIfInBounds_toArray, List.set_cons_zero, List.set_cons_succ])
  (repeat (refine wpSeqE_take (v := ?_) rfl (by rfl) (fun wq hSq => ?_) ?_; rotate_left; (focus ((try dsimp only at hSq); go_simp; try with_reducible rfl)); simp only [Act.put, List.setIfInBounds_toArray, List.set_cons_zero, List.set_cons_succ]))
  (refine wpSeqE_do rfl (by rfl) (fun KK hK => ?_); go_simp)
  refine (g_get _ _).mono ?_; rintro e u ⟨g, n, c, rfl, h⟩; replace A := Lib.hid (A.out.more h.out); clear h
  refine hK.out _ _ (fun _ => HB.out _ A.out.bl) ?_
  (clear hK KK; try simp only [Act.put, List.setIfInBounds_toArray, List.set_cons_zero, List.set_cons_succ])
  (repeat (refine wpSeqE_take (v := ?_) rfl (by rfl) (fun wq hSq => ?_) ?_; rotate_left; (focus ((try dsimp only at hSq); go_simp; try with_reducible rfl)); simp only [Act.put, List.setIfInBounds_toArray, List.set_cons_zero, List.set_cons_succ]))
  (refine wpSeqE_do rfl (by rfl) (fun KK hK => ?_); go_simp)
  refine (g_set _ _).mono ?_; rintro e u ⟨g, n, c, rfl, h⟩; replace A := Lib.hid (A.out.more h.out); clear h
  refine hK.out _ _ (fun _ => HB.out _ A.out.bl) ?_
  (clear hK KK; try simp only [Act.put, List.setIfInBounds_toArray, List.set_cons_zero, List.set_cons_succ])
  (repeat (refine wpSeqE_take (v := ?_) rfl (by rfl) (fun wq hSq => ?_) ?_; rotate_left; (focus ((try dsimp only at hSq); go_simp; try with_reducible rfl)); simp only [Act.put, List.setIfInBounds_toArray, List.set_cons_zero, List.set_cons_succ]))
  (refine wpSeqE_do rfl (by rfl) (fun KK hK => ?_); go_simp)
  refine hK.out _ _ (fun _ => HB.out _ (A.out.on (bl1 _ _)).bl) ?_
  (clear hK KK; try simp only [Act.put, List.setIfInBounds_toArray, List.set_cons_zero, List.set_cons_succ])
  (repeat (refine wpSeqE_take (v := ?_) rfl (by rfl) (fun wq hSq => ?_) ?_; rotate_left; (focus ((try dsimp only at hSq); go_simp; try with_reducible rfl)); simp only [Act.put, List.setIfInBounds_toArray, List.set_cons_zero, List.set_cons_succ]))
  (refine wpSeqE_do rfl (by rfl) (fun KK hK => ?_); go_simp)
  refine (g_walk hB hR ((A.out.take 2).parts rfl) rfl (Nat.le_of_ble_eq_true rfl) (Nat.le_of_ble_eq_true rfl) (Nat.le_of_ble_eq_true rfl) _ _).mono ?_; rintro e u ⟨g, n, c, rfl, h⟩; replace A := Lib.hid ((A.out.drop 2).over h.out); clear h
  refine hK.out _ _ (fun _ => HB.out _ A.out.bl) ?_
  (clear hK KK; try simp only [Act.put, List.setIfInBounds_toArray, List.set_cons_zero, List.set_cons_succ])
  (repeat (refine wpSeqE_take (v := ?_) rfl (by rfl) (fun wq hSq => ?_) ?_; rotate_left; (focus ((try dsimp only at hSq); go_simp; try with_reducible rfl)); simp only [Act.put, List.setIfInBounds_toArray, List.set_cons_zero, List.set_cons_succ]))
  (refine wpSeqE_do rfl (by rfl) (fun KK hK => ?_); go_simp)
  refine (g_mark _ _).mono ?_; rintro e u ⟨g, n, c, rfl, h⟩; replace A := Lib.hid (A.out.more h.out); clear h
  refine hK.out _ _ (fun _ => HB.out _ A.out.bl) ?_
  (clear hK KK; try simp only [Act.put, List.setIfInBounds_toArray, List.set_cons_zero, List.set_cons_succ])
  (repeat (refine wpSeqE_take (v := ?_) rfl (by rfl) (fun wq hSq => ?_) ?_; rotate_left; (focus ((try dsimp only at hSq); go_simp; try with_reducible rfl)); simp only [Act.put, List.setIfInBounds_toArray, List.set_cons_zero, List.set_cons_succ]))
  (refine wpSeqE_do rfl (by rfl) (fun KK hK => ?_); go_simp)
  refine (g_emitKept _).mono ?_; rintro e u ⟨g, n, c, rfl, h⟩; replace A := Lib.hid (A.out.more h.out); clear h
  refine hK.out _ _ (fun _ => HB.out _ A.out.bl) ?_
  (clear hK KK; try simp only [Act.put, List.setIfInBounds_toArray, List.set_cons_zero, List.set_cons_succ])
  (repeat (refine wpSeqE_take (v := ?_) rfl (by rfl) (fun wq hSq => ?_) ?_; rotate_left; (focus ((try dsimp only at hSq); go_simp; try with_reducible rfl)); simp only [Act.put, List.setIfInBounds_toArray, List.set_cons_zero, List.set_cons_succ]))
  (refine wpSeqE_do rfl (by rfl) (fun KK hK => ?_); go_simp)
  refine hK.out _ _ (fun _ => HB.out _ (A.out.on (bl1 _ _)).bl) ?_
  (clear hK KK; try simp only [Act.put, List.setIfInBounds_toArray, List.set_cons_zero, List.set_cons_succ])
  (repeat (refine wpSeqE_take (v := ?_) rfl (by rfl) (fun wq hSq => ?_) ?_; rotate_left; (focus ((try dsimp only at hSq); go_simp; try with_reducible rfl)); simp only [Act.put, List.setIfInBounds_toArray, List.set_cons_zero, List.set_cons_succ]))
  (refine wpSeqE_do rfl (by rfl) (fun KK hK => ?_); go_simp)
  refine (g_program 1 (A.out.parts rfl) rfl (Nat.le_of_ble_eq_true rfl) (Nat.le_of_ble_eq_true rfl) (Nat.le_of_ble_eq_true rfl) (least_wf B R) (HT.out.on ((pgW_bl w B R).trans (((A.out.on (bl1 _ _)).bl).mono (by rw [pgW_size]; omega)))) (least_ans B R)).mono ?_; rintro e u ⟨p, n, c, rfl, hZ⟩; have HBL := Lib.hid (A.out.bl.trans (((bl1 _ _).trans (hZ.out.2.2.mono (by simp))).mono A.out.bl.size)); obtain ⟨⟨x0, x1⟩, y0, y1, y2, y3, y4⟩ := pg_cells w B R _ HBL.out
  refine hK.out _ _ (fun _ => ⟨x0, x1⟩) ?_
  (clear hK KK; try simp only [Act.put, List.setIfInBounds_toArray, List.set_cons_zero, List.set_cons_succ])
  (repeat (refine wpSeqE_take (v := ?_) rfl (by rfl) (fun wq hSq => ?_) ?_; rotate_left; (focus ((try dsimp only at hSq); go_simp; try with_reducible rfl)); simp only [Act.put, List.setIfInBounds_toArray, List.set_cons_zero, List.set_cons_succ]))
  (refine wpSeqE_do rfl (by rfl) (fun KK hK => ?_); go_simp)
  refine hK.out _ _ (fun hn => absurd rfl hn) ?_
  (clear hK KK; try simp only [Act.put])
  refine wpSeqE_nil ?_
  go_wp2_with fail
  obtain ⟨f1, f2, f3⟩ := hZ.out
  change RowW 63 3 u p c n (codC ((bsOf 1 (leastO B R).flatten).filled.map fixI)) at f2
  change n = (bsOf 1 (leastO B R).flatten).code.length at f1
  rw [least_code] at f2
  obtain ⟨z1, z2, z3⟩ := pg_end (t := 1) HBL.out f2
  exact pg_back rfl (w.heap.size + 1) 1 p n c rfl z1 rfl ⟨p, n, c, rfl, f1.trans (bs_len (least_code B R)), z2, z3⟩

set_option maxHeartbeats 2000000 in
set_option maxRecDepth 100000 in
theorem g_pafter (hB : 0 ≤ B ∧ B ≤ 256) (hR : 0 ≤ R ∧ R ≤ 16) (hT : Shaped5 w) : Calls Tryd.prog 10 #[.agg #[.int .i64 B, .int .i64 R]] w fun e w' => PgC w 1 (afterC B R) e w' := by
  have HB : Hid (∀ u, Below (pgW w B R).heap.size (pgW w B R) u → u.cell? ⟨w.heap.size, 0, none⟩ = some (.int .i64 B) ∧ u.cell? ⟨w.heap.size, 1, none⟩ = some (.int .i64 R)) := fun u k => (pg_cells w B R u k).1
  have A : Hid (Acc (pgW w B R) ((pgW w B R).drew) []) := acc_nil ((Same.drew _).below _)
  have HT : Hid (Shaped5 w) := hT
  clear hT
  go_enter Tryd.func10, Tryd.ntmps10
  go_wp2_with fail
  refine wp_region_seqE (fun u => u.cell? ⟨w.heap.size, 0, none⟩ = some (.int .i64 B) ∧ u.cell? ⟨w.heap.size, 1, none⟩ = some (.int .i64 R)) ((0, true) :: (2, true) :: (12, true) :: (1, false) :: (3, false) :: (4, false) :: (5, false) :: (6, false) :: (7, false) :: (8, false) :: (9, false) :: (10, false) :: (11, false) :: (13, false) :: (14, false) :: (15, false) :: (16, false) :: (17, false) :: (18, false) :: (19, false) :: (20, false) :: []) follows (by kernel_rfl) (fun _ _ _ _ _ h => h) (HB.out _ ((Same.drew _).below _)) ?_
  (repeat (refine wpSeqE_take (v := ?_) rfl (by rfl) (fun wq hSq => ?_) ?_; rotate_left; (focus ((try dsimp only at hSq); go_simp; try with_reducible rfl)); simp only [Act.put, List.setIfInBounds_toArray, List.set_cons_zero, List.set_cons_succ]))
  (refine wpSeqE_do rfl (by rfl) (fun KK hK => ?_); go_simp)
  refine (g_begin hB hR _).mono ?_; rintro e u ⟨g, n, c, rfl, h⟩; replace A := Lib.hid (A.out.more h.out); clear h
  refine hK.out _ _ (fun _ => HB.out _ A.out.bl) ?_
  (clear hK KK; try simp only [Act.put, List.setIfInBounds_toArray, List.set_cons_zero, List.set_cons_succ])
  (repeat (refine wpSeqE_take (v := ?_) rfl (by rfl) (fun wq hSq => ?_) ?_; rotate_left; (focus ((try dsimp only at hSq); go_simp; try with_reducible rfl)); simp only [Act.put, List.setIfInBounds_toArray, List.set_cons_zero, List.set_cons_succ]))
  (refine wpSeqE_do rfl (by rfl) (fun KK hK => ?_); go_simp)
  refine (g_arg _ _).mono ?_; rintro e u ⟨g, n, c, rfl, h⟩; replace A := Lib.hid (A.out.more h.out); clear h
  refine hK.out _ _ (fun _ => HB.out _ A.out.bl) ?_
  (clear hK KK; try simp only [Act.put, List.setIfInBounds_toArray, List.set_cons_zero, List.set_cons_succ])
  (repeat (refine wpSeqE_take (v := ?_) rfl (by rfl) (fun wq hSq => ?_) ?_; rotate_left; (focus ((try dsimp only at hSq); go_simp; try with_reducible rfl)); simp only [Act.put, List.setIfInBounds_toArray, List.set_cons_zero, List.set_cons_succ]))
  (refine wpSeqE_do rfl (by rfl) (fun KK hK => ?_); go_simp)
  refine (g_load _ _ _).mono ?_; rintro e u ⟨g, n, c, rfl, h⟩; replace A := Lib.hid (A.out.more h.out); clear h
  refine hK.out _ _ (fun _ => HB.out _ A.out.bl) ?_
  (clear hK KK; try simp only [Act.put, List.setIfInBounds_toArray, List.set_cons_zero, List.set_cons_succ])
  (repeat (refine wpSeqE_take (v := ?_) rfl (by rfl) (fun wq hSq => ?_) ?_; rotate_left; (focus ((try dsimp only at hSq); go_simp; try with_reducible rfl)); simp only [Act.put, List.setIfInBounds_toArray, List.set_cons_zero, List.set_cons_succ]))
  (refine wpSeqE_do rfl (by rfl) (fun KK hK => ?_); go_simp)
  refine (g_two _ _).mono ?_; rintro e u ⟨g, n, c, rfl, h⟩; replace A := Lib.hid (A.out.more h.out); clear h
  refine hK.out _ _ (fun _ => HB.out _ A.out.bl) ?_
  (clear hK KK; try simp only [Act.put, List.setIfInBounds_toArray, List.set_cons_zero, List.set_cons_succ])
  (repeat (refine wpSeqE_take (v := ?_) rfl (by rfl) (fun wq hSq => ?_) ?_; rotate_left; (focus ((try dsimp only at hSq); go_simp; try with_reducible rfl)); simp only [Act.put, List.setIfInBounds_toArray, List.set_cons_zero, List.set_cons_succ]))
  (refine wpSeqE_do rfl (by rfl) (fun KK hK => ?_); go_simp)
  refine (g_do _ _ _).mono ?_; rintro e u ⟨g, n, c, rfl, h⟩; replace A := Lib.hid (A.out.more h.out); clear h
  refine hK.out _ _ (fun _ => HB.out _ A.out.bl) ?_
  (clear hK KK; try simp only [Act.put, List.setIfInBounds_toArray, List.set_cons_zero, List.set_cons_succ])
  (repeat (refine wpSeqE_take (v := ?_) rfl (by rfl) (fun wq hSq => ?_) ?_; rotate_left; (focus ((try dsimp only at hSq); go_simp; try with_reducible rfl)); simp only [Act.put, List.setIfInBounds_toArray, List.set_cons_zero, List.set_cons_succ]))
  (refine wpSeqE_do rfl (by rfl) (fun KK hK => ?_); go_simp)
  refine (g_to _ _ _).mono ?_; rintro e u ⟨g, n, c, rfl, h⟩; replace A := Lib.hid (A.out.more h.out); clear h
  refine hK.out _ _ (fun _ => HB.out _ A.out.bl) ?_
  (clear hK KK; try simp only [Act.put, List.setIfInBounds_toArray, List.set_cons_zero, List.set_cons_succ])
  (repeat (refine wpSeqE_take (v := ?_) rfl (by rfl) (fun wq hSq => ?_) ?_; rotate_left; (focus ((try dsimp only at hSq); go_simp; try with_reducible rfl)); simp only [Act.put, List.setIfInBounds_toArray, List.set_cons_zero, List.set_cons_succ]))
  (refine wpSeqE_do rfl (by rfl) (fun KK hK => ?_); go_simp)
  refine (g_get _ _).mono ?_; rintro e u ⟨g, n, c, rfl, h⟩; replace A := Lib.hid (A.out.more h.out); clear h
  refine hK.out _ _ (fun _ => HB.out _ A.out.bl) ?_
  (clear hK KK; try simp only [Act.put, List.setIfInBounds_toArray, List.set_cons_zero, List.set_cons_succ])
  (repeat (refine wpSeqE_take (v := ?_) rfl (by rfl) (fun wq hSq => ?_) ?_; rotate_left; (focus ((try dsimp only at hSq); go_simp; try with_reducible rfl)); simp only [Act.put, List.setIfInBounds_toArray, List.set_cons_zero, List.set_cons_succ]))
  (refine wpSeqE_do rfl (by rfl) (fun KK hK => ?_); go_simp)
  refine (g_set _ _).mono ?_; rintro e u ⟨g, n, c, rfl, h⟩; replace A := Lib.hid (A.out.more h.out); clear h
  refine hK.out _ _ (fun _ => HB.out _ A.out.bl) ?_
  (clear hK KK; try simp only [Act.put, List.setIfInBounds_toArray, List.set_cons_zero, List.set_cons_succ])
  (repeat (refine wpSeqE_take (v := ?_) rfl (by rfl) (fun wq hSq => ?_) ?_; rotate_left; (focus ((try dsimp only at hSq); go_simp; try with_reducible rfl)); simp only [Act.put, List.setIfInBounds_toArray, List.set_cons_zero, List.set_cons_succ]))
  (refine wpSeqE_do rfl (by rfl) (fun KK hK => ?_); go_simp)
  refine (g_mark _ _).mono ?_; rintro e u ⟨g, n, c, rfl, h⟩; replace A := Lib.hid (A.out.more h.out); clear h
  refine hK.out _ _ (fun _ => HB.out _ A.out.bl) ?_
  (clear hK KK; try simp only [Act.put, List.setIfInBounds_toArray, List.set_cons_zero, List.set_cons_succ])
  (repeat (refine wpSeqE_take (v := ?_) rfl (by rfl) (fun wq hSq => ?_) ?_; rotate_left; (focus ((try dsimp only at hSq); go_simp; try with_reducible rfl)); simp only [Act.put, List.setIfInBounds_toArray, List.set_cons_zero, List.set_cons_succ]))
  (refine wpSeqE_do rfl (by rfl) (fun KK hK => ?_); go_simp)
  refine (g_one _ _).mono ?_; rintro e u ⟨g, n, c, rfl, h⟩; replace A := Lib.hid (A.out.more h.out); clear h
  refine hK.out _ _ (fun _ => HB.out _ A.out.bl) ?_
  (clear hK KK; try simp only [Act.put, List.setIfInBounds_toArray, List.set_cons_zero, List.set_cons_succ])
  (repeat (refine wpSeqE_take (v := ?_) rfl (by rfl) (fun wq hSq => ?_) ?_; rotate_left; (focus ((try dsimp only at hSq); go_simp; try with_reducible rfl)); simp only [Act.put, List.setIfInBounds_toArray, List.set_cons_zero, List.set_cons_succ]))
  (refine wpSeqE_do rfl (by rfl) (fun KK hK => ?_); go_simp)
  refine (g_turn hB hR _).mono ?_; rintro e u ⟨g, n, c, rfl, h⟩; replace A := Lib.hid (A.out.more h.out); clear h
  refine hK.out _ _ (fun _ => HB.out _ A.out.bl) ?_
  (clear hK KK; try simp only [Act.put, List.setIfInBounds_toArray, List.set_cons_zero, List.set_cons_succ])
  (repeat (refine wpSeqE_take (v := ?_) rfl (by rfl) (fun wq hSq => ?_) ?_; rotate_left; (focus ((try dsimp only at hSq); go_simp; try with_reducible rfl)); simp only [Act.put, List.setIfInBounds_toArray, List.set_cons_zero, List.set_cons_succ]))
  (refine wpSeqE_do rfl (by rfl) (fun KK hK => ?_); go_simp)
  refine hK.out _ _ (fun _ => HB.out _ (A.out.on (bl1 _ _)).bl) ?_
  (clear hK KK; try simp only [Act.put, List.setIfInBounds_toArray, List.set_cons_zero, List.set_cons_succ])
  (repeat (refine wpSeqE_take (v := ?_) rfl (by rfl) (fun wq hSq => ?_) ?_; rotate_left; (focus ((try dsimp only at hSq); go_simp; try with_reducible rfl)); simp only [Act.put, List.setIfInBounds_toArray, List.set_cons_zero, List.set_cons_succ]))
  (refine wpSeqE_do rfl (by rfl) (fun KK hK => ?_); go_simp)
  refine (g_walk hB hR ((A.out.take 10).parts rfl) rfl (Nat.le_of_ble_eq_true rfl) (Nat.le_of_ble_eq_true rfl) (Nat.le_of_ble_eq_true rfl) _ _).mono ?_; rintro e u ⟨g, n, c, rfl, h⟩; replace A := Lib.hid ((A.out.drop 10).over h.out); clear h
  refine hK.out _ _ (fun _ => HB.out _ A.out.bl) ?_
  (clear hK KK; try simp only [Act.put, List.setIfInBounds_toArray, List.set_cons_zero, List.set_cons_succ])
  (repeat (refine wpSeqE_take (v := ?_) rfl (by rfl) (fun wq hSq => ?_) ?_; rotate_left; (focus ((try dsimp only at hSq); go_simp; try with_reducible rfl)); simp only [Act.put, List.setIfInBounds_toArray, List.set_cons_zero, List.set_cons_succ]))
  (refine wpSeqE_do rfl (by rfl) (fun KK hK => ?_); go_simp)
  refine (g_mark _ _).mono ?_; rintro e u ⟨g, n, c, rfl, h⟩; replace A := Lib.hid (A.out.more h.out); clear h
  refine hK.out _ _ (fun _ => HB.out _ A.out.bl) ?_
  (clear hK KK; try simp only [Act.put, List.setIfInBounds_toArray, List.set_cons_zero, List.set_cons_succ])
  (repeat (refine wpSeqE_take (v := ?_) rfl (by rfl) (fun wq hSq => ?_) ?_; rotate_left; (focus ((try dsimp only at hSq); go_simp; try with_reducible rfl)); simp only [Act.put, List.setIfInBounds_toArray, List.set_cons_zero, List.set_cons_succ]))
  (refine wpSeqE_do rfl (by rfl) (fun KK hK => ?_); go_simp)
  refine (g_emitKept _).mono ?_; rintro e u ⟨g, n, c, rfl, h⟩; replace A := Lib.hid (A.out.more h.out); clear h
  refine hK.out _ _ (fun _ => HB.out _ A.out.bl) ?_
  (clear hK KK; try simp only [Act.put, List.setIfInBounds_toArray, List.set_cons_zero, List.set_cons_succ])
  (repeat (refine wpSeqE_take (v := ?_) rfl (by rfl) (fun wq hSq => ?_) ?_; rotate_left; (focus ((try dsimp only at hSq); go_simp; try with_reducible rfl)); simp only [Act.put, List.setIfInBounds_toArray, List.set_cons_zero, List.set_cons_succ]))
  (refine wpSeqE_do rfl (by rfl) (fun KK hK => ?_); go_simp)
  refine hK.out _ _ (fun _ => HB.out _ (A.out.on (bl1 _ _)).bl) ?_
  (clear hK KK; try simp only [Act.put, List.setIfInBounds_toArray, List.set_cons_zero, List.set_cons_succ])
  (repeat (refine wpSeqE_take (v := ?_) rfl (by rfl) (fun wq hSq => ?_) ?_; rotate_left; (focus ((try dsimp only at hSq); go_simp; try with_reducible rfl)); simp only [Act.put, List.setIfInBounds_toArray, List.set_cons_zero, List.set_cons_succ]))
  (refine wpSeqE_do rfl (by rfl) (fun KK hK => ?_); go_simp)
  refine (g_program 1 (A.out.parts rfl) rfl (Nat.le_of_ble_eq_true rfl) (Nat.le_of_ble_eq_true rfl) (Nat.le_of_ble_eq_true rfl) (after_wf B R) (HT.out.on ((pgW_bl w B R).trans (((A.out.on (bl1 _ _)).bl).mono (by rw [pgW_size]; omega)))) (after_ans B R)).mono ?_; rintro e u ⟨p, n, c, rfl, hZ⟩; have HBL := Lib.hid (A.out.bl.trans (((bl1 _ _).trans (hZ.out.2.2.mono (by simp))).mono A.out.bl.size)); obtain ⟨⟨x0, x1⟩, y0, y1, y2, y3, y4⟩ := pg_cells w B R _ HBL.out
  refine hK.out _ _ (fun _ => ⟨x0, x1⟩) ?_
  (clear hK KK; try simp only [Act.put, List.setIfInBounds_toArray, List.set_cons_zero, List.set_cons_succ])
  (repeat (refine wpSeqE_take (v := ?_) rfl (by rfl) (fun wq hSq => ?_) ?_; rotate_left; (focus ((try dsimp only at hSq); go_simp; try with_reducible rfl)); simp only [Act.put, List.setIfInBounds_toArray, List.set_cons_zero, List.set_cons_succ]))
  (refine wpSeqE_do rfl (by rfl) (fun KK hK => ?_); go_simp)
  refine hK.out _ _ (fun hn => absurd rfl hn) ?_
  (clear hK KK; try simp only [Act.put])
  refine wpSeqE_nil ?_
  go_wp2_with fail
  obtain ⟨f1, f2, f3⟩ := hZ.out
  change RowW 63 3 u p c n (codC ((bsOf 1 (afterO B R).flatten).filled.map fixI)) at f2
  change n = (bsOf 1 (afterO B R).flatten).code.length at f1
  rw [after_code] at f2
  obtain ⟨z1, z2, z3⟩ := pg_end (t := 1) HBL.out f2
  exact pg_back rfl (w.heap.size + 1) 1 p n c rfl z1 rfl ⟨p, n, c, rfl, f1.trans (bs_len (after_code B R)), z2, z3⟩

set_option maxHeartbeats 2000000 in
set_option maxRecDepth 100000 in
theorem g_plen (hB : 0 ≤ B ∧ B ≤ 256) (hR : 0 ≤ R ∧ R ≤ 16) (hT : Shaped5 w) : Calls Tryd.prog 11 #[.agg #[.int .i64 B, .int .i64 R]] w fun e w' => PgC w 1 (lenC B R) e w' := by
  have HB : Hid (∀ u, Below (pgW w B R).heap.size (pgW w B R) u → u.cell? ⟨w.heap.size, 0, none⟩ = some (.int .i64 B) ∧ u.cell? ⟨w.heap.size, 1, none⟩ = some (.int .i64 R)) := fun u k => (pg_cells w B R u k).1
  have A : Hid (Acc (pgW w B R) ((pgW w B R).drew) []) := acc_nil ((Same.drew _).below _)
  have HT : Hid (Shaped5 w) := hT
  clear hT
  go_enter Tryd.func11, Tryd.ntmps11
  go_wp2_with fail
  refine wp_region_seqE (fun u => u.cell? ⟨w.heap.size, 0, none⟩ = some (.int .i64 B) ∧ u.cell? ⟨w.heap.size, 1, none⟩ = some (.int .i64 R)) ((0, true) :: (1, true) :: (2, false) :: (3, false) :: (4, false) :: (5, false) :: (6, false) :: (7, false) :: (8, false) :: []) follows (by kernel_rfl) (fun _ _ _ _ _ h => h) (HB.out _ ((Same.drew _).below _)) ?_
  (repeat (refine wpSeqE_take (v := ?_) rfl (by rfl) (fun wq hSq => ?_) ?_; rotate_left; (focus ((try dsimp only at hSq); go_simp; try with_reducible rfl)); simp only [Act.put, List.setIfInBounds_toArray, List.set_cons_zero, List.set_cons_succ]))
  (refine wpSeqE_do rfl (by rfl) (fun KK hK => ?_); go_simp)
  refine (g_count hB hR _).mono ?_; rintro e u ⟨rfl, h⟩; replace A := Lib.hid (A.out.on h); clear h
  refine hK.out _ _ (fun _ => HB.out _ A.out.bl) ?_
  (clear hK KK; try simp only [Act.put, List.setIfInBounds_toArray, List.set_cons_zero, List.set_cons_succ])
  (repeat (refine wpSeqE_take (v := ?_) rfl (by rfl) (fun wq hSq => ?_) ?_; rotate_left; (focus ((try dsimp only at hSq); go_simp; try with_reducible rfl)); simp only [Act.put, List.setIfInBounds_toArray, List.set_cons_zero, List.set_cons_succ]))
  (refine wpSeqE_do rfl (by rfl) (fun KK hK => ?_); go_simp)
  refine (g_folded hB hR _ _).mono ?_; rintro e u ⟨g, n, c, rfl, h⟩; replace A := Lib.hid (A.out.more h.out); clear h
  refine hK.out _ _ (fun _ => HB.out _ A.out.bl) ?_
  (clear hK KK; try simp only [Act.put, List.setIfInBounds_toArray, List.set_cons_zero, List.set_cons_succ])
  (repeat (refine wpSeqE_take (v := ?_) rfl (by rfl) (fun wq hSq => ?_) ?_; rotate_left; (focus ((try dsimp only at hSq); go_simp; try with_reducible rfl)); simp only [Act.put, List.setIfInBounds_toArray, List.set_cons_zero, List.set_cons_succ]))
  (refine wpSeqE_do rfl (by rfl) (fun KK hK => ?_); go_simp)
  refine (g_emit _).mono ?_; rintro e u ⟨g, n, c, rfl, h⟩; replace A := Lib.hid (A.out.more h.out); clear h
  refine hK.out _ _ (fun _ => HB.out _ A.out.bl) ?_
  (clear hK KK; try simp only [Act.put, List.setIfInBounds_toArray, List.set_cons_zero, List.set_cons_succ])
  (repeat (refine wpSeqE_take (v := ?_) rfl (by rfl) (fun wq hSq => ?_) ?_; rotate_left; (focus ((try dsimp only at hSq); go_simp; try with_reducible rfl)); simp only [Act.put, List.setIfInBounds_toArray, List.set_cons_zero, List.set_cons_succ]))
  (refine wpSeqE_do rfl (by rfl) (fun KK hK => ?_); go_simp)
  refine (g_halt _).mono ?_; rintro e u ⟨g, n, c, rfl, h⟩; replace A := Lib.hid (A.out.more h.out); clear h
  refine hK.out _ _ (fun _ => HB.out _ A.out.bl) ?_
  (clear hK KK; try simp only [Act.put, List.setIfInBounds_toArray, List.set_cons_zero, List.set_cons_succ])
  (repeat (refine wpSeqE_take (v := ?_) rfl (by rfl) (fun wq hSq => ?_) ?_; rotate_left; (focus ((try dsimp only at hSq); go_simp; try with_reducible rfl)); simp only [Act.put, List.setIfInBounds_toArray, List.set_cons_zero, List.set_cons_succ]))
  (refine wpSeqE_do rfl (by rfl) (fun KK hK => ?_); go_simp)
  refine hK.out _ _ (fun _ => HB.out _ (A.out.on (bl1 _ _)).bl) ?_
  (clear hK KK; try simp only [Act.put, List.setIfInBounds_toArray, List.set_cons_zero, List.set_cons_succ])
  (repeat (refine wpSeqE_take (v := ?_) rfl (by rfl) (fun wq hSq => ?_) ?_; rotate_left; (focus ((try dsimp only at hSq); go_simp; try with_reducible rfl)); simp only [Act.put, List.setIfInBounds_toArray, List.set_cons_zero, List.set_cons_succ]))
  (refine wpSeqE_do rfl (by rfl) (fun KK hK => ?_); go_simp)
  refine (g_program 1 (A.out.parts rfl) rfl (Nat.le_of_ble_eq_true rfl) (Nat.le_of_ble_eq_true rfl) (Nat.le_of_ble_eq_true rfl) (len_wf B R) (HT.out.on ((pgW_bl w B R).trans (((A.out.on (bl1 _ _)).bl).mono (by rw [pgW_size]; omega)))) (len_ans B R)).mono ?_; rintro e u ⟨p, n, c, rfl, hZ⟩; have HBL := Lib.hid (A.out.bl.trans (((bl1 _ _).trans (hZ.out.2.2.mono (by simp))).mono A.out.bl.size)); obtain ⟨⟨x0, x1⟩, y0, y1, y2, y3, y4⟩ := pg_cells w B R _ HBL.out
  refine hK.out _ _ (fun _ => ⟨x0, x1⟩) ?_
  (clear hK KK; try simp only [Act.put, List.setIfInBounds_toArray, List.set_cons_zero, List.set_cons_succ])
  (repeat (refine wpSeqE_take (v := ?_) rfl (by rfl) (fun wq hSq => ?_) ?_; rotate_left; (focus ((try dsimp only at hSq); go_simp; try with_reducible rfl)); simp only [Act.put, List.setIfInBounds_toArray, List.set_cons_zero, List.set_cons_succ]))
  (refine wpSeqE_do rfl (by rfl) (fun KK hK => ?_); go_simp)
  refine hK.out _ _ (fun hn => absurd rfl hn) ?_
  (clear hK KK; try simp only [Act.put])
  refine wpSeqE_nil ?_
  go_wp2_with fail
  obtain ⟨f1, f2, f3⟩ := hZ.out
  change RowW 63 3 u p c n (codC ((bsOf 1 (lenO B R).flatten).filled.map fixI)) at f2
  change n = (bsOf 1 (lenO B R).flatten).code.length at f1
  rw [len_code] at f2
  obtain ⟨z1, z2, z3⟩ := pg_end (t := 1) HBL.out f2
  exact pg_back rfl (w.heap.size + 1) 1 p n c rfl z1 rfl ⟨p, n, c, rfl, f1.trans (bs_len (len_code B R)), z2, z3⟩

set_option maxHeartbeats 2000000 in
set_option maxRecDepth 100000 in
theorem g_pall (hB : 0 ≤ B ∧ B ≤ 256) (hR : 0 ≤ R ∧ R ≤ 16) (hT : Shaped5 w) : Calls Tryd.prog 12 #[.agg #[.int .i64 B, .int .i64 R]] w fun e w' => PgC w 1 (allC B R) e w' := by
  have HB : Hid (∀ u, Below (pgW w B R).heap.size (pgW w B R) u → u.cell? ⟨w.heap.size, 0, none⟩ = some (.int .i64 B) ∧ u.cell? ⟨w.heap.size, 1, none⟩ = some (.int .i64 R)) := fun u k => (pg_cells w B R u k).1
  have A : Hid (Acc (pgW w B R) ((pgW w B R).drew) []) := acc_nil ((Same.drew _).below _)
  have HT : Hid (Shaped5 w) := hT
  clear hT
  go_enter Tryd.func12, Tryd.ntmps12
  go_wp2_with fail
  refine wp_region_seqE (fun u => u.cell? ⟨w.heap.size, 0, none⟩ = some (.int .i64 B) ∧ u.cell? ⟨w.heap.size, 1, none⟩ = some (.int .i64 R)) ((1, true) :: (3, true) :: (16, true) :: (0, false) :: (2, false) :: (4, false) :: (5, false) :: (6, false) :: (7, false) :: (8, false) :: (9, false) :: (10, false) :: (11, false) :: (12, false) :: (13, false) :: (14, false) :: (15, false) :: (17, false) :: (18, false) :: (19, false) :: (20, false) :: (21, false) :: (22, false) :: (23, false) :: (24, false) :: (25, false) :: []) follows (by kernel_rfl) (fun _ _ _ _ _ h => h) (HB.out _ ((Same.drew _).below _)) ?_
  (repeat (refine wpSeqE_take (v := ?_) rfl (by rfl) (fun wq hSq => ?_) ?_; rotate_left; (focus ((try dsimp only at hSq); go_simp; try with_reducible rfl)); simp only [Act.put, List.setIfInBounds_toArray, List.set_cons_zero, List.set_cons_succ]))
  (refine wpSeqE_do rfl (by rfl) (fun KK hK => ?_); go_simp)
  refine (g_push _ _).mono ?_; rintro e u ⟨g, n, c, rfl, h⟩; replace A := Lib.hid (A.out.more h.out); clear h
  refine hK.out _ _ (fun _ => HB.out _ A.out.bl) ?_
  (clear hK KK; try simp only [Act.put, List.setIfInBounds_toArray, List.set_cons_zero, List.set_cons_succ])
  (repeat (refine wpSeqE_take (v := ?_) rfl (by rfl) (fun wq hSq => ?_) ?_; rotate_left; (focus ((try dsimp only at hSq); go_simp; try with_reducible rfl)); simp only [Act.put, List.setIfInBounds_toArray, List.set_cons_zero, List.set_cons_succ]))
  (refine wpSeqE_do rfl (by rfl) (fun KK hK => ?_); go_simp)
  refine (g_begin hB hR _).mono ?_; rintro e u ⟨g, n, c, rfl, h⟩; replace A := Lib.hid (A.out.more h.out); clear h
  refine hK.out _ _ (fun _ => HB.out _ A.out.bl) ?_
  (clear hK KK; try simp only [Act.put, List.setIfInBounds_toArray, List.set_cons_zero, List.set_cons_succ])
  (repeat (refine wpSeqE_take (v := ?_) rfl (by rfl) (fun wq hSq => ?_) ?_; rotate_left; (focus ((try dsimp only at hSq); go_simp; try with_reducible rfl)); simp only [Act.put, List.setIfInBounds_toArray, List.set_cons_zero, List.set_cons_succ]))
  (refine wpSeqE_do rfl (by rfl) (fun KK hK => ?_); go_simp)
  refine (g_get _ _).mono ?_; rintro e u ⟨g, n, c, rfl, h⟩; replace A := Lib.hid (A.out.more h.out); clear h
  refine hK.out _ _ (fun _ => HB.out _ A.out.bl) ?_
  (clear hK KK; try simp only [Act.put, List.setIfInBounds_toArray, List.set_cons_zero, List.set_cons_succ])
  (repeat (refine wpSeqE_take (v := ?_) rfl (by rfl) (fun wq hSq => ?_) ?_; rotate_left; (focus ((try dsimp only at hSq); go_simp; try with_reducible rfl)); simp only [Act.put, List.setIfInBounds_toArray, List.set_cons_zero, List.set_cons_succ]))
  (refine wpSeqE_do rfl (by rfl) (fun KK hK => ?_); go_simp)
  refine (g_push _ _).mono ?_; rintro e u ⟨g, n, c, rfl, h⟩; replace A := Lib.hid (A.out.more h.out); clear h
  refine hK.out _ _ (fun _ => HB.out _ A.out.bl) ?_
  (clear hK KK; try simp only [Act.put, List.setIfInBounds_toArray, List.set_cons_zero, List.set_cons_succ])
  (repeat (refine wpSeqE_take (v := ?_) rfl (by rfl) (fun wq hSq => ?_) ?_; rotate_left; (focus ((try dsimp only at hSq); go_simp; try with_reducible rfl)); simp only [Act.put, List.setIfInBounds_toArray, List.set_cons_zero, List.set_cons_succ]))
  (refine wpSeqE_do rfl (by rfl) (fun KK hK => ?_); go_simp)
  refine (g_set _ _).mono ?_; rintro e u ⟨g, n, c, rfl, h⟩; replace A := Lib.hid (A.out.more h.out); clear h
  refine hK.out _ _ (fun _ => HB.out _ A.out.bl) ?_
  (clear hK KK; try simp only [Act.put, List.setIfInBounds_toArray, List.set_cons_zero, List.set_cons_succ])
  (repeat (refine wpSeqE_take (v := ?_) rfl (by rfl) (fun wq hSq => ?_) ?_; rotate_left; (focus ((try dsimp only at hSq); go_simp; try with_reducible rfl)); simp only [Act.put, List.setIfInBounds_toArray, List.set_cons_zero, List.set_cons_succ]))
  (refine wpSeqE_do rfl (by rfl) (fun KK hK => ?_); go_simp)
  refine hK.out _ _ (fun _ => HB.out _ (A.out.on (bl1 _ _)).bl) ?_
  (clear hK KK; try simp only [Act.put, List.setIfInBounds_toArray, List.set_cons_zero, List.set_cons_succ])
  (repeat (refine wpSeqE_take (v := ?_) rfl (by rfl) (fun wq hSq => ?_) ?_; rotate_left; (focus ((try dsimp only at hSq); go_simp; try with_reducible rfl)); simp only [Act.put, List.setIfInBounds_toArray, List.set_cons_zero, List.set_cons_succ]))
  (refine wpSeqE_do rfl (by rfl) (fun KK hK => ?_); go_simp)
  refine (g_walk hB hR ((A.out.take 3).parts rfl) rfl (Nat.le_of_ble_eq_true rfl) (Nat.le_of_ble_eq_true rfl) (Nat.le_of_ble_eq_true rfl) _ _).mono ?_; rintro e u ⟨g, n, c, rfl, h⟩; replace A := Lib.hid ((A.out.drop 3).over h.out); clear h
  refine hK.out _ _ (fun _ => HB.out _ A.out.bl) ?_
  (clear hK KK; try simp only [Act.put, List.setIfInBounds_toArray, List.set_cons_zero, List.set_cons_succ])
  (repeat (refine wpSeqE_take (v := ?_) rfl (by rfl) (fun wq hSq => ?_) ?_; rotate_left; (focus ((try dsimp only at hSq); go_simp; try with_reducible rfl)); simp only [Act.put, List.setIfInBounds_toArray, List.set_cons_zero, List.set_cons_succ]))
  (refine wpSeqE_do rfl (by rfl) (fun KK hK => ?_); go_simp)
  refine (g_mark _ _).mono ?_; rintro e u ⟨g, n, c, rfl, h⟩; replace A := Lib.hid (A.out.more h.out); clear h
  refine hK.out _ _ (fun _ => HB.out _ A.out.bl) ?_
  (clear hK KK; try simp only [Act.put, List.setIfInBounds_toArray, List.set_cons_zero, List.set_cons_succ])
  (repeat (refine wpSeqE_take (v := ?_) rfl (by rfl) (fun wq hSq => ?_) ?_; rotate_left; (focus ((try dsimp only at hSq); go_simp; try with_reducible rfl)); simp only [Act.put, List.setIfInBounds_toArray, List.set_cons_zero, List.set_cons_succ]))
  (refine wpSeqE_do rfl (by rfl) (fun KK hK => ?_); go_simp)
  refine (g_do _ _ _).mono ?_; rintro e u ⟨g, n, c, rfl, h⟩; replace A := Lib.hid (A.out.more h.out); clear h
  refine hK.out _ _ (fun _ => HB.out _ A.out.bl) ?_
  (clear hK KK; try simp only [Act.put, List.setIfInBounds_toArray, List.set_cons_zero, List.set_cons_succ])
  (repeat (refine wpSeqE_take (v := ?_) rfl (by rfl) (fun wq hSq => ?_) ?_; rotate_left; (focus ((try dsimp only at hSq); go_simp; try with_reducible rfl)); simp only [Act.put, List.setIfInBounds_toArray, List.set_cons_zero, List.set_cons_succ]))
  (refine wpSeqE_do rfl (by rfl) (fun KK hK => ?_); go_simp)
  refine (g_to _ _ _).mono ?_; rintro e u ⟨g, n, c, rfl, h⟩; replace A := Lib.hid (A.out.more h.out); clear h
  refine hK.out _ _ (fun _ => HB.out _ A.out.bl) ?_
  (clear hK KK; try simp only [Act.put, List.setIfInBounds_toArray, List.set_cons_zero, List.set_cons_succ])
  (repeat (refine wpSeqE_take (v := ?_) rfl (by rfl) (fun wq hSq => ?_) ?_; rotate_left; (focus ((try dsimp only at hSq); go_simp; try with_reducible rfl)); simp only [Act.put, List.setIfInBounds_toArray, List.set_cons_zero, List.set_cons_succ]))
  (refine wpSeqE_do rfl (by rfl) (fun KK hK => ?_); go_simp)
  refine (g_set _ _).mono ?_; rintro e u ⟨g, n, c, rfl, h⟩; replace A := Lib.hid (A.out.more h.out); clear h
  refine hK.out _ _ (fun _ => HB.out _ A.out.bl) ?_
  (clear hK KK; try simp only [Act.put, List.setIfInBounds_toArray, List.set_cons_zero, List.set_cons_succ])
  (repeat (refine wpSeqE_take (v := ?_) rfl (by rfl) (fun wq hSq => ?_) ?_; rotate_left; (focus ((try dsimp only at hSq); go_simp; try with_reducible rfl)); simp only [Act.put, List.setIfInBounds_toArray, List.set_cons_zero, List.set_cons_succ]))
  (refine wpSeqE_do rfl (by rfl) (fun KK hK => ?_); go_simp)
  refine (g_emitPair _ _).mono ?_; rintro e u ⟨g, n, c, rfl, h⟩; replace A := Lib.hid (A.out.more h.out); clear h
  refine hK.out _ _ (fun _ => HB.out _ A.out.bl) ?_
  (clear hK KK; try simp only [Act.put, List.setIfInBounds_toArray, List.set_cons_zero, List.set_cons_succ])
  (repeat (refine wpSeqE_take (v := ?_) rfl (by rfl) (fun wq hSq => ?_) ?_; rotate_left; (focus ((try dsimp only at hSq); go_simp; try with_reducible rfl)); simp only [Act.put, List.setIfInBounds_toArray, List.set_cons_zero, List.set_cons_succ]))
  (refine wpSeqE_do rfl (by rfl) (fun KK hK => ?_); go_simp)
  refine (g_cell _ _ _).mono ?_; rintro e u ⟨g, n, c, rfl, h⟩; replace A := Lib.hid (A.out.more h.out); clear h
  refine hK.out _ _ (fun _ => HB.out _ A.out.bl) ?_
  (clear hK KK; try simp only [Act.put, List.setIfInBounds_toArray, List.set_cons_zero, List.set_cons_succ])
  (repeat (refine wpSeqE_take (v := ?_) rfl (by rfl) (fun wq hSq => ?_) ?_; rotate_left; (focus ((try dsimp only at hSq); go_simp; try with_reducible rfl)); simp only [Act.put, List.setIfInBounds_toArray, List.set_cons_zero, List.set_cons_succ]))
  (refine wpSeqE_do rfl (by rfl) (fun KK hK => ?_); go_simp)
  refine (g_set _ _).mono ?_; rintro e u ⟨g, n, c, rfl, h⟩; replace A := Lib.hid (A.out.more h.out); clear h
  refine hK.out _ _ (fun _ => HB.out _ A.out.bl) ?_
  (clear hK KK; try simp only [Act.put, List.setIfInBounds_toArray, List.set_cons_zero, List.set_cons_succ])
  (repeat (refine wpSeqE_take (v := ?_) rfl (by rfl) (fun wq hSq => ?_) ?_; rotate_left; (focus ((try dsimp only at hSq); go_simp; try with_reducible rfl)); simp only [Act.put, List.setIfInBounds_toArray, List.set_cons_zero, List.set_cons_succ]))
  (refine wpSeqE_do rfl (by rfl) (fun KK hK => ?_); go_simp)
  refine (g_wide hB hR _).mono ?_; rintro e u ⟨rfl, h⟩; replace A := Lib.hid (A.out.on h); clear h
  refine hK.out _ _ (fun _ => HB.out _ A.out.bl) ?_
  (clear hK KK; try simp only [Act.put, List.setIfInBounds_toArray, List.set_cons_zero, List.set_cons_succ])
  (repeat (refine wpSeqE_take (v := ?_) rfl (by rfl) (fun wq hSq => ?_) ?_; rotate_left; (focus ((try dsimp only at hSq); go_simp; try with_reducible rfl)); simp only [Act.put, List.setIfInBounds_toArray, List.set_cons_zero, List.set_cons_succ]))
  (refine wpSeqE_do rfl (by rfl) (fun KK hK => ?_); go_simp)
  refine (g_push _ _).mono ?_; rintro e u ⟨g, n, c, rfl, h⟩; replace A := Lib.hid (A.out.more h.out); clear h
  refine hK.out _ _ (fun _ => HB.out _ A.out.bl) ?_
  (clear hK KK; try simp only [Act.put, List.setIfInBounds_toArray, List.set_cons_zero, List.set_cons_succ])
  (repeat (refine wpSeqE_take (v := ?_) rfl (by rfl) (fun wq hSq => ?_) ?_; rotate_left; (focus ((try dsimp only at hSq); go_simp; try with_reducible rfl)); simp only [Act.put, List.setIfInBounds_toArray, List.set_cons_zero, List.set_cons_succ]))
  (refine wpSeqE_do rfl (by rfl) (fun KK hK => ?_); go_simp)
  refine (g_set _ _).mono ?_; rintro e u ⟨g, n, c, rfl, h⟩; replace A := Lib.hid (A.out.more h.out); clear h
  refine hK.out _ _ (fun _ => HB.out _ A.out.bl) ?_
  (clear hK KK; try simp only [Act.put, List.setIfInBounds_toArray, List.set_cons_zero, List.set_cons_succ])
  (repeat (refine wpSeqE_take (v := ?_) rfl (by rfl) (fun wq hSq => ?_) ?_; rotate_left; (focus ((try dsimp only at hSq); go_simp; try with_reducible rfl)); simp only [Act.put, List.setIfInBounds_toArray, List.set_cons_zero, List.set_cons_succ]))
  (refine wpSeqE_do rfl (by rfl) (fun KK hK => ?_); go_simp)
  refine (g_to _ _ _).mono ?_; rintro e u ⟨g, n, c, rfl, h⟩; replace A := Lib.hid (A.out.more h.out); clear h
  refine hK.out _ _ (fun _ => HB.out _ A.out.bl) ?_
  (clear hK KK; try simp only [Act.put, List.setIfInBounds_toArray, List.set_cons_zero, List.set_cons_succ])
  (repeat (refine wpSeqE_take (v := ?_) rfl (by rfl) (fun wq hSq => ?_) ?_; rotate_left; (focus ((try dsimp only at hSq); go_simp; try with_reducible rfl)); simp only [Act.put, List.setIfInBounds_toArray, List.set_cons_zero, List.set_cons_succ]))
  (refine wpSeqE_do rfl (by rfl) (fun KK hK => ?_); go_simp)
  refine (g_mark _ _).mono ?_; rintro e u ⟨g, n, c, rfl, h⟩; replace A := Lib.hid (A.out.more h.out); clear h
  refine hK.out _ _ (fun _ => HB.out _ A.out.bl) ?_
  (clear hK KK; try simp only [Act.put, List.setIfInBounds_toArray, List.set_cons_zero, List.set_cons_succ])
  (repeat (refine wpSeqE_take (v := ?_) rfl (by rfl) (fun wq hSq => ?_) ?_; rotate_left; (focus ((try dsimp only at hSq); go_simp; try with_reducible rfl)); simp only [Act.put, List.setIfInBounds_toArray, List.set_cons_zero, List.set_cons_succ]))
  (refine wpSeqE_do rfl (by rfl) (fun KK hK => ?_); go_simp)
  refine (g_halt _).mono ?_; rintro e u ⟨g, n, c, rfl, h⟩; replace A := Lib.hid (A.out.more h.out); clear h
  refine hK.out _ _ (fun _ => HB.out _ A.out.bl) ?_
  (clear hK KK; try simp only [Act.put, List.setIfInBounds_toArray, List.set_cons_zero, List.set_cons_succ])
  (repeat (refine wpSeqE_take (v := ?_) rfl (by rfl) (fun wq hSq => ?_) ?_; rotate_left; (focus ((try dsimp only at hSq); go_simp; try with_reducible rfl)); simp only [Act.put, List.setIfInBounds_toArray, List.set_cons_zero, List.set_cons_succ]))
  (refine wpSeqE_do rfl (by rfl) (fun KK hK => ?_); go_simp)
  refine hK.out _ _ (fun _ => HB.out _ (A.out.on (bl1 _ _)).bl) ?_
  (clear hK KK; try simp only [Act.put, List.setIfInBounds_toArray, List.set_cons_zero, List.set_cons_succ])
  (repeat (refine wpSeqE_take (v := ?_) rfl (by rfl) (fun wq hSq => ?_) ?_; rotate_left; (focus ((try dsimp only at hSq); go_simp; try with_reducible rfl)); simp only [Act.put, List.setIfInBounds_toArray, List.set_cons_zero, List.set_cons_succ]))
  (refine wpSeqE_do rfl (by rfl) (fun KK hK => ?_); go_simp)
  refine (g_program 1 (A.out.parts rfl) rfl (Nat.le_of_ble_eq_true rfl) (Nat.le_of_ble_eq_true rfl) (Nat.le_of_ble_eq_true rfl) (all_wf B R) (HT.out.on ((pgW_bl w B R).trans (((A.out.on (bl1 _ _)).bl).mono (by rw [pgW_size]; omega)))) (all_ans B R)).mono ?_; rintro e u ⟨p, n, c, rfl, hZ⟩; have HBL := Lib.hid (A.out.bl.trans (((bl1 _ _).trans (hZ.out.2.2.mono (by simp))).mono A.out.bl.size)); obtain ⟨⟨x0, x1⟩, y0, y1, y2, y3, y4⟩ := pg_cells w B R _ HBL.out
  refine hK.out _ _ (fun _ => ⟨x0, x1⟩) ?_
  (clear hK KK; try simp only [Act.put, List.setIfInBounds_toArray, List.set_cons_zero, List.set_cons_succ])
  (repeat (refine wpSeqE_take (v := ?_) rfl (by rfl) (fun wq hSq => ?_) ?_; rotate_left; (focus ((try dsimp only at hSq); go_simp; try with_reducible rfl)); simp only [Act.put, List.setIfInBounds_toArray, List.set_cons_zero, List.set_cons_succ]))
  (refine wpSeqE_do rfl (by rfl) (fun KK hK => ?_); go_simp)
  refine hK.out _ _ (fun hn => absurd rfl hn) ?_
  (clear hK KK; try simp only [Act.put])
  refine wpSeqE_nil ?_
  go_wp2_with fail
  obtain ⟨f1, f2, f3⟩ := hZ.out
  change RowW 63 3 u p c n (codC ((bsOf 1 (allO B R).flatten).filled.map fixI)) at f2
  change n = (bsOf 1 (allO B R).flatten).code.length at f1
  rw [all_code] at f2
  obtain ⟨z1, z2, z3⟩ := pg_end (t := 1) HBL.out f2
  exact pg_back rfl (w.heap.size + 1) 1 p n c rfl z1 rfl ⟨p, n, c, rfl, f1.trans (bs_len (all_code B R)), z2, z3⟩

end
end Go.Proofs.YthnpgbmagfhgpaaDoor.Tr
