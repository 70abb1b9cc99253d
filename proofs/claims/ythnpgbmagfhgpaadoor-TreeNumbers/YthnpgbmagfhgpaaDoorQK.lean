/- stage 20 (tree): Room, Make -/
import Derived.Test.YthnpgbmagfhgpaaDoorQJ
namespace Go.Proofs.YthnpgbmagfhgpaaDoor.Tr
open Go.ChangeShapes Go.WideShapes Go.ChangeAt Go.RowKit Num Go.Maps As
open Go.ChangeMaps Go.MapKept
attribute [local go_sem] run_store_float frombits_run bits_run

/-- P20.1 -/
def roomV (c : Int) : Int := if c < 7 then 0 else if 52 ≤ c then 16 else (c - 4) / 3
theorem roomV_in (c : Int) : 0 ≤ roomV c ∧ roomV c ≤ 16 := by
  unfold roomV
  split
  · omega
  · split <;> omega
/-- P20.2 -/
def fitsV (b c : Int) : Bool := decide (7 ≤ c) && decide (0 ≤ b) && decide (b + c ≤ 256)
set_option maxRecDepth 100000 in
theorem room_any (c : Int) (hc : c ≤ 9223372036854775807) (w : World) : Calls Tryd.prog 5 #[.int .i64 c] w fun e w' => e = .returned (.int .i64 (roomV c)) ∧ w' = w := by
  unfold roomV
  by_cases h : c < 7
  · rw [if_pos h]
    go_enter Tryd.func5, Tryd.ntmps5
    go_wp2
    go_ret
    exact ⟨rfl, rfl⟩
  · rw [if_neg h]
    have h1 : wrap64 (c - 4) = c - 4 := by unfold wrap64; omega
    have h2 : wrap64 ((c - 4).tdiv 3) = (c - 4) / 3 := by rw [Int.tdiv_eq_ediv_of_nonneg (by omega)]; unfold wrap64; omega
    go_enter Tryd.func5, Tryd.ntmps5
    go_wp2
    all_goals go_ret
    all_goals refine ⟨?_, rfl⟩
    all_goals first | rfl | (exfalso; omega)
def treeO : Obj := .cells #[.int .i64 0, .slice none 0 0, .int .i64 0, .slice none 0 0, .int .i64 0, .slice none 0 0, .int .i64 0, .slice none 0 0, .int .i64 0, .slice none 0 0, .int .i64 0, .slice none 0 0, .int .i64 0, .slice none 0 0] 26
def mkW (w : World) (B R : Int) : World := (w.alloc treeO).alloc (plotO B R)
theorem mkW_size (w : World) (B R : Int) : (mkW w B R).heap.size = w.heap.size + 2 := by simp [mkW]
theorem mkW_bl (w : World) (B R : Int) : Below w.heap.size w (mkW w B R) := (bl1 w _).trans ((bl1 _ _).mono (by simp))
theorem mk_cells (w : World) (B R : Int) (u : World) (k : Below (mkW w B R).heap.size (mkW w B R) u) : (u.cell? ⟨w.heap.size + 1, 0, none⟩ = some (.int .i64 B) ∧ u.cell? ⟨w.heap.size + 1, 1, none⟩ = some (.int .i64 R)) ∧ u.heap[w.heap.size]? = some treeO := by
  have h1 : (mkW w B R).heap[w.heap.size + 1]? = some (plotO B R) := by
    have := heap_alloc_new (w.alloc treeO) (plotO B R)
    simpa [mkW] using this
  have h0 : (mkW w B R).heap[w.heap.size]? = some treeO := (Below.heap_alloc _ _ _ (by simp)).trans (heap_alloc_new w _)
  have hs := mkW_size w B R
  have a := cells2_of ((k.block _ (by omega)).trans h1)
  exact ⟨⟨a.1, a.2.1⟩, (k.block _ (by omega)).trans h0⟩
/-- programs that were made, the latest first -/
structure PAcc (W u : World) (L : List (Option Addr × Nat × Nat × List Ins)) : Prop where
  bl : Below W.heap.size W u
  it : ∀ q ∈ L, q.2.1 = q.2.2.2.length ∧ RowW 63 3 u q.1 q.2.2.1 q.2.1 (codC q.2.2.2)
theorem PAcc.more {W u u' : World} {L : List (Option Addr × Nat × Nat × List Ins)} {cs : List Ins} (h : PAcc W u L) (q : Option Addr × Nat × Nat) (k : q.2.1 = cs.length ∧ RowW 63 3 u' q.1 q.2.2 q.2.1 (codC cs) ∧ Below u.heap.size u u') : PAcc W u' ((q.1, q.2.1, q.2.2, cs) :: L) :=
  ⟨h.bl.trans (k.2.2.mono h.bl.size), fun x hx => by
    rcases List.mem_cons.1 hx with rfl | hx
    · exact ⟨k.1, k.2.1⟩
    · exact ⟨(h.it x hx).1, (h.it x hx).2.keep (kept_below k.2.2 (h.it x hx).2.blw)⟩⟩
section
variable {w : World}
set_option maxHeartbeats 4000000 in
theorem set14 (w u : World) (x0 x1 x2 x3 x4 x5 x6 x7 x8 x9 x10 x11 x12 x13 : Value) (hb : u.heap[w.heap.size]? = some treeO) :
    ((((((((((((((u.setCell ⟨w.heap.size, 0, none⟩ x0).setCell ⟨w.heap.size, 1, none⟩ x1).setCell ⟨w.heap.size, 2, none⟩ x2).setCell ⟨w.heap.size, 3, none⟩ x3).setCell ⟨w.heap.size, 4, none⟩ x4).setCell ⟨w.heap.size, 5, none⟩ x5).setCell ⟨w.heap.size, 6, none⟩ x6).setCell ⟨w.heap.size, 7, none⟩ x7).setCell ⟨w.heap.size, 8, none⟩ x8).setCell ⟨w.heap.size, 9, none⟩ x9).setCell ⟨w.heap.size, 10, none⟩ x10).setCell ⟨w.heap.size, 11, none⟩ x11).setCell ⟨w.heap.size, 12, none⟩ x12).setCell ⟨w.heap.size, 13, none⟩ x13).heap[w.heap.size]? = some (.cells #[x0, x1, x2, x3, x4, x5, x6, x7, x8, x9, x10, x11, x12, x13] 26 (0, 0)) ∧ Turn [w.heap.size] [w.heap.size] u ((((((((((((((u.setCell ⟨w.heap.size, 0, none⟩ x0).setCell ⟨w.heap.size, 1, none⟩ x1).setCell ⟨w.heap.size, 2, none⟩ x2).setCell ⟨w.heap.size, 3, none⟩ x3).setCell ⟨w.heap.size, 4, none⟩ x4).setCell ⟨w.heap.size, 5, none⟩ x5).setCell ⟨w.heap.size, 6, none⟩ x6).setCell ⟨w.heap.size, 7, none⟩ x7).setCell ⟨w.heap.size, 8, none⟩ x8).setCell ⟨w.heap.size, 9, none⟩ x9).setCell ⟨w.heap.size, 10, none⟩ x10).setCell ⟨w.heap.size, 11, none⟩ x11).setCell ⟨w.heap.size, 12, none⟩ x12).setCell ⟨w.heap.size, 13, none⟩ x13) := by
  unfold treeO at hb
  exact ⟨(heap_setCell_same _ _ 13 _ _ _ (heap_setCell_same _ _ 12 _ _ _ (heap_setCell_same _ _ 11 _ _ _ (heap_setCell_same _ _ 10 _ _ _ (heap_setCell_same _ _ 9 _ _ _ (heap_setCell_same _ _ 8 _ _ _ (heap_setCell_same _ _ 7 _ _ _ (heap_setCell_same _ _ 6 _ _ _ (heap_setCell_same _ _ 5 _ _ _ (heap_setCell_same _ _ 4 _ _ _ (heap_setCell_same _ _ 3 _ _ _ (heap_setCell_same _ _ 2 _ _ _ (heap_setCell_same _ _ 1 _ _ _ (heap_setCell_same _ _ 0 _ _ _ hb)))))))))))))).trans (by simp), ((((((((((((((As.turn_set w.heap.size 0 x0 u).trans (As.turn_set w.heap.size 1 x1 _)).trans (As.turn_set w.heap.size 2 x2 _)).trans (As.turn_set w.heap.size 3 x3 _)).trans (As.turn_set w.heap.size 4 x4 _)).trans (As.turn_set w.heap.size 5 x5 _)).trans (As.turn_set w.heap.size 6 x6 _)).trans (As.turn_set w.heap.size 7 x7 _)).trans (As.turn_set w.heap.size 8 x8 _)).trans (As.turn_set w.heap.size 9 x9 _)).trans (As.turn_set w.heap.size 10 x10 _)).trans (As.turn_set w.heap.size 11 x11 _)).trans (As.turn_set w.heap.size 12 x12 _)).trans (As.turn_set w.heap.size 13 x13 _))⟩
theorem tree_back {fn : Func} {p r : Tmp} (h : fn.results = #[.cell p 26, .tmp r]) {Q : Ending → World → Prop} {a : Act} {w : World} (g : Nat) (e : Int) {arr : Array Value} (hp : a.tmps.getD p undef = .pointer (some ⟨g, 0, none⟩)) (hu : a.tmps.getD r undef = .int .i64 e)
    (hg : w.heap[g]? = some (.cells arr 26 (0, 0))) (ha : arr.size = 14) (hd : a.defers = []) (hR : Q (.returned (.tuple #[.agg arr, .int .i64 e])) w) : bodyPost Tryd.prog fn Q .ret a w := by
  refine bodyPost_ret (v := .tuple #[.agg arr, .int .i64 e]) ?_ hd hR
  rw [results_cell_tmp h, hp, hu]
  have hl := run_loadVar_row (P := Tryd.prog) w g 26 26 arr (0, 0) _ hg Tryd.underlying26 rfl (by rw [ha]; kernel_rfl)
  simp [asAddr, hl, Result.andThen]
/-- the seven programs in memory -/
structure Ptr where
  p : Option Addr
  n : Nat
  c : Nat
def treeV (q : Nat → Ptr) : Value := .agg #[.int .i64 1, .slice (q 0).p (q 0).n (q 0).c, .int .i64 2, .slice (q 1).p (q 1).n (q 1).c, .int .i64 2, .slice (q 2).p (q 2).n (q 2).c, .int .i64 1, .slice (q 3).p (q 3).n (q 3).c, .int .i64 1, .slice (q 4).p (q 4).n (q 4).c, .int .i64 1, .slice (q 5).p (q 5).n (q 5).c, .int .i64 1, .slice (q 6).p (q 6).n (q 6).c]
def codeOf (B R : Int) (k : Nat) : List Ins := [getC B R, putCd B R, delC B R, leastC B R, afterC B R, lenC B R, allC B R].getD k []
structure TrAt (w : World) (B R : Int) (q : Nat → Ptr) : Prop where
  row : ∀ k, k < 7 → (q k).n = (codeOf B R k).length ∧ RowW 63 3 w (q k).p (q k).c (q k).n (codC (codeOf B R k))
theorem TrAt.on {w w' : World} {B R : Int} {q : Nat → Ptr} (h : TrAt w B R q) (k : Below w.heap.size w w') : TrAt w' B R q := ⟨fun i hi => ⟨(h.row i hi).1, (h.row i hi).2.keep (kept_below k (h.row i hi).2.blw)⟩⟩
def tree0 : Value := .agg #[.int .i64 0, .slice none 0 0, .int .i64 0, .slice none 0 0, .int .i64 0, .slice none 0 0, .int .i64 0, .slice none 0 0, .int .i64 0, .slice none 0 0, .int .i64 0, .slice none 0 0, .int .i64 0, .slice none 0 0]
theorem make_yes (hT : Shaped5 w) {b c : Int} (hc : c ≤ 9223372036854775807) (h7 : 7 ≤ c) (h0 : 0 ≤ b) (hf : b + c ≤ 256) : Calls Tryd.prog 4 #[.int .i64 b, .int .i64 c] w fun e w' => ∃ q, e = .returned (.tuple #[treeV q, .int .i64 0]) ∧ Hid (TrAt w' b (roomV c) q ∧ Below w.heap.size w w') := by
  have HT := Lib.hid hT
  have HR := Lib.hid (room_any c hc)
  have hr0 := roomV_in c
  have hr1 : roomV c ≠ 0 := by unfold roomV; rw [if_neg (by omega)]; split <;> omega
  obtain ⟨r, hr⟩ : ∃ r, roomV c = r := ⟨_, rfl⟩
  rw [hr] at HR hr0 hr1
  have hB : 0 ≤ b ∧ b ≤ 256 := by omega
  have hR : 0 ≤ r ∧ r ≤ 16 := hr0
  have e0 : (r == 0) = false := by simpa using hr1
  have e1 : ¬ b < 0 := by omega
  have e2 : wrap64 (256 - c) = 256 - c := by unfold wrap64; omega
  have e3 : ¬ 256 - c < b := by omega
  have A : Hid (PAcc (mkW w b r) (mkW w b r).drew []) := ⟨(Same.drew _).below _, fun q hq => by cases hq⟩
  rw [hr]
  clear hT hr hr0 hr1 h7 h0 hf hc
  go_enter Tryd.func4, Tryd.ntmps4
  go_wp2_with (go_at_call 5; refine (HR.out _).mono ?_; rintro e u ⟨rfl, hu⟩; subst u)
  refine wp_region_seq (fun u => u.cell? ⟨w.heap.size + 1, 0, none⟩ = some (.int .i64 b) ∧ u.cell? ⟨w.heap.size + 1, 1, none⟩ = some (.int .i64 r)) ((0, true) :: (2, true) :: (4, true) :: (6, true) :: (8, true) :: (10, true) :: (12, true) :: (1, false) :: (3, false) :: (5, false) :: (7, false) :: (9, false) :: (11, false) :: (13, false) :: (14, true) :: (15, false) :: (16, true) :: []) follows (by kernel_rfl) (fun _ _ _ _ _ h => h) (mk_cells w b r _ ((Same.drew _).below _)).1 ?_
  (repeat (first | (refine wpSeq_take (v := ?_) rfl (by rfl) (fun wq hSq => ?_) ?_; rotate_left; (focus ((try dsimp only at hSq); go_simp; try with_reducible rfl)); simp only [Act.put, List.setIfInBounds_toArray, List.set_cons_zero, List.set_cons_succ]) | (refine wpSeq_skip rfl (by rfl) ?_; simp only [Act.put, List.setIfInBounds_toArray, List.set_cons_zero, List.set_cons_succ])))
  (refine wpSeq_do rfl (by rfl) (fun KK hK => ?_); go_simp)
  refine (g_pget (B := b) (R := r) hB hR (HT.out.on ((mkW_bl w b r).trans (A.out.bl.mono (by rw [mkW_size]; omega))))).mono ?_; rintro e u0 ⟨p0, n0, c0, rfl, h⟩; replace A := Lib.hid (A.out.more ⟨p0, n0, c0⟩ h.out); clear h
  refine hK.out _ _ (mk_cells w b r _ A.out.bl).1 ?_
  (clear hK KK; try simp only [Act.put, List.setIfInBounds_toArray, List.set_cons_zero, List.set_cons_succ])
  (repeat (first | (refine wpSeq_take (v := ?_) rfl (by rfl) (fun wq hSq => ?_) ?_; rotate_left; (focus ((try dsimp only at hSq); go_simp; try with_reducible rfl)); simp only [Act.put, List.setIfInBounds_toArray, List.set_cons_zero, List.set_cons_succ]) | (refine wpSeq_skip rfl (by rfl) ?_; simp only [Act.put, List.setIfInBounds_toArray, List.set_cons_zero, List.set_cons_succ])))
  (refine wpSeq_do rfl (by rfl) (fun KK hK => ?_); go_simp)
  refine (g_pput (B := b) (R := r) hB hR (HT.out.on ((mkW_bl w b r).trans (A.out.bl.mono (by rw [mkW_size]; omega))))).mono ?_; rintro e u1 ⟨p1, n1, c1, rfl, h⟩; replace A := Lib.hid (A.out.more ⟨p1, n1, c1⟩ h.out); clear h
  refine hK.out _ _ (mk_cells w b r _ A.out.bl).1 ?_
  (clear hK KK; try simp only [Act.put, List.setIfInBounds_toArray, List.set_cons_zero, List.set_cons_succ])
  (repeat (first | (refine wpSeq_take (v := ?_) rfl (by rfl) (fun wq hSq => ?_) ?_; rotate_left; (focus ((try dsimp only at hSq); go_simp; try with_reducible rfl)); simp only [Act.put, List.setIfInBounds_toArray, List.set_cons_zero, List.set_cons_succ]) | (refine wpSeq_skip rfl (by rfl) ?_; simp only [Act.put, List.setIfInBounds_toArray, List.set_cons_zero, List.set_cons_succ])))
  (refine wpSeq_do rfl (by rfl) (fun KK hK => ?_); go_simp)
  refine (g_pdel (B := b) (R := r) hB hR (HT.out.on ((mkW_bl w b r).trans (A.out.bl.mono (by rw [mkW_size]; omega))))).mono ?_; rintro e u2 ⟨p2, n2, c2, rfl, h⟩; replace A := Lib.hid (A.out.more ⟨p2, n2, c2⟩ h.out); clear h
  refine hK.out _ _ (mk_cells w b r _ A.out.bl).1 ?_
  (clear hK KK; try simp only [Act.put, List.setIfInBounds_toArray, List.set_cons_zero, List.set_cons_succ])
  (repeat (first | (refine wpSeq_take (v := ?_) rfl (by rfl) (fun wq hSq => ?_) ?_; rotate_left; (focus ((try dsimp only at hSq); go_simp; try with_reducible rfl)); simp only [Act.put, List.setIfInBounds_toArray, List.set_cons_zero, List.set_cons_succ]) | (refine wpSeq_skip rfl (by rfl) ?_; simp only [Act.put, List.setIfInBounds_toArray, List.set_cons_zero, List.set_cons_succ])))
  (refine wpSeq_do rfl (by rfl) (fun KK hK => ?_); go_simp)
  refine (g_pleast (B := b) (R := r) hB hR (HT.out.on ((mkW_bl w b r).trans (A.out.bl.mono (by rw [mkW_size]; omega))))).mono ?_; rintro e u3 ⟨p3, n3, c3, rfl, h⟩; replace A := Lib.hid (A.out.more ⟨p3, n3, c3⟩ h.out); clear h
  refine hK.out _ _ (mk_cells w b r _ A.out.bl).1 ?_
  (clear hK KK; try simp only [Act.put, List.setIfInBounds_toArray, List.set_cons_zero, List.set_cons_succ])
  (repeat (first | (refine wpSeq_take (v := ?_) rfl (by rfl) (fun wq hSq => ?_) ?_; rotate_left; (focus ((try dsimp only at hSq); go_simp; try with_reducible rfl)); simp only [Act.put, List.setIfInBounds_toArray, List.set_cons_zero, List.set_cons_succ]) | (refine wpSeq_skip rfl (by rfl) ?_; simp only [Act.put, List.setIfInBounds_toArray, List.set_cons_zero, List.set_cons_succ])))
  (refine wpSeq_do rfl (by rfl) (fun KK hK => ?_); go_simp)
  refine (g_pafter (B := b) (R := r) hB hR (HT.out.on ((mkW_bl w b r).trans (A.out.bl.mono (by rw [mkW_size]; omega))))).mono ?_; rintro e u4 ⟨p4, n4, c4, rfl, h⟩; replace A := Lib.hid (A.out.more ⟨p4, n4, c4⟩ h.out); clear h
  refine hK.out _ _ (mk_cells w b r _ A.out.bl).1 ?_
  (clear hK KK; try simp only [Act.put, List.setIfInBounds_toArray, List.set_cons_zero, List.set_cons_succ])
  (repeat (first | (refine wpSeq_take (v := ?_) rfl (by rfl) (fun wq hSq => ?_) ?_; rotate_left; (focus ((try dsimp only at hSq); go_simp; try with_reducible rfl)); simp only [Act.put, List.setIfInBounds_toArray, List.set_cons_zero, List.set_cons_succ]) | (refine wpSeq_skip rfl (by rfl) ?_; simp only [Act.put, List.setIfInBounds_toArray, List.set_cons_zero, List.set_cons_succ])))
  (refine wpSeq_do rfl (by rfl) (fun KK hK => ?_); go_simp)
  refine (g_plen (B := b) (R := r) hB hR (HT.out.on ((mkW_bl w b r).trans (A.out.bl.mono (by rw [mkW_size]; omega))))).mono ?_; rintro e u5 ⟨p5, n5, c5, rfl, h⟩; replace A := Lib.hid (A.out.more ⟨p5, n5, c5⟩ h.out); clear h
  refine hK.out _ _ (mk_cells w b r _ A.out.bl).1 ?_
  (clear hK KK; try simp only [Act.put, List.setIfInBounds_toArray, List.set_cons_zero, List.set_cons_succ])
  (repeat (first | (refine wpSeq_take (v := ?_) rfl (by rfl) (fun wq hSq => ?_) ?_; rotate_left; (focus ((try dsimp only at hSq); go_simp; try with_reducible rfl)); simp only [Act.put, List.setIfInBounds_toArray, List.set_cons_zero, List.set_cons_succ]) | (refine wpSeq_skip rfl (by rfl) ?_; simp only [Act.put, List.setIfInBounds_toArray, List.set_cons_zero, List.set_cons_succ])))
  (refine wpSeq_do rfl (by rfl) (fun KK hK => ?_); go_simp)
  refine (g_pall (B := b) (R := r) hB hR (HT.out.on ((mkW_bl w b r).trans (A.out.bl.mono (by rw [mkW_size]; omega))))).mono ?_; rintro e u6 ⟨p6, n6, c6, rfl, h⟩; replace A := Lib.hid (A.out.more ⟨p6, n6, c6⟩ h.out); clear h
  refine hK.out _ _ (mk_cells w b r _ A.out.bl).1 ?_
  (clear hK KK; try simp only [Act.put, List.setIfInBounds_toArray, List.set_cons_zero, List.set_cons_succ])
  (repeat (first | (refine wpSeq_take (v := ?_) rfl (by rfl) (fun wq hSq => ?_) ?_; rotate_left; (focus ((try dsimp only at hSq); go_simp; try with_reducible rfl)); simp only [Act.put, List.setIfInBounds_toArray, List.set_cons_zero, List.set_cons_succ]) | (refine wpSeq_skip rfl (by rfl) ?_; simp only [Act.put, List.setIfInBounds_toArray, List.set_cons_zero, List.set_cons_succ])))
  have HX := mk_cells w b r _ A.out.bl
  obtain ⟨⟨x0, x1⟩, xs⟩ := HX
  have hlt := lt_of_block xs
  have a0 := (cell_of_row _ _ 0 _ _ _ xs).trans rfl
  have f0 := frozen_of_row _ _ 0 _ _ xs
  have a1 := (cell_of_row _ _ 1 _ _ _ xs).trans rfl
  have f1 := frozen_of_row _ _ 1 _ _ xs
  have a2 := (cell_of_row _ _ 2 _ _ _ xs).trans rfl
  have f2 := frozen_of_row _ _ 2 _ _ xs
  have a3 := (cell_of_row _ _ 3 _ _ _ xs).trans rfl
  have f3 := frozen_of_row _ _ 3 _ _ xs
  have a4 := (cell_of_row _ _ 4 _ _ _ xs).trans rfl
  have f4 := frozen_of_row _ _ 4 _ _ xs
  have a5 := (cell_of_row _ _ 5 _ _ _ xs).trans rfl
  have f5 := frozen_of_row _ _ 5 _ _ xs
  have a6 := (cell_of_row _ _ 6 _ _ _ xs).trans rfl
  have f6 := frozen_of_row _ _ 6 _ _ xs
  have a7 := (cell_of_row _ _ 7 _ _ _ xs).trans rfl
  have f7 := frozen_of_row _ _ 7 _ _ xs
  have a8 := (cell_of_row _ _ 8 _ _ _ xs).trans rfl
  have f8 := frozen_of_row _ _ 8 _ _ xs
  have a9 := (cell_of_row _ _ 9 _ _ _ xs).trans rfl
  have f9 := frozen_of_row _ _ 9 _ _ xs
  have a10 := (cell_of_row _ _ 10 _ _ _ xs).trans rfl
  have f10 := frozen_of_row _ _ 10 _ _ xs
  have a11 := (cell_of_row _ _ 11 _ _ _ xs).trans rfl
  have f11 := frozen_of_row _ _ 11 _ _ xs
  have a12 := (cell_of_row _ _ 12 _ _ _ xs).trans rfl
  have f12 := frozen_of_row _ _ 12 _ _ xs
  have a13 := (cell_of_row _ _ 13 _ _ _ xs).trans rfl
  have f13 := frozen_of_row _ _ 13 _ _ xs
  have HS := Lib.hid (set14 w u6 (.int .i64 1) (.slice p0 n0 c0) (.int .i64 2) (.slice p1 n1 c1) (.int .i64 2) (.slice p2 n2 c2) (.int .i64 1) (.slice p3 n3 c3) (.int .i64 1) (.slice p4 n4 c4) (.int .i64 1) (.slice p5 n5 c5) (.int .i64 1) (.slice p6 n6 c6) xs)
  have HX := Lib.hid (mk_cells w b r u6 A.out.bl)
  have hl2 : w.heap.size + 1 < u6.heap.size := by
    have := A.out.bl.size
    rw [mkW_size] at this
    omega
  clear x0 x1 xs
  (refine wpSeq_do rfl (by rfl) (fun KK hK => ?_); go_simp)
  refine hK.out _ _ ⟨(World.cell?_of_block (a := ⟨w.heap.size + 1, 0, none⟩) (HS.out.2.block _ hl2 (by simp))).trans HX.out.1.1, (World.cell?_of_block (a := ⟨w.heap.size + 1, 1, none⟩) (HS.out.2.block _ hl2 (by simp))).trans HX.out.1.2⟩ ?_
  (clear hK KK; try simp only [Act.put, List.setIfInBounds_toArray, List.set_cons_zero, List.set_cons_succ])
  (repeat (first | (refine wpSeq_take (v := ?_) rfl (by rfl) (fun wq hSq => ?_) ?_; rotate_left; (focus ((try dsimp only at hSq); go_simp; try with_reducible rfl)); simp only [Act.put, List.setIfInBounds_toArray, List.set_cons_zero, List.set_cons_succ]) | (refine wpSeq_skip rfl (by rfl) ?_; simp only [Act.put, List.setIfInBounds_toArray, List.set_cons_zero, List.set_cons_succ])))
  refine wpSeq_nil ?_
  go_wp2_with fail
  have hbw : Below w.heap.size w u6 := (mkW_bl w b r).trans (A.out.bl.mono (by rw [mkW_size]; omega))
  have hrow : ∀ q ∈ ([(p6, n6, c6, allC b r), (p5, n5, c5, lenC b r), (p4, n4, c4, afterC b r), (p3, n3, c3, leastC b r), (p2, n2, c2, delC b r), (p1, n1, c1, putCd b r), (p0, n0, c0, getC b r)] : List (Option Addr × Nat × Nat × List Ins)), q.2.1 = q.2.2.2.length ∧ RowW 63 3 _ q.1 q.2.2.1 q.2.1 (codC q.2.2.2) := fun q hq => ⟨(A.out.it q hq).1, (A.out.it q hq).2.keep (HS.out.2.kept (fun x hx z => by
    obtain ⟨arr, e⟩ := (A.out.it q hq).2.blk hx
    rw [show x = w.heap.size by simpa using z] at e
    exact ne_ty e HX.out.2 (by decide) rfl) (A.out.it q hq).2.blw)⟩
  refine tree_back rfl w.heap.size 0 rfl rfl HS.out.1 rfl rfl ⟨fun k => [⟨p0, n0, c0⟩, ⟨p1, n1, c1⟩, ⟨p2, n2, c2⟩, ⟨p3, n3, c3⟩, ⟨p4, n4, c4⟩, ⟨p5, n5, c5⟩, ⟨p6, n6, c6⟩].getD k ⟨none, 0, 0⟩, rfl, ⟨fun k hk => ?_⟩, hbw.trans (HS.out.2.below (fun x hx => by simp at hx; omega) hbw.size)⟩
  match k, hk with
  | 0, _ => exact hrow (p0, n0, c0, getC b r) (by simp)
  | 1, _ => exact hrow (p1, n1, c1, putCd b r) (by simp)
  | 2, _ => exact hrow (p2, n2, c2, delC b r) (by simp)
  | 3, _ => exact hrow (p3, n3, c3, leastC b r) (by simp)
  | 4, _ => exact hrow (p4, n4, c4, afterC b r) (by simp)
  | 5, _ => exact hrow (p5, n5, c5, lenC b r) (by simp)
  | 6, _ => exact hrow (p6, n6, c6, allC b r) (by simp)
set_option maxHeartbeats 1000000 in
theorem make_no {b c : Int} (hc : c ≤ 9223372036854775807) (hc0 : -9223372036854775808 ≤ c) (hf : ¬ (7 ≤ c ∧ 0 ≤ b ∧ b + c ≤ 256)) : Calls Tryd.prog 4 #[.int .i64 b, .int .i64 c] w fun e w' => e = .returned (.tuple #[tree0, .int .i64 200]) ∧ Below w.heap.size w w' := by
  have HR := Lib.hid (room_any c hc)
  by_cases h7 : c < 7
  · have hr : roomV c = 0 := by unfold roomV; rw [if_pos h7]
    rw [hr] at HR
    have HS := Lib.hid (heap_alloc_new w treeO)
    clear hf hc0
    go_enter Tryd.func4, Tryd.ntmps4
    go_wp2_with (go_at_call 5; refine (HR.out _).mono ?_; rintro e u ⟨rfl, hu⟩; subst u)
    exact tree_back rfl w.heap.size 200 rfl rfl HS.out rfl rfl ⟨rfl, bl1 _ _⟩
  · have hr := roomV_in c
    have hr1 : roomV c ≠ 0 := by unfold roomV; rw [if_neg h7]; split <;> omega
    obtain ⟨r, hr2⟩ : ∃ r, roomV c = r := ⟨_, rfl⟩
    rw [hr2] at HR hr hr1
    have e0 : (r == 0) = false := by simpa using hr1
    have e2 : wrap64 (256 - c) = 256 - c := by unfold wrap64; omega
    have HS := Lib.hid (heap_alloc_new w treeO)
    by_cases hb : b < 0
    · clear hf hc0 hr hr1 hr2 h7
      go_enter Tryd.func4, Tryd.ntmps4
      go_wp2_with (go_at_call 5; refine (HR.out _).mono ?_; rintro e u ⟨rfl, hu⟩; subst u)
      exact tree_back rfl w.heap.size 200 rfl rfl HS.out rfl rfl ⟨rfl, bl1 _ _⟩
    · have e3 : 256 - c < b := by omega
      clear hf hc0 hr hr1 hr2 h7
      go_enter Tryd.func4, Tryd.ntmps4
      go_wp2_with (go_at_call 5; refine (HR.out _).mono ?_; rintro e u ⟨rfl, hu⟩; subst u)
      exact tree_back rfl w.heap.size 200 rfl rfl HS.out rfl rfl ⟨rfl, bl1 _ _⟩
end
end Go.Proofs.YthnpgbmagfhgpaaDoor.Tr
