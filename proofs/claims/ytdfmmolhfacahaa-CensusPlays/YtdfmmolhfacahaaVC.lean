import Derived.Test.YtdfmmolhfacahaaVA
namespace Go.Proofs.Ytdfmmolhfacahaa
open Go.ChangeShapes Go.WideShapes Go.ChangeAt Go.RowKit

section
variable {W w w' : World} {X bm gm br gr xc yc xs ys : Nat} {A : Int} {ws ws' vs vs' : List Int} {o o' p p' : Bool} {n n' k k' : Int} {c c' e e' : Cs} {s s' u u' : Ss}
set_option maxRecDepth 100000 in
set_option maxHeartbeats 8000000 in
theorem calls_stamp (h : Wd W w X bm gm br gr xc yc xs ys A ws o n ws o n c c s s) (hc : COk c) (hs : SOk s) (A0 B0 T V : Int) : Calls Try.prog 51 #[.pointer (some ⟨X, 0, none⟩), .agg #[.int .i64 2, .int .i64 A0, .int .i64 B0, .int .i64 T, .int .u64 V], plnV 0 0 A0 B0 0 0] w fun r w' => r = .returned (.bool true) ∧ Go13 W w' X bm gm br gr := by
  have H0 := Lib.hid (lw_new h 2 A0 B0 T V)
  have HOK := Lib.hid (And.intro hc hs)
  obtain ⟨z0, z1, z2, z3, z4, z5, z6, z7⟩ := h.cells
  clear h hc hs
  obtain ⟨ax0, ax1, ax2, ax3, ax4, ax5, ax6, ax7⟩ := H0.out.y.cells
  obtain ⟨⟨ao0, ao1, ao2, ao3, ao4, ao5⟩, ap0, ap1, ap2, ap3, ap4, ap5, ap6⟩ := H0.out.cells
  unfold plnV
  go_enter Try.func51, Try.ntmps51
  go_wp2
  have HDa := Lib.hid (H0.out.on (tb_drew (Below.refl _ _)))
  refine wp_region_seq (fun w' => w'.cell? ⟨X, 0, none⟩ = some (.pointer (some ⟨bm, 0, none⟩)) ∧ w'.cell? ⟨(w.heap.size + 1), 0, none⟩ = some (.int .i64 0) ∧ w'.cell? ⟨(w.heap.size + 1), 1, none⟩ = some (.int .i64 0) ∧ w'.cell? ⟨(w.heap.size + 1), 2, none⟩ = some (.int .i64 A0) ∧ w'.cell? ⟨(w.heap.size + 1), 3, none⟩ = some (.int .i64 B0) ∧ w'.cell? ⟨(w.heap.size + 1), 4, none⟩ = some (.int .i64 0) ∧ w'.cell? ⟨(w.heap.size + 1), 5, none⟩ = some (.int .i64 0)) ((0, true) :: (1, true) :: (2, true) :: (3, true) :: (4, true) :: (5, false) :: (6, true) :: (7, true) :: (8, true) :: (9, true) :: (10, true) :: []) follows13 (by kernel_rfl) (fun _ _ _ _ _ h => h) ⟨ax0, ap0, ap1, ap2, ap3, ap4, ap5⟩ ?_
  repeat (first | (refine wpSeq_take (v := ?_) rfl (by rfl) (fun wq hSq => ?_) ?_; rotate_left; (focus ((try dsimp only at hSq); go_simp; try with_reducible rfl)); simp only [Act.put, List.setIfInBounds_toArray, List.set_cons_zero, List.set_cons_succ]) | (refine wpSeq_skip rfl (by rfl) ?_; simp only [Act.put, List.setIfInBounds_toArray, List.set_cons_zero, List.set_cons_succ]))
  refine wpSeq_do rfl (by rfl) (fun KK hK => ?_)
  go_simp
  refine (stampM_any HDa.out.y.m 0 0 A0 B0 0 0).mono ?_
  rintro r wH1 ⟨rfl, hm, hch⟩
  have H1 := Lib.hid (HDa.out.onM hm hch)
  clear hm hch
  clear HDa H0
  obtain ⟨bx0, bx1, bx2, bx3, bx4, bx5, bx6, bx7⟩ := H1.out.y.cells
  obtain ⟨⟨bo0, bo1, bo2, bo3, bo4, bo5⟩, bp0, bp1, bp2, bp3, bp4, bp5, bp6⟩ := H1.out.cells
  refine hK.out _ _ ⟨bx0, bp0, bp1, bp2, bp3, bp4, bp5⟩ ?_
  clear hK KK
  try simp only [Act.put, List.setIfInBounds_toArray, List.set_cons_zero, List.set_cons_succ]
  repeat (first | (refine wpSeq_take (v := ?_) rfl (by rfl) (fun wq hSq => ?_) ?_; rotate_left; (focus ((try dsimp only at hSq); go_simp; try with_reducible rfl)); simp only [Act.put, List.setIfInBounds_toArray, List.set_cons_zero, List.set_cons_succ]) | (refine wpSeq_skip rfl (by rfl) ?_; simp only [Act.put, List.setIfInBounds_toArray, List.set_cons_zero, List.set_cons_succ]))
  refine wpSeq_nil ?_
  go_wp2
  have HDb := Lib.hid (H1.out.on (tb_drew (Below.refl _ _)))
  refine wp_region_seq (fun w' => w'.cell? ⟨X, 1, none⟩ = some (.pointer (some ⟨br, 0, none⟩)) ∧ w'.cell? ⟨(w.heap.size + 1), 0, none⟩ = some (.int .i64 0) ∧ w'.cell? ⟨(w.heap.size + 1), 1, none⟩ = some (.int .i64 0) ∧ w'.cell? ⟨(w.heap.size + 1), 2, none⟩ = some (.int .i64 A0) ∧ w'.cell? ⟨(w.heap.size + 1), 3, none⟩ = some (.int .i64 B0) ∧ w'.cell? ⟨(w.heap.size + 1), 4, none⟩ = some (.int .i64 0) ∧ w'.cell? ⟨(w.heap.size + 1), 5, none⟩ = some (.int .i64 0)) ((0, true) :: (1, true) :: (2, true) :: (3, true) :: (4, true) :: (5, false) :: (6, true) :: (7, true) :: (8, true) :: (9, true) :: (10, true) :: []) follows13 (by kernel_rfl) (fun _ _ _ _ _ h => h) ⟨bx1, bp0, bp1, bp2, bp3, bp4, bp5⟩ ?_
  repeat (first | (refine wpSeq_take (v := ?_) rfl (by rfl) (fun wq hSq => ?_) ?_; rotate_left; (focus ((try dsimp only at hSq); go_simp; try with_reducible rfl)); simp only [Act.put, List.setIfInBounds_toArray, List.set_cons_zero, List.set_cons_succ]) | (refine wpSeq_skip rfl (by rfl) ?_; simp only [Act.put, List.setIfInBounds_toArray, List.set_cons_zero, List.set_cons_succ]))
  refine wpSeq_do rfl (by rfl) (fun KK hK => ?_)
  go_simp
  refine (refStamp_any HDb.out.y.d 0 0 A0 B0 0 0).mono ?_
  rintro r wH2 ⟨rfl, hm, hch⟩
  have H2 := Lib.hid (HDb.out.onD hm hch)
  clear hm hch
  clear HDb H1
  obtain ⟨dx0, dx1, dx2, dx3, dx4, dx5, dx6, dx7⟩ := H2.out.y.cells
  obtain ⟨⟨do0, do1, do2, do3, do4, do5⟩, dp0, dp1, dp2, dp3, dp4, dp5, dp6⟩ := H2.out.cells
  refine hK.out _ _ ⟨dx1, dp0, dp1, dp2, dp3, dp4, dp5⟩ ?_
  clear hK KK
  try simp only [Act.put, List.setIfInBounds_toArray, List.set_cons_zero, List.set_cons_succ]
  repeat (first | (refine wpSeq_take (v := ?_) rfl (by rfl) (fun wq hSq => ?_) ?_; rotate_left; (focus ((try dsimp only at hSq); go_simp; try with_reducible rfl)); simp only [Act.put, List.setIfInBounds_toArray, List.set_cons_zero, List.set_cons_succ]) | (refine wpSeq_skip rfl (by rfl) ?_; simp only [Act.put, List.setIfInBounds_toArray, List.set_cons_zero, List.set_cons_succ]))
  refine wpSeq_nil ?_
  go_wp2
  go_ret
  exact ⟨by simp, _, _, _, _, _, _, _, _, _, _, HOK.out.1, HOK.out.2, H2.out.y⟩
set_option maxRecDepth 100000 in
set_option maxHeartbeats 8000000 in
theorem calls_publish (h : Wd W w X bm gm br gr xc yc xs ys A ws o n ws o n c c s s) (hc : COk c) (hs : SOk s) (A0 B0 T V : Int) : Calls Try.prog 51 #[.pointer (some ⟨X, 0, none⟩), .agg #[.int .i64 3, .int .i64 A0, .int .i64 B0, .int .i64 T, .int .u64 V], plnV 0 0 A0 B0 0 0] w fun r w' => r = .returned (.bool true) ∧ Go13 W w' X bm gm br gr := by
  have H0 := Lib.hid (lw_new h 3 A0 B0 T V)
  have HOK := Lib.hid (And.intro hc hs)
  obtain ⟨z0, z1, z2, z3, z4, z5, z6, z7⟩ := h.cells
  clear h hc hs
  obtain ⟨ax0, ax1, ax2, ax3, ax4, ax5, ax6, ax7⟩ := H0.out.y.cells
  obtain ⟨⟨ao0, ao1, ao2, ao3, ao4, ao5⟩, ap0, ap1, ap2, ap3, ap4, ap5, ap6⟩ := H0.out.cells
  unfold plnV
  go_enter Try.func51, Try.ntmps51
  go_wp2
  have HDa := Lib.hid (H0.out.on (tb_drew (Below.refl _ _)))
  refine wp_region_seq (fun w' => w'.cell? ⟨X, 0, none⟩ = some (.pointer (some ⟨bm, 0, none⟩)) ∧ w'.cell? ⟨w.heap.size, 4, none⟩ = some (.int .u64 V) ∧ w'.cell? ⟨(w.heap.size + 1), 0, none⟩ = some (.int .i64 0) ∧ w'.cell? ⟨(w.heap.size + 1), 1, none⟩ = some (.int .i64 0) ∧ w'.cell? ⟨(w.heap.size + 1), 2, none⟩ = some (.int .i64 A0) ∧ w'.cell? ⟨(w.heap.size + 1), 3, none⟩ = some (.int .i64 B0) ∧ w'.cell? ⟨(w.heap.size + 1), 4, none⟩ = some (.int .i64 0) ∧ w'.cell? ⟨(w.heap.size + 1), 5, none⟩ = some (.int .i64 0)) ((0, true) :: (1, true) :: (2, true) :: (3, true) :: (4, true) :: (5, true) :: (6, true) :: (7, false) :: (8, true) :: []) follows13 (by kernel_rfl) (fun _ _ _ _ _ h => h) ⟨ax0, ao4, ap0, ap1, ap2, ap3, ap4, ap5⟩ ?_
  repeat (first | (refine wpSeq_take (v := ?_) rfl (by rfl) (fun wq hSq => ?_) ?_; rotate_left; (focus ((try dsimp only at hSq); go_simp; try with_reducible rfl)); simp only [Act.put, List.setIfInBounds_toArray, List.set_cons_zero, List.set_cons_succ]) | (refine wpSeq_skip rfl (by rfl) ?_; simp only [Act.put, List.setIfInBounds_toArray, List.set_cons_zero, List.set_cons_succ]))
  refine wpSeq_do rfl (by rfl) (fun KK hK => ?_)
  go_simp
  refine (publish_any HDa.out.y.m 0 0 A0 B0 0 0 V).mono ?_
  rintro r wH1 ⟨rfl, hm, hch⟩
  have H1 := Lib.hid (HDa.out.onM hm hch)
  clear hm hch
  clear HDa H0
  obtain ⟨bx0, bx1, bx2, bx3, bx4, bx5, bx6, bx7⟩ := H1.out.y.cells
  obtain ⟨⟨bo0, bo1, bo2, bo3, bo4, bo5⟩, bp0, bp1, bp2, bp3, bp4, bp5, bp6⟩ := H1.out.cells
  refine hK.out _ _ ⟨bx0, bo4, bp0, bp1, bp2, bp3, bp4, bp5⟩ ?_
  clear hK KK
  try simp only [Act.put, List.setIfInBounds_toArray, List.set_cons_zero, List.set_cons_succ]
  repeat (first | (refine wpSeq_take (v := ?_) rfl (by rfl) (fun wq hSq => ?_) ?_; rotate_left; (focus ((try dsimp only at hSq); go_simp; try with_reducible rfl)); simp only [Act.put, List.setIfInBounds_toArray, List.set_cons_zero, List.set_cons_succ]) | (refine wpSeq_skip rfl (by rfl) ?_; simp only [Act.put, List.setIfInBounds_toArray, List.set_cons_zero, List.set_cons_succ]))
  refine wpSeq_nil ?_
  go_wp2
  have HDb := Lib.hid (H1.out.on (tb_drew (Below.refl _ _)))
  refine wp_region_seq (fun w' => w'.cell? ⟨X, 1, none⟩ = some (.pointer (some ⟨br, 0, none⟩)) ∧ w'.cell? ⟨w.heap.size, 4, none⟩ = some (.int .u64 V) ∧ w'.cell? ⟨(w.heap.size + 1), 0, none⟩ = some (.int .i64 0) ∧ w'.cell? ⟨(w.heap.size + 1), 1, none⟩ = some (.int .i64 0) ∧ w'.cell? ⟨(w.heap.size + 1), 2, none⟩ = some (.int .i64 A0) ∧ w'.cell? ⟨(w.heap.size + 1), 3, none⟩ = some (.int .i64 B0) ∧ w'.cell? ⟨(w.heap.size + 1), 4, none⟩ = some (.int .i64 0) ∧ w'.cell? ⟨(w.heap.size + 1), 5, none⟩ = some (.int .i64 0)) ((0, true) :: (1, true) :: (2, true) :: (3, true) :: (4, true) :: (5, true) :: (6, true) :: (7, false) :: (8, true) :: []) follows13 (by kernel_rfl) (fun _ _ _ _ _ h => h) ⟨bx1, bo4, bp0, bp1, bp2, bp3, bp4, bp5⟩ ?_
  repeat (first | (refine wpSeq_take (v := ?_) rfl (by rfl) (fun wq hSq => ?_) ?_; rotate_left; (focus ((try dsimp only at hSq); go_simp; try with_reducible rfl)); simp only [Act.put, List.setIfInBounds_toArray, List.set_cons_zero, List.set_cons_succ]) | (refine wpSeq_skip rfl (by rfl) ?_; simp only [Act.put, List.setIfInBounds_toArray, List.set_cons_zero, List.set_cons_succ]))
  refine wpSeq_do rfl (by rfl) (fun KK hK => ?_)
  go_simp
  refine (refPublish_any HDb.out.y.d 0 0 A0 B0 0 0 V).mono ?_
  rintro r wH2 ⟨rfl, hm, hch⟩
  have H2 := Lib.hid (HDb.out.onD hm hch)
  clear hm hch
  clear HDb H1
  obtain ⟨dx0, dx1, dx2, dx3, dx4, dx5, dx6, dx7⟩ := H2.out.y.cells
  obtain ⟨⟨do0, do1, do2, do3, do4, do5⟩, dp0, dp1, dp2, dp3, dp4, dp5, dp6⟩ := H2.out.cells
  refine hK.out _ _ ⟨dx1, do4, dp0, dp1, dp2, dp3, dp4, dp5⟩ ?_
  clear hK KK
  try simp only [Act.put, List.setIfInBounds_toArray, List.set_cons_zero, List.set_cons_succ]
  repeat (first | (refine wpSeq_take (v := ?_) rfl (by rfl) (fun wq hSq => ?_) ?_; rotate_left; (focus ((try dsimp only at hSq); go_simp; try with_reducible rfl)); simp only [Act.put, List.setIfInBounds_toArray, List.set_cons_zero, List.set_cons_succ]) | (refine wpSeq_skip rfl (by rfl) ?_; simp only [Act.put, List.setIfInBounds_toArray, List.set_cons_zero, List.set_cons_succ]))
  refine wpSeq_nil ?_
  go_wp2
  go_ret
  exact ⟨by simp, _, _, _, _, _, _, _, _, _, _, HOK.out.1, HOK.out.2, H2.out.y⟩
set_option maxRecDepth 100000 in
set_option maxHeartbeats 8000000 in
theorem calls_leave (h : Wd W w X bm gm br gr xc yc xs ys A ws o n ws o n c c s s) (hc : COk c) (hs : SOk s) (A0 B0 T V : Int) : Calls Try.prog 51 #[.pointer (some ⟨X, 0, none⟩), .agg #[.int .i64 4, .int .i64 A0, .int .i64 B0, .int .i64 T, .int .u64 V], plnV 0 0 A0 B0 0 0] w fun r w' => r = .returned (.bool true) ∧ Go13 W w' X bm gm br gr := by
  have H0 := Lib.hid (lw_new h 4 A0 B0 T V)
  have HOK := Lib.hid (And.intro hc hs)
  obtain ⟨z0, z1, z2, z3, z4, z5, z6, z7⟩ := h.cells
  clear h hc hs
  obtain ⟨ax0, ax1, ax2, ax3, ax4, ax5, ax6, ax7⟩ := H0.out.y.cells
  obtain ⟨⟨ao0, ao1, ao2, ao3, ao4, ao5⟩, ap0, ap1, ap2, ap3, ap4, ap5, ap6⟩ := H0.out.cells
  unfold plnV
  go_enter Try.func51, Try.ntmps51
  go_wp2
  have HDa := Lib.hid (H0.out.on (tb_drew (Below.refl _ _)))
  refine wp_region_seq (fun w' => w'.cell? ⟨X, 0, none⟩ = some (.pointer (some ⟨bm, 0, none⟩)) ∧ w'.cell? ⟨w.heap.size, 3, none⟩ = some (.int .i64 T) ∧ w'.cell? ⟨(w.heap.size + 1), 0, none⟩ = some (.int .i64 0) ∧ w'.cell? ⟨(w.heap.size + 1), 1, none⟩ = some (.int .i64 0) ∧ w'.cell? ⟨(w.heap.size + 1), 2, none⟩ = some (.int .i64 A0) ∧ w'.cell? ⟨(w.heap.size + 1), 3, none⟩ = some (.int .i64 B0) ∧ w'.cell? ⟨(w.heap.size + 1), 4, none⟩ = some (.int .i64 0) ∧ w'.cell? ⟨(w.heap.size + 1), 5, none⟩ = some (.int .i64 0)) ((0, true) :: (1, true) :: (2, true) :: (3, true) :: (4, true) :: (5, true) :: (6, true) :: (7, false) :: (8, true) :: []) follows13 (by kernel_rfl) (fun _ _ _ _ _ h => h) ⟨ax0, ao3, ap0, ap1, ap2, ap3, ap4, ap5⟩ ?_
  repeat (first | (refine wpSeq_take (v := ?_) rfl (by rfl) (fun wq hSq => ?_) ?_; rotate_left; (focus ((try dsimp only at hSq); go_simp; try with_reducible rfl)); simp only [Act.put, List.setIfInBounds_toArray, List.set_cons_zero, List.set_cons_succ]) | (refine wpSeq_skip rfl (by rfl) ?_; simp only [Act.put, List.setIfInBounds_toArray, List.set_cons_zero, List.set_cons_succ]))
  refine wpSeq_do rfl (by rfl) (fun KK hK => ?_)
  go_simp
  refine (leave_any HDa.out.y.m 0 0 A0 B0 0 0 T).mono ?_
  rintro r wH1 ⟨rfl, hm, hch⟩
  have H1 := Lib.hid (HDa.out.onM hm hch)
  clear hm hch
  clear HDa H0
  obtain ⟨bx0, bx1, bx2, bx3, bx4, bx5, bx6, bx7⟩ := H1.out.y.cells
  obtain ⟨⟨bo0, bo1, bo2, bo3, bo4, bo5⟩, bp0, bp1, bp2, bp3, bp4, bp5, bp6⟩ := H1.out.cells
  refine hK.out _ _ ⟨bx0, bo3, bp0, bp1, bp2, bp3, bp4, bp5⟩ ?_
  clear hK KK
  try simp only [Act.put, List.setIfInBounds_toArray, List.set_cons_zero, List.set_cons_succ]
  repeat (first | (refine wpSeq_take (v := ?_) rfl (by rfl) (fun wq hSq => ?_) ?_; rotate_left; (focus ((try dsimp only at hSq); go_simp; try with_reducible rfl)); simp only [Act.put, List.setIfInBounds_toArray, List.set_cons_zero, List.set_cons_succ]) | (refine wpSeq_skip rfl (by rfl) ?_; simp only [Act.put, List.setIfInBounds_toArray, List.set_cons_zero, List.set_cons_succ]))
  refine wpSeq_nil ?_
  go_wp2
  have HDb := Lib.hid (H1.out.on (tb_drew (Below.refl _ _)))
  refine wp_region_seq (fun w' => w'.cell? ⟨X, 1, none⟩ = some (.pointer (some ⟨br, 0, none⟩)) ∧ w'.cell? ⟨w.heap.size, 3, none⟩ = some (.int .i64 T) ∧ w'.cell? ⟨(w.heap.size + 1), 0, none⟩ = some (.int .i64 0) ∧ w'.cell? ⟨(w.heap.size + 1), 1, none⟩ = some (.int .i64 0) ∧ w'.cell? ⟨(w.heap.size + 1), 2, none⟩ = some (.int .i64 A0) ∧ w'.cell? ⟨(w.heap.size + 1), 3, none⟩ = some (.int .i64 B0) ∧ w'.cell? ⟨(w.heap.size + 1), 4, none⟩ = some (.int .i64 0) ∧ w'.cell? ⟨(w.heap.size + 1), 5, none⟩ = some (.int .i64 0)) ((0, true) :: (1, true) :: (2, true) :: (3, true) :: (4, true) :: (5, true) :: (6, true) :: (7, false) :: (8, true) :: []) follows13 (by kernel_rfl) (fun _ _ _ _ _ h => h) ⟨bx1, bo3, bp0, bp1, bp2, bp3, bp4, bp5⟩ ?_
  repeat (first | (refine wpSeq_take (v := ?_) rfl (by rfl) (fun wq hSq => ?_) ?_; rotate_left; (focus ((try dsimp only at hSq); go_simp; try with_reducible rfl)); simp only [Act.put, List.setIfInBounds_toArray, List.set_cons_zero, List.set_cons_succ]) | (refine wpSeq_skip rfl (by rfl) ?_; simp only [Act.put, List.setIfInBounds_toArray, List.set_cons_zero, List.set_cons_succ]))
  refine wpSeq_do rfl (by rfl) (fun KK hK => ?_)
  go_simp
  refine (refLeave_any HDb.out.y.d 0 0 A0 B0 0 0 T).mono ?_
  rintro r wH2 ⟨rfl, hm, hch⟩
  have H2 := Lib.hid (HDb.out.onD hm hch)
  clear hm hch
  clear HDb H1
  obtain ⟨dx0, dx1, dx2, dx3, dx4, dx5, dx6, dx7⟩ := H2.out.y.cells
  obtain ⟨⟨do0, do1, do2, do3, do4, do5⟩, dp0, dp1, dp2, dp3, dp4, dp5, dp6⟩ := H2.out.cells
  refine hK.out _ _ ⟨dx1, do3, dp0, dp1, dp2, dp3, dp4, dp5⟩ ?_
  clear hK KK
  try simp only [Act.put, List.setIfInBounds_toArray, List.set_cons_zero, List.set_cons_succ]
  repeat (first | (refine wpSeq_take (v := ?_) rfl (by rfl) (fun wq hSq => ?_) ?_; rotate_left; (focus ((try dsimp only at hSq); go_simp; try with_reducible rfl)); simp only [Act.put, List.setIfInBounds_toArray, List.set_cons_zero, List.set_cons_succ]) | (refine wpSeq_skip rfl (by rfl) ?_; simp only [Act.put, List.setIfInBounds_toArray, List.set_cons_zero, List.set_cons_succ]))
  refine wpSeq_nil ?_
  go_wp2
  go_ret
  exact ⟨by simp, _, _, _, _, _, _, _, _, _, _, HOK.out.1, HOK.out.2, H2.out.y⟩
set_option maxRecDepth 100000 in
set_option maxHeartbeats 8000000 in
theorem calls_peek (h : Wd W w X bm gm br gr xc yc xs ys A ws o n ws o n c c s s) (hc : COk c) (hs : SOk s) (A0 B0 T V : Int) : Calls Try.prog 51 #[.pointer (some ⟨X, 0, none⟩), .agg #[.int .i64 5, .int .i64 A0, .int .i64 B0, .int .i64 T, .int .u64 V], plnV 0 0 A0 B0 0 0] w fun r w' => r = .returned (.bool true) ∧ Go13 W w' X bm gm br gr := by
  have H0 := Lib.hid (lw_new h 5 A0 B0 T V)
  have HOK := Lib.hid (And.intro hc hs)
  obtain ⟨z0, z1, z2, z3, z4, z5, z6, z7⟩ := h.cells
  clear h hc hs
  obtain ⟨ax0, ax1, ax2, ax3, ax4, ax5, ax6, ax7⟩ := H0.out.y.cells
  obtain ⟨⟨ao0, ao1, ao2, ao3, ao4, ao5⟩, ap0, ap1, ap2, ap3, ap4, ap5, ap6⟩ := H0.out.cells
  unfold plnV
  go_enter Try.func51, Try.ntmps51
  go_wp2
  have HDa := Lib.hid (H0.out.on (tb_drew (Below.refl _ _)))
  refine wp_region_seq (fun w' => w'.cell? ⟨X, 0, none⟩ = some (.pointer (some ⟨bm, 0, none⟩)) ∧ w'.cell? ⟨w.heap.size, 3, none⟩ = some (.int .i64 T) ∧ w'.cell? ⟨(w.heap.size + 1), 0, none⟩ = some (.int .i64 0) ∧ w'.cell? ⟨(w.heap.size + 1), 1, none⟩ = some (.int .i64 0) ∧ w'.cell? ⟨(w.heap.size + 1), 2, none⟩ = some (.int .i64 A0) ∧ w'.cell? ⟨(w.heap.size + 1), 3, none⟩ = some (.int .i64 B0) ∧ w'.cell? ⟨(w.heap.size + 1), 4, none⟩ = some (.int .i64 0) ∧ w'.cell? ⟨(w.heap.size + 1), 5, none⟩ = some (.int .i64 0)) ((0, true) :: (1, true) :: (2, true) :: (3, true) :: (4, true) :: (5, true) :: (6, true) :: (7, false) :: (8, true) :: (9, true) :: (10, true) :: (11, true) :: (12, true) :: (13, true) :: (14, true) :: []) follows13 (by kernel_rfl) (fun _ _ _ _ _ h => h) ⟨ax0, ao3, ap0, ap1, ap2, ap3, ap4, ap5⟩ ?_
  repeat (first | (refine wpSeq_take (v := ?_) rfl (by rfl) (fun wq hSq => ?_) ?_; rotate_left; (focus ((try dsimp only at hSq); go_simp; try with_reducible rfl)); simp only [Act.put, List.setIfInBounds_toArray, List.set_cons_zero, List.set_cons_succ]) | (refine wpSeq_skip rfl (by rfl) ?_; simp only [Act.put, List.setIfInBounds_toArray, List.set_cons_zero, List.set_cons_succ]))
  refine wpSeq_do rfl (by rfl) (fun KK hK => ?_)
  go_simp
  refine (kpeek_any HDa.out.y.m 0 0 A0 B0 0 0 T).mono ?_
  rintro r wH1 ⟨rfl, hb⟩
  have H1 := Lib.hid (HDa.out.on hb)
  clear hb
  clear HDa H0
  obtain ⟨bx0, bx1, bx2, bx3, bx4, bx5, bx6, bx7⟩ := H1.out.y.cells
  obtain ⟨⟨bo0, bo1, bo2, bo3, bo4, bo5⟩, bp0, bp1, bp2, bp3, bp4, bp5, bp6⟩ := H1.out.cells
  refine hK.out _ _ ⟨bx0, bo3, bp0, bp1, bp2, bp3, bp4, bp5⟩ ?_
  clear hK KK
  try simp only [Act.put, List.setIfInBounds_toArray, List.set_cons_zero, List.set_cons_succ]
  repeat (first | (refine wpSeq_take (v := ?_) rfl (by rfl) (fun wq hSq => ?_) ?_; rotate_left; (focus ((try dsimp only at hSq); go_simp; try with_reducible rfl)); simp only [Act.put, List.setIfInBounds_toArray, List.set_cons_zero, List.set_cons_succ]) | (refine wpSeq_skip rfl (by rfl) ?_; simp only [Act.put, List.setIfInBounds_toArray, List.set_cons_zero, List.set_cons_succ]))
  refine wpSeq_nil ?_
  go_wp2
  have HDb := Lib.hid (H1.out.on (tb_drew (Below.refl _ _)))
  refine wp_region_seq (fun w' => w'.cell? ⟨X, 1, none⟩ = some (.pointer (some ⟨br, 0, none⟩)) ∧ w'.cell? ⟨w.heap.size, 3, none⟩ = some (.int .i64 T) ∧ w'.cell? ⟨(w.heap.size + 1), 0, none⟩ = some (.int .i64 0) ∧ w'.cell? ⟨(w.heap.size + 1), 1, none⟩ = some (.int .i64 0) ∧ w'.cell? ⟨(w.heap.size + 1), 2, none⟩ = some (.int .i64 A0) ∧ w'.cell? ⟨(w.heap.size + 1), 3, none⟩ = some (.int .i64 B0) ∧ w'.cell? ⟨(w.heap.size + 1), 4, none⟩ = some (.int .i64 0) ∧ w'.cell? ⟨(w.heap.size + 1), 5, none⟩ = some (.int .i64 0)) ((0, true) :: (1, true) :: (2, true) :: (3, true) :: (4, true) :: (5, true) :: (6, true) :: (7, false) :: (8, true) :: (9, true) :: (10, true) :: (11, true) :: (12, true) :: (13, true) :: (14, true) :: []) follows13 (by kernel_rfl) (fun _ _ _ _ _ h => h) ⟨bx1, bo3, bp0, bp1, bp2, bp3, bp4, bp5⟩ ?_
  repeat (first | (refine wpSeq_take (v := ?_) rfl (by rfl) (fun wq hSq => ?_) ?_; rotate_left; (focus ((try dsimp only at hSq); go_simp; try with_reducible rfl)); simp only [Act.put, List.setIfInBounds_toArray, List.set_cons_zero, List.set_cons_succ]) | (refine wpSeq_skip rfl (by rfl) ?_; simp only [Act.put, List.setIfInBounds_toArray, List.set_cons_zero, List.set_cons_succ]))
  refine wpSeq_do rfl (by rfl) (fun KK hK => ?_)
  go_simp
  refine (refKpeek_any HDb.out.y.d 0 0 A0 B0 0 0 T).mono ?_
  rintro r wH2 ⟨rfl, hb⟩
  have H2 := Lib.hid (HDb.out.on hb)
  clear hb
  clear HDb H1
  obtain ⟨dx0, dx1, dx2, dx3, dx4, dx5, dx6, dx7⟩ := H2.out.y.cells
  obtain ⟨⟨do0, do1, do2, do3, do4, do5⟩, dp0, dp1, dp2, dp3, dp4, dp5, dp6⟩ := H2.out.cells
  refine hK.out _ _ ⟨dx1, do3, dp0, dp1, dp2, dp3, dp4, dp5⟩ ?_
  clear hK KK
  try simp only [Act.put, List.setIfInBounds_toArray, List.set_cons_zero, List.set_cons_succ]
  repeat (first | (refine wpSeq_take (v := ?_) rfl (by rfl) (fun wq hSq => ?_) ?_; rotate_left; (focus ((try dsimp only at hSq); go_simp; try with_reducible rfl)); simp only [Act.put, List.setIfInBounds_toArray, List.set_cons_zero, List.set_cons_succ]) | (refine wpSeq_skip rfl (by rfl) ?_; simp only [Act.put, List.setIfInBounds_toArray, List.set_cons_zero, List.set_cons_succ]))
  refine wpSeq_nil ?_
  go_wp2
  go_ret
  exact ⟨by simp, _, _, _, _, _, _, _, _, _, _, HOK.out.1, HOK.out.2, H2.out.y⟩
set_option maxRecDepth 100000 in
set_option maxHeartbeats 8000000 in
theorem calls_none (h : Wd W w X bm gm br gr xc yc xs ys A ws o n ws o n c c s s) (hc : COk c) (hs : SOk s) (K A0 B0 T V : Int) (h2 : ¬ K = 2) (h3 : ¬ K = 3) (h4 : ¬ K = 4) (h5 : ¬ K = 5) : Calls Try.prog 51 #[.pointer (some ⟨X, 0, none⟩), .agg #[.int .i64 K, .int .i64 A0, .int .i64 B0, .int .i64 T, .int .u64 V], plnV 0 0 A0 B0 0 0] w fun r w' => r = .returned (.bool true) ∧ Go13 W w' X bm gm br gr := by
  have H0 := Lib.hid (lw_new h K A0 B0 T V)
  have HOK := Lib.hid (And.intro hc hs)
  obtain ⟨z0, z1, z2, z3, z4, z5, z6, z7⟩ := h.cells
  clear h hc hs
  obtain ⟨ax0, ax1, ax2, ax3, ax4, ax5, ax6, ax7⟩ := H0.out.y.cells
  obtain ⟨⟨ao0, ao1, ao2, ao3, ao4, ao5⟩, ap0, ap1, ap2, ap3, ap4, ap5, ap6⟩ := H0.out.cells
  unfold plnV
  go_enter Try.func51, Try.ntmps51
  go_wp2
  go_ret
  exact ⟨rfl, _, _, _, _, _, _, _, _, _, _, HOK.out.1, HOK.out.2, H0.out.y⟩
theorem calls_any (h : Wd W w X bm gm br gr xc yc xs ys A ws o n ws o n c c s s) (hc : COk c) (hs : SOk s) (K A0 B0 T V : Int) : Calls Try.prog 51 #[.pointer (some ⟨X, 0, none⟩), .agg #[.int .i64 K, .int .i64 A0, .int .i64 B0, .int .i64 T, .int .u64 V], plnV 0 0 A0 B0 0 0] w fun r w' => r = .returned (.bool true) ∧ Go13 W w' X bm gm br gr := by
  by_cases h2 : K = 2
  · subst h2; exact calls_stamp h hc hs A0 B0 T V
  by_cases h3 : K = 3
  · subst h3; exact calls_publish h hc hs A0 B0 T V
  by_cases h4 : K = 4
  · subst h4; exact calls_leave h hc hs A0 B0 T V
  by_cases h5 : K = 5
  · subst h5; exact calls_peek h hc hs A0 B0 T V
  exact calls_none h hc hs K A0 B0 T V h2 h3 h4 h5
end
end Go.Proofs.Ytdfmmolhfacahaa
