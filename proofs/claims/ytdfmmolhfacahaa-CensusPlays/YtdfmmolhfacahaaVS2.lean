import Derived.Test.YtdfmmolhfacahaaVA
namespace Go.Proofs.Ytdfmmolhfacahaa
open Go.ChangeShapes Go.WideShapes Go.ChangeAt Go.RowKit

section
variable {W w w' : World} {X bm gm br gr xc yc xs ys : Nat} {A : Int} {ws ws' vs vs' : List Int} {o o' p p' : Bool} {n n' k k' : Int} {c c' e e' : Cs} {s s' u u' : Ss}
set_option maxRecDepth 100000 in
set_option maxHeartbeats 8000000 in
theorem step_coming (h : Wd W w X bm gm br gr xc yc xs ys A ws o n ws o n c c s s) (hc : COk c) (hs : SOk s) (A0 B0 T V : Int) : Calls Try.prog 21 #[.pointer (some ⟨X, 0, none⟩), .agg #[.int .i64 7, .int .i64 A0, .int .i64 B0, .int .i64 T, .int .u64 V]] w fun r w' => r = .returned (.bool true) ∧ Go13 W w' X bm gm br gr := by
  have H0 := Lib.hid (lw_new h 7 A0 B0 T V)
  have HOK := Lib.hid (And.intro hc hs)
  obtain ⟨z0, z1, z2, z3, z4, z5, z6, z7⟩ := h.cells
  clear h hc hs
  obtain ⟨ax0, ax1, ax2, ax3, ax4, ax5, ax6, ax7⟩ := H0.out.y.cells
  obtain ⟨⟨ao0, ao1, ao2, ao3, ao4, ao5⟩, ap0, ap1, ap2, ap3, ap4, ap5, ap6⟩ := H0.out.cells
  go_enter Try.func21, Try.ntmps21
  go_wp2
  have HDa := Lib.hid (H0.out.on (tb_drew (Below.refl _ _)))
  refine wp_region_seq (fun w' => w'.cell? ⟨X, 0, none⟩ = some (.pointer (some ⟨bm, 0, none⟩)) ∧ w'.cell? ⟨X, 2, none⟩ = some (.pointer (some ⟨xc, 0, none⟩))) ((0, true) :: (1, true) :: (2, true) :: (3, true) :: (4, true) :: (5, true) :: (6, true) :: (7, true) :: (8, false) :: (9, true) :: (10, true) :: (11, true) :: (12, true) :: (13, true) :: []) follows13 (by kernel_rfl) (fun _ _ _ _ _ h => h) ⟨ax0, ax2⟩ ?_
  repeat (first | (refine wpSeq_take (v := ?_) rfl (by rfl) (fun wq hSq => ?_) ?_; rotate_left; (focus ((try dsimp only at hSq); go_simp; try with_reducible rfl)); simp only [Act.put, List.setIfInBounds_toArray, List.set_cons_zero, List.set_cons_succ]) | (refine wpSeq_skip rfl (by rfl) ?_; simp only [Act.put, List.setIfInBounds_toArray, List.set_cons_zero, List.set_cons_succ]))
  refine wpSeq_do rfl (by rfl) (fun KK hK => ?_)
  go_simp
  refine (cstep_any HDa.out.y.m HDa.out.y.c HOK.out.1).mono ?_
  rintro r wH1 ⟨rfl, hm, hx, hch⟩
  have H1 := Lib.hid (HDa.out.onC hm hx hch)
  clear hm hx hch
  clear HDa H0
  obtain ⟨bx0, bx1, bx2, bx3, bx4, bx5, bx6, bx7⟩ := H1.out.y.cells
  obtain ⟨⟨bo0, bo1, bo2, bo3, bo4, bo5⟩, bp0, bp1, bp2, bp3, bp4, bp5, bp6⟩ := H1.out.cells
  refine hK.out _ _ ⟨bx0, bx2⟩ ?_
  clear hK KK
  try simp only [Act.put, List.setIfInBounds_toArray, List.set_cons_zero, List.set_cons_succ]
  repeat (first | (refine wpSeq_take (v := ?_) rfl (by rfl) (fun wq hSq => ?_) ?_; rotate_left; (focus ((try dsimp only at hSq); go_simp; try with_reducible rfl)); simp only [Act.put, List.setIfInBounds_toArray, List.set_cons_zero, List.set_cons_succ]) | (refine wpSeq_skip rfl (by rfl) ?_; simp only [Act.put, List.setIfInBounds_toArray, List.set_cons_zero, List.set_cons_succ]))
  refine wpSeq_nil ?_
  go_wp2
  have H1y := Lib.hid H1.out.y
  clear H1
  have HDb := Lib.hid (H1y.out.on (tb_drew (Below.refl _ _)))
  refine wp_region_seq (fun w' => w'.cell? ⟨X, 1, none⟩ = some (.pointer (some ⟨br, 0, none⟩)) ∧ w'.cell? ⟨X, 3, none⟩ = some (.pointer (some ⟨yc, 0, none⟩))) ((0, true) :: (1, true) :: (2, true) :: (3, true) :: (4, true) :: (5, true) :: (6, true) :: (7, true) :: (8, false) :: (9, true) :: (10, true) :: (11, true) :: (12, true) :: (13, true) :: []) follows13 (by kernel_rfl) (fun _ _ _ _ _ h => h) ⟨bx1, bx3⟩ ?_
  repeat (first | (refine wpSeq_take (v := ?_) rfl (by rfl) (fun wq hSq => ?_) ?_; rotate_left; (focus ((try dsimp only at hSq); go_simp; try with_reducible rfl)); simp only [Act.put, List.setIfInBounds_toArray, List.set_cons_zero, List.set_cons_succ]) | (refine wpSeq_skip rfl (by rfl) ?_; simp only [Act.put, List.setIfInBounds_toArray, List.set_cons_zero, List.set_cons_succ]))
  refine wpSeq_do rfl (by rfl) (fun KK hK => ?_)
  go_simp
  refine (dcstep_any HDb.out.d HDb.out.e HOK.out.1).mono ?_
  rintro r wH2 ⟨rfl, hm, hx, hch⟩
  have H2 := Lib.hid (HDb.out.onE hm hx hch)
  clear hm hx hch HDb H1y
  obtain ⟨dx0, dx1, dx2, dx3, dx4, dx5, dx6, dx7⟩ := H2.out.cells
  refine hK.out _ _ ⟨dx1, dx3⟩ ?_
  clear hK KK
  try simp only [Act.put, List.setIfInBounds_toArray, List.set_cons_zero, List.set_cons_succ]
  repeat (first | (refine wpSeq_take (v := ?_) rfl (by rfl) (fun wq hSq => ?_) ?_; rotate_left; (focus ((try dsimp only at hSq); go_simp; try with_reducible rfl)); simp only [Act.put, List.setIfInBounds_toArray, List.set_cons_zero, List.set_cons_succ]) | (refine wpSeq_skip rfl (by rfl) ?_; simp only [Act.put, List.setIfInBounds_toArray, List.set_cons_zero, List.set_cons_succ]))
  refine wpSeq_nil ?_
  go_wp2
  have HT := Lib.hid (H2.out.on (tb_drew (Below.refl _ _)))
  obtain ⟨t0, t1, t2, t3, t4, t5, t6, t7⟩ := HT.out.cells
  refine wp_region_seq (fun w' => w'.cell? ⟨X, 2, none⟩ = some (.pointer (some ⟨xc, 0, none⟩)) ∧ w'.cell? ⟨X, 3, none⟩ = some (.pointer (some ⟨yc, 0, none⟩)) ∧ w'.cell? ⟨X, 4, none⟩ = some (.pointer (some ⟨xs, 0, none⟩)) ∧ w'.cell? ⟨X, 5, none⟩ = some (.pointer (some ⟨ys, 0, none⟩))) ((0, true) :: (1, true) :: (2, true) :: (3, true) :: (5, true) :: (6, true) :: (7, true) :: (8, true) :: (4, false) :: (9, false) :: (10, true) :: (11, true) :: (12, true) :: (13, true) :: (14, true) :: (15, true) :: (17, true) :: (18, true) :: (19, true) :: (20, true) :: (16, false) :: (21, false) :: (22, true) :: (23, true) :: (24, true) :: (25, true) :: (26, true) :: (27, true) :: (28, true) :: (30, true) :: (31, true) :: (32, true) :: (33, true) :: (29, false) :: (34, false) :: (35, true) :: (36, true) :: (37, true) :: (38, true) :: (39, true) :: (40, true) :: (41, true) :: (43, true) :: (44, true) :: (45, true) :: (46, true) :: (42, false) :: (47, false) :: (48, true) :: (49, true) :: (50, true) :: []) follows13 (by kernel_rfl) (fun _ _ _ _ _ h => h) ⟨t2, t3, t4, t5⟩ ?_
  repeat (first | (refine wpSeq_take (v := ?_) rfl (by rfl) (fun wq hSq => ?_) ?_; rotate_left; (focus ((try dsimp only at hSq); go_simp; try with_reducible rfl)); simp only [Act.put, List.setIfInBounds_toArray, List.set_cons_zero, List.set_cons_succ]) | (refine wpSeq_skip rfl (by rfl) ?_; simp only [Act.put, List.setIfInBounds_toArray, List.set_cons_zero, List.set_cons_succ]))
  refine wpSeq_do rfl (by rfl) (fun KK hK => ?_)
  go_simp
  refine (claim_any HT.out.c).mono ?_
  rintro r wt ⟨rfl, hw⟩
  subst wt
  refine hK.out _ _ ⟨t2, t3, t4, t5⟩ ?_
  clear hK KK
  try simp only [Act.put, List.setIfInBounds_toArray, List.set_cons_zero, List.set_cons_succ]
  repeat (first | (refine wpSeq_take (v := ?_) rfl (by rfl) (fun wq hSq => ?_) ?_; rotate_left; (focus ((try dsimp only at hSq); go_simp; try with_reducible rfl)); simp only [Act.put, List.setIfInBounds_toArray, List.set_cons_zero, List.set_cons_succ]) | (refine wpSeq_skip rfl (by rfl) ?_; simp only [Act.put, List.setIfInBounds_toArray, List.set_cons_zero, List.set_cons_succ]))
  refine wpSeq_do rfl (by rfl) (fun KK hK => ?_)
  go_simp
  refine (dclaim_any HT.out.e).mono ?_
  rintro r wt ⟨rfl, hw⟩
  subst wt
  refine hK.out _ _ ⟨t2, t3, t4, t5⟩ ?_
  clear hK KK
  try simp only [Act.put, List.setIfInBounds_toArray, List.set_cons_zero, List.set_cons_succ]
  repeat (first | (refine wpSeq_take (v := ?_) rfl (by rfl) (fun wq hSq => ?_) ?_; rotate_left; (focus ((try dsimp only at hSq); go_simp; try with_reducible rfl)); simp only [Act.put, List.setIfInBounds_toArray, List.set_cons_zero, List.set_cons_succ]) | (refine wpSeq_skip rfl (by rfl) ?_; simp only [Act.put, List.setIfInBounds_toArray, List.set_cons_zero, List.set_cons_succ]))
  refine wpSeq_do rfl (by rfl) (fun KK hK => ?_)
  go_simp
  refine (stampC_any HT.out.c).mono ?_
  rintro r wt ⟨rfl, hw⟩
  subst wt
  refine hK.out _ _ ⟨t2, t3, t4, t5⟩ ?_
  clear hK KK
  try simp only [Act.put, List.setIfInBounds_toArray, List.set_cons_zero, List.set_cons_succ]
  repeat (first | (refine wpSeq_take (v := ?_) rfl (by rfl) (fun wq hSq => ?_) ?_; rotate_left; (focus ((try dsimp only at hSq); go_simp; try with_reducible rfl)); simp only [Act.put, List.setIfInBounds_toArray, List.set_cons_zero, List.set_cons_succ]) | (refine wpSeq_skip rfl (by rfl) ?_; simp only [Act.put, List.setIfInBounds_toArray, List.set_cons_zero, List.set_cons_succ]))
  refine wpSeq_do rfl (by rfl) (fun KK hK => ?_)
  go_simp
  refine (dstampC_any HT.out.e).mono ?_
  rintro r wt ⟨rfl, hw⟩
  subst wt
  refine hK.out _ _ ⟨t2, t3, t4, t5⟩ ?_
  clear hK KK
  try simp only [Act.put, List.setIfInBounds_toArray, List.set_cons_zero, List.set_cons_succ]
  repeat (first | (refine wpSeq_take (v := ?_) rfl (by rfl) (fun wq hSq => ?_) ?_; rotate_left; (focus ((try dsimp only at hSq); go_simp; try with_reducible rfl)); simp only [Act.put, List.setIfInBounds_toArray, List.set_cons_zero, List.set_cons_succ]) | (refine wpSeq_skip rfl (by rfl) ?_; simp only [Act.put, List.setIfInBounds_toArray, List.set_cons_zero, List.set_cons_succ]))
  refine wpSeq_do rfl (by rfl) (fun KK hK => ?_)
  go_simp
  refine (at_any HT.out.s).mono ?_
  rintro r wt ⟨rfl, hw⟩
  subst wt
  refine hK.out _ _ ⟨t2, t3, t4, t5⟩ ?_
  clear hK KK
  try simp only [Act.put, List.setIfInBounds_toArray, List.set_cons_zero, List.set_cons_succ]
  repeat (first | (refine wpSeq_take (v := ?_) rfl (by rfl) (fun wq hSq => ?_) ?_; rotate_left; (focus ((try dsimp only at hSq); go_simp; try with_reducible rfl)); simp only [Act.put, List.setIfInBounds_toArray, List.set_cons_zero, List.set_cons_succ]) | (refine wpSeq_skip rfl (by rfl) ?_; simp only [Act.put, List.setIfInBounds_toArray, List.set_cons_zero, List.set_cons_succ]))
  refine wpSeq_do rfl (by rfl) (fun KK hK => ?_)
  go_simp
  refine (dat_any HT.out.u).mono ?_
  rintro r wt ⟨rfl, hw⟩
  subst wt
  refine hK.out _ _ ⟨t2, t3, t4, t5⟩ ?_
  clear hK KK
  try simp only [Act.put, List.setIfInBounds_toArray, List.set_cons_zero, List.set_cons_succ]
  repeat (first | (refine wpSeq_take (v := ?_) rfl (by rfl) (fun wq hSq => ?_) ?_; rotate_left; (focus ((try dsimp only at hSq); go_simp; try with_reducible rfl)); simp only [Act.put, List.setIfInBounds_toArray, List.set_cons_zero, List.set_cons_succ]) | (refine wpSeq_skip rfl (by rfl) ?_; simp only [Act.put, List.setIfInBounds_toArray, List.set_cons_zero, List.set_cons_succ]))
  refine wpSeq_do rfl (by rfl) (fun KK hK => ?_)
  go_simp
  refine (polls_any HT.out.s).mono ?_
  rintro r wt ⟨rfl, hw⟩
  subst wt
  refine hK.out _ _ ⟨t2, t3, t4, t5⟩ ?_
  clear hK KK
  try simp only [Act.put, List.setIfInBounds_toArray, List.set_cons_zero, List.set_cons_succ]
  repeat (first | (refine wpSeq_take (v := ?_) rfl (by rfl) (fun wq hSq => ?_) ?_; rotate_left; (focus ((try dsimp only at hSq); go_simp; try with_reducible rfl)); simp only [Act.put, List.setIfInBounds_toArray, List.set_cons_zero, List.set_cons_succ]) | (refine wpSeq_skip rfl (by rfl) ?_; simp only [Act.put, List.setIfInBounds_toArray, List.set_cons_zero, List.set_cons_succ]))
  refine wpSeq_do rfl (by rfl) (fun KK hK => ?_)
  go_simp
  refine (dpolls_any HT.out.u).mono ?_
  rintro r wt ⟨rfl, hw⟩
  subst wt
  refine hK.out _ _ ⟨t2, t3, t4, t5⟩ ?_
  clear hK KK
  try simp only [Act.put, List.setIfInBounds_toArray, List.set_cons_zero, List.set_cons_succ]
  repeat (first | (refine wpSeq_take (v := ?_) rfl (by rfl) (fun wq hSq => ?_) ?_; rotate_left; (focus ((try dsimp only at hSq); go_simp; try with_reducible rfl)); simp only [Act.put, List.setIfInBounds_toArray, List.set_cons_zero, List.set_cons_succ]) | (refine wpSeq_skip rfl (by rfl) ?_; simp only [Act.put, List.setIfInBounds_toArray, List.set_cons_zero, List.set_cons_succ]))
  refine wpSeq_nil ?_
  go_wp2
  go_ret
  exact ⟨by simp, _, _, _, _, _, _, _, _, _, _, HOK.out.1.step _ _, HOK.out.2, HT.out⟩
end
end Go.Proofs.Ytdfmmolhfacahaa
