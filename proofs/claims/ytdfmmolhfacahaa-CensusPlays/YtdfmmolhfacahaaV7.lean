import Derived.Test.YtdfmmolhfacahaaV6
namespace Go.Proofs.Ytdfmmolhfacahaa
open Go.ChangeShapes Go.WideShapes Go.ChangeAt Go.RowKit

/-- the document's coming -/
def DcAt (w : World) (y : Nat) (c : Cs) : Prop := w.heap[y]? = some (.cells #[.int .i64 0, .int .i64 0, .int .i64 c.A, .int .i64 c.B, .int .i64 0, .int .i64 0, .int .i64 c.T, .int .i64 c.N, .int .u64 c.K, .int .u64 c.S] 88 (0, 0))
section
variable {w w' : World} {y : Nat} {c : Cs}
theorem DcAt.lt (h : DcAt w y c) : y < w.heap.size := lt_of_block h
theorem DcAt.keep (h : DcAt w y c) (e : w'.heap[y]? = w.heap[y]?) : DcAt w' y c := e.trans h
theorem DcAt.on (h : DcAt w y c) (k : Below w.heap.size w w') : DcAt w' y c := h.keep (k.block y h.lt)
theorem DcAt.cells (h : DcAt w y c) : w.cell? ⟨y, 0, none⟩ = some (.int .i64 0) ∧ w.cell? ⟨y, 1, none⟩ = some (.int .i64 0) ∧ w.cell? ⟨y, 2, none⟩ = some (.int .i64 c.A) ∧ w.cell? ⟨y, 3, none⟩ = some (.int .i64 c.B) ∧ w.cell? ⟨y, 4, none⟩ = some (.int .i64 0) ∧ w.cell? ⟨y, 5, none⟩ = some (.int .i64 0) ∧ w.cell? ⟨y, 6, none⟩ = some (.int .i64 c.T) ∧ w.cell? ⟨y, 7, none⟩ = some (.int .i64 c.N) ∧ w.cell? ⟨y, 8, none⟩ = some (.int .u64 c.K) ∧ w.cell? ⟨y, 9, none⟩ = some (.int .u64 c.S) ∧ y < w.heap.size ∧ w.frozen? ⟨y, 7, none⟩ = false ∧ w.frozen? ⟨y, 8, none⟩ = false ∧ w.frozen? ⟨y, 9, none⟩ = false :=
  ⟨by rw [cell_of_row w y 0 _ _ _ h]; rfl, by rw [cell_of_row w y 1 _ _ _ h]; rfl, by rw [cell_of_row w y 2 _ _ _ h]; rfl, by rw [cell_of_row w y 3 _ _ _ h]; rfl, by rw [cell_of_row w y 4 _ _ _ h]; rfl, by rw [cell_of_row w y 5 _ _ _ h]; rfl, by rw [cell_of_row w y 6 _ _ _ h]; rfl, by rw [cell_of_row w y 7 _ _ _ h]; rfl, by rw [cell_of_row w y 8 _ _ _ h]; rfl, by rw [cell_of_row w y 9 _ _ _ h]; rfl, lt_of_block h, frozen_of_row w y 7 _ _ h, frozen_of_row w y 8 _ _ h, frozen_of_row w y 9 _ _ h⟩
theorem DcAt.setN (h : DcAt w y c) (v : Int) : DcAt (w.setCell ⟨y, 7, none⟩ (.int .i64 v)) y { c with N := v } := (heap_setCell_same w y 7 _ _ _ h).trans rfl
theorem DcAt.setK (h : DcAt w y c) (v : Int) : DcAt (w.setCell ⟨y, 8, none⟩ (.int .u64 v)) y { c with K := v } := (heap_setCell_same w y 8 _ _ _ h).trans rfl
theorem DcAt.setS (h : DcAt w y c) (v : Int) : DcAt (w.setCell ⟨y, 9, none⟩ (.int .u64 v)) y { c with S := v } := (heap_setCell_same w y 9 _ _ _ h).trans rfl
theorem dclaim_any (h : DcAt w y c) : Calls Try.prog 52 #[.pointer (some ⟨y, 0, none⟩)] w fun e w' => e = .returned (.int .u64 c.K) ∧ w' = w := by
  obtain ⟨h0, h1, h2, h3, h4, h5, h6, h7, h8, h9, h10, _⟩ := h.cells
  clear h
  go_enter Try.func52, Try.ntmps52
  go_wp2
  go_ret
  exact ⟨rfl, rfl⟩
theorem dstampC_any (h : DcAt w y c) : Calls Try.prog 53 #[.pointer (some ⟨y, 0, none⟩)] w fun e w' => e = .returned (.int .u64 c.S) ∧ w' = w := by
  obtain ⟨h0, h1, h2, h3, h4, h5, h6, h7, h8, h9, h10, _⟩ := h.cells
  clear h
  go_enter Try.func53, Try.ntmps53
  go_wp2
  go_ret
  exact ⟨rfl, rfl⟩
theorem dcome_any (a b t : Int) (w : World) : Calls Try.prog 19 #[plnV 0 0 a b 0 0, .int .i64 t] w fun e w' => ∃ y, e = .returned (.pointer (some ⟨y, 0, none⟩)) ∧ w.heap.size ≤ y ∧ DcAt w' y ⟨a, b, t, 0, 0, 0⟩ ∧ Below w.heap.size w w' := by
  unfold plnV
  go_enter Try.func19, Try.ntmps19
  go_wp2
  go_ret
  first
    | exact ⟨_, rfl, by simp, alloc_at (by simp), tb_alloc (tb_alloc (Below.refl _ _) _) _⟩
    | exact ⟨_, rfl, by simp, alloc_at (by simp), tb_alloc (Below.refl _ _) _⟩
end
section
variable {w : World} {b g y : Nat} {ws : List Int} {o : Bool} {n : Int} {c : Cs}
theorem DcAt.ne (h : DcAt w y c) (m : MemAt 86 w b g ws o n) : y ≠ b ∧ y ≠ g := ⟨ne_ty h m.box rfl, ne_ty h m.row rfl⟩
set_option maxRecDepth 100000 in
theorem dc_over (hx : DcAt w y c) (hN : c.N = 3) (b : Nat) : Calls Try.prog 47 #[.pointer (some ⟨y, 0, none⟩), .pointer (some ⟨b, 0, none⟩)] w fun e w' => e = .returned (.tuple #[.bool false, .int .i64 3]) ∧ w' = w := by
  obtain ⟨h0, h1, h2, h3, h4, h5, h6, h7, h8, h9, h10, _⟩ := hx.cells
  rw [hN] at h7
  clear hx hN
  go_enter Try.func47, Try.ntmps47
  go_wp2
  go_ret2
  exact ⟨rfl, rfl⟩
set_option maxRecDepth 100000 in
theorem dc_may (hx : DcAt w y c) (hN : ¬ 2 < c.N) (hm : may8 c.T = false) (b : Nat) : Calls Try.prog 47 #[.pointer (some ⟨y, 0, none⟩), .pointer (some ⟨b, 0, none⟩)] w fun e w' => e = .returned (.tuple #[.bool false, .int .i64 100]) ∧ w' = w := by
  obtain ⟨h0, h1, h2, h3, h4, h5, h6, h7, h8, h9, h10, _⟩ := hx.cells
  have HY := Lib.hid (refMay8_any c.T)
  simp only [hm] at HY
  clear hx hm
  go_enter Try.func47, Try.ntmps47
  go_wp2_with (go_at_call 64; refine (HY.out _).mono ?_; rintro e w1 ⟨rfl, hw⟩; subst w1)
  go_ret2
  exact ⟨rfl, rfl⟩
set_option maxRecDepth 100000 in
set_option maxHeartbeats 1000000 in
theorem dc_zero (h : MemAt 86 w b g ws o n) {A B T K S : Int} (hx : DcAt w y ⟨A, B, T, 0, K, S⟩) (hm : may8 T = true) : Calls Try.prog 47 #[.pointer (some ⟨y, 0, none⟩), .pointer (some ⟨b, 0, none⟩)] w fun e w' => e = .returned (.tuple #[.bool (decide (errA ws o A = 0) && false), .int .i64 (errA ws o A)]) ∧ MemAt 86 w' b g ws (spentO ws o A) (spentC ws o A n) ∧ DcAt w' y (if errA ws o A = 0 then ⟨A, B, T, 1, toldW ws o A, S⟩ else ⟨A, B, T, 0, K, S⟩) ∧ Ch3 b g y w w' := by
  have HN := Lib.hid (hx.ne h)
  have HX := Lib.hid hx
  obtain ⟨h0, h1, h2, h3, h4, h5, h6, h7, h8, h9, h10, h11, h12, h13⟩ := hx.cells
  have HY := Lib.hid (refMay8_any T)
  simp only [hm] at HY
  have HL := Lib.hid (refLoad_any h A)
  generalize errA ws o A = er at *
  generalize toldW ws o A = v at *
  clear h hx hm
  dsimp only at h0 h1 h2 h3 h4 h5 h6 h7 h8 h9
  by_cases q : er = 0
  · subst q
    rw [if_pos rfl, decide_eq_true rfl, Bool.true_and]
    go_enter Try.func47, Try.ntmps47
    go_wp2_with (first
      | (go_at_call 64; refine (HY.out _).mono ?_; rintro e w1 ⟨rfl, hw⟩; subst w1)
      | (go_at_call 67; refine HL.out.mono ?_; rintro e w2 ⟨rfl, hm, hc⟩; have HM2 := Lib.hid hm; have HC2 := Lib.hid hc; have HX2 := Lib.hid (HX.out.keep (hc.block y h10 HN.out.1 HN.out.2)); obtain ⟨k0, k1, k2, k3, k4, k5, k6, k7, k8, k9, k10, k11, k12, k13⟩ := HX2.out.cells; clear hm hc; dsimp only at k0 k1 k2 k3 k4 k5 k6 k7 k8 k9))
    go_ret2
    exact ⟨rfl, (HM2.out.other HN.out.1.symm HN.out.2.symm _ _).other HN.out.1.symm HN.out.2.symm _ _, (HX2.out.setK v).setN 1, (((Ch3.refl _ _ _ _).chg HC2.out).set _ _).set _ _⟩
  · rw [if_neg q, decide_eq_false q, Bool.false_and]
    go_enter Try.func47, Try.ntmps47
    go_wp2_with (first
      | (go_at_call 64; refine (HY.out _).mono ?_; rintro e w1 ⟨rfl, hw⟩; subst w1)
      | (go_at_call 67; refine HL.out.mono ?_; rintro e w2 ⟨rfl, hm, hc⟩; have HM2 := Lib.hid hm; have HC2 := Lib.hid hc; have HX2 := Lib.hid (HX.out.keep (hc.block y h10 HN.out.1 HN.out.2)); clear hm hc))
    go_ret2
    exact ⟨rfl, HM2.out, HX2.out, (Ch3.refl _ _ _ _).chg HC2.out⟩
set_option maxRecDepth 100000 in
set_option maxHeartbeats 1000000 in
theorem dc_two (h : MemAt 86 w b g ws o n) {A B T K S : Int} (hx : DcAt w y ⟨A, B, T, 2, K, S⟩) (hm : may8 T = true) : Calls Try.prog 47 #[.pointer (some ⟨y, 0, none⟩), .pointer (some ⟨b, 0, none⟩)] w fun e w' => e = .returned (.tuple #[.bool (decide (errA ws o A = 0) && true), .int .i64 (errA ws o A)]) ∧ MemAt 86 w' b g ws (spentO ws o A) (spentC ws o A n) ∧ DcAt w' y (if errA ws o A = 0 then ⟨A, B, T, 3, K, toldW ws o A⟩ else ⟨A, B, T, 2, K, S⟩) ∧ Ch3 b g y w w' := by
  have HN := Lib.hid (hx.ne h)
  have HX := Lib.hid hx
  obtain ⟨h0, h1, h2, h3, h4, h5, h6, h7, h8, h9, h10, h11, h12, h13⟩ := hx.cells
  have HY := Lib.hid (refMay8_any T)
  simp only [hm] at HY
  have HL := Lib.hid (refLoad_any h A)
  generalize errA ws o A = er at *
  generalize toldW ws o A = v at *
  clear h hx hm
  dsimp only at h0 h1 h2 h3 h4 h5 h6 h7 h8 h9
  by_cases q : er = 0
  · subst q
    rw [if_pos rfl, decide_eq_true rfl, Bool.true_and]
    go_enter Try.func47, Try.ntmps47
    go_wp2_with (first
      | (go_at_call 64; refine (HY.out _).mono ?_; rintro e w1 ⟨rfl, hw⟩; subst w1)
      | (go_at_call 67; refine HL.out.mono ?_; rintro e w2 ⟨rfl, hm, hc⟩; have HM2 := Lib.hid hm; have HC2 := Lib.hid hc; have HX2 := Lib.hid (HX.out.keep (hc.block y h10 HN.out.1 HN.out.2)); obtain ⟨k0, k1, k2, k3, k4, k5, k6, k7, k8, k9, k10, k11, k12, k13⟩ := HX2.out.cells; clear hm hc; dsimp only at k0 k1 k2 k3 k4 k5 k6 k7 k8 k9))
    go_ret2
    exact ⟨rfl, (HM2.out.other HN.out.1.symm HN.out.2.symm _ _).other HN.out.1.symm HN.out.2.symm _ _, (HX2.out.setS v).setN 3, (((Ch3.refl _ _ _ _).chg HC2.out).set _ _).set _ _⟩
  · rw [if_neg q, decide_eq_false q, Bool.false_and]
    go_enter Try.func47, Try.ntmps47
    go_wp2_with (first
      | (go_at_call 64; refine (HY.out _).mono ?_; rintro e w1 ⟨rfl, hw⟩; subst w1)
      | (go_at_call 67; refine HL.out.mono ?_; rintro e w2 ⟨rfl, hm, hc⟩; have HM2 := Lib.hid hm; have HC2 := Lib.hid hc; have HX2 := Lib.hid (HX.out.keep (hc.block y h10 HN.out.1 HN.out.2)); clear hm hc))
    go_ret2
    exact ⟨rfl, HM2.out, HX2.out, (Ch3.refl _ _ _ _).chg HC2.out⟩
set_option maxRecDepth 100000 in
set_option maxHeartbeats 2000000 in
theorem dc_one (h : MemAt 86 w b g ws o n) {A B T K S : Int} (hx : DcAt w y ⟨A, B, T, 1, K, S⟩) (hm : may8 T = true) : Calls Try.prog 47 #[.pointer (some ⟨y, 0, none⟩), .pointer (some ⟨b, 0, none⟩)] w fun e w' => e = .returned (.tuple #[.bool false, .int .i64 (errA ws o (plc B T))]) ∧ MemAt 86 w' b g (stored ws o (plc B T) (passV K)) (spentO ws o (plc B T)) (spentC ws o (plc B T) n) ∧ DcAt w' y (if errA ws o (plc B T) = 0 then ⟨A, B, T, 2, K, S⟩ else ⟨A, B, T, 1, K, S⟩) ∧ Ch3 b g y w w' := by
  have HN := Lib.hid (hx.ne h)
  have HX := Lib.hid hx
  obtain ⟨h0, h1, h2, h3, h4, h5, h6, h7, h8, h9, h10, h11, h12, h13⟩ := hx.cells
  have HY := Lib.hid (refMay8_any T)
  simp only [hm] at HY
  have HPL := Lib.hid (refWord_any 0 0 A B 0 0 T hm)
  have HST := Lib.hid (fun w1 (hb : Below w.heap.size w w1) => refStore_any (h.on hb) (plc B T) (passV K))
  unfold plnV passV at *
  generalize errA ws o (plc B T) = er at *
  clear h hx hm
  dsimp only at h0 h1 h2 h3 h4 h5 h6 h7 h8 h9
  by_cases q : er = 0
  · subst q
    rw [if_pos rfl]
    go_enter Try.func47, Try.ntmps47
    go_wp2_with (go_at_call 64; refine (HY.out _).mono ?_; rintro e w1 ⟨rfl, hw⟩; subst w1)
    refine wp_region_seq (fun w' => w'.cell? ⟨y, 0, none⟩ = some (.int .i64 0) ∧ w'.cell? ⟨y, 1, none⟩ = some (.int .i64 0) ∧ w'.cell? ⟨y, 2, none⟩ = some (.int .i64 A) ∧ w'.cell? ⟨y, 3, none⟩ = some (.int .i64 B) ∧ w'.cell? ⟨y, 4, none⟩ = some (.int .i64 0) ∧ w'.cell? ⟨y, 5, none⟩ = some (.int .i64 0) ∧ w'.cell? ⟨y, 6, none⟩ = some (.int .i64 T)) ((0, true) :: (1, true) :: (2, true) :: (3, true) :: (4, true) :: (5, true) :: (6, true) :: (7, true) :: (8, false) :: (9, true) :: []) follows13 (by kernel_rfl) (fun _ _ _ _ _ h => h) ⟨h0, h1, h2, h3, h4, h5, h6⟩ ?_
    repeat (first | (refine wpSeq_take (v := ?_) rfl (by rfl) (fun wq hSq => ?_) ?_; rotate_left; (focus ((try dsimp only at hSq); go_simp; try with_reducible rfl)); simp only [Act.put, List.setIfInBounds_toArray, List.set_cons_zero, List.set_cons_succ]) | (refine wpSeq_skip rfl (by rfl) ?_; simp only [Act.put, List.setIfInBounds_toArray, List.set_cons_zero, List.set_cons_succ]))
    refine wpSeq_do rfl (by rfl) (fun KK hK => ?_)
    go_simp
    refine (HPL.out _).mono ?_
    rintro e w1 ⟨rfl, hb⟩
    have HB1 : Hid (Below w.heap.size w w1) := below_step (tb_drew (Below.refl _ _)) hb
    have HX1 := Lib.hid (HX.out.on HB1.out)
    obtain ⟨k0, k1, k2, k3, k4, k5, k6, k7, k8, k9, k10, k11, k12, k13⟩ := HX1.out.cells
    dsimp only at k0 k1 k2 k3 k4 k5 k6 k7 k8 k9
    refine hK.out _ _ ⟨k0, k1, k2, k3, k4, k5, k6⟩ ?_
    clear hK KK hb
    try simp only [Act.put, List.setIfInBounds_toArray, List.set_cons_zero, List.set_cons_succ]
    repeat (first | (refine wpSeq_take (v := ?_) rfl (by rfl) (fun wq hSq => ?_) ?_; rotate_left; (focus ((try dsimp only at hSq); go_simp; try with_reducible rfl)); simp only [Act.put, List.setIfInBounds_toArray, List.set_cons_zero, List.set_cons_succ]) | (refine wpSeq_skip rfl (by rfl) ?_; simp only [Act.put, List.setIfInBounds_toArray, List.set_cons_zero, List.set_cons_succ]))
    refine wpSeq_nil ?_
    go_wp2_with (go_at_call 66; refine (HST.out _ HB1.out).mono ?_; rintro e w2 ⟨rfl, hm, hc⟩; have HM2 := Lib.hid hm; have HC2 := Lib.hid (chg_from HB1.out hc); have HX2 := Lib.hid (HX.out.keep (HC2.out.block y h10 HN.out.1 HN.out.2)); obtain ⟨j0, j1, j2, j3, j4, j5, j6, j7, j8, j9, j10, j11, j12, j13⟩ := HX2.out.cells; clear hm hc; dsimp only at j0 j1 j2 j3 j4 j5 j6 j7 j8 j9)
    go_ret2
    exact ⟨rfl, HM2.out.other HN.out.1.symm HN.out.2.symm _ _, HX2.out.setN _, ((Ch3.refl _ _ _ _).chg HC2.out).set _ _⟩
  · rw [if_neg q]
    go_enter Try.func47, Try.ntmps47
    go_wp2_with (go_at_call 64; refine (HY.out _).mono ?_; rintro e w1 ⟨rfl, hw⟩; subst w1)
    refine wp_region_seq (fun w' => w'.cell? ⟨y, 0, none⟩ = some (.int .i64 0) ∧ w'.cell? ⟨y, 1, none⟩ = some (.int .i64 0) ∧ w'.cell? ⟨y, 2, none⟩ = some (.int .i64 A) ∧ w'.cell? ⟨y, 3, none⟩ = some (.int .i64 B) ∧ w'.cell? ⟨y, 4, none⟩ = some (.int .i64 0) ∧ w'.cell? ⟨y, 5, none⟩ = some (.int .i64 0) ∧ w'.cell? ⟨y, 6, none⟩ = some (.int .i64 T)) ((0, true) :: (1, true) :: (2, true) :: (3, true) :: (4, true) :: (5, true) :: (6, true) :: (7, true) :: (8, false) :: (9, true) :: []) follows13 (by kernel_rfl) (fun _ _ _ _ _ h => h) ⟨h0, h1, h2, h3, h4, h5, h6⟩ ?_
    repeat (first | (refine wpSeq_take (v := ?_) rfl (by rfl) (fun wq hSq => ?_) ?_; rotate_left; (focus ((try dsimp only at hSq); go_simp; try with_reducible rfl)); simp only [Act.put, List.setIfInBounds_toArray, List.set_cons_zero, List.set_cons_succ]) | (refine wpSeq_skip rfl (by rfl) ?_; simp only [Act.put, List.setIfInBounds_toArray, List.set_cons_zero, List.set_cons_succ]))
    refine wpSeq_do rfl (by rfl) (fun KK hK => ?_)
    go_simp
    refine (HPL.out _).mono ?_
    rintro e w1 ⟨rfl, hb⟩
    have HB1 : Hid (Below w.heap.size w w1) := below_step (tb_drew (Below.refl _ _)) hb
    have HX1 := Lib.hid (HX.out.on HB1.out)
    obtain ⟨k0, k1, k2, k3, k4, k5, k6, k7, k8, k9, k10, k11, k12, k13⟩ := HX1.out.cells
    dsimp only at k0 k1 k2 k3 k4 k5 k6 k7 k8 k9
    refine hK.out _ _ ⟨k0, k1, k2, k3, k4, k5, k6⟩ ?_
    clear hK KK hb
    try simp only [Act.put, List.setIfInBounds_toArray, List.set_cons_zero, List.set_cons_succ]
    repeat (first | (refine wpSeq_take (v := ?_) rfl (by rfl) (fun wq hSq => ?_) ?_; rotate_left; (focus ((try dsimp only at hSq); go_simp; try with_reducible rfl)); simp only [Act.put, List.setIfInBounds_toArray, List.set_cons_zero, List.set_cons_succ]) | (refine wpSeq_skip rfl (by rfl) ?_; simp only [Act.put, List.setIfInBounds_toArray, List.set_cons_zero, List.set_cons_succ]))
    refine wpSeq_nil ?_
    go_wp2_with (go_at_call 66; refine (HST.out _ HB1.out).mono ?_; rintro e w2 ⟨rfl, hm, hc⟩; have HM2 := Lib.hid hm; have HC2 := Lib.hid (chg_from HB1.out hc); have HX2 := Lib.hid (HX.out.keep (HC2.out.block y h10 HN.out.1 HN.out.2)); obtain ⟨j0, j1, j2, j3, j4, j5, j6, j7, j8, j9, j10, j11, j12, j13⟩ := HX2.out.cells; clear hm hc; dsimp only at j0 j1 j2 j3 j4 j5 j6 j7 j8 j9)
    go_ret2
    exact ⟨rfl, HM2.out, HX2.out, (Ch3.refl _ _ _ _).chg HC2.out⟩
theorem dcstep_any (h : MemAt 86 w b g ws o n) (hx : DcAt w y c) (hc : COk c) : Calls Try.prog 47 #[.pointer (some ⟨y, 0, none⟩), .pointer (some ⟨b, 0, none⟩)] w fun e w' => e = .returned (.tuple #[.bool (cO c ws o), .int .i64 (cE c ws o)]) ∧ MemAt 86 w' b g (cW c ws o) (cP c ws o) (cQ c ws o n) ∧ DcAt w' y (cC c ws o) ∧ Ch3 b g y w w' := by
  by_cases h3 : c.N = 3
  · have e : cE c ws o = 3 := by simp [cE, h3]
    unfold cO cW cP cQ cC
    rw [e]
    refine (dc_over hx h3 b).mono ?_
    rintro r w' ⟨rfl, rfl⟩
    exact ⟨by simp, by simpa using h, by simpa using hx, Ch3.refl _ _ _ _⟩
  · have hn := hc.n
    cases hm : may8 c.T
    · have e : cE c ws o = 100 := by simp [cE, h3, hm]
      unfold cO cW cP cQ cC
      rw [e]
      refine (dc_may hx (by omega) hm b).mono ?_
      rintro r w' ⟨rfl, rfl⟩
      exact ⟨by simp, by simpa using h, by simpa using hx, Ch3.refl _ _ _ _⟩
    · have e : cE c ws o = errA ws o (cI c) := by simp [cE, h3, hm]
      unfold cO cW cP cQ cC
      rw [e]
      clear e
      obtain ⟨A, B, T, N, K, S⟩ := c
      unfold cI
      dsimp only at h3 hn hm ⊢
      rcases hn with rfl | rfl | rfl | rfl
      · refine (dc_zero h hx hm).mono ?_
        rintro r w' ⟨rfl, hm', hx', hch⟩
        refine ⟨by simp, ?_, ?_, hch⟩
        · by_cases q : errA ws o A = 0
          · have f := ok_facts q
            rw [f.2.1, f.2.2.1] at hm'
            simpa [q] using hm'
          · have f := no_facts q
            rw [f.2.1, f.2.2.1] at hm'
            simpa [q] using hm'
        · by_cases q : errA ws o A = 0
          · have f := ok_facts q
            rw [if_pos q, f.2.2.2.1] at hx'
            simpa [q] using hx'
          · rw [if_neg q] at hx'
            simpa [q] using hx'
      · refine (dc_one h hx hm).mono ?_
        rintro r w' ⟨rfl, hm', hx', hch⟩
        refine ⟨by simp, ?_, ?_, hch⟩
        · by_cases q : errA ws o (plc B T) = 0
          · have f := ok_facts q
            rw [f.1, f.2.1, f.2.2.1] at hm'
            simpa [q] using hm'
          · have f := no_facts q
            rw [f.1, f.2.1, f.2.2.1] at hm'
            simpa [q] using hm'
        · by_cases q : errA ws o (plc B T) = 0
          · rw [if_pos q] at hx'
            simpa [q] using hx'
          · rw [if_neg q] at hx'
            simpa [q] using hx'
      · refine (dc_two h hx hm).mono ?_
        rintro r w' ⟨rfl, hm', hx', hch⟩
        refine ⟨by simp, ?_, ?_, hch⟩
        · by_cases q : errA ws o A = 0
          · have f := ok_facts q
            rw [f.2.1, f.2.2.1] at hm'
            simpa [q] using hm'
          · have f := no_facts q
            rw [f.2.1, f.2.2.1] at hm'
            simpa [q] using hm'
        · by_cases q : errA ws o A = 0
          · have f := ok_facts q
            rw [if_pos q, f.2.2.2.1] at hx'
            simpa [q] using hx'
          · rw [if_neg q] at hx'
            simpa [q] using hx'
      · exact absurd rfl h3
end
end Go.Proofs.Ytdfmmolhfacahaa
