import Derived.Test.YtdfmmolhfacahaaV7
namespace Go.Proofs.Ytdfmmolhfacahaa
open Go.ChangeShapes Go.WideShapes Go.ChangeAt Go.RowKit

/-- the document's scan -/
def EsAt (w : World) (y : Nat) (A : Int) (s : Ss) : Prop := w.heap[y]? = some (.cells #[.int .i64 0, .int .i64 0, .int .i64 A, .int .i64 s.B, .int .i64 0, .int .i64 0, .int .i64 s.H, .int .u64 s.D, .int .i64 s.P, .int .i64 s.Q] 90 (0, 0))
section
variable {w w' : World} {y : Nat} {A : Int} {s : Ss}
theorem EsAt.lt (h : EsAt w y A s) : y < w.heap.size := lt_of_block h
theorem EsAt.keep (h : EsAt w y A s) (e : w'.heap[y]? = w.heap[y]?) : EsAt w' y A s := e.trans h
theorem EsAt.on (h : EsAt w y A s) (k : Below w.heap.size w w') : EsAt w' y A s := h.keep (k.block y h.lt)
theorem EsAt.cells (h : EsAt w y A s) : w.cell? ⟨y, 0, none⟩ = some (.int .i64 0) ∧ w.cell? ⟨y, 1, none⟩ = some (.int .i64 0) ∧ w.cell? ⟨y, 2, none⟩ = some (.int .i64 A) ∧ w.cell? ⟨y, 3, none⟩ = some (.int .i64 s.B) ∧ w.cell? ⟨y, 4, none⟩ = some (.int .i64 0) ∧ w.cell? ⟨y, 5, none⟩ = some (.int .i64 0) ∧ w.cell? ⟨y, 6, none⟩ = some (.int .i64 s.H) ∧ w.cell? ⟨y, 7, none⟩ = some (.int .u64 s.D) ∧ w.cell? ⟨y, 8, none⟩ = some (.int .i64 s.P) ∧ w.cell? ⟨y, 9, none⟩ = some (.int .i64 s.Q) ∧ y < w.heap.size ∧ w.frozen? ⟨y, 8, none⟩ = false ∧ w.frozen? ⟨y, 9, none⟩ = false :=
  ⟨by rw [cell_of_row w y 0 _ _ _ h]; rfl, by rw [cell_of_row w y 1 _ _ _ h]; rfl, by rw [cell_of_row w y 2 _ _ _ h]; rfl, by rw [cell_of_row w y 3 _ _ _ h]; rfl, by rw [cell_of_row w y 4 _ _ _ h]; rfl, by rw [cell_of_row w y 5 _ _ _ h]; rfl, by rw [cell_of_row w y 6 _ _ _ h]; rfl, by rw [cell_of_row w y 7 _ _ _ h]; rfl, by rw [cell_of_row w y 8 _ _ _ h]; rfl, by rw [cell_of_row w y 9 _ _ _ h]; rfl, lt_of_block h, frozen_of_row w y 8 _ _ h, frozen_of_row w y 9 _ _ h⟩
theorem EsAt.setP (h : EsAt w y A s) (v : Int) : EsAt (w.setCell ⟨y, 8, none⟩ (.int .i64 v)) y A ⟨s.B, s.H, s.D, v, s.Q⟩ := (heap_setCell_same w y 8 _ _ _ h).trans rfl
theorem EsAt.setQ (h : EsAt w y A s) (v : Int) : EsAt (w.setCell ⟨y, 9, none⟩ (.int .i64 v)) y A ⟨s.B, s.H, s.D, s.P, v⟩ := (heap_setCell_same w y 9 _ _ _ h).trans rfl
theorem dat_any (h : EsAt w y A s) : Calls Try.prog 54 #[.pointer (some ⟨y, 0, none⟩)] w fun e w' => e = .returned (.int .i64 s.P) ∧ w' = w := by
  obtain ⟨h0, h1, h2, h3, h4, h5, h6, h7, h8, h9, h10, _⟩ := h.cells
  clear h
  go_enter Try.func54, Try.ntmps54
  go_wp2
  go_ret
  exact ⟨rfl, rfl⟩
theorem dpolls_any (h : EsAt w y A s) : Calls Try.prog 55 #[.pointer (some ⟨y, 0, none⟩)] w fun e w' => e = .returned (.int .i64 s.Q) ∧ w' = w := by
  obtain ⟨h0, h1, h2, h3, h4, h5, h6, h7, h8, h9, h10, _⟩ := h.cells
  clear h
  go_enter Try.func55, Try.ntmps55
  go_wp2
  go_ret
  exact ⟨rfl, rfl⟩
theorem dlook_any (a b t d : Int) (w : World) : Calls Try.prog 20 #[plnV 0 0 a b 0 0, .int .i64 t, .int .u64 d] w fun e w' => ∃ y, e = .returned (.pointer (some ⟨y, 0, none⟩)) ∧ w.heap.size ≤ y ∧ EsAt w' y a ⟨b, t, d, 0, 0⟩ ∧ Below w.heap.size w w' := by
  unfold plnV
  go_enter Try.func20, Try.ntmps20
  go_wp2
  go_ret
  first
    | exact ⟨_, rfl, by simp, alloc_at (by simp), tb_alloc (tb_alloc (Below.refl _ _) _) _⟩
    | exact ⟨_, rfl, by simp, alloc_at (by simp), tb_alloc (Below.refl _ _) _⟩
end
section
variable {w : World} {b g y : Nat} {ws : List Int} {o : Bool} {n A : Int} {s : Ss}
theorem EsAt.ne (h : EsAt w y A s) (m : MemAt 86 w b g ws o n) : y ≠ b ∧ y ≠ g := ⟨ne_ty h m.box rfl, ne_ty h m.row rfl⟩
set_option maxRecDepth 100000 in
theorem es_may (hx : EsAt w y A s) (hm : mayH s.H = false) (b : Nat) : Calls Try.prog 48 #[.pointer (some ⟨y, 0, none⟩), .pointer (some ⟨b, 0, none⟩)] w fun e w' => e = .returned (.tuple #[.bool false, .int .i64 100]) ∧ w' = w := by
  obtain ⟨h0, h1, h2, h3, h4, h5, h6, h7, h8, h9, h10, _⟩ := hx.cells
  have h := of_decide_eq_false hm
  clear hx hm
  by_cases q : s.H < 1
  · clear h
    go_enter Try.func48, Try.ntmps48
    go_wp2
    go_ret2
    exact ⟨rfl, rfl⟩
  · have q2 : 8 < s.H := by omega
    clear h
    go_enter Try.func48, Try.ntmps48
    go_wp2
    go_ret2
    exact ⟨rfl, rfl⟩
set_option maxRecDepth 100000 in
set_option maxHeartbeats 1000000 in
theorem es_over (hx : EsAt w y A s) (hm : mayH s.H = true) (hp : s.P = s.H) (b : Nat) : Calls Try.prog 48 #[.pointer (some ⟨y, 0, none⟩), .pointer (some ⟨b, 0, none⟩)] w fun e w' => e = .returned (.tuple #[.bool false, .int .i64 3]) ∧ Below w.heap.size w w' := by
  obtain ⟨h0, h1, h2, h3, h4, h5, h6, h7, h8, h9, h10, _⟩ := hx.cells
  have h := of_decide_eq_true hm
  have q1 : ¬ s.H < 1 := by omega
  have q2 : ¬ 8 < s.H := by omega
  have q3 : s.H ≤ s.P := by omega
  clear hx hm h hp
  go_enter Try.func48, Try.ntmps48
  go_wp2
  refine wp_region_seq (fun w' => w'.cell? ⟨y, 6, none⟩ = some (.int .i64 s.H) ∧ w'.cell? ⟨y, 8, none⟩ = some (.int .i64 s.P)) ((0, true) :: (1, true) :: (2, true) :: (3, true) :: (4, true) :: (5, true) :: (6, true) :: (7, true) :: (8, true) :: []) follows13 (by kernel_rfl) (fun _ _ _ _ _ h => h) ⟨h6, h8⟩ ?_
  repeat (first | (refine wpSeq_take (v := ?_) rfl (by rfl) (fun wq hSq => ?_) ?_; rotate_left; (focus ((try dsimp only at hSq); go_simp; try with_reducible rfl)); simp only [Act.put, List.setIfInBounds_toArray, List.set_cons_zero, List.set_cons_succ]) | (refine wpSeq_skip rfl (by rfl) ?_; simp only [Act.put, List.setIfInBounds_toArray, List.set_cons_zero, List.set_cons_succ]))
  refine wpSeq_nil ?_
  go_wp2
  go_ret2
  exact ⟨rfl, tb_drew (Below.refl _ _)⟩
set_option maxRecDepth 100000 in
set_option maxHeartbeats 8000000 in
theorem es_go (h : MemAt 86 w b g ws o n) (hx : EsAt w y A s) (hok : SOk s) (hm : mayH s.H = true) (hp : s.P ≠ s.H) {er : Int} (her : errA ws o (plc s.B s.P) = er) : Calls Try.prog 48 #[.pointer (some ⟨y, 0, none⟩), .pointer (some ⟨b, 0, none⟩)] w fun e w' => e = .returned (.tuple #[.bool (decide (er = 0) && decide ((sN s (toldW ws o (plc s.B s.P))).P = s.H)), .int .i64 er]) ∧ MemAt 86 w' b g ws (spentO ws o (plc s.B s.P)) (spentC ws o (plc s.B s.P) n) ∧ EsAt w' y A (if er = 0 then sN s (toldW ws o (plc s.B s.P)) else s) ∧ Ch3 b g y w w' := by
  have HN := Lib.hid (hx.ne h)
  have HX := Lib.hid hx
  obtain ⟨h0, h1, h2, h3, h4, h5, h6, h7, h8, h9, h10, h11, h12⟩ := hx.cells
  have hh := of_decide_eq_true hm
  have hh2 := hok.p
  have hh3 := hok.h hm
  have q1 : ¬ s.H < 1 := by omega
  have q2 : ¬ 8 < s.H := by omega
  have q3 : ¬ s.H ≤ s.P := by omega
  have HPL := Lib.hid (refWord_any 0 0 A s.B 0 0 s.P (decide_eq_true (by omega)))
  have HLD := Lib.hid (fun w1 (hb : Below w.heap.size w w1) => refLoad_any (h.on hb) (plc s.B s.P))
  have hP1 : wrap64 (s.P + 1) = s.P + 1 := Go.IntWalk.wrap64_in _ ⟨by omega, by omega⟩
  unfold plnV at *
  rw [her] at HLD
  generalize toldW ws o (plc s.B s.P) = v at *
  clear h hx hm her hh hh2 hh3 hok hp
  by_cases q : er = 0
  · subst q
    rw [if_pos rfl, decide_eq_true rfl, Bool.true_and]
    unfold sN letB
    by_cases z : v = 0
    · rw [decide_eq_true z, Bool.true_or]
      subst z
      go_enter Try.func48, Try.ntmps48
      go_wp2
      refine wp_region_seq (fun w' => w'.cell? ⟨y, 6, none⟩ = some (.int .i64 s.H) ∧ w'.cell? ⟨y, 8, none⟩ = some (.int .i64 s.P)) ((0, true) :: (1, true) :: (2, true) :: (3, true) :: (4, true) :: (5, true) :: (6, true) :: (7, true) :: (8, true) :: []) follows13 (by kernel_rfl) (fun _ _ _ _ _ h => h) ⟨h6, h8⟩ ?_
      repeat (first | (refine wpSeq_take (v := ?_) rfl (by rfl) (fun wq hSq => ?_) ?_; rotate_left; (focus ((try dsimp only at hSq); go_simp; try with_reducible rfl)); simp only [Act.put, List.setIfInBounds_toArray, List.set_cons_zero, List.set_cons_succ]) | (refine wpSeq_skip rfl (by rfl) ?_; simp only [Act.put, List.setIfInBounds_toArray, List.set_cons_zero, List.set_cons_succ]))
      refine wpSeq_nil ?_
      go_wp2
      refine wp_region_seq (fun w' => w'.cell? ⟨y, 0, none⟩ = some (.int .i64 0) ∧ w'.cell? ⟨y, 1, none⟩ = some (.int .i64 0) ∧ w'.cell? ⟨y, 2, none⟩ = some (.int .i64 A) ∧ w'.cell? ⟨y, 3, none⟩ = some (.int .i64 s.B) ∧ w'.cell? ⟨y, 4, none⟩ = some (.int .i64 0) ∧ w'.cell? ⟨y, 5, none⟩ = some (.int .i64 0) ∧ w'.cell? ⟨y, 8, none⟩ = some (.int .i64 s.P)) ((0, true) :: (1, true) :: (2, true) :: (3, true) :: (4, true) :: (5, true) :: (6, true) :: (7, true) :: (8, false) :: (9, true) :: []) follows13 (by kernel_rfl) (fun _ _ _ _ _ h => h) ⟨h0, h1, h2, h3, h4, h5, h8⟩ ?_
      repeat (first | (refine wpSeq_take (v := ?_) rfl (by rfl) (fun wq hSq => ?_) ?_; rotate_left; (focus ((try dsimp only at hSq); go_simp; try with_reducible rfl)); simp only [Act.put, List.setIfInBounds_toArray, List.set_cons_zero, List.set_cons_succ]) | (refine wpSeq_skip rfl (by rfl) ?_; simp only [Act.put, List.setIfInBounds_toArray, List.set_cons_zero, List.set_cons_succ]))
      refine wpSeq_do rfl (by rfl) (fun KK hK => ?_)
      go_simp
      refine (HPL.out _).mono ?_
      rintro e w1 ⟨rfl, hb⟩
      have HB1 : Hid (Below w.heap.size w w1) := below_step (tb_drew (tb_drew (Below.refl _ _))) hb
      have HX1 := Lib.hid (HX.out.on HB1.out)
      obtain ⟨k0, k1, k2, k3, k4, k5, k6, k7, k8, k9, k10, k11, k12⟩ := HX1.out.cells
      refine hK.out _ _ ⟨k0, k1, k2, k3, k4, k5, k8⟩ ?_
      clear hK KK hb
      try simp only [Act.put, List.setIfInBounds_toArray, List.set_cons_zero, List.set_cons_succ]
      repeat (first | (refine wpSeq_take (v := ?_) rfl (by rfl) (fun wq hSq => ?_) ?_; rotate_left; (focus ((try dsimp only at hSq); go_simp; try with_reducible rfl)); simp only [Act.put, List.setIfInBounds_toArray, List.set_cons_zero, List.set_cons_succ]) | (refine wpSeq_skip rfl (by rfl) ?_; simp only [Act.put, List.setIfInBounds_toArray, List.set_cons_zero, List.set_cons_succ]))
      refine wpSeq_nil ?_
      go_wp2_with (go_at_call 67; refine (HLD.out _ HB1.out).mono ?_; rintro e w2 ⟨rfl, hm, hc⟩; have HM2 := Lib.hid hm; have HC2 := Lib.hid (chg_from HB1.out hc); have HX2 := Lib.hid (HX.out.keep (HC2.out.block y h10 HN.out.1 HN.out.2)); obtain ⟨j0, j1, j2, j3, j4, j5, j6, j7, j8, j9, j10, j11, j12⟩ := HX2.out.cells; clear hm hc)
      have HM3 := Lib.hid (HM2.out.other (n := y) HN.out.1.symm HN.out.2.symm 8 (.int .i64 (s.P + 1)))
      have HX3 := Lib.hid (HX2.out.setP (s.P + 1))
      have HC3 := Lib.hid (((Ch3.refl b g y w).chg HC2.out).set 8 (.int .i64 (s.P + 1)))
      obtain ⟨i0, i1, i2, i3, i4, i5, i6, i7, i8, i9, i10, i11, i12⟩ := HX3.out.cells
      dsimp only at i0 i1 i2 i3 i4 i5 i6 i7 i8 i9
      refine wp_region_seq (fun w' => w'.cell? ⟨y, 6, none⟩ = some (.int .i64 s.H) ∧ w'.cell? ⟨y, 8, none⟩ = some (.int .i64 (s.P + 1))) ((0, true) :: (1, true) :: (2, true) :: (3, true) :: (4, true) :: (5, true) :: (6, true) :: (7, true) :: (8, true) :: (9, true) :: (10, true) :: []) follows13 (by kernel_rfl) (fun _ _ _ _ _ h => h) ⟨i6, i8⟩ ?_
      repeat (first | (refine wpSeq_take (v := ?_) rfl (by rfl) (fun wq hSq => ?_) ?_; rotate_left; (focus ((try dsimp only at hSq); go_simp; try with_reducible rfl)); simp only [Act.put, List.setIfInBounds_toArray, List.set_cons_zero, List.set_cons_succ]) | (refine wpSeq_skip rfl (by rfl) ?_; simp only [Act.put, List.setIfInBounds_toArray, List.set_cons_zero, List.set_cons_succ]))
      refine wpSeq_nil ?_
      go_wp2
      go_ret2
      exact ⟨rfl, HM3.out.on (tb_drew (Below.refl _ _)), HX3.out.on (tb_drew (Below.refl _ _)), HC3.out.on (tb_drew (Below.refl _ _))⟩
    · rw [decide_eq_false z, Bool.false_or]
      by_cases z2 : s.D < v
      · rw [decide_eq_true z2]
        go_enter Try.func48, Try.ntmps48
        go_wp2
        refine wp_region_seq (fun w' => w'.cell? ⟨y, 6, none⟩ = some (.int .i64 s.H) ∧ w'.cell? ⟨y, 8, none⟩ = some (.int .i64 s.P)) ((0, true) :: (1, true) :: (2, true) :: (3, true) :: (4, true) :: (5, true) :: (6, true) :: (7, true) :: (8, true) :: []) follows13 (by kernel_rfl) (fun _ _ _ _ _ h => h) ⟨h6, h8⟩ ?_
        repeat (first | (refine wpSeq_take (v := ?_) rfl (by rfl) (fun wq hSq => ?_) ?_; rotate_left; (focus ((try dsimp only at hSq); go_simp; try with_reducible rfl)); simp only [Act.put, List.setIfInBounds_toArray, List.set_cons_zero, List.set_cons_succ]) | (refine wpSeq_skip rfl (by rfl) ?_; simp only [Act.put, List.setIfInBounds_toArray, List.set_cons_zero, List.set_cons_succ]))
        refine wpSeq_nil ?_
        go_wp2
        refine wp_region_seq (fun w' => w'.cell? ⟨y, 0, none⟩ = some (.int .i64 0) ∧ w'.cell? ⟨y, 1, none⟩ = some (.int .i64 0) ∧ w'.cell? ⟨y, 2, none⟩ = some (.int .i64 A) ∧ w'.cell? ⟨y, 3, none⟩ = some (.int .i64 s.B) ∧ w'.cell? ⟨y, 4, none⟩ = some (.int .i64 0) ∧ w'.cell? ⟨y, 5, none⟩ = some (.int .i64 0) ∧ w'.cell? ⟨y, 8, none⟩ = some (.int .i64 s.P)) ((0, true) :: (1, true) :: (2, true) :: (3, true) :: (4, true) :: (5, true) :: (6, true) :: (7, true) :: (8, false) :: (9, true) :: []) follows13 (by kernel_rfl) (fun _ _ _ _ _ h => h) ⟨h0, h1, h2, h3, h4, h5, h8⟩ ?_
        repeat (first | (refine wpSeq_take (v := ?_) rfl (by rfl) (fun wq hSq => ?_) ?_; rotate_left; (focus ((try dsimp only at hSq); go_simp; try with_reducible rfl)); simp only [Act.put, List.setIfInBounds_toArray, List.set_cons_zero, List.set_cons_succ]) | (refine wpSeq_skip rfl (by rfl) ?_; simp only [Act.put, List.setIfInBounds_toArray, List.set_cons_zero, List.set_cons_succ]))
        refine wpSeq_do rfl (by rfl) (fun KK hK => ?_)
        go_simp
        refine (HPL.out _).mono ?_
        rintro e w1 ⟨rfl, hb⟩
        have HB1 : Hid (Below w.heap.size w w1) := below_step (tb_drew (tb_drew (Below.refl _ _))) hb
        have HX1 := Lib.hid (HX.out.on HB1.out)
        obtain ⟨k0, k1, k2, k3, k4, k5, k6, k7, k8, k9, k10, k11, k12⟩ := HX1.out.cells
        refine hK.out _ _ ⟨k0, k1, k2, k3, k4, k5, k8⟩ ?_
        clear hK KK hb
        try simp only [Act.put, List.setIfInBounds_toArray, List.set_cons_zero, List.set_cons_succ]
        repeat (first | (refine wpSeq_take (v := ?_) rfl (by rfl) (fun wq hSq => ?_) ?_; rotate_left; (focus ((try dsimp only at hSq); go_simp; try with_reducible rfl)); simp only [Act.put, List.setIfInBounds_toArray, List.set_cons_zero, List.set_cons_succ]) | (refine wpSeq_skip rfl (by rfl) ?_; simp only [Act.put, List.setIfInBounds_toArray, List.set_cons_zero, List.set_cons_succ]))
        refine wpSeq_nil ?_
        go_wp2_with (go_at_call 67; refine (HLD.out _ HB1.out).mono ?_; rintro e w2 ⟨rfl, hm, hc⟩; have HM2 := Lib.hid hm; have HC2 := Lib.hid (chg_from HB1.out hc); have HX2 := Lib.hid (HX.out.keep (HC2.out.block y h10 HN.out.1 HN.out.2)); obtain ⟨j0, j1, j2, j3, j4, j5, j6, j7, j8, j9, j10, j11, j12⟩ := HX2.out.cells; clear hm hc)
        have HM3 := Lib.hid (HM2.out.other (n := y) HN.out.1.symm HN.out.2.symm 8 (.int .i64 (s.P + 1)))
        have HX3 := Lib.hid (HX2.out.setP (s.P + 1))
        have HC3 := Lib.hid (((Ch3.refl b g y w).chg HC2.out).set 8 (.int .i64 (s.P + 1)))
        obtain ⟨i0, i1, i2, i3, i4, i5, i6, i7, i8, i9, i10, i11, i12⟩ := HX3.out.cells
        dsimp only at i0 i1 i2 i3 i4 i5 i6 i7 i8 i9
        refine wp_region_seq (fun w' => w'.cell? ⟨y, 6, none⟩ = some (.int .i64 s.H) ∧ w'.cell? ⟨y, 8, none⟩ = some (.int .i64 (s.P + 1))) ((0, true) :: (1, true) :: (2, true) :: (3, true) :: (4, true) :: (5, true) :: (6, true) :: (7, true) :: (8, true) :: (9, true) :: (10, true) :: []) follows13 (by kernel_rfl) (fun _ _ _ _ _ h => h) ⟨i6, i8⟩ ?_
        repeat (first | (refine wpSeq_take (v := ?_) rfl (by rfl) (fun wq hSq => ?_) ?_; rotate_left; (focus ((try dsimp only at hSq); go_simp; try with_reducible rfl)); simp only [Act.put, List.setIfInBounds_toArray, List.set_cons_zero, List.set_cons_succ]) | (refine wpSeq_skip rfl (by rfl) ?_; simp only [Act.put, List.setIfInBounds_toArray, List.set_cons_zero, List.set_cons_succ]))
        refine wpSeq_nil ?_
        go_wp2
        go_ret2
        exact ⟨rfl, HM3.out.on (tb_drew (Below.refl _ _)), HX3.out.on (tb_drew (Below.refl _ _)), HC3.out.on (tb_drew (Below.refl _ _))⟩
      · rw [decide_eq_false z2]
        go_enter Try.func48, Try.ntmps48
        go_wp2
        refine wp_region_seq (fun w' => w'.cell? ⟨y, 6, none⟩ = some (.int .i64 s.H) ∧ w'.cell? ⟨y, 8, none⟩ = some (.int .i64 s.P)) ((0, true) :: (1, true) :: (2, true) :: (3, true) :: (4, true) :: (5, true) :: (6, true) :: (7, true) :: (8, true) :: []) follows13 (by kernel_rfl) (fun _ _ _ _ _ h => h) ⟨h6, h8⟩ ?_
        repeat (first | (refine wpSeq_take (v := ?_) rfl (by rfl) (fun wq hSq => ?_) ?_; rotate_left; (focus ((try dsimp only at hSq); go_simp; try with_reducible rfl)); simp only [Act.put, List.setIfInBounds_toArray, List.set_cons_zero, List.set_cons_succ]) | (refine wpSeq_skip rfl (by rfl) ?_; simp only [Act.put, List.setIfInBounds_toArray, List.set_cons_zero, List.set_cons_succ]))
        refine wpSeq_nil ?_
        go_wp2
        refine wp_region_seq (fun w' => w'.cell? ⟨y, 0, none⟩ = some (.int .i64 0) ∧ w'.cell? ⟨y, 1, none⟩ = some (.int .i64 0) ∧ w'.cell? ⟨y, 2, none⟩ = some (.int .i64 A) ∧ w'.cell? ⟨y, 3, none⟩ = some (.int .i64 s.B) ∧ w'.cell? ⟨y, 4, none⟩ = some (.int .i64 0) ∧ w'.cell? ⟨y, 5, none⟩ = some (.int .i64 0) ∧ w'.cell? ⟨y, 8, none⟩ = some (.int .i64 s.P)) ((0, true) :: (1, true) :: (2, true) :: (3, true) :: (4, true) :: (5, true) :: (6, true) :: (7, true) :: (8, false) :: (9, true) :: []) follows13 (by kernel_rfl) (fun _ _ _ _ _ h => h) ⟨h0, h1, h2, h3, h4, h5, h8⟩ ?_
        repeat (first | (refine wpSeq_take (v := ?_) rfl (by rfl) (fun wq hSq => ?_) ?_; rotate_left; (focus ((try dsimp only at hSq); go_simp; try with_reducible rfl)); simp only [Act.put, List.setIfInBounds_toArray, List.set_cons_zero, List.set_cons_succ]) | (refine wpSeq_skip rfl (by rfl) ?_; simp only [Act.put, List.setIfInBounds_toArray, List.set_cons_zero, List.set_cons_succ]))
        refine wpSeq_do rfl (by rfl) (fun KK hK => ?_)
        go_simp
        refine (HPL.out _).mono ?_
        rintro e w1 ⟨rfl, hb⟩
        have HB1 : Hid (Below w.heap.size w w1) := below_step (tb_drew (tb_drew (Below.refl _ _))) hb
        have HX1 := Lib.hid (HX.out.on HB1.out)
        obtain ⟨k0, k1, k2, k3, k4, k5, k6, k7, k8, k9, k10, k11, k12⟩ := HX1.out.cells
        refine hK.out _ _ ⟨k0, k1, k2, k3, k4, k5, k8⟩ ?_
        clear hK KK hb
        try simp only [Act.put, List.setIfInBounds_toArray, List.set_cons_zero, List.set_cons_succ]
        repeat (first | (refine wpSeq_take (v := ?_) rfl (by rfl) (fun wq hSq => ?_) ?_; rotate_left; (focus ((try dsimp only at hSq); go_simp; try with_reducible rfl)); simp only [Act.put, List.setIfInBounds_toArray, List.set_cons_zero, List.set_cons_succ]) | (refine wpSeq_skip rfl (by rfl) ?_; simp only [Act.put, List.setIfInBounds_toArray, List.set_cons_zero, List.set_cons_succ]))
        refine wpSeq_nil ?_
        go_wp2_with (go_at_call 67; refine (HLD.out _ HB1.out).mono ?_; rintro e w2 ⟨rfl, hm, hc⟩; have HM2 := Lib.hid hm; have HC2 := Lib.hid (chg_from HB1.out hc); have HX2 := Lib.hid (HX.out.keep (HC2.out.block y h10 HN.out.1 HN.out.2)); obtain ⟨j0, j1, j2, j3, j4, j5, j6, j7, j8, j9, j10, j11, j12⟩ := HX2.out.cells; clear hm hc)
        · rename_i hz kk ka
          exfalso
          rcases hz with hz | hz
          · exact z (by simpa using hz)
          · omega
        have HM3 := Lib.hid (HM2.out.other (n := y) HN.out.1.symm HN.out.2.symm 9 (.int .i64 (up s.Q)))
        have HX3 := Lib.hid (HX2.out.setQ (up s.Q))
        have HC3 := Lib.hid (((Ch3.refl b g y w).chg HC2.out).set 9 (.int .i64 (up s.Q)))
        obtain ⟨i0, i1, i2, i3, i4, i5, i6, i7, i8, i9, i10, i11, i12⟩ := HX3.out.cells
        dsimp only at i0 i1 i2 i3 i4 i5 i6 i7 i8 i9
        refine wp_region_seq (fun w' => w'.cell? ⟨y, 6, none⟩ = some (.int .i64 s.H) ∧ w'.cell? ⟨y, 8, none⟩ = some (.int .i64 s.P)) ((0, true) :: (1, true) :: (2, true) :: (3, true) :: (4, true) :: (5, true) :: (6, true) :: (7, true) :: (8, true) :: (9, true) :: (10, true) :: []) follows13 (by kernel_rfl) (fun _ _ _ _ _ h => h) ⟨i6, i8⟩ ?_
        repeat (first | (refine wpSeq_take (v := ?_) rfl (by rfl) (fun wq hSq => ?_) ?_; rotate_left; (focus ((try dsimp only at hSq); go_simp; try with_reducible rfl)); simp only [Act.put, List.setIfInBounds_toArray, List.set_cons_zero, List.set_cons_succ]) | (refine wpSeq_skip rfl (by rfl) ?_; simp only [Act.put, List.setIfInBounds_toArray, List.set_cons_zero, List.set_cons_succ]))
        refine wpSeq_nil ?_
        go_wp2
        go_ret2
        exact ⟨rfl, HM3.out.on (tb_drew (Below.refl _ _)), HX3.out.on (tb_drew (Below.refl _ _)), HC3.out.on (tb_drew (Below.refl _ _))⟩
  · rw [if_neg q, decide_eq_false q, Bool.false_and]
    go_enter Try.func48, Try.ntmps48
    go_wp2
    refine wp_region_seq (fun w' => w'.cell? ⟨y, 6, none⟩ = some (.int .i64 s.H) ∧ w'.cell? ⟨y, 8, none⟩ = some (.int .i64 s.P)) ((0, true) :: (1, true) :: (2, true) :: (3, true) :: (4, true) :: (5, true) :: (6, true) :: (7, true) :: (8, true) :: []) follows13 (by kernel_rfl) (fun _ _ _ _ _ h => h) ⟨h6, h8⟩ ?_
    repeat (first | (refine wpSeq_take (v := ?_) rfl (by rfl) (fun wq hSq => ?_) ?_; rotate_left; (focus ((try dsimp only at hSq); go_simp; try with_reducible rfl)); simp only [Act.put, List.setIfInBounds_toArray, List.set_cons_zero, List.set_cons_succ]) | (refine wpSeq_skip rfl (by rfl) ?_; simp only [Act.put, List.setIfInBounds_toArray, List.set_cons_zero, List.set_cons_succ]))
    refine wpSeq_nil ?_
    go_wp2
    refine wp_region_seq (fun w' => w'.cell? ⟨y, 0, none⟩ = some (.int .i64 0) ∧ w'.cell? ⟨y, 1, none⟩ = some (.int .i64 0) ∧ w'.cell? ⟨y, 2, none⟩ = some (.int .i64 A) ∧ w'.cell? ⟨y, 3, none⟩ = some (.int .i64 s.B) ∧ w'.cell? ⟨y, 4, none⟩ = some (.int .i64 0) ∧ w'.cell? ⟨y, 5, none⟩ = some (.int .i64 0) ∧ w'.cell? ⟨y, 8, none⟩ = some (.int .i64 s.P)) ((0, true) :: (1, true) :: (2, true) :: (3, true) :: (4, true) :: (5, true) :: (6, true) :: (7, true) :: (8, false) :: (9, true) :: []) follows13 (by kernel_rfl) (fun _ _ _ _ _ h => h) ⟨h0, h1, h2, h3, h4, h5, h8⟩ ?_
    repeat (first | (refine wpSeq_take (v := ?_) rfl (by rfl) (fun wq hSq => ?_) ?_; rotate_left; (focus ((try dsimp only at hSq); go_simp; try with_reducible rfl)); simp only [Act.put, List.setIfInBounds_toArray, List.set_cons_zero, List.set_cons_succ]) | (refine wpSeq_skip rfl (by rfl) ?_; simp only [Act.put, List.setIfInBounds_toArray, List.set_cons_zero, List.set_cons_succ]))
    refine wpSeq_do rfl (by rfl) (fun KK hK => ?_)
    go_simp
    refine (HPL.out _).mono ?_
    rintro e w1 ⟨rfl, hb⟩
    have HB1 : Hid (Below w.heap.size w w1) := below_step (tb_drew (tb_drew (Below.refl _ _))) hb
    have HX1 := Lib.hid (HX.out.on HB1.out)
    obtain ⟨k0, k1, k2, k3, k4, k5, k6, k7, k8, k9, k10, k11, k12⟩ := HX1.out.cells
    refine hK.out _ _ ⟨k0, k1, k2, k3, k4, k5, k8⟩ ?_
    clear hK KK hb
    try simp only [Act.put, List.setIfInBounds_toArray, List.set_cons_zero, List.set_cons_succ]
    repeat (first | (refine wpSeq_take (v := ?_) rfl (by rfl) (fun wq hSq => ?_) ?_; rotate_left; (focus ((try dsimp only at hSq); go_simp; try with_reducible rfl)); simp only [Act.put, List.setIfInBounds_toArray, List.set_cons_zero, List.set_cons_succ]) | (refine wpSeq_skip rfl (by rfl) ?_; simp only [Act.put, List.setIfInBounds_toArray, List.set_cons_zero, List.set_cons_succ]))
    refine wpSeq_nil ?_
    go_wp2_with (go_at_call 67; refine (HLD.out _ HB1.out).mono ?_; rintro e w2 ⟨rfl, hm, hc⟩; have HM2 := Lib.hid hm; have HC2 := Lib.hid (chg_from HB1.out hc); have HX2 := Lib.hid (HX.out.keep (HC2.out.block y h10 HN.out.1 HN.out.2)); obtain ⟨j0, j1, j2, j3, j4, j5, j6, j7, j8, j9, j10, j11, j12⟩ := HX2.out.cells; clear hm hc)
    go_ret2
    exact ⟨rfl, HM2.out, HX2.out, (Ch3.refl _ _ _ _).chg HC2.out⟩
theorem esstep_any (h : MemAt 86 w b g ws o n) (hx : EsAt w y A s) (hok : SOk s) : Calls Try.prog 48 #[.pointer (some ⟨y, 0, none⟩), .pointer (some ⟨b, 0, none⟩)] w fun e w' => e = .returned (.tuple #[.bool (sO s ws o), .int .i64 (sE s ws o)]) ∧ MemAt 86 w' b g ws (sP s ws o) (sQ s ws o n) ∧ EsAt w' y A (sC s ws o) ∧ Ch3 b g y w w' := by
  cases hm : mayH s.H
  · have e : sE s ws o = 100 := by simp [sE, hm]
    unfold sO sP sQ sC
    rw [e]
    refine (es_may hx hm b).mono ?_
    rintro r w' ⟨rfl, rfl⟩
    exact ⟨by simp, by simpa using h, by simpa using hx, Ch3.refl _ _ _ _⟩
  · by_cases h3 : s.P = s.H
    · have e : sE s ws o = 3 := by simp [sE, hm, h3]
      unfold sO sP sQ sC
      rw [e]
      refine (es_over hx hm h3 b).mono ?_
      rintro r w' ⟨rfl, hb⟩
      exact ⟨by simp, by simpa using h.on hb, by simpa using hx.on hb, (Ch3.refl _ _ _ _).on hb⟩
    · have e : sE s ws o = errA ws o (plc s.B s.P) := by simp [sE, h3, hm]
      unfold sO sP sQ sC
      rw [e]
      refine (es_go h hx hok hm h3 rfl).mono ?_
      rintro r w' ⟨rfl, hm', hx', hch⟩
      by_cases q : errA ws o (plc s.B s.P) = 0
      · have f := ok_facts q
        rw [f.2.1, f.2.2.1] at hm'
        rw [if_pos q, f.2.2.2.1] at hx'
        rw [f.2.2.2.1, if_pos q, if_pos q, if_pos q]
        exact ⟨rfl, hm', hx', hch⟩
      · have f := no_facts q
        rw [f.2.1, f.2.2.1] at hm'
        rw [if_neg q] at hx'
        rw [decide_eq_false q, if_neg q, if_neg q, if_neg q]
        exact ⟨rfl, hm', hx', hch⟩
end
end Go.Proofs.Ytdfmmolhfacahaa
