import Derived.Test.YtdfmmolhfacahaaV3
namespace Go.Proofs.Ytdfmmolhfacahaa
open Go.ChangeShapes Go.WideShapes Go.ChangeAt Go.RowKit

/-- a scan: the census, how many threads, what is needed, the next thread, the polls -/
structure Ss where
  B : Int
  H : Int
  D : Int
  P : Int
  Q : Int
def ScAt (w : World) (x : Nat) (s : Ss) : Prop := w.heap[x]? = some (.cells #[.int .i64 s.B, .int .i64 s.H, .int .u64 s.D, .int .i64 s.P, .int .i64 s.Q] 77 (0, 0))
def mayH (h : Int) : Bool := decide (1 ≤ h ∧ h ≤ 8)
def letB (d v : Int) : Bool := decide (v = 0) || decide (d < v)
/-- what holds of every scan -/
structure SOk (s : Ss) : Prop where
  p : 0 ≤ s.P
  h : mayH s.H = true → s.P ≤ s.H
def sE (s : Ss) (ws : List Int) (o : Bool) : Int := if mayH s.H then (if s.P = s.H then 3 else errA ws o (plc s.B s.P)) else 100
def sN (s : Ss) (v : Int) : Ss := if letB s.D v then ⟨s.B, s.H, s.D, s.P + 1, s.Q⟩ else ⟨s.B, s.H, s.D, s.P, up s.Q⟩
def sC (s : Ss) (ws : List Int) (o : Bool) : Ss := if sE s ws o = 0 then sN s (wordAt ws (plc s.B s.P)) else s
def sO (s : Ss) (ws : List Int) (o : Bool) : Bool := decide (sE s ws o = 0) && decide ((sC s ws o).P = s.H)
def sP (s : Ss) (ws : List Int) (o : Bool) : Bool := if sE s ws o = 0 then false else o
def sQ (s : Ss) (ws : List Int) (o : Bool) (n : Int) : Int := if sE s ws o = 0 then up n else n
theorem sN_parts (s : Ss) (v : Int) : (sN s v).B = s.B ∧ (sN s v).H = s.H ∧ (sN s v).D = s.D := by
  unfold sN
  split <;> exact ⟨rfl, rfl, rfl⟩
theorem SOk.step {s : Ss} (h : SOk s) (ws : List Int) (o : Bool) : SOk (sC s ws o) := by
  unfold sC
  by_cases e : sE s ws o = 0
  · rw [if_pos e]
    have hp := h.p
    cases hm : mayH s.H
    · simp [sE, hm] at e
    · have hh := h.h hm
      have hne : s.P ≠ s.H := fun q => by simp [sE, hm, q] at e
      unfold sN
      split
      · exact ⟨by dsimp only; omega, fun _ => by dsimp only; omega⟩
      · exact ⟨hp, fun _ => hh⟩
  · rw [if_neg e]
    exact h
theorem sok_new (b h d : Int) : SOk ⟨b, h, d, 0, 0⟩ := ⟨Int.le_refl _, fun q => by have := of_decide_eq_true q; dsimp only at this ⊢; omega⟩
section
variable {w w' : World} {x : Nat} {s : Ss}
theorem ScAt.lt (h : ScAt w x s) : x < w.heap.size := lt_of_block h
theorem ScAt.keep (h : ScAt w x s) (e : w'.heap[x]? = w.heap[x]?) : ScAt w' x s := e.trans h
theorem ScAt.on (h : ScAt w x s) (k : Below w.heap.size w w') : ScAt w' x s := h.keep (k.block x h.lt)
theorem ScAt.cells (h : ScAt w x s) : w.cell? ⟨x, 0, none⟩ = some (.int .i64 s.B) ∧ w.cell? ⟨x, 1, none⟩ = some (.int .i64 s.H) ∧ w.cell? ⟨x, 2, none⟩ = some (.int .u64 s.D) ∧ w.cell? ⟨x, 3, none⟩ = some (.int .i64 s.P) ∧ w.cell? ⟨x, 4, none⟩ = some (.int .i64 s.Q) ∧ x < w.heap.size ∧ w.frozen? ⟨x, 3, none⟩ = false ∧ w.frozen? ⟨x, 4, none⟩ = false :=
  ⟨by rw [cell_of_row w x 0 _ _ _ h]; rfl, by rw [cell_of_row w x 1 _ _ _ h]; rfl, by rw [cell_of_row w x 2 _ _ _ h]; rfl, by rw [cell_of_row w x 3 _ _ _ h]; rfl, by rw [cell_of_row w x 4 _ _ _ h]; rfl, lt_of_block h, frozen_of_row w x 3 _ _ h, frozen_of_row w x 4 _ _ h⟩
theorem ScAt.setP (h : ScAt w x s) (v : Int) : ScAt (w.setCell ⟨x, 3, none⟩ (.int .i64 v)) x ⟨s.B, s.H, s.D, v, s.Q⟩ := (heap_setCell_same w x 3 _ _ _ h).trans rfl
theorem ScAt.setQ (h : ScAt w x s) (v : Int) : ScAt (w.setCell ⟨x, 4, none⟩ (.int .i64 v)) x ⟨s.B, s.H, s.D, s.P, v⟩ := (heap_setCell_same w x 4 _ _ _ h).trans rfl
theorem at_any (h : ScAt w x s) : Calls Try.prog 15 #[.pointer (some ⟨x, 0, none⟩)] w fun e w' => e = .returned (.int .i64 s.P) ∧ w' = w := by
  obtain ⟨h0, h1, h2, h3, h4, h5, _⟩ := h.cells
  clear h
  go_enter Try.func15, Try.ntmps15
  go_wp2
  go_ret
  exact ⟨rfl, rfl⟩
theorem polls_any (h : ScAt w x s) : Calls Try.prog 31 #[.pointer (some ⟨x, 0, none⟩)] w fun e w' => e = .returned (.int .i64 s.Q) ∧ w' = w := by
  obtain ⟨h0, h1, h2, h3, h4, h5, _⟩ := h.cells
  clear h
  go_enter Try.func31, Try.ntmps31
  go_wp2
  go_ret
  exact ⟨rfl, rfl⟩
theorem mayS_any (h : ScAt w x s) : Calls Try.prog 39 #[.pointer (some ⟨x, 0, none⟩)] w fun e w' => e = .returned (.bool (mayH s.H)) ∧ w' = w := by
  obtain ⟨h0, h1, h2, h3, h4, h5, _⟩ := h.cells
  clear h
  unfold mayH
  by_cases q1 : 1 ≤ s.H
  · by_cases q2 : s.H ≤ 8
    · go_enter Try.func39, Try.ntmps39
      go_wp2
      go_ret
      exact ⟨by first | (simp; done) | (simp; omega), rfl⟩
    · go_enter Try.func39, Try.ntmps39
      go_wp2
      go_ret
      exact ⟨by first | (simp; done) | (simp; omega), rfl⟩
  · go_enter Try.func39, Try.ntmps39
    go_wp2
    go_ret
    exact ⟨by first | (simp; done) | (simp; omega), rfl⟩
set_option maxRecDepth 100000 in
theorem overS_any (h : ScAt w x s) : Calls Try.prog 38 #[.pointer (some ⟨x, 0, none⟩)] w fun e w' => e = .returned (.bool (mayH s.H && decide (s.P = s.H))) ∧ Below w.heap.size w w' := by
  obtain ⟨h0, h1, h2, h3, h4, h5, _⟩ := h.cells
  have HY := Lib.hid (mayS_any (h.on (tb_drew (Below.refl _ _))))
  clear h
  cases hm : mayH s.H
  · rw [hm] at HY
    have q := hm
    go_enter Try.func38, Try.ntmps38
    go_wp2
    refine wp_region_seq (fun w' => w'.cell? ⟨x, 1, none⟩ = some (.int .i64 s.H) ∧ w'.cell? ⟨x, 3, none⟩ = some (.int .i64 s.P)) ((0, true) :: (1, false) :: (2, true) :: (3, true) :: (4, true) :: (5, true) :: (6, true) :: (7, true) :: (8, true) :: (9, true) :: (10, true) :: (11, true) :: (12, true) :: (13, true) :: []) follows13 (by kernel_rfl) (fun _ _ _ _ _ h => h) ⟨h1, h3⟩ ?_
    repeat (first | (refine wpSeq_take (v := ?_) rfl (by rfl) (fun wq hSq => ?_) ?_; rotate_left; (focus ((try dsimp only at hSq); go_simp; try with_reducible rfl)); simp only [Act.put, List.setIfInBounds_toArray, List.set_cons_zero, List.set_cons_succ]) | (refine wpSeq_skip rfl (by rfl) ?_; simp only [Act.put, List.setIfInBounds_toArray, List.set_cons_zero, List.set_cons_succ]))
    refine wpSeq_do rfl (by rfl) (fun KK hK => ?_)
    go_simp
    refine HY.out.mono ?_
    rintro e w1 ⟨rfl, hw⟩
    subst w1
    refine hK.out _ _ ⟨h1, h3⟩ ?_
    clear hK KK
    try simp only [Act.put, List.setIfInBounds_toArray, List.set_cons_zero, List.set_cons_succ]
    repeat (first | (refine wpSeq_take (v := ?_) rfl (by rfl) (fun wq hSq => ?_) ?_; rotate_left; (focus ((try dsimp only at hSq); go_simp; try with_reducible rfl)); simp only [Act.put, List.setIfInBounds_toArray, List.set_cons_zero, List.set_cons_succ]) | (refine wpSeq_skip rfl (by rfl) ?_; simp only [Act.put, List.setIfInBounds_toArray, List.set_cons_zero, List.set_cons_succ]))
    refine wpSeq_nil ?_
    go_wp2
    go_ret
    exact ⟨by first | rfl | simp [q], tb_drew (Below.refl _ _)⟩
  · rw [hm] at HY
    by_cases q : s.P = s.H
    · rw [decide_eq_true q]
      go_enter Try.func38, Try.ntmps38
      go_wp2
      refine wp_region_seq (fun w' => w'.cell? ⟨x, 1, none⟩ = some (.int .i64 s.H) ∧ w'.cell? ⟨x, 3, none⟩ = some (.int .i64 s.P)) ((0, true) :: (1, false) :: (2, true) :: (3, true) :: (4, true) :: (5, true) :: (6, true) :: (7, true) :: (8, true) :: (9, true) :: (10, true) :: (11, true) :: (12, true) :: (13, true) :: []) follows13 (by kernel_rfl) (fun _ _ _ _ _ h => h) ⟨h1, h3⟩ ?_
      repeat (first | (refine wpSeq_take (v := ?_) rfl (by rfl) (fun wq hSq => ?_) ?_; rotate_left; (focus ((try dsimp only at hSq); go_simp; try with_reducible rfl)); simp only [Act.put, List.setIfInBounds_toArray, List.set_cons_zero, List.set_cons_succ]) | (refine wpSeq_skip rfl (by rfl) ?_; simp only [Act.put, List.setIfInBounds_toArray, List.set_cons_zero, List.set_cons_succ]))
      refine wpSeq_do rfl (by rfl) (fun KK hK => ?_)
      go_simp
      refine HY.out.mono ?_
      rintro e w1 ⟨rfl, hw⟩
      subst w1
      refine hK.out _ _ ⟨h1, h3⟩ ?_
      clear hK KK
      try simp only [Act.put, List.setIfInBounds_toArray, List.set_cons_zero, List.set_cons_succ]
      repeat (first | (refine wpSeq_take (v := ?_) rfl (by rfl) (fun wq hSq => ?_) ?_; rotate_left; (focus ((try dsimp only at hSq); go_simp; try with_reducible rfl)); simp only [Act.put, List.setIfInBounds_toArray, List.set_cons_zero, List.set_cons_succ]) | (refine wpSeq_skip rfl (by rfl) ?_; simp only [Act.put, List.setIfInBounds_toArray, List.set_cons_zero, List.set_cons_succ]))
      refine wpSeq_nil ?_
      go_wp2
      go_ret
      exact ⟨by first | rfl | simp [q], tb_drew (Below.refl _ _)⟩
    · rw [decide_eq_false q]
      go_enter Try.func38, Try.ntmps38
      go_wp2
      refine wp_region_seq (fun w' => w'.cell? ⟨x, 1, none⟩ = some (.int .i64 s.H) ∧ w'.cell? ⟨x, 3, none⟩ = some (.int .i64 s.P)) ((0, true) :: (1, false) :: (2, true) :: (3, true) :: (4, true) :: (5, true) :: (6, true) :: (7, true) :: (8, true) :: (9, true) :: (10, true) :: (11, true) :: (12, true) :: (13, true) :: []) follows13 (by kernel_rfl) (fun _ _ _ _ _ h => h) ⟨h1, h3⟩ ?_
      repeat (first | (refine wpSeq_take (v := ?_) rfl (by rfl) (fun wq hSq => ?_) ?_; rotate_left; (focus ((try dsimp only at hSq); go_simp; try with_reducible rfl)); simp only [Act.put, List.setIfInBounds_toArray, List.set_cons_zero, List.set_cons_succ]) | (refine wpSeq_skip rfl (by rfl) ?_; simp only [Act.put, List.setIfInBounds_toArray, List.set_cons_zero, List.set_cons_succ]))
      refine wpSeq_do rfl (by rfl) (fun KK hK => ?_)
      go_simp
      refine HY.out.mono ?_
      rintro e w1 ⟨rfl, hw⟩
      subst w1
      refine hK.out _ _ ⟨h1, h3⟩ ?_
      clear hK KK
      try simp only [Act.put, List.setIfInBounds_toArray, List.set_cons_zero, List.set_cons_succ]
      repeat (first | (refine wpSeq_take (v := ?_) rfl (by rfl) (fun wq hSq => ?_) ?_; rotate_left; (focus ((try dsimp only at hSq); go_simp; try with_reducible rfl)); simp only [Act.put, List.setIfInBounds_toArray, List.set_cons_zero, List.set_cons_succ]) | (refine wpSeq_skip rfl (by rfl) ?_; simp only [Act.put, List.setIfInBounds_toArray, List.set_cons_zero, List.set_cons_succ]))
      refine wpSeq_nil ?_
      go_wp2
      go_ret
      exact ⟨by first | rfl | simp [q], tb_drew (Below.refl _ _)⟩
theorem lets_any (h : ScAt w x s) (v : Int) : Calls Try.prog 60 #[.pointer (some ⟨x, 0, none⟩), .int .u64 v] w fun e w' => e = .returned (.bool (letB s.D v)) ∧ w' = w := by
  obtain ⟨h0, h1, h2, h3, h4, h5, _⟩ := h.cells
  clear h
  unfold letB
  by_cases q1 : v = 0
  · rw [decide_eq_true q1, Bool.true_or]
    go_enter Try.func60, Try.ntmps60
    go_wp2
    go_ret
    exact ⟨by simp, rfl⟩
  · rw [decide_eq_false q1, Bool.false_or]
    by_cases q2 : s.D < v
    · rw [decide_eq_true q2]
      go_enter Try.func60, Try.ntmps60
      go_wp2
      go_ret
      exact ⟨by simp, rfl⟩
    · rw [decide_eq_false q2]
      go_enter Try.func60, Try.ntmps60
      go_wp2
      go_ret
      exact ⟨by simp [q1], rfl⟩
theorem look_any (a0 a1 a2 a3 a4 a5 t d : Int) (w : World) : Calls Try.prog 10 #[plnV a0 a1 a2 a3 a4 a5, .int .i64 t, .int .u64 d] w fun e w' => ∃ x, e = .returned (.pointer (some ⟨x, 0, none⟩)) ∧ w.heap.size ≤ x ∧ ScAt w' x ⟨a3, t, d, 0, 0⟩ ∧ Below w.heap.size w w' := by
  unfold plnV
  go_enter Try.func10, Try.ntmps10
  go_wp2
  go_ret
  exact ⟨_, rfl, by simp, alloc_at (by simp), tb_alloc (tb_alloc (Below.refl _ _) _) _⟩
theorem sclone_any (h : ScAt w x s) : Calls Try.prog 70 #[.pointer (some ⟨x, 0, none⟩)] w fun e w' => ∃ y, e = .returned (.pointer (some ⟨y, 0, none⟩)) ∧ w.heap.size ≤ y ∧ ScAt w' y s ∧ Below w.heap.size w w' := by
  obtain ⟨h0, h1, h2, h3, h4, h5, _⟩ := h.cells
  clear h
  go_enter Try.func70, Try.ntmps70
  go_wp2
  go_ret
  exact ⟨_, rfl, by simp, heap_alloc_new _ _, tb_alloc (Below.refl _ _) _⟩
end
section
variable {w : World} {b g x : Nat} {ws : List Int} {o : Bool} {n : Int} {s : Ss}
theorem ScAt.ne (h : ScAt w x s) (m : MemAt 79 w b g ws o n) : x ≠ b ∧ x ≠ g := ⟨ne_ty h m.box rfl, ne_ty h m.row rfl⟩
set_option maxRecDepth 100000 in
set_option maxHeartbeats 2000000 in
theorem sacc_any (h : MemAt 79 w b g ws o n) (hx : ScAt w x s) {k m : Nat} (hk : s.P = k) (hm : s.H = m) (hkm : k < m) (hm8 : m ≤ 8) {er : Int} (her : errA ws o (plc s.B s.P) = er) : Calls Try.prog 40 #[.pointer (some ⟨x, 0, none⟩), .pointer (some ⟨b, 0, none⟩)] w fun e w' => e = .returned (.int .i64 er) ∧ MemAt 79 w' b g ws (spentO ws o (plc s.B s.P)) (spentC ws o (plc s.B s.P) n) ∧ ScAt w' x (if er = 0 then sN s (toldW ws o (plc s.B s.P)) else s) ∧ Ch3 b g x w w' := by
  have HN := Lib.hid (hx.ne h)
  have HM := Lib.hid h
  have HX := Lib.hid hx
  have HPL := Lib.hid (splace_any s.B k (decide_eq_true (by omega)))
  obtain ⟨h0, h1, h2, h3, h4, h5, h6, h7⟩ := hx.cells
  rw [hk] at h3
  rw [hm] at h1
  have HLD := Lib.hid (fun w1 (hb : Below w.heap.size w w1) => load_any (h.on hb) (plc s.B k))
  have HHK := Lib.hid hk
  rw [hk] at her ⊢
  rw [her] at HLD
  have HER := Lib.hid her
  clear h hx hk hm her
  go_enter Try.func40, Try.ntmps40
  go_wp2
  go_step3
  go_wp2
  go_step3
  go_wp2
  go_loopw [12] (fun vi wr => ∃ i : Nat, vi = .int .i64 i ∧ wr = w ∧ i ≤ k) (fun vi _ => k - (intOf vi).toNat)
  case atStart => exact ⟨0, rfl, rfl, Nat.zero_le _⟩
  case round =>
    obtain ⟨i, rfl, rfl, hi⟩ := hrel
    have him : (i : Int) < (m : Int) := by omega
    by_cases hlt : i < k
    · have hlt' : (i : Int) < (k : Int) := by omega
      go_wp2
      exact ⟨⟨i + 1, by first | rfl | (congr 1), by trivial, by omega⟩, by simp [intOf]; omega⟩
    · have e : i = k := by omega
      subst e
      have hlt' : ¬ (i : Int) < (i : Int) := by omega
      clear hlt hi
      by_cases q : er = 0
      · subst q
        obtain ⟨v, hv⟩ : ∃ v, toldW ws o (plc s.B i) = v := ⟨_, rfl⟩
        rw [hv] at HLD
        have HV := Lib.hid hv
        clear hv
        cases hl : letB s.D v
        · go_wp2_with (first
            | (go_at_call 42; refine (HPL.out _).mono ?_; rintro e w1 ⟨rfl, hb⟩; have HB := Lib.hid hb; clear hb)
            | (go_at_call 58; refine (HLD.out _ HB.out).mono ?_; rintro e w2 ⟨rfl, hm, hc⟩; have HM2 := Lib.hid hm; have HC2 := Lib.hid (chg_from HB.out hc); have HX2 := Lib.hid (HX.out.keep (HC2.out.block x h5 HN.out.1 HN.out.2)); obtain ⟨k0, k1, k2, k3, k4, k5, k6, k7⟩ := HX2.out.cells; clear hm hc)
            | (go_at_call 60; refine (lets_any HX2.out v).mono ?_; rw [hl]; rintro e w3 ⟨rfl, hw⟩; subst w3))
          try rw [Exit.noGoto_ret]
          go_ret
          rw [if_pos rfl, HV.out, sN, hl]
          exact ⟨rfl, HM2.out.other HN.out.1.symm HN.out.2.symm _ _, HX2.out.setQ _, ((Ch3.refl _ _ _ _).chg HC2.out).set _ _⟩
        · go_wp2_with (first
            | (go_at_call 42; refine (HPL.out _).mono ?_; rintro e w1 ⟨rfl, hb⟩; have HB := Lib.hid hb; clear hb)
            | (go_at_call 58; refine (HLD.out _ HB.out).mono ?_; rintro e w2 ⟨rfl, hm, hc⟩; have HM2 := Lib.hid hm; have HC2 := Lib.hid (chg_from HB.out hc); have HX2 := Lib.hid (HX.out.keep (HC2.out.block x h5 HN.out.1 HN.out.2)); obtain ⟨k0, k1, k2, k3, k4, k5, k6, k7⟩ := HX2.out.cells; clear hm hc)
            | (go_at_call 60; refine (lets_any HX2.out v).mono ?_; rw [hl]; rintro e w3 ⟨rfl, hw⟩; subst w3))
          try rw [Exit.noGoto_ret]
          go_ret
          rw [if_pos rfl, HV.out, sN, hl, HHK.out]
          exact ⟨rfl, HM2.out.other HN.out.1.symm HN.out.2.symm _ _, HX2.out.setP _, ((Ch3.refl _ _ _ _).chg HC2.out).set _ _⟩
      · go_wp2_with (first
          | (go_at_call 42; refine (HPL.out _).mono ?_; rintro e w1 ⟨rfl, hb⟩; have HB := Lib.hid hb; clear hb)
          | (go_at_call 58; refine (HLD.out _ HB.out).mono ?_; rintro e w2 ⟨rfl, hm, hc⟩; have HM2 := Lib.hid hm; have HC2 := Lib.hid (chg_from HB.out hc); have HX2 := Lib.hid (HX.out.keep (HC2.out.block x h5 HN.out.1 HN.out.2)); clear hm hc))
        try rw [Exit.noGoto_ret]
        go_ret
        rw [if_neg q]
        exact ⟨rfl, HM2.out, HX2.out, (Ch3.refl _ _ _ _).chg HC2.out⟩
end
end Go.Proofs.Ytdfmmolhfacahaa
