import Derived.Test.YtmmijcmlnhmooaaEU
namespace Go.Proofs.Ytmmijcmlnhmooaa
open Go.ChangeShapes Go.WideShapes Go.ChangeAt Go.RowKit Num
attribute [local go_sem] run_store_float

section
variable {W w : World} {bx : Nat} {M : Nat × Nat}
set_option maxRecDepth 100000 in
set_option maxHeartbeats 4000000 in
theorem begins_write (h : Goes W w bx M) {i : Nat} (hi : i < 2) (I P C V X Y : Int) (Q : Option Addr) (L R : Nat) : Calls Try.prog 46 #[.pointer (some ⟨bx, 0, none⟩), .agg #[.int .i64 7, .int .i64 I, .int .i64 P, .int .i64 C, .int .u64 V, .int .u64 X, .int .u64 Y, .slice Q L R], planV 0 0 0 0 P 0, .int .i64 (i : Int)] w fun e w' => e = .returned (.bool true) ∧ Goes W w' bx M := by
  obtain ⟨col, x, ws, o, n, hp, ha⟩ := h
  have HA := Lib.hid ha
  have HAT : Hid (∀ u, Below (ow0 w 7 I P C V X Y Q L R).heap.size (ow0 w 7 I P C V X Y Q L R) u → ((u.cell? ⟨w.heap.size, 0, none⟩ = some (.int .i64 7) ∧ u.cell? ⟨w.heap.size, 3, none⟩ = some (.int .i64 C) ∧ u.cell? ⟨w.heap.size, 4, none⟩ = some (.int .u64 V) ∧ u.cell? ⟨w.heap.size, 5, none⟩ = some (.int .u64 X) ∧ u.cell? ⟨w.heap.size, 6, none⟩ = some (.int .u64 Y)) ∧ (u.cell? ⟨w.heap.size + 1, 0, none⟩ = some (.int .i64 0) ∧ u.cell? ⟨w.heap.size + 1, 1, none⟩ = some (.int .i64 0) ∧ u.cell? ⟨w.heap.size + 1, 2, none⟩ = some (.int .i64 0) ∧ u.cell? ⟨w.heap.size + 1, 3, none⟩ = some (.int .i64 0) ∧ u.cell? ⟨w.heap.size + 1, 4, none⟩ = some (.int .i64 P) ∧ u.cell? ⟨w.heap.size + 1, 5, none⟩ = some (.int .i64 0))) ∧ w.heap.size + 1 < u.heap.size ∧ Below w.heap.size w u) := fun u k => ow_at k
  have hbx : bx < w.heap.size := lt_of_block hp.box
  have n1 : ¬ w.heap.size = bx := by omega
  have n2 : ¬ w.heap.size + 1 = bx := by omega
  have n3 : ¬ bx = w.heap.size := by omega
  have n4 : ¬ bx = w.heap.size + 1 := by omega
  obtain ⟨w0, hw0⟩ : ∃ w0, ow0 w 7 I P C V X Y Q L R = w0 := ⟨_, rfl⟩
  have hw0' : (w.alloc (.cells #[.int .i64 7, .int .i64 I, .int .i64 P, .int .i64 C, .int .u64 V, .int .u64 X, .int .u64 Y, .slice Q L R] 52)).alloc (.cells #[.int .i64 0, .int .i64 0, .int .i64 0, .int .i64 0, .int .i64 P, .int .i64 0] 31) = w0 := hw0
  have HP0 : Hid (Play W w0 bx col x ws o n ws o n) := by
    subst hw0
    exact hp.on (bl_alloc (bl_alloc (Below.refl _ _) _) _)
  have HRD := Lib.hid (fun u => write_any u 0 0 0 0 P 0 C V X.toNat Y.toNat)
  have HDR := Lib.hid (fun u => ewrite_any u P C V X.toNat Y.toNat)
  rw [hw0] at HAT
  unfold planV at HRD HDR ⊢
  clear hp ha hw0
  obtain rfl | rfl : i = 0 ∨ i = 1 := by omega
  · obtain ⟨⟨⟨o0, o3, o4, o5, o6⟩, p0, p1, p2, p3, p4, p5⟩, p6, _⟩ := HAT.out _ (Below.refl _ _)
    obtain ⟨⟨b0, b1, bb⟩, bc⟩ := HP0.out.cells
    obtain ⟨_, _, b2, b4⟩ := bc 0 (by omega)
    simp at b2 b4
    clear bc
    go_enter Try.func46, Try.ntmps46
    go_wp2
    go_region_held (fun u => u.cell? ⟨w.heap.size + 1, 0, none⟩ = some (.int .i64 0) ∧ u.cell? ⟨w.heap.size + 1, 1, none⟩ = some (.int .i64 0) ∧ u.cell? ⟨w.heap.size + 1, 2, none⟩ = some (.int .i64 0) ∧ u.cell? ⟨w.heap.size + 1, 3, none⟩ = some (.int .i64 0) ∧ u.cell? ⟨w.heap.size + 1, 4, none⟩ = some (.int .i64 P) ∧ u.cell? ⟨w.heap.size + 1, 5, none⟩ = some (.int .i64 0) ∧ u.cell? ⟨w.heap.size, 3, none⟩ = some (.int .i64 C) ∧ u.cell? ⟨w.heap.size, 4, none⟩ = some (.int .u64 V) ∧ u.cell? ⟨w.heap.size, 5, none⟩ = some (.int .u64 X) ∧ u.cell? ⟨w.heap.size, 6, none⟩ = some (.int .u64 Y)) (go_keep) (first | (go_at_call 24; refine (raw_int _ _).mono ?_; rintro e wq ⟨rfl, hw⟩; subst wq) | (go_at_call 27; refine (HRD.out _).mono ?_; rintro e w1 ⟨nb, rfl, hq, hr, hb⟩; have HB1 : Hid (Below w0.heap.size w0 w1) := below_step (by repeat (first | exact Below.refl _ _ | refine bl_drew ?_ | refine bl_drewN _ ?_ | refine bl_alloc ?_ _ | refine bl_setCell ?_ (by simp) _ _ | refine bl_setRow ?_ (by simp) _)) hb; obtain ⟨⟨⟨o0, o3, o4, o5, o6⟩, p0, p1, p2, p3, p4, p5⟩, p6, _⟩ := HAT.out _ HB1.out; have HP1 := Lib.hid (HP0.out.on HB1.out); obtain ⟨⟨b0, b1, bb⟩, bc⟩ := HP1.out.cells; obtain ⟨_, _, b2, b4⟩ := bc 0 (by omega); simp at b2 b4; have bf := frozen_of_row _ _ 6 _ _ HP1.out.box; have HN1 : Hid (WtAt w1 nb (newW P C V X.toNat Y.toNat) ∧ col nb = 0 ∧ W.heap.size ≤ nb ∧ nb < w1.heap.size) := ⟨hr, HP0.out.big nb hq, Nat.le_trans HP0.out.below.size hq, hr.lt⟩; clear hq hr hb bc))
    obtain ⟨col1, hp1⟩ := HP1.out.putT (i := 0) (by omega) HN1.out.1 HN1.out.2
    have HP2 := Lib.hid hp1
    clear hp1
    obtain ⟨⟨b0', b1', bb'⟩, bc'⟩ := HP2.out.cells
    obtain ⟨_, _, b2', b4'⟩ := bc' 0 (by omega)
    simp [upd, ptV] at b2' b4'
    clear bc' b0' b1'
    go_wp2
    have HV : Hid (∀ u, Below (w1.setCell ⟨bx, 6, none⟩ (.pointer (some ⟨nb, 0, none⟩))).heap.size (w1.setCell ⟨bx, 6, none⟩ (.pointer (some ⟨nb, 0, none⟩))) u → (u.cell? ⟨w.heap.size + 1, 0, none⟩ = some (.int .i64 0) ∧ u.cell? ⟨w.heap.size + 1, 1, none⟩ = some (.int .i64 0) ∧ u.cell? ⟨w.heap.size + 1, 2, none⟩ = some (.int .i64 0) ∧ u.cell? ⟨w.heap.size + 1, 3, none⟩ = some (.int .i64 0) ∧ u.cell? ⟨w.heap.size + 1, 4, none⟩ = some (.int .i64 P) ∧ u.cell? ⟨w.heap.size + 1, 5, none⟩ = some (.int .i64 0)) ∧ u.cell? ⟨w.heap.size, 3, none⟩ = some (.int .i64 C) ∧ u.cell? ⟨w.heap.size, 4, none⟩ = some (.int .u64 V) ∧ u.cell? ⟨w.heap.size, 5, none⟩ = some (.int .u64 X) ∧ u.cell? ⟨w.heap.size, 6, none⟩ = some (.int .u64 Y)) := fun u k => by
      have e : ∀ a j, a = w.heap.size ∨ a = w.heap.size + 1 → u.cell? ⟨a, j, none⟩ = w1.cell? ⟨a, j, none⟩ := fun a j ha => (k.cell (p := ⟨a, j, none⟩) (by simp; omega)).trans (World.cell?_of_block (a := ⟨a, j, none⟩) (heap_setCell_other _ _ _ _ (by show a ≠ bx; omega)))
      exact ⟨⟨(e _ _ (.inr rfl)).trans p0, (e _ _ (.inr rfl)).trans p1, (e _ _ (.inr rfl)).trans p2, (e _ _ (.inr rfl)).trans p3, (e _ _ (.inr rfl)).trans p4, (e _ _ (.inr rfl)).trans p5⟩, (e _ _ (.inl rfl)).trans o3, (e _ _ (.inl rfl)).trans o4, (e _ _ (.inl rfl)).trans o5, (e _ _ (.inl rfl)).trans o6⟩
    go_region_held (fun u => u.cell? ⟨w.heap.size + 1, 0, none⟩ = some (.int .i64 0) ∧ u.cell? ⟨w.heap.size + 1, 1, none⟩ = some (.int .i64 0) ∧ u.cell? ⟨w.heap.size + 1, 2, none⟩ = some (.int .i64 0) ∧ u.cell? ⟨w.heap.size + 1, 3, none⟩ = some (.int .i64 0) ∧ u.cell? ⟨w.heap.size + 1, 4, none⟩ = some (.int .i64 P) ∧ u.cell? ⟨w.heap.size + 1, 5, none⟩ = some (.int .i64 0) ∧ u.cell? ⟨w.heap.size, 3, none⟩ = some (.int .i64 C) ∧ u.cell? ⟨w.heap.size, 4, none⟩ = some (.int .u64 V) ∧ u.cell? ⟨w.heap.size, 5, none⟩ = some (.int .u64 X) ∧ u.cell? ⟨w.heap.size, 6, none⟩ = some (.int .u64 Y)) (go_keep) (first | (go_at_call 24; refine (raw_int _ _).mono ?_; rintro e wq ⟨rfl, hw⟩; subst wq) | (go_at_call 67; refine (HDR.out _).mono ?_; rintro e w2 ⟨nd, ng, rfl, ⟨hq, hqg⟩, hr, hb⟩; have HB2 : Hid (Below (w1.setCell ⟨bx, 6, none⟩ (.pointer (some ⟨nb, 0, none⟩))).heap.size (w1.setCell ⟨bx, 6, none⟩ (.pointer (some ⟨nb, 0, none⟩))) w2) := below_step (by repeat (first | exact Below.refl _ _ | refine bl_drew ?_ | refine bl_drewN _ ?_ | refine bl_alloc ?_ _ | refine bl_setCell ?_ (by simp) _ _ | refine bl_setRow ?_ (by simp) _)) hb; obtain ⟨⟨p0, p1, p2, p3, p4, p5⟩, o3, o4, o5, o6⟩ := HV.out _ HB2.out; have HP3 := Lib.hid (HP2.out.on HB2.out); obtain ⟨⟨b0, b1, bb⟩, bc⟩ := HP3.out.cells; obtain ⟨_, _, b2, b4⟩ := bc 0 (by omega); simp [upd, ptV] at b2 b4; have bf := frozen_of_row _ _ 8 _ _ HP3.out.box; have HN2 : Hid (EwAt w2 nd ng (newW P C V X.toNat Y.toNat) ∧ (col1 nd = 0 ∧ W.heap.size ≤ nd ∧ nd < w2.heap.size) ∧ (col1 ng = 0 ∧ W.heap.size ≤ ng ∧ ng < w2.heap.size)) := ⟨hr, ⟨HP2.out.big nd hq, Nat.le_trans HP2.out.below.size hq, hr.lt⟩, ⟨HP2.out.big ng hqg, Nat.le_trans HP2.out.below.size hqg, hr.ltG⟩⟩; clear hq hqg hr hb bc))
    obtain ⟨col2, hp2⟩ := HP3.out.putE (i := 0) (by omega) HN2.out.1 HN2.out.2.1 HN2.out.2.2
    have HP4 := Lib.hid hp2
    clear hp2
    obtain ⟨⟨b0', b1', bb'⟩, bc'⟩ := HP4.out.cells
    obtain ⟨_, _, b2', b4'⟩ := bc' 0 (by omega)
    simp [upd, ptV] at b2' b4'
    clear bc' b0' b1'
    go_wp2
    go_ret
    exact ⟨by simp, _, _, _, _, _, HP4.out.on (by repeat (first | exact Below.refl _ _ | refine bl_drew ?_ | refine bl_drewN _ ?_ | refine bl_alloc ?_ _ | refine bl_setCell ?_ (by simp) _ _ | refine bl_setRow ?_ (by simp) _)), HA.out.writeTo (i := 0) (b := nb) (b' := nd) (g := ng) (t := newW P C V X.toNat Y.toNat)⟩
  · obtain ⟨⟨⟨o0, o3, o4, o5, o6⟩, p0, p1, p2, p3, p4, p5⟩, p6, _⟩ := HAT.out _ (Below.refl _ _)
    obtain ⟨⟨b0, b1, bb⟩, bc⟩ := HP0.out.cells
    obtain ⟨_, _, b2, b4⟩ := bc 1 (by omega)
    simp at b2 b4
    clear bc
    go_enter Try.func46, Try.ntmps46
    go_wp2
    go_region_held (fun u => u.cell? ⟨w.heap.size + 1, 0, none⟩ = some (.int .i64 0) ∧ u.cell? ⟨w.heap.size + 1, 1, none⟩ = some (.int .i64 0) ∧ u.cell? ⟨w.heap.size + 1, 2, none⟩ = some (.int .i64 0) ∧ u.cell? ⟨w.heap.size + 1, 3, none⟩ = some (.int .i64 0) ∧ u.cell? ⟨w.heap.size + 1, 4, none⟩ = some (.int .i64 P) ∧ u.cell? ⟨w.heap.size + 1, 5, none⟩ = some (.int .i64 0) ∧ u.cell? ⟨w.heap.size, 3, none⟩ = some (.int .i64 C) ∧ u.cell? ⟨w.heap.size, 4, none⟩ = some (.int .u64 V) ∧ u.cell? ⟨w.heap.size, 5, none⟩ = some (.int .u64 X) ∧ u.cell? ⟨w.heap.size, 6, none⟩ = some (.int .u64 Y)) (go_keep) (first | (go_at_call 24; refine (raw_int _ _).mono ?_; rintro e wq ⟨rfl, hw⟩; subst wq) | (go_at_call 27; refine (HRD.out _).mono ?_; rintro e w1 ⟨nb, rfl, hq, hr, hb⟩; have HB1 : Hid (Below w0.heap.size w0 w1) := below_step (by repeat (first | exact Below.refl _ _ | refine bl_drew ?_ | refine bl_drewN _ ?_ | refine bl_alloc ?_ _ | refine bl_setCell ?_ (by simp) _ _ | refine bl_setRow ?_ (by simp) _)) hb; obtain ⟨⟨⟨o0, o3, o4, o5, o6⟩, p0, p1, p2, p3, p4, p5⟩, p6, _⟩ := HAT.out _ HB1.out; have HP1 := Lib.hid (HP0.out.on HB1.out); obtain ⟨⟨b0, b1, bb⟩, bc⟩ := HP1.out.cells; obtain ⟨_, _, b2, b4⟩ := bc 1 (by omega); simp at b2 b4; have bf := frozen_of_row _ _ 7 _ _ HP1.out.box; have HN1 : Hid (WtAt w1 nb (newW P C V X.toNat Y.toNat) ∧ col nb = 0 ∧ W.heap.size ≤ nb ∧ nb < w1.heap.size) := ⟨hr, HP0.out.big nb hq, Nat.le_trans HP0.out.below.size hq, hr.lt⟩; clear hq hr hb bc))
    obtain ⟨col1, hp1⟩ := HP1.out.putT (i := 1) (by omega) HN1.out.1 HN1.out.2
    have HP2 := Lib.hid hp1
    clear hp1
    obtain ⟨⟨b0', b1', bb'⟩, bc'⟩ := HP2.out.cells
    obtain ⟨_, _, b2', b4'⟩ := bc' 1 (by omega)
    simp [upd, ptV] at b2' b4'
    clear bc' b0' b1'
    go_wp2
    have HV : Hid (∀ u, Below (w1.setCell ⟨bx, 7, none⟩ (.pointer (some ⟨nb, 0, none⟩))).heap.size (w1.setCell ⟨bx, 7, none⟩ (.pointer (some ⟨nb, 0, none⟩))) u → (u.cell? ⟨w.heap.size + 1, 0, none⟩ = some (.int .i64 0) ∧ u.cell? ⟨w.heap.size + 1, 1, none⟩ = some (.int .i64 0) ∧ u.cell? ⟨w.heap.size + 1, 2, none⟩ = some (.int .i64 0) ∧ u.cell? ⟨w.heap.size + 1, 3, none⟩ = some (.int .i64 0) ∧ u.cell? ⟨w.heap.size + 1, 4, none⟩ = some (.int .i64 P) ∧ u.cell? ⟨w.heap.size + 1, 5, none⟩ = some (.int .i64 0)) ∧ u.cell? ⟨w.heap.size, 3, none⟩ = some (.int .i64 C) ∧ u.cell? ⟨w.heap.size, 4, none⟩ = some (.int .u64 V) ∧ u.cell? ⟨w.heap.size, 5, none⟩ = some (.int .u64 X) ∧ u.cell? ⟨w.heap.size, 6, none⟩ = some (.int .u64 Y)) := fun u k => by
      have e : ∀ a j, a = w.heap.size ∨ a = w.heap.size + 1 → u.cell? ⟨a, j, none⟩ = w1.cell? ⟨a, j, none⟩ := fun a j ha => (k.cell (p := ⟨a, j, none⟩) (by simp; omega)).trans (World.cell?_of_block (a := ⟨a, j, none⟩) (heap_setCell_other _ _ _ _ (by show a ≠ bx; omega)))
      exact ⟨⟨(e _ _ (.inr rfl)).trans p0, (e _ _ (.inr rfl)).trans p1, (e _ _ (.inr rfl)).trans p2, (e _ _ (.inr rfl)).trans p3, (e _ _ (.inr rfl)).trans p4, (e _ _ (.inr rfl)).trans p5⟩, (e _ _ (.inl rfl)).trans o3, (e _ _ (.inl rfl)).trans o4, (e _ _ (.inl rfl)).trans o5, (e _ _ (.inl rfl)).trans o6⟩
    go_region_held (fun u => u.cell? ⟨w.heap.size + 1, 0, none⟩ = some (.int .i64 0) ∧ u.cell? ⟨w.heap.size + 1, 1, none⟩ = some (.int .i64 0) ∧ u.cell? ⟨w.heap.size + 1, 2, none⟩ = some (.int .i64 0) ∧ u.cell? ⟨w.heap.size + 1, 3, none⟩ = some (.int .i64 0) ∧ u.cell? ⟨w.heap.size + 1, 4, none⟩ = some (.int .i64 P) ∧ u.cell? ⟨w.heap.size + 1, 5, none⟩ = some (.int .i64 0) ∧ u.cell? ⟨w.heap.size, 3, none⟩ = some (.int .i64 C) ∧ u.cell? ⟨w.heap.size, 4, none⟩ = some (.int .u64 V) ∧ u.cell? ⟨w.heap.size, 5, none⟩ = some (.int .u64 X) ∧ u.cell? ⟨w.heap.size, 6, none⟩ = some (.int .u64 Y)) (go_keep) (first | (go_at_call 24; refine (raw_int _ _).mono ?_; rintro e wq ⟨rfl, hw⟩; subst wq) | (go_at_call 67; refine (HDR.out _).mono ?_; rintro e w2 ⟨nd, ng, rfl, ⟨hq, hqg⟩, hr, hb⟩; have HB2 : Hid (Below (w1.setCell ⟨bx, 7, none⟩ (.pointer (some ⟨nb, 0, none⟩))).heap.size (w1.setCell ⟨bx, 7, none⟩ (.pointer (some ⟨nb, 0, none⟩))) w2) := below_step (by repeat (first | exact Below.refl _ _ | refine bl_drew ?_ | refine bl_drewN _ ?_ | refine bl_alloc ?_ _ | refine bl_setCell ?_ (by simp) _ _ | refine bl_setRow ?_ (by simp) _)) hb; obtain ⟨⟨p0, p1, p2, p3, p4, p5⟩, o3, o4, o5, o6⟩ := HV.out _ HB2.out; have HP3 := Lib.hid (HP2.out.on HB2.out); obtain ⟨⟨b0, b1, bb⟩, bc⟩ := HP3.out.cells; obtain ⟨_, _, b2, b4⟩ := bc 1 (by omega); simp [upd, ptV] at b2 b4; have bf := frozen_of_row _ _ 9 _ _ HP3.out.box; have HN2 : Hid (EwAt w2 nd ng (newW P C V X.toNat Y.toNat) ∧ (col1 nd = 0 ∧ W.heap.size ≤ nd ∧ nd < w2.heap.size) ∧ (col1 ng = 0 ∧ W.heap.size ≤ ng ∧ ng < w2.heap.size)) := ⟨hr, ⟨HP2.out.big nd hq, Nat.le_trans HP2.out.below.size hq, hr.lt⟩, ⟨HP2.out.big ng hqg, Nat.le_trans HP2.out.below.size hqg, hr.ltG⟩⟩; clear hq hqg hr hb bc))
    obtain ⟨col2, hp2⟩ := HP3.out.putE (i := 1) (by omega) HN2.out.1 HN2.out.2.1 HN2.out.2.2
    have HP4 := Lib.hid hp2
    clear hp2
    obtain ⟨⟨b0', b1', bb'⟩, bc'⟩ := HP4.out.cells
    obtain ⟨_, _, b2', b4'⟩ := bc' 1 (by omega)
    simp [upd, ptV] at b2' b4'
    clear bc' b0' b1'
    go_wp2
    go_ret
    exact ⟨by simp, _, _, _, _, _, HP4.out.on (by repeat (first | exact Below.refl _ _ | refine bl_drew ?_ | refine bl_drewN _ ?_ | refine bl_alloc ?_ _ | refine bl_setCell ?_ (by simp) _ _ | refine bl_setRow ?_ (by simp) _)), HA.out.writeTo (i := 1) (b := nb) (b' := nd) (g := ng) (t := newW P C V X.toNat Y.toNat)⟩
end
end Go.Proofs.Ytmmijcmlnhmooaa
