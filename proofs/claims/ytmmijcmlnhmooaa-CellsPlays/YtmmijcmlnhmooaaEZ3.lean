import Derived.Test.YtmmijcmlnhmooaaEY
namespace Go.Proofs.Ytmmijcmlnhmooaa
open Go.ChangeShapes Go.WideShapes Go.ChangeAt Go.RowKit Num
attribute [local go_sem] run_store_float

section
variable {W w : World} {bx : Nat} {M : Nat × Nat}
set_option maxRecDepth 100000 in
set_option maxHeartbeats 8000000 in
theorem wstep_begr (h : Goes W w bx M) (I P C V X Y : Int) (Q : Option Addr) (L R : Nat) : Calls Try.prog 14 #[.pointer (some ⟨bx, 0, none⟩), .agg #[.int .i64 5, .int .i64 I, .int .i64 P, .int .i64 C, .int .u64 V, .int .u64 X, .int .u64 Y, .slice Q L R]] w fun e w' => e = .returned (.bool true) ∧ Goes W w' bx M := by
  have hI : I = 0 ∨ I = 1 ∨ ¬ I = 0 ∧ ¬ I = 1 := by omega
  obtain ⟨col, x, ws, o, n, hp, ha⟩ := h
  have HA := Lib.hid ha
  rcases hI with rfl | rfl | ⟨i0, i1⟩
  · have hbx : bx < w.heap.size := lt_of_block hp.box
    have HLT : Hid ((x.bm < w.heap.size ∧ x.gm < w.heap.size) ∧ (x.bd < w.heap.size ∧ x.gd < w.heap.size)) := ⟨⟨hp.m.ltB, hp.m.ltG⟩, ⟨hp.d.ltB, hp.d.ltG⟩⟩
    have HPl : Hid (Play W (ow0 w 5 0 P C V X Y Q L R) bx col x ws o n ws o n) := hp.on (bl_alloc (bl_alloc (Below.refl _ _) _) _)
    have HOb : Hid (Ob w (ow0 w 5 0 P C V X Y Q L R) 5 0 P C V X Y Q L R) := ob_new _ _ _ _ _ _ _ _ _ _ _
    have HCB : Hid (∀ u o1 n1 o2 n2 ws1 ws2, Play W u bx col x ws1 o1 n1 ws2 o2 n2 → u.cell? ⟨bx, 0, none⟩ = some (.pointer (some ⟨x.bm, 0, none⟩)) ∧ u.cell? ⟨bx, 1, none⟩ = some (.pointer (some ⟨x.bd, 0, none⟩)) ∧ bx < u.heap.size) := fun u o1 n1 o2 n2 ws1 ws2 k => k.cells.1
    obtain ⟨b0, b1, bb⟩ := HCB.out _ _ _ _ _ _ _ hp
    clear hp ha
    have HBG : Hid (∀ u, Goes W u bx M → Calls Try.prog 46 #[.pointer (some ⟨bx, 0, none⟩), .agg #[.int .i64 5, .int .i64 0, .int .i64 P, .int .i64 C, .int .u64 V, .int .u64 X, .int .u64 Y, .slice Q L R], planV 0 0 0 0 P 0, .int .i64 0] u fun e w' => e = .returned (.bool true) ∧ Goes W w' bx M) := fun u k => begins_read k (i := 0) (by omega) 0 P C V X Y Q L R
    unfold planV at HBG
    go_enter Try.func14, Try.ntmps14
    go_wp2_with (first
      | (go_at_call 46; refine (HBG.out _ ⟨col, x, ws, o, n, HPl.out.on (by repeat (first | exact Below.refl _ _ | refine bl_drew ?_ | refine bl_drewN _ ?_ | refine bl_alloc ?_ _ | refine bl_setCell ?_ (by simp) _ _ | refine bl_setRow ?_ (by simp) _)), HA.out⟩).mono ?_; rintro e u1 ⟨rfl, hg⟩; have HGG := Lib.hid hg; clear hg))
    all_goals (try (go_region_held (fun u => u.cell? ⟨bx, 0, none⟩ = some (.pointer (some ⟨x.bm, 0, none⟩)) ∧ u.cell? ⟨bx, 1, none⟩ = some (.pointer (some ⟨x.bd, 0, none⟩)) ∧ u.cell? ⟨w.heap.size, 3, none⟩ = some (.int .i64 C) ∧ u.cell? ⟨w.heap.size, 4, none⟩ = some (.int .u64 V) ∧ u.cell? ⟨w.heap.size, 7, none⟩ = some (.slice Q L R) ∧ u.cell? ⟨w.heap.size + 1, 0, none⟩ = some (.int .i64 0) ∧ u.cell? ⟨w.heap.size + 1, 1, none⟩ = some (.int .i64 0) ∧ u.cell? ⟨w.heap.size + 1, 2, none⟩ = some (.int .i64 0) ∧ u.cell? ⟨w.heap.size + 1, 3, none⟩ = some (.int .i64 0) ∧ u.cell? ⟨w.heap.size + 1, 4, none⟩ = some (.int .i64 P) ∧ u.cell? ⟨w.heap.size + 1, 5, none⟩ = some (.int .i64 0) ∧ u.cell? ⟨w.heap.size, 0, none⟩ = some (.int .i64 5) ∧ u.cell? ⟨w.heap.size, 1, none⟩ = some (.int .i64 0) ∧ u.cell? ⟨w.heap.size, 2, none⟩ = some (.int .i64 P) ∧ u.cell? ⟨w.heap.size, 5, none⟩ = some (.int .u64 X) ∧ u.cell? ⟨w.heap.size, 6, none⟩ = some (.int .u64 Y)) (go_keep) (first
      | (go_at_call 46; refine (HBG.out _ ⟨col, x, ws, o, n, HPl.out.on (by repeat (first | exact Below.refl _ _ | refine bl_drew ?_ | refine bl_drewN _ ?_ | refine bl_alloc ?_ _ | refine bl_setCell ?_ (by simp) _ _ | refine bl_setRow ?_ (by simp) _)), HA.out⟩).mono ?_; rintro e u1 ⟨rfl, hg⟩; have HGG := Lib.hid hg; clear hg)); go_wp2_with (first
      | (go_at_call 46; refine (HBG.out _ ⟨col, x, ws, o, n, HPl.out.on (by repeat (first | exact Below.refl _ _ | refine bl_drew ?_ | refine bl_drewN _ ?_ | refine bl_alloc ?_ _ | refine bl_setCell ?_ (by simp) _ _ | refine bl_setRow ?_ (by simp) _)), HA.out⟩).mono ?_; rintro e u1 ⟨rfl, hg⟩; have HGG := Lib.hid hg; clear hg))))
    go_ret
    exact ⟨rfl, HGG.out⟩
  · have hbx : bx < w.heap.size := lt_of_block hp.box
    have HLT : Hid ((x.bm < w.heap.size ∧ x.gm < w.heap.size) ∧ (x.bd < w.heap.size ∧ x.gd < w.heap.size)) := ⟨⟨hp.m.ltB, hp.m.ltG⟩, ⟨hp.d.ltB, hp.d.ltG⟩⟩
    have HPl : Hid (Play W (ow0 w 5 1 P C V X Y Q L R) bx col x ws o n ws o n) := hp.on (bl_alloc (bl_alloc (Below.refl _ _) _) _)
    have HOb : Hid (Ob w (ow0 w 5 1 P C V X Y Q L R) 5 1 P C V X Y Q L R) := ob_new _ _ _ _ _ _ _ _ _ _ _
    have HCB : Hid (∀ u o1 n1 o2 n2 ws1 ws2, Play W u bx col x ws1 o1 n1 ws2 o2 n2 → u.cell? ⟨bx, 0, none⟩ = some (.pointer (some ⟨x.bm, 0, none⟩)) ∧ u.cell? ⟨bx, 1, none⟩ = some (.pointer (some ⟨x.bd, 0, none⟩)) ∧ bx < u.heap.size) := fun u o1 n1 o2 n2 ws1 ws2 k => k.cells.1
    obtain ⟨b0, b1, bb⟩ := HCB.out _ _ _ _ _ _ _ hp
    clear hp ha
    have HBG : Hid (∀ u, Goes W u bx M → Calls Try.prog 46 #[.pointer (some ⟨bx, 0, none⟩), .agg #[.int .i64 5, .int .i64 1, .int .i64 P, .int .i64 C, .int .u64 V, .int .u64 X, .int .u64 Y, .slice Q L R], planV 0 0 0 0 P 0, .int .i64 1] u fun e w' => e = .returned (.bool true) ∧ Goes W w' bx M) := fun u k => begins_read k (i := 1) (by omega) 1 P C V X Y Q L R
    unfold planV at HBG
    go_enter Try.func14, Try.ntmps14
    go_wp2_with (first
      | (go_at_call 46; refine (HBG.out _ ⟨col, x, ws, o, n, HPl.out.on (by repeat (first | exact Below.refl _ _ | refine bl_drew ?_ | refine bl_drewN _ ?_ | refine bl_alloc ?_ _ | refine bl_setCell ?_ (by simp) _ _ | refine bl_setRow ?_ (by simp) _)), HA.out⟩).mono ?_; rintro e u1 ⟨rfl, hg⟩; have HGG := Lib.hid hg; clear hg))
    all_goals (try (go_region_held (fun u => u.cell? ⟨bx, 0, none⟩ = some (.pointer (some ⟨x.bm, 0, none⟩)) ∧ u.cell? ⟨bx, 1, none⟩ = some (.pointer (some ⟨x.bd, 0, none⟩)) ∧ u.cell? ⟨w.heap.size, 3, none⟩ = some (.int .i64 C) ∧ u.cell? ⟨w.heap.size, 4, none⟩ = some (.int .u64 V) ∧ u.cell? ⟨w.heap.size, 7, none⟩ = some (.slice Q L R) ∧ u.cell? ⟨w.heap.size + 1, 0, none⟩ = some (.int .i64 0) ∧ u.cell? ⟨w.heap.size + 1, 1, none⟩ = some (.int .i64 0) ∧ u.cell? ⟨w.heap.size + 1, 2, none⟩ = some (.int .i64 0) ∧ u.cell? ⟨w.heap.size + 1, 3, none⟩ = some (.int .i64 0) ∧ u.cell? ⟨w.heap.size + 1, 4, none⟩ = some (.int .i64 P) ∧ u.cell? ⟨w.heap.size + 1, 5, none⟩ = some (.int .i64 0) ∧ u.cell? ⟨w.heap.size, 0, none⟩ = some (.int .i64 5) ∧ u.cell? ⟨w.heap.size, 1, none⟩ = some (.int .i64 1) ∧ u.cell? ⟨w.heap.size, 2, none⟩ = some (.int .i64 P) ∧ u.cell? ⟨w.heap.size, 5, none⟩ = some (.int .u64 X) ∧ u.cell? ⟨w.heap.size, 6, none⟩ = some (.int .u64 Y)) (go_keep) (first
      | (go_at_call 46; refine (HBG.out _ ⟨col, x, ws, o, n, HPl.out.on (by repeat (first | exact Below.refl _ _ | refine bl_drew ?_ | refine bl_drewN _ ?_ | refine bl_alloc ?_ _ | refine bl_setCell ?_ (by simp) _ _ | refine bl_setRow ?_ (by simp) _)), HA.out⟩).mono ?_; rintro e u1 ⟨rfl, hg⟩; have HGG := Lib.hid hg; clear hg)); go_wp2_with (first
      | (go_at_call 46; refine (HBG.out _ ⟨col, x, ws, o, n, HPl.out.on (by repeat (first | exact Below.refl _ _ | refine bl_drew ?_ | refine bl_drewN _ ?_ | refine bl_alloc ?_ _ | refine bl_setCell ?_ (by simp) _ _ | refine bl_setRow ?_ (by simp) _)), HA.out⟩).mono ?_; rintro e u1 ⟨rfl, hg⟩; have HGG := Lib.hid hg; clear hg))))
    go_ret
    exact ⟨rfl, HGG.out⟩
  · have hbx : bx < w.heap.size := lt_of_block hp.box
    have HLT : Hid ((x.bm < w.heap.size ∧ x.gm < w.heap.size) ∧ (x.bd < w.heap.size ∧ x.gd < w.heap.size)) := ⟨⟨hp.m.ltB, hp.m.ltG⟩, ⟨hp.d.ltB, hp.d.ltG⟩⟩
    have HPl : Hid (Play W (ow0 w 5 I P C V X Y Q L R) bx col x ws o n ws o n) := hp.on (bl_alloc (bl_alloc (Below.refl _ _) _) _)
    have HOb : Hid (Ob w (ow0 w 5 I P C V X Y Q L R) 5 I P C V X Y Q L R) := ob_new _ _ _ _ _ _ _ _ _ _ _
    have HCB : Hid (∀ u o1 n1 o2 n2 ws1 ws2, Play W u bx col x ws1 o1 n1 ws2 o2 n2 → u.cell? ⟨bx, 0, none⟩ = some (.pointer (some ⟨x.bm, 0, none⟩)) ∧ u.cell? ⟨bx, 1, none⟩ = some (.pointer (some ⟨x.bd, 0, none⟩)) ∧ bx < u.heap.size) := fun u o1 n1 o2 n2 ws1 ws2 k => k.cells.1
    obtain ⟨b0, b1, bb⟩ := HCB.out _ _ _ _ _ _ _ hp
    clear hp ha
    have j0 : (I == 0) = false := by simp [i0]
    have j1 : (I == 1) = false := by simp [i1]
    clear i0 i1
    go_enter Try.func14, Try.ntmps14
    go_wp2
    go_ret
    exact ⟨by first | rfl | simp, col, x, _, _, _, HPl.out.on (by repeat (first | exact Below.refl _ _ | refine bl_drew ?_ | refine bl_drewN _ ?_ | refine bl_alloc ?_ _ | refine bl_setCell ?_ (by simp) _ _ | refine bl_setRow ?_ (by simp) _)), HA.out⟩
set_option maxRecDepth 100000 in
set_option maxHeartbeats 8000000 in
theorem wstep_begw (h : Goes W w bx M) (I P C V X Y : Int) (Q : Option Addr) (L R : Nat) : Calls Try.prog 14 #[.pointer (some ⟨bx, 0, none⟩), .agg #[.int .i64 7, .int .i64 I, .int .i64 P, .int .i64 C, .int .u64 V, .int .u64 X, .int .u64 Y, .slice Q L R]] w fun e w' => e = .returned (.bool true) ∧ Goes W w' bx M := by
  have hI : I = 0 ∨ I = 1 ∨ ¬ I = 0 ∧ ¬ I = 1 := by omega
  obtain ⟨col, x, ws, o, n, hp, ha⟩ := h
  have HA := Lib.hid ha
  rcases hI with rfl | rfl | ⟨i0, i1⟩
  · have hbx : bx < w.heap.size := lt_of_block hp.box
    have HLT : Hid ((x.bm < w.heap.size ∧ x.gm < w.heap.size) ∧ (x.bd < w.heap.size ∧ x.gd < w.heap.size)) := ⟨⟨hp.m.ltB, hp.m.ltG⟩, ⟨hp.d.ltB, hp.d.ltG⟩⟩
    have HPl : Hid (Play W (ow0 w 7 0 P C V X Y Q L R) bx col x ws o n ws o n) := hp.on (bl_alloc (bl_alloc (Below.refl _ _) _) _)
    have HOb : Hid (Ob w (ow0 w 7 0 P C V X Y Q L R) 7 0 P C V X Y Q L R) := ob_new _ _ _ _ _ _ _ _ _ _ _
    have HCB : Hid (∀ u o1 n1 o2 n2 ws1 ws2, Play W u bx col x ws1 o1 n1 ws2 o2 n2 → u.cell? ⟨bx, 0, none⟩ = some (.pointer (some ⟨x.bm, 0, none⟩)) ∧ u.cell? ⟨bx, 1, none⟩ = some (.pointer (some ⟨x.bd, 0, none⟩)) ∧ bx < u.heap.size) := fun u o1 n1 o2 n2 ws1 ws2 k => k.cells.1
    obtain ⟨b0, b1, bb⟩ := HCB.out _ _ _ _ _ _ _ hp
    clear hp ha
    have HBG : Hid (∀ u, Goes W u bx M → Calls Try.prog 46 #[.pointer (some ⟨bx, 0, none⟩), .agg #[.int .i64 7, .int .i64 0, .int .i64 P, .int .i64 C, .int .u64 V, .int .u64 X, .int .u64 Y, .slice Q L R], planV 0 0 0 0 P 0, .int .i64 0] u fun e w' => e = .returned (.bool true) ∧ Goes W w' bx M) := fun u k => begins_write k (i := 0) (by omega) 0 P C V X Y Q L R
    unfold planV at HBG
    go_enter Try.func14, Try.ntmps14
    go_wp2_with (first
      | (go_at_call 46; refine (HBG.out _ ⟨col, x, ws, o, n, HPl.out.on (by repeat (first | exact Below.refl _ _ | refine bl_drew ?_ | refine bl_drewN _ ?_ | refine bl_alloc ?_ _ | refine bl_setCell ?_ (by simp) _ _ | refine bl_setRow ?_ (by simp) _)), HA.out⟩).mono ?_; rintro e u1 ⟨rfl, hg⟩; have HGG := Lib.hid hg; clear hg))
    all_goals (try (go_region_held (fun u => u.cell? ⟨bx, 0, none⟩ = some (.pointer (some ⟨x.bm, 0, none⟩)) ∧ u.cell? ⟨bx, 1, none⟩ = some (.pointer (some ⟨x.bd, 0, none⟩)) ∧ u.cell? ⟨w.heap.size, 3, none⟩ = some (.int .i64 C) ∧ u.cell? ⟨w.heap.size, 4, none⟩ = some (.int .u64 V) ∧ u.cell? ⟨w.heap.size, 7, none⟩ = some (.slice Q L R) ∧ u.cell? ⟨w.heap.size + 1, 0, none⟩ = some (.int .i64 0) ∧ u.cell? ⟨w.heap.size + 1, 1, none⟩ = some (.int .i64 0) ∧ u.cell? ⟨w.heap.size + 1, 2, none⟩ = some (.int .i64 0) ∧ u.cell? ⟨w.heap.size + 1, 3, none⟩ = some (.int .i64 0) ∧ u.cell? ⟨w.heap.size + 1, 4, none⟩ = some (.int .i64 P) ∧ u.cell? ⟨w.heap.size + 1, 5, none⟩ = some (.int .i64 0) ∧ u.cell? ⟨w.heap.size, 0, none⟩ = some (.int .i64 7) ∧ u.cell? ⟨w.heap.size, 1, none⟩ = some (.int .i64 0) ∧ u.cell? ⟨w.heap.size, 2, none⟩ = some (.int .i64 P) ∧ u.cell? ⟨w.heap.size, 5, none⟩ = some (.int .u64 X) ∧ u.cell? ⟨w.heap.size, 6, none⟩ = some (.int .u64 Y)) (go_keep) (first
      | (go_at_call 46; refine (HBG.out _ ⟨col, x, ws, o, n, HPl.out.on (by repeat (first | exact Below.refl _ _ | refine bl_drew ?_ | refine bl_drewN _ ?_ | refine bl_alloc ?_ _ | refine bl_setCell ?_ (by simp) _ _ | refine bl_setRow ?_ (by simp) _)), HA.out⟩).mono ?_; rintro e u1 ⟨rfl, hg⟩; have HGG := Lib.hid hg; clear hg)); go_wp2_with (first
      | (go_at_call 46; refine (HBG.out _ ⟨col, x, ws, o, n, HPl.out.on (by repeat (first | exact Below.refl _ _ | refine bl_drew ?_ | refine bl_drewN _ ?_ | refine bl_alloc ?_ _ | refine bl_setCell ?_ (by simp) _ _ | refine bl_setRow ?_ (by simp) _)), HA.out⟩).mono ?_; rintro e u1 ⟨rfl, hg⟩; have HGG := Lib.hid hg; clear hg))))
    go_ret
    exact ⟨rfl, HGG.out⟩
  · have hbx : bx < w.heap.size := lt_of_block hp.box
    have HLT : Hid ((x.bm < w.heap.size ∧ x.gm < w.heap.size) ∧ (x.bd < w.heap.size ∧ x.gd < w.heap.size)) := ⟨⟨hp.m.ltB, hp.m.ltG⟩, ⟨hp.d.ltB, hp.d.ltG⟩⟩
    have HPl : Hid (Play W (ow0 w 7 1 P C V X Y Q L R) bx col x ws o n ws o n) := hp.on (bl_alloc (bl_alloc (Below.refl _ _) _) _)
    have HOb : Hid (Ob w (ow0 w 7 1 P C V X Y Q L R) 7 1 P C V X Y Q L R) := ob_new _ _ _ _ _ _ _ _ _ _ _
    have HCB : Hid (∀ u o1 n1 o2 n2 ws1 ws2, Play W u bx col x ws1 o1 n1 ws2 o2 n2 → u.cell? ⟨bx, 0, none⟩ = some (.pointer (some ⟨x.bm, 0, none⟩)) ∧ u.cell? ⟨bx, 1, none⟩ = some (.pointer (some ⟨x.bd, 0, none⟩)) ∧ bx < u.heap.size) := fun u o1 n1 o2 n2 ws1 ws2 k => k.cells.1
    obtain ⟨b0, b1, bb⟩ := HCB.out _ _ _ _ _ _ _ hp
    clear hp ha
    have HBG : Hid (∀ u, Goes W u bx M → Calls Try.prog 46 #[.pointer (some ⟨bx, 0, none⟩), .agg #[.int .i64 7, .int .i64 1, .int .i64 P, .int .i64 C, .int .u64 V, .int .u64 X, .int .u64 Y, .slice Q L R], planV 0 0 0 0 P 0, .int .i64 1] u fun e w' => e = .returned (.bool true) ∧ Goes W w' bx M) := fun u k => begins_write k (i := 1) (by omega) 1 P C V X Y Q L R
    unfold planV at HBG
    go_enter Try.func14, Try.ntmps14
    go_wp2_with (first
      | (go_at_call 46; refine (HBG.out _ ⟨col, x, ws, o, n, HPl.out.on (by repeat (first | exact Below.refl _ _ | refine bl_drew ?_ | refine bl_drewN _ ?_ | refine bl_alloc ?_ _ | refine bl_setCell ?_ (by simp) _ _ | refine bl_setRow ?_ (by simp) _)), HA.out⟩).mono ?_; rintro e u1 ⟨rfl, hg⟩; have HGG := Lib.hid hg; clear hg))
    all_goals (try (go_region_held (fun u => u.cell? ⟨bx, 0, none⟩ = some (.pointer (some ⟨x.bm, 0, none⟩)) ∧ u.cell? ⟨bx, 1, none⟩ = some (.pointer (some ⟨x.bd, 0, none⟩)) ∧ u.cell? ⟨w.heap.size, 3, none⟩ = some (.int .i64 C) ∧ u.cell? ⟨w.heap.size, 4, none⟩ = some (.int .u64 V) ∧ u.cell? ⟨w.heap.size, 7, none⟩ = some (.slice Q L R) ∧ u.cell? ⟨w.heap.size + 1, 0, none⟩ = some (.int .i64 0) ∧ u.cell? ⟨w.heap.size + 1, 1, none⟩ = some (.int .i64 0) ∧ u.cell? ⟨w.heap.size + 1, 2, none⟩ = some (.int .i64 0) ∧ u.cell? ⟨w.heap.size + 1, 3, none⟩ = some (.int .i64 0) ∧ u.cell? ⟨w.heap.size + 1, 4, none⟩ = some (.int .i64 P) ∧ u.cell? ⟨w.heap.size + 1, 5, none⟩ = some (.int .i64 0) ∧ u.cell? ⟨w.heap.size, 0, none⟩ = some (.int .i64 7) ∧ u.cell? ⟨w.heap.size, 1, none⟩ = some (.int .i64 1) ∧ u.cell? ⟨w.heap.size, 2, none⟩ = some (.int .i64 P) ∧ u.cell? ⟨w.heap.size, 5, none⟩ = some (.int .u64 X) ∧ u.cell? ⟨w.heap.size, 6, none⟩ = some (.int .u64 Y)) (go_keep) (first
      | (go_at_call 46; refine (HBG.out _ ⟨col, x, ws, o, n, HPl.out.on (by repeat (first | exact Below.refl _ _ | refine bl_drew ?_ | refine bl_drewN _ ?_ | refine bl_alloc ?_ _ | refine bl_setCell ?_ (by simp) _ _ | refine bl_setRow ?_ (by simp) _)), HA.out⟩).mono ?_; rintro e u1 ⟨rfl, hg⟩; have HGG := Lib.hid hg; clear hg)); go_wp2_with (first
      | (go_at_call 46; refine (HBG.out _ ⟨col, x, ws, o, n, HPl.out.on (by repeat (first | exact Below.refl _ _ | refine bl_drew ?_ | refine bl_drewN _ ?_ | refine bl_alloc ?_ _ | refine bl_setCell ?_ (by simp) _ _ | refine bl_setRow ?_ (by simp) _)), HA.out⟩).mono ?_; rintro e u1 ⟨rfl, hg⟩; have HGG := Lib.hid hg; clear hg))))
    go_ret
    exact ⟨rfl, HGG.out⟩
  · have hbx : bx < w.heap.size := lt_of_block hp.box
    have HLT : Hid ((x.bm < w.heap.size ∧ x.gm < w.heap.size) ∧ (x.bd < w.heap.size ∧ x.gd < w.heap.size)) := ⟨⟨hp.m.ltB, hp.m.ltG⟩, ⟨hp.d.ltB, hp.d.ltG⟩⟩
    have HPl : Hid (Play W (ow0 w 7 I P C V X Y Q L R) bx col x ws o n ws o n) := hp.on (bl_alloc (bl_alloc (Below.refl _ _) _) _)
    have HOb : Hid (Ob w (ow0 w 7 I P C V X Y Q L R) 7 I P C V X Y Q L R) := ob_new _ _ _ _ _ _ _ _ _ _ _
    have HCB : Hid (∀ u o1 n1 o2 n2 ws1 ws2, Play W u bx col x ws1 o1 n1 ws2 o2 n2 → u.cell? ⟨bx, 0, none⟩ = some (.pointer (some ⟨x.bm, 0, none⟩)) ∧ u.cell? ⟨bx, 1, none⟩ = some (.pointer (some ⟨x.bd, 0, none⟩)) ∧ bx < u.heap.size) := fun u o1 n1 o2 n2 ws1 ws2 k => k.cells.1
    obtain ⟨b0, b1, bb⟩ := HCB.out _ _ _ _ _ _ _ hp
    clear hp ha
    have j0 : (I == 0) = false := by simp [i0]
    have j1 : (I == 1) = false := by simp [i1]
    clear i0 i1
    go_enter Try.func14, Try.ntmps14
    go_wp2
    go_ret
    exact ⟨by first | rfl | simp, col, x, _, _, _, HPl.out.on (by repeat (first | exact Below.refl _ _ | refine bl_drew ?_ | refine bl_drewN _ ?_ | refine bl_alloc ?_ _ | refine bl_setCell ?_ (by simp) _ _ | refine bl_setRow ?_ (by simp) _)), HA.out⟩
end
end Go.Proofs.Ytmmijcmlnhmooaa
