import Derived.Deep.CutBlock
import Derived.Deep.DeepCutAuto
import Derived.Test.YtmmijcmlnhmooaaEY
import Derived.Test.YtmmijcmlnhmooaaEK
namespace Go.Proofs.Ytmmijcmlnhmooaa
open Go.ChangeShapes Go.WideShapes Go.ChangeAt Go.RowKit Num
attribute [local go_sem] run_store_float

section
variable {W w : World} {bx : Nat} {M : Nat × Nat}
set_option maxRecDepth 100000 in
set_option maxHeartbeats 8000000 in
theorem wstep_peekI (h : Goes W w bx M) (I P C V X Y : Int) (Q : Option Addr) (L R : Nat) (i0 : ¬ I = 0) (_i1 : ¬ I = 1) : Calls Try.prog 14 #[.pointer (some ⟨bx, 0, none⟩), .agg #[.int .i64 3, .int .i64 I, .int .i64 P, .int .i64 C, .int .u64 V, .int .u64 X, .int .u64 Y, .slice Q L R]] w fun e w' => e = .returned (.bool true) ∧ Goes W w' bx M := by
  obtain ⟨col, x, ws, o, n, hp, ha⟩ := h
  have HA := Lib.hid ha
  have hbx : bx < w.heap.size := lt_of_block hp.box
  have HLT : Hid ((x.bm < w.heap.size ∧ x.gm < w.heap.size) ∧ (x.bd < w.heap.size ∧ x.gd < w.heap.size)) := ⟨⟨hp.m.ltB, hp.m.ltG⟩, ⟨hp.d.ltB, hp.d.ltG⟩⟩
  have HPl : Hid (Play W (ow0 w 3 I P C V X Y Q L R) bx col x ws o n ws o n) := hp.on (bl_alloc (bl_alloc (Below.refl _ _) _) _)
  have HOb : Hid (Ob w (ow0 w 3 I P C V X Y Q L R) 3 I P C V X Y Q L R) := ob_new _ _ _ _ _ _ _ _ _ _ _
  have HCB : Hid (∀ u o1 n1 o2 n2 ws1 ws2, Play W u bx col x ws1 o1 n1 ws2 o2 n2 → u.cell? ⟨bx, 0, none⟩ = some (.pointer (some ⟨x.bm, 0, none⟩)) ∧ u.cell? ⟨bx, 1, none⟩ = some (.pointer (some ⟨x.bd, 0, none⟩)) ∧ bx < u.heap.size) := fun u o1 n1 o2 n2 ws1 ws2 k => k.cells.1
  obtain ⟨b0, b1, bb⟩ := HCB.out _ _ _ _ _ _ _ hp
  clear hp ha
  have HN1 : Hid (∀ u, Play W u bx col x ws o n ws o n → Calls Try.prog 9 #[.pointer (some ⟨x.bm, 0, none⟩), planV 0 0 0 0 P 0, .int .i64 C] u fun e w' => e = .returned (.tuple #[tripV (peekW ws P C 0) (peekW ws P C 1) (peekW ws P C 2), .int .i64 (peekE ws P C)]) ∧ Below u.heap.size u w') := fun u k => cpeek_any k.m 0 0 0 0 P 0 C
  have HN2 : Hid (∀ u, Play W u bx col x ws o n ws o n → Calls Try.prog 44 #[.pointer (some ⟨x.bd, 0, none⟩), planV 0 0 0 0 P 0, .int .i64 C] u fun e w' => e = .returned (.tuple #[tripV (peekW ws P C 0) (peekW ws P C 1) (peekW ws P C 2), .int .i64 (peekE ws P C)]) ∧ Below u.heap.size u w') := fun u k => refPeek11_any k.d 0 0 0 0 P 0 C
  unfold planV tripV at HN1 HN2
  generalize peekW ws P C 0 = v0 at HN1 HN2
  generalize peekW ws P C 1 = v1 at HN1 HN2
  generalize peekW ws P C 2 = v2 at HN1 HN2
  generalize peekE ws P C = ee at HN1 HN2
  have hteq := trip_eq9 v0 v1 v2
  obtain ⟨u0, hu0⟩ : ∃ u0, u0 = ow0 w 3 I P C V X Y Q L R := ⟨_, rfl⟩
  rw [← hu0] at HPl HOb
  unfold ow0 planC at hu0
  go_enter Try.func14, Try.ntmps14
  go_upto_region 12 with (fail)
  rw [← hu0]
  obtain ⟨⟨o0, oi, op, o3, o4, o5, o6, o7⟩, ⟨p0, p1, p2, p3, p4, p5⟩, p6⟩ := HOb.out.cells
  obtain ⟨b0, b1, bb⟩ := HCB.out _ _ _ _ _ _ _ HPl.out
  have n1 : ¬ bx = u0.heap.size := Nat.ne_of_lt bb
  have n2 : ¬ w.heap.size = u0.heap.size := Nat.ne_of_lt (lt_of_block HOb.out.op)
  have n3 : ¬ w.heap.size + 1 = u0.heap.size := Nat.ne_of_lt (lt_of_block HOb.out.pl)
  have m1 : ¬ u0.heap.size = bx := fun q => n1 q.symm
  have m2 : ¬ u0.heap.size = w.heap.size := fun q => n2 q.symm
  have m3 : ¬ u0.heap.size = w.heap.size + 1 := fun q => n3 q.symm
  clear hu0
  go_cut [9, 10] (fun v9 v10 wc => ∃ g : Nat, v9 = .pointer (some ⟨g, 0, none⟩) ∧ v10 = .int .i64 ee ∧ Hid (Below u0.heap.size u0 wc ∧ wc.heap[g]? = some (.cells #[.int .u64 v0, .int .u64 v1, .int .u64 v2] 24 (0, 0))))
  case first =>
    go_region_held (fun u => u.cell? ⟨bx, 0, none⟩ = some (.pointer (some ⟨x.bm, 0, none⟩)) ∧ u.cell? ⟨bx, 1, none⟩ = some (.pointer (some ⟨x.bd, 0, none⟩)) ∧ u.cell? ⟨w.heap.size, 3, none⟩ = some (.int .i64 C) ∧ u.cell? ⟨w.heap.size + 1, 0, none⟩ = some (.int .i64 0) ∧ u.cell? ⟨w.heap.size + 1, 1, none⟩ = some (.int .i64 0) ∧ u.cell? ⟨w.heap.size + 1, 2, none⟩ = some (.int .i64 0) ∧ u.cell? ⟨w.heap.size + 1, 3, none⟩ = some (.int .i64 0) ∧ u.cell? ⟨w.heap.size + 1, 4, none⟩ = some (.int .i64 P) ∧ u.cell? ⟨w.heap.size + 1, 5, none⟩ = some (.int .i64 0)) (go_keep) (first
      | (go_at_call 9; refine (HN1.out _ (HPl.out.on (by repeat (first | exact Below.refl _ _ | refine bl_drew ?_ | refine bl_drewN _ ?_ | refine bl_alloc ?_ _ | refine bl_setCell ?_ (by simp) _ _ | refine bl_setRow ?_ (by simp) _)))).mono ?_; rintro e u1 ⟨rfl, hb⟩; have HBB := Lib.hid (below_step ((by repeat (first | exact Below.refl _ _ | refine bl_drew ?_ | refine bl_drewN _ ?_ | refine bl_alloc ?_ _ | refine bl_setCell ?_ (by simp) _ _ | refine bl_setRow ?_ (by simp) _)) : Below u0.heap.size u0 _) hb); have HZ := Lib.hid ((hb.block u0.heap.size (by simp)).trans (heap_alloc_new _ _)); obtain ⟨⟨z0, z1, z2, z3⟩, z4, z5, z6⟩ := box3 HZ.out; obtain ⟨⟨o0, oi, op, o3, o4, o5, o6, o7⟩, ⟨p0, p1, p2, p3, p4, p5⟩, p6⟩ := (HOb.out.on HBB.out).cells; obtain ⟨b0, b1, bb⟩ := HCB.out _ _ _ _ _ _ _ (HPl.out.on HBB.out); clear hb)
      | (go_at_call 9; refine (HN1.out _ (HPl.out.on (by repeat (first | exact Below.refl _ _ | refine bl_drew ?_ | refine bl_drewN _ ?_ | refine bl_alloc ?_ _ | refine bl_setCell ?_ (by simp) _ _ | refine bl_setRow ?_ (by simp) _)))).mono ?_; rintro e u1 ⟨rfl, hb⟩; have HBB := Lib.hid (below_step ((by repeat (first | exact Below.refl _ _ | refine bl_drew ?_ | refine bl_drewN _ ?_ | refine bl_alloc ?_ _ | refine bl_setCell ?_ (by simp) _ _ | refine bl_setRow ?_ (by simp) _)) : Below u0.heap.size u0 _) hb); obtain ⟨⟨o0, oi, op, o3, o4, o5, o6, o7⟩, ⟨p0, p1, p2, p3, p4, p5⟩, p6⟩ := (HOb.out.on HBB.out).cells; obtain ⟨b0, b1, bb⟩ := HCB.out _ _ _ _ _ _ _ (HPl.out.on HBB.out); clear hb))
    all_goals go_wp2_with (fail)
    all_goals go_meet
    all_goals first
      | exact ⟨_, rfl, rfl, bl_alloc HBB.out _, heap_alloc_new _ _⟩
      | exact ⟨_, rfl, rfl, bl_setCell (bl_setCell (bl_setCell HBB.out (Nat.le_refl _) _ _) (Nat.le_refl _) _ _) (Nat.le_refl _) _ _, trip_set HZ.out⟩
  case rest =>
    obtain ⟨g, rfl, rfl, HK⟩ := hcut
    obtain ⟨ub, hub⟩ : ∃ ub : World, ub = wc := ⟨_, rfl⟩
    rw [← hub] at HK ⊢
    clear hub
    replace HPl := Lib.hid (HPl.out.on HK.out.1)
    replace HOb := Lib.hid (HOb.out.on HK.out.1)
    have HT := Lib.hid HK.out.2
    clear b0 b1 bb o0 oi op o3 o4 o5 o6 o7 p0 p1 p2 p3 p4 p5 p6 n1 n2 n3 m1 m2 m3 HN1 HK
    obtain ⟨⟨o0, oi, op, o3, o4, o5, o6, o7⟩, ⟨p0, p1, p2, p3, p4, p5⟩, p6⟩ := HOb.out.cells
    obtain ⟨b0, b1, bb⟩ := HCB.out _ _ _ _ _ _ _ HPl.out
    have n1 : ¬ bx = ub.heap.size := Nat.ne_of_lt bb
    have n2 : ¬ w.heap.size = ub.heap.size := Nat.ne_of_lt (lt_of_block HOb.out.op)
    have n3 : ¬ w.heap.size + 1 = ub.heap.size := Nat.ne_of_lt (lt_of_block HOb.out.pl)
    have m1 : ¬ ub.heap.size = bx := fun q => n1 q.symm
    have m2 : ¬ ub.heap.size = w.heap.size := fun q => n2 q.symm
    have m3 : ¬ ub.heap.size = w.heap.size + 1 := fun q => n3 q.symm
    go_upto_region 13 with (fail)
    go_cut [11, 12] (fun v11 v12 wc => ∃ h : Nat, v11 = .pointer (some ⟨h, 0, none⟩) ∧ v12 = .int .i64 ee ∧ Hid (Below ub.heap.size ub wc ∧ wc.heap[h]? = some (.cells #[.int .u64 v0, .int .u64 v1, .int .u64 v2] 24 (0, 0))))
    case first =>
      go_region_held (fun u => u.cell? ⟨bx, 0, none⟩ = some (.pointer (some ⟨x.bm, 0, none⟩)) ∧ u.cell? ⟨bx, 1, none⟩ = some (.pointer (some ⟨x.bd, 0, none⟩)) ∧ u.cell? ⟨w.heap.size, 3, none⟩ = some (.int .i64 C) ∧ u.cell? ⟨w.heap.size + 1, 0, none⟩ = some (.int .i64 0) ∧ u.cell? ⟨w.heap.size + 1, 1, none⟩ = some (.int .i64 0) ∧ u.cell? ⟨w.heap.size + 1, 2, none⟩ = some (.int .i64 0) ∧ u.cell? ⟨w.heap.size + 1, 3, none⟩ = some (.int .i64 0) ∧ u.cell? ⟨w.heap.size + 1, 4, none⟩ = some (.int .i64 P) ∧ u.cell? ⟨w.heap.size + 1, 5, none⟩ = some (.int .i64 0)) (go_keep) (first
      | (go_at_call 44; refine (HN2.out _ (HPl.out.on (by repeat (first | exact Below.refl _ _ | refine bl_drew ?_ | refine bl_drewN _ ?_ | refine bl_alloc ?_ _ | refine bl_setCell ?_ (by simp) _ _ | refine bl_setRow ?_ (by simp) _)))).mono ?_; rintro e u1 ⟨rfl, hb⟩; have HBB := Lib.hid (below_step ((by repeat (first | exact Below.refl _ _ | refine bl_drew ?_ | refine bl_drewN _ ?_ | refine bl_alloc ?_ _ | refine bl_setCell ?_ (by simp) _ _ | refine bl_setRow ?_ (by simp) _)) : Below ub.heap.size ub _) hb); have HZ := Lib.hid ((hb.block ub.heap.size (by simp)).trans (heap_alloc_new _ _)); obtain ⟨⟨z0, z1, z2, z3⟩, z4, z5, z6⟩ := box3 HZ.out; obtain ⟨⟨o0, oi, op, o3, o4, o5, o6, o7⟩, ⟨p0, p1, p2, p3, p4, p5⟩, p6⟩ := (HOb.out.on HBB.out).cells; obtain ⟨b0, b1, bb⟩ := HCB.out _ _ _ _ _ _ _ (HPl.out.on HBB.out); clear hb)
      | (go_at_call 44; refine (HN2.out _ (HPl.out.on (by repeat (first | exact Below.refl _ _ | refine bl_drew ?_ | refine bl_drewN _ ?_ | refine bl_alloc ?_ _ | refine bl_setCell ?_ (by simp) _ _ | refine bl_setRow ?_ (by simp) _)))).mono ?_; rintro e u1 ⟨rfl, hb⟩; have HBB := Lib.hid (below_step ((by repeat (first | exact Below.refl _ _ | refine bl_drew ?_ | refine bl_drewN _ ?_ | refine bl_alloc ?_ _ | refine bl_setCell ?_ (by simp) _ _ | refine bl_setRow ?_ (by simp) _)) : Below ub.heap.size ub _) hb); obtain ⟨⟨o0, oi, op, o3, o4, o5, o6, o7⟩, ⟨p0, p1, p2, p3, p4, p5⟩, p6⟩ := (HOb.out.on HBB.out).cells; obtain ⟨b0, b1, bb⟩ := HCB.out _ _ _ _ _ _ _ (HPl.out.on HBB.out); clear hb))
      all_goals go_wp2_with (fail)
      all_goals go_meet
      all_goals first
        | exact ⟨_, rfl, rfl, bl_alloc HBB.out _, heap_alloc_new _ _⟩
        | exact ⟨_, rfl, rfl, bl_setCell (bl_setCell (bl_setCell HBB.out (Nat.le_refl _) _ _) (Nat.le_refl _) _ _) (Nat.le_refl _) _ _, trip_set HZ.out⟩
    case rest =>
      obtain ⟨g', rfl, rfl, HK⟩ := hcut
      clear b0 b1 bb o0 oi op o3 o4 o5 o6 o7 p0 p1 p2 p3 p4 p5 p6 n1 n2 n3 m1 m2 m3 HN2
      obtain ⟨⟨z0, z1, z2, z3⟩, z4, z5, z6⟩ := box3 ((HK.out.1.block _ (lt_of_block HT.out)).trans HT.out)
      obtain ⟨⟨y0, y1, y2, y3⟩, y4, y5, y6⟩ := box3 HK.out.2
      go_wp2
      go_ret
      exact ⟨by simp, col, x, _, _, _, HPl.out.on (below_step HK.out.1 (by repeat (first | exact Below.refl _ _ | refine bl_drew ?_ | refine bl_drewN _ ?_ | refine bl_alloc ?_ _ | refine bl_setCell ?_ (by simp) _ _ | refine bl_setRow ?_ (by simp) _))), HA.out⟩
end
end Go.Proofs.Ytmmijcmlnhmooaa
