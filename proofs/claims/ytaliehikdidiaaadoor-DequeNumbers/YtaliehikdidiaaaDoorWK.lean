/- stage 22 (deque): the seven programs -/
import Derived.Test.YtaliehikdidiaaaDoorWI
namespace Go.Proofs.YtaliehikdidiaaaDoor.Dq
open Go.ChangeShapes Go.WideShapes Go.ChangeAt Go.RowKit Num Go.Maps As
open Go.ChangeMaps Go.MapKept
attribute [local go_sem] run_store_float frombits_run bits_run

theorem pw_facts {w u : World} {f : Nat → Nat × Array Value} (k : Below ((w.alloc (rwB f)).alloc pgZ).heap.size ((w.alloc (rwB f)).alloc pgZ) u) : Sr w.heap.size f u ∧ u.heap[w.heap.size + 1]? = some pgZ ∧ Below w.heap.size w u := by
  have e0 : ((w.alloc (rwB f)).alloc pgZ).heap[w.heap.size]? = some (rwB f) := (heap_alloc_old _ _ (by simp)).trans (heap_alloc_new w _)
  have e1 : ((w.alloc (rwB f)).alloc pgZ).heap[w.heap.size + 1]? = some pgZ := by have := heap_alloc_new (w.alloc (rwB f)) pgZ; rwa [World.size_alloc] at this
  exact ⟨sr_of ((k.block _ (lt_of_block e0)).trans e0), (k.block _ (lt_of_block e1)).trans e1, (bl2 _ _ _).trans (k.mono (bl2 _ _ _).size)⟩
section
variable {w : World} {f : Nat → Nat × Array Value} {B R : Int}
set_option maxRecDepth 100000 in
set_option maxHeartbeats 400000 in
theorem g_pushFront (h : RwAt w f B R) (hT : Shaped5 w) : Calls Tryd.prog 7 #[.agg (rwA f)] w fun e w' => PgC w 2 (pfC B R) e w' := by
  have HX : Hid (∀ u, Below ((w.alloc (rwB f)).alloc pgZ).heap.size ((w.alloc (rwB f)).alloc pgZ) u → Sr w.heap.size f u) := fun u k => (pw_facts k).1
  have HX2 : Hid (∀ u, Below ((w.alloc (rwB f)).alloc pgZ).heap.size ((w.alloc (rwB f)).alloc pgZ) u → u.heap[w.heap.size + 1]? = some pgZ ∧ Below w.heap.size w u) := fun u k => (pw_facts k).2
  have HRW : Hid (∀ u, Below ((w.alloc (rwB f)).alloc pgZ).heap.size ((w.alloc (rwB f)).alloc pgZ) u → RwAt u f B R) := fun u k => h.on (pw_facts k).2.2
  have HT : Hid (∀ u, Below ((w.alloc (rwB f)).alloc pgZ).heap.size ((w.alloc (rwB f)).alloc pgZ) u → Shaped5 u) := fun u k => hT.on (pw_facts k).2.2
  have A : Hid (Acc ((w.alloc (rwB f)).alloc pgZ) ((w.alloc (rwB f)).alloc pgZ) _) := rw_acc (HRW.out _ (Below.refl _ _)) (Below.refl _ _)
  have HGD := Lib.hid (pf_good B R)
  clear h hT
  go_enter Tryd.func7, Tryd.ntmps7
  go_wp2_with fail
  replace A := Lib.hid (A.out.on ((Same.drew _).below _))
  refine wp_region_seqE (Sr w.heap.size f) ((0, true) :: (2, true) :: (3, true) :: (4, true) :: (5, true) :: (6, true) :: (7, true) :: (10, true) :: (11, true) :: (12, true) :: (1, false) :: (8, false) :: (9, false) :: (13, false) :: (14, false) :: (15, false) :: (16, false) :: []) follows (by kernel_rfl) (fun _ _ _ _ _ h => h) (HX.out _ A.out.bl) ?_
  (repeat (refine wpSeqE_take (v := ?_) rfl (by rfl) (fun wq hSq => ?_) ?_; rotate_left; (focus ((try dsimp only at hSq); go_simp; try with_reducible rfl)); simp only [Act.put, List.setIfInBounds_toArray, List.set_cons_zero, List.set_cons_succ]))
  (refine wpSeqE_do rfl (by rfl) (fun KK hK => ?_); go_simp)
  refine (c_load (HRW.out _ A.out.bl)).mono ?_
  rintro e u1 ⟨f1, k1, rfl, h⟩
  replace A := Lib.hid (A.out.more h.out)
  clear h
  refine hK.out _ _ (fun _ => HX.out _ A.out.bl) ?_
  (clear hK KK; try simp only [Act.put, List.setIfInBounds_toArray, List.set_cons_zero, List.set_cons_succ])
  (repeat (refine wpSeqE_take (v := ?_) rfl (by rfl) (fun wq hSq => ?_) ?_; rotate_left; (focus ((try dsimp only at hSq); go_simp; try with_reducible rfl)); simp only [Act.put, List.setIfInBounds_toArray, List.set_cons_zero, List.set_cons_succ]))
  (refine wpSeqE_do rfl (by rfl) (fun KK hK => ?_); go_simp)
  refine (c_push _ _).mono ?_
  rintro e u2 ⟨f2, k2, rfl, h⟩
  replace A := Lib.hid (A.out.more h.out)
  clear h
  refine hK.out _ _ (fun _ => HX.out _ A.out.bl) ?_
  (clear hK KK; try simp only [Act.put, List.setIfInBounds_toArray, List.set_cons_zero, List.set_cons_succ])
  (repeat (refine wpSeqE_take (v := ?_) rfl (by rfl) (fun wq hSq => ?_) ?_; rotate_left; (focus ((try dsimp only at hSq); go_simp; try with_reducible rfl)); simp only [Act.put, List.setIfInBounds_toArray, List.set_cons_zero, List.set_cons_succ]))
  (refine wpSeqE_do rfl (by rfl) (fun KK hK => ?_); go_simp)
  refine (c_put (HRW.out _ A.out.bl) (A.out.it (fv f2 k2, [⟨1, 0, 0⟩]) (by simp))).mono ?_
  rintro e u3 ⟨f3, k3, rfl, h⟩
  replace A := Lib.hid (A.out.more h.out)
  clear h
  refine hK.out _ _ (fun _ => HX.out _ A.out.bl) ?_
  (clear hK KK; try simp only [Act.put, List.setIfInBounds_toArray, List.set_cons_zero, List.set_cons_succ])
  (repeat (refine wpSeqE_take (v := ?_) rfl (by rfl) (fun wq hSq => ?_) ?_; rotate_left; (focus ((try dsimp only at hSq); go_simp; try with_reducible rfl)); simp only [Act.put, List.setIfInBounds_toArray, List.set_cons_zero, List.set_cons_succ]))
  (refine wpSeqE_do rfl (by rfl) (fun KK hK => ?_); go_simp)
  refine (c_tellMany _).mono ?_
  rintro e u4 ⟨f4, k4, rfl, h⟩
  replace A := Lib.hid (A.out.more h.out)
  clear h
  refine hK.out _ _ (fun _ => HX.out _ A.out.bl) ?_
  (clear hK KK; try simp only [Act.put, List.setIfInBounds_toArray, List.set_cons_zero, List.set_cons_succ])
  (repeat (refine wpSeqE_take (v := ?_) rfl (by rfl) (fun wq hSq => ?_) ?_; rotate_left; (focus ((try dsimp only at hSq); go_simp; try with_reducible rfl)); simp only [Act.put, List.setIfInBounds_toArray, List.set_cons_zero, List.set_cons_succ]))
  (refine wpSeqE_do rfl (by rfl) (fun KK hK => ?_); go_simp)
  refine hK.out _ _ (fun _ => HX.out _ (A.out.on (bl1 _ _)).bl) ?_
  (clear hK KK; try simp only [Act.put, List.setIfInBounds_toArray, List.set_cons_zero, List.set_cons_succ])
  (repeat (refine wpSeqE_take (v := ?_) rfl (by rfl) (fun wq hSq => ?_) ?_; rotate_left; (focus ((try dsimp only at hSq); go_simp; try with_reducible rfl)); simp only [Act.put, List.setIfInBounds_toArray, List.set_cons_zero, List.set_cons_succ]))
  (refine wpSeqE_do rfl (by rfl) (fun KK hK => ?_); go_simp)
  refine (c_program 2 ((A.out.sub (L' := [(fv f4 k4, manyO), (fv (f 4).1 (f 4).2, turnO (B + 1) (R + 1) 1 1), (fv f3 k3, putO B R [⟨1, 0, 0⟩]), (fv (f 2).1 (f 2).2, turnO B R 0 (R - 1)), (fv (f 6).1 (f 6).2, needO R), (fv f1 k1, ldO B)]) (by simp)).parts rfl) rfl (Nat.le_of_ble_eq_true rfl) (HT.out _ (A.out.on (bl1 _ _)).bl) HGD.out.len HGD.out.wf HGD.out.ans HGD.out.code).mono ?_
  rintro e u99 ⟨p, n, c, rfl, hZ⟩
  have HBL := Lib.hid ((A.out.on (bl1 _ _)).bl.trans (hZ.out.2.2.mono (A.out.on (bl1 _ _)).bl.size))
  refine hK.out _ _ (fun _ => HX.out _ HBL.out) ?_
  (clear hK KK; try simp only [Act.put, List.setIfInBounds_toArray, List.set_cons_zero, List.set_cons_succ])
  (repeat (refine wpSeqE_take (v := ?_) rfl (by rfl) (fun wq hSq => ?_) ?_; rotate_left; (focus ((try dsimp only at hSq); go_simp; try with_reducible rfl)); simp only [Act.put, List.setIfInBounds_toArray, List.set_cons_zero, List.set_cons_succ]))
  refine wpSeqE_do rfl (by rfl) (fun KK hK => ?_)
  have hb := (HX2.out _ HBL.out).1
  refine wp_store_row 24 _ _ rfl (w.heap.size + 1) (pgA 2 p n c) rfl rfl _ _ hb pgInfo rfl (pg_one _ _ _ _) ?_
  refine hK.out _ _ (fun hn => absurd rfl hn) ?_
  (clear hK KK; try simp only [Act.put])
  refine wpSeqE_nil ?_
  go_wp2_with fail
  have hbl := (HX2.out _ HBL.out).2
  refine pg_back rfl (w.heap.size + 1) 2 p n c rfl (setRow_heap _ _ _ _ _ _ hb) rfl ⟨p, n, c, rfl, hZ.out.1, hZ.out.2.1.keep ⟨by simp, fun x hx => setRow_other _ _ _ _ (fun e => ?_)⟩, hbl.trans ⟨rfl, rfl, rfl, by simp, fun k hk => setRow_other _ _ k _ (by omega)⟩⟩
  obtain ⟨arr, e2⟩ := hZ.out.2.1.blk hx
  exact ne_ty e2 hb (by decide) e
set_option maxRecDepth 100000 in
set_option maxHeartbeats 400000 in
theorem g_pushBack (h : RwAt w f B R) (hT : Shaped5 w) : Calls Tryd.prog 8 #[.agg (rwA f)] w fun e w' => PgC w 2 (pbC B R) e w' := by
  have HX : Hid (∀ u, Below ((w.alloc (rwB f)).alloc pgZ).heap.size ((w.alloc (rwB f)).alloc pgZ) u → Sr w.heap.size f u) := fun u k => (pw_facts k).1
  have HX2 : Hid (∀ u, Below ((w.alloc (rwB f)).alloc pgZ).heap.size ((w.alloc (rwB f)).alloc pgZ) u → u.heap[w.heap.size + 1]? = some pgZ ∧ Below w.heap.size w u) := fun u k => (pw_facts k).2
  have HRW : Hid (∀ u, Below ((w.alloc (rwB f)).alloc pgZ).heap.size ((w.alloc (rwB f)).alloc pgZ) u → RwAt u f B R) := fun u k => h.on (pw_facts k).2.2
  have HT : Hid (∀ u, Below ((w.alloc (rwB f)).alloc pgZ).heap.size ((w.alloc (rwB f)).alloc pgZ) u → Shaped5 u) := fun u k => hT.on (pw_facts k).2.2
  have A : Hid (Acc ((w.alloc (rwB f)).alloc pgZ) ((w.alloc (rwB f)).alloc pgZ) _) := rw_acc (HRW.out _ (Below.refl _ _)) (Below.refl _ _)
  have HGD := Lib.hid (pb_good B R)
  clear h hT
  go_enter Tryd.func8, Tryd.ntmps8
  go_wp2_with fail
  replace A := Lib.hid (A.out.on ((Same.drew _).below _))
  refine wp_region_seqE (Sr w.heap.size f) ((0, true) :: (2, true) :: (3, true) :: (4, true) :: (7, true) :: (8, true) :: (9, true) :: (1, false) :: (5, false) :: (6, false) :: (10, false) :: (11, false) :: (12, false) :: (13, false) :: []) follows (by kernel_rfl) (fun _ _ _ _ _ h => h) (HX.out _ A.out.bl) ?_
  (repeat (refine wpSeqE_take (v := ?_) rfl (by rfl) (fun wq hSq => ?_) ?_; rotate_left; (focus ((try dsimp only at hSq); go_simp; try with_reducible rfl)); simp only [Act.put, List.setIfInBounds_toArray, List.set_cons_zero, List.set_cons_succ]))
  (refine wpSeqE_do rfl (by rfl) (fun KK hK => ?_); go_simp)
  refine (c_load (HRW.out _ A.out.bl)).mono ?_
  rintro e u1 ⟨f1, k1, rfl, h⟩
  replace A := Lib.hid (A.out.more h.out)
  clear h
  refine hK.out _ _ (fun _ => HX.out _ A.out.bl) ?_
  (clear hK KK; try simp only [Act.put, List.setIfInBounds_toArray, List.set_cons_zero, List.set_cons_succ])
  (repeat (refine wpSeqE_take (v := ?_) rfl (by rfl) (fun wq hSq => ?_) ?_; rotate_left; (focus ((try dsimp only at hSq); go_simp; try with_reducible rfl)); simp only [Act.put, List.setIfInBounds_toArray, List.set_cons_zero, List.set_cons_succ]))
  (refine wpSeqE_do rfl (by rfl) (fun KK hK => ?_); go_simp)
  refine (c_get _ _).mono ?_
  rintro e u2 ⟨f2, k2, rfl, h⟩
  replace A := Lib.hid (A.out.more h.out)
  clear h
  refine hK.out _ _ (fun _ => HX.out _ A.out.bl) ?_
  (clear hK KK; try simp only [Act.put, List.setIfInBounds_toArray, List.set_cons_zero, List.set_cons_succ])
  (repeat (refine wpSeqE_take (v := ?_) rfl (by rfl) (fun wq hSq => ?_) ?_; rotate_left; (focus ((try dsimp only at hSq); go_simp; try with_reducible rfl)); simp only [Act.put, List.setIfInBounds_toArray, List.set_cons_zero, List.set_cons_succ]))
  (refine wpSeqE_do rfl (by rfl) (fun KK hK => ?_); go_simp)
  refine (c_put (HRW.out _ A.out.bl) (A.out.it (fv f2 k2, [⟨0, 7, 1⟩]) (by simp))).mono ?_
  rintro e u3 ⟨f3, k3, rfl, h⟩
  replace A := Lib.hid (A.out.more h.out)
  clear h
  refine hK.out _ _ (fun _ => HX.out _ A.out.bl) ?_
  (clear hK KK; try simp only [Act.put, List.setIfInBounds_toArray, List.set_cons_zero, List.set_cons_succ])
  (repeat (refine wpSeqE_take (v := ?_) rfl (by rfl) (fun wq hSq => ?_) ?_; rotate_left; (focus ((try dsimp only at hSq); go_simp; try with_reducible rfl)); simp only [Act.put, List.setIfInBounds_toArray, List.set_cons_zero, List.set_cons_succ]))
  (refine wpSeqE_do rfl (by rfl) (fun KK hK => ?_); go_simp)
  refine (c_tellMany _).mono ?_
  rintro e u4 ⟨f4, k4, rfl, h⟩
  replace A := Lib.hid (A.out.more h.out)
  clear h
  refine hK.out _ _ (fun _ => HX.out _ A.out.bl) ?_
  (clear hK KK; try simp only [Act.put, List.setIfInBounds_toArray, List.set_cons_zero, List.set_cons_succ])
  (repeat (refine wpSeqE_take (v := ?_) rfl (by rfl) (fun wq hSq => ?_) ?_; rotate_left; (focus ((try dsimp only at hSq); go_simp; try with_reducible rfl)); simp only [Act.put, List.setIfInBounds_toArray, List.set_cons_zero, List.set_cons_succ]))
  (refine wpSeqE_do rfl (by rfl) (fun KK hK => ?_); go_simp)
  refine hK.out _ _ (fun _ => HX.out _ (A.out.on (bl1 _ _)).bl) ?_
  (clear hK KK; try simp only [Act.put, List.setIfInBounds_toArray, List.set_cons_zero, List.set_cons_succ])
  (repeat (refine wpSeqE_take (v := ?_) rfl (by rfl) (fun wq hSq => ?_) ?_; rotate_left; (focus ((try dsimp only at hSq); go_simp; try with_reducible rfl)); simp only [Act.put, List.setIfInBounds_toArray, List.set_cons_zero, List.set_cons_succ]))
  (refine wpSeqE_do rfl (by rfl) (fun KK hK => ?_); go_simp)
  refine (c_program 2 ((A.out.sub (L' := [(fv f4 k4, manyO), (fv (f 4).1 (f 4).2, turnO (B + 1) (R + 1) 1 1), (fv f3 k3, putO B R [⟨0, 7, 1⟩]), (fv (f 6).1 (f 6).2, needO R), (fv f1 k1, ldO B)]) (by simp)).parts rfl) rfl (Nat.le_of_ble_eq_true rfl) (HT.out _ (A.out.on (bl1 _ _)).bl) HGD.out.len HGD.out.wf HGD.out.ans HGD.out.code).mono ?_
  rintro e u99 ⟨p, n, c, rfl, hZ⟩
  have HBL := Lib.hid ((A.out.on (bl1 _ _)).bl.trans (hZ.out.2.2.mono (A.out.on (bl1 _ _)).bl.size))
  refine hK.out _ _ (fun _ => HX.out _ HBL.out) ?_
  (clear hK KK; try simp only [Act.put, List.setIfInBounds_toArray, List.set_cons_zero, List.set_cons_succ])
  (repeat (refine wpSeqE_take (v := ?_) rfl (by rfl) (fun wq hSq => ?_) ?_; rotate_left; (focus ((try dsimp only at hSq); go_simp; try with_reducible rfl)); simp only [Act.put, List.setIfInBounds_toArray, List.set_cons_zero, List.set_cons_succ]))
  refine wpSeqE_do rfl (by rfl) (fun KK hK => ?_)
  have hb := (HX2.out _ HBL.out).1
  refine wp_store_row 24 _ _ rfl (w.heap.size + 1) (pgA 2 p n c) rfl rfl _ _ hb pgInfo rfl (pg_one _ _ _ _) ?_
  refine hK.out _ _ (fun hn => absurd rfl hn) ?_
  (clear hK KK; try simp only [Act.put])
  refine wpSeqE_nil ?_
  go_wp2_with fail
  have hbl := (HX2.out _ HBL.out).2
  refine pg_back rfl (w.heap.size + 1) 2 p n c rfl (setRow_heap _ _ _ _ _ _ hb) rfl ⟨p, n, c, rfl, hZ.out.1, hZ.out.2.1.keep ⟨by simp, fun x hx => setRow_other _ _ _ _ (fun e => ?_)⟩, hbl.trans ⟨rfl, rfl, rfl, by simp, fun k hk => setRow_other _ _ k _ (by omega)⟩⟩
  obtain ⟨arr, e2⟩ := hZ.out.2.1.blk hx
  exact ne_ty e2 hb (by decide) e
set_option maxRecDepth 100000 in
set_option maxHeartbeats 400000 in
theorem g_popFront (h : RwAt w f B R) (hT : Shaped5 w) : Calls Tryd.prog 9 #[.agg (rwA f)] w fun e w' => PgC w 2 (ofC B R) e w' := by
  have HX : Hid (∀ u, Below ((w.alloc (rwB f)).alloc pgZ).heap.size ((w.alloc (rwB f)).alloc pgZ) u → Sr w.heap.size f u) := fun u k => (pw_facts k).1
  have HX2 : Hid (∀ u, Below ((w.alloc (rwB f)).alloc pgZ).heap.size ((w.alloc (rwB f)).alloc pgZ) u → u.heap[w.heap.size + 1]? = some pgZ ∧ Below w.heap.size w u) := fun u k => (pw_facts k).2
  have HRW : Hid (∀ u, Below ((w.alloc (rwB f)).alloc pgZ).heap.size ((w.alloc (rwB f)).alloc pgZ) u → RwAt u f B R) := fun u k => h.on (pw_facts k).2.2
  have HT : Hid (∀ u, Below ((w.alloc (rwB f)).alloc pgZ).heap.size ((w.alloc (rwB f)).alloc pgZ) u → Shaped5 u) := fun u k => hT.on (pw_facts k).2.2
  have A : Hid (Acc ((w.alloc (rwB f)).alloc pgZ) ((w.alloc (rwB f)).alloc pgZ) _) := rw_acc (HRW.out _ (Below.refl _ _)) (Below.refl _ _)
  have HGD := Lib.hid (of_good B R)
  clear h hT
  go_enter Tryd.func9, Tryd.ntmps9
  go_wp2_with fail
  replace A := Lib.hid (A.out.on ((Same.drew _).below _))
  refine wp_region_seqE (Sr w.heap.size f) ((0, true) :: (4, true) :: (7, true) :: (8, true) :: (9, true) :: (10, true) :: (11, true) :: (12, true) :: (1, false) :: (2, false) :: (3, false) :: (5, false) :: (6, false) :: (13, false) :: (14, false) :: (15, false) :: (16, false) :: (17, false) :: []) follows (by kernel_rfl) (fun _ _ _ _ _ h => h) (HX.out _ A.out.bl) ?_
  (repeat (refine wpSeqE_take (v := ?_) rfl (by rfl) (fun wq hSq => ?_) ?_; rotate_left; (focus ((try dsimp only at hSq); go_simp; try with_reducible rfl)); simp only [Act.put, List.setIfInBounds_toArray, List.set_cons_zero, List.set_cons_succ]))
  (refine wpSeqE_do rfl (by rfl) (fun KK hK => ?_); go_simp)
  refine (c_load (HRW.out _ A.out.bl)).mono ?_
  rintro e u1 ⟨f1, k1, rfl, h⟩
  replace A := Lib.hid (A.out.more h.out)
  clear h
  refine hK.out _ _ (fun _ => HX.out _ A.out.bl) ?_
  (clear hK KK; try simp only [Act.put, List.setIfInBounds_toArray, List.set_cons_zero, List.set_cons_succ])
  (repeat (refine wpSeqE_take (v := ?_) rfl (by rfl) (fun wq hSq => ?_) ?_; rotate_left; (focus ((try dsimp only at hSq); go_simp; try with_reducible rfl)); simp only [Act.put, List.setIfInBounds_toArray, List.set_cons_zero, List.set_cons_succ]))
  (refine wpSeqE_do rfl (by rfl) (fun KK hK => ?_); go_simp)
  refine (c_get _ _).mono ?_
  rintro e u2 ⟨f2, k2, rfl, h⟩
  replace A := Lib.hid (A.out.more h.out)
  clear h
  refine hK.out _ _ (fun _ => HX.out _ A.out.bl) ?_
  (clear hK KK; try simp only [Act.put, List.setIfInBounds_toArray, List.set_cons_zero, List.set_cons_succ])
  (repeat (refine wpSeqE_take (v := ?_) rfl (by rfl) (fun wq hSq => ?_) ?_; rotate_left; (focus ((try dsimp only at hSq); go_simp; try with_reducible rfl)); simp only [Act.put, List.setIfInBounds_toArray, List.set_cons_zero, List.set_cons_succ]))
  (refine wpSeqE_do rfl (by rfl) (fun KK hK => ?_); go_simp)
  refine (c_to _ _ (wf_small (by decide)) _).mono ?_
  rintro e u3 ⟨f3, k3, rfl, h⟩
  replace A := Lib.hid (A.out.more h.out)
  clear h
  refine hK.out _ _ (fun _ => HX.out _ A.out.bl) ?_
  (clear hK KK; try simp only [Act.put, List.setIfInBounds_toArray, List.set_cons_zero, List.set_cons_succ])
  (repeat (refine wpSeqE_take (v := ?_) rfl (by rfl) (fun wq hSq => ?_) ?_; rotate_left; (focus ((try dsimp only at hSq); go_simp; try with_reducible rfl)); simp only [Act.put, List.setIfInBounds_toArray, List.set_cons_zero, List.set_cons_succ]))
  (refine wpSeqE_do rfl (by rfl) (fun KK hK => ?_); go_simp)
  refine (c_push _ _).mono ?_
  rintro e u4 ⟨f4, k4, rfl, h⟩
  replace A := Lib.hid (A.out.more h.out)
  clear h
  refine hK.out _ _ (fun _ => HX.out _ A.out.bl) ?_
  (clear hK KK; try simp only [Act.put, List.setIfInBounds_toArray, List.set_cons_zero, List.set_cons_succ])
  (repeat (refine wpSeqE_take (v := ?_) rfl (by rfl) (fun wq hSq => ?_) ?_; rotate_left; (focus ((try dsimp only at hSq); go_simp; try with_reducible rfl)); simp only [Act.put, List.setIfInBounds_toArray, List.set_cons_zero, List.set_cons_succ]))
  (refine wpSeqE_do rfl (by rfl) (fun KK hK => ?_); go_simp)
  refine (c_tell (HRW.out _ A.out.bl) (A.out.it (fv f4 k4, [⟨1, 0, 0⟩]) (by simp))).mono ?_
  rintro e u5 ⟨f5, k5, rfl, h⟩
  replace A := Lib.hid (A.out.more h.out)
  clear h
  refine hK.out _ _ (fun _ => HX.out _ A.out.bl) ?_
  (clear hK KK; try simp only [Act.put, List.setIfInBounds_toArray, List.set_cons_zero, List.set_cons_succ])
  (repeat (refine wpSeqE_take (v := ?_) rfl (by rfl) (fun wq hSq => ?_) ?_; rotate_left; (focus ((try dsimp only at hSq); go_simp; try with_reducible rfl)); simp only [Act.put, List.setIfInBounds_toArray, List.set_cons_zero, List.set_cons_succ]))
  (refine wpSeqE_do rfl (by rfl) (fun KK hK => ?_); go_simp)
  refine (c_mark _ (wf_small (by decide)) _).mono ?_
  rintro e u6 ⟨f6, k6, rfl, h⟩
  replace A := Lib.hid (A.out.more h.out)
  clear h
  refine hK.out _ _ (fun _ => HX.out _ A.out.bl) ?_
  (clear hK KK; try simp only [Act.put, List.setIfInBounds_toArray, List.set_cons_zero, List.set_cons_succ])
  (repeat (refine wpSeqE_take (v := ?_) rfl (by rfl) (fun wq hSq => ?_) ?_; rotate_left; (focus ((try dsimp only at hSq); go_simp; try with_reducible rfl)); simp only [Act.put, List.setIfInBounds_toArray, List.set_cons_zero, List.set_cons_succ]))
  (refine wpSeqE_do rfl (by rfl) (fun KK hK => ?_); go_simp)
  refine (c_halt _).mono ?_
  rintro e u7 ⟨f7, k7, rfl, h⟩
  replace A := Lib.hid (A.out.more h.out)
  clear h
  refine hK.out _ _ (fun _ => HX.out _ A.out.bl) ?_
  (clear hK KK; try simp only [Act.put, List.setIfInBounds_toArray, List.set_cons_zero, List.set_cons_succ])
  (repeat (refine wpSeqE_take (v := ?_) rfl (by rfl) (fun wq hSq => ?_) ?_; rotate_left; (focus ((try dsimp only at hSq); go_simp; try with_reducible rfl)); simp only [Act.put, List.setIfInBounds_toArray, List.set_cons_zero, List.set_cons_succ]))
  (refine wpSeqE_do rfl (by rfl) (fun KK hK => ?_); go_simp)
  refine hK.out _ _ (fun _ => HX.out _ (A.out.on (bl1 _ _)).bl) ?_
  (clear hK KK; try simp only [Act.put, List.setIfInBounds_toArray, List.set_cons_zero, List.set_cons_succ])
  (repeat (refine wpSeqE_take (v := ?_) rfl (by rfl) (fun wq hSq => ?_) ?_; rotate_left; (focus ((try dsimp only at hSq); go_simp; try with_reducible rfl)); simp only [Act.put, List.setIfInBounds_toArray, List.set_cons_zero, List.set_cons_succ]))
  (refine wpSeqE_do rfl (by rfl) (fun KK hK => ?_); go_simp)
  refine (c_program 2 ((A.out.sub (L' := [(fv f7 k7, [⟨0, 20, 0⟩]), (fv f6 k6, [⟨3, 0, 2⟩]), (fv (f 5).1 (f 5).2, turnO (B + 1) (R + 1) 1 R), (fv (f 1).1 (f 1).2, turnO B R 0 1), (fv f5 k5, telO B R [⟨1, 0, 0⟩]), (fv f3 k3, [⟨2, 13, 2⟩]), (fv f2 k2, [⟨0, 7, 1⟩]), (fv f1 k1, ldO B)]) (by simp)).parts rfl) rfl (Nat.le_of_ble_eq_true rfl) (HT.out _ (A.out.on (bl1 _ _)).bl) HGD.out.len HGD.out.wf HGD.out.ans HGD.out.code).mono ?_
  rintro e u99 ⟨p, n, c, rfl, hZ⟩
  have HBL := Lib.hid ((A.out.on (bl1 _ _)).bl.trans (hZ.out.2.2.mono (A.out.on (bl1 _ _)).bl.size))
  refine hK.out _ _ (fun _ => HX.out _ HBL.out) ?_
  (clear hK KK; try simp only [Act.put, List.setIfInBounds_toArray, List.set_cons_zero, List.set_cons_succ])
  (repeat (refine wpSeqE_take (v := ?_) rfl (by rfl) (fun wq hSq => ?_) ?_; rotate_left; (focus ((try dsimp only at hSq); go_simp; try with_reducible rfl)); simp only [Act.put, List.setIfInBounds_toArray, List.set_cons_zero, List.set_cons_succ]))
  refine wpSeqE_do rfl (by rfl) (fun KK hK => ?_)
  have hb := (HX2.out _ HBL.out).1
  refine wp_store_row 24 _ _ rfl (w.heap.size + 1) (pgA 2 p n c) rfl rfl _ _ hb pgInfo rfl (pg_one _ _ _ _) ?_
  refine hK.out _ _ (fun hn => absurd rfl hn) ?_
  (clear hK KK; try simp only [Act.put])
  refine wpSeqE_nil ?_
  go_wp2_with fail
  have hbl := (HX2.out _ HBL.out).2
  refine pg_back rfl (w.heap.size + 1) 2 p n c rfl (setRow_heap _ _ _ _ _ _ hb) rfl ⟨p, n, c, rfl, hZ.out.1, hZ.out.2.1.keep ⟨by simp, fun x hx => setRow_other _ _ _ _ (fun e => ?_)⟩, hbl.trans ⟨rfl, rfl, rfl, by simp, fun k hk => setRow_other _ _ k _ (by omega)⟩⟩
  obtain ⟨arr, e2⟩ := hZ.out.2.1.blk hx
  exact ne_ty e2 hb (by decide) e
set_option maxRecDepth 100000 in
set_option maxHeartbeats 400000 in
theorem g_popBack (h : RwAt w f B R) (hT : Shaped5 w) : Calls Tryd.prog 10 #[.agg (rwA f)] w fun e w' => PgC w 2 (obC B R) e w' := by
  have HX : Hid (∀ u, Below ((w.alloc (rwB f)).alloc pgZ).heap.size ((w.alloc (rwB f)).alloc pgZ) u → Sr w.heap.size f u) := fun u k => (pw_facts k).1
  have HX2 : Hid (∀ u, Below ((w.alloc (rwB f)).alloc pgZ).heap.size ((w.alloc (rwB f)).alloc pgZ) u → u.heap[w.heap.size + 1]? = some pgZ ∧ Below w.heap.size w u) := fun u k => (pw_facts k).2
  have HRW : Hid (∀ u, Below ((w.alloc (rwB f)).alloc pgZ).heap.size ((w.alloc (rwB f)).alloc pgZ) u → RwAt u f B R) := fun u k => h.on (pw_facts k).2.2
  have HT : Hid (∀ u, Below ((w.alloc (rwB f)).alloc pgZ).heap.size ((w.alloc (rwB f)).alloc pgZ) u → Shaped5 u) := fun u k => hT.on (pw_facts k).2.2
  have A : Hid (Acc ((w.alloc (rwB f)).alloc pgZ) ((w.alloc (rwB f)).alloc pgZ) _) := rw_acc (HRW.out _ (Below.refl _ _)) (Below.refl _ _)
  have HGD := Lib.hid (ob_good B R)
  clear h hT
  go_enter Tryd.func10, Tryd.ntmps10
  go_wp2_with fail
  replace A := Lib.hid (A.out.on ((Same.drew _).below _))
  refine wp_region_seqE (Sr w.heap.size f) ((0, true) :: (4, true) :: (5, true) :: (6, true) :: (7, true) :: (1, false) :: (2, false) :: (3, false) :: (8, false) :: (9, false) :: (10, false) :: (11, false) :: (12, false) :: (13, false) :: (14, false) :: []) follows (by kernel_rfl) (fun _ _ _ _ _ h => h) (HX.out _ A.out.bl) ?_
  (repeat (refine wpSeqE_take (v := ?_) rfl (by rfl) (fun wq hSq => ?_) ?_; rotate_left; (focus ((try dsimp only at hSq); go_simp; try with_reducible rfl)); simp only [Act.put, List.setIfInBounds_toArray, List.set_cons_zero, List.set_cons_succ]))
  (refine wpSeqE_do rfl (by rfl) (fun KK hK => ?_); go_simp)
  refine (c_load (HRW.out _ A.out.bl)).mono ?_
  rintro e u1 ⟨f1, k1, rfl, h⟩
  replace A := Lib.hid (A.out.more h.out)
  clear h
  refine hK.out _ _ (fun _ => HX.out _ A.out.bl) ?_
  (clear hK KK; try simp only [Act.put, List.setIfInBounds_toArray, List.set_cons_zero, List.set_cons_succ])
  (repeat (refine wpSeqE_take (v := ?_) rfl (by rfl) (fun wq hSq => ?_) ?_; rotate_left; (focus ((try dsimp only at hSq); go_simp; try with_reducible rfl)); simp only [Act.put, List.setIfInBounds_toArray, List.set_cons_zero, List.set_cons_succ]))
  (refine wpSeqE_do rfl (by rfl) (fun KK hK => ?_); go_simp)
  refine (c_get _ _).mono ?_
  rintro e u2 ⟨f2, k2, rfl, h⟩
  replace A := Lib.hid (A.out.more h.out)
  clear h
  refine hK.out _ _ (fun _ => HX.out _ A.out.bl) ?_
  (clear hK KK; try simp only [Act.put, List.setIfInBounds_toArray, List.set_cons_zero, List.set_cons_succ])
  (repeat (refine wpSeqE_take (v := ?_) rfl (by rfl) (fun wq hSq => ?_) ?_; rotate_left; (focus ((try dsimp only at hSq); go_simp; try with_reducible rfl)); simp only [Act.put, List.setIfInBounds_toArray, List.set_cons_zero, List.set_cons_succ]))
  (refine wpSeqE_do rfl (by rfl) (fun KK hK => ?_); go_simp)
  refine (c_to _ _ (wf_small (by decide)) _).mono ?_
  rintro e u3 ⟨f3, k3, rfl, h⟩
  replace A := Lib.hid (A.out.more h.out)
  clear h
  refine hK.out _ _ (fun _ => HX.out _ A.out.bl) ?_
  (clear hK KK; try simp only [Act.put, List.setIfInBounds_toArray, List.set_cons_zero, List.set_cons_succ])
  (repeat (refine wpSeqE_take (v := ?_) rfl (by rfl) (fun wq hSq => ?_) ?_; rotate_left; (focus ((try dsimp only at hSq); go_simp; try with_reducible rfl)); simp only [Act.put, List.setIfInBounds_toArray, List.set_cons_zero, List.set_cons_succ]))
  (refine wpSeqE_do rfl (by rfl) (fun KK hK => ?_); go_simp)
  refine (c_get _ _).mono ?_
  rintro e u4 ⟨f4, k4, rfl, h⟩
  replace A := Lib.hid (A.out.more h.out)
  clear h
  refine hK.out _ _ (fun _ => HX.out _ A.out.bl) ?_
  (clear hK KK; try simp only [Act.put, List.setIfInBounds_toArray, List.set_cons_zero, List.set_cons_succ])
  (repeat (refine wpSeqE_take (v := ?_) rfl (by rfl) (fun wq hSq => ?_) ?_; rotate_left; (focus ((try dsimp only at hSq); go_simp; try with_reducible rfl)); simp only [Act.put, List.setIfInBounds_toArray, List.set_cons_zero, List.set_cons_succ]))
  (refine wpSeqE_do rfl (by rfl) (fun KK hK => ?_); go_simp)
  refine (c_tell (HRW.out _ A.out.bl) (A.out.it (fv f4 k4, [⟨0, 7, 1⟩]) (by simp))).mono ?_
  rintro e u5 ⟨f5, k5, rfl, h⟩
  replace A := Lib.hid (A.out.more h.out)
  clear h
  refine hK.out _ _ (fun _ => HX.out _ A.out.bl) ?_
  (clear hK KK; try simp only [Act.put, List.setIfInBounds_toArray, List.set_cons_zero, List.set_cons_succ])
  (repeat (refine wpSeqE_take (v := ?_) rfl (by rfl) (fun wq hSq => ?_) ?_; rotate_left; (focus ((try dsimp only at hSq); go_simp; try with_reducible rfl)); simp only [Act.put, List.setIfInBounds_toArray, List.set_cons_zero, List.set_cons_succ]))
  (refine wpSeqE_do rfl (by rfl) (fun KK hK => ?_); go_simp)
  refine (c_mark _ (wf_small (by decide)) _).mono ?_
  rintro e u6 ⟨f6, k6, rfl, h⟩
  replace A := Lib.hid (A.out.more h.out)
  clear h
  refine hK.out _ _ (fun _ => HX.out _ A.out.bl) ?_
  (clear hK KK; try simp only [Act.put, List.setIfInBounds_toArray, List.set_cons_zero, List.set_cons_succ])
  (repeat (refine wpSeqE_take (v := ?_) rfl (by rfl) (fun wq hSq => ?_) ?_; rotate_left; (focus ((try dsimp only at hSq); go_simp; try with_reducible rfl)); simp only [Act.put, List.setIfInBounds_toArray, List.set_cons_zero, List.set_cons_succ]))
  (refine wpSeqE_do rfl (by rfl) (fun KK hK => ?_); go_simp)
  refine (c_halt _).mono ?_
  rintro e u7 ⟨f7, k7, rfl, h⟩
  replace A := Lib.hid (A.out.more h.out)
  clear h
  refine hK.out _ _ (fun _ => HX.out _ A.out.bl) ?_
  (clear hK KK; try simp only [Act.put, List.setIfInBounds_toArray, List.set_cons_zero, List.set_cons_succ])
  (repeat (refine wpSeqE_take (v := ?_) rfl (by rfl) (fun wq hSq => ?_) ?_; rotate_left; (focus ((try dsimp only at hSq); go_simp; try with_reducible rfl)); simp only [Act.put, List.setIfInBounds_toArray, List.set_cons_zero, List.set_cons_succ]))
  (refine wpSeqE_do rfl (by rfl) (fun KK hK => ?_); go_simp)
  refine hK.out _ _ (fun _ => HX.out _ (A.out.on (bl1 _ _)).bl) ?_
  (clear hK KK; try simp only [Act.put, List.setIfInBounds_toArray, List.set_cons_zero, List.set_cons_succ])
  (repeat (refine wpSeqE_take (v := ?_) rfl (by rfl) (fun wq hSq => ?_) ?_; rotate_left; (focus ((try dsimp only at hSq); go_simp; try with_reducible rfl)); simp only [Act.put, List.setIfInBounds_toArray, List.set_cons_zero, List.set_cons_succ]))
  (refine wpSeqE_do rfl (by rfl) (fun KK hK => ?_); go_simp)
  refine (c_program 2 ((A.out.sub (L' := [(fv f7 k7, [⟨0, 20, 0⟩]), (fv f6 k6, [⟨3, 0, 2⟩]), (fv f5 k5, telO B R [⟨0, 7, 1⟩]), (fv (f 5).1 (f 5).2, turnO (B + 1) (R + 1) 1 R), (fv f3 k3, [⟨2, 13, 2⟩]), (fv f2 k2, [⟨0, 7, 1⟩]), (fv f1 k1, ldO B)]) (by simp)).parts rfl) rfl (Nat.le_of_ble_eq_true rfl) (HT.out _ (A.out.on (bl1 _ _)).bl) HGD.out.len HGD.out.wf HGD.out.ans HGD.out.code).mono ?_
  rintro e u99 ⟨p, n, c, rfl, hZ⟩
  have HBL := Lib.hid ((A.out.on (bl1 _ _)).bl.trans (hZ.out.2.2.mono (A.out.on (bl1 _ _)).bl.size))
  refine hK.out _ _ (fun _ => HX.out _ HBL.out) ?_
  (clear hK KK; try simp only [Act.put, List.setIfInBounds_toArray, List.set_cons_zero, List.set_cons_succ])
  (repeat (refine wpSeqE_take (v := ?_) rfl (by rfl) (fun wq hSq => ?_) ?_; rotate_left; (focus ((try dsimp only at hSq); go_simp; try with_reducible rfl)); simp only [Act.put, List.setIfInBounds_toArray, List.set_cons_zero, List.set_cons_succ]))
  refine wpSeqE_do rfl (by rfl) (fun KK hK => ?_)
  have hb := (HX2.out _ HBL.out).1
  refine wp_store_row 24 _ _ rfl (w.heap.size + 1) (pgA 2 p n c) rfl rfl _ _ hb pgInfo rfl (pg_one _ _ _ _) ?_
  refine hK.out _ _ (fun hn => absurd rfl hn) ?_
  (clear hK KK; try simp only [Act.put])
  refine wpSeqE_nil ?_
  go_wp2_with fail
  have hbl := (HX2.out _ HBL.out).2
  refine pg_back rfl (w.heap.size + 1) 2 p n c rfl (setRow_heap _ _ _ _ _ _ hb) rfl ⟨p, n, c, rfl, hZ.out.1, hZ.out.2.1.keep ⟨by simp, fun x hx => setRow_other _ _ _ _ (fun e => ?_)⟩, hbl.trans ⟨rfl, rfl, rfl, by simp, fun k hk => setRow_other _ _ k _ (by omega)⟩⟩
  obtain ⟨arr, e2⟩ := hZ.out.2.1.blk hx
  exact ne_ty e2 hb (by decide) e
set_option maxRecDepth 100000 in
set_option maxHeartbeats 400000 in
theorem g_len (h : RwAt w f B R) (hT : Shaped5 w) : Calls Tryd.prog 12 #[.agg (rwA f)] w fun e w' => PgC w 1 (lenC B) e w' := by
  have HX : Hid (∀ u, Below ((w.alloc (rwB f)).alloc pgZ).heap.size ((w.alloc (rwB f)).alloc pgZ) u → Sr w.heap.size f u) := fun u k => (pw_facts k).1
  have HX2 : Hid (∀ u, Below ((w.alloc (rwB f)).alloc pgZ).heap.size ((w.alloc (rwB f)).alloc pgZ) u → u.heap[w.heap.size + 1]? = some pgZ ∧ Below w.heap.size w u) := fun u k => (pw_facts k).2
  have HRW : Hid (∀ u, Below ((w.alloc (rwB f)).alloc pgZ).heap.size ((w.alloc (rwB f)).alloc pgZ) u → RwAt u f B R) := fun u k => h.on (pw_facts k).2.2
  have HT : Hid (∀ u, Below ((w.alloc (rwB f)).alloc pgZ).heap.size ((w.alloc (rwB f)).alloc pgZ) u → Shaped5 u) := fun u k => hT.on (pw_facts k).2.2
  have A : Hid (Acc ((w.alloc (rwB f)).alloc pgZ) ((w.alloc (rwB f)).alloc pgZ) _) := rw_acc (HRW.out _ (Below.refl _ _)) (Below.refl _ _)
  have HGD := Lib.hid (len_good B)
  clear h hT
  go_enter Tryd.func12, Tryd.ntmps12
  go_wp2_with fail
  replace A := Lib.hid (A.out.on ((Same.drew _).below _))
  refine wp_region_seqE (Sr w.heap.size f) ((0, true) :: (1, true) :: (2, true) :: (3, false) :: (4, false) :: (5, false) :: (6, false) :: []) follows (by kernel_rfl) (fun _ _ _ _ _ h => h) (HX.out _ A.out.bl) ?_
  (repeat (refine wpSeqE_take (v := ?_) rfl (by rfl) (fun wq hSq => ?_) ?_; rotate_left; (focus ((try dsimp only at hSq); go_simp; try with_reducible rfl)); simp only [Act.put, List.setIfInBounds_toArray, List.set_cons_zero, List.set_cons_succ]))
  (refine wpSeqE_do rfl (by rfl) (fun KK hK => ?_); go_simp)
  refine (c_tellMany _).mono ?_
  rintro e u1 ⟨f1, k1, rfl, h⟩
  replace A := Lib.hid (A.out.more h.out)
  clear h
  refine hK.out _ _ (fun _ => HX.out _ A.out.bl) ?_
  (clear hK KK; try simp only [Act.put, List.setIfInBounds_toArray, List.set_cons_zero, List.set_cons_succ])
  (repeat (refine wpSeqE_take (v := ?_) rfl (by rfl) (fun wq hSq => ?_) ?_; rotate_left; (focus ((try dsimp only at hSq); go_simp; try with_reducible rfl)); simp only [Act.put, List.setIfInBounds_toArray, List.set_cons_zero, List.set_cons_succ]))
  (refine wpSeqE_do rfl (by rfl) (fun KK hK => ?_); go_simp)
  refine hK.out _ _ (fun _ => HX.out _ (A.out.on (bl1 _ _)).bl) ?_
  (clear hK KK; try simp only [Act.put, List.setIfInBounds_toArray, List.set_cons_zero, List.set_cons_succ])
  (repeat (refine wpSeqE_take (v := ?_) rfl (by rfl) (fun wq hSq => ?_) ?_; rotate_left; (focus ((try dsimp only at hSq); go_simp; try with_reducible rfl)); simp only [Act.put, List.setIfInBounds_toArray, List.set_cons_zero, List.set_cons_succ]))
  (refine wpSeqE_do rfl (by rfl) (fun KK hK => ?_); go_simp)
  refine (c_program 1 ((A.out.sub (L' := [(fv f1 k1, manyO), (fv (f 3).1 (f 3).2, loadO (B + 1) 1)]) (by simp)).parts rfl) rfl (Nat.le_of_ble_eq_true rfl) (HT.out _ (A.out.on (bl1 _ _)).bl) HGD.out.len HGD.out.wf HGD.out.ans HGD.out.code).mono ?_
  rintro e u99 ⟨p, n, c, rfl, hZ⟩
  have HBL := Lib.hid ((A.out.on (bl1 _ _)).bl.trans (hZ.out.2.2.mono (A.out.on (bl1 _ _)).bl.size))
  refine hK.out _ _ (fun _ => HX.out _ HBL.out) ?_
  (clear hK KK; try simp only [Act.put, List.setIfInBounds_toArray, List.set_cons_zero, List.set_cons_succ])
  (repeat (refine wpSeqE_take (v := ?_) rfl (by rfl) (fun wq hSq => ?_) ?_; rotate_left; (focus ((try dsimp only at hSq); go_simp; try with_reducible rfl)); simp only [Act.put, List.setIfInBounds_toArray, List.set_cons_zero, List.set_cons_succ]))
  refine wpSeqE_do rfl (by rfl) (fun KK hK => ?_)
  have hb := (HX2.out _ HBL.out).1
  refine wp_store_row 24 _ _ rfl (w.heap.size + 1) (pgA 1 p n c) rfl rfl _ _ hb pgInfo rfl (pg_one _ _ _ _) ?_
  refine hK.out _ _ (fun hn => absurd rfl hn) ?_
  (clear hK KK; try simp only [Act.put])
  refine wpSeqE_nil ?_
  go_wp2_with fail
  have hbl := (HX2.out _ HBL.out).2
  refine pg_back rfl (w.heap.size + 1) 1 p n c rfl (setRow_heap _ _ _ _ _ _ hb) rfl ⟨p, n, c, rfl, hZ.out.1, hZ.out.2.1.keep ⟨by simp, fun x hx => setRow_other _ _ _ _ (fun e => ?_)⟩, hbl.trans ⟨rfl, rfl, rfl, by simp, fun k hk => setRow_other _ _ k _ (by omega)⟩⟩
  obtain ⟨arr, e2⟩ := hZ.out.2.1.blk hx
  exact ne_ty e2 hb (by decide) e
set_option maxRecDepth 100000 in
set_option maxHeartbeats 400000 in
theorem g_all (h : RwAt w f B R) (hT : Shaped5 w) : Calls Tryd.prog 13 #[.agg (rwA f)] w fun e w' => PgC w 1 (allC B R) e w' := by
  have HX : Hid (∀ u, Below ((w.alloc (rwB f)).alloc pgZ).heap.size ((w.alloc (rwB f)).alloc pgZ) u → Sr w.heap.size f u) := fun u k => (pw_facts k).1
  have HX2 : Hid (∀ u, Below ((w.alloc (rwB f)).alloc pgZ).heap.size ((w.alloc (rwB f)).alloc pgZ) u → u.heap[w.heap.size + 1]? = some pgZ ∧ Below w.heap.size w u) := fun u k => (pw_facts k).2
  have HRW : Hid (∀ u, Below ((w.alloc (rwB f)).alloc pgZ).heap.size ((w.alloc (rwB f)).alloc pgZ) u → RwAt u f B R) := fun u k => h.on (pw_facts k).2.2
  have HT : Hid (∀ u, Below ((w.alloc (rwB f)).alloc pgZ).heap.size ((w.alloc (rwB f)).alloc pgZ) u → Shaped5 u) := fun u k => hT.on (pw_facts k).2.2
  have A : Hid (Acc ((w.alloc (rwB f)).alloc pgZ) ((w.alloc (rwB f)).alloc pgZ) _) := rw_acc (HRW.out _ (Below.refl _ _)) (Below.refl _ _)
  have HGD := Lib.hid (all_good B R)
  clear h hT
  go_enter Tryd.func13, Tryd.ntmps13
  go_wp2_with fail
  replace A := Lib.hid (A.out.on ((Same.drew _).below _))
  refine wp_region_seqE (Sr w.heap.size f) ((0, true) :: (7, true) :: (1, false) :: (2, false) :: (3, false) :: (4, false) :: (5, false) :: (6, false) :: (8, false) :: (9, false) :: (10, false) :: (11, false) :: (12, false) :: (13, false) :: (14, false) :: (15, false) :: (16, false) :: (17, false) :: (18, false) :: (19, false) :: []) follows (by kernel_rfl) (fun _ _ _ _ _ h => h) (HX.out _ A.out.bl) ?_
  (repeat (refine wpSeqE_take (v := ?_) rfl (by rfl) (fun wq hSq => ?_) ?_; rotate_left; (focus ((try dsimp only at hSq); go_simp; try with_reducible rfl)); simp only [Act.put, List.setIfInBounds_toArray, List.set_cons_zero, List.set_cons_succ]))
  (refine wpSeqE_do rfl (by rfl) (fun KK hK => ?_); go_simp)
  refine (c_load (HRW.out _ A.out.bl)).mono ?_
  rintro e u1 ⟨f1, k1, rfl, h⟩
  replace A := Lib.hid (A.out.more h.out)
  clear h
  refine hK.out _ _ (fun _ => HX.out _ A.out.bl) ?_
  (clear hK KK; try simp only [Act.put, List.setIfInBounds_toArray, List.set_cons_zero, List.set_cons_succ])
  (repeat (refine wpSeqE_take (v := ?_) rfl (by rfl) (fun wq hSq => ?_) ?_; rotate_left; (focus ((try dsimp only at hSq); go_simp; try with_reducible rfl)); simp only [Act.put, List.setIfInBounds_toArray, List.set_cons_zero, List.set_cons_succ]))
  (refine wpSeqE_do rfl (by rfl) (fun KK hK => ?_); go_simp)
  refine (c_mark _ (wf_small (by decide)) _).mono ?_
  rintro e u2 ⟨f2, k2, rfl, h⟩
  replace A := Lib.hid (A.out.more h.out)
  clear h
  refine hK.out _ _ (fun _ => HX.out _ A.out.bl) ?_
  (clear hK KK; try simp only [Act.put, List.setIfInBounds_toArray, List.set_cons_zero, List.set_cons_succ])
  (repeat (refine wpSeqE_take (v := ?_) rfl (by rfl) (fun wq hSq => ?_) ?_; rotate_left; (focus ((try dsimp only at hSq); go_simp; try with_reducible rfl)); simp only [Act.put, List.setIfInBounds_toArray, List.set_cons_zero, List.set_cons_succ]))
  (refine wpSeqE_do rfl (by rfl) (fun KK hK => ?_); go_simp)
  refine (c_get _ _).mono ?_
  rintro e u3 ⟨f3, k3, rfl, h⟩
  replace A := Lib.hid (A.out.more h.out)
  clear h
  refine hK.out _ _ (fun _ => HX.out _ A.out.bl) ?_
  (clear hK KK; try simp only [Act.put, List.setIfInBounds_toArray, List.set_cons_zero, List.set_cons_succ])
  (repeat (refine wpSeqE_take (v := ?_) rfl (by rfl) (fun wq hSq => ?_) ?_; rotate_left; (focus ((try dsimp only at hSq); go_simp; try with_reducible rfl)); simp only [Act.put, List.setIfInBounds_toArray, List.set_cons_zero, List.set_cons_succ]))
  (refine wpSeqE_do rfl (by rfl) (fun KK hK => ?_); go_simp)
  refine (c_get _ _).mono ?_
  rintro e u4 ⟨f4, k4, rfl, h⟩
  replace A := Lib.hid (A.out.more h.out)
  clear h
  refine hK.out _ _ (fun _ => HX.out _ A.out.bl) ?_
  (clear hK KK; try simp only [Act.put, List.setIfInBounds_toArray, List.set_cons_zero, List.set_cons_succ])
  (repeat (refine wpSeqE_take (v := ?_) rfl (by rfl) (fun wq hSq => ?_) ?_; rotate_left; (focus ((try dsimp only at hSq); go_simp; try with_reducible rfl)); simp only [Act.put, List.setIfInBounds_toArray, List.set_cons_zero, List.set_cons_succ]))
  (refine wpSeqE_do rfl (by rfl) (fun KK hK => ?_); go_simp)
  refine (c_two _ _).mono ?_
  rintro e u5 ⟨f5, k5, rfl, h⟩
  replace A := Lib.hid (A.out.more h.out)
  clear h
  refine hK.out _ _ (fun _ => HX.out _ A.out.bl) ?_
  (clear hK KK; try simp only [Act.put, List.setIfInBounds_toArray, List.set_cons_zero, List.set_cons_succ])
  (repeat (refine wpSeqE_take (v := ?_) rfl (by rfl) (fun wq hSq => ?_) ?_; rotate_left; (focus ((try dsimp only at hSq); go_simp; try with_reducible rfl)); simp only [Act.put, List.setIfInBounds_toArray, List.set_cons_zero, List.set_cons_succ]))
  (refine wpSeqE_do rfl (by rfl) (fun KK hK => ?_); go_simp)
  refine (c_to _ _ (wf_small (by decide)) _).mono ?_
  rintro e u6 ⟨f6, k6, rfl, h⟩
  replace A := Lib.hid (A.out.more h.out)
  clear h
  refine hK.out _ _ (fun _ => HX.out _ A.out.bl) ?_
  (clear hK KK; try simp only [Act.put, List.setIfInBounds_toArray, List.set_cons_zero, List.set_cons_succ])
  (repeat (refine wpSeqE_take (v := ?_) rfl (by rfl) (fun wq hSq => ?_) ?_; rotate_left; (focus ((try dsimp only at hSq); go_simp; try with_reducible rfl)); simp only [Act.put, List.setIfInBounds_toArray, List.set_cons_zero, List.set_cons_succ]))
  (refine wpSeqE_do rfl (by rfl) (fun KK hK => ?_); go_simp)
  refine (c_get _ _).mono ?_
  rintro e u7 ⟨f7, k7, rfl, h⟩
  replace A := Lib.hid (A.out.more h.out)
  clear h
  refine hK.out _ _ (fun _ => HX.out _ A.out.bl) ?_
  (clear hK KK; try simp only [Act.put, List.setIfInBounds_toArray, List.set_cons_zero, List.set_cons_succ])
  (repeat (refine wpSeqE_take (v := ?_) rfl (by rfl) (fun wq hSq => ?_) ?_; rotate_left; (focus ((try dsimp only at hSq); go_simp; try with_reducible rfl)); simp only [Act.put, List.setIfInBounds_toArray, List.set_cons_zero, List.set_cons_succ]))
  (refine wpSeqE_do rfl (by rfl) (fun KK hK => ?_); go_simp)
  refine (c_tell (HRW.out _ A.out.bl) (A.out.it (fv f7 k7, [⟨0, 7, 2⟩]) (by simp))).mono ?_
  rintro e u8 ⟨f8, k8, rfl, h⟩
  replace A := Lib.hid (A.out.more h.out)
  clear h
  refine hK.out _ _ (fun _ => HX.out _ A.out.bl) ?_
  (clear hK KK; try simp only [Act.put, List.setIfInBounds_toArray, List.set_cons_zero, List.set_cons_succ])
  (repeat (refine wpSeqE_take (v := ?_) rfl (by rfl) (fun wq hSq => ?_) ?_; rotate_left; (focus ((try dsimp only at hSq); go_simp; try with_reducible rfl)); simp only [Act.put, List.setIfInBounds_toArray, List.set_cons_zero, List.set_cons_succ]))
  (refine wpSeqE_do rfl (by rfl) (fun KK hK => ?_); go_simp)
  refine (c_get _ _).mono ?_
  rintro e u9 ⟨f9, k9, rfl, h⟩
  replace A := Lib.hid (A.out.more h.out)
  clear h
  refine hK.out _ _ (fun _ => HX.out _ A.out.bl) ?_
  (clear hK KK; try simp only [Act.put, List.setIfInBounds_toArray, List.set_cons_zero, List.set_cons_succ])
  (repeat (refine wpSeqE_take (v := ?_) rfl (by rfl) (fun wq hSq => ?_) ?_; rotate_left; (focus ((try dsimp only at hSq); go_simp; try with_reducible rfl)); simp only [Act.put, List.setIfInBounds_toArray, List.set_cons_zero, List.set_cons_succ]))
  (refine wpSeqE_do rfl (by rfl) (fun KK hK => ?_); go_simp)
  refine (c_push _ _).mono ?_
  rintro e u10 ⟨f10, k10, rfl, h⟩
  replace A := Lib.hid (A.out.more h.out)
  clear h
  refine hK.out _ _ (fun _ => HX.out _ A.out.bl) ?_
  (clear hK KK; try simp only [Act.put, List.setIfInBounds_toArray, List.set_cons_zero, List.set_cons_succ])
  (repeat (refine wpSeqE_take (v := ?_) rfl (by rfl) (fun wq hSq => ?_) ?_; rotate_left; (focus ((try dsimp only at hSq); go_simp; try with_reducible rfl)); simp only [Act.put, List.setIfInBounds_toArray, List.set_cons_zero, List.set_cons_succ]))
  (refine wpSeqE_do rfl (by rfl) (fun KK hK => ?_); go_simp)
  refine (c_two _ _).mono ?_
  rintro e u11 ⟨f11, k11, rfl, h⟩
  replace A := Lib.hid (A.out.more h.out)
  clear h
  refine hK.out _ _ (fun _ => HX.out _ A.out.bl) ?_
  (clear hK KK; try simp only [Act.put, List.setIfInBounds_toArray, List.set_cons_zero, List.set_cons_succ])
  (repeat (refine wpSeqE_take (v := ?_) rfl (by rfl) (fun wq hSq => ?_) ?_; rotate_left; (focus ((try dsimp only at hSq); go_simp; try with_reducible rfl)); simp only [Act.put, List.setIfInBounds_toArray, List.set_cons_zero, List.set_cons_succ]))
  (refine wpSeqE_do rfl (by rfl) (fun KK hK => ?_); go_simp)
  refine (c_set _ _).mono ?_
  rintro e u12 ⟨f12, k12, rfl, h⟩
  replace A := Lib.hid (A.out.more h.out)
  clear h
  refine hK.out _ _ (fun _ => HX.out _ A.out.bl) ?_
  (clear hK KK; try simp only [Act.put, List.setIfInBounds_toArray, List.set_cons_zero, List.set_cons_succ])
  (repeat (refine wpSeqE_take (v := ?_) rfl (by rfl) (fun wq hSq => ?_) ?_; rotate_left; (focus ((try dsimp only at hSq); go_simp; try with_reducible rfl)); simp only [Act.put, List.setIfInBounds_toArray, List.set_cons_zero, List.set_cons_succ]))
  (refine wpSeqE_do rfl (by rfl) (fun KK hK => ?_); go_simp)
  refine (c_to _ _ (wf_small (by decide)) _).mono ?_
  rintro e u13 ⟨f13, k13, rfl, h⟩
  replace A := Lib.hid (A.out.more h.out)
  clear h
  refine hK.out _ _ (fun _ => HX.out _ A.out.bl) ?_
  (clear hK KK; try simp only [Act.put, List.setIfInBounds_toArray, List.set_cons_zero, List.set_cons_succ])
  (repeat (refine wpSeqE_take (v := ?_) rfl (by rfl) (fun wq hSq => ?_) ?_; rotate_left; (focus ((try dsimp only at hSq); go_simp; try with_reducible rfl)); simp only [Act.put, List.setIfInBounds_toArray, List.set_cons_zero, List.set_cons_succ]))
  (refine wpSeqE_do rfl (by rfl) (fun KK hK => ?_); go_simp)
  refine (c_mark _ (wf_small (by decide)) _).mono ?_
  rintro e u14 ⟨f14, k14, rfl, h⟩
  replace A := Lib.hid (A.out.more h.out)
  clear h
  refine hK.out _ _ (fun _ => HX.out _ A.out.bl) ?_
  (clear hK KK; try simp only [Act.put, List.setIfInBounds_toArray, List.set_cons_zero, List.set_cons_succ])
  (repeat (refine wpSeqE_take (v := ?_) rfl (by rfl) (fun wq hSq => ?_) ?_; rotate_left; (focus ((try dsimp only at hSq); go_simp; try with_reducible rfl)); simp only [Act.put, List.setIfInBounds_toArray, List.set_cons_zero, List.set_cons_succ]))
  (refine wpSeqE_do rfl (by rfl) (fun KK hK => ?_); go_simp)
  refine (c_halt _).mono ?_
  rintro e u15 ⟨f15, k15, rfl, h⟩
  replace A := Lib.hid (A.out.more h.out)
  clear h
  refine hK.out _ _ (fun _ => HX.out _ A.out.bl) ?_
  (clear hK KK; try simp only [Act.put, List.setIfInBounds_toArray, List.set_cons_zero, List.set_cons_succ])
  (repeat (refine wpSeqE_take (v := ?_) rfl (by rfl) (fun wq hSq => ?_) ?_; rotate_left; (focus ((try dsimp only at hSq); go_simp; try with_reducible rfl)); simp only [Act.put, List.setIfInBounds_toArray, List.set_cons_zero, List.set_cons_succ]))
  (refine wpSeqE_do rfl (by rfl) (fun KK hK => ?_); go_simp)
  refine hK.out _ _ (fun _ => HX.out _ (A.out.on (bl1 _ _)).bl) ?_
  (clear hK KK; try simp only [Act.put, List.setIfInBounds_toArray, List.set_cons_zero, List.set_cons_succ])
  (repeat (refine wpSeqE_take (v := ?_) rfl (by rfl) (fun wq hSq => ?_) ?_; rotate_left; (focus ((try dsimp only at hSq); go_simp; try with_reducible rfl)); simp only [Act.put, List.setIfInBounds_toArray, List.set_cons_zero, List.set_cons_succ]))
  (refine wpSeqE_do rfl (by rfl) (fun KK hK => ?_); go_simp)
  refine (c_program 1 ((A.out.sub (L' := [(fv f15 k15, [⟨0, 20, 0⟩]), (fv f14 k14, [⟨3, 0, 2⟩]), (fv f13 k13, [⟨2, 11, 1⟩]), (fv f12 k12, [⟨0, 8, 2⟩]), (fv f11 k11, [⟨0, 10, 1⟩]), (fv f10 k10, [⟨1, 0, 1⟩]), (fv f9 k9, [⟨0, 7, 2⟩]), (fv f8 k8, telO B R [⟨0, 7, 2⟩]), (fv f6 k6, [⟨2, 13, 2⟩]), (fv f5 k5, [⟨0, 10, 8⟩]), (fv f4 k4, [⟨0, 7, 1⟩]), (fv f3 k3, [⟨0, 7, 2⟩]), (fv f2 k2, [⟨3, 0, 1⟩]), (fv f1 k1, ldO B)]) (by simp)).parts rfl) rfl (Nat.le_of_ble_eq_true rfl) (HT.out _ (A.out.on (bl1 _ _)).bl) HGD.out.len HGD.out.wf HGD.out.ans HGD.out.code).mono ?_
  rintro e u99 ⟨p, n, c, rfl, hZ⟩
  have HBL := Lib.hid ((A.out.on (bl1 _ _)).bl.trans (hZ.out.2.2.mono (A.out.on (bl1 _ _)).bl.size))
  refine hK.out _ _ (fun _ => HX.out _ HBL.out) ?_
  (clear hK KK; try simp only [Act.put, List.setIfInBounds_toArray, List.set_cons_zero, List.set_cons_succ])
  (repeat (refine wpSeqE_take (v := ?_) rfl (by rfl) (fun wq hSq => ?_) ?_; rotate_left; (focus ((try dsimp only at hSq); go_simp; try with_reducible rfl)); simp only [Act.put, List.setIfInBounds_toArray, List.set_cons_zero, List.set_cons_succ]))
  refine wpSeqE_do rfl (by rfl) (fun KK hK => ?_)
  have hb := (HX2.out _ HBL.out).1
  refine wp_store_row 24 _ _ rfl (w.heap.size + 1) (pgA 1 p n c) rfl rfl _ _ hb pgInfo rfl (pg_one _ _ _ _) ?_
  refine hK.out _ _ (fun hn => absurd rfl hn) ?_
  (clear hK KK; try simp only [Act.put])
  refine wpSeqE_nil ?_
  go_wp2_with fail
  have hbl := (HX2.out _ HBL.out).2
  refine pg_back rfl (w.heap.size + 1) 1 p n c rfl (setRow_heap _ _ _ _ _ _ hb) rfl ⟨p, n, c, rfl, hZ.out.1, hZ.out.2.1.keep ⟨by simp, fun x hx => setRow_other _ _ _ _ (fun e => ?_)⟩, hbl.trans ⟨rfl, rfl, rfl, by simp, fun k hk => setRow_other _ _ k _ (by omega)⟩⟩
  obtain ⟨arr, e2⟩ := hZ.out.2.1.blk hx
  exact ne_ty e2 hb (by decide) e
set_option maxRecDepth 100000 in
set_option maxHeartbeats 400000 in
theorem g_at (h : RwAt w f B R) (hT : Shaped5 w) : Calls Tryd.prog 11 #[.agg (rwA f)] w fun e w' => PgC w 1 (atC B R) e w' := by
  have HX : Hid (∀ u, Below ((w.alloc (rwB f)).alloc pgZ).heap.size ((w.alloc (rwB f)).alloc pgZ) u → Sr w.heap.size f u) := fun u k => (pw_facts k).1
  have HX2 : Hid (∀ u, Below ((w.alloc (rwB f)).alloc pgZ).heap.size ((w.alloc (rwB f)).alloc pgZ) u → u.heap[w.heap.size + 1]? = some pgZ ∧ Below w.heap.size w u) := fun u k => (pw_facts k).2
  have HRW : Hid (∀ u, Below ((w.alloc (rwB f)).alloc pgZ).heap.size ((w.alloc (rwB f)).alloc pgZ) u → RwAt u f B R) := fun u k => h.on (pw_facts k).2.2
  have HT : Hid (∀ u, Below ((w.alloc (rwB f)).alloc pgZ).heap.size ((w.alloc (rwB f)).alloc pgZ) u → Shaped5 u) := fun u k => hT.on (pw_facts k).2.2
  have A : Hid (Acc ((w.alloc (rwB f)).alloc pgZ) ((w.alloc (rwB f)).alloc pgZ) _) := rw_acc (HRW.out _ (Below.refl _ _)) (Below.refl _ _)
  have HGD := Lib.hid (at_good B R)
  clear h hT
  go_enter Tryd.func11, Tryd.ntmps11
  go_upto_region 2 with (go_at_call 21; refine (c_do _ _ _).mono ?_; rintro e u0 ⟨f0, k0, rfl, h⟩; replace A := Lib.hid (A.out.more h.out); clear h)
  replace A := Lib.hid (A.out.on ((Same.drew _).below _))
  refine wp_region_seqE (Sr w.heap.size f) ((0, true) :: (2, true) :: (6, true) :: (7, true) :: (8, true) :: (11, true) :: (12, true) :: (1, false) :: (3, false) :: (4, false) :: (5, false) :: (9, false) :: (10, false) :: (13, false) :: (14, false) :: (15, false) :: (16, false) :: (17, false) :: (18, false) :: []) follows (by kernel_rfl) (fun _ _ _ _ _ h => h) (HX.out _ A.out.bl) ?_
  (repeat (refine wpSeqE_take (v := ?_) rfl (by rfl) (fun wq hSq => ?_) ?_; rotate_left; (focus ((try dsimp only at hSq); go_simp; try with_reducible rfl)); simp only [Act.put, List.setIfInBounds_toArray, List.set_cons_zero, List.set_cons_succ]))
  (refine wpSeqE_do rfl (by rfl) (fun KK hK => ?_); go_simp)
  refine (c_load (HRW.out _ A.out.bl)).mono ?_
  rintro e u1 ⟨f1, k1, rfl, h⟩
  replace A := Lib.hid (A.out.more h.out)
  clear h
  refine hK.out _ _ (fun _ => HX.out _ A.out.bl) ?_
  (clear hK KK; try simp only [Act.put, List.setIfInBounds_toArray, List.set_cons_zero, List.set_cons_succ])
  (repeat (refine wpSeqE_take (v := ?_) rfl (by rfl) (fun wq hSq => ?_) ?_; rotate_left; (focus ((try dsimp only at hSq); go_simp; try with_reducible rfl)); simp only [Act.put, List.setIfInBounds_toArray, List.set_cons_zero, List.set_cons_succ]))
  (refine wpSeqE_do rfl (by rfl) (fun KK hK => ?_); go_simp)
  refine (c_get _ _).mono ?_
  rintro e u2 ⟨f2, k2, rfl, h⟩
  replace A := Lib.hid (A.out.more h.out)
  clear h
  refine hK.out _ _ (fun _ => HX.out _ A.out.bl) ?_
  (clear hK KK; try simp only [Act.put, List.setIfInBounds_toArray, List.set_cons_zero, List.set_cons_succ])
  (repeat (refine wpSeqE_take (v := ?_) rfl (by rfl) (fun wq hSq => ?_) ?_; rotate_left; (focus ((try dsimp only at hSq); go_simp; try with_reducible rfl)); simp only [Act.put, List.setIfInBounds_toArray, List.set_cons_zero, List.set_cons_succ]))
  (refine wpSeqE_do rfl (by rfl) (fun KK hK => ?_); go_simp)
  refine (c_two _ _).mono ?_
  rintro e u3 ⟨f3, k3, rfl, h⟩
  replace A := Lib.hid (A.out.more h.out)
  clear h
  refine hK.out _ _ (fun _ => HX.out _ A.out.bl) ?_
  (clear hK KK; try simp only [Act.put, List.setIfInBounds_toArray, List.set_cons_zero, List.set_cons_succ])
  (repeat (refine wpSeqE_take (v := ?_) rfl (by rfl) (fun wq hSq => ?_) ?_; rotate_left; (focus ((try dsimp only at hSq); go_simp; try with_reducible rfl)); simp only [Act.put, List.setIfInBounds_toArray, List.set_cons_zero, List.set_cons_succ]))
  (refine wpSeqE_do rfl (by rfl) (fun KK hK => ?_); go_simp)
  refine (c_to _ _ (wf_small (by decide)) _).mono ?_
  rintro e u4 ⟨f4, k4, rfl, h⟩
  replace A := Lib.hid (A.out.more h.out)
  clear h
  refine hK.out _ _ (fun _ => HX.out _ A.out.bl) ?_
  (clear hK KK; try simp only [Act.put, List.setIfInBounds_toArray, List.set_cons_zero, List.set_cons_succ])
  (repeat (refine wpSeqE_take (v := ?_) rfl (by rfl) (fun wq hSq => ?_) ?_; rotate_left; (focus ((try dsimp only at hSq); go_simp; try with_reducible rfl)); simp only [Act.put, List.setIfInBounds_toArray, List.set_cons_zero, List.set_cons_succ]))
  (refine wpSeqE_do rfl (by rfl) (fun KK hK => ?_); go_simp)
  refine (c_one _ _).mono ?_
  rintro e u5 ⟨f5, k5, rfl, h⟩
  replace A := Lib.hid (A.out.more h.out)
  clear h
  refine hK.out _ _ (fun _ => HX.out _ A.out.bl) ?_
  (clear hK KK; try simp only [Act.put, List.setIfInBounds_toArray, List.set_cons_zero, List.set_cons_succ])
  (repeat (refine wpSeqE_take (v := ?_) rfl (by rfl) (fun wq hSq => ?_) ?_; rotate_left; (focus ((try dsimp only at hSq); go_simp; try with_reducible rfl)); simp only [Act.put, List.setIfInBounds_toArray, List.set_cons_zero, List.set_cons_succ]))
  (refine wpSeqE_do rfl (by rfl) (fun KK hK => ?_); go_simp)
  refine (c_to _ _ (wf_small (by decide)) _).mono ?_
  rintro e u6 ⟨f6, k6, rfl, h⟩
  replace A := Lib.hid (A.out.more h.out)
  clear h
  refine hK.out _ _ (fun _ => HX.out _ A.out.bl) ?_
  (clear hK KK; try simp only [Act.put, List.setIfInBounds_toArray, List.set_cons_zero, List.set_cons_succ])
  (repeat (refine wpSeqE_take (v := ?_) rfl (by rfl) (fun wq hSq => ?_) ?_; rotate_left; (focus ((try dsimp only at hSq); go_simp; try with_reducible rfl)); simp only [Act.put, List.setIfInBounds_toArray, List.set_cons_zero, List.set_cons_succ]))
  (refine wpSeqE_do rfl (by rfl) (fun KK hK => ?_); go_simp)
  refine (c_tell (HRW.out _ A.out.bl) (A.out.it (fv f0 k0, [⟨0, 6, 0⟩]) (by simp))).mono ?_
  rintro e u7 ⟨f7, k7, rfl, h⟩
  replace A := Lib.hid (A.out.more h.out)
  clear h
  refine hK.out _ _ (fun _ => HX.out _ A.out.bl) ?_
  (clear hK KK; try simp only [Act.put, List.setIfInBounds_toArray, List.set_cons_zero, List.set_cons_succ])
  (repeat (refine wpSeqE_take (v := ?_) rfl (by rfl) (fun wq hSq => ?_) ?_; rotate_left; (focus ((try dsimp only at hSq); go_simp; try with_reducible rfl)); simp only [Act.put, List.setIfInBounds_toArray, List.set_cons_zero, List.set_cons_succ]))
  (refine wpSeqE_do rfl (by rfl) (fun KK hK => ?_); go_simp)
  refine (c_mark _ (wf_small (by decide)) _).mono ?_
  rintro e u8 ⟨f8, k8, rfl, h⟩
  replace A := Lib.hid (A.out.more h.out)
  clear h
  refine hK.out _ _ (fun _ => HX.out _ A.out.bl) ?_
  (clear hK KK; try simp only [Act.put, List.setIfInBounds_toArray, List.set_cons_zero, List.set_cons_succ])
  (repeat (refine wpSeqE_take (v := ?_) rfl (by rfl) (fun wq hSq => ?_) ?_; rotate_left; (focus ((try dsimp only at hSq); go_simp; try with_reducible rfl)); simp only [Act.put, List.setIfInBounds_toArray, List.set_cons_zero, List.set_cons_succ]))
  (refine wpSeqE_do rfl (by rfl) (fun KK hK => ?_); go_simp)
  refine (c_halt _).mono ?_
  rintro e u9 ⟨f9, k9, rfl, h⟩
  replace A := Lib.hid (A.out.more h.out)
  clear h
  refine hK.out _ _ (fun _ => HX.out _ A.out.bl) ?_
  (clear hK KK; try simp only [Act.put, List.setIfInBounds_toArray, List.set_cons_zero, List.set_cons_succ])
  (repeat (refine wpSeqE_take (v := ?_) rfl (by rfl) (fun wq hSq => ?_) ?_; rotate_left; (focus ((try dsimp only at hSq); go_simp; try with_reducible rfl)); simp only [Act.put, List.setIfInBounds_toArray, List.set_cons_zero, List.set_cons_succ]))
  (refine wpSeqE_do rfl (by rfl) (fun KK hK => ?_); go_simp)
  refine hK.out _ _ (fun _ => HX.out _ (A.out.on (bl1 _ _)).bl) ?_
  (clear hK KK; try simp only [Act.put, List.setIfInBounds_toArray, List.set_cons_zero, List.set_cons_succ])
  (repeat (refine wpSeqE_take (v := ?_) rfl (by rfl) (fun wq hSq => ?_) ?_; rotate_left; (focus ((try dsimp only at hSq); go_simp; try with_reducible rfl)); simp only [Act.put, List.setIfInBounds_toArray, List.set_cons_zero, List.set_cons_succ]))
  (refine wpSeqE_do rfl (by rfl) (fun KK hK => ?_); go_simp)
  refine (c_program 1 ((A.out.sub (L' := [(fv f9 k9, [⟨0, 20, 0⟩]), (fv f8 k8, [⟨3, 0, 2⟩]), (fv f7 k7, telO B R [⟨0, 6, 0⟩]), (fv f6 k6, [⟨2, 12, 2⟩]), (fv f5 k5, [⟨0, 9, 6⟩]), (fv (f 7).1 (f 7).2, foldO R), (fv f0 k0, [⟨0, 6, 0⟩]), (fv f4 k4, [⟨2, 13, 2⟩]), (fv f3 k3, [⟨0, 10, 8⟩]), (fv f2 k2, [⟨0, 7, 1⟩]), (fv f0 k0, [⟨0, 6, 0⟩]), (fv f1 k1, ldO B)]) (by simp)).parts rfl) rfl (Nat.le_of_ble_eq_true rfl) (HT.out _ (A.out.on (bl1 _ _)).bl) HGD.out.len HGD.out.wf HGD.out.ans HGD.out.code).mono ?_
  rintro e u99 ⟨p, n, c, rfl, hZ⟩
  have HBL := Lib.hid ((A.out.on (bl1 _ _)).bl.trans (hZ.out.2.2.mono (A.out.on (bl1 _ _)).bl.size))
  refine hK.out _ _ (fun _ => HX.out _ HBL.out) ?_
  (clear hK KK; try simp only [Act.put, List.setIfInBounds_toArray, List.set_cons_zero, List.set_cons_succ])
  (repeat (refine wpSeqE_take (v := ?_) rfl (by rfl) (fun wq hSq => ?_) ?_; rotate_left; (focus ((try dsimp only at hSq); go_simp; try with_reducible rfl)); simp only [Act.put, List.setIfInBounds_toArray, List.set_cons_zero, List.set_cons_succ]))
  refine wpSeqE_do rfl (by rfl) (fun KK hK => ?_)
  have hb := (HX2.out _ HBL.out).1
  refine wp_store_row 24 _ _ rfl (w.heap.size + 1) (pgA 1 p n c) rfl rfl _ _ hb pgInfo rfl (pg_one _ _ _ _) ?_
  refine hK.out _ _ (fun hn => absurd rfl hn) ?_
  (clear hK KK; try simp only [Act.put])
  refine wpSeqE_nil ?_
  go_wp2_with fail
  have hbl := (HX2.out _ HBL.out).2
  refine pg_back rfl (w.heap.size + 1) 1 p n c rfl (setRow_heap _ _ _ _ _ _ hb) rfl ⟨p, n, c, rfl, hZ.out.1, hZ.out.2.1.keep ⟨by simp, fun x hx => setRow_other _ _ _ _ (fun e => ?_)⟩, hbl.trans ⟨rfl, rfl, rfl, by simp, fun k hk => setRow_other _ _ k _ (by omega)⟩⟩
  obtain ⟨arr, e2⟩ := hZ.out.2.1.blk hx
  exact ne_ty e2 hb (by decide) e
end
end Go.Proofs.YtaliehikdidiaaaDoor.Dq
