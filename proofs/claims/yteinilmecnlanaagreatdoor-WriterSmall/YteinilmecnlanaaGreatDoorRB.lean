import Derived.Test.YteinilmecnlanaaGreatDoorR7
namespace Go.Proofs.YteinilmecnlanaaGreatDoor
open Go.ChangeShapes Go.WideShapes Go.ChangeAt Go.RowKit Num
attribute [local go_sem] run_store_float

section
variable {W w : World} {br bl : Nat} {F0 K : List Nat} {m : Mac} {cs : List Ins}
theorem Rg.trade1 (h : Rg W F0 br bl K w m cs) (x : Nat) {k r : Nat} (hk : m.st.length = r + k) (hs : m.st.length ≤ 64) : Calls Tryz.prog 105 #[.pointer (some ⟨br, 0, none⟩), .int .i64 k, .slice (some ⟨w.heap.size, 0, none⟩) 1 1] (w.alloc (.cells #[.float .f64 x] 73)) fun e w' => e = .returned (.tuple #[]) ∧ Rg W F0 br bl K w' { m with st := x :: m.st.drop k } cs :=
  rtrade_some (h.alloc _) (l := [x]) hk rfl (by omega) (by omega) hs (fun j v hv => by
    match j, hv with
    | 0, hv => rw [cell_of_row _ _ _ _ _ _ (heap_alloc_new w _)]; simpa [fls] using hv
    | j + 1, hv => simp [fls] at hv)
set_option maxRecDepth 100000 in
set_option maxHeartbeats 2000000 in
theorem rread_own (h : Rg W F0 br bl K w m cs) {y : Nat} {s : List Nat} (hs : m.st = y :: s) (hs2 : m.st.length ≤ 64) (ho : y < 18446744073709551616) (hl : m.buf.length ≤ 32) (hl2 : m.reads.length ≤ 1024) (ha : addrB m = true) (hh : hasC m.buf (addrV m) = true) : Calls Tryz.prog 124 #[.pointer (some ⟨br, 0, none⟩)] w fun r w' => r = .returned (askV ⟨2, addrV m, getC m.buf (addrV m), false⟩) ∧ Rg W F0 br bl K w' (hasRead { m with st := s } (addrV m) (getC m.buf (addrV m))) cs := by
  obtain ⟨h0, hb⟩ := h.at0
  obtain ⟨F, h1, hX⟩ := h.leave (askO ask0)
  have HX := Lib.hid hX
  have HT := Lib.hid (h1.addr hs hs2)
  have HI := Lib.hid (fun w => refIndex_any y m.cells w ho)
  have hc : addrV m = idxV y m.cells := by unfold addrV; rw [hs]; rfl
  have ha' : idxE y m.cells = 0 := by unfold addrB at ha; rw [hs] at ha; unfold idxE; exact if_pos ha
  rw [← hc, ha'] at HI
  have hwv : wroteV m.buf (addrV m) = getC m.buf (addrV m) := by unfold wroteV; rw [hh]; rfl
  have HW : Hid (∀ n, Calls Tryz.prog 154 #[.pointer (some ⟨br, 0, none⟩), .int .i64 (addrV m)] ((w.alloc (askO ask0)).drewN n) fun e w' => e = .returned (.tuple #[.float .f64 (getC m.buf (addrV m)), .bool true]) ∧ Rg (w.alloc (askO ask0)) F br bl K w' m cs) := fun n => by
    have k1 := h1.same (Same.drewN _ n)
    refine (rwrote_any k1 (addrV m) hl).mono fun e u ⟨a1, a2⟩ => ⟨by rw [a1, hh, hwv], k1.on a2⟩
  have HTR : Hid (∀ u x, Rg (w.alloc (askO ask0)) F br bl K u m cs → Calls Tryz.prog 105 #[.pointer (some ⟨br, 0, none⟩), .int .i64 1, .slice (some ⟨u.heap.size, 0, none⟩) 1 1] (u.alloc (.cells #[.float .f64 x] 73)) fun e w' => e = .returned (.tuple #[]) ∧ Rg (w.alloc (askO ask0)) F br bl K w' { m with st := x :: s } cs) := fun u x hu => by
    have := hu.trade1 x (k := 1) (r := s.length) (by rw [hs]; simp) hs2
    rw [show m.st.drop 1 = s by rw [hs]; rfl] at this
    exact this
  have HRD : Hid (∀ u x, Rg (w.alloc (askO ask0)) F br bl K u { m with st := x :: s } cs → _) := fun u x hu => Rg.reads (m := { m with st := x :: s }) hu (addrV m) x hl2
  clear h h1 hX ha ha' ho hs hs2 hc hh hl hwv
  generalize getC m.buf (addrV m) = x at *
  generalize addrV m = c at *

  go_enter Tryz.func124, Tryz.ntmps124
  go_wp2
  go_quiet (first
    | (go_at_call 120; exact HT.out _)
    | (go_at_call 153; exact Calls.quiet_of_same (HI.out _)))
  go_wp2_with (first
    | (go_at_call 105; refine (HTR.out _ x G1.out).mono ?_; rintro e u2 ⟨rfl, q⟩; have G2 := Lib.hid q; clear q)
    | (go_at_call 154; refine (HW.out _).mono ?_; rintro e u1 ⟨rfl, q⟩; have G1 := Lib.hid q; clear q))
  obtain ⟨p, k, cr, e1, e2, e3, e4, e5⟩ := HRD.out u2 x G2.out
  have H5 := Lib.hid e5
  have hkl : k ≤ 1024 := by have e3' : m.reads.length = k := e3; omega
  have hwr : IntKind.i64.wrap (k : Int) = k := by rw [IntKind.wrap_i64]; omega
  have eb := (e5 u2 (Below.refl _ _)).1.2
  clear e3 e5 HRD hl2
  have FIN : Hid (∀ (u' : World) (v : Value), Hid (Rg (w.alloc (askO ask0)) F br bl K (u'.setCell ⟨br, 18, none⟩ v) { m with st := x :: s, reads := m.reads ++ [(c, x)] } cs) → u'.heap[w.heap.size]? = some (askO ask0) ∧ Hid ((u'.setCell ⟨br, 18, none⟩ v).heap[w.heap.size]? = some (askO ask0) ∧ ∀ u'', Turn [w.heap.size] [w.heap.size] (u'.setCell ⟨br, 18, none⟩ v) u'' → Rg W F0 br bl K u'' { m with st := x :: s, reads := m.reads ++ [(c, x)] } cs)) := fun u' v hq => by
    have z := HX.out _ _ hq.out
    refine ⟨?_, z⟩
    have z1 := z.1
    rwa [heap_setCell_other _ _ _ _ (by simp; omega)] at z1
  rcases e4 with ⟨rfl, rfl⟩ | ⟨g, o, rfl⟩
  · simp only [Int.cast_ofNat_Int] at hwr e2
    refine wp_region_seqE (fun u => u.cell? ⟨br, 18, none⟩ = some (.slice none 0 cr)) ((0, true) :: (1, true) :: (2, true) :: (3, true) :: (4, true) :: (5, true) :: (6, true) :: (7, true) :: (8, true) :: (9, true) :: (10, true) :: (11, true) :: (12, true) :: (13, true) :: (14, true) :: (15, true) :: (16, true) :: (17, true) :: (18, true) :: (19, false) :: (20, false) :: (21, true) :: (22, true) :: (23, false) :: []) (by kernel_rfl) (by kernel_rfl) (fun _ _ _ _ _ h => h) (by simpa using e1) ?_
    repeat (first
      | (refine wpSeqE_take (v := ?_) rfl (by rfl) (fun wq hSq => ?_) ?_; rotate_left; (focus ((try dsimp only at hSq); go_simp; try with_reducible rfl)); simp only [Act.put, List.setIfInBounds_toArray, List.set_cons_zero, List.set_cons_succ]))
    refine wpSeqE_do rfl (by rfl) (fun K hK => ?_)
    go_simp
    refine hK.out _ _ (fun _ => (H5.out _ (((Same.drew u2).below _).trans (below_alloc u2.drew _))).1.1) ?_
    clear hK K
    try simp only [Act.put, List.setIfInBounds_toArray, List.set_cons_zero, List.set_cons_succ]
    refine wpSeqE_do rfl (by rfl) (fun K hK => ?_)
    refine wp_append_ex _ _ _ _ rfl _ _ rfl rfl ((H5.out (u2.drew.alloc (.cells #[.int .i64 c, .float .f64 x] 75)) (((Same.drew u2).below _).trans (below_alloc u2.drew _))).2 u2.heap.size _ (cells2_of (heap_new (w := u2.drew) (g := u2.heap.size) rfl)).1 (cells2_of (heap_new (w := u2.drew) (g := u2.heap.size) rfl)).2.1) ?_
    rintro v w3 ⟨gq, nq, cq, rfl, hq0, hq1, hq2, hq3⟩
    refine hK.out _ _ (fun _ => hq1) ?_
    clear hK K
    try simp only [Act.put, List.setIfInBounds_toArray, List.set_cons_zero, List.set_cons_succ]
    repeat (first
      | (refine wpSeqE_take (v := ?_) rfl (by rfl) (fun wq hSq => ?_) ?_; rotate_left; (focus ((try dsimp only at hSq); go_simp; try with_reducible rfl)); simp only [Act.put, List.setIfInBounds_toArray, List.set_cons_zero, List.set_cons_succ]))
    refine wpSeqE_do rfl (by rfl) (fun K hK => ?_)
    go_simp
    refine hK.out _ _ (fun z => absurd rfl z) ?_
    clear hK K
    refine wpSeqE_nil ?_
    obtain ⟨f0, G3⟩ := FIN.out w3 _ hq0
    obtain ⟨⟨c0, c1, c2, c3, c4⟩, d0, d1, d2, d3⟩ := askO_cells f0
    have hne : br ≠ w.heap.size := by omega
    clear f0 hq0
    go_wp2
    exact ask_back rfl w.heap.size ⟨2, c, x, false⟩ rfl (askO_set (k' := ⟨2, c, x, false⟩) G3.out.1) rfl (⟨rfl, G3.out.2 _ (turn4 _ _ (.int .i64 2) (.int .i64 c) (.float .f64 x) (.bool false))⟩)
  · skip
    refine wp_region_seqE (fun u => u.cell? ⟨br, 18, none⟩ = some (.slice (some ⟨g, o, none⟩) k cr)) ((0, true) :: (1, true) :: (2, true) :: (3, true) :: (4, true) :: (5, true) :: (6, true) :: (7, true) :: (8, true) :: (9, true) :: (10, true) :: (11, true) :: (12, true) :: (13, true) :: (14, true) :: (15, true) :: (16, true) :: (17, true) :: (18, true) :: (19, false) :: (20, false) :: (21, true) :: (22, true) :: (23, false) :: []) (by kernel_rfl) (by kernel_rfl) (fun _ _ _ _ _ h => h) (by simpa using e1) ?_
    repeat (first
      | (refine wpSeqE_take (v := ?_) rfl (by rfl) (fun wq hSq => ?_) ?_; rotate_left; (focus ((try dsimp only at hSq); go_simp; try with_reducible rfl)); simp only [Act.put, List.setIfInBounds_toArray, List.set_cons_zero, List.set_cons_succ]))
    refine wpSeqE_do rfl (by rfl) (fun K hK => ?_)
    go_simp
    refine hK.out _ _ (fun _ => (H5.out _ (((Same.drew u2).below _).trans (below_alloc u2.drew _))).1.1) ?_
    clear hK K
    try simp only [Act.put, List.setIfInBounds_toArray, List.set_cons_zero, List.set_cons_succ]
    refine wpSeqE_do rfl (by rfl) (fun K hK => ?_)
    refine wp_append_ex _ _ _ _ rfl _ _ rfl rfl ((H5.out (u2.drew.alloc (.cells #[.int .i64 c, .float .f64 x] 75)) (((Same.drew u2).below _).trans (below_alloc u2.drew _))).2 u2.heap.size _ (cells2_of (heap_new (w := u2.drew) (g := u2.heap.size) rfl)).1 (cells2_of (heap_new (w := u2.drew) (g := u2.heap.size) rfl)).2.1) ?_
    rintro v w3 ⟨gq, nq, cq, rfl, hq0, hq1, hq2, hq3⟩
    refine hK.out _ _ (fun _ => hq1) ?_
    clear hK K
    try simp only [Act.put, List.setIfInBounds_toArray, List.set_cons_zero, List.set_cons_succ]
    repeat (first
      | (refine wpSeqE_take (v := ?_) rfl (by rfl) (fun wq hSq => ?_) ?_; rotate_left; (focus ((try dsimp only at hSq); go_simp; try with_reducible rfl)); simp only [Act.put, List.setIfInBounds_toArray, List.set_cons_zero, List.set_cons_succ]))
    refine wpSeqE_do rfl (by rfl) (fun K hK => ?_)
    go_simp
    refine hK.out _ _ (fun z => absurd rfl z) ?_
    clear hK K
    refine wpSeqE_nil ?_
    obtain ⟨f0, G3⟩ := FIN.out w3 _ hq0
    obtain ⟨⟨c0, c1, c2, c3, c4⟩, d0, d1, d2, d3⟩ := askO_cells f0
    have hne : br ≠ w.heap.size := by omega
    clear f0 hq0
    go_wp2
    exact ask_back rfl w.heap.size ⟨2, c, x, false⟩ rfl (askO_set (k' := ⟨2, c, x, false⟩) G3.out.1) rfl (⟨rfl, G3.out.2 _ (turn4 _ _ (.int .i64 2) (.int .i64 c) (.float .f64 x) (.bool false))⟩)
end
end Go.Proofs.YteinilmecnlanaaGreatDoor
namespace Go.Proofs.YteinilmecnlanaaGreatDoor
open Go.ChangeShapes Go.WideShapes Go.ChangeAt Go.RowKit Num
attribute [local go_sem] run_store_float

section
variable {W w : World} {br bl : Nat} {F0 K : List Nat} {m : Mac} {cs : List Ins}
/-- what it told, behind an append -/
theorem Rg.tells (h : Rg W F0 br bl K w m cs) (x : Nat) (hl : m.out.length ≤ 1024) : ∃ p k cr, w.cell? ⟨br, 17, none⟩ = some (.slice p k cr) ∧ (k : Int) ≤ cr ∧ m.out.length = k ∧ ((p = none ∧ k = 0) ∨ ∃ g o, p = some ⟨g, o, none⟩) ∧
    ∀ u, Below w.heap.size w u → (u.cell? ⟨br, 17, none⟩ = some (.slice p k cr) ∧ br < u.heap.size) ∧ ∀ g0 ty, u.cell? ⟨g0, 0, none⟩ = some (.float .f64 x) →  ∃ v u', (Builtin.append_ #[27, 27] ty #[.slice p k k, .slice (some ⟨g0, 0, none⟩) 1 1]).run Tryz.prog u = .ok v u' ∧ ∃ g1 n1 c1, v = .slice (some ⟨g1, 0, none⟩) n1 c1 ∧ (Hid (Rg W F0 br bl K (u'.setCell ⟨br, 17, none⟩ (.slice (some ⟨g1, 0, none⟩) n1 c1)) { m with out := m.out ++ [x] } cs) ∧ u'.cell? ⟨br, 17, none⟩ = some (.slice p k cr) ∧ u'.frozen? ⟨br, 17, none⟩ = false ∧ br < u'.heap.size) := by
  obtain ⟨q, hr, hbl, ht, hF⟩ := id h
  have hpl := hr.out.plain
  rw [fls_len] at hpl
  refine ⟨q.pt, m.out.length, q.ct, (hr.cell 17).trans rfl, by have := hr.c3; omega, rfl, hpl.imp (fun z => ⟨z.1, by omega⟩) id, fun u hu => ⟨⟨((hr.on hu).cell 17).trans rfl, (hr.on hu).ltB⟩, fun g0 ty c0 => ?_⟩⟩
  obtain ⟨v, u', e1, ⟨c', rfl, e2⟩, e3, e4, e5⟩ := app_float (hr.on hu).out rfl hl c0 ty
  have hb := hu.trans (e4.mono hu.size)
  have h3 := hr.on hb
  refine ⟨_, u', e1, _, _, c', rfl, ?_, (h3.cell 17).trans rfl, h3.free 17, h3.ltB⟩
  have := h.putT hr hF hbl hb (p := some ⟨u.heap.size, 0, none⟩) (s := m.out ++ [x]) (c := c') (.inr ⟨_, rfl, hu.size⟩) (fun y hy => by simp [fpR] at hy; omega) e3 (by simpa using e2)
  rw [show (m.out ++ [x]).length = m.out.length + 1 by simp] at this
  exact this
/-- its open calls, behind an append -/
theorem Rg.opens (h : Rg W F0 br bl K w m cs) (x : Int) (hl : m.calls.length ≤ 1024) : ∃ p k cr, w.cell? ⟨br, 9, none⟩ = some (.slice p k cr) ∧ (k : Int) ≤ cr ∧ m.calls.length = k ∧ ((p = none ∧ k = 0) ∨ ∃ g o, p = some ⟨g, o, none⟩) ∧
    ∀ u, Below w.heap.size w u → (u.cell? ⟨br, 9, none⟩ = some (.slice p k cr) ∧ br < u.heap.size) ∧ ∀ g0 ty, u.cell? ⟨g0, 0, none⟩ = some (.int .i64 x) →  ∃ v u', (Builtin.append_ #[105, 105] ty #[.slice p k k, .slice (some ⟨g0, 0, none⟩) 1 1]).run Tryz.prog u = .ok v u' ∧ ∃ g1 n1 c1, v = .slice (some ⟨g1, 0, none⟩) n1 c1 ∧ (Hid (Rg W F0 br bl K (u'.setCell ⟨br, 9, none⟩ (.slice (some ⟨g1, 0, none⟩) n1 c1)) { m with calls := x :: m.calls } cs) ∧ u'.cell? ⟨br, 9, none⟩ = some (.slice p k cr) ∧ u'.frozen? ⟨br, 9, none⟩ = false ∧ br < u'.heap.size) := by
  obtain ⟨q, hr, hbl, ht, hF⟩ := id h
  have hpl := hr.cal.plain
  rw [i64s_len, List.length_reverse] at hpl
  refine ⟨q.pc, m.calls.length, q.cc, (hr.cell 9).trans rfl, by have := hr.c2; omega, rfl, hpl.imp (fun z => ⟨z.1, by omega⟩) id, fun u hu => ⟨⟨((hr.on hu).cell 9).trans rfl, (hr.on hu).ltB⟩, fun g0 ty c0 => ?_⟩⟩
  obtain ⟨v, u', e1, ⟨c', rfl, e2⟩, e3, e4, e5⟩ := app_int (hr.on hu).cal (List.length_reverse) hl c0 ty
  have hb := hu.trans (e4.mono hu.size)
  have h3 := hr.on hb
  refine ⟨_, u', e1, _, _, c', rfl, ?_, (h3.cell 9).trans rfl, h3.free 9, h3.ltB⟩
  have := h.putC hr hF hbl hb (p := some ⟨u.heap.size, 0, none⟩) (s := x :: m.calls) (c := c') (.inr ⟨_, rfl, hu.size⟩) (fun y hy => by simp [fpR] at hy; omega) (by rw [List.reverse_cons]; exact e3) (by simpa using e2)
  rw [show (x :: m.calls).length = m.calls.length + 1 by simp] at this
  exact this
/-- what it wrote, behind an append -/
theorem Rg.wrote (h : Rg W F0 br bl K w m cs) (c : Int) (x : Nat) (hl : m.buf.length ≤ 1024) (hnd : (cellsOfL (m.buf ++ [(c, x)])).Nodup) : ∃ p k cr, w.cell? ⟨br, 19, none⟩ = some (.slice p k cr) ∧ (k : Int) ≤ cr ∧ m.buf.length = k ∧ ((p = none ∧ k = 0) ∨ ∃ g o, p = some ⟨g, o, none⟩) ∧
    ∀ u, Below w.heap.size w u → (u.cell? ⟨br, 19, none⟩ = some (.slice p k cr) ∧ br < u.heap.size) ∧ ∀ g0 ty, u.cell? ⟨g0, 0, none⟩ = some (.int .i64 c) → u.cell? ⟨g0, 1, none⟩ = some (.float .f64 x) →  ∃ v u', (Builtin.append_ #[57, 57] ty #[.slice p k k, .slice (some ⟨g0, 0, none⟩) 1 1]).run Tryz.prog u = .ok v u' ∧ ∃ g1 n1 c1, v = .slice (some ⟨g1, 0, none⟩) n1 c1 ∧ (Hid (Rg W F0 br bl K (u'.setCell ⟨br, 19, none⟩ (.slice (some ⟨g1, 0, none⟩) n1 c1)) { m with buf := m.buf ++ [(c, x)] } cs) ∧ u'.cell? ⟨br, 19, none⟩ = some (.slice p k cr) ∧ u'.frozen? ⟨br, 19, none⟩ = false ∧ br < u'.heap.size) := by
  obtain ⟨q, hr, hbl, ht, hF⟩ := id h
  have hpl := hr.buf.plain
  rw [tch_len] at hpl
  refine ⟨q.pb, m.buf.length, q.cb, (hr.cell 19).trans rfl, by have := hr.c5; omega, rfl, hpl.imp (fun z => ⟨z.1, by omega⟩) id, fun u hu => ⟨⟨((hr.on hu).cell 19).trans rfl, (hr.on hu).ltB⟩, fun g0 ty c0 c1 => ?_⟩⟩
  obtain ⟨v, u', e1, ⟨c', rfl, e2⟩, e3, e4, e5⟩ := app_touch (hr.on hu).buf rfl hl c0 c1 ty
  have hb := hu.trans (e4.mono hu.size)
  have h3 := hr.on hb
  refine ⟨_, u', e1, _, _, c', rfl, ?_, (h3.cell 19).trans rfl, h3.free 19, h3.ltB⟩
  have := h.putB hr hF hbl hb (p := some ⟨u.heap.size, 0, none⟩) (s := m.buf ++ [(c, x)]) (c := c') (.inr ⟨_, rfl, hu.size⟩) (fun y hy => by simp [fpR] at hy; omega) e3 (by simpa using e2) hnd
  rw [show (m.buf ++ [(c, x)]).length = m.buf.length + 1 by simp] at this
  exact this
set_option maxRecDepth 100000 in
theorem rgive_no (h : Rg W F0 br bl K w m cs) (hw : m.wait < 0) (x : Nat) : Calls Tryz.prog 75 #[.pointer (some ⟨br, 0, none⟩), .float .f64 x] w fun e w' => e = .returned (.int .i64 3) ∧ w' = w := by
  obtain ⟨q, hr, _, _, _⟩ := h
  have h13 : w.cell? ⟨br, 13, none⟩ = some (.int .i64 m.wait) := (hr.cell 13).trans rfl
  have hb := hr.ltB
  clear hr
  generalize m.wait = wt at *
  go_enter Tryz.func75, Tryz.ntmps75
  go_wp2
  go_ret
  exact ⟨rfl, rfl⟩
set_option maxRecDepth 100000 in
set_option maxHeartbeats 2000000 in
theorem rgive_yes (h : Rg W F0 br bl K w m cs) (hw : 0 ≤ m.wait) (hs : m.st.length ≤ 63) (hl2 : m.reads.length ≤ 1024) (x0 : Nat) : Calls Tryz.prog 75 #[.pointer (some ⟨br, 0, none⟩), .float .f64 x0] w fun e w' => e = .returned (.int .i64 0) ∧ Rg W F0 br bl K w' (hasRead { m with wait := -1 } m.wait (fixB x0)) cs := by
  obtain ⟨q, hr, _, _, _⟩ := id h
  have h13 : w.cell? ⟨br, 13, none⟩ = some (.int .i64 m.wait) := (hr.cell 13).trans rfl
  have hb := hr.ltB
  clear hr
  have hw' : ¬ m.wait < 0 := by omega
  generalize hx : fixB x0 = x
  have HFX : Hid (∀ u, Calls Tryz.prog 72 #[.float .f64 x0] u fun e w' => e = .returned (.float .f64 x) ∧ w' = u) := fun u => by rw [← hx]; exact refFix_any x0 u
  have HTR : Hid (Calls Tryz.prog 105 #[.pointer (some ⟨br, 0, none⟩), .int .i64 0, .slice (some ⟨w.heap.size, 0, none⟩) 1 1] (w.alloc (.cells #[.float .f64 x] 73)) fun e w' => e = .returned (.tuple #[]) ∧ Rg W F0 br bl K w' { m with st := x :: m.st } cs) := by
    have := h.trade1 x (k := 0) (r := m.st.length) (by omega) (by omega)
    rw [List.drop_zero] at this
    exact this
  have HRD : Hid (∀ u, Rg W F0 br bl K u { m with st := x :: m.st } cs → _) := fun u hu => Rg.reads (m := { m with st := x :: m.st }) hu m.wait x hl2
  have HW2 : Hid (∀ u, Rg W F0 br bl K u { m with st := x :: m.st } cs → u.cell? ⟨br, 13, none⟩ = some (.int .i64 m.wait)) := fun u ⟨q, hr, _⟩ => (hr.cell 13).trans rfl
  have HWB : Hid (∀ u u', Rg W F0 br bl K u { m with st := x :: m.st } cs → Below u.heap.size u u' → u'.cell? ⟨br, 13, none⟩ = some (.int .i64 m.wait)) := fun u u' hu hb => HW2.out u' (hu.on hb)
  have FIN : Hid (∀ u, Hid (Rg W F0 br bl K u { m with st := x :: m.st, reads := m.reads ++ [(m.wait, x)] } cs) → Rg W F0 br bl K (u.setCell ⟨br, 13, none⟩ (.int .i64 (-1))) (hasRead { m with wait := -1 } m.wait x) cs ∧ u.cell? ⟨br, 13, none⟩ = some (.int .i64 m.wait) ∧ u.frozen? ⟨br, 13, none⟩ = false ∧ br < u.heap.size) := fun u hu => by
    obtain ⟨z1, z2, z3⟩ := hu.out.waits (-1)
    exact ⟨z1, z2, z3, hu.out.ltB⟩
  clear h hx
  go_enter Tryz.func75, Tryz.ntmps75
  go_wp2_with (first
    | (go_at_call 105; refine HTR.out.mono ?_; rintro e u2 ⟨rfl, q⟩; have G2 := Lib.hid q; clear q)
    | (go_at_call 72; refine (HFX.out _).mono ?_; rintro e u ⟨rfl, hu⟩; subst u))
  obtain ⟨p, k, cr, e1, e2, e3, e4, e5⟩ := HRD.out u2 G2.out
  have H5 := Lib.hid e5
  have hkl : k ≤ 1024 := by have e3' : m.reads.length = k := e3; omega
  have hwr : IntKind.i64.wrap (k : Int) = k := by rw [IntKind.wrap_i64]; omega
  have eb := (e5 u2 (Below.refl _ _)).1.2
  have e13 := HW2.out u2 G2.out
  clear e3 e5 HRD hl2
  have HAP : Hid (∀ u, Below u2.heap.size u2 u → ∀ g0 ty, u.cell? ⟨g0, 0, none⟩ = some (.int .i64 m.wait) → u.cell? ⟨g0, 1, none⟩ = some (.float .f64 x) → ∃ v u', (Builtin.append_ #[57, 57] ty #[.slice p k k, .slice (some ⟨g0, 0, none⟩) 1 1]).run Tryz.prog u = .ok v u' ∧ ∃ g1 n1 c1, v = .slice (some ⟨g1, 0, none⟩) n1 c1 ∧ (Hid (Rg W F0 br bl K (u'.setCell ⟨br, 18, none⟩ (.slice (some ⟨g1, 0, none⟩) n1 c1)) { m with st := x :: m.st, reads := m.reads ++ [(m.wait, x)] } cs) ∧ u'.cell? ⟨br, 18, none⟩ = some (.slice p k cr) ∧ u'.frozen? ⟨br, 18, none⟩ = false ∧ br < u'.heap.size ∧ u'.cell? ⟨br, 13, none⟩ = some (.int .i64 m.wait))) := fun u hu g0 ty c0 c1 => by
    obtain ⟨v, u', z1, g1, n1, c1, rfl, z2, z3, z4, z5⟩ := (H5.out u hu).2 g0 ty c0 c1
    refine ⟨_, u', z1, g1, n1, c1, rfl, z2, z3, z4, z5, ?_⟩
    have := (FIN.out _ z2).2.1
    rwa [World.cell?_setCell_other _ _ _ _ (by simp)] at this
  rcases e4 with ⟨rfl, rfl⟩ | ⟨g, o, rfl⟩
  · simp only [Int.cast_ofNat_Int] at hwr e2
    refine wp_region_seqE (fun u => u.cell? ⟨br, 18, none⟩ = some (.slice none 0 cr) ∧ u.cell? ⟨br, 13, none⟩ = some (.int .i64 m.wait)) ((0, true) :: (1, true) :: (2, true) :: (3, true) :: (4, true) :: (5, true) :: (6, true) :: (7, true) :: (8, true) :: (9, true) :: (10, true) :: (11, true) :: (12, true) :: (13, true) :: (14, true) :: (15, true) :: (16, true) :: (17, true) :: (18, true) :: (19, true) :: (20, true) :: (21, true) :: (22, false) :: (23, false) :: (24, true) :: (25, true) :: (26, false) :: []) (by kernel_rfl) (by kernel_rfl) (fun _ _ _ _ _ h => h) (⟨by simpa using e1, by simpa using e13⟩) ?_
    repeat (first
      | (refine wpSeqE_take (v := ?_) rfl (by rfl) (fun wq hSq => ?_) ?_; rotate_left; (focus ((try dsimp only at hSq); go_simp; try with_reducible rfl)); simp only [Act.put, List.setIfInBounds_toArray, List.set_cons_zero, List.set_cons_succ]))
    refine wpSeqE_do rfl (by rfl) (fun K hK => ?_)
    go_simp
    refine hK.out _ _ (fun _ => ⟨(H5.out _ (((Same.drew u2).below _).trans (below_alloc u2.drew _))).1.1, HWB.out _ _ G2.out (((Same.drew u2).below _).trans (below_alloc u2.drew _))⟩) ?_
    clear hK K
    try simp only [Act.put, List.setIfInBounds_toArray, List.set_cons_zero, List.set_cons_succ]
    refine wpSeqE_do rfl (by rfl) (fun K hK => ?_)
    refine wp_append_ex _ _ _ _ rfl _ _ rfl rfl (HAP.out (u2.drew.alloc (.cells #[.int .i64 m.wait, .float .f64 x] 75)) (((Same.drew u2).below _).trans (below_alloc u2.drew _)) u2.heap.size _ (cells2_of (heap_new (w := u2.drew) (g := u2.heap.size) rfl)).1 (cells2_of (heap_new (w := u2.drew) (g := u2.heap.size) rfl)).2.1) ?_
    rintro v w3 ⟨gq, nq, cq, rfl, hq0, hq1, hq2, hq3, hq4⟩
    refine hK.out _ _ (fun _ => ⟨hq1, hq4⟩) ?_
    clear hK K
    try simp only [Act.put, List.setIfInBounds_toArray, List.set_cons_zero, List.set_cons_succ]
    repeat (first
      | (refine wpSeqE_take (v := ?_) rfl (by rfl) (fun wq hSq => ?_) ?_; rotate_left; (focus ((try dsimp only at hSq); go_simp; try with_reducible rfl)); simp only [Act.put, List.setIfInBounds_toArray, List.set_cons_zero, List.set_cons_succ]))
    refine wpSeqE_do rfl (by rfl) (fun K hK => ?_)
    go_simp
    refine hK.out _ _ (fun z => absurd rfl z) ?_
    clear hK K
    refine wpSeqE_nil ?_
    obtain ⟨f1, f2, f3, f4⟩ := FIN.out _ hq0
    have G3 := Lib.hid f1
    clear f1 hq0
    go_wp2
    go_ret
    exact ⟨rfl, G3.out⟩
  · skip
    refine wp_region_seqE (fun u => u.cell? ⟨br, 18, none⟩ = some (.slice (some ⟨g, o, none⟩) k cr) ∧ u.cell? ⟨br, 13, none⟩ = some (.int .i64 m.wait)) ((0, true) :: (1, true) :: (2, true) :: (3, true) :: (4, true) :: (5, true) :: (6, true) :: (7, true) :: (8, true) :: (9, true) :: (10, true) :: (11, true) :: (12, true) :: (13, true) :: (14, true) :: (15, true) :: (16, true) :: (17, true) :: (18, true) :: (19, true) :: (20, true) :: (21, true) :: (22, false) :: (23, false) :: (24, true) :: (25, true) :: (26, false) :: []) (by kernel_rfl) (by kernel_rfl) (fun _ _ _ _ _ h => h) (⟨by simpa using e1, by simpa using e13⟩) ?_
    repeat (first
      | (refine wpSeqE_take (v := ?_) rfl (by rfl) (fun wq hSq => ?_) ?_; rotate_left; (focus ((try dsimp only at hSq); go_simp; try with_reducible rfl)); simp only [Act.put, List.setIfInBounds_toArray, List.set_cons_zero, List.set_cons_succ]))
    refine wpSeqE_do rfl (by rfl) (fun K hK => ?_)
    go_simp
    refine hK.out _ _ (fun _ => ⟨(H5.out _ (((Same.drew u2).below _).trans (below_alloc u2.drew _))).1.1, HWB.out _ _ G2.out (((Same.drew u2).below _).trans (below_alloc u2.drew _))⟩) ?_
    clear hK K
    try simp only [Act.put, List.setIfInBounds_toArray, List.set_cons_zero, List.set_cons_succ]
    refine wpSeqE_do rfl (by rfl) (fun K hK => ?_)
    refine wp_append_ex _ _ _ _ rfl _ _ rfl rfl (HAP.out (u2.drew.alloc (.cells #[.int .i64 m.wait, .float .f64 x] 75)) (((Same.drew u2).below _).trans (below_alloc u2.drew _)) u2.heap.size _ (cells2_of (heap_new (w := u2.drew) (g := u2.heap.size) rfl)).1 (cells2_of (heap_new (w := u2.drew) (g := u2.heap.size) rfl)).2.1) ?_
    rintro v w3 ⟨gq, nq, cq, rfl, hq0, hq1, hq2, hq3, hq4⟩
    refine hK.out _ _ (fun _ => ⟨hq1, hq4⟩) ?_
    clear hK K
    try simp only [Act.put, List.setIfInBounds_toArray, List.set_cons_zero, List.set_cons_succ]
    repeat (first
      | (refine wpSeqE_take (v := ?_) rfl (by rfl) (fun wq hSq => ?_) ?_; rotate_left; (focus ((try dsimp only at hSq); go_simp; try with_reducible rfl)); simp only [Act.put, List.setIfInBounds_toArray, List.set_cons_zero, List.set_cons_succ]))
    refine wpSeqE_do rfl (by rfl) (fun K hK => ?_)
    go_simp
    refine hK.out _ _ (fun z => absurd rfl z) ?_
    clear hK K
    refine wpSeqE_nil ?_
    obtain ⟨f1, f2, f3, f4⟩ := FIN.out _ hq0
    have G3 := Lib.hid f1
    clear f1 hq0
    go_wp2
    go_ret
    exact ⟨rfl, G3.out⟩
end
end Go.Proofs.YteinilmecnlanaaGreatDoor
namespace Go.Proofs.YteinilmecnlanaaGreatDoor
open Go.ChangeShapes Go.WideShapes Go.ChangeAt Go.RowKit Num
attribute [local go_sem] run_store_float

section
variable {W w : World} {br bl : Nat} {F0 K : List Nat} {m : Mac} {cs : List Ins}
theorem Rg.tag4 (h : Rg W F0 br bl K w m cs) : ∃ t : Int, w.cell? ⟨br, 4, none⟩ = some (.int .i64 t) ∧ m.upd = (t == 2) := by
  obtain ⟨q, hr, _, _, _⟩ := h
  exact ⟨q.tg, (hr.cell 4).trans rfl, hr.tag⟩
set_option maxRecDepth 100000 in
set_option maxHeartbeats 1000000 in
theorem rwrite_ro (h : Rg W F0 br bl K w m cs) (hu : m.upd = false) : Calls Tryz.prog 125 #[.pointer (some ⟨br, 0, none⟩)] w fun r w' => r = .returned (askV askEnd) ∧ Rg W F0 br bl K w' (failM m 81).1 cs := by
  obtain ⟨h0, hb⟩ := h.at0
  obtain ⟨t4, h4⟩ := h.tag4
  obtain ⟨F, h1, hX⟩ := h.leave (askO ask0)
  have HX := Lib.hid hX
  have HFA : Hid (Calls Tryz.prog 102 #[.pointer (some ⟨br, 0, none⟩), .int .i64 81] (w.alloc (askO ask0)) fun r w' => r = .returned (askV askEnd) ∧ Rg (w.alloc (askO ask0)) F br bl K w' (failM m 81).1 cs) := rfails_any h1 81
  have ht : ¬ t4 = 2 := by rw [h4.2] at hu; simpa using hu
  replace h4 := h4.1
  clear h h1 hX hu h0
  go_enter Tryz.func125, Tryz.ntmps125
  go_wp2_with (go_at_call 102; refine HFA.out.mono ?_; rintro e u1 ⟨rfl, q⟩; obtain ⟨r1, r2⟩ := HX.out _ _ q; obtain ⟨⟨c0, c1, c2, c3, c4⟩, d0, d1, d2, d3⟩ := askO_cells r1; have G1 := Lib.hid (And.intro r1 r2); clear q r1 r2; unfold askV)
  exact ask_back rfl w.heap.size askEnd rfl (askO_set G1.out.1) rfl ⟨rfl, G1.out.2 _ (turn4 _ _ _ _ _ _)⟩
set_option maxRecDepth 100000 in
set_option maxHeartbeats 1000000 in
theorem rwrite_no (h : Rg W F0 br bl K w m cs) {y : Nat} {s : List Nat} (hs : m.st = y :: s) (hs2 : m.st.length ≤ 64) (ho : y < 18446744073709551616) (hu : m.upd = true) (ha : addrB m = false) : Calls Tryz.prog 125 #[.pointer (some ⟨br, 0, none⟩)] w fun r w' => r = .returned (askV askEnd) ∧ Rg W F0 br bl K w' (failM m 50).1 cs := by
  obtain ⟨h0, hb⟩ := h.at0
  obtain ⟨t4, h4⟩ := h.tag4
  obtain ⟨F, h1, hX⟩ := h.leave (askO ask0)
  have HX := Lib.hid hX
  have HT := Lib.hid (h1.addr hs hs2)
  have HI := Lib.hid (fun w => refIndex_any y m.cells w ho)
  have ha' : idxB y m.cells = false := by unfold addrB at ha; rw [hs] at ha; exact ha
  unfold idxV idxE at HI
  rw [ha'] at HI
  have HFA : Hid (∀ n, Calls Tryz.prog 102 #[.pointer (some ⟨br, 0, none⟩), .int .i64 50] ((w.alloc (askO ask0)).drewN n) fun r w' => r = .returned (askV askEnd) ∧ Rg (w.alloc (askO ask0)) F br bl K w' (failM m 50).1 cs) := fun n => rfails_any (h1.same (Same.drewN _ n)) 50
  have ht : t4 = 2 := by rw [h4.2] at hu; simpa using hu
  subst ht
  replace h4 := h4.1
  clear h h1 hX ha ha' ho hs hs2 hu
  go_enter Tryz.func125, Tryz.ntmps125
  go_wp2
  go_quiet (first
    | (go_at_call 120; exact HT.out _)
    | (go_at_call 153; exact Calls.quiet_of_same (HI.out _)))
  go_wp2_with (go_at_call 102; refine (HFA.out _).mono ?_; rintro e u1 ⟨rfl, q⟩; obtain ⟨r1, r2⟩ := HX.out _ _ q; obtain ⟨⟨c0, c1, c2, c3, c4⟩, d0, d1, d2, d3⟩ := askO_cells r1; have G1 := Lib.hid (And.intro r1 r2); clear q r1 r2; unfold askV)
  exact ask_back rfl w.heap.size askEnd rfl (askO_set G1.out.1) rfl ⟨rfl, G1.out.2 _ (turn4 _ _ _ _ _ _)⟩
set_option maxRecDepth 100000 in
set_option maxHeartbeats 1000000 in
theorem rwrite_full (h : Rg W F0 br bl K w m cs) {y z : Nat} {s : List Nat} (hs : m.st = y :: z :: s) (hs2 : m.st.length ≤ 64) (ho : y < 18446744073709551616) (hl : m.buf.length ≤ 32) (hu : m.upd = true) (ha : addrB m = true) (hh : hasC m.buf (addrV m) = false) (hfull : (m.buf.length : Int) = m.wmax) : Calls Tryz.prog 125 #[.pointer (some ⟨br, 0, none⟩)] w fun r w' => r = .returned (askV askEnd) ∧ Rg W F0 br bl K w' (failM m 70).1 cs := by
  obtain ⟨h0, hb⟩ := h.at0
  obtain ⟨t4, h4⟩ := h.tag4
  obtain ⟨F, h1, hX⟩ := h.leave (askO ask0)
  have HX := Lib.hid hX
  have HT := Lib.hid (h1.addr hs hs2)
  have HT1 : Hid (∀ n, Calls Tryz.prog 120 #[.pointer (some ⟨br, 0, none⟩), .int .i64 1] ((w.alloc (askO ask0)).drewN n) fun e w' => e = .returned (.float .f64 z) ∧ ∃ q, w' = (w.alloc (askO ask0)).drewN q) := by
    have := h1.top (k := 1) (by rw [hs]; simp) hs2
    rw [hs] at this
    exact this
  have HI := Lib.hid (fun w => refIndex_any y m.cells w ho)
  have hc : addrV m = idxV y m.cells := by unfold addrV; rw [hs]; rfl
  have ha' : idxE y m.cells = 0 := by unfold addrB at ha; rw [hs] at ha; unfold idxE; exact if_pos ha
  rw [← hc, ha'] at HI
  have HW : Hid (∀ n, Calls Tryz.prog 154 #[.pointer (some ⟨br, 0, none⟩), .int .i64 (addrV m)] ((w.alloc (askO ask0)).drewN n) fun e w' => ∃ xv, e = .returned (.tuple #[.float .f64 xv, .bool false]) ∧ Rg (w.alloc (askO ask0)) F br bl K w' m cs) := fun n => by
    have k1 := h1.same (Same.drewN _ n)
    refine (rwrote_any k1 (addrV m) hl).mono fun e u ⟨a1, a2⟩ => ⟨wroteV m.buf (addrV m), by rw [a1, hh], k1.on a2⟩
  have H319 : Hid (∀ u, Rg (w.alloc (askO ask0)) F br bl K u m cs → (∃ p c, u.cell? ⟨br, 19, none⟩ = some (.slice p m.buf.length c)) ∧ u.cell? ⟨br, 3, none⟩ = some (.int .i64 m.wmax) ∧ br < u.heap.size) := fun u ⟨q, hr, _⟩ => ⟨⟨q.pb, q.cb, (hr.cell 19).trans rfl⟩, (hr.cell 3).trans rfl, hr.ltB⟩
  have HTR : Hid (∀ u, Rg (w.alloc (askO ask0)) F br bl K u m cs → Calls Tryz.prog 105 #[.pointer (some ⟨br, 0, none⟩), .int .i64 2, .slice none 0 0] u fun e w' => e = .returned (.tuple #[]) ∧ Rg (w.alloc (askO ask0)) F br bl K w' { m with st := s } cs) := fun u hu => by
    have := rtrade_none hu (k := 2) (r := s.length) (by rw [hs]; simp) (by omega) hs2
    rw [show m.st.drop 2 = s by rw [hs]; rfl] at this
    exact this
  have ht : t4 = 2 := by rw [h4.2] at hu; simpa using hu
  subst ht
  replace h4 := h4.1
  have HFA : Hid (∀ u, Rg (w.alloc (askO ask0)) F br bl K u m cs → Calls Tryz.prog 102 #[.pointer (some ⟨br, 0, none⟩), .int .i64 70] u fun r w' => r = .returned (askV askEnd) ∧ Rg (w.alloc (askO ask0)) F br bl K w' (failM m 70).1 cs) := fun u hu => rfails_any hu 70
  clear h h1 hX ha ha' ho hs hs2 hu hc hh hl HTR
  generalize addrV m = c at *
  rw [← hfull] at H319
  generalize m.buf.length = n at *
  go_enter Tryz.func125, Tryz.ntmps125
  go_wp2
  go_quiet (first
    | (go_at_call 120; exact HT.out _)
    | (go_at_call 153; exact Calls.quiet_of_same (HI.out _)))
  go_wp2_with (first
    | (go_at_call 154; refine (HW.out _).mono ?_; rintro e u1 ⟨xv, rfl, q⟩; obtain ⟨⟨pb, cb, b1⟩, b2, b3⟩ := H319.out _ q; have G1 := Lib.hid q; clear q)
    | (go_at_call 120; refine (HT1.out _).mono ?_; rintro e u ⟨rfl, qn, hu⟩; subst u))
  go_quiet (fail)
  go_wp2_with (go_at_call 102; refine (HFA.out _ (G1.out.same (Same.drewN _ _))).mono ?_; rintro e u1 ⟨rfl, q⟩; obtain ⟨r1, r2⟩ := HX.out _ _ q; obtain ⟨⟨c0, c1, c2, c3, c4⟩, d0, d1, d2, d3⟩ := askO_cells r1; have G1 := Lib.hid (And.intro r1 r2); clear q r1 r2; unfold askV)
  exact ask_back rfl w.heap.size askEnd rfl (askO_set G1.out.1) rfl ⟨rfl, G1.out.2 _ (turn4 _ _ _ _ _ _)⟩
set_option maxRecDepth 100000 in
set_option maxHeartbeats 2000000 in
theorem rwrite_first (h : Rg W F0 br bl K w m cs) {y z : Nat} {s : List Nat} (hs : m.st = y :: z :: s) (hs2 : m.st.length ≤ 64) (ho : y < 18446744073709551616) (hl : m.buf.length ≤ 32) (hu : m.upd = true) (ha : addrB m = true) (hh : hasC m.buf (addrV m) = false) (hfull : ¬ (m.buf.length : Int) = m.wmax) : Calls Tryz.prog 125 #[.pointer (some ⟨br, 0, none⟩)] w fun r w' => r = .returned (askV ⟨3, addrV m, z, true⟩) ∧ Rg W F0 br bl K w' { m with st := s, buf := putC m.buf (addrV m) z } cs := by
  have hput : putC m.buf (addrV m) z = m.buf ++ [(addrV m, z)] := by unfold putC; rw [hh]; rfl
  have hnd : (cellsOfL (m.buf ++ [(addrV m, z)])).Nodup := by
    obtain ⟨q, hr, _⟩ := id h
    rw [← hput]
    exact nodup_put hr.nd
  rw [hput]
  obtain ⟨h0, hb⟩ := h.at0
  obtain ⟨t4, h4⟩ := h.tag4
  obtain ⟨F, h1, hX⟩ := h.leave (askO ask0)
  have HX := Lib.hid hX
  have HT := Lib.hid (h1.addr hs hs2)
  have HT1 : Hid (∀ n, Calls Tryz.prog 120 #[.pointer (some ⟨br, 0, none⟩), .int .i64 1] ((w.alloc (askO ask0)).drewN n) fun e w' => e = .returned (.float .f64 z) ∧ ∃ q, w' = (w.alloc (askO ask0)).drewN q) := by
    have := h1.top (k := 1) (by rw [hs]; simp) hs2
    rw [hs] at this
    exact this
  have HI := Lib.hid (fun w => refIndex_any y m.cells w ho)
  have hc : addrV m = idxV y m.cells := by unfold addrV; rw [hs]; rfl
  have ha' : idxE y m.cells = 0 := by unfold addrB at ha; rw [hs] at ha; unfold idxE; exact if_pos ha
  rw [← hc, ha'] at HI
  have HW : Hid (∀ n, Calls Tryz.prog 154 #[.pointer (some ⟨br, 0, none⟩), .int .i64 (addrV m)] ((w.alloc (askO ask0)).drewN n) fun e w' => ∃ xv, e = .returned (.tuple #[.float .f64 xv, .bool false]) ∧ Rg (w.alloc (askO ask0)) F br bl K w' m cs) := fun n => by
    have k1 := h1.same (Same.drewN _ n)
    refine (rwrote_any k1 (addrV m) hl).mono fun e u ⟨a1, a2⟩ => ⟨wroteV m.buf (addrV m), by rw [a1, hh], k1.on a2⟩
  have H319 : Hid (∀ u, Rg (w.alloc (askO ask0)) F br bl K u m cs → (∃ p c, u.cell? ⟨br, 19, none⟩ = some (.slice p m.buf.length c)) ∧ u.cell? ⟨br, 3, none⟩ = some (.int .i64 m.wmax) ∧ br < u.heap.size) := fun u ⟨q, hr, _⟩ => ⟨⟨q.pb, q.cb, (hr.cell 19).trans rfl⟩, (hr.cell 3).trans rfl, hr.ltB⟩
  have HTR : Hid (∀ u, Rg (w.alloc (askO ask0)) F br bl K u m cs → Calls Tryz.prog 105 #[.pointer (some ⟨br, 0, none⟩), .int .i64 2, .slice none 0 0] u fun e w' => e = .returned (.tuple #[]) ∧ Rg (w.alloc (askO ask0)) F br bl K w' { m with st := s } cs) := fun u hu => by
    have := rtrade_none hu (k := 2) (r := s.length) (by rw [hs]; simp) (by omega) hs2
    rw [show m.st.drop 2 = s by rw [hs]; rfl] at this
    exact this
  have ht : t4 = 2 := by rw [h4.2] at hu; simpa using hu
  subst ht
  replace h4 := h4.1
  have HBF : Hid (∀ u, Rg (w.alloc (askO ask0)) F br bl K u { m with st := s } cs → _) := fun u hu => Rg.wrote (m := { m with st := s }) hu (addrV m) z (by show m.buf.length ≤ 1024; omega) hnd
  clear h h1 hX ha ha' ho hs hs2 hu hc hh hput hnd
  generalize addrV m = c at *
  have hfd : ((m.buf.length : Int) == m.wmax) = false := by simpa using hfull
  go_enter Tryz.func125, Tryz.ntmps125
  go_wp2
  go_quiet (first
    | (go_at_call 120; exact HT.out _)
    | (go_at_call 153; exact Calls.quiet_of_same (HI.out _)))
  go_wp2_with (first
    | (go_at_call 154; refine (HW.out _).mono ?_; rintro e u1 ⟨xv, rfl, q⟩; obtain ⟨⟨pb, cb, b1⟩, b2, b3⟩ := H319.out _ q; have G1 := Lib.hid q; clear q)
    | (go_at_call 120; refine (HT1.out _).mono ?_; rintro e u ⟨rfl, qn, hu⟩; subst u))
  go_quiet (fail)
  go_wp2_with (go_at_call 105; refine (HTR.out _ (G1.out.same (Same.drewN _ _))).mono ?_; rintro e u2 ⟨rfl, q⟩; have G2 := Lib.hid q; clear q)
  obtain ⟨p, k, cr, e1, e2, e3, e4, e5⟩ := HBF.out u2 G2.out
  have H5 := Lib.hid e5
  have hkl : k ≤ 1024 := by have e3' : m.buf.length = k := e3; omega
  have hwr : IntKind.i64.wrap (k : Int) = k := by rw [IntKind.wrap_i64]; omega
  have eb := (e5 u2 (Below.refl _ _)).1.2
  clear e3 e5 HBF hl hfull hfd b1 b2
  have FIN : Hid (∀ (u' : World) (v : Value), Hid (Rg (w.alloc (askO ask0)) F br bl K (u'.setCell ⟨br, 19, none⟩ v) { m with st := s, buf := m.buf ++ [(c, z)] } cs) → u'.heap[w.heap.size]? = some (askO ask0) ∧ Hid ((u'.setCell ⟨br, 19, none⟩ v).heap[w.heap.size]? = some (askO ask0) ∧ ∀ u'', Turn [w.heap.size] [w.heap.size] (u'.setCell ⟨br, 19, none⟩ v) u'' → Rg W F0 br bl K u'' { m with st := s, buf := m.buf ++ [(c, z)] } cs)) := fun u' v hq => by
    have zz := HX.out _ _ hq.out
    refine ⟨?_, zz⟩
    have z1 := zz.1
    rwa [heap_setCell_other _ _ _ _ (by simp; omega)] at z1
  rcases e4 with ⟨rfl, rfl⟩ | ⟨g, o, rfl⟩
  · simp only [Int.cast_ofNat_Int] at hwr e2
    refine wp_region_seqE (fun u => u.cell? ⟨br, 19, none⟩ = some (.slice none 0 cr)) ((0, true) :: (1, true) :: (2, true) :: (3, true) :: (4, true) :: (5, true) :: (6, true) :: (7, true) :: (8, true) :: (9, true) :: (10, true) :: (11, true) :: (12, true) :: (13, true) :: (14, true) :: (15, true) :: (16, true) :: (17, true) :: (18, true) :: (19, false) :: (20, false) :: (21, true) :: (22, true) :: (23, false) :: []) (by kernel_rfl) (by kernel_rfl) (fun _ _ _ _ _ h => h) (by simpa using e1) ?_
    repeat (first
      | (refine wpSeqE_take (v := ?_) rfl (by rfl) (fun wq hSq => ?_) ?_; rotate_left; (focus ((try dsimp only at hSq); go_simp; try with_reducible rfl)); simp only [Act.put, List.setIfInBounds_toArray, List.set_cons_zero, List.set_cons_succ]))
    refine wpSeqE_do rfl (by rfl) (fun K hK => ?_)
    go_simp
    refine hK.out _ _ (fun _ => (H5.out _ (((Same.drew u2).below _).trans (below_alloc u2.drew _))).1.1) ?_
    clear hK K
    try simp only [Act.put, List.setIfInBounds_toArray, List.set_cons_zero, List.set_cons_succ]
    refine wpSeqE_do rfl (by rfl) (fun K hK => ?_)
    refine wp_append_ex _ _ _ _ rfl _ _ rfl rfl ((H5.out (u2.drew.alloc (.cells #[.int .i64 c, .float .f64 z] 75)) (((Same.drew u2).below _).trans (below_alloc u2.drew _))).2 u2.heap.size _ (cells2_of (heap_new (w := u2.drew) (g := u2.heap.size) rfl)).1 (cells2_of (heap_new (w := u2.drew) (g := u2.heap.size) rfl)).2.1) ?_
    rintro v w3 ⟨gq, nq, cq, rfl, hq0, hq1, hq2, hq3⟩
    refine hK.out _ _ (fun _ => hq1) ?_
    clear hK K
    try simp only [Act.put, List.setIfInBounds_toArray, List.set_cons_zero, List.set_cons_succ]
    repeat (first
      | (refine wpSeqE_take (v := ?_) rfl (by rfl) (fun wq hSq => ?_) ?_; rotate_left; (focus ((try dsimp only at hSq); go_simp; try with_reducible rfl)); simp only [Act.put, List.setIfInBounds_toArray, List.set_cons_zero, List.set_cons_succ]))
    refine wpSeqE_do rfl (by rfl) (fun K hK => ?_)
    go_simp
    refine hK.out _ _ (fun z => absurd rfl z) ?_
    clear hK K
    refine wpSeqE_nil ?_
    obtain ⟨f0, G3⟩ := FIN.out w3 _ hq0
    obtain ⟨⟨c0, c1, c2, c3, c4⟩, d0, d1, d2, d3⟩ := askO_cells f0
    have hne : br ≠ w.heap.size := by omega
    clear f0 hq0
    go_wp2
    exact ask_back rfl w.heap.size ⟨3, c, z, true⟩ rfl (askO_set (k' := ⟨3, c, z, true⟩) G3.out.1) rfl (⟨rfl, G3.out.2 _ (turn4 _ _ (.int .i64 3) (.int .i64 c) (.float .f64 z) (.bool true))⟩)
  · skip
    refine wp_region_seqE (fun u => u.cell? ⟨br, 19, none⟩ = some (.slice (some ⟨g, o, none⟩) k cr)) ((0, true) :: (1, true) :: (2, true) :: (3, true) :: (4, true) :: (5, true) :: (6, true) :: (7, true) :: (8, true) :: (9, true) :: (10, true) :: (11, true) :: (12, true) :: (13, true) :: (14, true) :: (15, true) :: (16, true) :: (17, true) :: (18, true) :: (19, false) :: (20, false) :: (21, true) :: (22, true) :: (23, false) :: []) (by kernel_rfl) (by kernel_rfl) (fun _ _ _ _ _ h => h) (by simpa using e1) ?_
    repeat (first
      | (refine wpSeqE_take (v := ?_) rfl (by rfl) (fun wq hSq => ?_) ?_; rotate_left; (focus ((try dsimp only at hSq); go_simp; try with_reducible rfl)); simp only [Act.put, List.setIfInBounds_toArray, List.set_cons_zero, List.set_cons_succ]))
    refine wpSeqE_do rfl (by rfl) (fun K hK => ?_)
    go_simp
    refine hK.out _ _ (fun _ => (H5.out _ (((Same.drew u2).below _).trans (below_alloc u2.drew _))).1.1) ?_
    clear hK K
    try simp only [Act.put, List.setIfInBounds_toArray, List.set_cons_zero, List.set_cons_succ]
    refine wpSeqE_do rfl (by rfl) (fun K hK => ?_)
    refine wp_append_ex _ _ _ _ rfl _ _ rfl rfl ((H5.out (u2.drew.alloc (.cells #[.int .i64 c, .float .f64 z] 75)) (((Same.drew u2).below _).trans (below_alloc u2.drew _))).2 u2.heap.size _ (cells2_of (heap_new (w := u2.drew) (g := u2.heap.size) rfl)).1 (cells2_of (heap_new (w := u2.drew) (g := u2.heap.size) rfl)).2.1) ?_
    rintro v w3 ⟨gq, nq, cq, rfl, hq0, hq1, hq2, hq3⟩
    refine hK.out _ _ (fun _ => hq1) ?_
    clear hK K
    try simp only [Act.put, List.setIfInBounds_toArray, List.set_cons_zero, List.set_cons_succ]
    repeat (first
      | (refine wpSeqE_take (v := ?_) rfl (by rfl) (fun wq hSq => ?_) ?_; rotate_left; (focus ((try dsimp only at hSq); go_simp; try with_reducible rfl)); simp only [Act.put, List.setIfInBounds_toArray, List.set_cons_zero, List.set_cons_succ]))
    refine wpSeqE_do rfl (by rfl) (fun K hK => ?_)
    go_simp
    refine hK.out _ _ (fun z => absurd rfl z) ?_
    clear hK K
    refine wpSeqE_nil ?_
    obtain ⟨f0, G3⟩ := FIN.out w3 _ hq0
    obtain ⟨⟨c0, c1, c2, c3, c4⟩, d0, d1, d2, d3⟩ := askO_cells f0
    have hne : br ≠ w.heap.size := by omega
    clear f0 hq0
    go_wp2
    exact ask_back rfl w.heap.size ⟨3, c, z, true⟩ rfl (askO_set (k' := ⟨3, c, z, true⟩) G3.out.1) rfl (⟨rfl, G3.out.2 _ (turn4 _ _ (.int .i64 3) (.int .i64 c) (.float .f64 z) (.bool true))⟩)
end
end Go.Proofs.YteinilmecnlanaaGreatDoor
namespace Go.Proofs.YteinilmecnlanaaGreatDoor
open Go.ChangeShapes Go.WideShapes Go.ChangeAt Go.RowKit Num
attribute [local go_sem] run_store_float

/-- a copy of a row that has something: a new row, with its block -/
theorem app_copy {u : World} {g o n c : Nat} {l : Wr} (hr : u.rangeAt g o (l.flatMap tchC)) (hl : l.length = n) (h0 : 0 < n) (hn : n ≤ 32) (ty : TypeId) : ∃ v u', (Builtin.append_ #[57, 57] ty #[.slice none 0 0, .slice (some ⟨g, o, none⟩) n c]).run Tryz.prog u = .ok v u' ∧ ∃ c' arr, v = .slice (some ⟨u.heap.size, 0, none⟩) n c' ∧ n ≤ c' ∧ u'.heap[u.heap.size]? = some (.cells arr 75 (0, 0)) ∧ Ro u' (some ⟨u.heap.size, 0, none⟩) (l.flatMap tchC) ∧ Below u.heap.size u u' ∧ u.heap.size < u'.heap.size := by
  obtain ⟨i, hi, hz0, hz1, hz2⟩ := info_parts tInfo
  have hs : Src Tryz.prog i.size 57 (.slice (some ⟨g, o, none⟩) n c) n (l.flatMap tchC) u := by
    rw [hz1]
    refine Src.ofSlice u Tryz.underlying57 ⟨g, o, none⟩ n c (l.flatMap tchC) (by rw [tch_len, hl]) (fun j v hv => ?_) (tch_one l)
    rw [Addr.add_mid]
    exact hr j v hv
  have hb : i.bytes ≤ 64 := by rw [hz2]; omega
  refine ⟨_, _, run_append_grow_src u 57 57 ty 75 i _ Tryz.underlying57 hi hz0 none 0 0 [] (run_firstCells_none _ _ _ _ _) _ n _ hs (by omega) (by omega) (growslice_fits (by omega) (Nat.le_trans (Nat.mul_le_mul (show 0 + n ≤ 64 by omega) hb) (by decide))), grownCap u (0 + n) 0 75, _, by rw [Nat.zero_add], by have := grownCap_ge u (0 + n) 0 75; omega, heap_new (w := u.drew) rfl, .inr ⟨_, _, rfl, fun j v hv => ?_⟩, ((Same.drew u).below _).trans (below_alloc u.drew _), by simp⟩
  have hj := (List.getElem?_eq_some_iff.1 hv).1
  refine (cell_of_row _ u.heap.size (0 + j) _ _ _ (heap_new (w := u.drew) (g := u.heap.size) rfl)).trans ?_
  rw [Nat.zero_add, Array.getElem?_append_left (by simpa using hj)]
  simpa using hv
theorem tch_set : ∀ (l : Wr) (i : Nat) (x : Nat), i < l.length → (l.set i ((l.getD i (0, 0)).1, x)).flatMap tchC = (l.flatMap tchC).set (i * 2 + 1) (.float .f64 x)
  | [], i, _, h => by simp at h
  | a :: l, 0, x, _ => rfl
  | a :: l, i + 1, x, h => by
    have := tch_set l i x (by simpa using h)
    rw [show (i + 1) * 2 + 1 = i * 2 + 1 + 2 by omega]
    simp only [List.set_cons_succ, List.getD_cons_succ, List.flatMap_cons]
    rw [this]
    rfl
theorem cells_set : ∀ (l : Wr) (i : Nat) (x : Nat), i < l.length → cellsOfL (l.set i ((l.getD i (0, 0)).1, x)) = cellsOfL l
  | [], i, _, h => by simp at h
  | a :: l, 0, x, _ => rfl
  | a :: l, i + 1, x, h => by
    have := cells_set l i x (by simpa using h)
    simp only [cellsOfL, List.set_cons_succ, List.getD_cons_succ, List.map_cons] at this ⊢
    rw [this]
/-- its buffer lies in a row of its own, which may be written -/
def Wb (N : World) (F : List Nat) (br bl : Nat) (K : List Nat) (g : Nat) (w : World) (m : Mac) (cs : List Ins) : Prop := ∃ q arr, RefAt w br q m cs ∧ (q.bl = bl ∧ fpK q cs = K) ∧ Turn [br, bl] [br, bl] N w ∧ (∀ x ∈ Fr br q, x ∈ F ∨ N.heap.size ≤ x) ∧ q.pb = some ⟨g, 0, none⟩ ∧ w.heap[g]? = some (.cells arr 75 (0, 0)) ∧ (br < N.heap.size ∧ bl < N.heap.size ∧ N.heap.size ≤ g ∧ Blw N K) ∧ ∀ p ∈ [q.pa, q.ps, q.pc, q.pt, q.pr], g ∉ fpR p
section
variable {N w : World} {br bl g : Nat} {F K : List Nat} {m : Mac} {cs : List Ins}
theorem Wb.rg (h : Wb N F br bl K g w m cs) : Rg N F br bl K w m cs := by
  obtain ⟨q, _, h1, h2, h3, h4, _⟩ := h
  exact ⟨q, h1, h2, h3, h4⟩
theorem Wb.look (h : Wb N F br bl K g w m cs) : (∃ c, w.cell? ⟨br, 19, none⟩ = some (.slice (some ⟨g, 0, none⟩) m.buf.length c)) ∧ br < w.heap.size ∧ g < w.heap.size ∧ (∀ j, w.frozen? ⟨g, j, none⟩ = false) ∧ ∀ i, i < m.buf.length → w.cell? ⟨g, i * 2, none⟩ = some (.int .i64 (m.buf.getD i (0, 0)).1) ∧ w.cell? ⟨g, i * 2 + 1, none⟩ = some (.float .f64 (m.buf.getD i (0, 0)).2) := by
  obtain ⟨q, arr, h1, _, _, _, h5, h6, _, _⟩ := h
  refine ⟨⟨q.cb, by rw [← h5]; exact (h1.cell 19).trans rfl⟩, h1.ltB, lt_of_block h6, fun j => frozen_of_row w g j _ _ h6, fun i hi => ?_⟩
  obtain ⟨a1, a2⟩ := tch_at m.buf hi
  obtain ⟨g1, o1, e1, b1, _⟩ := h1.buf.get a1
  obtain ⟨g2, o2, e2, b2, _⟩ := h1.buf.get a2
  rw [h5] at e1 e2
  cases e1
  cases e2
  rw [Nat.zero_add] at b1 b2
  exact ⟨b1, b2⟩
theorem Wb.put (h : Wb N F br bl K g w m cs) {i : Nat} (hi : i < m.buf.length) (x : Nat) : Wb N F br bl K g (w.setCell ⟨g, i * 2 + 1, none⟩ (.float .f64 x)) { m with buf := m.buf.set i ((m.buf.getD i (0, 0)).1, x) } cs := by
  obtain ⟨q, arr, h1, h2, h3, h4, h5, h6, ⟨b1, b2, b3, b4⟩, h8⟩ := h
  have t := turn_set w g (i * 2 + 1) (.float .f64 x)
  have k0 : ∀ p ∈ [q.pa, q.ps, q.pc, q.pt, q.pr], Kept (fpR p) w (w.setCell ⟨g, i * 2 + 1, none⟩ (.float .f64 x)) := fun p hp => t.kept (fun y hy z => by simp at z; subst z; exact h8 p hp hy) (fun y hy => h1.lt y (in_fr (by simp [Rp.rows] at hp ⊢; rcases hp with z | z | z | z | z <;> simp [z]) hy))
  have kb : Kept [br] w (w.setCell ⟨g, i * 2 + 1, none⟩ (.float .f64 x)) := t.kept (fun y hy z => by simp at hy z; omega) (fun y hy => by simp at hy; subst hy; exact h1.ltB)
  have hbox : (rboxV { m with buf := m.buf.set i ((m.buf.getD i (0, 0)).1, x) } q) = rboxV m q := by unfold rboxV; rw [List.length_set]
  refine ⟨q, _, { h1 with box := ?_, loc := ?_, arg := h1.arg.keep (k0 _ (by simp)), st := h1.st.keep (k0 _ (by simp)), cal := h1.cal.keep (k0 _ (by simp)), out := h1.out.keep (k0 _ (by simp)), rds := h1.rds.keep (k0 _ (by simp)), buf := ?_, cod := ?_, lt := fun y hy => Nat.lt_of_lt_of_le (h1.lt y hy) t.size, ltk := fun y hy => Nat.lt_of_lt_of_le (h1.ltk y hy) t.size, c5 := ?_, nd := ?_ }, h2, ?_, h4, h5, heap_setCell_same w g (i * 2 + 1) _ _ _ h6, ⟨b1, b2, b3, b4⟩, h8⟩
  · show _ = some (Obj.cells (rboxV { m with buf := m.buf.set i ((m.buf.getD i (0, 0)).1, x) } q) _ _)
    rw [hbox]
    exact (kb.2 br (by simp)).trans h1.box
  · exact h1.loc.keep (t.kept (fun y hy z => by simp [fpR] at hy z; have := h2.1; omega) h1.loc.blw)
  · show Ro _ q.pb ((m.buf.set i ((m.buf.getD i (0, 0)).1, x)).flatMap tchC)
    rw [tch_set m.buf i x hi, h5]
    have hro := h1.buf
    rw [h5] at hro
    refine .inr ⟨g, 0, rfl, fun j v hv => ?_⟩
    rw [Nat.zero_add]
    by_cases hj : i * 2 + 1 = j
    · subst hj
      rw [List.getElem?_set_self (by rw [tch_len]; omega)] at hv
      cases hv
      obtain ⟨_, a2⟩ := tch_at m.buf hi
      obtain ⟨g2, o2, e2, c2, _⟩ := hro.get a2
      cases e2
      rw [Nat.zero_add] at c2
      exact World.cell?_setCell_same _ _ _ c2
    · rw [List.getElem?_set_ne hj] at hv
      obtain ⟨g2, o2, e2, c2, _⟩ := hro.get hv
      cases e2
      rw [Nat.zero_add] at c2
      rw [World.cell?_setCell_other _ _ _ _ (by simp)]
      exact c2
  · exact h1.cod.keepK (t.kept (fun y hy z => by simp at z; subst z; rw [h2.2] at hy; have := b4 _ hy; omega) h1.ltk)
  · show (m.buf.set i ((m.buf.getD i (0, 0)).1, x)).length ≤ q.cb
    rw [List.length_set]
    exact h1.c5
  · show (cellsOfL (m.buf.set i ((m.buf.getD i (0, 0)).1, x))).Nodup
    rw [cells_set m.buf i x hi]
    exact h1.nd
  · refine ⟨h3.os, h3.tape, h3.output, Nat.le_trans h3.size t.size, fun y hy hn => (t.block y (Nat.lt_of_lt_of_le hy h3.size) (by simp; omega)).trans (h3.block y hy hn), fun y hy => .inl hy⟩
end
section
variable {W w : World} {br bl : Nat} {F0 K : List Nat} {m : Mac} {cs : List Ins}
/-- its buffer copied, where it has something -/
theorem Rg.copied (h : Rg W F0 br bl K w m cs) {n : Nat} (hn : m.buf.length = n) (h0 : 0 < n) (h32 : n ≤ 32) (hW : br < W.heap.size ∧ bl < W.heap.size ∧ Blw W K) : ∃ p cb, w.cell? ⟨br, 19, none⟩ = some (.slice p n cb) ∧ br < w.heap.size ∧ ∀ ty, ∃ v u', (Builtin.append_ #[57, 57] ty #[.slice none 0 0, .slice p n cb]).run Tryz.prog w = .ok v u' ∧ ∃ c', v = .slice (some ⟨w.heap.size, 0, none⟩) n c' ∧ (Hid (Wb W F0 br bl K w.heap.size (u'.setCell ⟨br, 19, none⟩ (.slice (some ⟨w.heap.size, 0, none⟩) n c')) m cs) ∧ u'.cell? ⟨br, 19, none⟩ = some (.slice p n cb) ∧ u'.frozen? ⟨br, 19, none⟩ = false ∧ br < u'.heap.size) := by
  obtain ⟨q, hr, hbl, ht, hF⟩ := id h
  rcases hr.buf with ⟨_, z⟩ | ⟨g, o, hp, hro⟩
  · have := congrArg List.length z
    rw [tch_len, hn] at this
    simp at this
    omega
  refine ⟨q.pb, q.cb, by rw [← hn]; exact (hr.cell 19).trans rfl, hr.ltB, fun ty => ?_⟩
  rw [hp]
  obtain ⟨v, u', e1, c', arr, rfl, e2, e3, e4, e5, e6⟩ := app_copy (c := q.cb) hro hn h0 h32 ty
  have h3 := hr.on e5
  refine ⟨_, u', e1, c', rfl, ?_, by rw [← hn, ← hp]; exact (h3.cell 19).trans rfl, h3.free 19, h3.ltB⟩
  have hs := ht.size
  have hlt : ∀ p ∈ q.rows, w.heap.size ∉ fpR p := fun p hp y => absurd (hr.lt _ (in_fr hp y)) (Nat.lt_irrefl _)
  have hrows : ∀ x ∈ ({ q with pb := some ⟨w.heap.size, 0, none⟩, cb := c' } : Rp).rows, Fits w q x ∧ Blw u' (fpR x) := fun x hx => by
    simp only [Rp.rows, List.mem_cons, List.not_mem_nil, or_false] at hx
    rcases hx with rfl | rfl | rfl | rfl | rfl | rfl
    iterate 5 exact ⟨.inl (by simp [Rp.rows]), fun y hy => h3.lt y (in_fr (by simp [Rp.rows]) hy)⟩
    exact ⟨.inr ⟨_, rfl, Nat.le_refl _⟩, fun y hy => by simp [fpR] at hy; omega⟩
  obtain ⟨a1, a2⟩ := hr.re e5 19 (.slice (some ⟨w.heap.size, 0, none⟩) n c') { q with pb := some ⟨w.heap.size, 0, none⟩, cb := c' } m (by rw [← hn]; rfl) ⟨rfl, rfl, rfl, rfl, rfl, rfl, rfl, rfl⟩ ⟨rfl, rfl, rfl, rfl, rfl, rfl⟩ hrows h3.st h3.cal h3.out h3.rds e4 hr.c1 hr.c2 hr.c3 hr.c4 (by rw [hn]; exact e2) hr.nd
  obtain ⟨rfl, rfl⟩ := hbl
  refine ⟨_, arr, a1, ⟨rfl, rfl⟩, ht.trans a2, fr_re ht.size hF rfl (fun x hx => (hrows x hx).1), rfl, ?_, ⟨hW.1, hW.2.1, hs, hW.2.2⟩, fun p hp => hlt p (by simp [Rp.rows] at hp ⊢; rcases hp with z | z | z | z | z <;> simp [z])⟩
  rw [heap_setCell_other _ _ _ _ (by simp; have := hr.ltB; omega)]
  exact e3
/-- the buffer, the first k looked at -/
def lk (l : Wr) (c : Int) (z k : Nat) : Wr := if k ≤ idx l c then l else putC l c z
theorem lk_len (l : Wr) (c : Int) (z k : Nat) (h : hasC l c = true) : (lk l c z k).length = l.length := by
  unfold lk putC
  rw [h]
  split
  · rfl
  · simp
theorem put_set {l : Wr} {c : Int} {z : Nat} (h : hasC l c = true) : putC l c z = l.set (idx l c) ((l.getD (idx l c) (0, 0)).1, z) := by
  have hlt : idx l c < l.length := by unfold hasC at h; simpa using h
  have := idx_at hlt
  unfold putC
  rw [h, if_pos rfl, List.getD_eq_getElem?_getD, List.getElem?_eq_getElem hlt]
  simp only [Option.getD_some, this]
theorem lk_at {l : Wr} {c : Int} {z k : Nat} (hn : (cellsOfL l).Nodup) (h : hasC l c = true) (hk : k < l.length) : ((lk l c z k).getD k (0, 0)).1 = c ↔ k = idx l c := by
  have hlt : idx l c < l.length := by unfold hasC at h; simpa using h
  have e : ((lk l c z k).getD k (0, 0)).1 = (l.getD k (0, 0)).1 := by
    unfold lk
    split
    · rfl
    · rw [put_set h]
      rw [List.getD_eq_getElem?_getD, List.getElem?_set_ne (by omega), ← List.getD_eq_getElem?_getD]
  rw [e, List.getD_eq_getElem?_getD, List.getElem?_eq_getElem hk]
  simp only [Option.getD_some]
  constructor
  · intro q
    have := idx_of hn hk
    rw [q] at this
    exact this.symm
  · rintro rfl
    exact idx_at hlt
theorem lk_next {l : Wr} {c : Int} {z k : Nat} (h : hasC l c = true) (hk : k = idx l c) : (lk l c z k).set k (((lk l c z k).getD k (0, 0)).1, z) = lk l c z (k + 1) := by
  unfold lk
  rw [if_pos (by omega), if_neg (by omega), put_set h, hk]
theorem lk_skip {l : Wr} {c : Int} {z k : Nat} (hk : ¬ k = idx l c) : lk l c z (k + 1) = lk l c z k := by
  unfold lk
  by_cases h1 : k ≤ idx l c
  · rw [if_pos (by omega), if_pos h1]
  · rw [if_neg (by omega), if_neg h1]
theorem lk_end {l : Wr} {c : Int} {z : Nat} (h : hasC l c = true) : lk l c z l.length = putC l c z := by
  have hlt : idx l c < l.length := by unfold hasC at h; simpa using h
  unfold lk
  rw [if_neg (by omega)]
set_option maxRecDepth 100000 in
set_option maxHeartbeats 2000000 in
theorem rwrite_again (h : Rg W F0 br bl K w m cs) {y z : Nat} {s : List Nat} (hs : m.st = y :: z :: s) (hs2 : m.st.length ≤ 64) (ho : y < 18446744073709551616) (hl : m.buf.length ≤ 32) (hu : m.upd = true) (ha : addrB m = true) (hh : hasC m.buf (addrV m) = true) : Calls Tryz.prog 125 #[.pointer (some ⟨br, 0, none⟩)] w fun r w' => r = .returned (askV ⟨3, addrV m, z, false⟩) ∧ Rg W F0 br bl K w' { m with st := s, buf := putC m.buf (addrV m) z } cs := by
  have hbk : br < w.heap.size ∧ bl < w.heap.size ∧ Blw w K := by
    obtain ⟨q, hr, ⟨rfl, rfl⟩, _⟩ := id h
    exact ⟨hr.ltB, hr.lt _ (by simp [Fr]), hr.ltk⟩
  have hnd : (cellsOfL m.buf).Nodup := by
    obtain ⟨q, hr, _⟩ := id h
    exact hr.nd
  obtain ⟨h0, hb⟩ := h.at0
  obtain ⟨t4, h4⟩ := h.tag4
  obtain ⟨F, h1, hX⟩ := h.leave (askO ask0)
  have HX := Lib.hid hX
  have HT := Lib.hid (h1.addr hs hs2)
  have HT1 : Hid (∀ n, Calls Tryz.prog 120 #[.pointer (some ⟨br, 0, none⟩), .int .i64 1] ((w.alloc (askO ask0)).drewN n) fun e w' => e = .returned (.float .f64 z) ∧ ∃ q, w' = (w.alloc (askO ask0)).drewN q) := by
    have := h1.top (k := 1) (by rw [hs]; simp) hs2
    rw [hs] at this
    exact this
  have HI := Lib.hid (fun w => refIndex_any y m.cells w ho)
  have hc : addrV m = idxV y m.cells := by unfold addrV; rw [hs]; rfl
  have ha' : idxE y m.cells = 0 := by unfold addrB at ha; rw [hs] at ha; unfold idxE; exact if_pos ha
  rw [← hc, ha'] at HI
  have HW : Hid (∀ n, Calls Tryz.prog 154 #[.pointer (some ⟨br, 0, none⟩), .int .i64 (addrV m)] ((w.alloc (askO ask0)).drewN n) fun e w' => ∃ xv, e = .returned (.tuple #[.float .f64 xv, .bool true]) ∧ Rg (w.alloc (askO ask0)) F br bl K w' m cs) := fun n => by
    have k1 := h1.same (Same.drewN _ n)
    refine (rwrote_any k1 (addrV m) hl).mono fun e u ⟨a1, a2⟩ => ⟨wroteV m.buf (addrV m), by rw [a1, hh], k1.on a2⟩
  have H319 : Hid (∀ u, Rg (w.alloc (askO ask0)) F br bl K u m cs → (∃ p c, u.cell? ⟨br, 19, none⟩ = some (.slice p m.buf.length c)) ∧ u.cell? ⟨br, 3, none⟩ = some (.int .i64 m.wmax) ∧ br < u.heap.size) := fun u ⟨q, hr, _⟩ => ⟨⟨q.pb, q.cb, (hr.cell 19).trans rfl⟩, (hr.cell 3).trans rfl, hr.ltB⟩
  have HTR : Hid (∀ u, Rg (w.alloc (askO ask0)) F br bl K u m cs → Calls Tryz.prog 105 #[.pointer (some ⟨br, 0, none⟩), .int .i64 2, .slice none 0 0] u fun e w' => e = .returned (.tuple #[]) ∧ Rg (w.alloc (askO ask0)) F br bl K w' { m with st := s } cs) := fun u hu => by
    have := rtrade_none hu (k := 2) (r := s.length) (by rw [hs]; simp) (by omega) hs2
    rw [show m.st.drop 2 = s by rw [hs]; rfl] at this
    exact this
  have ht : t4 = 2 := by rw [h4.2] at hu; simpa using hu
  subst ht
  replace h4 := h4.1
  have hn0 : 0 < m.buf.length := by
    have : idx m.buf (addrV m) < m.buf.length := by unfold hasC at hh; simpa using hh
    omega
  obtain ⟨n, hn⟩ : ∃ n, m.buf.length = n := ⟨_, rfl⟩
  have HCP : Hid (∀ u, Rg (w.alloc (askO ask0)) F br bl K u { m with st := s } cs → _) := fun u hu => Rg.copied (m := { m with st := s }) (n := n) hu hn (by omega) (by omega) ⟨by simp; omega, by simp; omega, fun x hx => by have := hbk.2.2 x hx; simp; omega⟩
  have HL : Hid (∀ k, (lk m.buf (addrV m) z k).length = n) := fun k => (lk_len _ _ _ _ hh).trans hn
  have HAT : Hid (∀ k, k < n → (((lk m.buf (addrV m) z k).getD k (0, 0)).1 = addrV m → (lk m.buf (addrV m) z k).set k (((lk m.buf (addrV m) z k).getD k (0, 0)).1, z) = lk m.buf (addrV m) z (k + 1)) ∧ (¬ ((lk m.buf (addrV m) z k).getD k (0, 0)).1 = addrV m → lk m.buf (addrV m) z (k + 1) = lk m.buf (addrV m) z k)) := fun k hk => ⟨fun e => lk_next hh ((lk_at hnd hh (by omega)).1 e), fun e => lk_skip (fun q => e ((lk_at hnd hh (by omega)).2 q))⟩
  have HE : Hid (lk m.buf (addrV m) z n = putC m.buf (addrV m) z ∧ lk m.buf (addrV m) z 0 = m.buf) := by
    refine ⟨?_, ?_⟩
    · rw [← hn]
      exact lk_end hh
    · unfold lk
      exact if_pos (Nat.zero_le _)
  have hn32 : n ≤ 32 := by omega
  have hfd : True := True.intro
  clear h h1 hX ha ha' ho hs hs2 hu hc hh hnd hbk hl hn0 hfd
  rw [← HE.out.1]
  generalize addrV m = c at *
  go_enter Tryz.func125, Tryz.ntmps125
  go_wp2
  go_quiet (first
    | (go_at_call 120; exact HT.out _)
    | (go_at_call 153; exact Calls.quiet_of_same (HI.out _)))
  go_wp2_with (first
    | (go_at_call 154; refine (HW.out _).mono ?_; rintro e u1 ⟨xv, rfl, q⟩; obtain ⟨⟨pb, cb, b1⟩, b2, b3⟩ := H319.out _ q; have G1 := Lib.hid q; clear q)
    | (go_at_call 120; refine (HT1.out _).mono ?_; rintro e u ⟨rfl, qn, hu⟩; subst u))
  go_quiet (fail)
  go_wp2_with (first
    | (at_builtin; refine wpList_append_ex rfl _ _ _ _ rfl _ _ rfl rfl (e3 _) ?_; rintro v u3 ⟨c', rfl, q0, q1, q2, q3⟩; obtain ⟨⟨cb2, x0⟩, x1, x2, x3, x4⟩ := q0.out.look; have HWB := Lib.hid q0.out; clear q0)
    | (go_at_call 105; refine (HTR.out _ (G1.out.same (Same.drewN _ _))).mono ?_; rintro e u2 ⟨rfl, q⟩; obtain ⟨p, cb1, e1, e2, e3⟩ := HCP.out _ q; have G2 := Lib.hid q; clear q))
  go_loopw [8, 100] (fun _ vi wr => ∃ k : Nat, vi = .int .i64 k ∧ k ≤ n ∧ Hid (Wb (w.alloc (askO ask0)) F br bl K u2.heap.size wr { m with st := s, buf := lk m.buf c z k } cs)) (fun _ vi _ => n - (intOf vi).toNat)
  case atStart =>
    refine ⟨0, rfl, by omega, ?_⟩
    rw [HE.out.2]
    exact HWB.out
  case round =>
    obtain ⟨k, rfl, hk, HWK⟩ := hrel
    obtain ⟨⟨cb3, y0⟩, y1, y2, y3, y4⟩ := HWK.out.look
    by_cases hkn : k < n
    · have hkn' : (k : Int) < (n : Int) := by omega
      have hkl : k < (lk m.buf c z k).length := by rw [HL.out]; exact hkn
      obtain ⟨y5, y6⟩ := y4 k hkl
      have y7 := y3 (k * 2 + 1)
      obtain ⟨a1, a2⟩ := HAT.out k hkn
      have HPT := Lib.hid (HWK.out.put hkl z)
      have HA1 := Lib.hid a1
      have HA2 := Lib.hid a2
      replace y0 : wr.cell? ⟨br, 19, none⟩ = some (.slice (some ⟨u2.heap.size, 0, none⟩) n cb3) := by have y0' := y0; rw [show ({ m with st := s, buf := lk m.buf c z k } : Mac).buf.length = n from HL.out k] at y0'; exact y0'
      replace y5 : wr.cell? ⟨u2.heap.size, k * 2, none⟩ = some (.int .i64 ((lk m.buf c z k).getD k (0, 0)).1) := y5
      replace y6 : wr.cell? ⟨u2.heap.size, k * 2 + 1, none⟩ = some (.float .f64 ((lk m.buf c z k).getD k (0, 0)).2) := y6
      clear y3 y4 a1 a2 hkl x0 x1 x2 x3 x4
      generalize htc : ((lk m.buf c z k).getD k (0, 0)).1 = tc at *
      generalize ((lk m.buf c z k).getD k (0, 0)).2 = tx at *
      by_cases he : tc = c
      · have e7 := HA1.out he
        have HP2 : Hid (Wb (w.alloc (askO ask0)) F br bl K u2.heap.size (wr.setCell ⟨u2.heap.size, k * 2 + 1, none⟩ (.float .f64 z)) { m with st := s, buf := lk m.buf c z (k + 1) } cs) := by
          have := HPT.out
          rw [← e7]
          exact this
        clear e7 HA1 HA2 HPT
        subst he
        clear htc
        go_wp2
        exact ⟨⟨k + 1, by first | rfl | (congr 1), by omega, HP2.out⟩, by simp [intOf]; omega⟩
      · have e7 := HA2.out he
        have HP2 : Hid (Wb (w.alloc (askO ask0)) F br bl K u2.heap.size wr { m with st := s, buf := lk m.buf c z (k + 1) } cs) := by
          show Wb _ _ _ _ _ _ _ _ _
          rw [e7]
          exact HWK.out
        clear e7 HA1 HA2 HPT htc
        go_wp2
        exact ⟨⟨k + 1, by first | rfl | (congr 1), by omega, HP2.out⟩, by simp [intOf]; omega⟩
    · have hkn' : ¬ (k : Int) < (n : Int) := by omega
      obtain rfl : k = n := by omega
      obtain ⟨r1, r2⟩ := HX.out _ _ HWK.out.rg
      obtain ⟨⟨c0, c1, c2, c3, c4⟩, d0, d1, d2, d3⟩ := askO_cells r1
      have G3 := Lib.hid (And.intro r1 r2)
      clear r1 r2 y0 y3 y4 x0 x3 x4
      go_wp2
      exact ask_back rfl w.heap.size ⟨3, c, z, false⟩ rfl (askO_set (k' := ⟨3, c, z, false⟩) G3.out.1) rfl (⟨rfl, G3.out.2 _ (turn4 _ _ (.int .i64 3) (.int .i64 c) (.float .f64 z) (.bool false))⟩)
end
end Go.Proofs.YteinilmecnlanaaGreatDoor
