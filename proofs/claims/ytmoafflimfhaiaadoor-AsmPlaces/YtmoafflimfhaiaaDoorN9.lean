/- stage 19 (asm): the document's Add, Push, Jump, Mark -/
import Derived.Test.YtmoafflimfhaiaaDoorN8
namespace Go.Proofs.YtmoafflimfhaiaaDoor.As
open Go.ChangeShapes Go.WideShapes Go.ChangeAt Go.RowKit Num Go.Maps
attribute [local go_sem] run_store_float frombits_run bits_run

section
variable {w w' u w3 : World} {b : Nat} {s : Bs} {F : List Nat}
theorem labC_snoc (l : List (Option Int)) (o : Option Int) : labC (l ++ [o]) = labC l ++ (#[.int .i64 (o.getD 0)] : Array Value).toList := by simp [labC]
theorem tooC_snoc (l : List (Option Int)) (o : Option Int) : tooC (l ++ [o]) = tooC l ++ (#[.bool o.isSome] : Array Value).toList := by simp [tooC]
theorem mkC_cons (m : Int × Nat) (r : Mk) : mkC (m :: r) = mkC r ++ (#[.int .i64 m.1, .int .i64 (m.2 : Nat)] : Array Value).toList := by simp [mkC]
set_option maxRecDepth 100000 in
set_option maxHeartbeats 1000000 in
theorem radd_any (h : RAt w b F s) (op n : Int) (x : Nat) (o : Option Int) {t : Bool} {l : Int} (ht : o.isSome = t) (hl' : o.getD 0 = l) (hw : ∀ l, o = some l → Wf l) (hl : s.code.length < lim) : Calls Tryd.prog 34 #[.pointer (some ⟨b, 0, none⟩), .agg #[.int .i64 op, .int .i64 n, .float .f64 x], .bool t, .int .i64 l] w fun e w' => ∃ F', e = .returned (.tuple #[]) ∧ RAt w' b F' (s.add ⟨op, n, x⟩ o) ∧ Turn F F' w w' := by
  obtain ⟨v, h, rfl, ok⟩ := h
  obtain ⟨hb, _, h1, _, _, _, _, _⟩ := h.cells
  obtain ⟨w1, hw1⟩ : ∃ w1, w1 = w.alloc (.cells #[.int .i64 op, .int .i64 n, .float .f64 x] 42) := ⟨_, rfl⟩
  have hbox : w1.heap[w.heap.size]? = some (.cells #[.int .i64 op, .int .i64 n, .float .f64 x] 42 (0, 0)) := by rw [hw1]; exact heap_alloc_new _ _
  have b1 : Below w.heap.size w w1 := by rw [hw1]; exact bl1 _ _
  have b2 : Below w.heap.size w (w1.drew.alloc (.cells #[.int .i64 op, .int .i64 n, .float .f64 x] 42)) := (b1.trans ((Same.drew _).below _)).trans ((bl1 w1.drew _).mono b1.size)
  have HA1 := Lib.hid (RRaw.app_c (h.keep (kept_below b2 h.blw)) (gx := w1.heap.size) (heap_alloc_new w1.drew _) rfl (fun y hy => by simp at hy; rcases hy with rfl | rfl | rfl <;> rfl) hl)
  have HT0 := Lib.hid (below_turn (F := fpQ b v) b2)
  have g1 : w1.cell? ⟨b, 1, none⟩ = some (.slice v.pc s.code.length v.cc) := (b1.cell (p := ⟨b, 1, none⟩) hb).trans h1
  have gb : b < w1.heap.size := Nat.lt_of_lt_of_le hb b1.size
  obtain ⟨x0, x1, lx⟩ : w1.cell? ⟨w.heap.size, 0, none⟩ = some (.int .i64 op) ∧ w1.cell? ⟨w.heap.size, 1, none⟩ = some (.int .i64 n) ∧ w.heap.size < w1.heap.size := ⟨(cell_of_row _ _ 0 _ _ _ hbox).trans rfl, (cell_of_row _ _ 1 _ _ _ hbox).trans rfl, lt_of_block hbox⟩
  have x2 : w1.cell? ⟨w.heap.size, 2, none⟩ = some (.float .f64 x) := (cell_of_row _ _ 2 _ _ _ hbox).trans rfl
  have HX : Hid (∀ k, w1.cell? ⟨w.heap.size, k, none⟩ = (w1.drew.alloc (.cells #[.int .i64 op, .int .i64 n, .float .f64 x] 42)).cell? ⟨w.heap.size, k, none⟩) := fun k => (World.cell?_alloc_old w1.drew _ _ (Nat.ne_of_lt lx)).symm
  have HOK : Hid (Ok (s.add ⟨op, n, x⟩ o)) := ok.add _ _ hw
  have HS := Lib.hid (And.intro ht hl')
  have HNX : Hid (w.heap.size ∉ fpR v.pc) := fun q => absurd (h.c.blw _ q) (Nat.lt_irrefl _)
  have HLIM := Lib.hid hl
  have HBX := Lib.hid hbox
  clear h h1 hb ok b1 b2 hbox hw ht hl' hl
  go_enter Tryd.func34, Tryd.ntmps34
  go_upto_region 1 with fail
  rw [← hw1]
  clear hw1
  refine wp_region_seqE (fun u => u.cell? ⟨b, 1, none⟩ = some (.slice v.pc s.code.length v.cc) ∧ u.cell? ⟨w.heap.size, 0, none⟩ = some (.int .i64 op) ∧ u.cell? ⟨w.heap.size, 1, none⟩ = some (.int .i64 n) ∧ u.cell? ⟨w.heap.size, 2, none⟩ = some (.float .f64 x)) ((0, true) :: (1, true) :: (2, true) :: (3, true) :: (4, true) :: (5, true) :: (6, false) :: (7, false) :: (8, true) :: (9, true) :: (10, false) :: []) follows (by kernel_rfl) (fun _ _ _ _ _ h => h) ⟨g1, x0, x1, x2⟩ ?_
  (repeat (refine wpSeqE_take (v := ?_) rfl (by rfl) (fun wq hSq => ?_) ?_; rotate_left; (focus ((try dsimp only at hSq); go_simp; try with_reducible rfl)); simp only [Act.put, List.setIfInBounds_toArray, List.set_cons_zero, List.set_cons_succ]))
  (refine wpSeqE_do rfl (by rfl) (fun KK hK => ?_); go_simp)
  refine hK.out _ _ (fun _ => ⟨(World.cell?_alloc_old w1.drew _ _ (Nat.ne_of_lt gb)).trans g1, (HX.out 0).symm.trans x0, (HX.out 1).symm.trans x1, (HX.out 2).symm.trans x2⟩) ?_
  (clear hK KK; try simp only [Act.put, List.setIfInBounds_toArray, List.set_cons_zero, List.set_cons_succ])
  refine wpSeqE_do rfl (by rfl) (fun KK hK => ?_)
  refine wp_append_ex _ _ 35 35 rfl (.slice v.pc s.code.length v.cc) (.slice (some ⟨w1.heap.size, 0, none⟩) 1 1) rfl rfl (by exact HA1.out _) ?_
  rintro r w3 ⟨⟨k1, k2, k3, k4, k5, k6, k7, kf⟩, ⟨g, c', rfl⟩, kq, kk⟩
  have kf1 := kf 1
  have hbx3 : w3.heap[w.heap.size]? = some (.cells #[.int .i64 op, .int .i64 n, .float .f64 x] 42 (0, 0)) := (kk _ (Nat.lt_of_lt_of_le lx (bl1 w1.drew _).size) HNX.out).trans (((bl1 w1.drew (.cells #[.int .i64 op, .int .i64 n, .float .f64 x] 42)).block _ lx).trans HBX.out)
  refine hK.out _ _ (fun _ => ⟨k3, (cell_of_row _ _ 0 _ _ _ hbx3).trans rfl, (cell_of_row _ _ 1 _ _ _ hbx3).trans rfl, (cell_of_row _ _ 2 _ _ _ hbx3).trans rfl⟩) ?_
  (clear hK KK; try simp only [Act.put, List.setIfInBounds_toArray, List.set_cons_zero, List.set_cons_succ])
  (repeat (refine wpSeqE_take (v := ?_) rfl (by rfl) (fun wq hSq => ?_) ?_; rotate_left; (focus ((try dsimp only at hSq); go_simp; try with_reducible rfl)); simp only [Act.put, List.setIfInBounds_toArray, List.set_cons_zero, List.set_cons_succ]))
  (refine wpSeqE_do rfl (by rfl) (fun KK hK => ?_); go_simp)
  refine hK.out _ _ (fun hn => absurd rfl hn) ?_
  (clear hK KK; try simp only [Act.put])
  refine wpSeqE_nil ?_
  obtain ⟨vA, qA, tA⟩ := kq.out
  obtain ⟨wA, hwA⟩ : ∃ wA, wA = w3.setCell ⟨b, 1, none⟩ (.slice (some ⟨g, 0, none⟩) (s.code.length + 1) c') := ⟨_, rfl⟩
  rw [← hwA] at qA tA ⊢
  have HTA := Lib.hid (HT0.out.trans tA)
  clear hwA k1 k2 k3 k4 k5 k6 k7 kf kf1 kq kk hbx3 tA g1 gb x0 x1 x2 lx HX HNX HBX HA1 HT0
  obtain ⟨a1, a2, a3, a4, a5, a6, a7, _⟩ := qA.cells
  have HA2 := Lib.hid (RRaw.app_t (qA.keep (kept_below (bl1 wA (.cells #[.bool t] 4)) qA.blw)) (gx := wA.heap.size) (heap_alloc_new wA _) rfl (fun y hy => by simp at hy; subst hy; rfl) HLIM.out)
  have HTB := Lib.hid (HTA.out.trans (turn_alloc _ wA (.cells #[.bool t] 4)))
  have HA3 : Hid (∀ (w5 : World) (g5 c5 : Nat), (∃ v', RRaw (w5.setCell ⟨b, 3, none⟩ (.slice (some ⟨g5, 0, none⟩) (s.code.length + 1) c5)) b s.tag s.many (codC s.code ++ (#[.int .i64 op, .int .i64 n, .float .f64 x] : Array Value).toList) (labC s.tos) (tooC s.tos ++ (#[.bool t] : Array Value).toList) (mkC s.marks) (s.code.length + 1) s.code.length (s.code.length + 1) s.marks.length v' ∧ Turn (fpQ b vA) (fpQ b v') (wA.alloc (.cells #[.bool t] 4)) (w5.setCell ⟨b, 3, none⟩ (.slice (some ⟨g5, 0, none⟩) (s.code.length + 1) c5))) →
      ∃ pl cl, (w5.setCell ⟨b, 3, none⟩ (.slice (some ⟨g5, 0, none⟩) (s.code.length + 1) c5)).cell? ⟨b, 2, none⟩ = some (.slice pl s.code.length cl) ∧ ∀ ty, ∃ r w6, (Builtin.append_ #[55, 55] ty #[.slice pl s.code.length cl, .slice (some ⟨w5.heap.size, 0, none⟩) 1 1]).run Tryd.prog ((w5.setCell ⟨b, 3, none⟩ (.slice (some ⟨g5, 0, none⟩) (s.code.length + 1) c5)).alloc (.cells #[.int .i64 l] 3)) = .ok r w6 ∧ b < w6.heap.size ∧ w6.frozen? ⟨b, 2, none⟩ = false ∧ w6.cell? ⟨b, 2, none⟩ = some (.slice pl s.code.length cl) ∧ (∃ g c', r = .slice (some ⟨g, 0, none⟩) (s.code.length + 1) c') ∧ Hid (∃ F', RAt (w6.setCell ⟨b, 2, none⟩ r) b F' (s.add ⟨op, n, x⟩ o) ∧ Turn (fpQ b v) F' w (w6.setCell ⟨b, 2, none⟩ r))) := by
    rintro w5 g5 c5 ⟨vB, qB, tB⟩
    obtain ⟨_, _, _, e3, _⟩ := qB.cells
    refine ⟨vB.pl, vB.cl, e3, fun ty => ?_⟩
    obtain ⟨r, w6, m1, ⟨m2, _, _, m3, _, _, _, m4⟩, m5, m6, _⟩ := RRaw.app_l (qB.keep (kept_below (bl1 _ (.cells #[.int .i64 l] 3)) qB.blw)) (gx := w5.heap.size) (by have := heap_alloc_new (w5.setCell ⟨b, 3, none⟩ (.slice (some ⟨g5, 0, none⟩) (s.code.length + 1) c5)) (.cells #[.int .i64 l] 3); simpa using this) rfl (fun y hy => by simp at hy; subst hy; rfl) HLIM.out ty
    refine ⟨r, w6, m1, m2, m4 2, m3, m5, ?_⟩
    obtain ⟨vC, qC, tC⟩ := m6.out
    refine ⟨_, ⟨vC, ?_, rfl, HOK.out⟩, ((HTB.out.trans tB).trans (turn_alloc _ _ _)).trans tC⟩
    have e1 : codC (s.add ⟨op, n, x⟩ o).code = codC s.code ++ (#[.int .i64 op, .int .i64 n, .float .f64 x] : Array Value).toList := codC_snoc _ _
    have e2 : labC (s.add ⟨op, n, x⟩ o).tos = labC s.tos ++ (#[.int .i64 l] : Array Value).toList := by rw [← HS.out.2]; exact labC_snoc _ _
    have e3 : tooC (s.add ⟨op, n, x⟩ o).tos = tooC s.tos ++ (#[.bool t] : Array Value).toList := by rw [← HS.out.1]; exact tooC_snoc _ _
    have e4 : (s.add ⟨op, n, x⟩ o).code.length = s.code.length + 1 := by simp [Bs.add]
    rw [e1, e2, e3, e4]
    exact qC
  clear qA HTA HTB HOK HS HLIM
  generalize s.code.length = len at *
  go_wp2_with (first
    | (at_builtin; refine wpList_append_ex rfl _ _ _ _ rfl _ _ rfl rfl (by exact HA4.out _) ?_; rintro r6 w6 ⟨m2, m4, m3, ⟨g6, c6, rfl⟩, m6⟩)
    | (at_builtin; refine wpList_append_ex rfl _ _ _ _ rfl _ _ rfl rfl (by exact HA2.out _) ?_; rintro r5 w5 ⟨⟨m1, m2, m3, m4, m5, m6, m7, mf⟩, ⟨g5, c5, rfl⟩, mq, _⟩; have mf3 := mf 3; obtain ⟨pl, cl, f2, f3⟩ := HA3.out w5 g5 c5 mq.out; have HA4 := Lib.hid f3; clear f3 mq mf HA2 HA3))
  go_end0
  exact ⟨_, rfl, m6.out.choose_spec.1, m6.out.choose_spec.2⟩
set_option maxRecDepth 100000 in
theorem rAdd_any (h : RAt w b F s) (op n : Int) (hl : s.code.length < lim) : Calls Tryd.prog 20 #[.pointer (some ⟨b, 0, none⟩), .int .i64 op, .int .i64 n] w fun e w' => ∃ F', e = .returned (.tuple #[]) ∧ RAt w' b F' (s.add ⟨op, n, 0⟩ none) ∧ Turn F F' w w' := by
  have HA := Lib.hid (radd_any h op n 0 none (t := false) (l := 0) rfl rfl (by simp) hl)
  clear h hl
  go_enter Tryd.func20, Tryd.ntmps20
  go_wp2_with (go_at_call 34; refine HA.out.mono ?_; rintro e w' ⟨F', rfl, q1, q2⟩; have HQ := Lib.hid (And.intro q1 q2); clear q1 q2)
  go_end0
  exact ⟨F', rfl, HQ.out⟩
set_option maxRecDepth 100000 in
theorem rPush_any (h : RAt w b F s) (x : Nat) (hl : s.code.length < lim) : Calls Tryd.prog 21 #[.pointer (some ⟨b, 0, none⟩), .float .f64 x] w fun e w' => ∃ F', e = .returned (.tuple #[]) ∧ RAt w' b F' (s.add ⟨1, 0, x⟩ none) ∧ Turn F F' w w' := by
  have HA := Lib.hid (radd_any h 1 0 x none (t := false) (l := 0) rfl rfl (by simp) hl)
  clear h hl
  go_enter Tryd.func21, Tryd.ntmps21
  go_wp2_with (go_at_call 34; refine HA.out.mono ?_; rintro e w' ⟨F', rfl, q1, q2⟩; have HQ := Lib.hid (And.intro q1 q2); clear q1 q2)
  go_end0
  exact ⟨F', rfl, HQ.out⟩
set_option maxRecDepth 100000 in
theorem rJump_any (h : RAt w b F s) (op l : Int) (hw : Wf l) (hl : s.code.length < lim) : Calls Tryd.prog 22 #[.pointer (some ⟨b, 0, none⟩), .int .i64 op, .int .i64 l] w fun e w' => ∃ F', e = .returned (.tuple #[]) ∧ RAt w' b F' (s.add ⟨op, 0, 0⟩ (some l)) ∧ Turn F F' w w' := by
  have HA := Lib.hid (radd_any h op 0 0 (some l) (t := true) (l := l) rfl rfl (by rintro l' e; cases e; exact hw) hl)
  clear h hl hw
  go_enter Tryd.func22, Tryd.ntmps22
  go_wp2_with (go_at_call 34; refine HA.out.mono ?_; rintro e w' ⟨F', rfl, q1, q2⟩; have HQ := Lib.hid (And.intro q1 q2); clear q1 q2)
  go_end0
  exact ⟨F', rfl, HQ.out⟩
set_option maxRecDepth 100000 in
set_option maxHeartbeats 1000000 in
theorem rMark_any (h : RAt w b F s) (l : Int) (hl : s.marks.length < lim) : Calls Tryd.prog 24 #[.pointer (some ⟨b, 0, none⟩), .int .i64 l] w fun e w' => ∃ F', e = .returned (.tuple #[]) ∧ RAt w' b F' (s.mark l) ∧ Turn F F' w w' := by
  obtain ⟨v, h, rfl, ok⟩ := h
  obtain ⟨hb, _, h1, _, _, _, h5, _⟩ := h.cells
  have b2 : Below w.heap.size w (w.drew.alloc (.cells #[.int .i64 l, .int .i64 (s.code.length : Nat)] 67)) := ((Same.drew _).below _).trans (bl1 w.drew _)
  have HA := Lib.hid (RRaw.app_m (h.keep (kept_below b2 h.blw)) (gx := w.heap.size) (heap_alloc_new w.drew _) rfl (fun y hy => by simp at hy; rcases hy with rfl | rfl <;> rfl) hl)
  have HT := Lib.hid (below_turn (F := fpQ b v) b2)
  have HE : Hid (∀ u v', RRaw u b s.tag s.many (codC s.code) (labC s.tos) (tooC s.tos) (mkC s.marks ++ (#[.int .i64 l, .int .i64 (s.code.length : Nat)] : Array Value).toList) s.code.length s.code.length s.code.length (s.marks.length + 1) v' → RAt u b (fpQ b v') (s.mark l)) := fun u v' q => by
    refine ⟨v', ?_, rfl, ok.mark l⟩
    have e : mkC (s.mark l).marks = mkC s.marks ++ (#[.int .i64 l, .int .i64 (s.code.length : Nat)] : Array Value).toList := mkC_cons _ _
    have e2 : (s.mark l).marks.length = s.marks.length + 1 := rfl
    rw [e, e2]
    exact q
  clear h ok b2 hl
  go_enter Tryd.func24, Tryd.ntmps24
  refine wp_region_seqE (fun u => u.cell? ⟨b, 1, none⟩ = some (.slice v.pc s.code.length v.cc) ∧ u.cell? ⟨b, 5, none⟩ = some (.slice v.pm s.marks.length v.cm)) ((0, true) :: (1, true) :: (2, true) :: (3, true) :: (4, true) :: (5, true) :: (6, true) :: (7, true) :: (8, true) :: (9, true) :: (10, true) :: (11, true) :: (12, false) :: (13, false) :: (14, true) :: (15, true) :: (16, false) :: []) follows (by kernel_rfl) (fun _ _ _ _ _ h => h) ⟨h1, h5⟩ ?_
  (repeat (refine wpSeqE_take (v := ?_) rfl (by rfl) (fun wq hSq => ?_) ?_; rotate_left; (focus ((try dsimp only at hSq); go_simp; try with_reducible rfl)); simp only [Act.put, List.setIfInBounds_toArray, List.set_cons_zero, List.set_cons_succ]))
  (refine wpSeqE_do rfl (by rfl) (fun KK hK => ?_); go_simp)
  refine hK.out _ _ (fun _ => ⟨(World.cell?_alloc_old w.drew _ _ (Nat.ne_of_lt hb)).trans h1, (World.cell?_alloc_old w.drew _ _ (Nat.ne_of_lt hb)).trans h5⟩) ?_
  (clear hK KK; try simp only [Act.put, List.setIfInBounds_toArray, List.set_cons_zero, List.set_cons_succ])
  refine wpSeqE_do rfl (by rfl) (fun KK hK => ?_)
  refine wp_append_ex _ _ 57 57 rfl (.slice v.pm s.marks.length v.cm) (.slice (some ⟨w.heap.size, 0, none⟩) 1 1) rfl rfl (by exact HA.out _) ?_
  rintro r w3 ⟨⟨k1, k2, k3, k4, k5, k6, k7, kf⟩, ⟨g, c', rfl⟩, kq, _⟩
  have kf5 := kf 5
  refine hK.out _ _ (fun _ => ⟨k3, k7⟩) ?_
  (clear hK KK; try simp only [Act.put, List.setIfInBounds_toArray, List.set_cons_zero, List.set_cons_succ])
  (repeat (refine wpSeqE_take (v := ?_) rfl (by rfl) (fun wq hSq => ?_) ?_; rotate_left; (focus ((try dsimp only at hSq); go_simp; try with_reducible rfl)); simp only [Act.put, List.setIfInBounds_toArray, List.set_cons_zero, List.set_cons_succ]))
  (refine wpSeqE_do rfl (by rfl) (fun KK hK => ?_); go_simp)
  refine hK.out _ _ (fun hn => absurd rfl hn) ?_
  (clear hK KK; try simp only [Act.put])
  refine wpSeqE_nil ?_
  go_wp2_with fail
  go_end0
  obtain ⟨v', q1, q2⟩ := kq.out
  exact ⟨rfl, _, HE.out _ _ q1, HT.out.trans q2⟩
end
end Go.Proofs.YtmoafflimfhaiaaDoor.As
