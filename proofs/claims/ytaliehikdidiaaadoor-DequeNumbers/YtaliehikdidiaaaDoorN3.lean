/- stage 19 (asm): the builder's calls but Program -/
import Derived.Test.YtaliehikdidiaaaDoorN2
import Derived.Test.YtaliehikdidiaaaDoorSq
import Derived.StillTailTactics
import Derived.Deep.RegionLaw
namespace Go.Proofs.YtaliehikdidiaaaDoor.As
open Go.ChangeShapes Go.WideShapes Go.ChangeAt Go.RowKit Num Go.Maps
attribute [local go_sem] run_store_float frombits_run bits_run

theorem follows : Tryd.prog.follows .mixedOrders = true := by kernel_rfl
/-- a region that draws its order, whose first n operations only read, and whose others come in their order -/
theorem region_tail {id : Nat} {Q : Exit → Act → World → Prop} {a : Act} {w : World} {l : List Oper} (n : Nat) (hB : Region.lexTailB .any l.toArray n = true)
    (h : wpStill Tryd.prog l.toArray w.drew (fun a' => wpList Tryd.prog l.toArray Q (l.drop n) a' w.drew) (l.take n) a) : (Code.region id l.toArray true).wp Tryd.prog Q a w := wp_region_still_tail n follows hB h
theorem insInfo : (Tryd.prog.info? 63).map (fun i => (i.zero, i.size, i.bytes)) = some (some (.agg #[.int .i64 0, .int .i64 0, .float .f64 0]), 3, 24) := by kernel_rfl
theorem filInfo : (Tryd.prog.info? 72).map (fun i => (i.zero, i.size, i.bytes)) = some (some .nilFunc, 1, 8) := by kernel_rfl
theorem bl1 (w : World) (o : Obj) : Below w.heap.size w (w.alloc o) := (Below.refl _ _).alloc (Nat.le_refl _) o
/-- as many instructions as there may be moves -/
def lim : Nat := 4398046511000
section
variable {w w' u w3 : World} {b : Nat} {s : Bs} {v : Bv} {F : List Nat}
theorem new_at (t : Int) (w : World) : ∃ F, Bld ((w.alloc (.map #[] 0)).alloc (.cells #[.int .i64 t, .slice none 0 0, .int .i64 0, .map (some w.heap.size), .bool false, .slice none 0 0] 60)) (w.heap.size + 1) F (new t) ∧ Abv w.heap.size F ∧ Below w.heap.size w ((w.alloc (.map #[] 0)).alloc (.cells #[.int .i64 t, .slice none 0 0, .int .i64 0, .map (some w.heap.size), .bool false, .slice none 0 0] 60)) := by
  have e1 : (w.alloc (.map #[] 0)).heap.size = w.heap.size + 1 := by simp
  refine ⟨_, ⟨⟨none, 0, w.heap.size, none, 0, []⟩, ⟨?_, rowW_nil _ _ _, ?_, ⟨[], rowW_nil _ _ _, fun j hj => absurd hj (Nat.not_lt_zero _)⟩, fun k hk => absurd hk (by simp), ok_new t⟩, rfl⟩, fun k hk => ?_, ((Below.refl _ _).alloc (Nat.le_refl _) _).alloc (by simp) _⟩
  · have := heap_alloc_new (w.alloc (.map #[] 0)) (.cells #[.int .i64 t, .slice none 0 0, .int .i64 0, .map (some w.heap.size), .bool false, .slice none 0 0] 60)
    rw [e1] at this
    exact this
  · exact (mapI_new w).keep (Below.heap_alloc _ _ _ (by simp))
  · simp [fpB, fpR] at hk
    omega
set_option maxRecDepth 100000 in
theorem new_any (t : Int) (w : World) : Calls Tryd.prog 43 #[.int .i64 t] w fun e w' => ∃ b F, e = .returned (.pointer (some ⟨b, 0, none⟩)) ∧ Bld w' b F (new t) ∧ Abv w.heap.size F ∧ Below w.heap.size w w' := by
  have hmm := @run_makeMap Tryd.prog
  have HN := Lib.hid (new_at t w)
  go_enter Tryd.func43, Tryd.ntmps43
  go_wp2
  go_ret
  obtain ⟨F, h⟩ := HN.out
  exact ⟨_, F, by simp, h⟩
theorem len_any (h : Bld w b F s) : Calls Tryd.prog 48 #[.pointer (some ⟨b, 0, none⟩)] w fun e w' => e = .returned (.int .i64 s.code.length) ∧ w' = w := by
  obtain ⟨v, h, rfl⟩ := h
  obtain ⟨hb, _, h1, _⟩ := h.cells
  generalize s.code.length = n at *
  clear h
  go_enter Tryd.func48, Tryd.ntmps48
  go_wp2
  go_ret
  exact ⟨rfl, rfl⟩
/-- an instruction more: behind append, the store of its field -/
theorem BAt.put (h : BAt u b s v) {i : Ins} {g c' : Nat} (hr : RowW 63 3 w3 (some ⟨g, 0, none⟩) c' (s.code.length + 1) (codC (s.code.map fixI) ++ (#[.int .i64 i.op, .int .i64 i.n, .float .f64 (fixB i.x)] : Array Value).toList)) (ht : Turn (fpR v.pi) [g] u w3) :
    BAt (w3.setCell ⟨b, 1, none⟩ (.slice (some ⟨g, 0, none⟩) (s.code.length + 1) c')) b (s.add i none) { v with pi := some ⟨g, 0, none⟩, ci := c' } ∧ Turn (fpB b v) (fpB b { v with pi := some ⟨g, 0, none⟩, ci := c' }) u (w3.setCell ⟨b, 1, none⟩ (.slice (some ⟨g, 0, none⟩) (s.code.length + 1) c')) := by
  obtain ⟨a1, a2, a3, a4, a5, a6, a7, a8, a9, a10⟩ := h.apart
  have hblw := h.blw
  have old : ∀ k, k ∈ fpB b v → k ∉ fpR v.pi → w3.heap[k]? = u.heap[k]? := fun k hk hn => ht.block k (hblw k hk) hn
  have mb : b ∈ fpB b v := mem_fpB.2 (.inl rfl)
  have mm : v.bm ∈ fpB b v := mem_fpB.2 (.inr (.inl rfl))
  have mL : ∀ k ∈ fpR v.pL, k ∈ fpB b v := fun k hk => mem_fpB.2 (.inr (.inr (.inr (.inl hk))))
  have mR : ∀ k ∈ v.R, k ∈ fpB b v := fun k hk => mem_fpB.2 (.inr (.inr (.inr (.inr hk))))
  have hbox := (old b mb a2).trans h.box
  have hg := ht.own g (by simp)
  have gb : g ≠ b := by
    rintro rfl
    exact hg.elim a2 fun q => absurd (hblw _ mb) (Nat.not_lt.2 q)
  have kp : ∀ G, (∀ k ∈ G, k ∈ fpB b v) → b ∉ G → Sep G (fpR v.pi) → Kept G u (w3.setCell ⟨b, 1, none⟩ (.slice (some ⟨g, 0, none⟩) (s.code.length + 1) c')) := fun G hG hb hs => ⟨by simpa using ht.size, fun k hk => (heap_setCell_other _ _ _ _ (by rintro rfl; exact hb hk)).trans (old k (hG k hk) (hs k hk))⟩
  have e : (s.add i none).code.length = s.code.length + 1 := by simp [Bs.add]
  have eC : codC ((s.add i none).code.map fixI) = codC (s.code.map fixI) ++ (#[.int .i64 i.op, .int .i64 i.n, .float .f64 (fixB i.x)] : Array Value).toList := by
    show codC ((s.code ++ [i]).map fixI) = _
    rw [List.map_append, List.map_cons, List.map_nil, codC_snoc]
    rfl
  have kR := kp v.R mR a4 a9.symm
  refine ⟨⟨?_, ?_, h.map.keep ((heap_setCell_other _ _ _ _ (Ne.symm a1)).trans (old _ mm a5)), ?_, h.caps.keep kR, h.ok.add i none (by simp)⟩, ⟨ht.os, ht.tape, ht.output, by simpa using ht.size, fun k hk hn => ?_, fun k hk => ?_⟩⟩
  · refine (heap_setCell_same w3 b 1 _ _ _ hbox).trans ?_
    simp [boxA, Bs.add]
  · rw [e, eC]
    exact hr.keep ⟨by simp, fun k hk => heap_setCell_other _ _ _ _ (by
      obtain rfl : k = g := by simpa [fpR] using hk
      exact gb)⟩
  · obtain ⟨vs, l1, l2⟩ := h.lat
    exact ⟨vs, l1.keep (kp _ mL a3 a8.symm), fun j hj => by obtain ⟨y, e1, e2⟩ := l2 j hj; exact ⟨y, e1, e2.keep kR⟩⟩
  · have hn1 : k ≠ b := by rintro rfl; exact hn mb
    exact (heap_setCell_other _ _ _ _ hn1).trans (ht.block k hk fun q => hn (mem_fpB.2 (.inr (.inr (.inl q)))))
  · rcases mem_fpB.1 hk with q | q | q | q | q
    · exact .inl (q ▸ mb)
    · exact .inl (q ▸ mm)
    · obtain rfl : k = g := by simpa [fpR] using q
      exact hg.imp (fun z => mem_fpB.2 (.inr (.inr (.inl z)))) id
    · exact .inl (mL k q)
    · exact .inl (mR k q)
/-- append, then the store: what the walk reads -/
theorem BAt.app (h : BAt u b s v) (i : Ins) {gx : Nat} (hx : u.heap[gx]? = some (.cells #[.int .i64 i.op, .int .i64 i.n, .float .f64 (fixB i.x)] 63 (0, 0))) (hl : s.code.length < lim) (ty : TypeId) :
    ∃ r w3, (Builtin.append_ #[22, 22] ty #[.slice v.pi s.code.length v.ci, .slice (some ⟨gx, 0, none⟩) 1 1]).run Tryd.prog u = .ok r w3 ∧ b < w3.heap.size ∧ w3.frozen? ⟨b, 1, none⟩ = false ∧ w3.cell? ⟨b, 1, none⟩ = some (.slice v.pi s.code.length v.ci) ∧ (∃ g c', r = .slice (some ⟨g, 0, none⟩) (s.code.length + 1) c') ∧ Hid (∃ F', Bld (w3.setCell ⟨b, 1, none⟩ r) b F' (s.add i none) ∧ Turn (fpB b v) F' u (w3.setCell ⟨b, 1, none⟩ r)) := by
  unfold lim at hl
  obtain ⟨r, w3, h1, g, c', rfl, h2, h3⟩ := h.ins.app Tryd.underlying22 insInfo rfl (by decide) hx rfl (fun y hy => by simp at hy; rcases hy with rfl | rfl | rfl <;> rfl) (by unfold maxLen; omega) (by omega) ty
  obtain ⟨q1, q2⟩ := h.put h2 h3
  obtain ⟨a1, a2, _⟩ := h.apart
  have hbox := (h3.block b (lt_of_block h.box) a2).trans h.box
  exact ⟨_, w3, h1, lt_of_block hbox, frozen_of_row _ _ _ _ _ hbox, (cell_of_row _ _ _ _ _ _ hbox).trans rfl, ⟨g, c', rfl⟩, _, ⟨_, q1, rfl⟩, q2⟩
set_option maxRecDepth 100000 in
theorem add_any (h : Bld w b F s) (op n : Int) (hl : s.code.length < lim) : Calls Tryd.prog 40 #[.pointer (some ⟨b, 0, none⟩), .int .i64 op, .int .i64 n] w fun e w' => ∃ F', e = .returned (.tuple #[]) ∧ Bld w' b F' (s.add ⟨op, n, 0⟩ none) ∧ Turn F F' w w' := by
  obtain ⟨v, h, rfl⟩ := h
  obtain ⟨hb, _, h1, _⟩ := h.cells
  have HA := Lib.hid (BAt.app (h.keep (kept_below (bl1 w (.cells #[.int .i64 op, .int .i64 n, .float .f64 0] 63)) h.blw)) ⟨op, n, 0⟩ (gx := w.heap.size) (heap_alloc_new _ _) hl)
  have HT := Lib.hid (turn_alloc (fpB b v) w (.cells #[.int .i64 op, .int .i64 n, .float .f64 0] 63))
  generalize s.code.length = len at *
  clear h
  go_enter Tryd.func40, Tryd.ntmps40
  go_wp2_with (at_builtin; refine wpList_append_ex rfl _ _ _ _ rfl _ _ rfl rfl (by exact HA.out _) ?_; rintro r w3 ⟨k1, k2, k3, ⟨g, c', rfl⟩, k4⟩)
  go_end0
  obtain ⟨F', f1, f2⟩ := k4.out
  exact ⟨F', rfl, f1, HT.out.trans f2⟩
theorem fixed_any (x : Nat) (w : World) : Calls Tryd.prog 47 #[.float .f64 x] w fun e w' => e = .returned (.float .f64 (fixB x)) ∧ w' = w := by
  have H := Lib.hid (isNaN_any x w)
  cases g : nan x
  · rw [fixB_num g]
    rw [g] at H
    go_enter Tryd.func47, Tryd.ntmps47
    go_wp2_with (go_at_call 54; refine H.out.mono ?_; rintro e w' ⟨rfl, hw⟩; subst w')
    go_ret
    exact ⟨rfl, rfl⟩
  · rw [fixB_nan g]
    rw [g] at H
    go_enter Tryd.func47, Tryd.ntmps47
    go_wp2_with (go_at_call 54; refine H.out.mono ?_; rintro e w' ⟨rfl, hw⟩; subst w')
    go_ret
    exact ⟨rfl, rfl⟩
set_option maxRecDepth 100000 in
theorem push_any (h : Bld w b F s) (x : Nat) (hl : s.code.length < lim) : Calls Tryd.prog 36 #[.pointer (some ⟨b, 0, none⟩), .float .f64 x] w fun e w' => ∃ F', e = .returned (.tuple #[]) ∧ Bld w' b F' (s.add ⟨1, 0, x⟩ none) ∧ Turn F F' w w' := by
  obtain ⟨v, h, rfl⟩ := h
  obtain ⟨hb, _, h1, _⟩ := h.cells
  have HA := Lib.hid (BAt.app (h.keep (w' := w.drew.alloc (.cells #[.int .i64 1, .int .i64 0, .float .f64 (fixB x)] 63)) (kept_below (((Same.drew w).below _).trans (bl1 w.drew _)) h.blw)) ⟨1, 0, x⟩ (gx := w.heap.size) (heap_alloc_new w.drew _) hl)
  have HT := Lib.hid (((Same.drew w).turn (fpB b v)).trans (turn_alloc (fpB b v) w.drew (.cells #[.int .i64 1, .int .i64 0, .float .f64 (fixB x)] 63)))
  generalize s.code.length = len at *
  clear h
  go_enter Tryd.func36, Tryd.ntmps36
  refine wp_region_seqE (fun u => u.cell? ⟨b, 1, none⟩ = some (.slice v.pi len v.ci)) ((0, true) :: (1, true) :: (2, true) :: (3, true) :: (4, true) :: (5, true) :: (6, false) :: (7, true) :: (8, false) :: (9, false) :: (10, true) :: (11, true) :: (12, false) :: []) follows (by kernel_rfl) (fun _ _ _ _ _ h => h) h1 ?_
  (repeat (refine wpSeqE_take (v := ?_) rfl (by rfl) (fun wq hSq => ?_) ?_; rotate_left; (focus ((try dsimp only at hSq); go_simp; try with_reducible rfl)); simp only [Act.put, List.setIfInBounds_toArray, List.set_cons_zero, List.set_cons_succ]))
  (refine wpSeqE_do rfl (by rfl) (fun KK hK => ?_); go_simp)
  refine (fixed_any x _).mono ?_
  rintro r u0 ⟨rfl, hu⟩
  subst u0
  refine hK.out _ _ (fun _ => h1) ?_
  (clear hK KK; try simp only [Act.put, List.setIfInBounds_toArray, List.set_cons_zero, List.set_cons_succ])
  (repeat (refine wpSeqE_take (v := ?_) rfl (by rfl) (fun wq hSq => ?_) ?_; rotate_left; (focus ((try dsimp only at hSq); go_simp; try with_reducible rfl)); simp only [Act.put, List.setIfInBounds_toArray, List.set_cons_zero, List.set_cons_succ]))
  (refine wpSeqE_do rfl (by rfl) (fun KK hK => ?_); go_simp)
  refine hK.out _ _ (fun _ => (World.cell?_alloc_old _ _ _ (Nat.ne_of_lt hb)).trans h1) ?_
  (clear hK KK; try simp only [Act.put, List.setIfInBounds_toArray, List.set_cons_zero, List.set_cons_succ])
  refine wpSeqE_do rfl (by rfl) (fun KK hK => ?_)
  refine wp_append_ex _ _ 22 22 rfl (.slice v.pi len v.ci) (.slice (some ⟨w.heap.size, 0, none⟩) 1 1) rfl rfl (by exact HA.out _) ?_
  rintro r w3 ⟨k1, k2, k3, ⟨g, c', rfl⟩, k4⟩
  refine hK.out _ _ (fun _ => k3) ?_
  (clear hK KK; try simp only [Act.put, List.setIfInBounds_toArray, List.set_cons_zero, List.set_cons_succ])
  (repeat (refine wpSeqE_take (v := ?_) rfl (by rfl) (fun wq hSq => ?_) ?_; rotate_left; (focus ((try dsimp only at hSq); go_simp; try with_reducible rfl)); simp only [Act.put, List.setIfInBounds_toArray, List.set_cons_zero, List.set_cons_succ]))
  (refine wpSeqE_do rfl (by rfl) (fun KK hK => ?_); go_simp)
  refine hK.out _ _ (fun hn => absurd rfl hn) ?_
  (clear hK KK; try simp only [Act.put])
  refine wpSeqE_nil ?_
  go_wp2_with fail
  go_end0
  obtain ⟨F', f1, f2⟩ := k4.out
  exact ⟨F', rfl, f1, HT.out.trans f2⟩
end
end Go.Proofs.YtaliehikdidiaaaDoor.As
