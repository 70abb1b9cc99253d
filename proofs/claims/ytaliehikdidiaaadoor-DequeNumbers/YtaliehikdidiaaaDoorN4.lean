/- stage 19 (asm): Label, Mark, To -/
import Derived.Test.YtaliehikdidiaaaDoorN3
namespace Go.Proofs.YtaliehikdidiaaaDoor.As
open Go.ChangeShapes Go.WideShapes Go.ChangeAt Go.RowKit Num Go.Maps
attribute [local go_sem] run_store_float frombits_run bits_run

section
variable {w w' u w3 : World} {b : Nat} {s : Bs} {v : Bv} {F : List Nat}
theorem BAt.lab (h : BAt w b s v) (hm : ¬ s.many = 256) : BAt (w.setCell ⟨b, 2, none⟩ (.int .i64 ((s.many : Int) + 1))) b s.lab v := by
  obtain ⟨a1, a2, a3, a4, _⟩ := h.apart
  have kp : ∀ G, b ∉ G → Kept G w (w.setCell ⟨b, 2, none⟩ (.int .i64 ((s.many : Int) + 1))) := fun G hb => ⟨by simp, fun k hk => heap_setCell_other _ _ _ _ (by rintro rfl; exact hb hk)⟩
  have e : s.lab = { s with many := s.many + 1 } := by unfold Bs.lab; rw [if_neg hm]
  have ok := h.ok.lab
  rw [e] at ok ⊢
  refine ⟨(heap_setCell_same w b 2 _ _ _ h.box).trans (by simp [boxA]), h.ins.keep (kp _ a2), h.map.keep (heap_setCell_other _ _ _ _ (Ne.symm a1)), ?_, h.caps.keep (kp _ a4), ok⟩
  obtain ⟨vs, l1, l2⟩ := h.lat
  exact ⟨vs, l1.keep (kp _ a3), fun j hj => by obtain ⟨y, e1, e2⟩ := l2 j hj; exact ⟨y, e1, e2.keep (kp _ a4)⟩⟩
set_option maxRecDepth 100000 in
theorem label_any (h : Bld w b F s) : Calls Tryd.prog 44 #[.pointer (some ⟨b, 0, none⟩)] w fun e w' => ∃ F', e = .returned (.int .i64 s.labV) ∧ Bld w' b F' s.lab ∧ Turn F F' w w' := by
  have H0 := h
  obtain ⟨v, h, rfl⟩ := h
  obtain ⟨hb, _, _, h2, _, _, _, hf⟩ := h.cells
  have hf2 := hf 2
  have hm := h.ok.many
  unfold Bs.labV
  by_cases h256 : s.many = 256
  · have e1 : s.lab = s := by unfold Bs.lab; rw [if_pos h256]
    rw [if_pos h256, e1]
    rw [h256] at h2
    have HF := Lib.hid H0
    clear h H0 hf hm
    go_enter Tryd.func44, Tryd.ntmps44
    go_wp2
    go_ret
    exact ⟨_, rfl, HF.out, Turn.refl _ _⟩
  · rw [if_neg h256]
    have HB := Lib.hid (h.lab h256)
    have HT : Hid (Turn (fpB b v) (fpB b v) w (w.setCell ⟨b, 2, none⟩ (.int .i64 ((s.many : Int) + 1)))) := Turn.widen (turn_set b 2 _ w) (fun k hk => mem_fpB.2 (.inl (by simpa using hk))) (fun _ hk => .inl hk)
    have hne : ((s.many : Int) == 256) = false := by simp; omega
    generalize s.lab = sl at *
    generalize s.many = m at *
    clear h H0 hf
    go_enter Tryd.func44, Tryd.ntmps44
    go_wp2
    go_ret
    exact ⟨_, by simp, ⟨v, HB.out, rfl⟩, HT.out⟩
theorem len_at {n c : Nat} {p : Option Addr} (h1 : w.cell? ⟨b, 1, none⟩ = some (.slice p n c)) : Calls Tryd.prog 48 #[.pointer (some ⟨b, 0, none⟩)] w fun e w' => e = .returned (.int .i64 n) ∧ w' = w := by
  go_enter Tryd.func48, Tryd.ntmps48
  go_wp2
  go_ret
  exact ⟨rfl, rfl⟩
/-- a label is marked: behind the box's store (if there is one), the map's -/
theorem BAt.marked (h : BAt w b s v) {l : Int} (hw : Wf l) (hn : s.marks.length < maxLen) (hbox : w'.heap[b]? = some (.cells (boxA (s.mark l) v) 60 (0, 0))) (ht : Turn [b] [b] w w') :
    ∃ w4, (Instr.mapUpdate 57 (.map (some v.bm)) (.int .i64 l) (.int .i64 (s.code.length : Nat))).run Tryd.prog w' = .ok () w4 ∧ Hid (BAt w4 b (s.mark l) v ∧ Turn (fpB b v) (fpB b v) w w4) := by
  obtain ⟨a1, a2, a3, a4, a5, a6, a7, _⟩ := h.apart
  have hm : MapI w' v.bm s.marks := h.map.keep (ht.block _ h.map.lt (by simp [Ne.symm a1]))
  obtain ⟨w4, e, m4, t4⟩ := hm.lay hw s.code.length hn
  have hblw := h.blw
  have kp : ∀ G, (∀ k ∈ G, k ∈ fpB b v) → b ∉ G → v.bm ∉ G → Kept G w w4 := fun G hG hb hm => ⟨Nat.le_trans ht.size t4.size, fun k hk => (t4.block k (Nat.lt_of_lt_of_le (hblw k (hG k hk)) ht.size) (by simp; rintro rfl; exact hm hk)).trans (ht.block k (hblw k (hG k hk)) (by simp; rintro rfl; exact hb hk))⟩
  have kR := kp v.R (fun k hk => mem_fpB.2 (.inr (.inr (.inr (.inr hk))))) a4 a7
  refine ⟨w4, e, ⟨(t4.block b (lt_of_block hbox) (by simp [a1])).trans hbox, h.ins.keep (kp _ (fun k hk => mem_fpB.2 (.inr (.inr (.inl hk)))) a2 a5), m4, ?_, h.caps.keep kR, h.ok.mark l⟩, ?_⟩
  · obtain ⟨vs, l1, l2⟩ := h.lat
    exact ⟨vs, l1.keep (kp _ (fun k hk => mem_fpB.2 (.inr (.inr (.inr (.inl hk))))) a3 a6), fun j hj => by obtain ⟨y, e1, e2⟩ := l2 j hj; exact ⟨y, e1, e2.keep kR⟩⟩
  · exact (Turn.widen ht (fun k hk => mem_fpB.2 (.inl (by simpa using hk))) (fun _ hk => .inl hk)).trans (Turn.widen t4 (fun k hk => mem_fpB.2 (.inr (.inl (by simpa using hk)))) (fun _ hk => .inl hk))
set_option maxRecDepth 100000 in
theorem mark_any (h : Bld w b F s) {l : Int} (hw : Wf l) (hn : s.marks.length < maxLen) : Calls Tryd.prog 42 #[.pointer (some ⟨b, 0, none⟩), .int .i64 l] w fun e w' => ∃ F', e = .returned (.tuple #[]) ∧ Bld w' b F' (s.mark l) ∧ Turn F F' w w' := by
  obtain ⟨v, h, rfl⟩ := h
  obtain ⟨hb, _, h1, _, h3, h4, _, hf⟩ := h.cells
  have hlk := h.map.look hw
  have e1 : boxA (s.mark l) v = (boxA s v).setIfInBounds 4 (.bool (hasM s.marks l || twB s.marks)) := rfl
  cases hh : hasM s.marks l
  · rw [hh] at hlk e1
    have e2 : boxA (s.mark l) v = boxA s v := by rw [e1]; simp [boxA]
    obtain ⟨w4, k1, k2⟩ := h.marked (w' := w.drew) hw hn (by rw [e2]; exact h.box) ((Same.drew w).turn _)
    generalize s.code.length = n at *
    clear h e1 e2 hh
    go_enter Tryd.func42, Tryd.ntmps42
    go_wp2
    refine wp_region_seqE (fun u => u.cell? ⟨b, 3, none⟩ = some (.map (some v.bm))) ((0, true) :: (1, true) :: (2, true) :: (3, true) :: (4, true) :: (5, true) :: (6, false) :: (7, false) :: []) follows (by kernel_rfl) (fun _ _ _ _ _ h => h) h3 ?_
    (repeat (refine wpSeqE_take (v := ?_) rfl (by rfl) (fun wq hSq => ?_) ?_; rotate_left; (focus ((try dsimp only at hSq); go_simp; try with_reducible rfl)); simp only [Act.put, List.setIfInBounds_toArray, List.set_cons_zero, List.set_cons_succ]))
    (refine wpSeqE_do rfl (by rfl) (fun KK hK => ?_); go_simp)
    refine (len_at (w := w.drew) h1).mono ?_
    rintro r u0 ⟨rfl, hu⟩
    subst u0
    refine hK.out _ _ (fun _ => h3) ?_
    (clear hK KK; try simp only [Act.put, List.setIfInBounds_toArray, List.set_cons_zero, List.set_cons_succ])
    (refine wpSeqE_do rfl (by rfl) (fun KK hK => ?_); go_simp)
    refine hK.out _ _ (fun hn => absurd rfl hn) ?_
    (clear hK KK; try simp only [Act.put])
    refine wpSeqE_nil ?_
    go_wp2_with fail
    go_end0
    exact ⟨_, rfl, ⟨v, k2.out.1, rfl⟩, k2.out.2⟩
  · rw [hh] at hlk e1
    have hf4 := hf 4
    have hbox : (w.setCell ⟨b, 4, none⟩ (.bool true)).heap[b]? = some (.cells (boxA (s.mark l) v) 60 (0, 0)) := by
      rw [e1]
      exact heap_setCell_same w b 4 _ _ _ h.box
    obtain ⟨w4, k1, k2⟩ := h.marked (w' := (w.setCell ⟨b, 4, none⟩ (.bool true)).drew) hw hn hbox ((turn_set b 4 _ w).trans ((Same.drew _).turn _))
    have g3 : (w.setCell ⟨b, 4, none⟩ (.bool true)).drew.cell? ⟨b, 3, none⟩ = some (.map (some v.bm)) := (cell_of_row (w.setCell ⟨b, 4, none⟩ (.bool true)) b 3 _ _ _ hbox).trans rfl
    have g1 : (w.setCell ⟨b, 4, none⟩ (.bool true)).drew.cell? ⟨b, 1, none⟩ = some (.slice v.pi s.code.length v.ci) := (cell_of_row (w.setCell ⟨b, 4, none⟩ (.bool true)) b 1 _ _ _ hbox).trans rfl
    generalize s.code.length = n at *
    clear h e1 hh hbox
    go_enter Tryd.func42, Tryd.ntmps42
    go_wp2
    refine wp_region_seqE (fun u => u.cell? ⟨b, 3, none⟩ = some (.map (some v.bm))) ((0, true) :: (1, true) :: (2, true) :: (3, true) :: (4, true) :: (5, true) :: (6, false) :: (7, false) :: []) follows (by kernel_rfl) (fun _ _ _ _ _ h => h) g3 ?_
    (repeat (refine wpSeqE_take (v := ?_) rfl (by rfl) (fun wq hSq => ?_) ?_; rotate_left; (focus ((try dsimp only at hSq); go_simp; try with_reducible rfl)); simp only [Act.put, List.setIfInBounds_toArray, List.set_cons_zero, List.set_cons_succ]))
    (refine wpSeqE_do rfl (by rfl) (fun KK hK => ?_); go_simp)
    refine (len_at g1).mono ?_
    rintro r u0 ⟨rfl, hu⟩
    subst u0
    refine hK.out _ _ (fun _ => g3) ?_
    (clear hK KK; try simp only [Act.put, List.setIfInBounds_toArray, List.set_cons_zero, List.set_cons_succ])
    (refine wpSeqE_do rfl (by rfl) (fun KK hK => ?_); go_simp)
    refine hK.out _ _ (fun hn => absurd rfl hn) ?_
    (clear hK KK; try simp only [Act.put])
    refine wpSeqE_nil ?_
    go_wp2_with fail
    go_end0
    exact ⟨_, rfl, ⟨v, k2.out.1, rfl⟩, k2.out.2⟩
/-- a To: behind append of what is to be filled in later, the store of its field -/
theorem BAt.app2 {i : Ins} (h : BAt u b (s.add i none) v) (ok : Ok s) {l : Int} (hw : Wf l) {x y z gx : Nat} (hx : u.heap[x]? = some (.cells #[.pointer (some ⟨b, 0, none⟩)] 48 (0, 0))) (hy : u.heap[y]? = some (.cells #[.int .i64 l] 3 (0, 0))) (hz : u.heap[z]? = some (.cells #[.int .i64 (s.code.length : Nat)] 3 (0, 0)))
    (hg : u.heap[gx]? = some (.cells #[cloV x y z] 72 (0, 0))) (hl : s.code.length < lim) (ty : TypeId) :
    ∃ r w3, (Builtin.append_ #[58, 58] ty #[.slice v.pL s.lat.length v.cL, .slice (some ⟨gx, 0, none⟩) 1 1]).run Tryd.prog u = .ok r w3 ∧ b < w3.heap.size ∧ w3.frozen? ⟨b, 5, none⟩ = false ∧ (w3.cell? ⟨b, 5, none⟩ = some (.slice v.pL s.lat.length v.cL) ∧ w3.cell? ⟨x, 0, none⟩ = some (.pointer (some ⟨b, 0, none⟩))) ∧ (∃ g c', r = .slice (some ⟨g, 0, none⟩) (s.lat.length + 1) c') ∧ Hid (∃ F', Bld (w3.setCell ⟨b, 5, none⟩ r) b F' (s.add i (some l)) ∧ Turn (x :: y :: z :: fpB b v) F' u (w3.setCell ⟨b, 5, none⟩ r)) := by
  unfold lim at hl
  have hls := ok.size
  have elat : (s.add i none).lat = s.lat := rfl
  obtain ⟨vs, l1, l2⟩ := h.lat
  rw [elat] at l1
  obtain ⟨r, w3, h1, g, c', rfl, h2, ht⟩ := l1.app Tryd.underlying58 filInfo rfl (by decide) hg rfl (fun q hq => by simp at hq; subst hq; rfl) (by unfold maxLen; omega) (by omega) ty
  obtain ⟨a1, a2, a3, a4, a5, a6, a7, a8, a9, a10⟩ := h.apart
  have hblw := h.blw
  have old : ∀ k, k < u.heap.size → k ∉ fpR v.pL → w3.heap[k]? = u.heap[k]? := fun k hk hn => ht.block k hk hn
  have mb : b ∈ fpB b v := mem_fpB.2 (.inl rfl)
  have mm : v.bm ∈ fpB b v := mem_fpB.2 (.inr (.inl rfl))
  have mI : ∀ k ∈ fpR v.pi, k ∈ fpB b v := fun k hk => mem_fpB.2 (.inr (.inr (.inl hk)))
  have mR : ∀ k ∈ v.R, k ∈ fpB b v := fun k hk => mem_fpB.2 (.inr (.inr (.inr (.inr hk))))
  have hbox := (old b (lt_of_block h.box) a3).trans h.box
  have hgo := ht.own g (by simp)
  have gb : g ≠ b := by
    rintro rfl
    exact hgo.elim a3 fun q => absurd (hblw _ mb) (Nat.not_lt.2 q)
  have nx : ∀ {k : Nat} {c : Array Value} {T : TypeId}, u.heap[k]? = some (.cells c T (0, 0)) → (72 == T) = false → (60 == T) = false → (w3.setCell ⟨b, 5, none⟩ (.slice (some ⟨g, 0, none⟩) (s.lat.length + 1) c')).heap[k]? = some (.cells c T (0, 0)) ∧ w3.heap[k]? = some (.cells c T (0, 0)) := fun {k c T} hk q1 q2 => by
    have e1 : k ∉ fpR v.pL := fun q => by obtain ⟨arr, e⟩ := l1.blk q; exact ne_ty e hk q1 rfl
    have e2 := (old k (lt_of_block hk) e1).trans hk
    exact ⟨(heap_setCell_other _ _ _ _ (by rintro rfl; exact ne_ty h.box hk q2 rfl)).trans e2, e2⟩
  obtain ⟨hx', hx3⟩ := nx hx (by decide) (by decide)
  obtain ⟨hy', _⟩ := nx hy (by decide) (by decide)
  obtain ⟨hz', _⟩ := nx hz (by decide) (by decide)
  have kp : ∀ G, (∀ k ∈ G, k ∈ fpB b v) → b ∉ G → Sep G (fpR v.pL) → Kept G u (w3.setCell ⟨b, 5, none⟩ (.slice (some ⟨g, 0, none⟩) (s.lat.length + 1) c')) := fun G hG hb hs => ⟨by simpa using ht.size, fun k hk => (heap_setCell_other _ _ _ _ (by rintro rfl; exact hb hk)).trans (old k (hblw k (hG k hk)) (hs k hk))⟩
  have kR := kp v.R mR a4 a10.symm
  have el : (s.add i (some l)).lat = s.lat ++ [(l, s.code.length)] := rfl
  have eln : (s.add i (some l)).lat.length = s.lat.length + 1 := by rw [el]; simp
  refine ⟨_, w3, h1, lt_of_block hbox, frozen_of_row _ _ _ _ _ hbox, ⟨(cell_of_row _ _ _ _ _ _ hbox).trans rfl, (cell_of_row _ _ _ _ _ _ hx3).trans rfl⟩, ⟨g, c', rfl⟩, fpB b { v with pL := some ⟨g, 0, none⟩, cL := c', R := x :: y :: z :: v.R }, ⟨{ v with pL := some ⟨g, 0, none⟩, cL := c', R := x :: y :: z :: v.R }, ⟨?_, h.ins.keep (kp _ mI a2 a8), h.map.keep ((heap_setCell_other _ _ _ _ (Ne.symm a1)).trans (old _ h.map.lt a6)), ?_, ?_, ok.add i (some l) (by rintro l' e; cases e; exact hw)⟩, rfl⟩, ⟨ht.os, ht.tape, ht.output, by simpa using ht.size, fun k hk hn => ?_, fun k hk => ?_⟩⟩
  · refine (heap_setCell_same w3 b 5 _ _ _ hbox).trans ?_
    rw [show boxA (s.add i (some l)) { v with pL := some ⟨g, 0, none⟩, cL := c', R := x :: y :: z :: v.R } = (boxA (s.add i none) v).setIfInBounds 5 (.slice (some ⟨g, 0, none⟩) (s.add i (some l)).lat.length c') from rfl, eln]
  · rw [eln]
    refine ⟨_, h2.keep ⟨by simp, fun k hk => heap_setCell_other _ _ _ _ (by
      obtain rfl : k = g := by simpa [fpR] using hk
      exact gb)⟩, fun j hj => ?_⟩
    have hvl := l1.len
    rw [Nat.mul_one] at hvl
    by_cases hjl : j < s.lat.length
    · obtain ⟨q, e1, X, Y, Z, e2, m1, m2, m3, rest⟩ := l2 j (by rw [elat]; exact hjl)
      refine ⟨q, by rw [List.getElem?_append_left (by omega)]; exact e1, X, Y, Z, e2, by simp [m1], by simp [m2], by simp [m3], ?_⟩
      rw [el, getD_app, if_pos hjl]
      exact ⟨(kR.2 _ m1).trans rest.1, (kR.2 _ m2).trans rest.2.1, (kR.2 _ m3).trans rest.2.2⟩
    · have hj2 : j = s.lat.length := by omega
      subst hj2
      refine ⟨cloV x y z, by rw [← hvl, List.getElem?_append_right (Nat.le_refl _), Nat.sub_self]; rfl, x, y, z, rfl, by simp, by simp, by simp, hx', ?_⟩
      rw [el, getD_app, if_neg (Nat.lt_irrefl _), if_pos rfl]
      exact ⟨hy', hz'⟩
  · intro k hk
    simp only [List.mem_cons] at hk
    rcases hk with rfl | rfl | rfl | q
    · exact ⟨_, _, hx', .inr rfl⟩
    · exact ⟨_, _, hy', .inl rfl⟩
    · exact ⟨_, _, hz', .inl rfl⟩
    · exact h.caps.keep kR k q
  · simp only [List.mem_cons, not_or] at hn
    have hn1 : k ≠ b := by rintro rfl; exact hn.2.2.2 mb
    exact (heap_setCell_other _ _ _ _ hn1).trans (old k hk fun q => hn.2.2.2 (mem_fpB.2 (.inr (.inr (.inr (.inl q))))))
  · simp only [List.mem_cons]
    rcases mem_fpB.1 hk with q | q | q | q | q
    · exact .inl (.inr (.inr (.inr (q ▸ mb))))
    · exact .inl (.inr (.inr (.inr (q ▸ mm))))
    · exact .inl (.inr (.inr (.inr (mI k q))))
    · obtain rfl : k = g := by simpa [fpR] using q
      exact hgo.imp (fun t => .inr (.inr (.inr (mem_fpB.2 (.inr (.inr (.inr (.inl t)))))))) id
    · simp only [List.mem_cons] at q
      rcases q with q | q | q | q
      · exact .inl (.inl q)
      · exact .inl (.inr (.inl q))
      · exact .inl (.inr (.inr (.inl q)))
      · exact .inl (.inr (.inr (.inr (mR k q))))
abbrev cap3 (w : World) (b : Nat) (l n : Int) : World := ((w.alloc (.cells #[.pointer (some ⟨b, 0, none⟩)] 48)).alloc (.cells #[.int .i64 l] 3)).alloc (.cells #[.int .i64 n] 3)
theorem cap3_at (w : World) (b : Nat) (l n : Int) : Below w.heap.size w (cap3 w b l n) ∧ (cap3 w b l n).heap[w.heap.size]? = some (.cells #[.pointer (some ⟨b, 0, none⟩)] 48 (0, 0)) ∧ (cap3 w b l n).heap[w.heap.size + 1]? = some (.cells #[.int .i64 l] 3 (0, 0)) ∧ (cap3 w b l n).heap[w.heap.size + 1 + 1]? = some (.cells #[.int .i64 n] 3 (0, 0)) ∧ (cap3 w b l n).heap.size = w.heap.size + 1 + 1 + 1 := by
  have e1 : (w.alloc (.cells #[.pointer (some ⟨b, 0, none⟩)] 48)).heap.size = w.heap.size + 1 := by simp
  have e2 : ((w.alloc (.cells #[.pointer (some ⟨b, 0, none⟩)] 48)).alloc (.cells #[.int .i64 l] 3)).heap.size = w.heap.size + 1 + 1 := by simp
  have h1 := heap_alloc_new w (.cells #[.pointer (some ⟨b, 0, none⟩)] 48)
  have h2 := heap_alloc_new (w.alloc (.cells #[.pointer (some ⟨b, 0, none⟩)] 48)) (.cells #[.int .i64 l] 3)
  have h3 := heap_alloc_new ((w.alloc (.cells #[.pointer (some ⟨b, 0, none⟩)] 48)).alloc (.cells #[.int .i64 l] 3)) (.cells #[.int .i64 n] 3)
  rw [e1] at h2
  rw [e2] at h3
  exact ⟨((bl1 w _).alloc (by simp) _).alloc (by simp; omega) _, (Below.heap_alloc _ _ _ (by simp; omega)).trans ((Below.heap_alloc _ _ _ (by simp)).trans h1), (Below.heap_alloc _ _ _ (by simp)).trans h2, h3, by simp⟩
theorem to_fin {w2 : World} {i : Ins} {l : Int} {n : Nat} {F2 : List Nat} (h : Bld w b F s) (hw : Wf l) (hl : s.code.length < lim) (hn : s.code.length = n) (q1 : Bld w2 b F2 (s.add i none)) (q2 : Turn F F2 (cap3 w b l n) w2) :
    ∃ p c, w2.cell? ⟨b, 5, none⟩ = some (.slice p s.lat.length c) ∧ w2.cell? ⟨w.heap.size, 0, none⟩ = some (.pointer (some ⟨b, 0, none⟩)) ∧ b < w2.heap.size ∧ w.heap.size < w2.heap.size ∧ b ≠ w2.heap.size ∧ w.heap.size ≠ w2.heap.size ∧
      ∀ ty, ∃ r w3, (Builtin.append_ #[58, 58] ty #[.slice p s.lat.length c, .slice (some ⟨w2.heap.size, 0, none⟩) 1 1]).run Tryd.prog (w2.drew.alloc (.cells #[.func (.func 49) #[] #[.pointer (some ⟨w.heap.size, 0, none⟩), .pointer (some ⟨w.heap.size + 1, 0, none⟩), .pointer (some ⟨w.heap.size + 1 + 1, 0, none⟩)]] 72)) = .ok r w3 ∧ b < w3.heap.size ∧ w3.frozen? ⟨b, 5, none⟩ = false ∧ (w3.cell? ⟨b, 5, none⟩ = some (.slice p s.lat.length c) ∧ w3.cell? ⟨w.heap.size, 0, none⟩ = some (.pointer (some ⟨b, 0, none⟩))) ∧ (∃ g c', r = .slice (some ⟨g, 0, none⟩) (s.lat.length + 1) c') ∧ Hid (∃ F', Bld (w3.setCell ⟨b, 5, none⟩ r) b F' (s.add i (some l)) ∧ Turn F F' w (w3.setCell ⟨b, 5, none⟩ r)) := by
  obtain ⟨v2, q1, rfl⟩ := q1
  obtain ⟨c1, c2, c3, c4, c5⟩ := cap3_at w b l n
  have hF := h.blw
  have nF : ∀ k, w.heap.size ≤ k → k ∉ F := fun k hk q => absurd (hF k q) (Nat.not_lt.2 hk)
  have d2 := (q2.block _ (lt_of_block c2) (nF _ (Nat.le_refl _))).trans c2
  have d3 := (q2.block _ (lt_of_block c3) (nF _ (by omega))).trans c3
  have d4 := (q2.block _ (lt_of_block c4) (nF _ (by omega))).trans c4
  obtain ⟨hb, _, _, _, _, _, h5, _⟩ := q1.cells
  have lx := lt_of_block d2
  refine ⟨v2.pL, v2.cL, h5, (cell_of_row _ _ _ _ _ _ d2).trans rfl, hb, lx, Nat.ne_of_lt hb, Nat.ne_of_lt lx, fun ty => ?_⟩
  have ea := bl1 w2.drew (.cells #[cloV w.heap.size (w.heap.size + 1) (w.heap.size + 1 + 1)] 72)
  have ea2 : Below w2.heap.size w2 (w2.drew.alloc (.cells #[cloV w.heap.size (w.heap.size + 1) (w.heap.size + 1 + 1)] 72)) := ((Same.drew w2).below _).trans ea
  obtain ⟨r, w3, k1, k2, k3, k4, k5, k6⟩ := BAt.app2 (q1.keep (kept_below ea2 q1.blw)) h.ok hw ((ea2.block _ (lt_of_block d2)).trans d2) ((ea2.block _ (lt_of_block d3)).trans d3) ((ea2.block _ (lt_of_block d4)).trans (by rw [hn]; exact d4)) (heap_alloc_new w2.drew _) hl ty
  refine ⟨r, w3, k1, k2, k3, k4, k5, ?_⟩
  obtain ⟨F', f1, f2⟩ := k6.out
  refine ⟨F', f1, Turn.trans ?_ f2⟩
  have t1 : Turn F F w (cap3 w b l n) := below_turn c1
  refine ((t1.trans q2).trans (below_turn ea2)).mono fun k hk => ?_
  simp only [List.mem_cons] at hk
  rcases hk with rfl | rfl | rfl | q
  · exact .inr (Nat.le_refl _)
  · exact .inr (by omega)
  · exact .inr (by omega)
  · exact ((t1.trans q2).own k q)
set_option maxRecDepth 100000 in
theorem to_any (h : Bld w b F s) (op l : Int) (hw : Wf l) (hl : s.code.length < lim) : Calls Tryd.prog 38 #[.pointer (some ⟨b, 0, none⟩), .int .i64 op, .int .i64 l] w fun e w' => ∃ F', e = .returned (.tuple #[]) ∧ Bld w' b F' (s.add ⟨op, 0, 0⟩ (some l)) ∧ Turn F F' w w' := by
  have hb := (h.blw b (by obtain ⟨v, h, rfl⟩ := h; exact mem_fpB.2 (.inl rfl)))
  have HB : Hid (∀ u, Below w.heap.size w u → Bld u b F s) := fun u hu => h.on hu
  have HLEN : Hid (∀ u, Bld u b F s → Calls Tryd.prog 48 #[.pointer (some ⟨b, 0, none⟩)] u fun e w' => e = .returned (.int .i64 s.code.length) ∧ w' = u) := fun u hu => len_any hu
  have HADD : Hid (∀ u, Bld u b F s → Calls Tryd.prog 40 #[.pointer (some ⟨b, 0, none⟩), .int .i64 op, .int .i64 0] u fun e w' => ∃ F', e = .returned (.tuple #[]) ∧ Bld w' b F' (s.add ⟨op, 0, 0⟩ none) ∧ Turn F F' u w') := fun u hu => add_any hu op 0 hl
  obtain ⟨n, hn⟩ : ∃ n, s.code.length = n := ⟨_, rfl⟩
  have HFIN : Hid (∀ w2 F2, Bld w2 b F2 (s.add ⟨op, 0, 0⟩ none) → Turn F F2 (cap3 w b l n) w2 → _) := fun w2 F2 q1 q2 => to_fin h hw hl hn q1 q2
  have HC := Lib.hid (cap3_at w b l n).1
  rw [hn] at HLEN
  clear h hl hw hn
  go_enter Tryd.func38, Tryd.ntmps38
  go_wp2_with (first
    | (go_at_call 48; refine (HLEN.out _ (HB.out _ (by repeat (first | exact Below.refl _ _ | refine Below.alloc ?_ (by simp <;> omega) _)))).mono ?_; rintro e w' ⟨rfl, hw'⟩; subst w'; clear HLEN)
    | (go_at_call 40; refine (HADD.out _ (HB.out _ HC.out)).mono ?_; rintro e w2 ⟨F2, rfl, q1, q2⟩; obtain ⟨p, c, k5, kx, lb, lx, nb, nx, kA⟩ := HFIN.out _ _ q1 q2; have HA := Lib.hid kA; clear q1 q2 kA HFIN HADD))
  refine wp_region_seqE (fun u => u.cell? ⟨b, 5, none⟩ = some (.slice p s.lat.length c) ∧ u.cell? ⟨w.heap.size, 0, none⟩ = some (.pointer (some ⟨b, 0, none⟩))) ((0, true) :: (1, true) :: (2, true) :: (3, true) :: (4, true) :: (5, true) :: (6, false) :: (7, false) :: (8, true) :: (9, true) :: (10, false) :: []) follows (by kernel_rfl) (fun _ _ _ _ _ h => h) ⟨k5, kx⟩ ?_
  (repeat (refine wpSeqE_take (v := ?_) rfl (by rfl) (fun wq hSq => ?_) ?_; rotate_left; (focus ((try dsimp only at hSq); go_simp; try with_reducible rfl)); simp only [Act.put, List.setIfInBounds_toArray, List.set_cons_zero, List.set_cons_succ]))
  (refine wpSeqE_do rfl (by rfl) (fun KK hK => ?_); go_simp)
  refine hK.out _ _ (fun _ => ⟨(World.cell?_alloc_old _ _ _ nb).trans k5, (World.cell?_alloc_old _ _ _ nx).trans kx⟩) ?_
  (clear hK KK; try simp only [Act.put, List.setIfInBounds_toArray, List.set_cons_zero, List.set_cons_succ])
  refine wpSeqE_do rfl (by rfl) (fun KK hK => ?_)
  refine wp_append_ex _ _ 58 58 rfl (.slice p s.lat.length c) (.slice (some ⟨w2.heap.size, 0, none⟩) 1 1) rfl rfl (by exact HA.out _) ?_
  rintro r w3 ⟨k1, k2, k3, ⟨g, c', rfl⟩, k4⟩
  refine hK.out _ _ (fun _ => k3) ?_
  (clear hK KK; try simp only [Act.put, List.setIfInBounds_toArray, List.set_cons_zero, List.set_cons_succ])
  (repeat (refine wpSeqE_take (v := ?_) rfl (by rfl) (fun wq hSq => ?_) ?_; rotate_left; (focus ((try dsimp only at hSq); go_simp; try with_reducible rfl)); simp only [Act.put, List.setIfInBounds_toArray, List.set_cons_zero, List.set_cons_succ]))
  (refine wpSeqE_do rfl (by rfl) (fun KK hK => ?_); go_simp)
  refine hK.out _ _ (fun hn => absurd rfl hn) ?_
  (clear hK KK; try simp only [Act.put])
  refine wpSeqE_nil ?_
  go_wp2_with fail
  go_end0
  obtain ⟨F', f1, f2⟩ := k4.out
  exact ⟨F', rfl, f1, f2⟩
end
end Go.Proofs.YtaliehikdidiaaaDoor.As
