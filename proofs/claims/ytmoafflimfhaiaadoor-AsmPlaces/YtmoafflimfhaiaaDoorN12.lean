/- stage 19 (asm): both builders beside one another: same -/
import Derived.Test.YtmoafflimfhaiaaDoorN11
import Derived.Test.YtmoafflimfhaiaaDoorC9
namespace Go.Proofs.YtmoafflimfhaiaaDoor.As
open Go.ChangeShapes Go.WideShapes Go.ChangeAt Go.RowKit Num Go.Maps
attribute [local go_sem] run_store_float frombits_run bits_run

/-- the program's and the document's builder, after the same moves (k of them at most) -/
structure Both (w : World) (b r : Nat) (F : List Nat) (s : Bs) (k : Nat) : Prop where
  two : ∃ F1 F2, Bld w b F1 s ∧ RAt w r F2 s ∧ Sep F1 F2 ∧ F = F1 ++ F2
  wf : ∀ l, hasM s.marks l = true → Wf l
  code : s.code.length ≤ k
  marks : s.marks.length ≤ k
section
variable {w w' wr u : World} {b r k : Nat} {s : Bs} {F : List Nat}
theorem Both.blw (h : Both w b r F s k) : Blw w F := by
  obtain ⟨⟨F1, F2, h1, h2, _, rfl⟩, _⟩ := h
  intro x hx
  rcases List.mem_append.1 hx with q | q
  · exact h1.blw x q
  · exact h2.blw x q
theorem Both.keep (h : Both w b r F s k) (q : Kept F w w') : Both w' b r F s k := by
  obtain ⟨⟨F1, F2, h1, h2, h3, rfl⟩, a, b, c⟩ := h
  exact ⟨⟨F1, F2, h1.keep (kept_sub q fun _ z => List.mem_append_left _ z), h2.keep (kept_sub q fun _ z => List.mem_append_right _ z), h3, rfl⟩, a, b, c⟩
theorem Both.on (h : Both w b r F s k) (q : Below w.heap.size w w') : Both w' b r F s k := h.keep (kept_below q h.blw)
theorem Both.turn {G G' : List Nat} (h : Both w b r F s k) (q : Turn G G' w w') (z : Sep F G) : Both w' b r F s k := h.keep (q.kept z h.blw)
theorem ans_eq (h : s.ans = 0) : s.ok = true ∧ checkE s.tag s.filled = 0 := by
  unfold Bs.ans at h
  split at h
  · rename_i q; exact ⟨q, h⟩
  · cases h
set_option maxRecDepth 100000 in
set_option maxHeartbeats 1000000 in
theorem same_any (h : Both w b r F s k) (hk : k < lim) (hT : Shaped5 w) : Calls Tryd.prog 10 #[.pointer (some ⟨b, 0, none⟩), .pointer (some ⟨r, 0, none⟩)] w fun e w' => e = .returned (.bool true) ∧ Below w.heap.size w w' := by
  obtain ⟨⟨F1, F2, h1, h2, _, rfl⟩, hwf, hc, hm⟩ := h
  have HP := Lib.hid (prog_any h1 hT (by omega) hwf)
  have HR : Hid (∀ u, Below w.heap.size w u → Calls Tryd.prog 25 #[.pointer (some ⟨r, 0, none⟩)] u fun e w' => ∃ t p n c, e = .returned (.tuple #[.agg #[.int .i64 t, .slice p n c], .int .i64 s.ans]) ∧ Hid (PrR u w' s t p n c)) := fun u hu => rprog_any (h2.on hu) (by omega) (by omega)
  have HLEN : Hid (∀ u, Below w.heap.size w u → Calls Tryd.prog 19 #[.pointer (some ⟨b, 0, none⟩)] u fun e w' => e = .returned (.int .i64 s.code.length) ∧ w' = u) := fun u hu => len_any (h1.on hu)
  have HRC : Hid (∀ u, Below w.heap.size w u → r < u.heap.size ∧ ∃ p c, u.cell? ⟨r, 1, none⟩ = some (.slice p s.code.length c)) := fun u hu => by
    obtain ⟨v, q, _, _⟩ := h2.on hu
    exact ⟨q.cells.1, _, _, q.cells.2.2.1⟩
  have HL := Lib.hid (show s.code.length < lim by omega)
  clear h1 h2 hwf hc hm hk hT
  go_enter Tryd.func10, Tryd.ntmps10
  go_upto_region 3 with (first
    | (go_at_call 17; refine HP.out.mono ?_; rintro e u1 ⟨t1, p, n1, c, rfl, q⟩; have H1 := Lib.hid q.out; clear q HP)
    | (go_at_call 25; refine (HR.out _ (H1.out.1.alloc H1.out.1.size _)).mono ?_; rintro e u2 ⟨t2, p', n2, c', rfl, q⟩; have H2 := Lib.hid q.out; clear q HR))
  obtain ⟨b1, a1, c1⟩ := H1.out
  obtain ⟨b2, c2⟩ := H2.out
  have HU : ∃ t m A B, t1 = t ∧ t2 = t ∧ n1 = m ∧ n2 = m ∧ RowW 42 3 u1 p c m (codC A) ∧ CodeAt u2 p' B ∧ A.length = m ∧ B.length = m ∧ sameB t t A B = true ∧ m < lim := by
    rcases c1 with ⟨e, x1, x2, x3⟩ | ⟨e, x1, x2, x3, x4⟩
    · rcases c2 with ⟨_, y1, y2, y3⟩ | ⟨e2, _⟩
      · refine ⟨_, _, s.filled.map fixI, s.filled, x1, y1, x2, y2, ?_, y3, by rw [List.length_map, filled_len], filled_len s, sameB_fix _ _, HL.out⟩
        rw [x2] at x3
        exact x3
      · exact absurd e e2
    · rcases c2 with ⟨e2, _⟩ | ⟨_, y1, y2, y3, y4⟩
      · exact absurd e2 e
      · subst x2 x3 x4 y2
        exact ⟨0, 0, [], [], x1, y1, rfl, y3, rowW_nil _ _ _, fun k hk => absurd hk (Nat.not_lt_zero _), rfl, rfl, by decide, by unfold lim; omega⟩
  obtain ⟨t, m, A, B, rfl, rfl, rfl, rfl, hrow, hcode, hA, hB, hAB, hmlim⟩ := HU
  have k1 := bl1 u1 (.cells #[.int .i64 t2, .slice p n2 c] 37)
  have k2 := bl1 u2 (.cells #[.int .i64 t2, .slice p' n2 c'] 37)
  have B1 : Below w.heap.size w (u1.alloc (.cells #[.int .i64 t2, .slice p n2 c] 37)) := b1.trans (k1.mono b1.size)
  have B2 : Below w.heap.size w u2 := B1.trans (b2.mono B1.size)
  have x1 := (b2.block _ (by simp)).trans (heap_alloc_new u1 (.cells #[.int .i64 t2, .slice p n2 c] 37))
  have x1' := (k2.block _ (lt_of_block x1)).trans x1
  have x2' := heap_alloc_new u2 (.cells #[.int .i64 t2, .slice p' n2 c'] 37)
  have HROW : Hid (RowW 42 3 (u2.alloc (.cells #[.int .i64 t2, .slice p' n2 c'] 37)) p c n2 (codC (A))) := by
    have r1 := hrow.keep (kept_below k1 hrow.blw)
    have r2 := r1.keep (kept_below b2 r1.blw)
    exact r2.keep (kept_below k2 r2.blw)
  have HCOD := Lib.hid (hcode.on k2)
  have BW : Below w.heap.size w (u2.alloc (.cells #[.int .i64 t2, .slice p' n2 c'] 37)) := B2.trans (k2.mono B2.size)
  have HA1 := Lib.hid a1
  have hne : u1.heap.size < u2.heap.size := lt_of_block x1
  have HLO : Hid (w.heap.size ≤ u1.heap.size) := b1.size
  clear b1 a1 b2 hrow hcode k1 B1 B2 x1 H1 H2 c1 c2
  generalize u2.alloc (.cells #[.int .i64 t2, .slice p' n2 c'] 37) = w3 at HROW HCOD BW x1' x2' k2 ⊢
  obtain ⟨q1, hq1⟩ : ∃ q1, u1.heap.size = q1 := ⟨_, rfl⟩
  obtain ⟨q2, hq2⟩ : ∃ q2, u2.heap.size = q2 := ⟨_, rfl⟩
  rw [hq1] at x1' HLO hne ⊢
  rw [hq2] at x2' hne ⊢
  clear hq1 hq2 k2
  obtain ⟨y0, y1, yl⟩ := cells2_of x1'
  obtain ⟨z0, z1, zl⟩ := cells2_of x2'
  obtain ⟨hr, pr, cr, hrc⟩ := HRC.out _ BW
  have HX := Lib.hid x1'
  have HBW := Lib.hid BW
  have HSA : Hid (Calls Tryd.prog 18 #[.agg #[.int .i64 t2, .slice p n2 c], .agg #[.int .i64 t2, .slice p' n2 c']] w3.drew fun e w' => e = .returned (.bool true) ∧ Below w3.heap.size w3 w' ∧ ((w'.cell? ⟨q1, 0, none⟩ = some (.int .i64 t2) ∧ w'.cell? ⟨q1, 1, none⟩ = some (.slice p n2 c)) ∧ (w'.cell? ⟨q2, 0, none⟩ = some (.int .i64 t2) ∧ w'.cell? ⟨q2, 1, none⟩ = some (.slice p' n2 c')) ∧ w'.cell? ⟨r, 1, none⟩ = some (.slice pr s.code.length cr))) := by
    have hlim := hmlim
    unfold lim at hlim
    have := refSame5_any (w := w3.drew) t2 t2 c c' ((RowW.code hA HROW.out).on ((Same.drew w3).below _)) (HCOD.out.on ((Same.drew w3).below _)) (by rw [hA]; omega) (by rw [hB]; omega)
    rw [hA, hB, hAB] at this
    refine this.mono ?_
    rintro e w' ⟨rfl, hb⟩
    have hb' : Below w3.heap.size w3 w' := ((Same.drew w3).below _).trans hb
    exact ⟨rfl, hb', ⟨(hb'.cell (p := ⟨q1, 0, none⟩) yl).trans y0, (hb'.cell (p := ⟨q1, 1, none⟩) yl).trans y1⟩, ⟨(hb'.cell (p := ⟨q2, 0, none⟩) zl).trans z0, (hb'.cell (p := ⟨q2, 1, none⟩) zl).trans z1⟩, (hb'.cell (p := ⟨r, 1, none⟩) hr).trans hrc⟩
  clear HCOD BW x1' x2' yl zl hr
  refine wp_region_seq (fun u => (u.cell? ⟨q1, 0, none⟩ = some (.int .i64 t2) ∧ u.cell? ⟨q1, 1, none⟩ = some (.slice p n2 c)) ∧ (u.cell? ⟨q2, 0, none⟩ = some (.int .i64 t2) ∧ u.cell? ⟨q2, 1, none⟩ = some (.slice p' n2 c')) ∧ u.cell? ⟨r, 1, none⟩ = some (.slice pr s.code.length cr)) ((0, true) :: (1, true) :: (2, true) :: (3, true) :: (4, true) :: (5, true) :: (6, false) :: (7, true) :: (8, true) :: (9, true) :: (10, true) :: (12, true) :: (13, true) :: (14, true) :: (15, true) :: (16, true) :: (11, false) :: (17, true) :: (18, true) :: []) follows (by kernel_rfl) (fun _ _ _ _ _ h => h) ⟨⟨y0, y1⟩, ⟨z0, z1⟩, hrc⟩ ?_
  (repeat (first | (refine wpSeq_take (v := ?_) rfl (by rfl) (fun wq hSq => ?_) ?_; rotate_left; (focus ((try dsimp only at hSq); go_simp; try with_reducible rfl)); simp only [Act.put, List.setIfInBounds_toArray, List.set_cons_zero, List.set_cons_succ]) | (refine wpSeq_skip rfl (by rfl) ?_; simp only [Act.put, List.setIfInBounds_toArray, List.set_cons_zero, List.set_cons_succ])))
  (refine wpSeq_do rfl (by rfl) (fun KK hK => ?_); go_simp)
  refine HSA.out.mono ?_
  rintro e v ⟨rfl, hb, hS⟩
  refine hK.out _ _ hS ?_
  (clear hK KK; try simp only [Act.put, List.setIfInBounds_toArray, List.set_cons_zero, List.set_cons_succ])
  (repeat (first | (refine wpSeq_take (v := ?_) rfl (by rfl) (fun wq hSq => ?_) ?_; rotate_left; (focus ((try dsimp only at hSq); go_simp; try with_reducible rfl)); simp only [Act.put, List.setIfInBounds_toArray, List.set_cons_zero, List.set_cons_succ]) | (refine wpSeq_skip rfl (by rfl) ?_; simp only [Act.put, List.setIfInBounds_toArray, List.set_cons_zero, List.set_cons_succ])))
  (refine wpSeq_do rfl (by rfl) (fun KK hK => ?_); go_simp)
  refine (HLEN.out v (HBW.out.trans (hb.mono HBW.out.size))).mono ?_
  rintro e v' ⟨rfl, hv⟩
  subst v'
  refine hK.out _ _ hS ?_
  (clear hK KK; try simp only [Act.put, List.setIfInBounds_toArray, List.set_cons_zero, List.set_cons_succ])
  (repeat (first | (refine wpSeq_take (v := ?_) rfl (by rfl) (fun wq hSq => ?_) ?_; rotate_left; (focus ((try dsimp only at hSq); go_simp; try with_reducible rfl)); simp only [Act.put, List.setIfInBounds_toArray, List.set_cons_zero, List.set_cons_succ]) | (refine wpSeq_skip rfl (by rfl) ?_; simp only [Act.put, List.setIfInBounds_toArray, List.set_cons_zero, List.set_cons_succ])))
  refine wpSeq_nil ?_
  have HV := Lib.hid (HROW.out.keep (kept_below hb HROW.out.blw))
  have HBV := Lib.hid (HBW.out.trans (hb.mono HBW.out.size))
  have g1 := hS.1.2
  clear HSA HLEN HRC HROW HX HBW hb hS y0 y1 z0 z1 hrc
  generalize s.code.length = len at *
  have hnI : (n2 : Int) ≤ 9223372036854775807 := by unfold lim at hmlim; omega
  rcases HV.out.room with ⟨rfl, hn0, rfl⟩ | ⟨g, arr, rfl, hg, has, hnc, hcm⟩
  · subst hn0
    clear hA hB hAB hmlim
    go_wp2_with fail
    refine wp_loop_rounds 1 ?_
    rw [rounds_succ]
    go_wp2_with fail
    go_ret
    exact ⟨rfl, HBV.out⟩
  · have hcI : (c : Int) ≤ 9223372036854775807 := by unfold maxLen at hcm; omega
    have hncI : (n2 : Int) ≤ (c : Int) := by omega
    have HG := Lib.hid (And.intro hg has)
    have hgw : w.heap.size ≤ g := HA1.out g (by simp [fpR])
    clear hA hB hAB hmlim hg has
    go_wp2_with fail
    go_loopw [48] (fun vi wr => ∃ (i : Nat), vi = .int .i64 i ∧ i ≤ c ∧ Hid ((∃ arr, wr.heap[g]? = some (.cells arr 42 (0, 0)) ∧ arr.size = c * 3) ∧ Below w.heap.size w wr)) (fun vi _ => c - (intOf vi).toNat)
    case atStart => exact ⟨0, rfl, Nat.zero_le _, ⟨_, HG.out⟩, HBV.out⟩
    case round =>
      obtain ⟨i, rfl, hi, HI⟩ := hrel
      by_cases hlt : i < c
      · have hltI : (i : Int) < (c : Int) := by omega
        obtain ⟨arr, hg, has⟩ := HI.out.1
        obtain ⟨x0, e0⟩ : ∃ x, wr.cell? ⟨g, i * 3, none⟩ = some x := ⟨_, (cell_of_row _ _ _ _ _ _ hg).trans (Array.getElem?_eq_getElem (by omega))⟩
        obtain ⟨x1, e1⟩ : ∃ x, wr.cell? ⟨g, i * 3 + 1, none⟩ = some x := ⟨_, (cell_of_row _ _ _ _ _ _ hg).trans (Array.getElem?_eq_getElem (by omega))⟩
        obtain ⟨x2, e2⟩ : ∃ x, wr.cell? ⟨g, i * 3 + 2, none⟩ = some x := ⟨_, (cell_of_row _ _ _ _ _ _ hg).trans (Array.getElem?_eq_getElem (by omega))⟩
        have f0 := frozen_of_row _ _ (i * 3) _ _ hg
        have f1 := frozen_of_row _ _ (i * 3 + 1) _ _ hg
        have f2 := frozen_of_row _ _ (i * 3 + 2) _ _ hg
        have lg := lt_of_block hg
        have HN : Hid (∀ a b c', (∃ arr, (((wr.setCell ⟨g, i * 3, none⟩ a).setCell ⟨g, i * 3 + 1, none⟩ b).setCell ⟨g, i * 3 + 2, none⟩ c').heap[g]? = some (.cells arr 42 (0, 0)) ∧ arr.size = c * 3) ∧ Below w.heap.size w (((wr.setCell ⟨g, i * 3, none⟩ a).setCell ⟨g, i * 3 + 1, none⟩ b).setCell ⟨g, i * 3 + 2, none⟩ c')) := fun a b c' => by
          refine ⟨⟨_, heap_setCell_same _ _ _ _ _ _ (heap_setCell_same _ _ _ _ _ _ (heap_setCell_same _ _ _ _ _ _ hg)), by simpa using has⟩, HI.out.2.trans ((((turn_set g (i * 3) a wr).trans (turn_set g (i * 3 + 1) b _)).trans (turn_set g (i * 3 + 2) c' _)).below (fun k hk => by simp at hk; omega) HI.out.2.size)⟩
        clear HI hg has
        go_wp2_with fail
        exact ⟨⟨i + 1, by first | rfl | (congr 1), by omega, HN.out _ _ _⟩, by simp [intOf]; omega⟩
      · have hltI : ¬ (i : Int) < (c : Int) := by omega
        go_wp2_with fail
        go_ret
        exact ⟨rfl, HI.out.2⟩
end
end Go.Proofs.YtmoafflimfhaiaaDoor.As
