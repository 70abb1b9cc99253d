/- stage 19 (asm): the document's Program: the walk -/
import Derived.Test.YtmoafflimfhaiaaDoorN10
namespace Go.Proofs.YtmoafflimfhaiaaDoor.As
open Go.ChangeShapes Go.WideShapes Go.ChangeAt Go.RowKit Num Go.Maps
attribute [local go_sem] run_store_float frombits_run bits_run

section
variable {w wr u : World} {gs b : Nat} {r : Mk} {s : Bs} {F : List Nat}
/-- what the document's Program tells -/
def PrR (w w' : World) (s : Bs) (t : Int) (p : Option Addr) (n c : Nat) : Prop := Below w.heap.size w w' ∧ ((s.ans = 0 ∧ t = s.tag ∧ n = s.code.length ∧ CodeAt w' p s.filled) ∨ (s.ans ≠ 0 ∧ t = 0 ∧ p = none ∧ n = 0 ∧ c = 0))
theorem ans190 (h : okM s.many s.marks = false) : s.ans = 190 := by
  unfold Bs.ans Bs.ok
  rw [h]
  rfl
/-- the second loop: the places filled in, one instruction behind the other -/
structure Rb (w wr : World) (gs q : Nat) (s : Bs) (p : Option Addr) (c j : Nat) : Prop where
  ra : Ra w wr gs s.marks
  box : wr.heap[q]? = some (.cells #[.int .i64 s.tag, .slice p j c] 37 (0, 0))
  row : RowW 42 3 wr p c j (codC (s.filled.take j))
  abv : Abv w.heap.size (fpR p)
  lq : w.heap.size < q
theorem Rb.on {q : Nat} {p : Option Addr} {c j : Nat} (h : Rb w wr gs q s p c j) (k : Below wr.heap.size wr u) : Rb w u gs q s p c j := ⟨h.ra.on k, (k.block _ (lt_of_block h.box)).trans h.box, h.row.keep (kept_below k h.row.blw), h.abv, h.lq⟩
theorem rb_new (h : Ra w wr gs s.marks) : Rb w (wr.alloc (.cells #[.int .i64 s.tag, .slice none 0 0] 37)) gs wr.heap.size s none 0 0 :=
  ⟨h.on (bl1 _ _), heap_alloc_new _ _, rowW_nil _ _ _, fun k hk => by simp [fpR] at hk, lt_of_block h.res⟩
/-- one instruction more -/
theorem Rb.app {q j : Nat} {p : Option Addr} {c : Nat} (h : Rb w wr gs q s p c j) (hj : j < s.code.length) (hl : s.code.length < lim) {I : Ins} (hI : s.fin j = I) (ty : TypeId) :
    ∃ r w3, (Builtin.append_ #[35, 35] ty #[.slice p j c, .slice (some ⟨wr.heap.size + 1, 0, none⟩) 1 1]).run Tryd.prog ((wr.alloc (.cells #[.int .i64 I.op, .int .i64 I.n, .float .f64 I.x] 42)).alloc (.cells #[.int .i64 I.op, .int .i64 I.n, .float .f64 I.x] 42)) = .ok r w3 ∧ q < w3.heap.size ∧ w3.frozen? ⟨q, 1, none⟩ = false ∧ w3.cell? ⟨q, 1, none⟩ = some (.slice p j c) ∧ ∃ g c', r = .slice (some ⟨g, 0, none⟩) (j + 1) c' ∧ Hid (Rb w (w3.setCell ⟨q, 1, none⟩ r) gs q s (some ⟨g, 0, none⟩) c' (j + 1)) := by
  unfold lim at hl
  have b0 := bl1 wr (.cells #[.int .i64 I.op, .int .i64 I.n, .float .f64 I.x] 42)
  have b1 : Below wr.heap.size wr ((wr.alloc (.cells #[.int .i64 I.op, .int .i64 I.n, .float .f64 I.x] 42)).alloc (.cells #[.int .i64 I.op, .int .i64 I.n, .float .f64 I.x] 42)) := b0.trans ((bl1 _ _).mono b0.size)
  have h' := h.on b1
  have hx := heap_alloc_new (wr.alloc (.cells #[.int .i64 I.op, .int .i64 I.n, .float .f64 I.x] 42)) (.cells #[.int .i64 I.op, .int .i64 I.n, .float .f64 I.x] 42)
  have es : (wr.alloc (.cells #[.int .i64 I.op, .int .i64 I.n, .float .f64 I.x] 42)).heap.size = wr.heap.size + 1 := by simp
  rw [es] at hx
  obtain ⟨r, w3, e1, g, c', rfl, h2, ht⟩ := h'.row.app Tryd.underlying35 insInfo rfl (by decide) hx rfl (fun y hy => by simp at hy; rcases hy with rfl | rfl | rfl <;> rfl) (by unfold maxLen; omega) (by omega) ty
  have kept : ∀ {k : Nat} {a : Array Value} {S : TypeId}, (42 == S) = false → ((wr.alloc (.cells #[.int .i64 I.op, .int .i64 I.n, .float .f64 I.x] 42)).alloc (.cells #[.int .i64 I.op, .int .i64 I.n, .float .f64 I.x] 42)).heap[k]? = some (.cells a S (0, 0)) → w3.heap[k]? = some (.cells a S (0, 0)) := fun {k a S} hS e => (ht.block k (lt_of_block e) fun z => by obtain ⟨arr, e2⟩ := h'.row.blk z; exact ne_ty e2 e hS rfl).trans e
  have hbox := kept (by decide) h'.box
  have hres := kept (by decide) h'.ra.res
  have hgo := ht.own g (by simp)
  have gq : g ≠ q := by
    rintro rfl
    rcases hgo with z | z
    · obtain ⟨arr, e2⟩ := h'.row.blk z; exact ne_ty e2 h'.box (by decide) rfl
    · exact absurd (lt_of_block h'.box) (Nat.not_lt.2 z)
  have kseen : Kept (fpR (some ⟨gs, 0, none⟩)) _ (w3.setCell ⟨q, 1, none⟩ (.slice (some ⟨g, 0, none⟩) (j + 1) c')) := ⟨Nat.le_trans ht.size (by simp), fun k hk => by
    obtain ⟨arr, e⟩ := h'.ra.row.blk hk
    have hkq : k ≠ q := fun z => by rw [z] at e; exact ne_ty e h'.box (by decide) rfl
    exact (heap_setCell_other _ _ _ _ hkq).trans ((kept (by decide) e).trans e.symm)⟩
  have hbel : Below w.heap.size w (w3.setCell ⟨q, 1, none⟩ (.slice (some ⟨g, 0, none⟩) (j + 1) c')) := by
    refine (h'.ra.bel.trans (ht.below h'.abv h'.ra.bel.size)).trans ((turn_set q 1 _ w3).below (fun k hk => by simp at hk; have := h.lq; omega) (Nat.le_trans h'.ra.bel.size ht.size))
  refine ⟨_, w3, e1, lt_of_block hbox, frozen_of_row _ _ _ _ _ hbox, (cell_of_row _ _ _ _ _ _ hbox).trans rfl, g, c', rfl, ⟨hbel, (heap_setCell_other _ _ _ _ (by have := h.lq; simp; omega)).trans hres, h'.ra.row.keep kseen, h.ra.lo⟩, (heap_setCell_same w3 q 1 _ _ _ hbox).trans rfl, ?_, fun k hk => ?_, h.lq⟩
  · rw [take_fin hj, codC_snoc, hI]
    exact h2.keep ⟨by simp, fun k hk => heap_setCell_other _ _ _ _ (by
      obtain rfl : k = g := by simpa [fpR] using hk
      exact gq)⟩
  · obtain rfl : k = g := by simpa [fpR] using hk
    exact hgo.elim (h.abv _) (Nat.le_trans h'.ra.bel.size)
set_option maxRecDepth 100000 in
set_option maxHeartbeats 4000000 in
theorem rprog_any (h : RAt w b F s) (hl : s.code.length < lim) (hlm : s.marks.length < lim) : Calls Tryd.prog 25 #[.pointer (some ⟨b, 0, none⟩)] w fun e w' => ∃ t p n c, e = .returned (.tuple #[.agg #[.int .i64 t, .slice p n c], .int .i64 s.ans]) ∧ Hid (PrR w w' s t p n c) := by
  obtain ⟨v, h, rfl, ok⟩ := h
  have HH := Lib.hid h
  have HOK := Lib.hid ok
  have HL := Lib.hid (And.intro hl hlm)
  obtain ⟨hb, c0, c1, c2, c3, c4, c5, _⟩ := h.cells
  obtain ⟨w1, hw1⟩ : ∃ w1, w1 = w.alloc (.cells #[.int .i64 0, .slice none 0 0] 37) := ⟨_, rfl⟩
  have HA := Lib.hid (ra_new hw1)
  have hmk := iMake w1
  have hw1s : w1.heap.size = w.heap.size + 1 := by rw [hw1]; simp
  have HMR : Hid (∀ u, Below w.heap.size w u → RRaw u b s.tag s.many (codC s.code) (labC s.tos) (tooC s.tos) (mkC s.marks) s.code.length s.code.length s.code.length s.marks.length v) := fun u k => h.keep (kept_below k h.blw)
  have hmany := ok.many
  obtain ⟨nm, hnm⟩ : ∃ nm, s.marks.length = nm := ⟨_, rfl⟩
  obtain ⟨n, hn⟩ : ∃ n, s.code.length = n := ⟨_, rfl⟩
  have HNM := Lib.hid hnm
  have HN := Lib.hid hn
  rw [hnm] at c5
  rw [hn] at c1 c2 c3
  have hnmI : (nm : Int) ≤ 9223372036854775807 := by have := HL.out.2; unfold lim at this; omega
  have hnI : (n : Int) ≤ 9223372036854775807 := by have := HL.out.1; unfold lim at this; omega
  clear h ok hl hlm hnm hn
  go_enter Tryd.func25, Tryd.ntmps25
  go_upto_region 1 with fail
  rw [← hw1]
  have hbw1 : Below w.heap.size w w1 := by rw [hw1]; exact bl1 _ _
  clear hw1
  have d5 : (w1.alloc (.cells (seenC []).toArray 3)).cell? ⟨b, 5, none⟩ = some (.slice v.pm nm v.cm) := ((bl1 w1 _).cell (p := ⟨b, 5, none⟩) (Nat.lt_of_lt_of_le hb hbw1.size)).trans ((hbw1.cell (p := ⟨b, 5, none⟩) hb).trans c5)
  go_wp2_with fail
  generalize w1.alloc (.cells (seenC []).toArray 3) = w2 at HA d5 ⊢
  rw [hw1s] at HA
  generalize w.heap.size + 1 = gs at HA ⊢
  clear hmk hw1s hbw1 d5
  go_loopw [18] (fun vi wr => ∃ (i : Nat), vi = .int .i64 i ∧ i ≤ nm ∧ Hid (Ra w wr gs (suf s.marks i) ∧ okM s.many (suf s.marks i) = true)) (fun vi _ => nm - (intOf vi).toNat)
  case atStart => exact ⟨0, rfl, Nat.zero_le _, by rw [suf_zero]; exact HA.out, by rw [suf_zero]; rfl⟩
  case round =>
    obtain ⟨i, rfl, hi, HI⟩ := hrel
    by_cases hlt : i < nm
    · have hltI : (i : Int) < (nm : Int) := by omega
      have hmr := HMR.out wr HI.out.1.bel
      obtain ⟨m1, m2⟩ := mkC_at s.marks i (by rw [HNM.out]; exact hlt)
      obtain ⟨gm, eg, hgm, hcm, _, cm, _⟩ := hmr.m.at (by rw [HNM.out]; omega)
      generalize hm : s.marks.reverse.getD i (0, 0) = m at m1 m2
      obtain ⟨ml, mp⟩ := m
      have z0 : wr.cell? ⟨gm, i * 2, none⟩ = some (.int .i64 ml) := (cm _ (by rw [HNM.out]; omega)).trans m1
      have z1 : wr.cell? ⟨gm, i * 2 + 1, none⟩ = some (.int .i64 (mp : Nat)) := (cm _ (by rw [HNM.out]; omega)).trans m2
      obtain ⟨hbr, _, _, _, _, e4, _, _⟩ := hmr.cells
      obtain ⟨hr0, hr1, hrl⟩ := cells2_of HI.out.1.res
      have hrf0 := frozen_of_row _ _ 0 _ _ HI.out.1.res
      have hrf1 := frozen_of_row _ _ 1 _ _ HI.out.1.res
      rw [eg]
      have hsuc : suf s.marks (i + 1) = (ml, mp) :: suf s.marks i := by rw [suf_succ (by rw [HNM.out]; exact hlt), hm]
      have HOKM : Hid (okM s.many (suf s.marks (i + 1)) = (inB s.many ml && !hasM (suf s.marks i) ml)) := by
        show okM s.many (suf s.marks (i + 1)) = _
        rw [hsuc]
        show (inB s.many ml && !hasM (suf s.marks i) ml && okM s.many (suf s.marks i)) = _
        rw [HI.out.2, Bool.and_true]
      have HNO : Hid (okM s.many (suf s.marks (i + 1)) = false → s.ans = 190) := fun q => ans190 (okM_suf (i + 1) q)
      have HSUC := Lib.hid hsuc
      have HBX := Lib.hid (bl1 wr (.cells #[.int .i64 ml, .int .i64 (mp : Nat)] 67))
      have HRA := Lib.hid (HI.out.1.on HBX.out)
      have HSEEN : Hid (∀ l, l < 256 → wr.cell? ⟨gs, l, none⟩ = some (.int .i64 (seenV (suf s.marks i) l : Nat)) ∧ wr.frozen? ⟨gs, l, none⟩ = false ∧ gs < wr.heap.size) := fun l hl => HI.out.1.seen hl
      have HEND : Hid (∀ u, Same (wr.alloc (.cells #[.int .i64 ml, .int .i64 (mp : Nat)] 67)) u → Below w.heap.size w ((u.setCell ⟨w.heap.size, 0, none⟩ (.int .i64 0)).setCell ⟨w.heap.size, 1, none⟩ (.slice none 0 0)) ∧ ((u.setCell ⟨w.heap.size, 0, none⟩ (.int .i64 0)).setCell ⟨w.heap.size, 1, none⟩ (.slice none 0 0)).heap[w.heap.size]? = some (.cells #[.int .i64 0, .slice none 0 0] 37 (0, 0))) := fun u k => by
        have q := HRA.out.on (k.below _)
        refine ⟨q.bel.trans (((turn_set w.heap.size 0 _ u).trans (turn_set w.heap.size 1 _ _)).below (fun i hi => by simp at hi; omega) q.bel.size), (heap_setCell_same _ _ 1 _ _ _ (heap_setCell_same _ _ 0 _ _ _ q.res)).trans rfl⟩
      have hmp : mp ≤ n := by
        have hin : s.marks.reverse.getD i (0, 0) ∈ s.marks := by
          have h' : i < s.marks.reverse.length := by rw [List.length_reverse, HNM.out]; exact hlt
          rw [List.getD_eq_getElem?_getD, List.getElem?_eq_getElem h']
          exact List.mem_reverse.1 (List.getElem_mem h')
        rw [hm] at hin
        rw [← HN.out]
        exact HOK.out.pl _ hin
      have hmpI : (mp : Int) + 1 ≤ 9223372036854775807 := by have := HL.out.1; rw [HN.out] at this; unfold lim at this; omega
      have HQ := Lib.hid (fun l (e : ml = ((l : Nat) : Int)) (hl : l < 256) => by
        have := HRA.out.put l mp hl
        rw [← e, ← hsuc] at this
        exact this)
      clear hm hsuc m1 m2 cm eg hmr HI hmp
      by_cases h0 : ml < 0
      · have HE : Hid (s.ans = 190) := HNO.out (by rw [HOKM.out]; unfold inB; simp; omega)
        clear HNO HOKM HSUC
        go_wp2
        go_quiet (fail)
        go_wp2
        exact prog_back rfl w.heap.size 0 none 0 0 190 rfl rfl (HEND.out _ (by first | exact Same.refl _ | exact Same.drew _ | exact Same.drewN _ _)).2 rfl ⟨0, none, 0, 0, by rw [HE.out], (HEND.out _ (by first | exact Same.refl _ | exact Same.drew _ | exact Same.drewN _ _)).1, .inr ⟨by rw [HE.out]; decide, rfl, rfl, rfl, rfl⟩⟩
      · by_cases h1 : (s.many : Int) ≤ ml
        · have HE : Hid (s.ans = 190) := HNO.out (by rw [HOKM.out]; unfold inB; simp; omega)
          clear HNO HOKM HSUC HQ
          go_wp2
          go_quiet (fail)
          go_wp2
          exact prog_back rfl w.heap.size 0 none 0 0 190 rfl rfl (HEND.out _ (by first | exact Same.refl _ | exact Same.drew _ | exact Same.drewN _ _)).2 rfl ⟨0, none, 0, 0, by rw [HE.out], (HEND.out _ (by first | exact Same.refl _ | exact Same.drew _ | exact Same.drewN _ _)).1, .inr ⟨by rw [HE.out]; decide, rfl, rfl, rfl, rfl⟩⟩
        · obtain ⟨l, hl⟩ := Int.eq_ofNat_of_zero_le (by omega : 0 ≤ ml)
          have hl256 : l < 256 := by omega
          have hl256I : (l : Int) < 256 := by omega
          have HQ2 := Lib.hid (HQ.out l hl hl256)
          subst hl
          have hl0I : (0 : Int) ≤ (l : Int) := by omega
          have hd0 : decide ((l : Int) < 0) = false := by simp
          have hd1 : decide (s.many ≤ l) = false := by simp; omega
          obtain ⟨s0, sf, sl⟩ := HSEEN.out l hl256
          have hin : inB s.many (l : Int) = true := by unfold inB; simp; omega
          rw [hin, Bool.true_and] at HOKM
          cases hh : hasM (suf s.marks i) (l : Int)
          · have e0 : seenV (suf s.marks i) l = 0 := by unfold seenV; rw [hh]; rfl
            rw [e0] at s0
            rw [hh] at HOKM
            clear HNO hh e0 HQ hin
            go_wp2
            refine wp_region_seq (fun u => u.cell? ⟨wr.heap.size, 0, none⟩ = some (.int .i64 (l : Nat)) ∧ u.cell? ⟨b, 4, none⟩ = some (.int .i64 (s.many : Nat)) ∧ u.cell? ⟨gs, l, none⟩ = some (.int .i64 0)) ((0, true) :: (1, true) :: (2, true) :: (3, true) :: (4, true) :: (5, true) :: (6, true) :: (7, true) :: (8, true) :: (9, true) :: (10, true) :: (11, true) :: (12, true) :: (13, true) :: (14, true) :: (15, true) :: (16, true) :: (17, true) :: (18, true) :: (19, true) :: []) follows (by kernel_rfl) (fun _ _ _ _ _ h => h) ⟨(cell_of_row _ _ 0 _ _ _ (heap_alloc_new wr _)).trans rfl, (World.cell?_alloc_old wr _ _ (Nat.ne_of_lt hbr)).trans e4, (World.cell?_alloc_old wr _ _ (Nat.ne_of_lt sl)).trans s0⟩ ?_
            (repeat (first | (refine wpSeq_take (v := ?_) rfl (by rfl) (fun wq hSq => ?_) ?_; rotate_left; (focus ((try dsimp only at hSq); go_simp; try with_reducible rfl)); simp only [Act.put, List.setIfInBounds_toArray, List.set_cons_zero, List.set_cons_succ]) | (refine wpSeq_skip rfl (by rfl) ?_; simp only [Act.put, List.setIfInBounds_toArray, List.set_cons_zero, List.set_cons_succ])))
            refine wpSeq_nil ?_
            obtain ⟨wd, hwd⟩ : ∃ wd, wd = (wr.alloc (.cells #[.int .i64 (l : Nat), .int .i64 (mp : Nat)] 67)).drew := ⟨_, rfl⟩
            have HRD : Hid (Ra w wd gs (suf s.marks i)) := by
              show Ra w wd gs _
              rw [hwd]
              exact HRA.out.on ((Same.drew _).below _)
            have HED : Hid (Same (wr.alloc (.cells #[.int .i64 (l : Nat), .int .i64 (mp : Nat)] 67)) wd) := by
              show Same _ wd
              rw [hwd]
              exact Same.drew _
            obtain ⟨y0, y1, yl⟩ := cells2_of (show wd.heap[wr.heap.size]? = some (.cells #[.int .i64 (l : Nat), .int .i64 (mp : Nat)] 67 (0, 0)) by rw [hwd]; exact heap_alloc_new wr _)
            obtain ⟨q0, q1, ql⟩ := cells2_of HRD.out.res
            have qf0 := frozen_of_row _ _ 0 _ _ HRD.out.res
            have qf1 := frozen_of_row _ _ 1 _ _ HRD.out.res
            obtain ⟨t0, tf, tl⟩ := HRD.out.seen hl256
            rw [← hwd]
            clear hwd hr0 hr1 hrl hrf0 hrf1 s0 sf sl z0 z1
            go_wp2_with fail
            have HZ : Hid (Ra w (wd.setCell ⟨gs, l, none⟩ (.int .i64 ((mp : Int) + 1))) gs (suf s.marks (i + 1))) := by
              show Ra w _ gs _
              rw [HSUC.out]
              exact HRD.out.put l mp hl256
            exact ⟨⟨i + 1, by first | rfl | (congr 1), by omega, HZ.out, by rw [HOKM.out]; rfl⟩, by simp [intOf]; omega⟩
          · have e0 : 0 < seenV (suf s.marks i) l := by unfold seenV; rw [hh]; simp
            have HE : Hid (s.ans = 190) := HNO.out (by rw [HOKM.out, hh]; rfl)
            generalize seenV (suf s.marks i) l = sv at s0 e0
            have e0I : (0 : Int) < (sv : Int) := by omega
            clear HNO HOKM HSUC HQ HQ2 hh hin
            go_wp2
            refine wp_region_seq (fun u => u.cell? ⟨wr.heap.size, 0, none⟩ = some (.int .i64 (l : Nat)) ∧ u.cell? ⟨b, 4, none⟩ = some (.int .i64 (s.many : Nat)) ∧ u.cell? ⟨gs, l, none⟩ = some (.int .i64 (sv : Nat))) ((0, true) :: (1, true) :: (2, true) :: (3, true) :: (4, true) :: (5, true) :: (6, true) :: (7, true) :: (8, true) :: (9, true) :: (10, true) :: (11, true) :: (12, true) :: (13, true) :: (14, true) :: (15, true) :: (16, true) :: (17, true) :: (18, true) :: (19, true) :: []) follows (by kernel_rfl) (fun _ _ _ _ _ h => h) ⟨(cell_of_row _ _ 0 _ _ _ (heap_alloc_new wr _)).trans rfl, (World.cell?_alloc_old wr _ _ (Nat.ne_of_lt hbr)).trans e4, (World.cell?_alloc_old wr _ _ (Nat.ne_of_lt sl)).trans s0⟩ ?_
            (repeat (first | (refine wpSeq_take (v := ?_) rfl (by rfl) (fun wq hSq => ?_) ?_; rotate_left; (focus ((try dsimp only at hSq); go_simp; try with_reducible rfl)); simp only [Act.put, List.setIfInBounds_toArray, List.set_cons_zero, List.set_cons_succ]) | (refine wpSeq_skip rfl (by rfl) ?_; simp only [Act.put, List.setIfInBounds_toArray, List.set_cons_zero, List.set_cons_succ])))
            refine wpSeq_nil ?_
            obtain ⟨wd, hwd⟩ : ∃ wd, wd = (wr.alloc (.cells #[.int .i64 (l : Nat), .int .i64 (mp : Nat)] 67)).drew := ⟨_, rfl⟩
            have HRD : Hid (Ra w wd gs (suf s.marks i)) := by
              show Ra w wd gs _
              rw [hwd]
              exact HRA.out.on ((Same.drew _).below _)
            have HED : Hid (Same (wr.alloc (.cells #[.int .i64 (l : Nat), .int .i64 (mp : Nat)] 67)) wd) := by
              show Same _ wd
              rw [hwd]
              exact Same.drew _
            obtain ⟨y0, y1, yl⟩ := cells2_of (show wd.heap[wr.heap.size]? = some (.cells #[.int .i64 (l : Nat), .int .i64 (mp : Nat)] 67 (0, 0)) by rw [hwd]; exact heap_alloc_new wr _)
            obtain ⟨q0, q1, ql⟩ := cells2_of HRD.out.res
            have qf0 := frozen_of_row _ _ 0 _ _ HRD.out.res
            have qf1 := frozen_of_row _ _ 1 _ _ HRD.out.res
            obtain ⟨t0, tf, tl⟩ := HRD.out.seen hl256
            rw [← hwd]
            clear hwd hr0 hr1 hrl hrf0 hrf1 s0 sf sl z0 z1
            go_wp2_with fail
            exact prog_back rfl w.heap.size 0 none 0 0 190 rfl rfl (HEND.out _ HED.out).2 rfl ⟨0, none, 0, 0, by rw [HE.out], (HEND.out _ HED.out).1, .inr ⟨by rw [HE.out]; decide, rfl, rfl, rfl, rfl⟩⟩
    · have hltI : ¬ (i : Int) < (nm : Int) := by omega
      obtain rfl : i = nm := by omega
      have esuf : suf s.marks i = s.marks := by rw [← HNM.out]; exact suf_all _
      rw [esuf] at HI
      have HM := Lib.hid HI.out.2
      have HB0 := Lib.hid (rb_new HI.out.1)
      obtain ⟨hbr, e0, e1, _⟩ := (HMR.out _ HI.out.1.bel).cells
      have e1' : (wr.alloc (.cells #[.int .i64 s.tag, .slice none 0 0] 37)).cell? ⟨b, 1, none⟩ = some (.slice v.pc n v.cc) := by rw [← HN.out]; exact ((bl1 wr _).cell (p := ⟨b, 1, none⟩) hbr).trans e1
      clear c0 c1 c2 c3 c4 c5 esuf HI HA
      go_upto_region 10 with fail
      generalize wr.alloc (.cells #[.int .i64 s.tag, .slice none 0 0] 37) = w4 at HB0 e1' ⊢
      generalize wr.heap.size = q at HB0 ⊢
      clear e0 e1 hbr
      go_wp2_with fail
      go_loopw [61] (fun vi wr => ∃ (j : Nat), vi = .int .i64 j ∧ j ≤ n ∧ Hid ((∃ p c, Rb w wr gs q s p c j) ∧ ∀ k, k < j → s.toOk k = true)) (fun vi _ => n - (intOf vi).toNat)
      case atStart => exact ⟨0, rfl, Nat.zero_le _, ⟨_, _, HB0.out⟩, fun k hk => absurd hk (Nat.not_lt_zero _)⟩
      case round =>
        obtain ⟨j, rfl, hj, HJ⟩ := hrel
        clear HB0
        by_cases hjn : j < n
        · have hjnI : (j : Int) < (n : Int) := by omega
          obtain ⟨⟨p, c, hR⟩, hto⟩ := HJ.out
          have hmr := HMR.out wr hR.ra.bel
          obtain ⟨hbr, _, f1, f2, f3, f4, _, _⟩ := hmr.cells
          rw [HN.out] at f1 f2 f3
          obtain ⟨g1, eg1, hg1, _, _, cg1, _⟩ := hmr.c.at (by rw [HN.out]; omega)
          obtain ⟨g2, eg2, hg2, _, _, cg2, _⟩ := hmr.l.at (by rw [HN.out]; omega)
          obtain ⟨g3, eg3, hg3, _, _, cg3, _⟩ := hmr.t.at (by rw [HN.out]; omega)
          have hjs : j < s.code.length := by rw [HN.out]; exact hjn
          obtain ⟨k0, k1, k2⟩ := codC_at s.code j hjs
          have z0 := (cg1 (j * 3) (by omega)).trans k0
          have z1 := (cg1 (j * 3 + 1) (by omega)).trans k1
          have z2 := (cg1 (j * 3 + 2) (by omega)).trans k2
          have hjt : j < s.tos.length := by rw [HOK.out.len]; exact hjs
          have z3 := (cg2 j (by omega)).trans (labC_at hjt).1
          have z4 := (cg3 j (by omega)).trans (labC_at hjt).2
          rw [eg1]
          rw [eg2] at f2
          rw [eg3] at f3
          obtain ⟨r0, r1, rl⟩ := cells2_of hR.ra.res
          have rf0 := frozen_of_row _ _ 0 _ _ hR.ra.res
          have rf1 := frozen_of_row _ _ 1 _ _ hR.ra.res
          obtain ⟨_, b1, bl⟩ := cells2_of hR.box
          have HAP := Lib.hid (fun (I : Ins) (hI : s.fin j = I) => hR.app hjs HL.out.1 hI)
          have HNO : Hid (s.toOk j = false → s.ans = 190) := fun q => by
            have : s.ok = false := by
              cases hk : s.ok
              · rfl
              · have := ((ok_split s).1 hk).2 j hjs
                rw [q] at this
                cases this
            unfold Bs.ans
            rw [this]
            rfl
          have HTO : Hid (s.toOk j = true → ∀ k, k < j + 1 → s.toOk k = true) := fun q k hk => by
            by_cases e : k = j
            · rw [e]; exact q
            · exact hto k (by omega)
          have HSEEN : Hid (∀ l, l < 256 → wr.cell? ⟨gs, l, none⟩ = some (.int .i64 (seenV s.marks l : Nat)) ∧ wr.frozen? ⟨gs, l, none⟩ = false ∧ gs < wr.heap.size) := fun l hl => hR.ra.seen hl
          have HEND : Hid (∀ x, Below w.heap.size w (((wr.setCell ⟨w.heap.size, 0, none⟩ (.int .i64 0)).setCell ⟨w.heap.size, 1, none⟩ (.slice none 0 0)).alloc x) ∧ (((wr.setCell ⟨w.heap.size, 0, none⟩ (.int .i64 0)).setCell ⟨w.heap.size, 1, none⟩ (.slice none 0 0)).alloc x).heap[w.heap.size]? = some (.cells #[.int .i64 0, .slice none 0 0] 37 (0, 0))) := fun x => by
            have q := hR.ra
            have t4 := (turn_set w.heap.size 0 (.int .i64 0) wr).trans (turn_set w.heap.size 1 (.slice none 0 0) _)
            have b4 := q.bel.trans (t4.below (fun i hi => by simp at hi; omega) q.bel.size)
            exact ⟨b4.alloc b4.size x, (Below.heap_alloc _ _ _ (by simpa using rl)).trans ((heap_setCell_same _ _ 1 _ _ _ (heap_setCell_same _ _ 0 _ _ _ q.res)).trans rfl)⟩
          cases hq : s.tos.getD j none with
          | none =>
            have HAP2 := Lib.hid (HAP.out _ (fin_no hq))
            have HT2 := Lib.hid (HTO.out (toOk_no hq))
            rw [hq] at z4
            generalize ci s.code j = I at z0 z1 z2 HAP2
            obtain ⟨op, x, y⟩ := I
            clear HAP HTO HNO HSEEN HEND hto hR hmr cg1 cg2 cg3 k0 k1 k2 z3 hq hjt HJ
            go_wp2_with (at_builtin; refine wpList_append_ex rfl _ _ _ _ rfl _ _ rfl rfl (by exact HAP2.out _) ?_; rintro r w5 ⟨m1, m2, m3, g5, c5, rfl, m4⟩)
            exact ⟨⟨j + 1, by first | rfl | (congr 1), by omega, ⟨_, _, m4.out⟩, HT2.out⟩, by simp [intOf]; omega⟩
          | some l =>
            have efin := fin_to hq
            have HTE : Hid (s.toOk j = hasM s.marks l) := toOk_to hq
            rw [hq] at z3 z4
            simp only [Option.getD_some, Option.isSome_some] at z3 z4
            clear hto hR hmr cg1 cg2 cg3 k0 k1 k2 hq hjt HJ
            cases hh : hasM s.marks l
            · have HE : Hid (s.ans = 190) := HNO.out (by rw [HTE.out, hh])
              clear HAP HTO HNO HTE efin
              generalize ci s.code j = I at z0 z1 z2
              obtain ⟨op, x, y⟩ := I
              by_cases h0 : l < 0
              · go_wp2
                exact prog_back rfl w.heap.size 0 none 0 0 190 rfl rfl (HEND.out _).2 rfl ⟨0, none, 0, 0, by rw [HE.out], (HEND.out _).1, .inr ⟨by rw [HE.out]; decide, rfl, rfl, rfl, rfl⟩⟩
              · by_cases h1 : (s.many : Int) ≤ l
                · go_wp2
                  exact prog_back rfl w.heap.size 0 none 0 0 190 rfl rfl (HEND.out _).2 rfl ⟨0, none, 0, 0, by rw [HE.out], (HEND.out _).1, .inr ⟨by rw [HE.out]; decide, rfl, rfl, rfl, rfl⟩⟩
                · obtain ⟨l, rfl⟩ := Int.eq_ofNat_of_zero_le (by omega : 0 ≤ l)
                  have hl256 : l < 256 := by omega
                  have hl256I : (l : Int) < 256 := by omega
                  have hl0I : (0 : Int) ≤ (l : Int) := by omega
                  have hd0 : decide ((l : Int) < 0) = false := by simp
                  have hd1 : decide (s.many ≤ l) = false := by simp; omega
                  obtain ⟨t0, tf, tl⟩ := HSEEN.out l hl256
                  have e0 : seenV s.marks l = 0 := by unfold seenV; rw [hh]; rfl
                  rw [e0] at t0
                  clear HSEEN e0 hh
                  go_wp2
                  exact prog_back rfl w.heap.size 0 none 0 0 190 rfl rfl (HEND.out _).2 rfl ⟨0, none, 0, 0, by rw [HE.out], (HEND.out _).1, .inr ⟨by rw [HE.out]; decide, rfl, rfl, rfl, rfl⟩⟩
            · have HT2 := Lib.hid (HTO.out (by rw [HTE.out, hh]))
              have hin := ((okM_iff _ _).1 HM.out).1 l hh
              unfold inB at hin
              rw [Bool.and_eq_true, decide_eq_true_eq, decide_eq_true_eq] at hin
              obtain ⟨l, rfl⟩ := Int.eq_ofNat_of_zero_le hin.1
              have hl256 : l < 256 := by omega
              have hl256I : (l : Int) < 256 := by omega
              have hl0I : (0 : Int) ≤ (l : Int) := by omega
              have hd0 : decide ((l : Int) < 0) = false := by simp
              have hd1 : decide (s.many ≤ l) = false := by simp; omega
              obtain ⟨t0, tf, tl⟩ := HSEEN.out l hl256
              have e0 : ((seenV s.marks l : Nat) : Int) = (plN s.marks (l : Int) : Nat) + 1 := by unfold seenV; rw [hh]; rfl
              rw [e0] at t0
              have HAP2 := Lib.hid (HAP.out _ efin)
              have hpl : plN s.marks (l : Int) ≤ n := by rw [← HN.out]; exact plN_le HOK.out.pl _
              generalize plN s.marks (l : Int) = pn at t0 HAP2 hpl
              generalize ci s.code j = I at z0 z1 z2 HAP2
              obtain ⟨op, x, y⟩ := I
              have hpn0 : ((pn : Int) + 1 == 0) = false := by simp; omega
              have hpnI : (pn : Int) + 1 ≤ 9223372036854775807 := by have := HL.out.1; rw [HN.out] at this; unfold lim at this; omega
              clear HAP HTO HNO HSEEN HEND hh hin e0 efin HTE hpl
              go_wp2_with (at_builtin; refine wpList_append_ex rfl _ _ _ _ rfl _ _ rfl rfl (by exact HAP2.out _) ?_; rintro r w5 ⟨m1, m2, m3, g5, c5, rfl, m4⟩)
              exact ⟨⟨j + 1, by first | rfl | (congr 1), by omega, ⟨_, _, m4.out⟩, HT2.out⟩, by simp [intOf]; omega⟩
        · have hjnI : ¬ (j : Int) < (n : Int) := by omega
          obtain rfl : j = n := by omega
          obtain ⟨⟨p, c, hR⟩, hto⟩ := HJ.out
          have hok : s.ok = true := (ok_split s).2 ⟨HM.out, fun k hk => hto k (by rw [← HN.out]; exact hk)⟩
          have HE : Hid (s.ans = checkE s.tag s.filled) := by
            show s.ans = _
            unfold Bs.ans
            rw [hok]
            rfl
          have hfl : s.filled.take j = s.filled := by rw [← HN.out, ← filled_len s, List.take_length]
          have hrow := hR.row
          rw [hfl] at hrow
          have HCK : Hid (Calls Tryd.prog 11 #[.agg #[.int .i64 s.tag, .slice p j c]] wr fun e w' => e = .returned (.int .i64 (checkE s.tag s.filled)) ∧ Below wr.heap.size wr w') := by
            have := refCheck_any s.tag c (RowW.code (by rw [filled_len]; exact HN.out) hrow) (by rw [filled_len]; have := HL.out.1; unfold lim at this; omega)
            rw [filled_len, HN.out] at this
            exact this
          have HR := Lib.hid hR
          have HRW := Lib.hid hrow
          obtain ⟨_, _, bl⟩ := cells2_of hR.box
          have HAFT : Hid (∀ u, Below wr.heap.size wr u → (u.cell? ⟨q, 0, none⟩ = some (.int .i64 s.tag) ∧ u.cell? ⟨q, 1, none⟩ = some (.slice p j c) ∧ q < u.heap.size) ∧ (u.cell? ⟨w.heap.size, 0, none⟩ = some (.int .i64 0) ∧ u.cell? ⟨w.heap.size, 1, none⟩ = some (.slice none 0 0) ∧ w.heap.size < u.heap.size) ∧ (∀ i, u.frozen? ⟨w.heap.size, i, none⟩ = false) ∧
              ∀ t x, Below w.heap.size w ((u.setCell ⟨w.heap.size, 0, none⟩ t).setCell ⟨w.heap.size, 1, none⟩ x) ∧ ((u.setCell ⟨w.heap.size, 0, none⟩ t).setCell ⟨w.heap.size, 1, none⟩ x).heap[w.heap.size]? = some (.cells #[t, x] 37 (0, 0)) ∧ CodeAt ((u.setCell ⟨w.heap.size, 0, none⟩ t).setCell ⟨w.heap.size, 1, none⟩ x) p s.filled) := fun u k => by
            have h := hR.on k
            have t4 : ∀ t x, Turn [w.heap.size] [w.heap.size] u ((u.setCell ⟨w.heap.size, 0, none⟩ t).setCell ⟨w.heap.size, 1, none⟩ x) := fun t x => (turn_set w.heap.size 0 t u).trans (turn_set w.heap.size 1 x _)
            refine ⟨cells2_of h.box, cells2_of h.ra.res, fun i => frozen_of_row _ _ _ _ _ h.ra.res, fun t x => ⟨h.ra.bel.trans ((t4 t x).below (fun i hi => by simp at hi; omega) h.ra.bel.size), (heap_setCell_same _ _ 1 _ _ _ (heap_setCell_same _ _ 0 _ _ _ h.ra.res)).trans rfl, ?_⟩⟩
            refine RowW.code (c := c) (n := j) (by rw [filled_len]; exact HN.out) ((HRW.out.keep (kept_below k HRW.out.blw)).keep ((t4 t x).kept (fun i hi z => ?_) (HRW.out.keep (kept_below k HRW.out.blw)).blw))
            obtain ⟨arr, e⟩ := (HRW.out.keep (kept_below k HRW.out.blw)).blk hi
            simp at z
            subst z
            exact ne_ty e h.ra.res (by decide) rfl
          obtain ⟨⟨b0, b1, bq⟩, _⟩ := HAFT.out _ (Below.refl _ _)
          clear hR hto hrow hfl hok HJ HMR
          rcases checkE_ways s.tag s.filled with h5 | h5
          · rw [h5] at HE HCK
            clear h5
            go_wp2_with (go_at_call 11; refine HCK.out.mono ?_; rintro e u4 ⟨rfl, hb4⟩; obtain ⟨⟨y0, y1, yq⟩, ⟨x0, x1, xl⟩, xf, xx⟩ := HAFT.out _ hb4; have xf0 := xf 0; have xf1 := xf 1; have HX := Lib.hid xx; clear xf xx hb4 HCK)
            exact prog_back rfl w.heap.size s.tag p j c 0 rfl rfl (HX.out _ _).2.1 rfl ⟨s.tag, p, j, c, by rw [HE.out], (HX.out _ _).1, .inl ⟨HE.out, rfl, HN.out.symm, (HX.out _ _).2.2⟩⟩
          · rw [h5] at HE HCK
            clear h5
            go_wp2_with (go_at_call 11; refine HCK.out.mono ?_; rintro e u4 ⟨rfl, hb4⟩; obtain ⟨⟨y0, y1, yq⟩, ⟨x0, x1, xl⟩, xf, xx⟩ := HAFT.out _ hb4; have xf0 := xf 0; have xf1 := xf 1; have HX := Lib.hid xx; clear xf xx hb4 HCK)
            exact prog_back rfl w.heap.size 0 none 0 0 50 rfl rfl (HX.out _ _).2.1 rfl ⟨0, none, 0, 0, by rw [HE.out], (HX.out _ _).1, .inr ⟨by rw [HE.out]; decide, rfl, rfl, rfl, rfl⟩⟩
end
end Go.Proofs.YtmoafflimfhaiaaDoor.As
