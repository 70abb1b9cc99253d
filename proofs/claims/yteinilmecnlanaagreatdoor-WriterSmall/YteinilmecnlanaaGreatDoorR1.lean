import Derived.Test.YteinilmecnlanaaGreatDoorKJ
import Derived.Test.YteinilmecnlanaaGreatDoorC8
import Derived.Test.YteinilmecnlanaaGreatDoorWalkB
namespace Go.Proofs.YteinilmecnlanaaGreatDoor
open Go.ChangeShapes Go.WideShapes Go.ChangeAt Go.RowKit Num
attribute [local go_sem] run_store_float

/-! the document's machine -/
/-- where its parts lie -/
structure Rp where
  th : Int
  tg : Int
  pk : Option Addr
  nk : Nat
  ck : Nat
  bad : Bool
  pa : Option Addr
  na : Nat
  ca : Nat
  ps : Option Addr
  cs : Nat
  pc : Option Addr
  cc : Nat
  bl : Nat
  cl : Nat
  pt : Option Addr
  ct : Nat
  pr : Option Addr
  cr : Nat
  pb : Option Addr
  cb : Nat
def rboxV (m : Mac) (q : Rp) : Array Value := #[.int .i64 m.cells, .int .i64 q.th, .int .i64 m.fuel, .int .i64 m.wmax, .int .i64 q.tg, .slice q.pk q.nk q.ck, .bool q.bad, .slice q.pa q.na q.ca, .slice q.ps m.st.length q.cs, .slice q.pc m.calls.length q.cc, .slice (some ⟨q.bl, 0, none⟩) 8 q.cl,
  .int .i64 m.place, .int .i64 m.used, .int .i64 m.wait, .int .i64 m.how, .int .i64 m.cod, .int .i64 m.err, .slice q.pt m.out.length q.ct, .slice q.pr m.reads.length q.cr, .slice q.pb m.buf.length q.cb]
theorem fMake8 (w : World) : (Instr.makeSlice 27 (.int .i64 8) (.int .i64 8)).run Tryz.prog w = .ok (.slice (some ⟨w.heap.size, 0, none⟩) 8 8) (w.alloc (.cells #[.float .f64 0, .float .f64 0, .float .f64 0, .float .f64 0, .float .f64 0, .float .f64 0, .float .f64 0, .float .f64 0] 73)) := fMake 8 (by omega) w
section
variable {w : World}
set_option maxHeartbeats 600000 in
set_option maxRecDepth 100000 in
theorem rnew_cfg (a b c e t : Int) (ao : Option Addr) (n cap : Nat) (po : Option Addr) (k co : Nat) (hc : Md.cfgB a b c e = false) : Calls Tryz.prog 71 #[cfgV a b c e, .agg #[.int .i64 t, .slice ao n cap], .slice po k co] w fun r w' => r = .returned (.pointer none) ∧ Below w.heap.size w w' := by
  have HP := Lib.hid (Md.refPlace_any a b c e (newW w a b c e t ao n cap))
  rw [hc] at HP
  clear hc
  go_enter Tryz.func71, Tryz.ntmps71
  go_wp2_with (go_at_call 37; refine HP.out.mono ?_; rw [if_neg Bool.false_ne_true]; rintro r u0 ⟨rfl, q⟩; have HQ := Lib.hid (newW_boxes q).2.2; clear q HP)
  go_ret
  exact ⟨rfl, HQ.out.alloc HQ.out.size _⟩
set_option maxHeartbeats 600000 in
set_option maxRecDepth 100000 in
theorem rnew_args (a b c e t : Int) (ao : Option Addr) (n cap : Nat) (po : Option Addr) (k co : Nat) (hc : Md.cfgB a b c e = true) (hk : 8 < k) : Calls Tryz.prog 71 #[cfgV a b c e, .agg #[.int .i64 t, .slice ao n cap], .slice po k co] w fun r w' => r = .returned (.pointer none) ∧ Below w.heap.size w w' := by
  have HP := Lib.hid (Md.refPlace_any a b c e (newW w a b c e t ao n cap))
  rw [hc] at HP
  have hk' : (8 : Int) < (k : Int) := by omega
  clear hc
  go_enter Tryz.func71, Tryz.ntmps71
  go_wp2_with (go_at_call 37; refine HP.out.mono ?_; rw [if_pos rfl]; rintro r u0 ⟨rfl, q⟩; have HQ := Lib.hid (newW_boxes q).2.2; clear q HP)
  go_ret
  exact ⟨rfl, HQ.out.alloc HQ.out.size _⟩
theorem newW_boxes4 {w u : World} {a b c e t : Int} {ao : Option Addr} {n cap : Nat} (h : Below (newW w a b c e t ao n cap).heap.size (newW w a b c e t ao n cap) u) :
    u.cell? ⟨w.heap.size, 0, none⟩ = some (.int .i64 a) ∧ u.cell? ⟨w.heap.size, 1, none⟩ = some (.int .i64 b) ∧ u.cell? ⟨w.heap.size, 2, none⟩ = some (.int .i64 c) ∧ u.cell? ⟨w.heap.size, 3, none⟩ = some (.int .i64 e) ∧ w.heap.size < u.heap.size := by
  have b1 : u.heap[w.heap.size]? = some (cfgO a b c e) := (h.block _ (by simp; omega)).trans ((heap_alloc_old _ _ (by simp)).trans (heap_alloc_new w _))
  exact Md.cells4 b1
/-- the document's machine in the making: j arguments are laid -/
abbrev locO : Obj := .cells #[.float .f64 0, .float .f64 0, .float .f64 0, .float .f64 0, .float .f64 0, .float .f64 0, .float .f64 0, .float .f64 0] 73
abbrev rbO (m : Mac) (q : Rp) : Obj := .cells (rboxV m q) 107
structure RNew (w wr : World) (m : Mac) (q : Rp) (br : Nat) (l : List Nat) : Prop where
  box : wr.heap[br]? = some (rbO m q)
  loc : wr.heap[q.bl]? = some locO
  row : RowAt 73 wr q.pa q.ca (fls l)
  na : q.na = l.length
  ne : br ≠ q.bl
  n1 : br ∉ fpR q.pa
  n2 : q.bl ∉ fpR q.pa
  a1 : w.heap.size ≤ br
  a2 : w.heap.size ≤ q.bl
  a3 : Abv w.heap.size (fpR q.pa)
  bl : Below w.heap.size w wr
theorem RNew.more {w wr w3 : World} {m : Mac} {q : Rp} {br x : Nat} {l : List Nat} {v : Value} {o : Obj} (h : RNew w wr m q br l) (hown : w3.ownsRow 0 73 1 v (l.length + 1) (fls l ++ [.float .f64 x])) (hg : (wr.alloc o).grownBy w3 (Value.slice q.pa l.length q.ca).ownBlock) (hat : v.ownBlock = (Value.slice q.pa l.length q.ca).ownBlock ∨ v.ownBlock = some (wr.alloc o).heap.size) :
    ∃ p' c', v = .slice p' (l.length + 1) c' ∧ w3.heap[br]? = some (rbO m q) ∧ RNew w (w3.setCell ⟨br, 7, none⟩ (.slice p' (l.length + 1) c')) m { q with pa := p', na := l.length + 1, ca := c' } br (l ++ [x]) := by
  obtain ⟨p', c', rfl, hr⟩ := ownsRow_slice hown
  have hl : (fls l ++ [Value.float .f64 x]).length = l.length + 1 := by simp [fls_len]
  rw [hl] at hat ⊢
  have g : wr.grownBy w3 (Value.slice q.pa l.length q.ca).ownBlock := (World.grownBy_alloc wr o _).trans hg
  have ho : ∀ k, k ∈ fpR p' → k ∈ fpR q.pa ∨ wr.heap.size ≤ k := own_at hat (by simp)
  have hb3 : w3.heap[br]? = some (rbO m q) := (g.block br (lt_of_block h.box) (fun z => h.n1 (own_fpR.2 z.symm))).trans h.box
  have hl3 : w3.heap[q.bl]? = some locO := (g.block q.bl (lt_of_block h.loc) (fun z => h.n2 (own_fpR.2 z.symm))).trans h.loc
  have m1 : br ∉ fpR p' := fun z => (ho br z).elim h.n1 (fun y => absurd (lt_of_block h.box) (Nat.not_lt.2 y))
  have m2 : q.bl ∉ fpR p' := fun z => (ho q.bl z).elim h.n2 (fun y => absurd (lt_of_block h.loc) (Nat.not_lt.2 y))
  have hsz := h.bl.size
  have hgs := g.size
  refine ⟨p', c', rfl, hb3, ⟨?_, ?_, ?_, by simp, h.ne, m1, m2, h.a1, h.a2, fun k hk => (ho k hk).elim (h.a3 k) (fun y => by omega), ?_⟩⟩
  · exact (heap_setCell_same w3 br 7 _ _ _ hb3).trans rfl
  · exact (heap_setCell_other _ _ _ _ (by simpa using h.ne.symm)).trans hl3
  · rw [fls_snoc]
    exact hr.keep ⟨by simp, fun k hk => heap_setCell_other _ _ _ _ (by rintro rfl; exact m1 hk)⟩
  · refine ⟨g.os.trans h.bl.os, g.tape.trans h.bl.tape, g.output.trans h.bl.output, by simp; omega, fun k hk => ?_⟩
    have e1 : k ≠ br := by have := h.a1; omega
    have e2 : (some k : Option Nat) ≠ (Value.slice q.pa l.length q.ca).ownBlock := fun z => by have := h.a3 k (own_fpR.2 z.symm); omega
    exact (heap_setCell_other _ _ _ _ (by simpa using e1)).trans ((g.block k (by omega) e2).trans (h.bl.block k hk))
theorem eight_take (f : Nat → Nat) {j : Nat} (h : j < 8) : (eight f).take (j + 1) = (eight f).take j ++ [f j] := by
  match j, h with
  | 0, _ => rfl
  | 1, _ => rfl
  | 2, _ => rfl
  | 3, _ => rfl
  | 4, _ => rfl
  | 5, _ => rfl
  | 6, _ => rfl
  | 7, _ => rfl
theorem eight_len (f : Nat → Nat) {j : Nat} (h : j ≤ 8) : ((eight f).take j).length = j := by rw [List.length_take]; simp [eight]; omega
def rq0 (b t : Int) (ao : Option Addr) (n cap : Nat) (bad : Bool) (bl : Nat) : Rp := ⟨b, t, ao, n, cap, bad, none, 0, 0, none, 0, none, 0, bl, 8, none, 0, none, 0, none, 0⟩
theorem bl_same0 {N u : World} (h : Below N.heap.size N u) : Below N.heap.size N u.drew := h.trans ((Same.drew _).below _)
theorem bl_alloc0 {N u : World} (h : Below N.heap.size N u) (o : Obj) : Below N.heap.size N (u.drew.alloc o) := (bl_same0 h).alloc (bl_same0 h).size o
theorem start_a {w v : World} (h : Below w.heap.size w v) {m : Mac} {b t : Int} {ao : Option Addr} {n cap : Nat} {bad : Bool} : RNew w ((v.alloc locO).alloc (rbO m (rq0 b t ao n cap bad v.heap.size))) m (rq0 b t ao n cap bad v.heap.size) (v.heap.size + 1) [] := by
  have hs := h.size
  refine ⟨heap_new (by simp), (heap_alloc_old _ _ (by simp [rq0])).trans (heap_new rfl), ⟨World.ownsRow_nil _ _ _ _⟩, rfl, by simp [rq0], by simp [fpR, rq0], by simp [fpR, rq0], by omega, by show w.heap.size ≤ v.heap.size; omega, fun k hk => by simp [fpR, rq0] at hk, ?_⟩
  exact (h.alloc h.size _).alloc (by simp; omega) _
theorem start_b {w v : World} (h : Below w.heap.size w v) {m : Mac} {b t : Int} {ao : Option Addr} {n cap bl : Nat} {bad : Bool} (hl : v.heap[bl]? = some locO) (ha : w.heap.size ≤ bl) : RNew w (v.alloc (rbO m (rq0 b t ao n cap bad bl))) m (rq0 b t ao n cap bad bl) v.heap.size [] := by
  have hs := h.size
  have hlt := lt_of_block hl
  refine ⟨heap_new rfl, (heap_alloc_old _ _ hlt).trans hl, ⟨World.ownsRow_nil _ _ _ _⟩, rfl, by show v.heap.size ≠ bl; omega, by simp [fpR, rq0], by simp [fpR, rq0], by omega, ha, fun k hk => by simp [fpR, rq0] at hk, h.alloc h.size _⟩
set_option maxHeartbeats 1000000 in
set_option maxRecDepth 100000 in
theorem rnew_some {a b c e t : Int} {ao : Option Addr} {cs : List Ins} {n cap : Nat} {po : Option Addr} {l : List Nat} {k co : Nat} (hc : Md.cfgB a b c e = true) (hn : cs.length = n) (hk : l.length = k) (hk8 : k ≤ 8) (hC : CodeAt w ao cs) (hL : FlAt w po l) (hnl : n ≤ 9223372036854775807) : Calls Tryz.prog 71 #[cfgV a b c e, .agg #[.int .i64 t, .slice ao n cap], .slice po k co] w fun r w' => ∃ br bl pa ca, r = .returned (.pointer (some ⟨br, 0, none⟩)) ∧ RNew w w' (newM a c e t cs l) { rq0 b t ao n cap (!checkB t cs) bl with pa := pa, na := 8, ca := ca } br (eight (argF l)) := by
  have HP := Lib.hid (Md.refPlace_any a b c e (newW w a b c e t ao n cap))
  rw [hc] at HP
  have hk' : ¬ (8 : Int) < (k : Int) := by omega
  have HCK : Hid (∀ u, Below w.heap.size w u → Calls Tryz.prog 101 #[.agg #[.int .i64 t, .slice ao n cap]] u fun r w' => r = .returned (.int .i64 (checkE t cs)) ∧ Below u.heap.size u w') := fun u hb => by
    have := refCheck_any t cap (hC.on hb) (by omega)
    rw [hn] at this
    exact this
  have HBD : Hid ((checkE t cs != 0) = !checkB t cs) := by
    show _ = _
    cases hq : checkB t cs
    · rw [checkE_no hq]; rfl
    · rw [checkE_yes hq]; rfl
  have HL := Lib.hid (And.intro hL (And.intro hk hk8))
  have HNW : Hid (w.heap.size ≤ (newW w a b c e t ao n cap).heap.size) := by show _ ≤ _; simp; omega
  have hmk := fMake8
  obtain ⟨i0, hi, hz0, hz1, hz2⟩ := info_parts fInfo
  have HZI := Lib.hid (And.intro hi (And.intro hz0 (And.intro hz1 hz2)))
  clear hc hC hL hnl hi hz0 hz1 hz2
  generalize checkE t cs = ce at HCK HBD
  go_enter Tryz.func71, Tryz.ntmps71
  go_wp2_with (go_at_call 37; refine HP.out.mono ?_; rw [if_pos rfl]; rintro r u0 ⟨rfl, q⟩; obtain ⟨x0, x1, x2, x3, x4⟩ := newW_boxes4 q; obtain ⟨_, ⟨y0, y1, y2⟩, z0⟩ := newW_boxes q; have B0 := Lib.hid (q.alloc q.size (.cells #[.int .i64 0, .int .i64 1, .int .i64 2, .int .i64 3, .int .i64 (3 + b), .int .i64 (3 + b + 3 * a)] 51)); clear q HP z0)
  go_region_held (fun w' => w'.cell? ⟨w.heap.size, 0, none⟩ = some (.int .i64 a) ∧ w'.cell? ⟨w.heap.size, 1, none⟩ = some (.int .i64 b) ∧ w'.cell? ⟨w.heap.size, 2, none⟩ = some (.int .i64 c) ∧ w'.cell? ⟨w.heap.size, 3, none⟩ = some (.int .i64 e) ∧ w'.cell? ⟨w.heap.size + 1, 0, none⟩ = some (.int .i64 t) ∧ w'.cell? ⟨w.heap.size + 1, 1, none⟩ = some (.slice ao n cap)) (go_keep) (first
    | (go_at_call 101; refine (HCK.out _ (newW_boxes (bl_same0 B0.out)).2.2).mono ?_; rintro r v1 ⟨rfl, d1⟩; have d2 := (bl_same0 B0.out).trans (d1.mono (bl_same0 B0.out).size); obtain ⟨x0, x1, x2, x3, x4⟩ := newW_boxes4 d2; obtain ⟨_, ⟨y0, y1, y2⟩, z0⟩ := newW_boxes d2; have B1 := Lib.hid (And.intro d2 d1); clear d1 d2 z0)
    | (go_at_call 101; refine (HCK.out _ (newW_boxes (bl_alloc0 B0.out locO)).2.2).mono ?_; rintro r v1 ⟨rfl, d1⟩; have d2 := (bl_alloc0 B0.out locO).trans (d1.mono (bl_alloc0 B0.out locO).size); obtain ⟨x0, x1, x2, x3, x4⟩ := newW_boxes4 d2; obtain ⟨_, ⟨y0, y1, y2⟩, z0⟩ := newW_boxes d2; have B1 := Lib.hid (And.intro d2 d1); clear d1 d2 z0))
  all_goals go_wp2
  · have HS0 : Hid (RNew w ((v1.alloc locO).alloc (rbO (newM a c e t cs l) (rq0 b t ao n cap (ce != 0) (v1.heap.size)))) (newM a c e t cs l) (rq0 b t ao n cap (ce != 0) (v1.heap.size)) (v1.heap.size + 1) []) := start_a (newW_boxes B1.out.1).2.2
    go_loopw [10] (fun vi wr => ∃ j : Nat, vi = .int .i64 j ∧ j ≤ 8 ∧ Hid (∃ pa ca, RNew w wr (newM a c e t cs l) { rq0 b t ao n cap (ce != 0) (v1.heap.size) with pa := pa, na := j, ca := ca } (v1.heap.size + 1) ((eight (argF l)).take j))) (fun vi _ => 8 - (intOf vi).toNat)
    case atStart => exact ⟨0, rfl, by omega, none, 0, HS0.out⟩
    case round =>
      obtain ⟨j, rfl, hj, HR⟩ := hrel
      obtain ⟨pa, ca, hr⟩ := HR.out
      by_cases hlt : j < 8
      · have hlt' : (j : Int) < 8 := by omega
        have hl := eight_len (argF l) (j := j) (by omega)
        have HE := Lib.hid (eight_take (argF l) hlt)
        have HBW : Hid (Below w.heap.size w wr) := hr.bl
        have h7 : wr.cell? ⟨v1.heap.size + 1, 7, none⟩ = some (.slice pa j ca) := by rw [cell_of_row wr _ 7 _ _ _ hr.box]; rfl
        have hbr := lt_of_block hr.box
        have HO : Hid (wr.ownsRow 0 73 1 (.slice pa j ca) j (fls ((eight (argF l)).take j))) := by
          have := hr.row.own
          rw [fls_len, hl] at this
          exact this
        have HM : Hid (∀ w3 v o x, w3.ownsRow 0 73 1 v (j + 1) (fls ((eight (argF l)).take j) ++ [.float .f64 x]) → (wr.alloc o).grownBy w3 (Value.slice pa j ca).ownBlock → (v.ownBlock = (Value.slice pa j ca).ownBlock ∨ v.ownBlock = some (wr.alloc o).heap.size) → ∃ p' c', v = .slice p' (j + 1) c' ∧ w3.heap[v1.heap.size + 1]? = some (rbO (newM a c e t cs l) { rq0 b t ao n cap (ce != 0) (v1.heap.size) with pa := pa, na := j, ca := ca }) ∧ RNew w (w3.setCell ⟨v1.heap.size + 1, 7, none⟩ (.slice p' (j + 1) c')) (newM a c e t cs l) { rq0 b t ao n cap (ce != 0) (v1.heap.size) with pa := p', na := j + 1, ca := c' } (v1.heap.size + 1) ((eight (argF l)).take j ++ [x])) := fun w3 v o x q1 q2 q3 => by
          have := hr.more (w3 := w3) (v := v) (x := x) (o := o) (by rw [hl]; exact q1) (by rw [hl]; exact q2) (by rw [hl]; exact q3)
          rw [hl] at this
          exact this
        clear HR hr
        have AP : True := True.intro
        by_cases hjk : j < k
        · have hjk' : (j : Int) < (k : Int) := by omega
          obtain ⟨g, o, hpo, hg, hcell⟩ := (HL.out.1.on HBW.out) j (by omega)
          subst hpo
          have HX : Hid (argF l j = fixB (l.getD j 0)) := rfl
          generalize l.getD j 0 = y at hcell HX
          clear HCK B0 B1
          go_wp2_with (first
            | (go_at_call 72; refine (refFix_any _ _).mono ?_; rintro r u ⟨rfl, hu⟩; subst u)
            | (at_builtin; refine wpList_append_own_at _ rfl _ _ 27 rfl 0 73 i0 (.float .f64 0) 1 8 Tryz.underlying27 HZI.out.1 HZI.out.2.1 HZI.out.2.2.1 HZI.out.2.2.2 rfl (by decide) _ j (fls ((eight (argF l)).take j)) rfl (World.ownsRow.alloc HO.out _) ⟨wr.heap.size, 0, none⟩ 1 1 [.float .f64 (fixB y)] rfl rfl (cell_one_new _ _ _) (fun u hu => by simp at hu; subst hu; rfl) (by unfold maxLen; omega) (by omega) (Nat.zero_le _) ?_; intro v3 w3 hown3 hgrow3 hnil3 hat3; obtain ⟨p', c', hv3, k1, k2⟩ := HM.out _ _ _ _ hown3 hgrow3 hat3; subst hv3; have c7 : w3.cell? ⟨v1.heap.size + 1, 7, none⟩ = some (.slice pa j ca) := (by rw [cell_of_row w3 _ 7 _ _ _ k1]; rfl); have f7 := frozen_of_row w3 _ 7 _ _ k1; have l7 := lt_of_block k1; have HK := Lib.hid k2; clear hown3 hgrow3 hnil3 hat3 k1 k2 HM))
          refine ⟨⟨j + 1, by first | rfl | (congr 1), by omega, p', c', ?_⟩, by simp [intOf]; omega⟩
          rw [HE.out, HX.out]
          exact HK.out
        · have hjk' : ¬ (j : Int) < (k : Int) := by omega
          have HX : Hid (argF l j = 0) := by
            show fixB (l.getD j 0) = 0
            rw [List.getD_eq_getElem?_getD, List.getElem?_eq_none (by omega)]
            exact fix0
          clear HCK B0 B1
          go_wp2_with (at_builtin; refine wpList_append_own_at _ rfl _ _ 27 rfl 0 73 i0 (.float .f64 0) 1 8 Tryz.underlying27 HZI.out.1 HZI.out.2.1 HZI.out.2.2.1 HZI.out.2.2.2 rfl (by decide) _ j (fls ((eight (argF l)).take j)) rfl (World.ownsRow.alloc HO.out _) ⟨wr.heap.size, 0, none⟩ 1 1 [.float .f64 0] rfl rfl (cell_one_new _ _ _) (fun u hu => by simp at hu; subst hu; rfl) (by unfold maxLen; omega) (by omega) (Nat.zero_le _) ?_; intro v3 w3 hown3 hgrow3 hnil3 hat3; obtain ⟨p', c', hv3, k1, k2⟩ := HM.out _ _ _ _ hown3 hgrow3 hat3; subst hv3; have c7 : w3.cell? ⟨v1.heap.size + 1, 7, none⟩ = some (.slice pa j ca) := (by rw [cell_of_row w3 _ 7 _ _ _ k1]; rfl); have f7 := frozen_of_row w3 _ 7 _ _ k1; have l7 := lt_of_block k1; have HK := Lib.hid k2; clear hown3 hgrow3 hnil3 hat3 k1 k2 HM)
          refine ⟨⟨j + 1, by first | rfl | (congr 1), by omega, p', c', ?_⟩, by simp [intOf]; omega⟩
          rw [HE.out, HX.out]
          exact HK.out
      · have hlt' : ¬ (j : Int) < 8 := by omega
        have e : j = 8 := by omega
        subst e
        have HF : Hid (RNew w wr (newM a c e t cs l) { rq0 b t ao n cap (!checkB t cs) (v1.heap.size) with pa := pa, na := 8, ca := ca } (v1.heap.size + 1) (eight (argF l))) := by
          have := hr
          rw [HBD.out] at this
          exact this
        clear HR hr HCK B0 B1
        go_wp2
        go_ret
        exact ⟨_, rfl, _, _, _, HF.out⟩
  · have HS0 : Hid (RNew w (v1.alloc (rbO (newM a c e t cs l) (rq0 b t ao n cap (ce != 0) (u0.heap.size + 1)))) (newM a c e t cs l) (rq0 b t ao n cap (ce != 0) (u0.heap.size + 1)) (v1.heap.size) []) := start_b (newW_boxes B1.out.1).2.2 ((B1.out.2.block _ (by simp)).trans (heap_new (by simp))) (by have := B0.out.size; have := HNW.out; simp at *; omega)
    go_loopw [10] (fun vi wr => ∃ j : Nat, vi = .int .i64 j ∧ j ≤ 8 ∧ Hid (∃ pa ca, RNew w wr (newM a c e t cs l) { rq0 b t ao n cap (ce != 0) (u0.heap.size + 1) with pa := pa, na := j, ca := ca } (v1.heap.size) ((eight (argF l)).take j))) (fun vi _ => 8 - (intOf vi).toNat)
    case atStart => exact ⟨0, rfl, by omega, none, 0, HS0.out⟩
    case round =>
      obtain ⟨j, rfl, hj, HR⟩ := hrel
      obtain ⟨pa, ca, hr⟩ := HR.out
      by_cases hlt : j < 8
      · have hlt' : (j : Int) < 8 := by omega
        have hl := eight_len (argF l) (j := j) (by omega)
        have HE := Lib.hid (eight_take (argF l) hlt)
        have HBW : Hid (Below w.heap.size w wr) := hr.bl
        have h7 : wr.cell? ⟨v1.heap.size, 7, none⟩ = some (.slice pa j ca) := by rw [cell_of_row wr _ 7 _ _ _ hr.box]; rfl
        have hbr := lt_of_block hr.box
        have HO : Hid (wr.ownsRow 0 73 1 (.slice pa j ca) j (fls ((eight (argF l)).take j))) := by
          have := hr.row.own
          rw [fls_len, hl] at this
          exact this
        have HM : Hid (∀ w3 v o x, w3.ownsRow 0 73 1 v (j + 1) (fls ((eight (argF l)).take j) ++ [.float .f64 x]) → (wr.alloc o).grownBy w3 (Value.slice pa j ca).ownBlock → (v.ownBlock = (Value.slice pa j ca).ownBlock ∨ v.ownBlock = some (wr.alloc o).heap.size) → ∃ p' c', v = .slice p' (j + 1) c' ∧ w3.heap[v1.heap.size]? = some (rbO (newM a c e t cs l) { rq0 b t ao n cap (ce != 0) (u0.heap.size + 1) with pa := pa, na := j, ca := ca }) ∧ RNew w (w3.setCell ⟨v1.heap.size, 7, none⟩ (.slice p' (j + 1) c')) (newM a c e t cs l) { rq0 b t ao n cap (ce != 0) (u0.heap.size + 1) with pa := p', na := j + 1, ca := c' } (v1.heap.size) ((eight (argF l)).take j ++ [x])) := fun w3 v o x q1 q2 q3 => by
          have := hr.more (w3 := w3) (v := v) (x := x) (o := o) (by rw [hl]; exact q1) (by rw [hl]; exact q2) (by rw [hl]; exact q3)
          rw [hl] at this
          exact this
        clear HR hr
        have AP : True := True.intro
        by_cases hjk : j < k
        · have hjk' : (j : Int) < (k : Int) := by omega
          obtain ⟨g, o, hpo, hg, hcell⟩ := (HL.out.1.on HBW.out) j (by omega)
          subst hpo
          have HX : Hid (argF l j = fixB (l.getD j 0)) := rfl
          generalize l.getD j 0 = y at hcell HX
          clear HCK B0 B1
          go_wp2_with (first
            | (go_at_call 72; refine (refFix_any _ _).mono ?_; rintro r u ⟨rfl, hu⟩; subst u)
            | (at_builtin; refine wpList_append_own_at _ rfl _ _ 27 rfl 0 73 i0 (.float .f64 0) 1 8 Tryz.underlying27 HZI.out.1 HZI.out.2.1 HZI.out.2.2.1 HZI.out.2.2.2 rfl (by decide) _ j (fls ((eight (argF l)).take j)) rfl (World.ownsRow.alloc HO.out _) ⟨wr.heap.size, 0, none⟩ 1 1 [.float .f64 (fixB y)] rfl rfl (cell_one_new _ _ _) (fun u hu => by simp at hu; subst hu; rfl) (by unfold maxLen; omega) (by omega) (Nat.zero_le _) ?_; intro v3 w3 hown3 hgrow3 hnil3 hat3; obtain ⟨p', c', hv3, k1, k2⟩ := HM.out _ _ _ _ hown3 hgrow3 hat3; subst hv3; have c7 : w3.cell? ⟨v1.heap.size, 7, none⟩ = some (.slice pa j ca) := (by rw [cell_of_row w3 _ 7 _ _ _ k1]; rfl); have f7 := frozen_of_row w3 _ 7 _ _ k1; have l7 := lt_of_block k1; have HK := Lib.hid k2; clear hown3 hgrow3 hnil3 hat3 k1 k2 HM))
          refine ⟨⟨j + 1, by first | rfl | (congr 1), by omega, p', c', ?_⟩, by simp [intOf]; omega⟩
          rw [HE.out, HX.out]
          exact HK.out
        · have hjk' : ¬ (j : Int) < (k : Int) := by omega
          have HX : Hid (argF l j = 0) := by
            show fixB (l.getD j 0) = 0
            rw [List.getD_eq_getElem?_getD, List.getElem?_eq_none (by omega)]
            exact fix0
          clear HCK B0 B1
          go_wp2_with (at_builtin; refine wpList_append_own_at _ rfl _ _ 27 rfl 0 73 i0 (.float .f64 0) 1 8 Tryz.underlying27 HZI.out.1 HZI.out.2.1 HZI.out.2.2.1 HZI.out.2.2.2 rfl (by decide) _ j (fls ((eight (argF l)).take j)) rfl (World.ownsRow.alloc HO.out _) ⟨wr.heap.size, 0, none⟩ 1 1 [.float .f64 0] rfl rfl (cell_one_new _ _ _) (fun u hu => by simp at hu; subst hu; rfl) (by unfold maxLen; omega) (by omega) (Nat.zero_le _) ?_; intro v3 w3 hown3 hgrow3 hnil3 hat3; obtain ⟨p', c', hv3, k1, k2⟩ := HM.out _ _ _ _ hown3 hgrow3 hat3; subst hv3; have c7 : w3.cell? ⟨v1.heap.size, 7, none⟩ = some (.slice pa j ca) := (by rw [cell_of_row w3 _ 7 _ _ _ k1]; rfl); have f7 := frozen_of_row w3 _ 7 _ _ k1; have l7 := lt_of_block k1; have HK := Lib.hid k2; clear hown3 hgrow3 hnil3 hat3 k1 k2 HM)
          refine ⟨⟨j + 1, by first | rfl | (congr 1), by omega, p', c', ?_⟩, by simp [intOf]; omega⟩
          rw [HE.out, HX.out]
          exact HK.out
      · have hlt' : ¬ (j : Int) < 8 := by omega
        have e : j = 8 := by omega
        subst e
        have HF : Hid (RNew w wr (newM a c e t cs l) { rq0 b t ao n cap (!checkB t cs) (u0.heap.size + 1) with pa := pa, na := 8, ca := ca } (v1.heap.size) (eight (argF l))) := by
          have := hr
          rw [HBD.out] at this
          exact this
        clear HR hr HCK B0 B1
        go_wp2
        go_ret
        exact ⟨_, rfl, _, _, _, HF.out⟩
end
end Go.Proofs.YteinilmecnlanaaGreatDoor
