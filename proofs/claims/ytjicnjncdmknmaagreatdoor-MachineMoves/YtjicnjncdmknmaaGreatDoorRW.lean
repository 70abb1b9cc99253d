import Derived.Test.YtjicnjncdmknmaaGreatDoorKS
import Derived.Test.YtjicnjncdmknmaaGreatDoorY5
import Derived.Laws.Tables
import Derived.Deep.WholeRow
import Derived.Test.YtjicnjncdmknmaaGreatDoorRJ
import Derived.Test.YtjicnjncdmknmaaGreatDoorRQ
namespace Go.Proofs.YtjicnjncdmknmaaGreatDoor
open Go.ChangeShapes Go.WideShapes Go.ChangeAt Go.RowKit Num
attribute [local go_sem] run_store_float

/-! the program's Clone -/
theorem sep_at {A B : List Nat} {s : Nat} (h : ∀ x ∈ A, x < s) (k : Abv s B) : Sep A B := fun x hx y => absurd (h x hx) (Nat.not_lt.2 (k x y))
/-- what lies in steps, one behind another, is apart -/
theorem mac_cloned {w u : World} {b2 z1 z2 z3 z4 z5 : Nat} {m : Mac} {p : Pt} (box : u.heap[b2]? = some (.cells (boxV m p) 82 (0, 0)))
    (num : NStk u p.bn p.Fn m.st.reverse) (cal : CStk u p.bc p.Fc m.calls.reverse) (wri : Buf u p.bw p.Fw m.wmax m.buf) (out : RowAt 40 u p.po p.co (fls m.out)) (rds : TRow u p.pr p.cr m.reads) (cod : CodeAt u p.pk m.code) (ltk : Blw w (fpR p.pk)) (wt : 0 ≤ m.wait → p.wt = m.wait) (hb : Below w.heap.size w u)
    (e0 : b2 = w.heap.size) (l0 : b2 < z1) (aN : Abv z1 p.Fn) (lN : ∀ x ∈ p.Fn, x < z2) (aC : Abv z2 p.Fc) (lC : ∀ x ∈ p.Fc, x < z3) (aO : Abv z3 (fpR p.po)) (lO : ∀ x ∈ fpR p.po, x < z4) (aR : Abv z4 (fpR p.pr)) (lR : ∀ x ∈ fpR p.pr, x < z5) (aW : Abv z5 p.Fw) (s1 : z1 ≤ z2) (s2 : z2 ≤ z3) (s3 : z3 ≤ z4) (s4 : z4 ≤ z5) :
    Mc u b2 (p.F b2) (fpR p.pk) m ∧ Abv w.heap.size (p.F b2) := by
  subst e0
  have lB : ∀ x ∈ [w.heap.size], x < z1 := fun x hx => by simp at hx; omega
  have lK : ∀ x ∈ fpR p.pk, x < w.heap.size := fun x hx => ltk x hx
  have aB : Abv w.heap.size [w.heap.size] := fun x hx => by simp at hx; omega
  have dKB : Sep (fpR p.pk) ([w.heap.size]) := sep_at (s := w.heap.size) lK (fun x hx => Nat.le_trans (by omega) (aB x hx))
  have dKN : Sep (fpR p.pk) (p.Fn) := sep_at (s := w.heap.size) lK (fun x hx => Nat.le_trans (by omega) (aN x hx))
  have dKC : Sep (fpR p.pk) (p.Fc) := sep_at (s := w.heap.size) lK (fun x hx => Nat.le_trans (by omega) (aC x hx))
  have dKO : Sep (fpR p.pk) (fpR p.po) := sep_at (s := w.heap.size) lK (fun x hx => Nat.le_trans (by omega) (aO x hx))
  have dKR : Sep (fpR p.pk) (fpR p.pr) := sep_at (s := w.heap.size) lK (fun x hx => Nat.le_trans (by omega) (aR x hx))
  have dKW : Sep (fpR p.pk) (p.Fw) := sep_at (s := w.heap.size) lK (fun x hx => Nat.le_trans (by omega) (aW x hx))
  have dBN : Sep ([w.heap.size]) (p.Fn) := sep_at (s := z1) lB (fun x hx => Nat.le_trans (by omega) (aN x hx))
  have dBC : Sep ([w.heap.size]) (p.Fc) := sep_at (s := z1) lB (fun x hx => Nat.le_trans (by omega) (aC x hx))
  have dBO : Sep ([w.heap.size]) (fpR p.po) := sep_at (s := z1) lB (fun x hx => Nat.le_trans (by omega) (aO x hx))
  have dBR : Sep ([w.heap.size]) (fpR p.pr) := sep_at (s := z1) lB (fun x hx => Nat.le_trans (by omega) (aR x hx))
  have dBW : Sep ([w.heap.size]) (p.Fw) := sep_at (s := z1) lB (fun x hx => Nat.le_trans (by omega) (aW x hx))
  have dNC : Sep (p.Fn) (p.Fc) := sep_at (s := z2) lN (fun x hx => Nat.le_trans (by omega) (aC x hx))
  have dNO : Sep (p.Fn) (fpR p.po) := sep_at (s := z2) lN (fun x hx => Nat.le_trans (by omega) (aO x hx))
  have dNR : Sep (p.Fn) (fpR p.pr) := sep_at (s := z2) lN (fun x hx => Nat.le_trans (by omega) (aR x hx))
  have dNW : Sep (p.Fn) (p.Fw) := sep_at (s := z2) lN (fun x hx => Nat.le_trans (by omega) (aW x hx))
  have dCO : Sep (p.Fc) (fpR p.po) := sep_at (s := z3) lC (fun x hx => Nat.le_trans (by omega) (aO x hx))
  have dCR : Sep (p.Fc) (fpR p.pr) := sep_at (s := z3) lC (fun x hx => Nat.le_trans (by omega) (aR x hx))
  have dCW : Sep (p.Fc) (p.Fw) := sep_at (s := z3) lC (fun x hx => Nat.le_trans (by omega) (aW x hx))
  have dOR : Sep (fpR p.po) (fpR p.pr) := sep_at (s := z4) lO (fun x hx => Nat.le_trans (by omega) (aR x hx))
  have dOW : Sep (fpR p.po) (p.Fw) := sep_at (s := z4) lO (fun x hx => Nat.le_trans (by omega) (aW x hx))
  have dRW : Sep (fpR p.pr) (p.Fw) := sep_at (s := z5) lR (fun x hx => Nat.le_trans (by omega) (aW x hx))
  refine ⟨⟨p, ⟨box, num, cal, wri, out, rds, cod, fun x hx => Nat.lt_of_lt_of_le (ltk x hx) hb.size, wt, ?_⟩, rfl, rfl⟩, fun x hx => ?_⟩
  · intro i j hij
    match i, j with
    | 0, 0 => exact absurd rfl hij
    | 0, 1 => exact dBN
    | 0, 2 => exact dBC
    | 0, 3 => exact dBW
    | 0, 4 => exact dBO
    | 0, 5 => exact dBR
    | 0, 6 => exact dKB.symm
    | 1, 0 => exact dBN.symm
    | 1, 1 => exact absurd rfl hij
    | 1, 2 => exact dNC
    | 1, 3 => exact dNW
    | 1, 4 => exact dNO
    | 1, 5 => exact dNR
    | 1, 6 => exact dKN.symm
    | 2, 0 => exact dBC.symm
    | 2, 1 => exact dNC.symm
    | 2, 2 => exact absurd rfl hij
    | 2, 3 => exact dCW
    | 2, 4 => exact dCO
    | 2, 5 => exact dCR
    | 2, 6 => exact dKC.symm
    | 3, 0 => exact dBW.symm
    | 3, 1 => exact dNW.symm
    | 3, 2 => exact dCW.symm
    | 3, 3 => exact absurd rfl hij
    | 3, 4 => exact dOW.symm
    | 3, 5 => exact dRW.symm
    | 3, 6 => exact dKW.symm
    | 4, 0 => exact dBO.symm
    | 4, 1 => exact dNO.symm
    | 4, 2 => exact dCO.symm
    | 4, 3 => exact dOW
    | 4, 4 => exact absurd rfl hij
    | 4, 5 => exact dOR
    | 4, 6 => exact dKO.symm
    | 5, 0 => exact dBR.symm
    | 5, 1 => exact dNR.symm
    | 5, 2 => exact dCR.symm
    | 5, 3 => exact dRW
    | 5, 4 => exact dOR.symm
    | 5, 5 => exact absurd rfl hij
    | 5, 6 => exact dKR.symm
    | 6, 0 => exact dKB
    | 6, 1 => exact dKN
    | 6, 2 => exact dKC
    | 6, 3 => exact dKW
    | 6, 4 => exact dKO
    | 6, 5 => exact dKR
    | 6, 6 => exact absurd rfl hij
    | _, q + 7 => simp only [Pt.L, List.getD_eq_getElem?_getD]; exact fun k _ z => by simp at z
    | q + 7, _ => exact fun k z => by simp [Pt.L] at z
  · simp only [Pt.F, Pt.own, List.flatten_cons, List.flatten_nil, List.mem_append, List.append_nil] at hx
    rcases hx with h | h | h | h | h | h
    · exact aB x h
    · exact Nat.le_trans (by omega) (aN x h)
    · exact Nat.le_trans (by omega) (aC x h)
    · exact Nat.le_trans (by omega) (aW x h)
    · exact Nat.le_trans (by omega) (aO x h)
    · exact Nat.le_trans (by omega) (aR x h)
/-- what a change of the new box, and new blocks, leave as it is -/
structure Keeps (w : World) (P : World → Prop) : Prop where
  on : ∀ {u v : World}, P u → Below u.heap.size u v → P v
  put : ∀ {u : World} (j : Nat) (v : Value), P u → P (u.setCell ⟨w.heap.size, j, none⟩ v)
theorem keeps_of {w : World} {F : List Nat} {P : World → Prop} (h : ∀ {u v : World}, P u → Kept F u v → P v) (hb : ∀ {u : World}, P u → Blw u F) (ha : Abv (w.heap.size + 1) F) : Keeps w P :=
  ⟨fun p k => h p (kept_below k (hb p)), fun {u} j v p => h p ((turn_set u w.heap.size j v).kept (fun x hx y => by simp at y; have := ha x hx; omega) (hb p))⟩
/-- a clone in the making: the box has been copied, some of its parts are new -/
structure Cl (w u : World) (bm : Nat) (m : Mac) (p p' : Pt) (P : World → Prop) : Prop where
  was : MacAt w bm m p
  box : u.heap[w.heap.size]? = some (.cells (boxV m p') 82 (0, 0))
  bl : Below w.heap.size w u
  got : P u
  kp : Keeps w P
section
variable {w u : World} {bm : Nat} {m : Mac} {p p' : Pt} {P : World → Prop}
theorem Cl.old (h : Cl w u bm m p p' P) : MacAt u bm m p := h.was.on h.bl
theorem cl_new (h : MacAt w bm m p) : Cl w (w.alloc (.cells (boxV m p) 82)) bm m p p (fun _ => True) := ⟨h, heap_alloc_new _ _, below_alloc _ _, trivial, ⟨fun _ _ => trivial, fun _ _ _ => trivial⟩⟩
theorem Cl.go (h : Cl w u bm m p p' P) {v : World} (k : Below u.heap.size u v) {Q : World → Prop} (hQ : Q v) (kQ : Keeps w Q) (j : Nat) (x : Value) (p2 : Pt) (e : (boxV m p').setIfInBounds j x = boxV m p2) : Cl w (v.setCell ⟨w.heap.size, j, none⟩ x) bm m p p2 (fun u => Q u ∧ P u) := by
  have hb := (k.block _ (lt_of_block h.box)).trans h.box
  exact ⟨h.was, (heap_setCell_same _ _ _ _ _ _ hb).trans (by rw [e]), (below_chain h.bl k).setCell (Nat.le_refl _) x, ⟨kQ.put j x hQ, h.kp.put j x (h.kp.on h.got k)⟩, ⟨fun q k => ⟨kQ.on q.1 k, h.kp.on q.2 k⟩, fun j v q => ⟨kQ.put j v q.1, h.kp.put j v q.2⟩⟩⟩
theorem Cl.now (h : Cl w u bm m p p' P) : u.cell? ⟨bm, 20, none⟩ = some (.pointer (some ⟨p.bn, 0, none⟩)) ∧ u.cell? ⟨bm, 21, none⟩ = some (.pointer (some ⟨p.bc, 0, none⟩)) ∧ u.cell? ⟨bm, 24, none⟩ = some (.slice p.po m.out.length p.co) ∧ u.cell? ⟨bm, 25, none⟩ = some (.slice p.pr m.reads.length p.cr) ∧ u.cell? ⟨bm, 26, none⟩ = some (.pointer (some ⟨p.bw, 0, none⟩)) ∧ bm < u.heap.size :=
  ⟨(h.old.cell 20).trans rfl, (h.old.cell 21).trans rfl, (h.old.cell 24).trans rfl, (h.old.cell 25).trans rfl, (h.old.cell 26).trans rfl, h.old.ltB⟩
theorem Cl.new (h : Cl w u bm m p p' P) {v : World} (k : Below u.heap.size u v) (j : Nat) (hj : j < 32) : ∃ x, v.cell? ⟨w.heap.size, j, none⟩ = some x ∧ v.frozen? ⟨w.heap.size, j, none⟩ = false := by
  have hb := (k.block _ (lt_of_block h.box)).trans h.box
  refine ⟨(boxV m p')[j]'(by simp [boxV]; exact hj), ?_, frozen_of_row _ _ _ _ _ hb⟩
  rw [cell_of_row _ _ _ _ _ _ hb, Array.getElem?_eq_getElem]
theorem Cl.lt (h : Cl w u bm m p p' P) : w.heap.size + 1 ≤ u.heap.size := lt_of_block h.box
end
theorem box_one (m : Mac) (p : Pt) : (boxV m p).all (·.oneCell') = true := by simp [boxV, Value.oneCell']
theorem macInfo : (Tryz.prog.info? 82).map (·.size) = some 32 := by kernel_rfl
set_option maxHeartbeats 1000000 in
set_option maxRecDepth 100000 in
theorem mclone_any {w : World} {bm : Nat} {F K : List Nat} {m : Mac} (h : Mc w bm F K m) (ho : m.out.length ≤ 1024) (hr : m.reads.length ≤ 1024) : Calls Tryz.prog 18 #[.pointer (some ⟨bm, 0, none⟩)] w fun r u => ∃ b2 F2, r = .returned (.pointer (some ⟨b2, 0, none⟩)) ∧ Mc u b2 F2 K m ∧ Abv w.heap.size F2 ∧ Below w.heap.size w u := by
  obtain ⟨p, hp, rfl, rfl⟩ := h
  have hbox := hp.box
  have hb := hp.ltB
  have HP := Lib.hid hp
  have HOR := Lib.hid (And.intro ho hr)
  clear ho hr hp
  go_enter Tryz.func18, Tryz.ntmps18
  go_wp2_with (first
    | (go_at_call 52; refine (clone_any C5.out.old.wri).mono ?_; rintro e u6 ⟨nw, F3, rfl, q1, q2, q3⟩; obtain ⟨x0, x1, x2⟩ := C5.out.new q3 26 (by decide); have AW : Hid (Abv (u5.heap.size) (F3) ∧ (∀ x ∈ F3, x < u6.heap.size) ∧ u5.heap.size ≤ u6.heap.size) := ⟨by simpa using q2, fun x hx => q1.blw x hx, by simpa using q3.size⟩; have C6 := Lib.hid (C5.out.go q3 (Q := fun u => Buf u nw F3 m.wmax m.buf) q1 (keeps_of (F := F3) (fun h k => h.keep k) (fun h => h.blw) (q2.mono C5.out.lt)) 26 (.pointer (some ⟨nw, 0, none⟩)) { p with bn := nb, Fn := F1, bc := nc, Fc := F2, po := po, co := co, pr := pr, cr := cr, bw := nw, Fw := F3 } rfl); obtain ⟨y1, y2, y3, y4, y5, y6⟩ := C6.out.now; clear q1 q2 q3)
    | (go_at_call 51; refine (cloneReads C4.out.old.rds rfl HOR.out.2).mono ?_; rintro e u5 ⟨pr, cr, rfl, q1, q2, q3⟩; obtain ⟨x0, x1, x2⟩ := C4.out.new q3 25 (by decide); have AR : Hid (Abv (u4.heap.size) (fpR pr) ∧ (∀ x ∈ fpR pr, x < u5.heap.size) ∧ u4.heap.size ≤ u5.heap.size) := ⟨by simpa using q2, fun x hx => q1.blw x hx, by simpa using q3.size⟩; have C5 := Lib.hid (C4.out.go q3 (Q := fun u => TRow u pr cr m.reads) q1 (keeps_of (F := fpR pr) (fun h k => h.keep k) (fun h => h.blw) (q2.mono C4.out.lt)) 25 (.slice pr m.reads.length cr) { p with bn := nb, Fn := F1, bc := nc, Fc := F2, po := po, co := co, pr := pr, cr := cr } rfl); obtain ⟨y1, y2, y3, y4, y5, y6⟩ := C5.out.now; clear q1 q2 q3)
    | (go_at_call 50; refine (cloneOut C3.out.old.out rfl HOR.out.1).mono ?_; rintro e u4 ⟨po, co, rfl, q1, q2, q3⟩; obtain ⟨x0, x1, x2⟩ := C3.out.new q3 24 (by decide); have AO : Hid (Abv (u3.heap.size) (fpR po) ∧ (∀ x ∈ fpR po, x < u4.heap.size) ∧ u3.heap.size ≤ u4.heap.size) := ⟨by simpa using q2, fun x hx => q1.blw x hx, by simpa using q3.size⟩; have C4 := Lib.hid (C3.out.go q3 (Q := fun u => RowAt 40 u po co (fls m.out)) q1 (keeps_of (F := fpR po) (fun h k => h.keep k) (fun h => h.blw) (q2.mono C3.out.lt)) 24 (.slice po m.out.length co) { p with bn := nb, Fn := F1, bc := nc, Fc := F2, po := po, co := co } rfl); obtain ⟨y1, y2, y3, y4, y5, y6⟩ := C4.out.now; clear q1 q2 q3)
    | (go_at_call 49; refine (iClone_any C2.out.old.cal).mono ?_; rintro e u3 ⟨nc, F2, rfl, q1, q2, q3⟩; obtain ⟨x0, x1, x2⟩ := C2.out.new q3 21 (by decide); have AC : Hid (Abv (u2.heap.size) (F2) ∧ (∀ x ∈ F2, x < u3.heap.size) ∧ u2.heap.size ≤ u3.heap.size) := ⟨by simpa using q2, fun x hx => q1.blw x hx, by simpa using q3.size⟩; have C3 := Lib.hid (C2.out.go q3 (Q := fun u => CStk u nc F2 m.calls.reverse) q1 (keeps_of (F := F2) (fun h k => h.keep k) (fun h => h.blw) (q2.mono C2.out.lt)) 21 (.pointer (some ⟨nc, 0, none⟩)) { p with bn := nb, Fn := F1, bc := nc, Fc := F2 } rfl); obtain ⟨y1, y2, y3, y4, y5, y6⟩ := C3.out.now; clear q1 q2 q3)
    | (go_at_call 48; refine (fClone_any C1.out.old.num).mono ?_; rintro e u2 ⟨nb, F1, rfl, q1, q2, q3⟩; obtain ⟨x0, x1, x2⟩ := C1.out.new q3 20 (by decide); have AN : Hid (Abv ((w.alloc (.cells (boxV m p) 82)).heap.size) (F1) ∧ (∀ x ∈ F1, x < u2.heap.size) ∧ (w.alloc (.cells (boxV m p) 82)).heap.size ≤ u2.heap.size) := ⟨by simpa using q2, fun x hx => q1.blw x hx, by simpa using q3.size⟩; have C2 := Lib.hid (C1.out.go q3 (Q := fun u => NStk u nb F1 m.st.reverse) q1 (keeps_of (F := F1) (fun h k => h.keep k) (fun h => h.blw) (q2.mono C1.out.lt)) 20 (.pointer (some ⟨nb, 0, none⟩)) { p with bn := nb, Fn := F1 } rfl); obtain ⟨y1, y2, y3, y4, y5, y6⟩ := C2.out.now; clear q1 q2 q3)
    | (refine wpList_load_row rfl 82 _ rfl bm rfl _ (boxV m p) _ _ hbox Tryz.underlying82 rfl macInfo ?_)
    | (refine wpList_store_row rfl 82 _ _ rfl w.heap.size (boxV m p) rfl rfl _ _ (heap_alloc_new _ _) macInfo rfl (box_one m p) ?_; rw [World.setRow_alloc_new]; have C1 := Lib.hid (cl_new HP.out); obtain ⟨y1, y2, y3, y4, y5, y6⟩ := C1.out.now))
  go_ret
  obtain ⟨gW, gR, gO, gC, gN, _⟩ := C6.out.got
  have hM := mac_cloned (w := w) (b2 := w.heap.size) C6.out.box gN gC gW gO gR C6.out.old.cod HP.out.ltk HP.out.wt C6.out.bl rfl C1.out.lt AN.out.1 AN.out.2.1 AC.out.1 AC.out.2.1 AO.out.1 AO.out.2.1 AR.out.1 AR.out.2.1 AW.out.1 AN.out.2.2 AC.out.2.2 AO.out.2.2 AR.out.2.2
  exact ⟨_, _, rfl, hM.1, hM.2, C6.out.bl⟩
end Go.Proofs.YtjicnjncdmknmaaGreatDoor
namespace Go.Proofs.YtjicnjncdmknmaaGreatDoor
open Go.ChangeShapes Go.WideShapes Go.ChangeAt Go.RowKit Num
attribute [local go_sem] run_store_float

/-! the document's Clone: its rows are shared, its locals are its own -/
theorem rbox_one (m : Mac) (q : Rp) : (rboxV m q).all (·.oneCell') = true := by simp [rboxV, Value.oneCell']
theorem refInfo : (Tryz.prog.info? 72).map (·.size) = some (rboxV (newM 0 0 0 0 [] []) (rq0 0 0 none 0 0 true 0)).size := by kernel_rfl
theorem ref_cloned {w u : World} {br b2 g c' : Nat} {q : Rp} {m : Mac} {cs : List Ins} (h : RefAt w br q m cs) (hb : Below w.heap.size w u) (e2 : b2 = w.heap.size) (hg : w.heap.size < g)
    (box : u.heap[b2]? = some (rbO m { q with bl := g, cl := c' })) (loc : RowAt 40 u (some ⟨g, 0, none⟩) c' (fls (eight m.loc))) :
    RefAt u b2 { q with bl := g, cl := c' } m cs ∧ fpK { q with bl := g, cl := c' } cs = fpK q cs ∧ ∀ x ∈ Fr b2 { q with bl := g, cl := c' }, x ∈ Fr br q ∨ w.heap.size ≤ x := by
  have o := h.on hb
  have hlt : ∀ p ∈ q.rows, ∀ x ∈ fpR p, x < w.heap.size := fun p hp x hx => h.lt x (in_fr hp hx)
  have hgl : g < u.heap.size := loc.blw g (by simp [fpR])
  refine ⟨{
    box := box
    loc := loc
    arg := o.arg
    st := o.st
    cal := o.cal
    out := o.out
    rds := o.rds
    buf := o.buf
    cod := o.cod
    na := o.na
    nk := o.nk
    bad := o.bad
    tag := o.tag
    zc := o.zc
    ne := by show b2 ≠ g; omega
    ap := fun p hp => ⟨fun x => by have := hlt p hp _ x; omega, fun x => by have := hlt p hp _ x; simp only at this; omega⟩
    apk := ⟨fun x => by have := h.ltk _ x; omega, fun x => by have := h.ltk _ x; simp only at this; omega⟩
    lt := fun x hx => by
      simp only [Fr, List.mem_cons] at hx
      rcases hx with rfl | rfl | hx
      · exact lt_of_block box
      · exact hgl
      · obtain ⟨p, hp, hx⟩ := List.mem_flatMap.1 hx
        exact Nat.lt_of_lt_of_le (hlt p hp x hx) hb.size
    ltk := o.ltk
    c1 := o.c1
    c2 := o.c2
    c3 := o.c3
    c4 := o.c4
    c5 := o.c5
    nd := o.nd }, rfl, fun x hx => ?_⟩
  simp only [Fr, List.mem_cons] at hx
  rcases hx with rfl | rfl | hx
  · exact .inr (by omega)
  · exact .inr (Nat.le_of_lt hg)
  · exact .inl (List.mem_cons_of_mem _ (List.mem_cons_of_mem _ hx))
theorem loc_cloned {w3 : World} {B : Nat} {v : Value} {l : List Nat} (h : w3.ownsRow B 40 1 v (0 + 8) ([] ++ fls l)) (hl : l.length = 8) : ∃ g c', v = .slice (some ⟨g, 0, none⟩) 8 c' ∧ B ≤ g ∧ RowAt 40 w3 (some ⟨g, 0, none⟩) c' (fls l) := by
  rw [List.nil_append, Nat.zero_add] at h
  obtain ⟨p, c, rfl, ha⟩ := owns_slice2 h
  rcases h.2 with ⟨_, h0⟩ | ⟨g, cap, cur, hv, hg, _⟩
  · cases h0
  · cases hv
    exact ⟨g, _, rfl, hg, ⟨by rw [fls_len, hl]; exact owns_zero h⟩⟩
set_option maxHeartbeats 1000000 in
set_option maxRecDepth 100000 in
theorem rclone_any {w : World} {br : Nat} {q : Rp} {m : Mac} {cs : List Ins} (h : RefAt w br q m cs) : Calls Tryz.prog 19 #[.pointer (some ⟨br, 0, none⟩)] w fun r u => ∃ b2 q2, r = .returned (.pointer (some ⟨b2, 0, none⟩)) ∧ (RefAt u b2 q2 m cs ∧ fpK q2 cs = fpK q cs ∧ ∀ x ∈ Fr b2 q2, x ∈ Fr br q ∨ w.heap.size ≤ x) ∧ Abv w.heap.size [b2, q2.bl] ∧ Below w.heap.size w u := by
  have hbox := h.box
  have hb := h.ltB
  have HR := Lib.hid h
  obtain ⟨i0, hi, hz0, hz1, hz2⟩ := info_parts fInfo
  have HZI := Lib.hid (And.intro hi (And.intro hz0 (And.intro hz1 hz2)))
  have HO : Hid ((w.alloc (rbO m q)).ownsRow (w.alloc (rbO m q)).heap.size 40 1 (.slice none 0 0) 0 []) := World.ownsRow_nil _ _ _ _
  have y10 : (w.alloc (rbO m q)).cell? ⟨br, 10, none⟩ = some (.slice (some ⟨q.bl, 0, none⟩) 8 q.cl) := ((h.on (below_alloc w (rbO m q))).cell 10).trans rfl
  have hb' : br < (w.alloc (rbO m q)).heap.size := by simp; omega
  have HX : Hid (∀ j x, (fls (eight m.loc))[j]? = some x → (w.alloc (rbO m q)).cell? ((⟨q.bl, 0, none⟩ : Addr).add j) = some x) := fun j x hx => World.ownsRow.cells (h.on (below_alloc w (rbO m q))).loc.own (g := q.bl) rfl j x hx
  clear hi hz0 hz1 hz2 h
  go_enter Tryz.func19, Tryz.ntmps19
  go_wp2_with (first
    | (at_builtin; refine wpList_append_own_at _ rfl _ _ 27 rfl (w.alloc (rbO m q)).heap.size 40 i0 (.float .f64 0) 1 8 Tryz.underlying27 HZI.out.1 HZI.out.2.1 HZI.out.2.2.1 HZI.out.2.2.2 rfl (by decide) _ 0 [] rfl HO.out ⟨q.bl, 0, none⟩ 8 _ (fls (eight m.loc)) rfl (by simp [fls_len, eight]) HX.out (fls_one _) (by unfold maxLen; omega) (by omega) (by simp) ?_; intro v w3 hown hgrow hnil hloc; have hb3 : Below (w.alloc (rbO m q)).heap.size (w.alloc (rbO m q)) w3 := (Below.refl _ _).grown hgrow (Nat.le_refl _) (fun j hj => by simp [Act.eval, Value.ownBlock] at hj); obtain ⟨g, c', rfl, hge, hrow⟩ := loc_cloned hown (by simp [eight]); have hx := (hb3.block w.heap.size (by simp)).trans (heap_alloc_new w (rbO m q)); have x10 : w3.cell? ⟨w.heap.size, 10, none⟩ = some (.slice (some ⟨q.bl, 0, none⟩) 8 q.cl) := (cell_of_row _ _ _ _ _ _ hx).trans rfl; have f10 := frozen_of_row _ _ 10 _ _ hx; have HS := Lib.hid (And.intro hb3 (And.intro hge (And.intro hrow hx))); clear hb3 hge hrow hx hown hgrow hnil hloc)
    | (refine wpList_load_row rfl 72 _ rfl br rfl _ (rboxV m q) _ _ hbox Tryz.underlying72 rfl refInfo ?_)
    | (refine wpList_store_row rfl 72 _ _ rfl w.heap.size (rboxV m q) rfl rfl _ _ (heap_alloc_new _ _) refInfo rfl (rbox_one m q) ?_; rw [World.setRow_alloc_new]))
  go_ret
  obtain ⟨hb3, hge, hrow, hx⟩ := HS.out
  have hz : (w.alloc (rbO m q)).heap.size = w.heap.size + 1 := by simp
  have hgw : w.heap.size < g := by omega
  have hbF : Below w.heap.size w (w3.setCell ⟨w.heap.size, 10, none⟩ (.slice (some ⟨g, 0, none⟩) 8 c')) := (below_chain (below_alloc w (rbO m q)) hb3).setCell (Nat.le_refl _) _
  refine ⟨_, _, rfl, ref_cloned (g := g) (c' := c') HR.out hbF rfl hgw ((heap_setCell_same _ _ _ _ _ _ hx).trans rfl) (hrow.keep ((turn_set w3 w.heap.size 10 _).kept (fun x hx y => by simp [fpR] at hx y; omega) hrow.blw)), fun x hx => ?_, hbF⟩
  simp at hx
  omega
end Go.Proofs.YtjicnjncdmknmaaGreatDoor
namespace Go.Proofs.YtjicnjncdmknmaaGreatDoor
open Go.ChangeShapes Go.WideShapes Go.ChangeAt Go.RowKit Num
attribute [local go_sem] run_store_float

/-! clones beside both machines -/
theorem inv_outs {m : Mac} (h : Inv m) : m.out.length ≤ 1024 ∧ m.reads.length ≤ 1024 := by
  have h1 := h.out
  have h2 := h.reads
  have h3 := h.used
  have h4 := h.fuel
  constructor
  · omega
  · split at h2 <;> omega
/-- both machines (the program's may have gone on), and a clone of the program's -/
def Trio (N wr : World) (bm b2 br bl : Nat) (K KR X : List Nat) (m m1 m2 : Mac) (cs : List Ins) : Prop := ∃ F F2 q, Both N wr bm br bl K KR X F q m m1 cs ∧ Mc wr b2 F2 K m2 ∧ Sep F F2 ∧ Sep X F2 ∧ Sep F2 (Fr br q) ∧ Abv N.heap.size F2
/-- both machines as they were, and a new clone of the program's -/
def Twin (N w0 wr : World) (bm b2 br bl : Nat) (K KR X : List Nat) (m : Mac) (cs : List Ins) : Prop := ∃ F F2 q, Both N w0 bm br bl K KR X F q m m cs ∧ Mc wr b2 F2 K m ∧ Abv w0.heap.size F2 ∧ Below w0.heap.size w0 wr
section
variable {N w0 wr : World} {bm b2 br bl : Nat} {K KR X : List Nat} {m m1 m2 : Mac} {cs : List Ins}
theorem Both.on {F : List Nat} {q : Rp} (h : Both N wr bm br bl K KR X F q m m1 cs) {u : World} (k : Below wr.heap.size wr u) : Both N u bm br bl K KR X F q m m1 cs := { h with mc := h.mc.on k, rf := h.rf.on k, lx := fun x hx => Nat.lt_of_lt_of_le (h.lx x hx) k.size, bel := h.bel.trans (k.mono h.bel.size) }
theorem Trio.goes {F F2 : List Nat} {q : Rp} (h : Both N wr bm br bl K KR X F q m m1 cs) (hM : Mc wr b2 F2 K m2) (s1 : Sep F F2) (s2 : Sep X F2) (s3 : Sep F2 (Fr br q)) (a : Abv N.heap.size F2) {u : World} {m' : Mac} (g : Gm wr F bm K u m') : Trio N u bm b2 br bl K KR X m m' m2 cs ∧ Kept X wr u := by
  obtain ⟨F', h1, t⟩ := h.goes g
  exact ⟨⟨F', F2, q, h1, hM.turn t s1.symm h.mc.sepK, fun x hx y => (t.own x hx).elim (fun z => s1 x z y) (fun z => absurd (hM.blw x y) (Nat.not_lt.2 z)), s2, s3, a⟩, t.kept h.x1 h.lx⟩
theorem Trio.step (h : Trio N wr bm b2 br bl K KR X m m1 m2 cs) (hI : Inv m1) : Calls Tryz.prog 14 #[.pointer (some ⟨bm, 0, none⟩)] wr fun e u => e = .returned (askV (stepM m1).2) ∧ Trio N u bm b2 br bl K KR X m (stepM m1).1 m2 cs ∧ Kept X wr u := by
  obtain ⟨F, F2, q, h, hM, s1, s2, s3, a⟩ := h
  exact (step_any h.mc.gm h.tab hI).mono fun e u ⟨e1, e2⟩ => ⟨e1, Trio.goes h hM s1 s2 s3 a e2⟩
theorem Trio.give (h : Trio N wr bm b2 br bl K KR X m m1 m2 cs) (hI : Inv m1) (x : Nat) : Calls Tryz.prog 16 #[.pointer (some ⟨bm, 0, none⟩), .float .f64 x] wr fun e u => e = .returned (.int .i64 (giveE m1)) ∧ Trio N u bm b2 br bl K KR X m (giveM m1 x) m2 cs ∧ Kept X wr u := by
  obtain ⟨F, F2, q, h, hM, s1, s2, s3, a⟩ := h
  exact (give_any h.mc.gm hI x).mono fun e u ⟨e1, e2⟩ => ⟨e1, Trio.goes h hM s1 s2 s3 a e2⟩
theorem Trio.on (h : Trio N wr bm b2 br bl K KR X m m1 m2 cs) {u : World} (k : Below wr.heap.size wr u) : Trio N u bm b2 br bl K KR X m m1 m2 cs := by
  obtain ⟨F, F2, q, h, hM, s1, s2, s3, a⟩ := h
  exact ⟨F, F2, q, h.on k, hM.on k, s1, s2, s3, a⟩
/-- the clone in its place -/
theorem Trio.swap (h : Trio N wr bm b2 br bl K KR X m m1 m cs) : Duo N wr b2 br bl K KR X m cs := by
  obtain ⟨F, F2, q, h, hM, s1, s2, s3, a⟩ := h
  exact ⟨F2, q, { h with mc := hM, s1 := s3, a1 := a, x1 := s2 }⟩
/-- the program's machine is cloned -/
theorem Duo.clone (h : Duo N w0 bm br bl K KR X m cs) (hI : Inv m) : Calls Tryz.prog 18 #[.pointer (some ⟨bm, 0, none⟩)] w0 fun r u => ∃ b2, r = .returned (.pointer (some ⟨b2, 0, none⟩)) ∧ Twin N w0 u bm b2 br bl K KR X m cs := by
  obtain ⟨F, q, h⟩ := h
  exact (mclone_any h.mc (inv_outs hI).1 (inv_outs hI).2).mono fun r u ⟨b2, F2, e, hM, hA, k⟩ => ⟨b2, e, F, F2, q, h, hM, hA, k⟩
theorem Twin.below (h : Twin N w0 wr bm b2 br bl K KR X m cs) : Below w0.heap.size w0 wr := by
  obtain ⟨_, _, _, _, _, _, k⟩ := h
  exact k
theorem Twin.trio (h : Twin N w0 wr bm b2 br bl K KR X m cs) : Trio N wr bm b2 br bl K KR X m m m cs := by
  obtain ⟨F, F2, q, h, hM, hA, k⟩ := h
  refine ⟨F, F2, q, h.on k, hM, fun x hx y => ?_, fun x hx y => ?_, fun x hx y => ?_, hA.mono h.bel.size⟩
  · exact absurd (h.mc.blw x hx) (Nat.not_lt.2 (hA x y))
  · exact absurd (h.lx x hx) (Nat.not_lt.2 (hA x y))
  · exact absurd (h.rf.lt x y) (Nat.not_lt.2 (hA x hx))
/-- so is the document's: both clones, made since -/
theorem Twin.clone (h : Twin N w0 wr bm b2 br bl K KR X m cs) : Calls Tryz.prog 19 #[.pointer (some ⟨br, 0, none⟩)] wr fun r u => ∃ b3 bl3, r = .returned (.pointer (some ⟨b3, 0, none⟩)) ∧ Duo w0 u b2 b3 bl3 K KR [] m cs := by
  obtain ⟨F, F2, q, h, hM, hA, k⟩ := h
  have h1 := h.on k
  refine (rclone_any h1.rf).mono fun r u ⟨b3, q3, e, ⟨r1, r2, r3⟩, a3, k3⟩ => ⟨b3, q3.bl, e, F2, q3, {
    mc := hM.on k3
    rf := r1
    at_ := ⟨rfl, r2.trans h.at_.2⟩
    s1 := fun x hx y => ?_
    s2 := fun x hx y => ?_
    a1 := hA
    a2 := a3.mono k.size
    x1 := fun x hx => by cases hx
    x2 := fun x hx => by cases hx
    x3 := fun x hx => by cases hx
    ax := fun x hx => by cases hx
    lx := fun x hx => by cases hx
    bk := fun x hx => Nat.lt_of_lt_of_le (h.bk x hx) h.bel.size
    bel := below_chain k k3
    sh := h.sh.on h.bel }⟩
  · exact (r3 x y).elim (fun z => absurd (h.rf.lt x z) (Nat.not_lt.2 (hA x hx))) (fun z => absurd (hM.blw x hx) (Nat.not_lt.2 z))
  · exact (r3 x y).elim (fun z => h.s2 x hx z) (fun z => absurd (h1.mc.blwK x hx) (Nat.not_lt.2 z))
end
/-- a move, boxed -/
abbrev mvO (kd : Int) (x : Nat) : Obj := .cells #[.int .i64 kd, .float .f64 x] 42
/-- the two boxes: the move's, the pair's -/
structure Bx (u : World) (bo bp bm br : Nat) (kd : Int) (x : Nat) : Prop where
  mv : u.heap[bo]? = some (mvO kd x)
  pr : u.heap[bp]? = some (pairO bm br 0)
section
variable {N u v : World} {bo bp bm br bl : Nat} {K KR : List Nat} {kd : Int} {x : Nat} {m m' : Mac} {cs : List Ins}
theorem Bx.kept (h : Bx u bo bp bm br kd x) (k : Kept [bo, bp] u v) : Bx v bo bp bm br kd x := ⟨box_kept h.mv k (by simp), box_kept h.pr k (by simp)⟩
theorem Bx.on (h : Bx u bo bp bm br kd x) (k : Below u.heap.size u v) : Bx v bo bp bm br kd x := ⟨(k.block _ (lt_of_block h.mv)).trans h.mv, (k.block _ (lt_of_block h.pr)).trans h.pr⟩
theorem Bx.cells (h : Bx u bo bp bm br kd x) : u.cell? ⟨bp, 0, none⟩ = some (.pointer (some ⟨bm, 0, none⟩)) ∧ u.cell? ⟨bp, 1, none⟩ = some (.pointer (some ⟨br, 0, none⟩)) ∧ u.cell? ⟨bo, 0, none⟩ = some (.int .i64 kd) ∧ u.cell? ⟨bo, 1, none⟩ = some (.float .f64 x) :=
  ⟨(cells3_of h.pr).1, (cells3_of h.pr).2.1, (cell_of_row _ _ _ _ _ _ h.mv).trans rfl, (cell_of_row _ _ _ _ _ _ h.mv).trans rfl⟩
theorem bx_pr (h : Duo N u bm br bl K KR [bo, bp] m cs) (b : Bx u bo bp bm br kd x) : Pr N u bp bm br bl K KR 0 m cs := ⟨h.narrow (by simp), b.pr⟩
/-- a move's box beside the pair -/
theorem pr_bx (h : Pr N u bp bm br bl K KR 0 m cs) : Duo N (u.alloc (mvO kd x)) bm br bl K KR [u.heap.size, bp] m cs ∧ Bx (u.alloc (mvO kd x)) u.heap.size bp bm br kd x :=
  ⟨h.duo.wider _, heap_alloc_new _ _, (heap_alloc_old _ _ (lt_of_block h.box)).trans h.box⟩
/-- the pair has another machine -/
theorem pr_put (h : Duo N u bm br bl K KR [bo, bp] m cs) {b1 : Nat} (b : Bx u bo bp b1 br kd x) : Pr N (u.setCell ⟨bp, 0, none⟩ (.pointer (some ⟨bm, 0, none⟩))) bp bm br bl K KR 0 m cs :=
  ⟨(h.put (g := bp) (by simp) 0 _).narrow (by simp), (heap_setCell_same _ _ _ _ _ _ b.pr).trans (by simp)⟩
end
end Go.Proofs.YtjicnjncdmknmaaGreatDoor
namespace Go.Proofs.YtjicnjncdmknmaaGreatDoor
open Go.ChangeShapes Go.WideShapes Go.ChangeAt Go.RowKit Num
attribute [local go_sem] run_store_float

/-! moves in any order -/
set_option maxHeartbeats 2000000 in
set_option maxRecDepth 100000 in
theorem lawMoves_any {W : World} {a b c e t : Int} {ao : Option Addr} {cs : List Ins} {n cap : Nat} {po : Option Addr} {l : List Nat} {k co : Nat} {pv : Option Addr} {L : Wr} {kv cv : Nat} (hT : Shaped5 W) (hn : cs.length = n) (hk : l.length = k) (hkv : L.length = kv) (hkm : kv ≤ 9223372036854775807) (hC : CodeAt W ao cs) (hx : ∀ i ∈ cs, i.x < 18446744073709551616) (hL : FlAt W po l) (hl : ∀ x ∈ l, x < 18446744073709551616) (hV : TlAt W pv L) (hv : ∀ i, i < L.length → (L.getD i (0, 0)).2 < 18446744073709551616) (hnb : (n + 2) * 24 ≤ 281474976710656) (hkb : (k + 2) * 8 ≤ 281474976710656) : Calls Tryz.prog 4 #[cfgV a b c e, .agg #[.int .i64 t, .slice ao n cap], .slice po k co, .slice pv kv cv] W fun r W2 => r = .returned (.bool true) ∧ Below W.heap.size W W2 := by
  have HLV := Lib.hid (live_any (newW W a b c e t ao n cap) (hT.on (newW_below W a b c e t ao n cap)))
  cases hmay : (Md.cfgB a b c e && decide (k ≤ 8))
  · have HN : Hid (∀ u, Below W.heap.size W u → Calls Tryz.prog 10 #[cfgV a b c e, .agg #[.int .i64 t, .slice ao n cap], .slice po k co] u fun r w' => r = .returned (.tuple #[.pointer none, .bool true]) ∧ Below u.heap.size u w') := fun u hb => begun_none hn hk (hC.on hb) (hL.on hb) hnb hkb hmay
    clear hT hC hx hL hl hV hv hnb hkb hmay hn hk hkv hkm
    go_enter Tryz.func4, Tryz.ntmps4
    go_wp2_with (first
      | (go_at_call 10; refine (HN.out _ (newW_boxes B0.out).2.2).mono ?_; rintro r u1 ⟨rfl, q⟩; have B1 := Lib.hid (B0.out.trans (q.mono B0.out.size)); clear q)
      | (go_at_call 9; refine HLV.out.mono ?_; rintro r u0 ⟨rfl, q⟩; obtain ⟨⟨x0, x1, x2, x3⟩, ⟨y0, y1, y2⟩, z0⟩ := newW_boxes q; obtain ⟨v0, v1, v2, v3, v4⟩ := newW_boxes4 q; have B0 := Lib.hid q; clear q z0))
    go_ret
    exact ⟨rfl, (newW_boxes B1.out).2.2⟩
  · have hm : Md.cfgB a b c e = true ∧ k ≤ 8 := by simpa using hmay
    have HN : Hid (∀ u, Below W.heap.size W u → Calls Tryz.prog 10 #[cfgV a b c e, .agg #[.int .i64 t, .slice ao n cap], .slice po k co] u fun r w' => ∃ bp bm br bl K KR, r = .returned (.tuple #[.pointer (some ⟨bp, 0, none⟩), .bool true]) ∧ Pr u w' bp bm br bl K KR 0 (newM a c e t cs l) cs) := fun u hb => begun_some hn hk (hT.on hb) (hC.on hb) (hL.on hb) hnb hkb hm.1 hm.2
    have HI0 : Hid (Inv (newM a c e t cs l)) := inv_new hm.1 (fun j hj => hx _ (List.mem_of_getElem? (ci_lt hj))) hl
    have HMV : Hid (∀ u, Below W.heap.size W u → ∀ i, i < kv → ∃ g o, pv = some ⟨g, o, none⟩ ∧ g < u.heap.size ∧ u.cell? ⟨g, o + i * 2, none⟩ = some (.int .i64 (L.getD i (0, 0)).1) ∧ u.cell? ⟨g, o + i * 2 + 1, none⟩ = some (.float .f64 (L.getD i (0, 0)).2) ∧ (L.getD i (0, 0)).2 < 18446744073709551616) := fun u hb i hi => by
      obtain ⟨g, o, q1, q2, q3, q4⟩ := hV.on hb i (by omega)
      exact ⟨g, o, q1, q2, q3, q4, hv i (by omega)⟩
    clear hT hC hx hL hl hV hv hnb hkb hmay hn hk hkv hm
    generalize hm0 : newM a c e t cs l = m0 at HN HI0
    clear hm0
    go_enter Tryz.func4, Tryz.ntmps4
    go_wp2_with (first
      | (go_at_call 10; refine (HN.out _ (newW_boxes B0.out).2.2).mono ?_; rintro r u1 ⟨bp, bm, br, bl, K, KR, rfl, q⟩; have P1 := Lib.hid q; clear q)
      | (go_at_call 9; refine HLV.out.mono ?_; rintro r u0 ⟨rfl, q⟩; obtain ⟨⟨x0, x1, x2, x3⟩, ⟨y0, y1, y2⟩, z0⟩ := newW_boxes q; obtain ⟨v0, v1, v2, v3, v4⟩ := newW_boxes4 q; have B0 := Lib.hid q; clear q z0))
    have W0 : Hid (Below W.heap.size W u0) := (newW_boxes B0.out).2.2
    go_loopw [33] (fun vi wr => ∃ i : Nat, ∃ bm K m, vi = .int .i64 i ∧ i ≤ kv ∧ Hid (Pr u0 wr bp bm br bl K KR 0 m cs ∧ Inv m)) (fun vi _ => kv - (intOf vi).toNat)
    case atStart => exact ⟨0, bm, K, m0, rfl, Nat.zero_le _, ⟨P1.out, HI0.out⟩⟩
    case round =>
      obtain ⟨i, bm, K, m, rfl, hic, HPI⟩ := hrel
      clear P1 HN HLV HI0
      by_cases hlt : i < kv
      · have hlt' : (i : Int) < (kv : Int) := by omega
        obtain ⟨g, o, rfl, hgw, c0, c1, hxx⟩ := HMV.out wr (below_chain W0.out HPI.out.1.duo.bel) i hlt
        generalize (L.getD i (0, 0)).1 = kd at c0
        generalize (L.getD i (0, 0)).2 = xx at c1 hxx
        have HXX := Lib.hid hxx
        have HI := Lib.hid HPI.out.2
        have PB := Lib.hid (pr_bx (kd := kd) (x := xx) HPI.out.1)
        have hcell := PB.out.2.cells
        obtain ⟨z0, z1, z2, z3⟩ := hcell
        have hz1 : bp < (wr.alloc (mvO kd xx)).heap.size := lt_of_block PB.out.2.pr
        have DR := Lib.hid (PB.out.1.same (Same.drew _))
        have DB := Lib.hid (PB.out.2.on ((Same.drew _).below _))
        clear hxx
        by_cases h1 : kd = 1
        · subst h1
          go_wp2
          refine wp_region_seq (fun u => u.cell? ⟨bp, 0, none⟩ = some (.pointer (some ⟨bm, 0, none⟩)) ∧ u.cell? ⟨bp, 1, none⟩ = some (.pointer (some ⟨br, 0, none⟩)) ∧ u.cell? ⟨wr.heap.size, 0, none⟩ = some (.int .i64 1) ∧ u.cell? ⟨wr.heap.size, 1, none⟩ = some (.float .f64 xx)) ((0, true) :: (1, true) :: (2, true) :: (3, true) :: (5, true) :: (6, true) :: (7, true) :: (8, true) :: (4, false) :: (9, false) :: (10, false) :: (11, true) :: []) (by kernel_rfl) (by kernel_rfl) (fun _ _ _ _ _ h => h) (DB.out.cells) ?_
          repeat (first
            | (refine wpSeq_take (v := ?_) rfl (by rfl) (fun wq hSq => ?_) ?_; rotate_left; (focus ((try dsimp only at hSq); go_simp; try with_reducible rfl)); simp only [Act.put, List.setIfInBounds_toArray, List.set_cons_zero, List.set_cons_succ])
            | (refine wpSeq_skip rfl (by rfl) ?_; simp only [Act.put, List.setIfInBounds_toArray, List.set_cons_zero, List.set_cons_succ]))
          refine wpSeq_do rfl (by rfl) (fun KK hK => ?_)
          go_simp
          refine (Duo.step DR.out HI.out).mono ?_
          rintro r v1 ⟨rfl, q1, q2⟩
          have D1 := Lib.hid q1
          have E1 := Lib.hid (DB.out.kept q2)
          clear q1 q2
          refine hK.out _ _ (E1.out.cells) ?_
          clear hK KK
          try simp only [Act.put, List.setIfInBounds_toArray, List.set_cons_zero, List.set_cons_succ]
          repeat (first
            | (refine wpSeq_take (v := ?_) rfl (by rfl) (fun wq hSq => ?_) ?_; rotate_left; (focus ((try dsimp only at hSq); go_simp; try with_reducible rfl)); simp only [Act.put, List.setIfInBounds_toArray, List.set_cons_zero, List.set_cons_succ])
            | (refine wpSeq_skip rfl (by rfl) ?_; simp only [Act.put, List.setIfInBounds_toArray, List.set_cons_zero, List.set_cons_succ]))
          refine wpSeq_do rfl (by rfl) (fun KK hK => ?_)
          go_simp
          refine (D1.out.step HI.out).mono ?_
          rintro r v2 ⟨rfl, q1, q2⟩
          have D2 := Lib.hid q1
          have E2 := Lib.hid (E1.out.kept q2)
          clear q1 q2
          refine hK.out _ _ (E2.out.cells) ?_
          clear hK KK
          try simp only [Act.put, List.setIfInBounds_toArray, List.set_cons_zero, List.set_cons_succ]
          repeat (first
            | (refine wpSeq_take (v := ?_) rfl (by rfl) (fun wq hSq => ?_) ?_; rotate_left; (focus ((try dsimp only at hSq); go_simp; try with_reducible rfl)); simp only [Act.put, List.setIfInBounds_toArray, List.set_cons_zero, List.set_cons_succ])
            | (refine wpSeq_skip rfl (by rfl) ?_; simp only [Act.put, List.setIfInBounds_toArray, List.set_cons_zero, List.set_cons_succ]))
          refine wpSeq_do rfl (by rfl) (fun KK hK => ?_)
          go_simp
          refine (sameAsk_any _ (stepM m).2).mono ?_
          rintro r v3 ⟨rfl, q1⟩
          have D3 := Lib.hid (D2.out.on q1)
          have E3 := Lib.hid (E2.out.on q1)
          clear q1
          refine hK.out _ _ (E3.out.cells) ?_
          clear hK KK
          try simp only [Act.put, List.setIfInBounds_toArray, List.set_cons_zero, List.set_cons_succ]
          repeat (first
            | (refine wpSeq_take (v := ?_) rfl (by rfl) (fun wq hSq => ?_) ?_; rotate_left; (focus ((try dsimp only at hSq); go_simp; try with_reducible rfl)); simp only [Act.put, List.setIfInBounds_toArray, List.set_cons_zero, List.set_cons_succ])
            | (refine wpSeq_skip rfl (by rfl) ?_; simp only [Act.put, List.setIfInBounds_toArray, List.set_cons_zero, List.set_cons_succ]))
          refine wpSeq_nil ?_
          go_wp2
          exact ⟨⟨i + 1, bm, K, _, by first | rfl | (congr 1), by omega, ⟨bx_pr D3.out E3.out, inv_step HI.out⟩⟩, by simp [intOf]; omega⟩
        · by_cases h2 : kd = 2
          · subst h2
            go_wp2
            refine wp_region_seq (fun u => u.cell? ⟨bp, 0, none⟩ = some (.pointer (some ⟨bm, 0, none⟩)) ∧ u.cell? ⟨bp, 1, none⟩ = some (.pointer (some ⟨br, 0, none⟩)) ∧ u.cell? ⟨wr.heap.size, 0, none⟩ = some (.int .i64 2) ∧ u.cell? ⟨wr.heap.size, 1, none⟩ = some (.float .f64 xx)) ((0, true) :: (1, true) :: (2, true) :: (3, true) :: (4, true) :: (5, true) :: (7, true) :: (8, true) :: (9, true) :: (10, true) :: (11, true) :: (12, true) :: (6, false) :: (13, false) :: (14, true) :: []) (by kernel_rfl) (by kernel_rfl) (fun _ _ _ _ _ h => h) (DB.out.cells) ?_
            repeat (first
              | (refine wpSeq_take (v := ?_) rfl (by rfl) (fun wq hSq => ?_) ?_; rotate_left; (focus ((try dsimp only at hSq); go_simp; try with_reducible rfl)); simp only [Act.put, List.setIfInBounds_toArray, List.set_cons_zero, List.set_cons_succ])
              | (refine wpSeq_skip rfl (by rfl) ?_; simp only [Act.put, List.setIfInBounds_toArray, List.set_cons_zero, List.set_cons_succ]))
            refine wpSeq_do rfl (by rfl) (fun KK hK => ?_)
            go_simp
            refine (Duo.give DR.out HI.out xx).mono ?_
            rintro r v1 ⟨rfl, q1, q2⟩
            have D1 := Lib.hid q1
            have E1 := Lib.hid (DB.out.kept q2)
            clear q1 q2
            refine hK.out _ _ (E1.out.cells) ?_
            clear hK KK
            try simp only [Act.put, List.setIfInBounds_toArray, List.set_cons_zero, List.set_cons_succ]
            repeat (first
              | (refine wpSeq_take (v := ?_) rfl (by rfl) (fun wq hSq => ?_) ?_; rotate_left; (focus ((try dsimp only at hSq); go_simp; try with_reducible rfl)); simp only [Act.put, List.setIfInBounds_toArray, List.set_cons_zero, List.set_cons_succ])
              | (refine wpSeq_skip rfl (by rfl) ?_; simp only [Act.put, List.setIfInBounds_toArray, List.set_cons_zero, List.set_cons_succ]))
            refine wpSeq_do rfl (by rfl) (fun KK hK => ?_)
            go_simp
            refine (D1.out.give HI.out).mono ?_
            rintro r v2 ⟨rfl, q1, q2⟩
            have D2 := Lib.hid q1
            have E2 := Lib.hid (E1.out.kept q2)
            clear q1 q2
            refine hK.out _ _ (E2.out.cells) ?_
            clear hK KK
            try simp only [Act.put, List.setIfInBounds_toArray, List.set_cons_zero, List.set_cons_succ]
            repeat (first
              | (refine wpSeq_take (v := ?_) rfl (by rfl) (fun wq hSq => ?_) ?_; rotate_left; (focus ((try dsimp only at hSq); go_simp; try with_reducible rfl)); simp only [Act.put, List.setIfInBounds_toArray, List.set_cons_zero, List.set_cons_succ])
              | (refine wpSeq_skip rfl (by rfl) ?_; simp only [Act.put, List.setIfInBounds_toArray, List.set_cons_zero, List.set_cons_succ]))
            refine wpSeq_nil ?_
            go_wp2
            exact ⟨⟨i + 1, bm, K, _, by first | rfl | (congr 1), by omega, ⟨bx_pr D2.out E2.out, inv_give HI.out HXX.out⟩⟩, by simp [intOf]; omega⟩
          · by_cases h3 : kd = 3
            · subst h3
              go_wp2
              refine wp_region_seq (fun u => u.cell? ⟨bp, 0, none⟩ = some (.pointer (some ⟨bm, 0, none⟩)) ∧ u.cell? ⟨bp, 1, none⟩ = some (.pointer (some ⟨br, 0, none⟩)) ∧ u.cell? ⟨wr.heap.size, 0, none⟩ = some (.int .i64 3) ∧ u.cell? ⟨wr.heap.size, 1, none⟩ = some (.float .f64 xx)) ((0, true) :: (1, true) :: (2, true) :: (3, true) :: (4, true) :: (5, true) :: (6, true) :: (7, true) :: (8, false) :: (9, true) :: []) (by kernel_rfl) (by kernel_rfl) (fun _ _ _ _ _ h => h) (DB.out.cells) ?_
              repeat (first
                | (refine wpSeq_take (v := ?_) rfl (by rfl) (fun wq hSq => ?_) ?_; rotate_left; (focus ((try dsimp only at hSq); go_simp; try with_reducible rfl)); simp only [Act.put, List.setIfInBounds_toArray, List.set_cons_zero, List.set_cons_succ])
                | (refine wpSeq_skip rfl (by rfl) ?_; simp only [Act.put, List.setIfInBounds_toArray, List.set_cons_zero, List.set_cons_succ]))
              refine wpSeq_do rfl (by rfl) (fun KK hK => ?_)
              go_simp
              refine (seen_any DR.out HI.out).mono ?_
              rintro r v1 ⟨rfl, q1⟩
              have D1 := Lib.hid (DR.out.on q1)
              have E1 := Lib.hid (DB.out.on q1)
              clear q1
              refine hK.out _ _ (E1.out.cells) ?_
              clear hK KK
              try simp only [Act.put, List.setIfInBounds_toArray, List.set_cons_zero, List.set_cons_succ]
              repeat (first
                | (refine wpSeq_take (v := ?_) rfl (by rfl) (fun wq hSq => ?_) ?_; rotate_left; (focus ((try dsimp only at hSq); go_simp; try with_reducible rfl)); simp only [Act.put, List.setIfInBounds_toArray, List.set_cons_zero, List.set_cons_succ])
                | (refine wpSeq_skip rfl (by rfl) ?_; simp only [Act.put, List.setIfInBounds_toArray, List.set_cons_zero, List.set_cons_succ]))
              refine wpSeq_nil ?_
              go_wp2
              exact ⟨⟨i + 1, bm, K, _, by first | rfl | (congr 1), by omega, ⟨bx_pr D1.out E1.out, HI.out⟩⟩, by simp [intOf]; omega⟩
            · by_cases h4 : kd = 4
              · subst h4
                have HI1 := Lib.hid (inv_give HI.out HXX.out)
                have HI2 := Lib.hid (inv_step HI1.out)
                clear DR DB
                go_wp2_with (go_at_call 18; refine (PB.out.1.clone HI.out).mono ?_; rintro r v1 ⟨b2, rfl, q1⟩; have T1 := Lib.hid q1.trio; have E1 := Lib.hid (PB.out.2.on q1.below); obtain ⟨z0, z1, z2, z3⟩ := E1.out.cells; replace hz1 : bp < v1.heap.size := lt_of_block E1.out.pr; clear q1)
                have T1' := Lib.hid (T1.out.on ((Same.drew _).below _))
                have E1' := Lib.hid (E1.out.on ((Same.drew _).below _))
                refine wp_region_seq (fun u => u.cell? ⟨bp, 0, none⟩ = some (.pointer (some ⟨bm, 0, none⟩)) ∧ u.cell? ⟨bp, 1, none⟩ = some (.pointer (some ⟨br, 0, none⟩)) ∧ u.cell? ⟨wr.heap.size, 0, none⟩ = some (.int .i64 4) ∧ u.cell? ⟨wr.heap.size, 1, none⟩ = some (.float .f64 xx)) ((0, true) :: (1, true) :: (2, true) :: (3, true) :: (4, true) :: (5, true) :: (6, false) :: []) (by kernel_rfl) (by kernel_rfl) (fun _ _ _ _ _ h => h) (E1'.out.cells) ?_
                repeat (first
                  | (refine wpSeq_take (v := ?_) rfl (by rfl) (fun wq hSq => ?_) ?_; rotate_left; (focus ((try dsimp only at hSq); go_simp; try with_reducible rfl)); simp only [Act.put, List.setIfInBounds_toArray, List.set_cons_zero, List.set_cons_succ])
                  | (refine wpSeq_skip rfl (by rfl) ?_; simp only [Act.put, List.setIfInBounds_toArray, List.set_cons_zero, List.set_cons_succ]))
                refine wpSeq_do rfl (by rfl) (fun KK hK => ?_)
                go_simp
                refine (T1'.out.give HI.out xx).mono ?_
                rintro r v2 ⟨rfl, q1, q2⟩
                have T2 := Lib.hid q1
                have E2 := Lib.hid (E1'.out.kept q2)
                clear q1 q2
                refine hK.out _ _ (E2.out.cells) ?_
                clear hK KK
                try simp only [Act.put, List.setIfInBounds_toArray, List.set_cons_zero, List.set_cons_succ]
                repeat (first
                  | (refine wpSeq_take (v := ?_) rfl (by rfl) (fun wq hSq => ?_) ?_; rotate_left; (focus ((try dsimp only at hSq); go_simp; try with_reducible rfl)); simp only [Act.put, List.setIfInBounds_toArray, List.set_cons_zero, List.set_cons_succ])
                  | (refine wpSeq_skip rfl (by rfl) ?_; simp only [Act.put, List.setIfInBounds_toArray, List.set_cons_zero, List.set_cons_succ]))
                refine wpSeq_nil ?_
                obtain ⟨z0, z1, z2, z3⟩ := E2.out.cells
                replace hz1 : bp < v2.heap.size := lt_of_block E2.out.pr
                go_wp2_with (go_at_call 14; refine (T2.out.step HI1.out).mono ?_; rintro r v3 ⟨rfl, q1, q2⟩; have T3 := Lib.hid q1; have E3 := Lib.hid (E2.out.kept q2); obtain ⟨z0, z1, z2, z3⟩ := E3.out.cells; replace hz1 : bp < v3.heap.size := lt_of_block E3.out.pr; clear q1 q2)
                have T3' := Lib.hid (T3.out.on ((Same.drew _).below _))
                have E3' := Lib.hid (E3.out.on ((Same.drew _).below _))
                refine wp_region_seq (fun u => u.cell? ⟨bp, 0, none⟩ = some (.pointer (some ⟨bm, 0, none⟩)) ∧ u.cell? ⟨bp, 1, none⟩ = some (.pointer (some ⟨br, 0, none⟩)) ∧ u.cell? ⟨wr.heap.size, 0, none⟩ = some (.int .i64 4) ∧ u.cell? ⟨wr.heap.size, 1, none⟩ = some (.float .f64 xx)) ((0, true) :: (1, true) :: (2, true) :: (3, true) :: (4, true) :: (5, true) :: (6, false) :: []) (by kernel_rfl) (by kernel_rfl) (fun _ _ _ _ _ h => h) (E3'.out.cells) ?_
                repeat (first
                  | (refine wpSeq_take (v := ?_) rfl (by rfl) (fun wq hSq => ?_) ?_; rotate_left; (focus ((try dsimp only at hSq); go_simp; try with_reducible rfl)); simp only [Act.put, List.setIfInBounds_toArray, List.set_cons_zero, List.set_cons_succ])
                  | (refine wpSeq_skip rfl (by rfl) ?_; simp only [Act.put, List.setIfInBounds_toArray, List.set_cons_zero, List.set_cons_succ]))
                refine wpSeq_do rfl (by rfl) (fun KK hK => ?_)
                go_simp
                refine (T3'.out.give HI2.out xx).mono ?_
                rintro r v4 ⟨rfl, q1, q2⟩
                have T4 := Lib.hid q1
                have E4 := Lib.hid (E3'.out.kept q2)
                clear q1 q2
                refine hK.out _ _ (E4.out.cells) ?_
                clear hK KK
                try simp only [Act.put, List.setIfInBounds_toArray, List.set_cons_zero, List.set_cons_succ]
                repeat (first
                  | (refine wpSeq_take (v := ?_) rfl (by rfl) (fun wq hSq => ?_) ?_; rotate_left; (focus ((try dsimp only at hSq); go_simp; try with_reducible rfl)); simp only [Act.put, List.setIfInBounds_toArray, List.set_cons_zero, List.set_cons_succ])
                  | (refine wpSeq_skip rfl (by rfl) ?_; simp only [Act.put, List.setIfInBounds_toArray, List.set_cons_zero, List.set_cons_succ]))
                refine wpSeq_nil ?_
                obtain ⟨z0, z1, z2, z3⟩ := E4.out.cells
                have fz := frozen_of_row _ _ 0 _ _ E4.out.pr
                replace hz1 : bp < v4.heap.size := lt_of_block E4.out.pr
                have HP4 := Lib.hid (pr_put T4.out.swap E4.out)
                go_wp2
                exact ⟨⟨i + 1, b2, K, _, by first | rfl | (congr 1), by omega, ⟨HP4.out, HI.out⟩⟩, by simp [intOf]; omega⟩
              · by_cases h5 : kd = 5
                · subst h5
                  have HI1 := Lib.hid (inv_give HI.out HXX.out)
                  have HI2 := Lib.hid (inv_step HI1.out)
                  clear DR DB
                  go_wp2_with (first
                    | (go_at_call 19; refine TW.out.clone.mono ?_; rintro r v2 ⟨b3, bl3, rfl, q1⟩; have D2 := Lib.hid q1; have B2 := Lib.hid (PB.out.2.on q1.bel); obtain ⟨z0, z1, z2, z3⟩ := B2.out.cells; clear q1)
                    | (go_at_call 18; refine (PB.out.1.clone HI.out).mono ?_; rintro r v1 ⟨b2, rfl, q1⟩; have TW := Lib.hid q1; have E1 := Lib.hid (PB.out.2.on q1.below); obtain ⟨z0, z1, z2, z3⟩ := E1.out.cells; replace hz1 : bp < v1.heap.size := lt_of_block E1.out.pr; clear q1))
                  have D2' := Lib.hid (D2.out.same (Same.drew _))
                  have SB : Hid (∀ {u : World} {m m' : Mac}, Half (wr.alloc (mvO 5 xx)) u b2 b3 bl3 K KR [] m m' cs → Bx u wr.heap.size bp bm br 5 xx) := fun h => PB.out.2.on h.bel
                  refine wp_region_seq (fun u => u.cell? ⟨bp, 0, none⟩ = some (.pointer (some ⟨bm, 0, none⟩)) ∧ u.cell? ⟨bp, 1, none⟩ = some (.pointer (some ⟨br, 0, none⟩)) ∧ u.cell? ⟨wr.heap.size, 0, none⟩ = some (.int .i64 5) ∧ u.cell? ⟨wr.heap.size, 1, none⟩ = some (.float .f64 xx)) ((0, true) :: (1, true) :: (2, true) :: (3, true) :: (4, true) :: (5, true) :: (7, true) :: (8, true) :: (9, true) :: (6, false) :: (10, false) :: (11, true) :: (12, true) :: (13, true) :: (14, true) :: (16, true) :: (15, false) :: (17, false) :: (18, false) :: (19, true) :: (20, true) :: (21, true) :: (22, true) :: (23, true) :: (24, false) :: (25, true) :: (26, true) :: []) (by kernel_rfl) (by kernel_rfl) (fun _ _ _ _ _ h => h) ((SB.out D2'.out).cells) ?_
                  repeat (first
                    | (refine wpSeq_take (v := ?_) rfl (by rfl) (fun wq hSq => ?_) ?_; rotate_left; (focus ((try dsimp only at hSq); go_simp; try with_reducible rfl)); simp only [Act.put, List.setIfInBounds_toArray, List.set_cons_zero, List.set_cons_succ])
                    | (refine wpSeq_skip rfl (by rfl) ?_; simp only [Act.put, List.setIfInBounds_toArray, List.set_cons_zero, List.set_cons_succ]))
                  refine wpSeq_do rfl (by rfl) (fun KK hK => ?_)
                  go_simp
                  refine (Duo.give D2'.out HI.out xx).mono ?_
                  rintro r v3 ⟨rfl, q1, q2⟩
                  have D3 := Lib.hid q1
                  clear q1 q2
                  refine hK.out _ _ ((SB.out D3.out).cells) ?_
                  clear hK KK
                  try simp only [Act.put, List.setIfInBounds_toArray, List.set_cons_zero, List.set_cons_succ]
                  repeat (first
                    | (refine wpSeq_take (v := ?_) rfl (by rfl) (fun wq hSq => ?_) ?_; rotate_left; (focus ((try dsimp only at hSq); go_simp; try with_reducible rfl)); simp only [Act.put, List.setIfInBounds_toArray, List.set_cons_zero, List.set_cons_succ])
                    | (refine wpSeq_skip rfl (by rfl) ?_; simp only [Act.put, List.setIfInBounds_toArray, List.set_cons_zero, List.set_cons_succ]))
                  refine wpSeq_do rfl (by rfl) (fun KK hK => ?_)
                  go_simp
                  refine (D3.out.give HI.out).mono ?_
                  rintro r v4 ⟨rfl, q1, q2⟩
                  have D4 := Lib.hid q1
                  clear q1 q2
                  refine hK.out _ _ ((SB.out D4.out).cells) ?_
                  clear hK KK
                  try simp only [Act.put, List.setIfInBounds_toArray, List.set_cons_zero, List.set_cons_succ]
                  repeat (first
                    | (refine wpSeq_take (v := ?_) rfl (by rfl) (fun wq hSq => ?_) ?_; rotate_left; (focus ((try dsimp only at hSq); go_simp; try with_reducible rfl)); simp only [Act.put, List.setIfInBounds_toArray, List.set_cons_zero, List.set_cons_succ])
                    | (refine wpSeq_skip rfl (by rfl) ?_; simp only [Act.put, List.setIfInBounds_toArray, List.set_cons_zero, List.set_cons_succ]))
                  refine wpSeq_do rfl (by rfl) (fun KK hK => ?_)
                  go_simp
                  refine (Duo.step D4.out HI1.out).mono ?_
                  rintro r v5 ⟨rfl, q1, q2⟩
                  have D5 := Lib.hid q1
                  clear q1 q2
                  refine hK.out _ _ ((SB.out D5.out).cells) ?_
                  clear hK KK
                  try simp only [Act.put, List.setIfInBounds_toArray, List.set_cons_zero, List.set_cons_succ]
                  repeat (first
                    | (refine wpSeq_take (v := ?_) rfl (by rfl) (fun wq hSq => ?_) ?_; rotate_left; (focus ((try dsimp only at hSq); go_simp; try with_reducible rfl)); simp only [Act.put, List.setIfInBounds_toArray, List.set_cons_zero, List.set_cons_succ])
                    | (refine wpSeq_skip rfl (by rfl) ?_; simp only [Act.put, List.setIfInBounds_toArray, List.set_cons_zero, List.set_cons_succ]))
                  refine wpSeq_do rfl (by rfl) (fun KK hK => ?_)
                  go_simp
                  refine (D5.out.step HI1.out).mono ?_
                  rintro r v6 ⟨rfl, q1, q2⟩
                  have D6 := Lib.hid q1
                  clear q1 q2
                  refine hK.out _ _ ((SB.out D6.out).cells) ?_
                  clear hK KK
                  try simp only [Act.put, List.setIfInBounds_toArray, List.set_cons_zero, List.set_cons_succ]
                  repeat (first
                    | (refine wpSeq_take (v := ?_) rfl (by rfl) (fun wq hSq => ?_) ?_; rotate_left; (focus ((try dsimp only at hSq); go_simp; try with_reducible rfl)); simp only [Act.put, List.setIfInBounds_toArray, List.set_cons_zero, List.set_cons_succ])
                    | (refine wpSeq_skip rfl (by rfl) ?_; simp only [Act.put, List.setIfInBounds_toArray, List.set_cons_zero, List.set_cons_succ]))
                  refine wpSeq_do rfl (by rfl) (fun KK hK => ?_)
                  go_simp
                  refine (sameAsk_any _ (stepM (giveM m xx)).2).mono ?_
                  rintro r v7 ⟨rfl, q1⟩
                  have D7 := Lib.hid (D6.out.on q1)
                  clear q1
                  refine hK.out _ _ ((SB.out D7.out).cells) ?_
                  clear hK KK
                  try simp only [Act.put, List.setIfInBounds_toArray, List.set_cons_zero, List.set_cons_succ]
                  repeat (first
                    | (refine wpSeq_take (v := ?_) rfl (by rfl) (fun wq hSq => ?_) ?_; rotate_left; (focus ((try dsimp only at hSq); go_simp; try with_reducible rfl)); simp only [Act.put, List.setIfInBounds_toArray, List.set_cons_zero, List.set_cons_succ])
                    | (refine wpSeq_skip rfl (by rfl) ?_; simp only [Act.put, List.setIfInBounds_toArray, List.set_cons_zero, List.set_cons_succ]))
                  refine wpSeq_do rfl (by rfl) (fun KK hK => ?_)
                  go_simp
                  refine (seen_any D7.out HI2.out).mono ?_
                  rintro r v8 ⟨rfl, q1⟩
                  have D8 := Lib.hid (D7.out.on q1)
                  clear q1
                  refine hK.out _ _ ((SB.out D8.out).cells) ?_
                  clear hK KK
                  try simp only [Act.put, List.setIfInBounds_toArray, List.set_cons_zero, List.set_cons_succ]
                  repeat (first
                    | (refine wpSeq_take (v := ?_) rfl (by rfl) (fun wq hSq => ?_) ?_; rotate_left; (focus ((try dsimp only at hSq); go_simp; try with_reducible rfl)); simp only [Act.put, List.setIfInBounds_toArray, List.set_cons_zero, List.set_cons_succ])
                    | (refine wpSeq_skip rfl (by rfl) ?_; simp only [Act.put, List.setIfInBounds_toArray, List.set_cons_zero, List.set_cons_succ]))
                  refine wpSeq_nil ?_
                  have HP5 := Lib.hid (bx_pr (PB.out.1.on D8.out.bel) (SB.out D8.out))
                  go_wp2
                  exact ⟨⟨i + 1, bm, K, _, by first | rfl | (congr 1), by omega, ⟨HP5.out, HI.out⟩⟩, by simp [intOf]; omega⟩
                · have HP6 := Lib.hid (bx_pr PB.out.1 PB.out.2)
                  go_wp2
                  exact ⟨⟨i + 1, bm, K, _, by first | rfl | (congr 1), by omega, ⟨HP6.out, HI.out⟩⟩, by simp [intOf]; omega⟩
      · have hlt' : ¬ (i : Int) < (kv : Int) := by omega
        go_wp2
        have D0 : Hid (Pr u0 wr.drew bp bm br bl K KR 0 m cs) := HPI.out.1.on ((Same.drew _).below _)
        have BX : Hid (∀ {u : World}, Pr u0 u bp bm br bl K KR 0 m cs → u.cell? ⟨bp, 0, none⟩ = some (.pointer (some ⟨bm, 0, none⟩)) ∧ u.cell? ⟨bp, 1, none⟩ = some (.pointer (some ⟨br, 0, none⟩))) := fun h => ⟨(cells3_of h.box).1, (cells3_of h.box).2.1⟩
        refine wp_region_seq (fun u => u.cell? ⟨bp, 0, none⟩ = some (.pointer (some ⟨bm, 0, none⟩)) ∧ u.cell? ⟨bp, 1, none⟩ = some (.pointer (some ⟨br, 0, none⟩))) ((0, true) :: (1, true) :: (2, true) :: (3, true) :: (4, true) :: (5, true) :: (6, true) :: (7, true) :: (8, true) :: (9, true) :: (10, false) :: (11, true) :: (12, true) :: []) (by kernel_rfl) (by kernel_rfl) (fun _ _ _ _ _ h => h) (BX.out D0.out) ?_
        repeat (first
          | (refine wpSeq_take (v := ?_) rfl (by rfl) (fun wq hSq => ?_) ?_; rotate_left; (focus ((try dsimp only at hSq); go_simp; try with_reducible rfl)); simp only [Act.put, List.setIfInBounds_toArray, List.set_cons_zero, List.set_cons_succ])
          | (refine wpSeq_skip rfl (by rfl) ?_; simp only [Act.put, List.setIfInBounds_toArray, List.set_cons_zero, List.set_cons_succ]))
        refine wpSeq_do rfl (by rfl) (fun KK hK => ?_)
        go_simp
        refine (seen_any D0.out.duo HPI.out.2).mono ?_
        rintro r u3 ⟨rfl, q⟩
        have P3 := Lib.hid (D0.out.on q)
        clear q
        refine hK.out _ _ (BX.out P3.out) ?_
        clear hK KK
        try simp only [Act.put, List.setIfInBounds_toArray, List.set_cons_zero, List.set_cons_succ]
        repeat (first
          | (refine wpSeq_take (v := ?_) rfl (by rfl) (fun wq hSq => ?_) ?_; rotate_left; (focus ((try dsimp only at hSq); go_simp; try with_reducible rfl)); simp only [Act.put, List.setIfInBounds_toArray, List.set_cons_zero, List.set_cons_succ])
          | (refine wpSeq_skip rfl (by rfl) ?_; simp only [Act.put, List.setIfInBounds_toArray, List.set_cons_zero, List.set_cons_succ]))
        refine wpSeq_nil ?_
        go_wp2
        go_ret
        exact ⟨rfl, below_chain W0.out P3.out.duo.bel⟩
end Go.Proofs.YtjicnjncdmknmaaGreatDoor
