import Derived.Test.YtjicnjncdmknmaaGreatDoorRP
namespace Go.Proofs.YtjicnjncdmknmaaGreatDoor
open Go.ChangeShapes Go.WideShapes Go.ChangeAt Go.RowKit Num
attribute [local go_sem] run_store_float

section
variable {N w0 : World} {bm br bl : Nat} {K KR X : List Nat} {m : Mac} {cs : List Ins}
theorem trow_on {w w' : World} {p : Option Addr} {c : Nat} {l : Wr} (h : TRow w p c l) (k : Below w.heap.size w w') : TRow w' p c l := h.keep (kept_below k h.blw)
/-- three rows of numbers in a row, all new since B, that may be written over -/
structure Sn (B w : World) (T : TypeId) (sz : Nat) (TT : TypeId) (gs : Nat) (L : List (Option Addr × Nat × Nat)) : Prop where
  bel : Below B.heap.size B w
  wide : ∀ t ∈ L, Wide B w T sz t
  new : ∀ t ∈ L, ∀ g, t.1 = some ⟨g, 0, none⟩ → g ≠ gs
  row : w.heap[gs]? = some (.cells (L.map fun t => Value.slice t.1 t.2.1 t.2.2).toArray TT (0, 0))
theorem Sn.put {B w : World} {T TT : TypeId} {sz gs : Nat} {L : List (Option Addr × Nat × Nat)} (h : Sn B w T sz TT gs L) {g : Nat} (hg : B.heap.size ≤ g) (hn : g ≠ gs) (i : Nat) (v : Value) : Sn B (w.setCell ⟨g, i, none⟩ v) T sz TT gs L :=
  ⟨h.bel.setCell hg v, fun t ht => (h.wide t ht).put g i v, h.new, (heap_setCell_other _ _ _ _ (by simpa using hn.symm)).trans h.row⟩
theorem Sn.get {B w : World} {T TT : TypeId} {sz gs : Nat} {L : List (Option Addr × Nat × Nat)} (h : Sn B w T sz TT gs L) {j : Nat} {t : Option Addr × Nat × Nat} (hj : L[j]? = some t) : w.cell? ⟨gs, j, none⟩ = some (.slice t.1 t.2.1 t.2.2) ∧ gs < w.heap.size := by
  refine ⟨?_, lt_of_block h.row⟩
  rw [cell_of_row _ _ _ _ _ _ h.row]
  simp [hj]
set_option maxRecDepth 100000 in
set_option maxHeartbeats 40000000 in
theorem seen_any (h : Duo N w0 bm br bl K KR X m cs) (hI : Inv m) : Calls Tryz.prog 12 #[.pointer (some ⟨bm, 0, none⟩), .pointer (some ⟨br, 0, none⟩)] w0 fun e u => e = .returned (.bool true) ∧ Below w0.heap.size w0 u := by
  obtain ⟨F, q, hB⟩ := h
  have h1 := hB.mc
  have h2 := hB.rf
  have hfu := hI.fuel
  have hus := hI.used
  have hz1 : m.out.length ≤ 1024 := by have := hI.out; omega
  have hz2 : m.reads.length ≤ 1024 := by have := hI.reads; split at this <;> omega
  have hz3 : m.buf.length ≤ 32 := by have := hI.few; have := hI.wmax; omega
  have hz4 : m.st.length ≤ 64 := by have := hI.high; split at this <;> omega
  have hz5 := hI.deep
  have HOUT := Lib.hid (fun u (hb : Below w0.heap.size w0 u) => out_any (h1.on hb).gm hz1)
  have HRDS := Lib.hid (fun u (hb : Below w0.heap.size w0 u) => reads_any (h1.on hb).gm hz2)
  have HWRS := Lib.hid (fun u (hb : Below w0.heap.size w0 u) => writes_any (h1.on hb).gm)
  have HSTK := Lib.hid (fun u (hb : Below w0.heap.size w0 u) => stack_any (h1.on hb).gm)
  have HLOC := Lib.hid (fun u (hb : Below w0.heap.size w0 u) => locals_any (h1.on hb).gm)
  have HEND := Lib.hid (fun u (hb : Below w0.heap.size w0 u) => end_any (h1.on hb).gm)
  have HUSD := Lib.hid (fun u (hb : Below w0.heap.size w0 u) => used_any (h1.on hb).gm)
  have HPLC := Lib.hid (fun u (hb : Below w0.heap.size w0 u) => where_any (h1.on hb).gm)
  have HDEP := Lib.hid (fun u (hb : Below w0.heap.size w0 u) => depth_any (h1.on hb).gm)
  unfold endV at HEND
  have HS : Hid (∀ u, Below w0.heap.size w0 u → (fun u => u.cell? ⟨br, 14, none⟩ = some (.int .i64 m.how) ∧ u.cell? ⟨br, 15, none⟩ = some (.int .i64 m.cod) ∧ u.cell? ⟨br, 16, none⟩ = some (.int .i64 m.err) ∧ u.cell? ⟨br, 17, none⟩ = some (.slice q.pt m.out.length q.ct) ∧ u.cell? ⟨br, 18, none⟩ = some (.slice q.pr m.reads.length q.cr) ∧ u.cell? ⟨br, 19, none⟩ = some (.slice q.pb m.buf.length q.cb) ∧ u.cell? ⟨br, 12, none⟩ = some (.int .i64 m.used) ∧ u.cell? ⟨br, 11, none⟩ = some (.int .i64 m.place) ∧ u.cell? ⟨br, 8, none⟩ = some (.slice q.ps m.st.length q.cs) ∧ u.cell? ⟨br, 10, none⟩ = some (.slice (some ⟨q.bl, 0, none⟩) 8 q.cl) ∧ u.cell? ⟨br, 9, none⟩ = some (.slice q.pc m.calls.length q.cc)) u) := fun u hb => by
    have hr := h2.on hb
    exact ⟨(hr.cell 14).trans rfl, (hr.cell 15).trans rfl, (hr.cell 16).trans rfl, (hr.cell 17).trans rfl, (hr.cell 18).trans rfl, (hr.cell 19).trans rfl, (hr.cell 12).trans rfl, (hr.cell 11).trans rfl, (hr.cell 8).trans rfl, (hr.cell 10).trans rfl, (hr.cell 9).trans rfl⟩
  have HE1 : Hid (∀ u p c, Below w0.heap.size w0 u → FlAt u p m.out → Calls Tryz.prog 31 #[.slice p m.out.length c, .slice q.pt m.out.length q.ct] u fun e w' => e = .returned (.bool true) ∧ Same u w') := fun u p c hb ha => exact_at rfl (by omega) ha (h2.on hb).out.fl
  have HE2 : Hid (∀ u p c, Below w0.heap.size w0 u → FlAt u p m.st.reverse → Calls Tryz.prog 31 #[.slice p m.st.length c, .slice q.ps m.st.length q.cs] u fun e w' => e = .returned (.bool true) ∧ Same u w') := fun u p c hb ha => exact_at (l := m.st.reverse) List.length_reverse (by omega) ha (h2.on hb).st.fl
  have HE3 : Hid (∀ u p c, Below w0.heap.size w0 u → FlAt u p (eight m.loc) → Calls Tryz.prog 31 #[.slice p 8 c, .slice (some ⟨q.bl, 0, none⟩) 8 q.cl] u fun e w' => e = .returned (.bool true) ∧ Same u w') := fun u p c hb ha => exact_at (l := eight m.loc) rfl (by omega) ha (h2.on hb).loc.fl
  have HT1 : Hid (∀ u p c, Below w0.heap.size w0 u → TlAt u p m.reads → Calls Tryz.prog 33 #[.slice p m.reads.length c, .slice q.pr m.reads.length q.cr] u fun e w' => e = .returned (.bool true) ∧ Same u w') := fun u p c hb ha => touches_at rfl (by omega) ha (h2.on hb).rds.tl
  have HT2 : Hid (∀ u p c, Below w0.heap.size w0 u → TlAt u p m.buf → Calls Tryz.prog 33 #[.slice p m.buf.length c, .slice q.pb m.buf.length q.cb] u fun e w' => e = .returned (.bool true) ∧ Same u w') := fun u p c hb ha => touches_at rfl (by omega) ha (h2.on hb).buf.tl
  have hb := h2.ltB
  clear hB h1 h2 hI hfu hus
  go_enter Tryz.func12, Tryz.ntmps12
  go_wp2_with (first
    | (go_at_call 35; refine (HLOC.out _ Q4.out).mono ?_; rintro e u5 ⟨p5, c5, rfl, a5, b5, d5⟩; have Q5 := Lib.hid (Q4.out.trans (d5.mono Q4.out.size)); have R5 := Lib.hid (And.intro a5 (b5.mono Q4.out.size)); have P5 := Lib.hid d5; clear a5 b5 d5)
    | (go_at_call 25; refine (HSTK.out _ Q3.out).mono ?_; rintro e u4 ⟨rfl, a4, d4⟩; have Q4 := Lib.hid (Q3.out.trans (d4.mono Q3.out.size)); have R4 := Lib.hid a4; have P4 := Lib.hid d4; clear a4 d4)
    | (go_at_call 24; refine (HWRS.out _ Q2.out).mono ?_; rintro e u3 ⟨rfl, a3, d3⟩; have Q3 := Lib.hid (Q2.out.trans (d3.mono Q2.out.size)); have R3 := Lib.hid a3; have P3 := Lib.hid d3; clear a3 d3)
    | (go_at_call 34; refine (HRDS.out _ Q1.out).mono ?_; rintro e u2 ⟨p2, c2, rfl, a2, b2, d2⟩; have Q2 := Lib.hid (Q1.out.trans (d2.mono Q1.out.size)); have R2 := Lib.hid (And.intro a2 (b2.mono Q1.out.size)); have P2 := Lib.hid d2; clear a2 b2 d2)
    | (go_at_call 32; refine (HOUT.out _ (Below.refl _ _)).mono ?_; rintro e u1 ⟨p1, c1, rfl, a1, b1, d1⟩; have Q1 := Lib.hid d1; have R1 := Lib.hid (And.intro a1 b1); clear a1 b1 d1))
  have HB25 : Hid (Below u2.heap.size u2 u5) := P3.out.trans ((P4.out.trans (P5.out.mono P4.out.size)).mono P3.out.size)
  have HB15 : Hid (Below u1.heap.size u1 u5) := P2.out.trans (HB25.out.mono P2.out.size)
  have HB35 : Hid (Below u3.heap.size u3 u5) := P4.out.trans (P5.out.mono P4.out.size)
  have F1 : Hid (∀ u, Below u5.heap.size u5 u → FlAt u p1 m.out) := fun u hu => (R1.out.1.on (HB15.out.trans (hu.mono HB15.out.size))).fl
  have F2 : Hid (∀ u, Below u5.heap.size u5 u → TlAt u p2 m.reads) := fun u hu => (trow_on R2.out.1 (HB25.out.trans (hu.mono HB25.out.size))).tl
  have F3 : Hid (∀ u, Below u5.heap.size u5 u → TlAt u (some ⟨u2.heap.size, 0, none⟩) m.buf) := fun u hu => (trow_on R3.out (HB35.out.trans (hu.mono HB35.out.size))).tl
  have F4 : Hid (∀ u, Below u5.heap.size u5 u → FlAt u (some ⟨u3.heap.size, 0, none⟩) m.st.reverse) := fun u hu => (R4.out.on (P5.out.trans (hu.mono P5.out.size))).fl
  have F5 : Hid (∀ u, Below u5.heap.size u5 u → FlAt u p5 (eight m.loc)) := fun u hu => (R5.out.1.on hu).fl
  have WD : Hid (∀ u, Below u5.heap.size u5 u → (∀ t ∈ [(p1, m.out.length, c1), (some ⟨u3.heap.size, 0, none⟩, m.st.length, m.st.length), (p5, 8, c5)], Wide w0 u 40 1 t) ∧ ∀ t ∈ [(p2, m.reads.length, c2), (some ⟨u2.heap.size, 0, none⟩, m.buf.length, m.buf.length)], Wide w0 u 76 2 t) := fun u hu => by
    refine ⟨fun t ht => ?_, fun t ht => ?_⟩
    · simp only [List.mem_cons, List.not_mem_nil, or_false] at ht
      rcases ht with rfl | rfl | rfl
      · exact (R1.out.1.wide R1.out.2).on (HB15.out.trans (hu.mono HB15.out.size))
      · have := R4.out.wide (B := w0) (fun x hx => by simp [fpR] at hx; subst hx; exact Q3.out.size)
        rw [List.length_reverse] at this
        exact this.on (P5.out.trans (hu.mono P5.out.size))
      · exact (R5.out.1.wide R5.out.2).on hu
    · simp only [List.mem_cons, List.not_mem_nil, or_false] at ht
      rcases ht with rfl | rfl
      · exact (R2.out.1.wide R2.out.2).on (HB25.out.trans (hu.mono HB25.out.size))
      · exact (R3.out.wide (B := w0) (fun x hx => by simp [fpR] at hx; subst hx; exact Q2.out.size)).on (HB35.out.trans (hu.mono HB35.out.size))
  have Q5' : Hid (∀ u, Below u5.heap.size u5 u → Below w0.heap.size w0 u) := fun u hu => Q5.out.trans (hu.mono Q5.out.size)
  clear HOUT HRDS HWRS HSTK HLOC R1 R2 R3 R4 R5 P2 P3 P4 P5 Q1 Q2 Q3 Q4 HB15 HB25 HB35
  have Z0 : Hid (Below u5.heap.size u5 u5.drew) := (Same.drew _).below _
  refine wp_region_seq (fun u => u.cell? ⟨br, 14, none⟩ = some (.int .i64 m.how) ∧ u.cell? ⟨br, 15, none⟩ = some (.int .i64 m.cod) ∧ u.cell? ⟨br, 16, none⟩ = some (.int .i64 m.err) ∧ u.cell? ⟨br, 17, none⟩ = some (.slice q.pt m.out.length q.ct) ∧ u.cell? ⟨br, 18, none⟩ = some (.slice q.pr m.reads.length q.cr) ∧ u.cell? ⟨br, 19, none⟩ = some (.slice q.pb m.buf.length q.cb) ∧ u.cell? ⟨br, 12, none⟩ = some (.int .i64 m.used) ∧ u.cell? ⟨br, 11, none⟩ = some (.int .i64 m.place) ∧ u.cell? ⟨br, 8, none⟩ = some (.slice q.ps m.st.length q.cs) ∧ u.cell? ⟨br, 10, none⟩ = some (.slice (some ⟨q.bl, 0, none⟩) 8 q.cl) ∧ u.cell? ⟨br, 9, none⟩ = some (.slice q.pc m.calls.length q.cc)) ((0, true) :: (2, true) :: (3, true) :: (4, true) :: (5, true) :: (1, false) :: (6, true) :: (7, true) :: (8, true) :: (9, true) :: (10, true) :: (11, true) :: (12, true) :: (13, false) :: (14, true) :: (15, true) :: (16, true) :: (17, true) :: (18, true) :: (19, true) :: (20, true) :: (21, false) :: (22, true) :: (23, true) :: (24, true) :: (25, true) :: (26, true) :: (27, true) :: (28, true) :: (29, false) :: (30, true) :: (31, true) :: (32, true) :: (34, true) :: (35, true) :: (36, true) :: (37, true) :: (33, false) :: (38, true) :: (39, true) :: (40, true) :: (41, true) :: (43, true) :: (44, true) :: (45, true) :: (46, true) :: (42, false) :: (47, true) :: (48, true) :: (49, true) :: (50, true) :: (51, true) :: (52, true) :: (53, true) :: (54, true) :: (55, false) :: (56, true) :: (57, true) :: (58, true) :: (59, true) :: (60, true) :: (61, true) :: (62, true) :: (63, false) :: (64, true) :: (65, true) :: (66, true) :: (68, true) :: (69, true) :: (70, true) :: (71, true) :: (72, true) :: (67, false) :: (73, true) :: (74, true) :: (75, true) :: []) (by kernel_rfl) (by kernel_rfl) (fun _ _ _ _ _ h => h) (HS.out _ (Q5'.out _ Z0.out)) ?_
  repeat (first
    | (refine wpSeq_take (v := ?_) rfl (by rfl) (fun wq hSq => ?_) ?_; rotate_left; (focus ((try dsimp only at hSq); go_simp; try with_reducible rfl)); simp only [Act.put, List.setIfInBounds_toArray, List.set_cons_zero, List.set_cons_succ]))
  refine wpSeq_do rfl (by rfl) (fun K hK => ?_)
  go_simp
  refine (HEND.out _ (Q5'.out _ Z0.out)).mono ?_
  rintro e v1 ⟨rfl, hu⟩
  have Z1 := Lib.hid (Z0.out.trans (hu.mono Z0.out.size))
  clear hu
  refine hK.out _ _ (HS.out _ (Q5'.out _ Z1.out)) ?_
  clear hK K
  try simp only [Act.put, List.setIfInBounds_toArray, List.set_cons_zero, List.set_cons_succ]
  repeat (first
    | (refine wpSeq_take (v := ?_) rfl (by rfl) (fun wq hSq => ?_) ?_; rotate_left; (focus ((try dsimp only at hSq); go_simp; try with_reducible rfl)); simp only [Act.put, List.setIfInBounds_toArray, List.set_cons_zero, List.set_cons_succ]))
  refine wpSeq_do rfl (by rfl) (fun K hK => ?_)
  go_simp
  refine (HE1.out _ _ _ (Q5'.out _ Z1.out) (F1.out _ Z1.out)).mono ?_
  rintro e v2 ⟨rfl, hu⟩
  have Z2 := Lib.hid (Z1.out.trans (hu.below _))
  clear hu
  refine hK.out _ _ (HS.out _ (Q5'.out _ Z2.out)) ?_
  clear hK K
  try simp only [Act.put, List.setIfInBounds_toArray, List.set_cons_zero, List.set_cons_succ]
  repeat (first
    | (refine wpSeq_take (v := ?_) rfl (by rfl) (fun wq hSq => ?_) ?_; rotate_left; (focus ((try dsimp only at hSq); go_simp; try with_reducible rfl)); simp only [Act.put, List.setIfInBounds_toArray, List.set_cons_zero, List.set_cons_succ]))
  refine wpSeq_do rfl (by rfl) (fun K hK => ?_)
  go_simp
  refine (HT1.out _ _ _ (Q5'.out _ Z2.out) (F2.out _ Z2.out)).mono ?_
  rintro e v3 ⟨rfl, hu⟩
  have Z3 := Lib.hid (Z2.out.trans (hu.below _))
  clear hu
  refine hK.out _ _ (HS.out _ (Q5'.out _ Z3.out)) ?_
  clear hK K
  try simp only [Act.put, List.setIfInBounds_toArray, List.set_cons_zero, List.set_cons_succ]
  repeat (first
    | (refine wpSeq_take (v := ?_) rfl (by rfl) (fun wq hSq => ?_) ?_; rotate_left; (focus ((try dsimp only at hSq); go_simp; try with_reducible rfl)); simp only [Act.put, List.setIfInBounds_toArray, List.set_cons_zero, List.set_cons_succ]))
  refine wpSeq_do rfl (by rfl) (fun K hK => ?_)
  go_simp
  refine (HT2.out _ _ _ (Q5'.out _ Z3.out) (F3.out _ Z3.out)).mono ?_
  rintro e v4 ⟨rfl, hu⟩
  have Z4 := Lib.hid (Z3.out.trans (hu.below _))
  clear hu
  refine hK.out _ _ (HS.out _ (Q5'.out _ Z4.out)) ?_
  clear hK K
  try simp only [Act.put, List.setIfInBounds_toArray, List.set_cons_zero, List.set_cons_succ]
  repeat (first
    | (refine wpSeq_take (v := ?_) rfl (by rfl) (fun wq hSq => ?_) ?_; rotate_left; (focus ((try dsimp only at hSq); go_simp; try with_reducible rfl)); simp only [Act.put, List.setIfInBounds_toArray, List.set_cons_zero, List.set_cons_succ]))
  refine wpSeq_do rfl (by rfl) (fun K hK => ?_)
  go_simp
  refine (HUSD.out _ (Q5'.out _ Z4.out)).mono ?_
  rintro e v ⟨rfl, hu⟩
  subst v
  refine hK.out _ _ (HS.out _ (Q5'.out _ Z4.out)) ?_
  clear hK K
  try simp only [Act.put, List.setIfInBounds_toArray, List.set_cons_zero, List.set_cons_succ]
  repeat (first
    | (refine wpSeq_take (v := ?_) rfl (by rfl) (fun wq hSq => ?_) ?_; rotate_left; (focus ((try dsimp only at hSq); go_simp; try with_reducible rfl)); simp only [Act.put, List.setIfInBounds_toArray, List.set_cons_zero, List.set_cons_succ]))
  refine wpSeq_do rfl (by rfl) (fun K hK => ?_)
  go_simp
  refine (HPLC.out _ (Q5'.out _ Z4.out)).mono ?_
  rintro e v ⟨rfl, hu⟩
  subst v
  refine hK.out _ _ (HS.out _ (Q5'.out _ Z4.out)) ?_
  clear hK K
  try simp only [Act.put, List.setIfInBounds_toArray, List.set_cons_zero, List.set_cons_succ]
  repeat (first
    | (refine wpSeq_take (v := ?_) rfl (by rfl) (fun wq hSq => ?_) ?_; rotate_left; (focus ((try dsimp only at hSq); go_simp; try with_reducible rfl)); simp only [Act.put, List.setIfInBounds_toArray, List.set_cons_zero, List.set_cons_succ]))
  refine wpSeq_do rfl (by rfl) (fun K hK => ?_)
  go_simp
  refine (HE2.out _ _ _ (Q5'.out _ Z4.out) (F4.out _ Z4.out)).mono ?_
  rintro e v5 ⟨rfl, hu⟩
  have Z5 := Lib.hid (Z4.out.trans (hu.below _))
  clear hu
  refine hK.out _ _ (HS.out _ (Q5'.out _ Z5.out)) ?_
  clear hK K
  try simp only [Act.put, List.setIfInBounds_toArray, List.set_cons_zero, List.set_cons_succ]
  repeat (first
    | (refine wpSeq_take (v := ?_) rfl (by rfl) (fun wq hSq => ?_) ?_; rotate_left; (focus ((try dsimp only at hSq); go_simp; try with_reducible rfl)); simp only [Act.put, List.setIfInBounds_toArray, List.set_cons_zero, List.set_cons_succ]))
  refine wpSeq_do rfl (by rfl) (fun K hK => ?_)
  go_simp
  refine (HE3.out _ _ _ (Q5'.out _ Z5.out) (F5.out _ Z5.out)).mono ?_
  rintro e v6 ⟨rfl, hu⟩
  have Z6 := Lib.hid (Z5.out.trans (hu.below _))
  clear hu
  refine hK.out _ _ (HS.out _ (Q5'.out _ Z6.out)) ?_
  clear hK K
  try simp only [Act.put, List.setIfInBounds_toArray, List.set_cons_zero, List.set_cons_succ]
  repeat (first
    | (refine wpSeq_take (v := ?_) rfl (by rfl) (fun wq hSq => ?_) ?_; rotate_left; (focus ((try dsimp only at hSq); go_simp; try with_reducible rfl)); simp only [Act.put, List.setIfInBounds_toArray, List.set_cons_zero, List.set_cons_succ]))
  refine wpSeq_do rfl (by rfl) (fun K hK => ?_)
  go_simp
  refine (HDEP.out _ (Q5'.out _ Z6.out)).mono ?_
  rintro e v ⟨rfl, hu⟩
  subst v
  refine hK.out _ _ (HS.out _ (Q5'.out _ Z6.out)) ?_
  clear hK K
  try simp only [Act.put, List.setIfInBounds_toArray, List.set_cons_zero, List.set_cons_succ]
  repeat (first
    | (refine wpSeq_take (v := ?_) rfl (by rfl) (fun wq hSq => ?_) ?_; rotate_left; (focus ((try dsimp only at hSq); go_simp; try with_reducible rfl)); simp only [Act.put, List.setIfInBounds_toArray, List.set_cons_zero, List.set_cons_succ]))
  refine wpSeq_nil ?_
  clear HS HE1 HE2 HE3 HT1 HT2 HEND HUSD HPLC HDEP F1 F2 F3 F4 F5 Q5 Z0 Z1 Z2 Z3 Z4 Z5
  go_wp2_with fail
  have hnew : ∀ t ∈ [(p1, m.out.length, c1), (some ⟨u3.heap.size, 0, none⟩, m.st.length, m.st.length), (p5, 8, c5)], ∀ g, t.1 = some ⟨g, 0, none⟩ → g ≠ v6.heap.size := fun t ht g hg => by
    rcases (WD.out _ Z6.out).1 t ht with ⟨z, _⟩ | ⟨g', arr, z, _, hb, _⟩
    · rw [hg] at z; cases z
    · rw [hg] at z; cases z; exact Nat.ne_of_lt (lt_of_block hb)
  have HS0 : Hid (Sn w0 (v6.alloc (.cells #[.slice p1 m.out.length c1, .slice (some ⟨u3.heap.size, 0, none⟩) m.st.length m.st.length, .slice p5 8 c5] 27)) 40 1 27 v6.heap.size [(p1, m.out.length, c1), (some ⟨u3.heap.size, 0, none⟩, m.st.length, m.st.length), (p5, 8, c5)]) := ⟨(Q5'.out _ Z6.out).alloc (Q5'.out _ Z6.out).size _, fun t ht => ((WD.out _ Z6.out).1 t ht).on (below_alloc _ _), hnew, heap_alloc_new _ _⟩
  have HM0 : Hid (∀ t ∈ [(p2, m.reads.length, c2), (some ⟨u2.heap.size, 0, none⟩, m.buf.length, m.buf.length)], Wide w0 (v6.alloc (.cells #[.slice p1 m.out.length c1, .slice (some ⟨u3.heap.size, 0, none⟩) m.st.length m.st.length, .slice p5 8 c5] 27)) 76 2 t) := fun t ht => ((WD.out _ Z6.out).2 t ht).on (below_alloc _ _)
  clear WD hnew Q5' Z6
  generalize hL : [(p1, m.out.length, c1), (some (⟨u3.heap.size, 0, none⟩ : Addr), m.st.length, m.st.length), (p5, 8, c5)] = L at HS0
  have hL3 : L.length = 3 := by rw [← hL]; rfl
  generalize hM : [(p2, m.reads.length, c2), (some (⟨u2.heap.size, 0, none⟩ : Addr), m.buf.length, m.buf.length)] = M at HM0
  clear hL
  go_loopw [12, 13, 14, 109] (fun _ _ _ vi w' => ∃ j : Nat, vi = .int .i64 j ∧ j ≤ 3 ∧ Hid (Sn w0 w' 40 1 27 v6.heap.size L ∧ ∀ t ∈ M, Wide w0 w' 76 2 t)) (fun _ _ _ vi _ => 3 - (intOf vi).toNat)
  case atStart => exact ⟨0, rfl, by omega, ⟨HS0.out, HM0.out⟩⟩
  case round =>
    obtain ⟨j, rfl, hj, HSN⟩ := hrel
    by_cases hlt : j < 3
    · have hlt' : (j : Int) < 3 := by omega
      obtain ⟨t, ht⟩ : ∃ t, L[j]? = some t := ⟨_, List.getElem?_eq_getElem (by omega)⟩
      have hm : t ∈ L := List.mem_of_getElem? ht
      obtain ⟨g1, g2⟩ := HSN.out.1.get ht
      obtain ⟨tp, tn, tc⟩ := t
      rcases HSN.out.1.wide _ hm with ⟨hp, hc⟩ | ⟨g, arr, hp, hB, hg, hs, hmx⟩
      · replace hp : tp = none := hp
        replace hc : tc = 0 := hc
        subst hp hc
        clear ht hm
        go_wp2_with fail
        have HSW := HSN
        generalize hwr : wr = wz at HSW
        go_loopw [14, 119] (fun _ vi w' => vi = .int .i64 0 ∧ w' = wz) (fun _ vi _ => 0)
        case atStart => exact ⟨rfl, rfl⟩
        case round =>
          obtain ⟨rfl, rfl⟩ := hrel
          go_wp2_with fail
          exact ⟨⟨j + 1, by first | rfl | (congr 1), by omega, HSW.out⟩, by simp [intOf]; omega⟩
      · replace hp : tp = some ⟨g, 0, none⟩ := hp
        replace hmx : tc ≤ 9223372036854775807 := hmx
        have hne : g ≠ v6.heap.size := HSN.out.1.new _ hm g hp
        subst hp
        clear ht hg hs
        go_wp2_with fail
        have HSW := HSN
        go_loopw [14, 119] (fun _ vi w' => ∃ i : Nat, vi = .int .i64 i ∧ i ≤ tc ∧ Hid (Sn w0 w' 40 1 27 v6.heap.size L ∧ ∀ t ∈ M, Wide w0 w' 76 2 t)) (fun _ vi _ => tc - (intOf vi).toNat)
        case atStart => exact ⟨0, rfl, by omega, HSN.out⟩
        case round =>
          obtain ⟨i, rfl, hi, HSI⟩ := hrel
          by_cases hil : i < tc
          · have hil' : (i : Int) < (tc : Int) := by omega
            rcases HSI.out.1.wide _ hm with ⟨hp, _⟩ | ⟨g', arr2, hp, _, hg, hs, _⟩
            · cases hp
            · cases hp
              have hsz : arr2.size = tc := by have : arr2.size = tc * 1 := hs; omega
              have hc0 : wr.cell? ⟨g, i, none⟩ = some (arr2[i]'(by omega)) := by rw [cell_of_row _ _ _ _ _ _ hg, Array.getElem?_eq_getElem]
              have hfz := frozen_of_row wr g i _ _ hg
              have hgl := lt_of_block hg
              have HPT := Lib.hid (And.intro (HSI.out.1.put hB hne i (.float .f64 13858490847093325824)) (fun t ht => (HSI.out.2 t ht).put g i (.float .f64 13858490847093325824)))
              generalize arr2[i]'(by omega) = old at hc0
              clear hg hs hsz
              go_wp2_with fail
              exact ⟨⟨i + 1, by first | rfl | (congr 1), by omega, HPT.out⟩, by simp [intOf]; omega⟩
          · have hil' : ¬ (i : Int) < (tc : Int) := by omega
            go_wp2_with fail
            exact ⟨⟨j + 1, by first | rfl | (congr 1), by omega, HSI.out⟩, by simp [intOf]; omega⟩
    · have hlt' : ¬ (j : Int) < 3 := by omega
      have hnew2 : ∀ t ∈ M, ∀ g, t.1 = some ⟨g, 0, none⟩ → g ≠ wr.heap.size := fun t ht g hg => by
        rcases HSN.out.2 t ht with ⟨z, _⟩ | ⟨g', arr, z, _, hb, _⟩
        · rw [hg] at z; cases z
        · rw [hg] at z; cases z; exact Nat.ne_of_lt (lt_of_block hb)
      have HS2 : Hid (Sn w0 (wr.alloc (.cells #[.slice p2 m.reads.length c2, .slice (some ⟨u2.heap.size, 0, none⟩) m.buf.length m.buf.length] 58)) 76 2 58 wr.heap.size M) := ⟨HSN.out.1.bel.alloc HSN.out.1.bel.size _, fun t ht => (HSN.out.2 t ht).on (below_alloc _ _), hnew2, by rw [← hM]; exact heap_alloc_new _ _⟩
      have hM2 : M.length = 2 := by rw [← hM]; rfl
      clear hnew2 HSN hM
      obtain ⟨w9, hw9⟩ : ∃ w9, w9 = wr := ⟨_, rfl⟩
      subst hw9
      go_wp2_with fail
      go_loopw [16, 17, 18, 131] (fun _ _ _ vi w' => ∃ j : Nat, vi = .int .i64 j ∧ j ≤ 2 ∧ Hid (Sn w0 w' 76 2 58 w9.heap.size M)) (fun _ _ _ vi _ => 2 - (intOf vi).toNat)
      case atStart => exact ⟨0, rfl, by omega, HS2.out⟩
      case round =>
        obtain ⟨j, rfl, hj, HSN⟩ := hrel
        by_cases hlt : j < 2
        · have hlt' : (j : Int) < 2 := by omega
          obtain ⟨t, ht⟩ : ∃ t, M[j]? = some t := ⟨_, List.getElem?_eq_getElem (by omega)⟩
          have hm : t ∈ M := List.mem_of_getElem? ht
          obtain ⟨g1, g2⟩ := HSN.out.get ht
          obtain ⟨tp, tn, tc⟩ := t
          rcases HSN.out.wide _ hm with ⟨hp, hc⟩ | ⟨g, arr, hp, hB, hg, hs, hmx⟩
          · replace hp : tp = none := hp
            replace hc : tc = 0 := hc
            subst hp hc
            clear ht hm
            go_wp2_with fail
            have HSW := HSN
            generalize hwr : wr = wz at HSW
            go_loopw [18, 141] (fun _ vi w' => vi = .int .i64 0 ∧ w' = wz) (fun _ vi _ => 0)
            case atStart => exact ⟨rfl, rfl⟩
            case round =>
              obtain ⟨rfl, rfl⟩ := hrel
              go_wp2_with fail
              exact ⟨⟨j + 1, by first | rfl | (congr 1), by omega, HSW.out⟩, by simp [intOf]; omega⟩
          · replace hp : tp = some ⟨g, 0, none⟩ := hp
            replace hmx : tc ≤ 9223372036854775807 := hmx
            have hne : g ≠ w9.heap.size := HSN.out.new _ hm g hp
            subst hp
            clear ht hg hs
            go_wp2_with fail
            have HSW := HSN
            go_loopw [18, 141] (fun _ vi w' => ∃ i : Nat, vi = .int .i64 i ∧ i ≤ tc ∧ Hid (Sn w0 w' 76 2 58 w9.heap.size M)) (fun _ vi _ => tc - (intOf vi).toNat)
            case atStart => exact ⟨0, rfl, by omega, HSN.out⟩
            case round =>
              obtain ⟨i, rfl, hi, HSI⟩ := hrel
              by_cases hil : i < tc
              · have hil' : (i : Int) < (tc : Int) := by omega
                rcases HSI.out.wide _ hm with ⟨hp, _⟩ | ⟨g', arr2, hp, _, hg, hs, _⟩
                · cases hp
                · cases hp
                  have hsz : arr2.size = tc * 2 := hs
                  have hc0 : wr.cell? ⟨g, i * 2, none⟩ = some (arr2[i * 2]'(by omega)) := by rw [cell_of_row _ _ _ _ _ _ hg, Array.getElem?_eq_getElem]
                  have hc1 : wr.cell? ⟨g, i * 2 + 1, none⟩ = some (arr2[i * 2 + 1]'(by omega)) := by rw [cell_of_row _ _ _ _ _ _ hg, Array.getElem?_eq_getElem]
                  have hfz := frozen_of_row wr g (i * 2) _ _ hg
                  have hfz1 := frozen_of_row wr g (i * 2 + 1) _ _ hg
                  have hgl := lt_of_block hg
                  have HPT := Lib.hid ((HSI.out.put hB hne (i * 2) (.int .i64 (-77))).put hB hne (i * 2 + 1) (.float .f64 13858490847093325824))
                  generalize arr2[i * 2]'(by omega) = old at hc0
                  generalize arr2[i * 2 + 1]'(by omega) = old1 at hc1
                  clear hg hs hsz
                  go_wp2_with fail
                  exact ⟨⟨i + 1, by first | rfl | (congr 1), by omega, HPT.out⟩, by simp [intOf]; omega⟩
              · have hil' : ¬ (i : Int) < (tc : Int) := by omega
                go_wp2_with fail
                exact ⟨⟨j + 1, by first | rfl | (congr 1), by omega, HSI.out⟩, by simp [intOf]; omega⟩
        · have hlt' : ¬ (j : Int) < 2 := by omega
          go_wp2_with fail
          go_ret
          exact ⟨rfl, HSN.out.bel⟩
end
end Go.Proofs.YtjicnjncdmknmaaGreatDoor
namespace Go.Proofs.YtjicnjncdmknmaaGreatDoor
open Go.ChangeShapes Go.WideShapes Go.ChangeAt Go.RowKit Num
attribute [local go_sem] run_store_float

set_option maxHeartbeats 400000 in
set_option maxRecDepth 100000 in
theorem begun_some {w : World} {a b c e t : Int} {ao : Option Addr} {cs : List Ins} {n cap : Nat} {po : Option Addr} {l : List Nat} {k co : Nat} (hn : cs.length = n) (hk : l.length = k) (hT : Shaped5 w) (hC : CodeAt w ao cs) (hL : FlAt w po l) (hnb : (n + 2) * 24 ≤ 281474976710656) (hkb : (k + 2) * 8 ≤ 281474976710656) (hc : Md.cfgB a b c e = true) (hk8 : k ≤ 8) :
    Calls Tryz.prog 10 #[cfgV a b c e, .agg #[.int .i64 t, .slice ao n cap], .slice po k co] w fun r w' => ∃ bp bm br bl K KR, r = .returned (.tuple #[.pointer (some ⟨bp, 0, none⟩), .bool true]) ∧ Pr w w' bp bm br bl K KR 0 (newM a c e t cs l) cs := by
  obtain ⟨nn, hnn⟩ : ∃ nn, nn = n + 2 := ⟨_, rfl⟩
  obtain ⟨kk, hkk⟩ : ∃ kk, kk = k + 2 := ⟨_, rfl⟩
  obtain ⟨arrF, sF, mF⟩ := make_room 27 Tryz.underlying27 fInfo k hkk (by rw [hkk]; exact hkb) (by decide)
  obtain ⟨arrI, sI, mI⟩ := make_room 24 Tryz.underlying24 insInfo n hnn (by rw [hnn]; exact hnb) (by decide)
  have HSF : Hid (∀ u, Below w.heap.size w u → Src Tryz.prog 1 27 (.slice po k co) k (fls l) u) := fun u hb => by rw [← hk]; exact src_fl co (hL.on hb)
  have HSI : Hid (∀ u, Below w.heap.size w u → Src Tryz.prog 3 24 (.slice ao n cap) n (cs.flatMap insC) u) := fun u hb => by rw [← hn]; exact src_code cap (hC.on hb)
  have HMN : Hid (∀ u g1 g2, Below w.heap.size w u → CodeAt u (some ⟨g2, 0, none⟩) cs → FlAt u (some ⟨g1, 0, none⟩) l → Calls Tryz.prog 20 #[cfgV a b c e, .agg #[.int .i64 t, .slice (some ⟨g2, 0, none⟩) n nn], .slice (some ⟨g1, 0, none⟩) k kk] u fun r w' => ∃ bm K, r = .returned (.pointer (some ⟨bm, 0, none⟩)) ∧ Gm u [] bm K w' (newM a c e t cs l) ∧ Abv u.heap.size K) := fun u g1 g2 hb h1 h2 => mnew_any hn hk (hT.on hb) h1 h2 (by omega) hc hk8
  have HRN : Hid (∀ u, Below w.heap.size w u → Calls Tryz.prog 21 #[cfgV a b c e, .agg #[.int .i64 t, .slice ao n cap], .slice po k co] u fun r w' => ∃ br bl pa ca, r = .returned (.pointer (some ⟨br, 0, none⟩)) ∧ RNew u w' (newM a c e t cs l) { rq0 b t ao n cap (!checkB t cs) bl with pa := pa, na := 8, ca := ca } br (eight (argF l))) := fun u hb => rnew_some hc hn hk hk8 (hC.on hb) (hL.on hb) (by omega)
  have HBN : Hid (∀ {u2 u4 v1 v2 v3 : World} {bm br bl ca g1 g2 : Nat} {pa : Option Addr} {K : List Nat} {vs1 vs2 : List Value}, Len (newW w a b c e t ao n cap) u2 g1 40 1 k vs1 → Len u2 u4 g2 63 3 n vs2 → Same u4 v1 → Gm v1 [] bm K v2 (newM a c e t cs l) → Abv v1.heap.size K → RNew v2 v3 (newM a c e t cs l) { rq0 b t ao n cap (!checkB t cs) bl with pa := pa, na := 8, ca := ca } br (eight (argF l)) → ∃ KR, Beg w v3 bm br bl K KR g1 g2 kk nn (newM a c e t cs l) cs) := fun L1 L2 s g hK r => beg_new (newW_below _ _ _ _ _ _ _ _ _) hT hC hn hkk hnn L1 L2 s g hK r
  have HLF : Hid ((fls l).length = k * 1) := by show _ = _; rw [fls_len, hk, Nat.mul_one]
  have HLI : Hid ((cs.flatMap insC).length = n * 3) := by show _ = _; rw [insC_len, hn]
  have HW0 := Lib.hid (newW_below w a b c e t ao n cap)
  have hkn : kk ≤ 9223372036854775807 := by omega
  have hnn9 : nn ≤ 9223372036854775807 := by omega
  have hle1 : (k : Int) ≤ (kk : Int) := by omega
  have hle2 : (n : Int) ≤ (nn : Int) := by omega
  have ew1 : IntKind.i64.wrap ((k : Int) + 2) = (k : Int) + 2 := by rw [IntKind.wrap_i64]; omega
  have ew2 : IntKind.i64.wrap ((n : Int) + 2) = (n : Int) + 2 := by rw [IntKind.wrap_i64]; omega
  have ew3 : wrap64 ((k : Int) + 2) = (k : Int) + 2 := IntWalk.wrap64_in _ (by omega)
  have ew4 : wrap64 ((n : Int) + 2) = (n : Int) + 2 := IntWalk.wrap64_in _ (by omega)
  have HKK := Lib.hid hkk
  have HNN := Lib.hid hnn
  have HAF := Lib.hid sF
  have HAI := Lib.hid sI
  clear hn hk hC hL hnb hkb hnn hkk sF sI hc hk8 hT
  go_enter Tryz.func10, Tryz.ntmps10
  go_wp2_with (first
    | (at_builtin; refine wpList_append_ex (R := fun v u => v = .slice (some ⟨w.heap.size + 1 + 1, 0, none⟩) kk kk ∧ Len (newW w a b c e t ao n cap) u (w.heap.size + 1 + 1) 40 1 k (fls l ++ [.float .f64 4635118810238550016, .float .f64 4635189178982727680])) rfl _ _ _ _ rfl (.slice (some ⟨w.heap.size + 1 + 1, 0, none⟩) k kk) (.slice (some ⟨u1.heap.size, 0, none⟩) 2 2) rfl rfl (by exact len_more (lit := #[.float .f64 4635118810238550016, .float .f64 4635189178982727680]) HKK.out Tryz.underlying27 fInfo L1.out HLF.out (by rfl) (by simp [Value.oneCell']) (by rfl) (by exact Same.refl _)) ?_; rintro v u2 ⟨rfl, q⟩; have L2 := Lib.hid q; obtain ⟨_, ⟨y0, y1, y2⟩, _⟩ := newW_boxes q.bl; clear q L1)
    | (at_builtin; refine wpList_append_ex (R := fun v u => v = .slice (some ⟨w.heap.size + 1 + 1, 0, none⟩) k kk ∧ Len (newW w a b c e t ao n cap) u (w.heap.size + 1 + 1) 40 1 k (fls l)) rfl _ _ _ _ rfl (.slice (some ⟨w.heap.size + 1 + 1, 0, none⟩) 0 kk) (.slice po k co) rfl rfl (by exact len_first (w1 := newW w a b c e t ao n cap) HKK.out Tryz.underlying27 fInfo HAF.out (fun u hb => HSF.out u (below_chain HW0.out hb)) (by exact Same.refl _) _ (by simp)) ?_; rintro v u1 ⟨rfl, q⟩; have L1 := Lib.hid q; clear q))
  have HSJ : Hid (∀ u, Below u2.heap.size u2 u → Src Tryz.prog 3 24 (.slice ao n cap) n (cs.flatMap insC) u) := fun u hb => HSI.out u (below_chain (below_chain HW0.out L2.out.bl) hb)
  have HY : Hid (∀ u, Below u2.heap.size u2 u → u.cell? ⟨w.heap.size + 1, 1, none⟩ = some (.slice ao n cap)) := fun u hb => (newW_boxes (below_chain L2.out.bl hb)).2.1.2.1
  clear y0 y1 y2
  refine wp_region_seq (fun u => u.cell? ⟨w.heap.size + 1, 1, none⟩ = some (.slice ao n cap)) ((0, true) :: (1, true) :: (2, true) :: (3, true) :: (5, true) :: (6, true) :: (4, false) :: (7, false) :: (8, true) :: []) (by kernel_rfl) (by kernel_rfl) (fun _ _ _ _ _ h => h) (HY.out _ ((Same.drew _).below _)) ?_
  repeat (first
    | (refine wpSeq_take (v := ?_) rfl (by rfl) (fun wq hSq => ?_) ?_; rotate_left; (focus ((try dsimp only at hSq); go_simp; try with_reducible rfl)); simp only [Act.put, List.setIfInBounds_toArray, List.set_cons_zero, List.set_cons_succ]))
  refine wpSeq_do rfl (by rfl) (fun KK hK => ?_)
  go_simp
  refine hK.out _ _ (HY.out _ (below_chain ((Same.drew _).below _) (below_alloc _ _))) ?_
  clear hK KK
  try simp only [Act.put, List.setIfInBounds_toArray, List.set_cons_zero, List.set_cons_succ]
  refine wpSeq_do rfl (by rfl) (fun KK hK => ?_)
  refine wp_append_ex (R := fun v u => v = .slice (some ⟨u2.heap.size, 0, none⟩) n nn ∧ Len u2 u u2.heap.size 63 3 n (cs.flatMap insC)) _ _ _ _ rfl (.slice (some ⟨u2.heap.size, 0, none⟩) 0 nn) (.slice ao n cap) rfl rfl (by exact len_first (w1 := u2) HNN.out Tryz.underlying24 insInfo HAI.out HSJ.out (by exact ⟨rfl, rfl, rfl, rfl⟩) _ rfl) ?_
  rintro v u3 ⟨rfl, q⟩
  have L3 := Lib.hid q
  clear q
  refine hK.out _ _ (HY.out _ L3.out.bl) ?_
  clear hK KK
  try simp only [Act.put, List.setIfInBounds_toArray, List.set_cons_zero, List.set_cons_succ]
  repeat (first
    | (refine wpSeq_take (v := ?_) rfl (by rfl) (fun wq hSq => ?_) ?_; rotate_left; (focus ((try dsimp only at hSq); go_simp; try with_reducible rfl)); simp only [Act.put, List.setIfInBounds_toArray, List.set_cons_zero, List.set_cons_succ]))
  refine wpSeq_nil ?_
  go_wp2_with (at_builtin; refine wpList_append_ex (R := fun v u => v = .slice (some ⟨u2.heap.size, 0, none⟩) nn nn ∧ Len u2 u u2.heap.size 63 3 n (cs.flatMap insC ++ [.int .i64 77, .int .i64 0, .float .f64 0, .int .i64 78, .int .i64 0, .float .f64 0])) rfl _ _ _ _ rfl (.slice (some ⟨u2.heap.size, 0, none⟩) n nn) (.slice (some ⟨u3.heap.size, 0, none⟩) 2 2) rfl rfl (by exact len_more (lit := #[.int .i64 77, .int .i64 0, .float .f64 0, .int .i64 78, .int .i64 0, .float .f64 0]) HNN.out Tryz.underlying24 insInfo L3.out HLI.out (by rfl) (by simp [Value.oneCell']) (by rfl) (by exact Same.refl _)) ?_; rintro v u4 ⟨rfl, q⟩; have L4 := Lib.hid q; clear q L3)
  have HU4 : Hid (Below w.heap.size w u4) := below_chain HW0.out (below_chain L2.out.bl L4.out.bl)
  have HV : Hid (∀ u, Below u4.heap.size u4 u → (u.cell? ⟨w.heap.size, 0, none⟩ = some (.int .i64 a) ∧ u.cell? ⟨w.heap.size, 1, none⟩ = some (.int .i64 b) ∧ u.cell? ⟨w.heap.size, 2, none⟩ = some (.int .i64 c) ∧ u.cell? ⟨w.heap.size, 3, none⟩ = some (.int .i64 e)) ∧ u.cell? ⟨w.heap.size + 1, 0, none⟩ = some (.int .i64 t) ∧ u.cell? ⟨w.heap.size + 1, 1, none⟩ = some (.slice ao n cap)) := fun u hb => by
    have q := below_chain L2.out.bl (below_chain L4.out.bl hb)
    obtain ⟨v0, v1, v2, v3, _⟩ := newW_boxes4 q
    obtain ⟨_, ⟨y0, y1, _⟩, _⟩ := newW_boxes q
    exact ⟨⟨v0, v1, v2, v3⟩, y0, y1⟩
  have HZ : Hid (w.heap.size < u4.heap.size ∧ w.heap.size + 1 < u4.heap.size) := by
    have q := below_chain L2.out.bl L4.out.bl
    exact ⟨(newW_boxes q).1.2.2.2, (newW_boxes q).2.1.2.2⟩
  have hz1 := HZ.out.1
  have hz2 := HZ.out.2
  refine wp_region_seq (fun u => (u.cell? ⟨w.heap.size, 0, none⟩ = some (.int .i64 a) ∧ u.cell? ⟨w.heap.size, 1, none⟩ = some (.int .i64 b) ∧ u.cell? ⟨w.heap.size, 2, none⟩ = some (.int .i64 c) ∧ u.cell? ⟨w.heap.size, 3, none⟩ = some (.int .i64 e)) ∧ u.cell? ⟨w.heap.size + 1, 0, none⟩ = some (.int .i64 t) ∧ u.cell? ⟨w.heap.size + 1, 1, none⟩ = some (.slice ao n cap)) ((0, true) :: (1, true) :: (2, true) :: (3, true) :: (4, true) :: (5, true) :: (6, true) :: (7, true) :: (8, true) :: (9, true) :: (10, true) :: (11, true) :: (12, false) :: (13, true) :: []) (by kernel_rfl) (by kernel_rfl) (fun _ _ _ _ _ h => h) (HV.out _ ((Same.drew _).below _)) ?_
  repeat (first
    | (refine wpSeq_take (v := ?_) rfl (by rfl) (fun wq hSq => ?_) ?_; rotate_left; (focus ((try dsimp only at hSq); go_simp; try with_reducible rfl)); simp only [Act.put, List.setIfInBounds_toArray, List.set_cons_zero, List.set_cons_succ]))
  refine wpSeq_do rfl (by rfl) (fun KK hK => ?_)
  go_simp
  refine (HMN.out _ _ _ (HU4.out.trans (((Same.drew u4).below u4.heap.size).mono HU4.out.size)) (L4.out.code.on ((Same.drew u4).below u4.heap.size)) ((L2.out.on L4.out.bl).fl.on ((Same.drew u4).below u4.heap.size))).mono ?_
  rintro r v2 ⟨bm, K, rfl, q1, q2⟩
  have HD2 : Hid (Below u4.heap.size u4 v2) := below_chain ((Same.drew u4).below u4.heap.size) q1.fresh
  have G1 := Lib.hid q1
  have G2 := Lib.hid q2
  clear q1 q2
  refine hK.out _ _ (HV.out _ HD2.out) ?_
  clear hK KK
  obtain ⟨⟨v0, v1, v2', v3⟩, y0, y1⟩ := HV.out _ HD2.out
  replace hz1 := Nat.lt_of_lt_of_le hz1 HD2.out.size
  replace hz2 := Nat.lt_of_lt_of_le hz2 HD2.out.size
  try simp only [Act.put, List.setIfInBounds_toArray, List.set_cons_zero, List.set_cons_succ]
  repeat (first
    | (refine wpSeq_take (v := ?_) rfl (by rfl) (fun wq hSq => ?_) ?_; rotate_left; (focus ((try dsimp only at hSq); go_simp; try with_reducible rfl)); simp only [Act.put, List.setIfInBounds_toArray, List.set_cons_zero, List.set_cons_succ]))
  refine wpSeq_nil ?_
  go_wp2_with (go_at_call 21; refine (HRN.out _ (below_chain HU4.out HD2.out)).mono ?_; rintro r v3w ⟨br, bl, pa, ca, rfl, q⟩; obtain ⟨KR, hB⟩ := HBN.out L2.out L4.out (Same.drew u4) G1.out G2.out q; have HB := Lib.hid hB; clear q hB v0 v1 v2' v3 y0 y1)
  clear L2 L4 G1 G2 HMN HRN HBN HD2 HV HZ hz1 hz2 HY HSJ HSF HSI HU4 HLF HLI mF mI HW0
  go_loopw [69] (fun vi wr => ∃ i : Nat, vi = .int .i64 i ∧ i ≤ nn ∧ Hid (Beg w wr bm br bl K KR (w.heap.size + 1 + 1) u2.heap.size kk nn (newM a c e t cs l) cs)) (fun vi _ => nn - (intOf vi).toNat)
  case atStart => exact ⟨0, rfl, Nat.zero_le _, HB⟩
  case round =>
    obtain ⟨i, rfl, hi, HBI⟩ := hrel
    by_cases hlt : i < nn
    · have hlt' : (i : Int) < (nn : Int) := by omega
      obtain ⟨y0, e0, f0⟩ := HBI.out.at2 (i := i * 3) (by omega)
      obtain ⟨y1, e1, f1⟩ := HBI.out.at2 (i := i * 3 + 1) (by omega)
      obtain ⟨y2, e2, f2⟩ := HBI.out.at2 (i := i * 3 + 2) (by omega)
      have HB2 := Lib.hid (((HBI.out.put2 (i * 3) (.int .i64 19)).put2 (i * 3 + 1) (.int .i64 50)).put2 (i * 3 + 2) (.float .f64 0))
      go_wp2
      exact ⟨⟨i + 1, by first | rfl | (congr 1), by omega, HB2⟩, by simp [intOf]; omega⟩
    · have hlt' : ¬ (i : Int) < (nn : Int) := by omega
      go_wp2
      go_loopw [79] (fun vi wr => ∃ i : Nat, vi = .int .i64 i ∧ i ≤ kk ∧ Hid (Beg w wr bm br bl K KR (w.heap.size + 1 + 1) u2.heap.size kk nn (newM a c e t cs l) cs)) (fun vi _ => kk - (intOf vi).toNat)
      case atStart => exact ⟨0, rfl, Nat.zero_le _, HBI⟩
      case round =>
        obtain ⟨j, rfl, hj, HBJ⟩ := hrel
        by_cases hjt : j < kk
        · have hjt' : (j : Int) < (kk : Int) := by omega
          obtain ⟨y0, e0, f0⟩ := HBJ.out.at1 hjt
          have HB2 := Lib.hid (HBJ.out.put1 j (.float .f64 13858561215837503488))
          go_wp2
          exact ⟨⟨j + 1, by first | rfl | (congr 1), by omega, HB2⟩, by simp [intOf]; omega⟩
        · have hjt' : ¬ (j : Int) < (kk : Int) := by omega
          have HP := Lib.hid HBJ.out.pair
          go_wp2
          go_ret2
          exact ⟨_, rfl, bm, br, bl, K, KR, HP.out⟩
set_option maxHeartbeats 400000 in
set_option maxRecDepth 100000 in
theorem begun_none {w : World} {a b c e t : Int} {ao : Option Addr} {cs : List Ins} {n cap : Nat} {po : Option Addr} {l : List Nat} {k co : Nat} (hn : cs.length = n) (hk : l.length = k) (hC : CodeAt w ao cs) (hL : FlAt w po l) (hnb : (n + 2) * 24 ≤ 281474976710656) (hkb : (k + 2) * 8 ≤ 281474976710656) (hno : (Md.cfgB a b c e && decide (k ≤ 8)) = false) :
    Calls Tryz.prog 10 #[cfgV a b c e, .agg #[.int .i64 t, .slice ao n cap], .slice po k co] w fun r w' => r = .returned (.tuple #[.pointer none, .bool true]) ∧ Below w.heap.size w w' := by
  obtain ⟨nn, hnn⟩ : ∃ nn, nn = n + 2 := ⟨_, rfl⟩
  obtain ⟨kk, hkk⟩ : ∃ kk, kk = k + 2 := ⟨_, rfl⟩
  obtain ⟨arrF, sF, mF⟩ := make_room 27 Tryz.underlying27 fInfo k hkk (by rw [hkk]; exact hkb) (by decide)
  obtain ⟨arrI, sI, mI⟩ := make_room 24 Tryz.underlying24 insInfo n hnn (by rw [hnn]; exact hnb) (by decide)
  have HSF : Hid (∀ u, Below w.heap.size w u → Src Tryz.prog 1 27 (.slice po k co) k (fls l) u) := fun u hb => by rw [← hk]; exact src_fl co (hL.on hb)
  have HSI : Hid (∀ u, Below w.heap.size w u → Src Tryz.prog 3 24 (.slice ao n cap) n (cs.flatMap insC) u) := fun u hb => by rw [← hn]; exact src_code cap (hC.on hb)
  have HMN : Hid (∀ u g1 g2, Calls Tryz.prog 20 #[cfgV a b c e, .agg #[.int .i64 t, .slice (some ⟨g2, 0, none⟩) n nn], .slice (some ⟨g1, 0, none⟩) k kk] u fun r w' => r = .returned (.pointer none) ∧ Below u.heap.size u w') := fun u g1 g2 => mnew_nil hno
  have HRN : Hid (∀ u, Calls Tryz.prog 21 #[cfgV a b c e, .agg #[.int .i64 t, .slice ao n cap], .slice po k co] u fun r w' => r = .returned (.pointer none) ∧ Below u.heap.size u w') := fun u => rnew_nil hno
  have HLF : Hid ((fls l).length = k * 1) := by show _ = _; rw [fls_len, hk, Nat.mul_one]
  have HLI : Hid ((cs.flatMap insC).length = n * 3) := by show _ = _; rw [insC_len, hn]
  have HW0 := Lib.hid (newW_below w a b c e t ao n cap)
  have hkn : kk ≤ 9223372036854775807 := by omega
  have hnn9 : nn ≤ 9223372036854775807 := by omega
  have hle1 : (k : Int) ≤ (kk : Int) := by omega
  have hle2 : (n : Int) ≤ (nn : Int) := by omega
  have ew1 : IntKind.i64.wrap ((k : Int) + 2) = (k : Int) + 2 := by rw [IntKind.wrap_i64]; omega
  have ew2 : IntKind.i64.wrap ((n : Int) + 2) = (n : Int) + 2 := by rw [IntKind.wrap_i64]; omega
  have ew3 : wrap64 ((k : Int) + 2) = (k : Int) + 2 := IntWalk.wrap64_in _ (by omega)
  have ew4 : wrap64 ((n : Int) + 2) = (n : Int) + 2 := IntWalk.wrap64_in _ (by omega)
  have HKK := Lib.hid hkk
  have HNN := Lib.hid hnn
  have HAF := Lib.hid sF
  have HAI := Lib.hid sI
  clear hn hk hC hL hnb hkb hnn hkk sF sI hno
  go_enter Tryz.func10, Tryz.ntmps10
  go_wp2_with (first
    | (at_builtin; refine wpList_append_ex (R := fun v u => v = .slice (some ⟨w.heap.size + 1 + 1, 0, none⟩) kk kk ∧ Len (newW w a b c e t ao n cap) u (w.heap.size + 1 + 1) 40 1 k (fls l ++ [.float .f64 4635118810238550016, .float .f64 4635189178982727680])) rfl _ _ _ _ rfl (.slice (some ⟨w.heap.size + 1 + 1, 0, none⟩) k kk) (.slice (some ⟨u1.heap.size, 0, none⟩) 2 2) rfl rfl (by exact len_more (lit := #[.float .f64 4635118810238550016, .float .f64 4635189178982727680]) HKK.out Tryz.underlying27 fInfo L1.out HLF.out (by rfl) (by simp [Value.oneCell']) (by rfl) (by exact Same.refl _)) ?_; rintro v u2 ⟨rfl, q⟩; have L2 := Lib.hid q; obtain ⟨_, ⟨y0, y1, y2⟩, _⟩ := newW_boxes q.bl; clear q L1)
    | (at_builtin; refine wpList_append_ex (R := fun v u => v = .slice (some ⟨w.heap.size + 1 + 1, 0, none⟩) k kk ∧ Len (newW w a b c e t ao n cap) u (w.heap.size + 1 + 1) 40 1 k (fls l)) rfl _ _ _ _ rfl (.slice (some ⟨w.heap.size + 1 + 1, 0, none⟩) 0 kk) (.slice po k co) rfl rfl (by exact len_first (w1 := newW w a b c e t ao n cap) HKK.out Tryz.underlying27 fInfo HAF.out (fun u hb => HSF.out u (below_chain HW0.out hb)) (by exact Same.refl _) _ (by simp)) ?_; rintro v u1 ⟨rfl, q⟩; have L1 := Lib.hid q; clear q))
  have HSJ : Hid (∀ u, Below u2.heap.size u2 u → Src Tryz.prog 3 24 (.slice ao n cap) n (cs.flatMap insC) u) := fun u hb => HSI.out u (below_chain (below_chain HW0.out L2.out.bl) hb)
  have HY : Hid (∀ u, Below u2.heap.size u2 u → u.cell? ⟨w.heap.size + 1, 1, none⟩ = some (.slice ao n cap)) := fun u hb => (newW_boxes (below_chain L2.out.bl hb)).2.1.2.1
  clear y0 y1 y2
  refine wp_region_seq (fun u => u.cell? ⟨w.heap.size + 1, 1, none⟩ = some (.slice ao n cap)) ((0, true) :: (1, true) :: (2, true) :: (3, true) :: (5, true) :: (6, true) :: (4, false) :: (7, false) :: (8, true) :: []) (by kernel_rfl) (by kernel_rfl) (fun _ _ _ _ _ h => h) (HY.out _ ((Same.drew _).below _)) ?_
  repeat (first
    | (refine wpSeq_take (v := ?_) rfl (by rfl) (fun wq hSq => ?_) ?_; rotate_left; (focus ((try dsimp only at hSq); go_simp; try with_reducible rfl)); simp only [Act.put, List.setIfInBounds_toArray, List.set_cons_zero, List.set_cons_succ]))
  refine wpSeq_do rfl (by rfl) (fun KK hK => ?_)
  go_simp
  refine hK.out _ _ (HY.out _ (below_chain ((Same.drew _).below _) (below_alloc _ _))) ?_
  clear hK KK
  try simp only [Act.put, List.setIfInBounds_toArray, List.set_cons_zero, List.set_cons_succ]
  refine wpSeq_do rfl (by rfl) (fun KK hK => ?_)
  refine wp_append_ex (R := fun v u => v = .slice (some ⟨u2.heap.size, 0, none⟩) n nn ∧ Len u2 u u2.heap.size 63 3 n (cs.flatMap insC)) _ _ _ _ rfl (.slice (some ⟨u2.heap.size, 0, none⟩) 0 nn) (.slice ao n cap) rfl rfl (by exact len_first (w1 := u2) HNN.out Tryz.underlying24 insInfo HAI.out HSJ.out (by exact ⟨rfl, rfl, rfl, rfl⟩) _ rfl) ?_
  rintro v u3 ⟨rfl, q⟩
  have L3 := Lib.hid q
  clear q
  refine hK.out _ _ (HY.out _ L3.out.bl) ?_
  clear hK KK
  try simp only [Act.put, List.setIfInBounds_toArray, List.set_cons_zero, List.set_cons_succ]
  repeat (first
    | (refine wpSeq_take (v := ?_) rfl (by rfl) (fun wq hSq => ?_) ?_; rotate_left; (focus ((try dsimp only at hSq); go_simp; try with_reducible rfl)); simp only [Act.put, List.setIfInBounds_toArray, List.set_cons_zero, List.set_cons_succ]))
  refine wpSeq_nil ?_
  go_wp2_with (at_builtin; refine wpList_append_ex (R := fun v u => v = .slice (some ⟨u2.heap.size, 0, none⟩) nn nn ∧ Len u2 u u2.heap.size 63 3 n (cs.flatMap insC ++ [.int .i64 77, .int .i64 0, .float .f64 0, .int .i64 78, .int .i64 0, .float .f64 0])) rfl _ _ _ _ rfl (.slice (some ⟨u2.heap.size, 0, none⟩) n nn) (.slice (some ⟨u3.heap.size, 0, none⟩) 2 2) rfl rfl (by exact len_more (lit := #[.int .i64 77, .int .i64 0, .float .f64 0, .int .i64 78, .int .i64 0, .float .f64 0]) HNN.out Tryz.underlying24 insInfo L3.out HLI.out (by rfl) (by simp [Value.oneCell']) (by rfl) (by exact Same.refl _)) ?_; rintro v u4 ⟨rfl, q⟩; have L4 := Lib.hid q; clear q L3)
  have HU4 : Hid (Below w.heap.size w u4) := below_chain HW0.out (below_chain L2.out.bl L4.out.bl)
  have HV : Hid (∀ u, Below u4.heap.size u4 u → (u.cell? ⟨w.heap.size, 0, none⟩ = some (.int .i64 a) ∧ u.cell? ⟨w.heap.size, 1, none⟩ = some (.int .i64 b) ∧ u.cell? ⟨w.heap.size, 2, none⟩ = some (.int .i64 c) ∧ u.cell? ⟨w.heap.size, 3, none⟩ = some (.int .i64 e)) ∧ u.cell? ⟨w.heap.size + 1, 0, none⟩ = some (.int .i64 t) ∧ u.cell? ⟨w.heap.size + 1, 1, none⟩ = some (.slice ao n cap)) := fun u hb => by
    have q := below_chain L2.out.bl (below_chain L4.out.bl hb)
    obtain ⟨v0, v1, v2, v3, _⟩ := newW_boxes4 q
    obtain ⟨_, ⟨y0, y1, _⟩, _⟩ := newW_boxes q
    exact ⟨⟨v0, v1, v2, v3⟩, y0, y1⟩
  have HZ : Hid (w.heap.size < u4.heap.size ∧ w.heap.size + 1 < u4.heap.size) := by
    have q := below_chain L2.out.bl L4.out.bl
    exact ⟨(newW_boxes q).1.2.2.2, (newW_boxes q).2.1.2.2⟩
  have hz1 := HZ.out.1
  have hz2 := HZ.out.2
  refine wp_region_seq (fun u => (u.cell? ⟨w.heap.size, 0, none⟩ = some (.int .i64 a) ∧ u.cell? ⟨w.heap.size, 1, none⟩ = some (.int .i64 b) ∧ u.cell? ⟨w.heap.size, 2, none⟩ = some (.int .i64 c) ∧ u.cell? ⟨w.heap.size, 3, none⟩ = some (.int .i64 e)) ∧ u.cell? ⟨w.heap.size + 1, 0, none⟩ = some (.int .i64 t) ∧ u.cell? ⟨w.heap.size + 1, 1, none⟩ = some (.slice ao n cap)) ((0, true) :: (1, true) :: (2, true) :: (3, true) :: (4, true) :: (5, true) :: (6, true) :: (7, true) :: (8, true) :: (9, true) :: (10, true) :: (11, true) :: (12, false) :: (13, true) :: []) (by kernel_rfl) (by kernel_rfl) (fun _ _ _ _ _ h => h) (HV.out _ ((Same.drew _).below _)) ?_
  repeat (first
    | (refine wpSeq_take (v := ?_) rfl (by rfl) (fun wq hSq => ?_) ?_; rotate_left; (focus ((try dsimp only at hSq); go_simp; try with_reducible rfl)); simp only [Act.put, List.setIfInBounds_toArray, List.set_cons_zero, List.set_cons_succ]))
  refine wpSeq_do rfl (by rfl) (fun KK hK => ?_)
  go_simp
  refine (HMN.out _ _ _).mono ?_
  rintro r v2 ⟨rfl, q1⟩
  have HD2 : Hid (Below u4.heap.size u4 v2) := below_chain ((Same.drew u4).below u4.heap.size) q1
  clear q1
  refine hK.out _ _ (HV.out _ HD2.out) ?_
  clear hK KK
  obtain ⟨⟨v0, v1, v2', v3⟩, y0, y1⟩ := HV.out _ HD2.out
  replace hz1 := Nat.lt_of_lt_of_le hz1 HD2.out.size
  replace hz2 := Nat.lt_of_lt_of_le hz2 HD2.out.size
  try simp only [Act.put, List.setIfInBounds_toArray, List.set_cons_zero, List.set_cons_succ]
  repeat (first
    | (refine wpSeq_take (v := ?_) rfl (by rfl) (fun wq hSq => ?_) ?_; rotate_left; (focus ((try dsimp only at hSq); go_simp; try with_reducible rfl)); simp only [Act.put, List.setIfInBounds_toArray, List.set_cons_zero, List.set_cons_succ]))
  refine wpSeq_nil ?_
  go_wp2_with (go_at_call 21; refine (HRN.out _).mono ?_; rintro r v3w ⟨rfl, q⟩; have HB := Lib.hid (below_chain (below_chain HU4.out HD2.out) q); clear q v0 v1 v2' v3 y0 y1)
  go_ret2
  exact ⟨rfl, HB.out⟩
end Go.Proofs.YtjicnjncdmknmaaGreatDoor
