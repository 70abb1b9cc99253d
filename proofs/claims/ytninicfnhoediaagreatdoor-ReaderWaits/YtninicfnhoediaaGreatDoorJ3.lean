import Derived.Test.YtninicfnhoediaaGreatDoorJ2
import Derived.Maps.AppendAt
import Derived.Test.YtninicfnhoediaaGreatDoorSq
import Derived.Deep.CutBlock
import Derived.Deep.DeepCutAuto
namespace Go.Proofs.YtninicfnhoediaaGreatDoor.Rr
open Go.ChangeShapes Go.WideShapes Go.ChangeAt Go.RowKit Num
attribute [local go_sem] run_store_float

/-! a deed: where its lists lie -/
structure Dd where
  pa : Option Addr
  ca : Nat
  pr : Option Addr
  cr : Nat
  pw : Option Addr
  cw : Nat
  po : Option Addr
  co : Nat
structure DdAt (w : World) (B : Nat) (D : Dd) (args : List Nat) (m : Mac) : Prop where
  a : RowAt 71 w D.pa D.ca (fls args)
  r : TRow w D.pr D.cr m.reads
  wr : TRow w D.pw D.cw m.buf
  o : RowAt 71 w D.po D.co (fls m.out)
  xa : Abv B (fpR D.pa)
  xr : Abv B (fpR D.pr)
  xw : Abv B (fpR D.pw)
  xo : Abv B (fpR D.po)
theorem DdAt.on {w w' : World} {B : Nat} {D : Dd} {args : List Nat} {m : Mac} (h : DdAt w B D args m) (k : Below w.heap.size w w') : DdAt w' B D args m := ⟨h.a.on k, h.r.on k, h.wr.on k, h.o.on k, h.xa, h.xr, h.xw, h.xo⟩
theorem DdAt.keep {w w' : World} {B : Nat} {D : Dd} {args : List Nat} {m : Mac} (h : DdAt w B D args m) (k : ∀ i, B ≤ i → i < w.heap.size → w'.heap[i]? = w.heap[i]?) (hs : w.heap.size ≤ w'.heap.size) : DdAt w' B D args m :=
  ⟨h.a.keep ⟨hs, fun i hi => k i (h.xa i hi) (h.a.blw i hi)⟩, h.r.keep ⟨hs, fun i hi => k i (h.xr i hi) (h.r.blw i hi)⟩, h.wr.keep ⟨hs, fun i hi => k i (h.xw i hi) (h.wr.blw i hi)⟩, h.o.keep ⟨hs, fun i hi => k i (h.xo i hi) (h.o.blw i hi)⟩, h.xa, h.xr, h.xw, h.xo⟩
theorem DdAt.mono {w : World} {B B' : Nat} {D : Dd} {args : List Nat} {m : Mac} (h : DdAt w B D args m) (k : B' ≤ B) : DdAt w B' D args m := ⟨h.a, h.r, h.wr, h.o, h.xa.mono k, h.xr.mono k, h.xw.mono k, h.xo.mono k⟩
abbrev dC (t : Int) (na : Nat) (m : Mac) (D : Dd) (mark e0 e1 e2 st : Int) : Array Value := #[.int .i64 0, .int .i64 0, .int .i64 0, .int .i64 t, .slice D.pa na D.ca, .int .i64 mark, .int .i64 0, .slice D.pr m.reads.length D.cr, .slice D.pw m.buf.length D.cw, .slice D.po m.out.length D.co, .int .i64 e0, .int .i64 e1, .int .i64 e2, .int .i64 0, .int .i64 0, .int .i64 st, .int .i64 0, .int .i64 0, .int .i64 0]
abbrev dZ : Obj := .cells #[.int .i64 0, .int .i64 0, .int .i64 0, .int .i64 0, .slice none 0 0, .int .i64 0, .int .i64 0, .slice none 0 0, .slice none 0 0, .slice none 0 0, .int .i64 0, .int .i64 0, .int .i64 0, .int .i64 0, .int .i64 0, .int .i64 0, .int .i64 0, .int .i64 0, .int .i64 0] 61
theorem deed_back {fn : Func} {p : Tmp} (h : fn.results = #[.cell p 61]) {R : Ending → World → Prop} {a : Act} {w : World} (g : Nat) {t : Int} {na : Nat} {m : Mac} {D : Dd} {mark e0 e1 e2 st : Int} (hp : a.tmps.getD p undef = .pointer (some ⟨g, 0, none⟩))
    (hg : w.heap[g]? = some (.cells (dC t na m D mark e0 e1 e2 st) 61 (0, 0))) (hd : a.defers = []) (hR : R (.returned (.agg (dC t na m D mark e0 e1 e2 st))) w) : bodyPost Tryz.prog fn R .ret a w :=
  bodyPost_ret (results_cell_row h _ _ g _ _ _ _ hp hg Tryz.underlying61 rfl (by kernel_rfl)) hd hR
theorem deedInfo : (Tryz.prog.info? 61).map (·.size) = some 19 := by kernel_rfl
theorem deed_one (t : Int) (na : Nat) (m : Mac) (D : Dd) (mark e0 e1 e2 st : Int) : (dC t na m D mark e0 e1 e2 st).all (·.oneCell') = true := by simp [Value.oneCell']
section
variable {w : World} {b : Nat} {x : Rx} {z : Rz} {q : Option Nat} {F : List Nat} {c : Md.Cv.Cs} {r : Md.Ce.Rd}
set_option maxRecDepth 100000 in
set_option maxHeartbeats 2000000 in
theorem deed_any (h : RawAt w b x z q F c r) (hI : Inv x.m) (hf : x.args.length ≤ 8) {na : Nat} (hna : x.args.length = na) {m : Mac} (hm : x.m = m) : Calls Tryz.prog 50 #[.pointer (some ⟨b, 0, none⟩)] w fun e w' => ∃ D, e = .returned (.agg (dC x.tag na m D 0 0 0 0 x.steps)) ∧ DdAt w' w.heap.size D x.args m ∧ Below w.heap.size w w' := by
  subst hm hna
  have ho := hI.out
  have hr := hI.reads
  have hu := hI.used
  have hfu := hI.fuel
  have hw0 : (x.m.reads.length : Int) ≤ 1024 := by split at hr <;> omega
  have HC : Hid (∀ u, Below w.heap.size w u → Calls Tryz.prog 91 #[.slice z.pa x.args.length z.ca] u fun e w' => ∃ p' c', e = .returned (.slice p' x.args.length c') ∧ RowAt 71 w' p' c' (fls x.args) ∧ Abv u.heap.size (fpR p') ∧ Below u.heap.size u w') := fun u hu => cloneOut (h.on hu).arg rfl (by omega)
  have HR : Hid (∀ u, Below w.heap.size w u → Calls Tryz.prog 92 #[.pointer (some ⟨z.bm, 0, none⟩)] u fun e w' => ∃ p' c', e = .returned (.slice p' x.m.reads.length c') ∧ TRow w' p' c' x.m.reads ∧ Abv u.heap.size (fpR p') ∧ Below u.heap.size u w') := fun u hu => reads_any (h.on hu).mac.gm (by omega)
  have HWR : Hid (∀ u, Below w.heap.size w u → Calls Tryz.prog 68 #[.pointer (some ⟨z.bm, 0, none⟩)] u fun e w' => e = .returned (.slice (some ⟨u.heap.size, 0, none⟩) x.m.buf.length x.m.buf.length) ∧ TRow w' (some ⟨u.heap.size, 0, none⟩) x.m.buf.length x.m.buf ∧ Below u.heap.size u w') := fun u hu => writes_any (h.on hu).mac.gm
  have HOU : Hid (∀ u, Below w.heap.size w u → Calls Tryz.prog 93 #[.pointer (some ⟨z.bm, 0, none⟩)] u fun e w' => ∃ p' c', e = .returned (.slice p' x.m.out.length c') ∧ RowAt 71 w' p' c' (fls x.m.out) ∧ Abv u.heap.size (fpR p') ∧ Below u.heap.size u w') := fun u hu => out_any (h.on hu).mac.gm (by omega)
  have HB : Hid (∀ u, Below w.heap.size w u → u.cell? ⟨b, 6, none⟩ = some (.pointer (some ⟨z.bm, 0, none⟩)) ∧ u.cell? ⟨b, 7, none⟩ = some (.int .i64 x.steps) ∧ u.cell? ⟨b, 8, none⟩ = some (.int .i64 x.tag) ∧ u.cell? ⟨b, 9, none⟩ = some (.slice z.pa x.args.length z.ca) ∧ b < u.heap.size) := fun u hu => ⟨((h.on hu).cell 6).trans rfl, ((h.on hu).cell 7).trans rfl, ((h.on hu).cell 8).trans rfl, ((h.on hu).cell 9).trans rfl, (h.on hu).ltB⟩
  clear h hI hf ho hr hu hfu hw0
  have H0 : Hid (Below w.heap.size w (w.alloc dZ) ∧ (w.alloc dZ).heap[w.heap.size]? = some dZ) := ⟨below_alloc _ _, heap_alloc_new _ _⟩
  obtain ⟨e6, e7, e8, e9, eb⟩ := HB.out _ H0.out.1
  go_enter Tryz.func50, Tryz.ntmps50
  go_wp2_with fail
  obtain ⟨w1, hw1⟩ : ∃ w1, w1 = w.alloc dZ := ⟨_, rfl⟩
  rw [← hw1] at H0 e6 e7 e8 e9 eb
  rw [show w.alloc (.cells #[.int .i64 0, .int .i64 0, .int .i64 0, .int .i64 0, .slice none 0 0, .int .i64 0, .int .i64 0, .slice none 0 0, .slice none 0 0, .slice none 0 0, .int .i64 0, .int .i64 0, .int .i64 0, .int .i64 0, .int .i64 0, .int .i64 0, .int .i64 0, .int .i64 0, .int .i64 0] 61) = w1 from hw1.symm]
  clear hw1
  refine wp_region_seq (fun u => u.cell? ⟨b, 6, none⟩ = some (.pointer (some ⟨z.bm, 0, none⟩)) ∧ u.cell? ⟨b, 7, none⟩ = some (.int .i64 x.steps) ∧ u.cell? ⟨b, 8, none⟩ = some (.int .i64 x.tag) ∧ u.cell? ⟨b, 9, none⟩ = some (.slice z.pa x.args.length z.ca) )  ((0, true) :: (1, true) :: (2, true) :: (3, true) :: (4, true) :: (5, true) :: (6, true) :: (7, true) :: (9, true) :: (10, true) :: (11, true) :: (12, true) :: (14, true) :: (15, true) :: (16, true) :: (17, true) :: (19, true) :: (20, true) :: (21, true) :: (22, true) :: (24, true) :: (25, true) :: (26, true) :: (27, true) :: (8, false) :: (13, false) :: (18, false) :: (23, false) :: (28, true) :: (29, false) :: [])  Md.Cv.follows13 (by kernel_rfl) (fun _ _ _ _ _ h => h)  ⟨e6, e7, e8, e9⟩ ?_
  (repeat (first | (refine wpSeq_take (v := ?_) rfl (by rfl) (fun wq hSq => ?_) ?_; rotate_left; (focus ((try dsimp only at hSq); go_simp; try with_reducible rfl)); simp only [Act.put, List.setIfInBounds_toArray, List.set_cons_zero, List.set_cons_succ]) | (refine wpSeq_skip rfl (by rfl) ?_; simp only [Act.put, List.setIfInBounds_toArray, List.set_cons_zero, List.set_cons_succ])))
  (refine wpSeq_do rfl (by rfl) (fun KK hK => ?_); go_simp)
  refine (HC.out _ (H0.out.1.trans ((Same.drew w1).below _))).mono ?_
  rintro e u2 ⟨p2, c2, rfl, a1, a2, a3⟩
  have A2 : Hid (RowAt 71 u2 p2 c2 (fls x.args) ∧ Abv w1.heap.size (fpR p2) ∧ Below w1.heap.size w1 u2 ∧ Below w.heap.size w u2) := ⟨a1, a2, ((Same.drew w1).below _).trans a3, (H0.out.1.trans ((Same.drew w1).below _)).trans (a3.mono H0.out.1.size)⟩
  clear a1 a2 a3
  obtain ⟨s6, s7, s8, s9, _⟩ := HB.out _ A2.out.2.2.2
  refine hK.out _ _ ⟨s6, s7, s8, s9⟩ ?_
  (clear hK KK; try simp only [Act.put, List.setIfInBounds_toArray, List.set_cons_zero, List.set_cons_succ])
  (refine wpSeq_do rfl (by rfl) (fun KK hK => ?_); go_simp)
  refine (HR.out _ A2.out.2.2.2).mono ?_
  rintro e u3 ⟨p3, c3, rfl, a1, a2, a3⟩
  have A3 : Hid (TRow u3 p3 c3 x.m.reads ∧ Abv w1.heap.size (fpR p3) ∧ Below u2.heap.size u2 u3 ∧ Below w1.heap.size w1 u3 ∧ Below w.heap.size w u3) := ⟨a1, a2.mono A2.out.2.2.1.size, a3, A2.out.2.2.1.trans (a3.mono A2.out.2.2.1.size), A2.out.2.2.2.trans (a3.mono A2.out.2.2.2.size)⟩
  clear a1 a2 a3 s6 s7 s8 s9
  obtain ⟨s6, s7, s8, s9, _⟩ := HB.out _ A3.out.2.2.2.2
  refine hK.out _ _ ⟨s6, s7, s8, s9⟩ ?_
  (clear hK KK; try simp only [Act.put, List.setIfInBounds_toArray, List.set_cons_zero, List.set_cons_succ])
  (refine wpSeq_do rfl (by rfl) (fun KK hK => ?_); go_simp)
  refine (HWR.out _ A3.out.2.2.2.2).mono ?_
  rintro e u4 ⟨rfl, a1, a3⟩
  have A4 : Hid (TRow u4 (some ⟨u3.heap.size, 0, none⟩) x.m.buf.length x.m.buf ∧ Abv w1.heap.size (fpR (some ⟨u3.heap.size, 0, none⟩)) ∧ Below u3.heap.size u3 u4 ∧ Below w1.heap.size w1 u4 ∧ Below w.heap.size w u4) := ⟨a1, (fun i hi => by have := A3.out.2.2.2.1.size; simp [fpR] at hi; omega), a3, A3.out.2.2.2.1.trans (a3.mono A3.out.2.2.2.1.size), A3.out.2.2.2.2.trans (a3.mono A3.out.2.2.2.2.size)⟩
  clear a1 a3 s6 s7 s8 s9
  obtain ⟨s6, s7, s8, s9, _⟩ := HB.out _ A4.out.2.2.2.2
  refine hK.out _ _ ⟨s6, s7, s8, s9⟩ ?_
  (clear hK KK; try simp only [Act.put, List.setIfInBounds_toArray, List.set_cons_zero, List.set_cons_succ])
  (refine wpSeq_do rfl (by rfl) (fun KK hK => ?_); go_simp)
  refine (HOU.out _ A4.out.2.2.2.2).mono ?_
  rintro e u5 ⟨p5, c5, rfl, a1, a2, a3⟩
  have A5 : Hid (RowAt 71 u5 p5 c5 (fls x.m.out) ∧ Abv w1.heap.size (fpR p5) ∧ Below u4.heap.size u4 u5 ∧ Below w1.heap.size w1 u5 ∧ Below w.heap.size w u5) := ⟨a1, a2.mono A4.out.2.2.2.1.size, a3, A4.out.2.2.2.1.trans (a3.mono A4.out.2.2.2.1.size), A4.out.2.2.2.2.trans (a3.mono A4.out.2.2.2.2.size)⟩
  clear a1 a2 a3 s6 s7 s8 s9
  obtain ⟨s6, s7, s8, s9, sb⟩ := HB.out _ A5.out.2.2.2.2
  have HZ5 : Hid (u5.heap[w.heap.size]? = some dZ) := (A5.out.2.2.2.1.block _ (lt_of_block H0.out.2)).trans H0.out.2
  have HDD : Hid (DdAt u5 w1.heap.size ⟨p2, c2, p3, c3, some ⟨u3.heap.size, 0, none⟩, x.m.buf.length, p5, c5⟩ x.args x.m) := by
    have b5 := A5.out.2.2.1
    have b4 := A4.out.2.2.1.trans (b5.mono A4.out.2.2.1.size)
    have b3 := A3.out.2.2.1.trans (b4.mono A3.out.2.2.1.size)
    exact ⟨A2.out.1.on b3, A3.out.1.on b4, A4.out.1.on b5, A5.out.1, A2.out.2.1, A3.out.2.1, A4.out.2.1, A5.out.2.1⟩
  have HNE := Lib.hid (show b ≠ w.heap.size ∧ w.heap.size < w1.heap.size from ⟨fun y => by have := (HB.out w (Below.refl _ _)).2.2.2.2; omega, lt_of_block H0.out.2⟩)
  refine hK.out _ _ ⟨s6, s7, s8, s9⟩ ?_
  (clear hK KK; try simp only [Act.put, List.setIfInBounds_toArray, List.set_cons_zero, List.set_cons_succ])
  (repeat (first | (refine wpSeq_take (v := ?_) rfl (by rfl) (fun wq hSq => ?_) ?_; rotate_left; (focus ((try dsimp only at hSq); go_simp; try with_reducible rfl)); simp only [Act.put, List.setIfInBounds_toArray, List.set_cons_zero, List.set_cons_succ]) | (refine wpSeq_skip rfl (by rfl) ?_; simp only [Act.put, List.setIfInBounds_toArray, List.set_cons_zero, List.set_cons_succ])))
  refine wpSeq_do rfl (by rfl) (fun KK hK => ?_)
  refine wp_store_row 61 _ _ rfl w.heap.size (dC x.tag x.args.length x.m ⟨p2, c2, p3, c3, some ⟨u3.heap.size, 0, none⟩, x.m.buf.length, p5, c5⟩ 0 0 0 0 x.steps) rfl rfl _ _ HZ5.out deedInfo rfl (deed_one _ _ _ _ _ _ _ _ _) ?_
  have O : ∀ j, (u5.setRow w.heap.size (dC x.tag x.args.length x.m ⟨p2, c2, p3, c3, some ⟨u3.heap.size, 0, none⟩, x.m.buf.length, p5, c5⟩ 0 0 0 0 x.steps)).cell? ⟨b, j, none⟩ = u5.cell? ⟨b, j, none⟩ := fun j => cell_setRow_other _ _ _ _ HNE.out.1
  refine hK.out _ _ ⟨(O 6).trans s6, (O 7).trans s7, (O 8).trans s8, (O 9).trans s9⟩ ?_
  clear O
  (clear hK KK; try simp only [Act.put])
  refine wpSeq_nil ?_
  go_wp2_with fail
  refine deed_back (D := ⟨p2, c2, p3, c3, some ⟨u3.heap.size, 0, none⟩, x.m.buf.length, p5, c5⟩) (m := x.m) rfl w.heap.size rfl (setRow_heap _ _ _ _ _ _ HZ5.out) rfl ⟨_, rfl, ?_, Md.Ce.bl_setRow A5.out.2.2.2.2 (Nat.le_refl _) _⟩
  exact (HDD.out.keep (fun i hi hl => setRow_other _ _ _ _ (by have := HNE.out.2; omega)) (by simp)).mono (by have := HNE.out.2; omega)
theorem over_raw (h : RawAt w b x z q F c r) : Calls Tryz.prog 40 #[.pointer (some ⟨b, 0, none⟩)] w fun e w' => e = .returned (.bool (decide ((x.part : Int) = 4))) ∧ w' = w := by
  have h11 : w.cell? ⟨b, 11, none⟩ = some (.int .i64 (x.part : Int)) := (h.cell 11).trans rfl
  have hb := h.ltB
  clear h
  go_enter Tryz.func40, Tryz.ntmps40
  go_wp2
  go_ret
  exact ⟨rfl, rfl⟩
theorem phase_raw (h : RawAt w b x z q F c r) : Calls Tryz.prog 18 #[.pointer (some ⟨b, 0, none⟩)] w fun e w' => e = .returned (.int .i64 (x.part : Int)) ∧ w' = w := by
  have h11 : w.cell? ⟨b, 11, none⟩ = some (.int .i64 (x.part : Int)) := (h.cell 11).trans rfl
  have hb := h.ltB
  clear h
  go_enter Tryz.func18, Tryz.ntmps18
  go_wp2
  go_ret
  exact ⟨rfl, rfl⟩
/-- its mark, its end -/
def markV (x : Rx) : Int := if x.part = 1 then -1 else wrap64 x.stamp
def endI (x : Rx) (v : Int) : Int := if x.part = 4 then v else 0
set_option maxRecDepth 100000 in
theorem mark_any (h : RawAt w b x z q F (comC x) r) {mk : Int} (hk : markV x = mk) : Calls Tryz.prog 51 #[.pointer (some ⟨b, 0, none⟩)] w fun e w' => e = .returned (.int .i64 mk) ∧ w' = w := by
  have h11 : w.cell? ⟨b, 11, none⟩ = some (.int .i64 (x.part : Int)) := (h.cell 11).trans rfl
  have h12 : w.cell? ⟨b, 12, none⟩ = some (.pointer (some ⟨z.xc, 0, none⟩)) := (h.cell 12).trans rfl
  have hb := h.ltB
  have HS := Lib.hid (Md.Cv.stampC_any h.com)
  unfold comC at HS
  dsimp only at HS
  unfold markV at hk
  clear h
  by_cases e : x.part = 1
  · rw [if_pos e] at hk
    subst hk
    rw [e] at h11
    go_enter Tryz.func51, Tryz.ntmps51
    go_wp2
    go_ret
    exact ⟨rfl, rfl⟩
  · rw [if_neg e] at hk
    subst hk
    have e' : ((x.part : Int) == 1) = false := by simp; omega
    clear e
    go_enter Tryz.func51, Tryz.ntmps51
    go_wp2_with (go_at_call 94; refine HS.out.mono ?_; rintro e w1 ⟨rfl, hw⟩; subst w1)
    go_ret
    exact ⟨rfl, rfl⟩
theorem deed_boxed {w u1 : World} {D : Dd} {args : List Nat} {m : Mac} {t : Int} {na : Nat} {mk st : Int} (h : DdAt u1 (w.heap.size + 1) D args m) (hb : Below w.heap.size w u1) (hz : u1.heap[w.heap.size]? = some dZ) : Below w.heap.size w (u1.alloc (.cells (dC t na m D mk 0 0 0 st) 61)) ∧ (u1.alloc (.cells (dC t na m D mk 0 0 0 st) 61)).heap[u1.heap.size]? = some (.cells (dC t na m D mk 0 0 0 st) 61) ∧ (u1.alloc (.cells (dC t na m D mk 0 0 0 st) 61)).heap[w.heap.size]? = some dZ ∧ DdAt (u1.alloc (.cells (dC t na m D mk 0 0 0 st) 61)) (w.heap.size + 1) D args m :=
  ⟨hb.alloc hb.size _, heap_alloc_new _ _, heap_old hz, h.on (below_alloc _ _)⟩
theorem end_set {u4 : World} {g : Nat} {D : Dd} {m : Mac} {t : Int} {na : Nat} {mk st : Int} (h : u4.heap[g]? = some (.cells (dC t na m D mk 0 0 0 st) 61)) : (((u4.setCell ⟨g, 10, none⟩ (.int .i64 m.how)).setCell ⟨g, 11, none⟩ (.int .i64 m.cod)).setCell ⟨g, 12, none⟩ (.int .i64 m.err)).heap[g]? = some (.cells (dC t na m D mk m.how m.cod m.err st) 61) := by
  have a1 := (heap_setCell_same u4 g 10 _ _ (.int .i64 m.how) h).trans (show _ = some (Obj.cells (dC t na m D mk m.how 0 0 st) 61) from rfl)
  have a2 := (heap_setCell_same _ g 11 _ _ (.int .i64 m.cod) a1).trans (show _ = some (Obj.cells (dC t na m D mk m.how m.cod 0 st) 61) from rfl)
  exact (heap_setCell_same _ g 12 _ _ (.int .i64 m.err) a2).trans (show _ = some (Obj.cells (dC t na m D mk m.how m.cod m.err st) 61) from rfl)
theorem end_oth {u4 : World} {g y : Nat} {o : Obj} (h : u4.heap[y]? = some o) (hn : y ≠ g) (a b c : Int) : (((u4.setCell ⟨g, 10, none⟩ (.int .i64 a)).setCell ⟨g, 11, none⟩ (.int .i64 b)).setCell ⟨g, 12, none⟩ (.int .i64 c)).heap[y]? = some o := (heap_setCell_other _ _ _ _ hn).trans ((heap_setCell_other _ _ _ _ hn).trans ((heap_setCell_other _ _ _ _ hn).trans h))
set_option maxRecDepth 100000 in
set_option maxHeartbeats 2000000 in
theorem Deed_any (h : RawAt w b x z q F (comC x) r) (hI : In0 x) {na : Nat} (hna : x.args.length = na) {m : Mac} (hm : x.m = m) {mk e0 e1 e2 : Int} (hk : markV x = mk) (h0 : endI x m.how = e0) (h1 : endI x m.cod = e1) (h2 : endI x m.err = e2) : Calls Tryz.prog 20 #[.pointer (some ⟨b, 0, none⟩)] w fun e w' => ∃ D, e = .returned (.agg (dC x.tag na m D mk e0 e1 e2 x.steps)) ∧ DdAt w' w.heap.size D x.args m ∧ Below w.heap.size w w' := by
  have HD : Hid (∀ u, Below w.heap.size w u → Calls Tryz.prog 50 #[.pointer (some ⟨b, 0, none⟩)] u fun e w' => ∃ D, e = .returned (.agg (dC x.tag na m D 0 0 0 0 x.steps)) ∧ DdAt w' u.heap.size D x.args m ∧ Below u.heap.size u w') := fun u hu => deed_any (h.on hu) hI.inv hI.few hna hm
  have HM : Hid (∀ u, Below w.heap.size w u → Calls Tryz.prog 51 #[.pointer (some ⟨b, 0, none⟩)] u fun e w' => e = .returned (.int .i64 mk) ∧ w' = u) := fun u hu => mark_any (h.on hu) hk
  have HO : Hid (∀ u, Below w.heap.size w u → Calls Tryz.prog 40 #[.pointer (some ⟨b, 0, none⟩)] u fun e w' => e = .returned (.bool (decide ((x.part : Int) = 4))) ∧ w' = u) := fun u hu => over_raw (h.on hu)
  have HE : Hid (∀ u, Below w.heap.size w u → Calls Tryz.prog 52 #[.pointer (some ⟨z.bm, 0, none⟩)] u fun e w' => e = .returned (.agg #[.int .i64 m.how, .int .i64 m.cod, .int .i64 m.err]) ∧ Below u.heap.size u w') := fun u hu => by
    have := end_any (h.on hu).mac.gm
    rwa [hm] at this
  have HB : Hid (∀ u, Below w.heap.size w u → u.cell? ⟨b, 6, none⟩ = some (.pointer (some ⟨z.bm, 0, none⟩)) ∧ b < u.heap.size) := fun u hu => ⟨((h.on hu).cell 6).trans rfl, (h.on hu).ltB⟩
  have hb := h.ltB
  have HL : Hid (b < w.heap.size) := hb
  have H0 : Hid (Below w.heap.size w (w.alloc dZ) ∧ (w.alloc dZ).heap[w.heap.size]? = some dZ) := ⟨below_alloc _ _, heap_alloc_new _ _⟩
  have hb1 := (HB.out _ H0.out.1).2
  unfold endI at h0 h1 h2
  clear h hI hna hm hk
  by_cases p4 : x.part = 4
  · rw [if_pos p4] at h0 h1 h2
    subst h0 h1 h2
    rw [decide_eq_true (by omega)] at HO
    clear p4
    go_enter Tryz.func20, Tryz.ntmps20
    go_wp2_with (first
      | (refine wpList_store_row rfl 61 _ _ rfl w.heap.size (dC x.tag na m D mk m.how m.cod m.err x.steps) rfl rfl _ _ Y6.out deedInfo rfl (deed_one _ _ _ _ _ _ _ _ _) ?_)
      | (refine wpList_load_row rfl 61 _ rfl u1.heap.size rfl _ (dC x.tag na m D mk m.how m.cod m.err x.steps) _ _ X6.out Tryz.underlying61 rfl deedInfo ?_)
      | (go_at_call 52; refine (HE.out _ B3.out.1).mono ?_; rintro e u4 ⟨rfl, q⟩; have X4 : Hid (u4.heap[u1.heap.size]? = some (.cells (dC x.tag na m D mk 0 0 0 x.steps) 61)) := (q.block _ (lt_of_block B3.out.2.1)).trans B3.out.2.1; have Y4 : Hid (u4.heap[w.heap.size]? = some dZ) := (q.block _ (lt_of_block B3.out.2.2.1)).trans B3.out.2.2.1; have B5 : Hid (Below w.heap.size w u4 ∧ DdAt u4 (w.heap.size + 1) D x.args m) := ⟨B3.out.1.trans (q.mono B3.out.1.size), B3.out.2.2.2.on q⟩; have W4 : Hid (Below u1.heap.size u1 u4) := (below_alloc u1 _).trans (q.mono (by simp)); have k10 : u4.cell? ⟨u1.heap.size, 10, none⟩ = some (.int .i64 0) := (cell_of_row _ _ 10 _ _ _ X4.out).trans rfl; have k11 : u4.cell? ⟨u1.heap.size, 11, none⟩ = some (.int .i64 0) := (cell_of_row _ _ 11 _ _ _ X4.out).trans rfl; have k12 : u4.cell? ⟨u1.heap.size, 12, none⟩ = some (.int .i64 0) := (cell_of_row _ _ 12 _ _ _ X4.out).trans rfl; have f10 := frozen_of_row u4 u1.heap.size 10 _ _ X4.out; have f11 := frozen_of_row u4 u1.heap.size 11 _ _ X4.out; have f12 := frozen_of_row u4 u1.heap.size 12 _ _ X4.out; have l4 := lt_of_block X4.out; have X6 := Lib.hid (end_set X4.out); have Y6 := Lib.hid (end_oth Y4.out (show w.heap.size ≠ u1.heap.size from fun e => by have := lt_of_block A1.out.2.2.2; omega) m.how m.cod m.err); clear q)
      | (go_at_call 40; refine (HO.out _ B3.out.1).mono ?_; rintro e u3 ⟨rfl, hw⟩; subst u3; obtain ⟨t6, tb⟩ := HB.out _ B3.out.1)
      | (go_at_call 51; refine (HM.out _ B2.out.1).mono ?_; rintro e u2 ⟨rfl, hw⟩; subst u2; have B3 := Lib.hid (deed_boxed (mk := mk) (t := x.tag) (na := na) (st := x.steps) A1.out.1 A1.out.2.1 A1.out.2.2.2))
      | (refine wpList_store_row rfl 61 _ _ rfl u1.heap.size (dC x.tag na m D 0 0 0 0 x.steps) rfl rfl _ _ (heap_alloc_new _ _) deedInfo rfl (deed_one _ _ _ _ _ _ _ _ _) ?_; rw [World.setRow_alloc_new]; have B2 := Lib.hid (deed_boxed (mk := 0) (t := x.tag) (na := na) (st := x.steps) A1.out.1 A1.out.2.1 A1.out.2.2.2))
      | (go_at_call 50; refine (HD.out _ H0.out.1).mono ?_; rintro e u1 ⟨D, rfl, q1, q2⟩; have A1 : Hid (DdAt u1 (w.heap.size + 1) D x.args m ∧ Below w.heap.size w u1 ∧ w.heap.size ≤ u1.heap.size ∧ u1.heap[w.heap.size]? = some dZ) := ⟨q1.mono (by simp), H0.out.1.trans (q2.mono H0.out.1.size), (H0.out.1.trans (q2.mono H0.out.1.size)).size, (q2.block _ (lt_of_block H0.out.2)).trans H0.out.2⟩; have lb1 := (HB.out _ A1.out.2.1).2; clear q1 q2 HD))
    refine deed_back (D := D) (m := m) rfl w.heap.size rfl (setRow_heap _ _ _ _ _ _ Y6.out) rfl ⟨_, rfl, ?_, ?_⟩
    · have d4 : DdAt (((u4.setCell ⟨u1.heap.size, 10, none⟩ (.int .i64 m.how)).setCell ⟨u1.heap.size, 11, none⟩ (.int .i64 m.cod)).setCell ⟨u1.heap.size, 12, none⟩ (.int .i64 m.err)) (w.heap.size + 1) D x.args m := by
        have d1 := A1.out.1
        have hu := B5.out.1.size
        have hl4 := lt_of_block X4.out
        have bb := W4.out
        exact d1.keep (fun i _ hl => (heap_setCell_other _ _ _ _ (fun (e : i = u1.heap.size) => by omega)).trans ((heap_setCell_other _ _ _ _ (fun (e : i = u1.heap.size) => by omega)).trans ((heap_setCell_other _ _ _ _ (fun (e : i = u1.heap.size) => by omega)).trans (bb.block i hl)))) (by simpa using bb.size)
      exact (d4.keep (fun i hi _ => setRow_other _ _ _ _ (by omega)) (by simp)).mono (by omega)
    · have hs := A1.out.2.2.1
      exact Md.Ce.bl_setRow (((B5.out.1.setCell hs _).setCell hs _).setCell hs _) (Nat.le_refl _) _
  · rw [if_neg p4] at h0 h1 h2
    subst h0 h1 h2
    rw [decide_eq_false (by omega)] at HO
    clear p4
    go_enter Tryz.func20, Tryz.ntmps20
    go_wp2_with (first
      | (refine wpList_store_row rfl 61 _ _ rfl w.heap.size (dC x.tag na m D mk 0 0 0 x.steps) rfl rfl _ _ B3.out.2.2.1 deedInfo rfl (deed_one _ _ _ _ _ _ _ _ _) ?_)
      | (refine wpList_load_row rfl 61 _ rfl u1.heap.size rfl _ (dC x.tag na m D mk 0 0 0 x.steps) _ _ B3.out.2.1 Tryz.underlying61 rfl deedInfo ?_)
      | (go_at_call 40; refine (HO.out _ B3.out.1).mono ?_; rintro e u3 ⟨rfl, hw⟩; subst u3; obtain ⟨t6, tb⟩ := HB.out _ B3.out.1)
      | (go_at_call 51; refine (HM.out _ B2.out.1).mono ?_; rintro e u2 ⟨rfl, hw⟩; subst u2; have B3 := Lib.hid (deed_boxed (mk := mk) (t := x.tag) (na := na) (st := x.steps) A1.out.1 A1.out.2.1 A1.out.2.2.2))
      | (refine wpList_store_row rfl 61 _ _ rfl u1.heap.size (dC x.tag na m D 0 0 0 0 x.steps) rfl rfl _ _ (heap_alloc_new _ _) deedInfo rfl (deed_one _ _ _ _ _ _ _ _ _) ?_; rw [World.setRow_alloc_new]; have B2 := Lib.hid (deed_boxed (mk := 0) (t := x.tag) (na := na) (st := x.steps) A1.out.1 A1.out.2.1 A1.out.2.2.2))
      | (go_at_call 50; refine (HD.out _ H0.out.1).mono ?_; rintro e u1 ⟨D, rfl, q1, q2⟩; have A1 : Hid (DdAt u1 (w.heap.size + 1) D x.args m ∧ Below w.heap.size w u1 ∧ w.heap.size ≤ u1.heap.size ∧ u1.heap[w.heap.size]? = some dZ) := ⟨q1.mono (by simp), H0.out.1.trans (q2.mono H0.out.1.size), (H0.out.1.trans (q2.mono H0.out.1.size)).size, (q2.block _ (lt_of_block H0.out.2)).trans H0.out.2⟩; have lb1 := (HB.out _ A1.out.2.1).2; clear q1 q2 HD))
    refine deed_back (D := D) (m := m) rfl w.heap.size rfl (setRow_heap _ _ _ _ _ _ B3.out.2.2.1) rfl ⟨_, rfl, ?_, Md.Ce.bl_setRow B3.out.1 (Nat.le_refl _) _⟩
    exact (B3.out.2.2.2.keep (fun i hi _ => setRow_other _ _ _ _ (by omega)) (by simp)).mono (by omega)
end
end Go.Proofs.YtninicfnhoediaaGreatDoor.Rr
namespace Go.Proofs.YtninicfnhoediaaGreatDoor.Rr
open Go.ChangeShapes Go.WideShapes Go.ChangeAt Go.RowKit Num

/-! the document's words -/
structure WdAt (w : World) (bw gw : Nat) (ws : List Int) (n : Int) : Prop where
  box : w.heap[bw]? = some (.cells #[.slice (some ⟨gw, 0, none⟩) ws.length ws.length, .int .i64 n] 70 (0, 0))
  row : w.heap[gw]? = some (.cells (u64s ws).toArray 53 (0, 0))
  ne : bw ≠ gw
  many : ws.length ≤ 4096
section
variable {w w' : World} {bw gw : Nat} {ws : List Int} {n : Int}
theorem WdAt.ltB (h : WdAt w bw gw ws n) : bw < w.heap.size := lt_of_block h.box
theorem WdAt.ltG (h : WdAt w bw gw ws n) : gw < w.heap.size := lt_of_block h.row
theorem WdAt.cell0 (h : WdAt w bw gw ws n) : w.cell? ⟨bw, 0, none⟩ = some (.slice (some ⟨gw, 0, none⟩) ws.length ws.length) := (cell_of_row w bw 0 _ _ _ h.box).trans rfl
theorem WdAt.cell1 (h : WdAt w bw gw ws n) : w.cell? ⟨bw, 1, none⟩ = some (.int .i64 n) := (cell_of_row w bw 1 _ _ _ h.box).trans rfl
theorem WdAt.free (h : WdAt w bw gw ws n) (j : Nat) : w.frozen? ⟨bw, j, none⟩ = false := frozen_of_row w bw j _ _ h.box
theorem WdAt.freeG (h : WdAt w bw gw ws n) (j : Nat) : w.frozen? ⟨gw, j, none⟩ = false := frozen_of_row w gw j _ _ h.row
theorem WdAt.word (h : WdAt w bw gw ws n) {i : Nat} (hi : i < ws.length) : w.cell? ⟨gw, i, none⟩ = some (.int .u64 (ws.getD i 0)) := by
  rw [cell_of_row w gw i _ _ _ h.row]
  simp [u64s, hi]
theorem WdAt.keep (h : WdAt w bw gw ws n) (k : Kept [bw, gw] w w') : WdAt w' bw gw ws n := ⟨(k.2 bw (by simp)).trans h.box, (k.2 gw (by simp)).trans h.row, h.ne, h.many⟩
theorem WdAt.setN (h : WdAt w bw gw ws n) (m : Int) : WdAt (w.setCell ⟨bw, 1, none⟩ (.int .i64 m)) bw gw ws m := ⟨(heap_setCell_same w bw 1 _ _ _ h.box).trans rfl, (heap_setCell_other _ _ _ _ (fun (e : gw = bw) => h.ne e.symm)).trans h.row, h.ne, h.many⟩
theorem WdAt.setW (h : WdAt w bw gw ws n) (i : Nat) (v : Int) : WdAt (w.setCell ⟨gw, i, none⟩ (.int .u64 v)) bw gw (ws.set i v) n :=
  ⟨by rw [List.length_set]; exact (heap_setCell_other _ _ _ _ (fun (e : bw = gw) => h.ne e)).trans h.box, (heap_setCell_same w gw i _ _ _ h.row).trans (by rw [List.setIfInBounds_toArray, u64s_set]), h.ne, by rw [List.length_set]; exact h.many⟩
set_option maxRecDepth 100000 in
theorem wload_any (h : WdAt w bw gw ws n) {i : Int} (h0 : 0 ≤ i) (h1 : i < (ws.length : Int)) : Calls Tryz.prog 45 #[.pointer (some ⟨bw, 0, none⟩), .int .i64 i] w fun e w' => e = .returned (.int .u64 (wordAt ws i)) ∧ WdAt w' bw gw ws (up n) ∧ Turn [bw] [bw] w w' := by
  obtain ⟨k, rfl⟩ := Int.eq_ofNat_of_zero_le h0
  have hk : k < ws.length := by omega
  have c1 := h.cell1
  have lb := h.ltB
  have f1 := h.free 1
  have HN := Lib.hid (h.setN (up n))
  have c0 := (h.setN (up n)).cell0
  have cg := (h.setN (up n)).word hk
  have lg := (h.setN (up n)).ltG
  have ne := h.ne
  have HT := Lib.hid (turn_set w bw 1 (.int .i64 (up n)))
  have e : wordAt ws (k : Int) = ws.getD k 0 := rfl
  rw [e]
  generalize ws.getD k 0 = v at cg ⊢
  have hm := h.many
  clear h e h0
  unfold up at *
  go_enter Tryz.func45, Tryz.ntmps45
  go_wp2
  go_ret
  exact ⟨rfl, HN.out, HT.out⟩
set_option maxRecDepth 100000 in
theorem wstore_any (h : WdAt w bw gw ws n) {i : Int} (v : Int) (h0 : 0 ≤ i) (h1 : i < (ws.length : Int)) : Calls Tryz.prog 46 #[.pointer (some ⟨bw, 0, none⟩), .int .i64 i, .int .u64 v] w fun e w' => e = .returned (.tuple #[]) ∧ WdAt w' bw gw (ws.set i.toNat v) (up n) ∧ Turn [bw, gw] [bw, gw] w w' := by
  obtain ⟨k, rfl⟩ := Int.eq_ofNat_of_zero_le h0
  have hk : k < ws.length := by omega
  have c1 := h.cell1
  have lb := h.ltB
  have f1 := h.free 1
  have H1 := h.setN (up n)
  have HN := Lib.hid (H1.setW k v)
  have c0 := H1.cell0
  have cg := H1.word hk
  have lg := H1.ltG
  have fg := H1.freeG k
  have ne := h.ne
  have HT : Hid (Turn [bw, gw] [bw, gw] w ((w.setCell ⟨bw, 1, none⟩ (.int .i64 (up n))).setCell ⟨gw, k, none⟩ (.int .u64 v))) := turn_of (L := [bw, gw]) rfl rfl rfl (by simp) (fun _ y => y) fun j _ hn => (heap_setCell_other _ _ _ _ (fun (e : j = gw) => hn (by simp [e]))).trans (heap_setCell_other _ _ _ _ (fun (e : j = bw) => hn (by simp [e])))
  generalize ws.getD k 0 = v0 at cg
  have hm := h.many
  rw [show ((k : Int)).toNat = k from rfl]
  clear h h0 H1
  unfold up at *
  go_enter Tryz.func46, Tryz.ntmps46
  go_wp2
  go_end0
  exact ⟨rfl, HN.out, HT.out⟩
end
section
attribute [local go_sem] frombits_run bits_run
end
/-! the document's reader: its box, its machine, its arguments -/
structure Dz where
  br : Nat
  bl : Nat
  KR : List Nat
  pa : Option Addr
  ca : Nat
  cs : List Ins
def dboxX (x : Rx) (z : Dz) : Array Value := #[.int .i64 0, .int .i64 1, .int .i64 2, .int .i64 3, .int .i64 (3 + x.b), .int .i64 (3 + x.b + 3 * x.a), .pointer (some ⟨z.br, 0, none⟩), .int .i64 x.th, .int .i64 x.tag, .slice z.pa x.args.length z.ca, .int .i64 (x.part : Int), .int .i64 (x.sub : Int), .int .u64 x.claim, .int .u64 x.stamp, .int .i64 x.cell, .int .u64 x.ver, .int .u64 x.now, .int .i64 x.steps]
def dAll (bd : Nat) (z : Dz) (q : Rp) : List Nat := bd :: (Fr z.br q ++ (z.KR ++ fpR z.pa))
structure DRaw (w : World) (bd : Nat) (x : Rx) (z : Dz) (q : Rp) : Prop where
  box : w.heap[bd]? = some (.cells (dboxX x z) 55 (0, 0))
  ref : RefAt w z.br q x.m z.cs
  at_ : q.bl = z.bl ∧ fpK q z.cs = z.KR
  arg : Ro w z.pa (fls x.args)
  lp : Blw w (fpR z.pa)
  sb : bd ∉ Fr z.br q ++ (z.KR ++ fpR z.pa)
  sp : z.br ∉ fpR z.pa ∧ z.bl ∉ fpR z.pa
section
variable {w w' : World} {bd : Nat} {x : Rx} {z : Dz} {q : Rp}
theorem DRaw.ltB (h : DRaw w bd x z q) : bd < w.heap.size := lt_of_block h.box
theorem DRaw.blw (h : DRaw w bd x z q) : Blw w (dAll bd z q) := fun k hk => by
  simp only [dAll, List.mem_cons, List.mem_append] at hk
  rcases hk with rfl | hk | hk | hk
  · exact h.ltB
  · exact h.ref.lt k hk
  · exact h.ref.ltk k (by rw [h.at_.2]; exact hk)
  · exact h.lp k hk
theorem DRaw.keep (h : DRaw w bd x z q) (k : Kept (dAll bd z q) w w') : DRaw w' bd x z q :=
  ⟨(k.2 bd (by simp [dAll])).trans h.box, h.ref.keep ⟨k.1, fun i hi => k.2 i (by simp [dAll, hi])⟩ ⟨k.1, fun i hi => k.2 i (by rw [h.at_.2] at hi; simp [dAll, hi])⟩, h.at_, h.arg.keep ⟨k.1, fun i hi => k.2 i (by simp [dAll, hi])⟩, fun i hi => Nat.lt_of_lt_of_le (h.lp i hi) k.1, h.sb, h.sp⟩
theorem DRaw.on (h : DRaw w bd x z q) (k : Below w.heap.size w w') : DRaw w' bd x z q := h.keep (kept_below k h.blw)
theorem DRaw.cell (h : DRaw w bd x z q) (j : Nat) : w.cell? ⟨bd, j, none⟩ = (dboxX x z)[j]? := cell_of_row w bd j _ _ _ h.box
theorem DRaw.free (h : DRaw w bd x z q) (j : Nat) : w.frozen? ⟨bd, j, none⟩ = false := frozen_of_row w bd j _ _ h.box
theorem DRaw.put (h : DRaw w bd x z q) (j : Nat) (v : Value) (x' : Rx) (e : (dboxX x z).setIfInBounds j v = dboxX x' z) (hm : x'.m = x.m) (ha : x'.args = x.args) : DRaw (w.setCell ⟨bd, j, none⟩ v) bd x' z q := by
  have kk : ∀ L : List Nat, (∀ i ∈ L, i ∈ Fr z.br q ++ (z.KR ++ fpR z.pa)) → Kept L w (w.setCell ⟨bd, j, none⟩ v) := fun L hL => keptB (fun hi => h.sb (hL bd hi))
  refine ⟨?_, by rw [hm]; exact h.ref.keep (kk _ (fun i hi => by simp [hi])) (kk _ (fun i hi => by rw [h.at_.2] at hi; simp [hi])), h.at_, by rw [ha]; exact h.arg.keep (kk _ (fun i hi => by simp [hi])), fun i hi => by simpa using h.lp i hi, h.sb, h.sp⟩
  rw [← e]
  exact heap_setCell_same w bd j _ _ v h.box
theorem DRaw.mach (h : DRaw w bd x z q) {m' : Mac} (g : Rg w (Fr z.br q) z.br z.bl z.KR w' m' z.cs) : ∃ q', DRaw w' bd { x with m := m' } z q' ∧ Turn [z.br, z.bl] [z.br, z.bl] w w' ∧ ∀ k ∈ Fr z.br q', k ∈ Fr z.br q ∨ w.heap.size ≤ k := by
  obtain ⟨q', g1, g2, t, g4⟩ := g
  have inF : ∀ k, k ∈ [z.br, z.bl] → k ∈ Fr z.br q := fun k hk => by
    have e := h.at_.1
    simp only [List.mem_cons, List.not_mem_nil, or_false] at hk
    rcases hk with rfl | rfl
    · simp [Fr]
    · simp [Fr, e]
  have nb : bd ∉ [z.br, z.bl] := fun y => h.sb (List.mem_append.2 (.inl (inF bd y)))
  have sp : Sep (fpR z.pa) [z.br, z.bl] := fun k hk y => by
    simp only [List.mem_cons, List.not_mem_nil, or_false] at y
    rcases y with rfl | rfl
    · exact h.sp.1 hk
    · exact h.sp.2 hk
  refine ⟨q', ⟨(t.block bd h.ltB nb).trans h.box, g1, g2, h.arg.keep (t.kept sp h.lp), fun i hi => Nat.lt_of_lt_of_le (h.lp i hi) t.size, fun y => ?_, h.sp⟩, t, g4⟩
  rcases List.mem_append.1 y with y | y
  · rcases g4 bd y with y | y
    · exact h.sb (List.mem_append.2 (.inl y))
    · exact absurd h.ltB (Nat.not_lt.2 y)
  · exact h.sb (List.mem_append.2 (.inr y))
end
/-- the document's reader and its words, in the midst of what began at W, its machine's blocks being R0 -/
def DMid (W : World) (R0 : List Nat) (bd : Nat) (z : Dz) (bw gw : Nat) (w : World) (x : Rx) (ws : List Int) (n : Int) : Prop :=
  ∃ q, DRaw w bd x z q ∧ WdAt w bw gw ws n ∧ Sep [bw, gw] (dAll bd z q) ∧ Turn [bd, z.br, z.bl, bw, gw] [bd, z.br, z.bl, bw, gw] W w ∧ ∀ k ∈ Fr z.br q, k ∈ R0 ∨ W.heap.size ≤ k
section
variable {W w w' : World} {R0 : List Nat} {bd bw gw : Nat} {x : Rx} {z : Dz} {ws : List Int} {n : Int}
theorem DMid.words (h : DMid W R0 bd z bw gw w x ws n) : WdAt w bw gw ws n := by obtain ⟨_, _, h2, _⟩ := h; exact h2
theorem DMid.cell (h : DMid W R0 bd z bw gw w x ws n) (j : Nat) : w.cell? ⟨bd, j, none⟩ = (dboxX x z)[j]? := by obtain ⟨_, h1, _⟩ := h; exact h1.cell j
theorem DMid.free (h : DMid W R0 bd z bw gw w x ws n) (j : Nat) : w.frozen? ⟨bd, j, none⟩ = false := by obtain ⟨_, h1, _⟩ := h; exact h1.free j
theorem DMid.ltB (h : DMid W R0 bd z bw gw w x ws n) : bd < w.heap.size := by obtain ⟨_, h1, _⟩ := h; exact h1.ltB
theorem DMid.on (h : DMid W R0 bd z bw gw w x ws n) (k : Below w.heap.size w w') : DMid W R0 bd z bw gw w' x ws n := by
  obtain ⟨q, h1, h2, h3, h4, h5⟩ := h
  exact ⟨q, h1.on k, h2.keep (kept_below k (fun i hi => by simp only [List.mem_cons, List.not_mem_nil, or_false] at hi; rcases hi with rfl | rfl; exact h2.ltB; exact h2.ltG)), h3, h4.trans (Below.turn k _), h5⟩
theorem DMid.same (h : DMid W R0 bd z bw gw w x ws n) (k : Same w w') : DMid W R0 bd z bw gw w' x ws n := h.on (k.below _)
theorem DMid.drew (h : DMid W R0 bd z bw gw w x ws n) : DMid W R0 bd z bw gw w.drew x ws n := h.same (Same.drew w)
theorem DMid.alloc (h : DMid W R0 bd z bw gw w x ws n) (o : Obj) : DMid W R0 bd z bw gw (w.alloc o) x ws n := h.on (below_alloc _ o)
theorem DMid.put (h : DMid W R0 bd z bw gw w x ws n) (j : Nat) (v : Value) (x' : Rx) (e : (dboxX x z).setIfInBounds j v = dboxX x' z) (hm : x'.m = x.m) (ha : x'.args = x.args) : DMid W R0 bd z bw gw (w.setCell ⟨bd, j, none⟩ v) x' ws n := by
  obtain ⟨q, h1, h2, h3, h4, h5⟩ := h
  have nw : bd ∉ [bw, gw] := fun y => h3 bd y (by simp [dAll])
  exact ⟨q, h1.put j v x' e hm ha, h2.keep (keptB nw), h3, h4.trans (turn_of (L := [bd]) rfl rfl rfl (by simp) (fun k hk => by simp at hk; simp [hk]) fun k _ hn => heap_setCell_other _ _ _ _ (by simpa using hn)), h5⟩
theorem DMid.wrds {ws' : List Int} {n' : Int} (h : DMid W R0 bd z bw gw w x ws n) (t : Turn [bw, gw] [bw, gw] w w') (hw : WdAt w' bw gw ws' n') : DMid W R0 bd z bw gw w' x ws' n' := by
  obtain ⟨q, h1, h2, h3, h4, h5⟩ := h
  exact ⟨q, h1.keep (t.kept h3.symm h1.blw), hw, h3, h4.trans (turn_of (L := [bw, gw]) t.os t.tape t.output t.size (fun k hk => by simp only [List.mem_cons, List.not_mem_nil, or_false] at hk; rcases hk with hk | hk <;> simp [hk]) t.block), h5⟩
theorem DMid.mach (h : DMid W R0 bd z bw gw w x ws n) : ∃ F0, Rg w F0 z.br z.bl z.KR w x.m z.cs ∧ ∀ w' m', Rg w F0 z.br z.bl z.KR w' m' z.cs → DMid W R0 bd z bw gw w' { x with m := m' } ws n := by
  obtain ⟨q, h1, h2, h3, h4, h5⟩ := h
  refine ⟨Fr z.br q, ⟨q, h1.ref, h1.at_, Turn.refl _ _, fun _ y => .inl y⟩, fun w' m' g => ?_⟩
  obtain ⟨q', k1, t, k4⟩ := h1.mach g
  have lw : ∀ i, i ∈ [bw, gw] → i < w.heap.size := fun i hi => by
    simp only [List.mem_cons, List.not_mem_nil, or_false] at hi
    rcases hi with rfl | rfl
    · exact h2.ltB
    · exact h2.ltG
  have inF : ∀ k, k ∈ [z.br, z.bl] → k ∈ dAll bd z q := fun k hk => by
    have e := h1.at_.1
    simp only [List.mem_cons, List.not_mem_nil, or_false] at hk
    rcases hk with rfl | rfl
    · simp [dAll, Fr]
    · simp [dAll, Fr, e]
  refine ⟨q', k1, h2.keep (t.kept (fun i hi y => h3 i hi (inF i y)) lw), fun i hi y => ?_, h4.trans (turn_of (L := [z.br, z.bl]) t.os t.tape t.output t.size (fun k hk => by simp only [List.mem_cons, List.not_mem_nil, or_false] at hk; rcases hk with hk | hk <;> simp [hk]) t.block), fun k hk => ?_⟩
  · simp only [dAll, List.mem_cons, List.mem_append] at y
    rcases y with y | y | y
    · exact h3 i hi (by simp [dAll, y])
    · rcases k4 i y with y | y
      · exact h3 i hi (by simp [dAll, y])
      · exact absurd (lw i hi) (Nat.not_lt.2 y)
    · exact h3 i hi (by simp only [dAll, List.mem_cons, List.mem_append]; exact .inr (.inr y))
  · rcases k4 k hk with y | y
    · exact h5 k y
    · exact .inr (Nat.le_trans h4.size y)
theorem DMid.step (h : DMid W R0 bd z bw gw w x ws n) (hI : Inv x.m) {M : Mac} {A : Ask} (hM : (stepM x.m).1 = M) (hA : (stepM x.m).2 = A) : Calls Tryz.prog 48 #[.pointer (some ⟨z.br, 0, none⟩)] w fun e w' => e = .returned (.agg #[.int .i64 A.kind, .int .i64 A.cell, .float .f64 A.x, .bool A.first]) ∧ DMid W R0 bd z bw gw w' { x with m := M } ws n := by
  obtain ⟨F, g, go⟩ := h.mach
  subst hM hA
  refine (rstep_any g hI).mono ?_
  rintro e w' ⟨rfl, k⟩
  exact ⟨rfl, go _ _ k⟩
theorem DMid.give (h : DMid W R0 bd z bw gw w x ws n) (hI : Inv x.m) (y : Nat) {M : Mac} (hM : giveM x.m y = M) : Calls Tryz.prog 86 #[.pointer (some ⟨z.br, 0, none⟩), .float .f64 y] w fun e w' => e = .returned (.int .i64 (giveE x.m)) ∧ DMid W R0 bd z bw gw w' { x with m := M } ws n := by
  obtain ⟨F, g, go⟩ := h.mach
  subst hM
  refine (rgive_any g hI y).mono ?_
  rintro e w' ⟨rfl, k⟩
  exact ⟨rfl, go _ _ k⟩
theorem DMid.load (h : DMid W R0 bd z bw gw w x ws n) {i : Int} (h0 : 0 ≤ i) (h1 : i < (ws.length : Int)) : Calls Tryz.prog 45 #[.pointer (some ⟨bw, 0, none⟩), .int .i64 i] w fun e w' => e = .returned (.int .u64 (wordAt ws i)) ∧ DMid W R0 bd z bw gw w' x ws (up n) := by
  refine (wload_any h.words h0 h1).mono ?_
  rintro e w' ⟨rfl, k1, k2⟩
  exact ⟨rfl, h.wrds (turn_of (L := [bw]) k2.os k2.tape k2.output k2.size (fun k hk => by simp at hk; simp [hk]) k2.block) k1⟩
theorem DMid.store (h : DMid W R0 bd z bw gw w x ws n) {i : Int} (v : Int) (h0 : 0 ≤ i) (h1 : i < (ws.length : Int)) : Calls Tryz.prog 46 #[.pointer (some ⟨bw, 0, none⟩), .int .i64 i, .int .u64 v] w fun e w' => e = .returned (.tuple #[]) ∧ DMid W R0 bd z bw gw w' x (ws.set i.toNat v) (up n) := by
  refine (wstore_any h.words v h0 h1).mono ?_
  rintro e w' ⟨rfl, k1, k2⟩
  exact ⟨rfl, h.wrds k2 k1⟩
end
end Go.Proofs.YtninicfnhoediaaGreatDoor.Rr
namespace Go.Proofs.YtninicfnhoediaaGreatDoor.Rr
open Go.ChangeShapes Go.WideShapes Go.ChangeAt Go.RowKit Num
section
variable {W w : World} {R0 : List Nat} {bd bw gw : Nat} {x : Rx} {z : Dz} {ws : List Int} {n : Int}
/-- the cells of its box that a read looks at -/
theorem DMid.looks (h : DMid W R0 bd z bw gw w x ws n) {p4 : Int} (h4 : 3 + x.b = p4) : w.cell? ⟨bd, 4, none⟩ = some (.int .i64 p4) ∧ w.cell? ⟨bd, 6, none⟩ = some (.pointer (some ⟨z.br, 0, none⟩)) ∧ w.cell? ⟨bd, 11, none⟩ = some (.int .i64 (x.sub : Int)) ∧ w.cell? ⟨bd, 13, none⟩ = some (.int .u64 x.stamp) ∧ w.cell? ⟨bd, 14, none⟩ = some (.int .i64 x.cell) ∧ w.cell? ⟨bd, 15, none⟩ = some (.int .u64 x.ver) ∧ w.cell? ⟨bd, 16, none⟩ = some (.int .u64 x.now) ∧ bd < w.heap.size := by
  subst h4
  exact ⟨(h.cell 4).trans rfl, (h.cell 6).trans rfl, (h.cell 11).trans rfl, (h.cell 13).trans rfl, (h.cell 14).trans rfl, (h.cell 15).trans rfl, (h.cell 16).trans rfl, h.ltB⟩
end
end Go.Proofs.YtninicfnhoediaaGreatDoor.Rr
namespace Go.Proofs.YtninicfnhoediaaGreatDoor.Rr
open Go.ChangeShapes Go.WideShapes Go.ChangeAt Go.RowKit Num
attribute [local go_sem] run_store_float
section
variable {W w : World} {R0 : List Nat} {bd bw gw : Nat} {x : Rx} {z : Dz} {ws : List Int} {n : Int}
/-- the cells of its box that a step looks at -/
theorem DMid.all (h : DMid W R0 bd z bw gw w x ws n) {pl pt sb : Int} (hpl : plW x = pl) (hpt : (x.part : Int) = pt) (hsb : (x.sub : Int) = sb) : w.cell? ⟨bd, 2, none⟩ = some (.int .i64 2) ∧ w.cell? ⟨bd, 3, none⟩ = some (.int .i64 3) ∧ w.cell? ⟨bd, 5, none⟩ = some (.int .i64 pl) ∧ w.cell? ⟨bd, 6, none⟩ = some (.pointer (some ⟨z.br, 0, none⟩)) ∧ w.cell? ⟨bd, 7, none⟩ = some (.int .i64 x.th) ∧ w.cell? ⟨bd, 10, none⟩ = some (.int .i64 pt) ∧ w.cell? ⟨bd, 11, none⟩ = some (.int .i64 sb) ∧ w.cell? ⟨bd, 12, none⟩ = some (.int .u64 x.claim) ∧ w.cell? ⟨bd, 13, none⟩ = some (.int .u64 x.stamp) ∧ w.cell? ⟨bd, 14, none⟩ = some (.int .i64 x.cell) ∧ w.cell? ⟨bd, 17, none⟩ = some (.int .i64 x.steps) ∧ bd < w.heap.size := by
  subst hpl hpt hsb
  exact ⟨(h.cell 2).trans rfl, (h.cell 3).trans rfl, (h.cell 5).trans rfl, (h.cell 6).trans rfl, (h.cell 7).trans rfl, (h.cell 10).trans rfl, (h.cell 11).trans rfl, (h.cell 12).trans rfl, (h.cell 13).trans rfl, (h.cell 14).trans rfl, (h.cell 17).trans rfl, h.ltB⟩
theorem DMid.how (h : DMid W R0 bd z bw gw w x ws n) : w.cell? ⟨z.br, 14, none⟩ = some (.int .i64 x.m.how) ∧ z.br < w.heap.size := by
  obtain ⟨q, h1, _⟩ := h
  exact ⟨(h1.ref.cell 14).trans rfl, h1.ref.ltB⟩
/-- its steps are counted -/
theorem DMid.tick (h : DMid W R0 bd z bw gw w x ws n) : DMid W R0 bd z bw gw (w.setCell ⟨bd, 17, none⟩ (.int .i64 (x.steps + 1))).drew (tickX x) ws n := (h.put 17 (.int .i64 (x.steps + 1)) (tickX x) rfl rfl rfl).drew
end
end Go.Proofs.YtninicfnhoediaaGreatDoor.Rr
namespace Go.Proofs.YtninicfnhoediaaGreatDoor.Rr
open Go.ChangeShapes Go.WideShapes Go.ChangeAt Go.RowKit Num

/-! the document's New -/
/-- its arguments are being laid, in blocks from B on; all else of it lies below -/
structure DLoop (N : World) (B : Nat) (w : World) (bd : Nat) (x : Rx) (z : Dz) (q : Rp) : Prop where
  raw : DRaw w bd x z q
  row : RowAt 71 w z.pa z.ca (fls x.args)
  lo : ∀ k, k ∈ bd :: (Fr z.br q ++ z.KR) → k < B
  hi : Abv B (fpR z.pa)
  ab : Abv N.heap.size (bd :: Fr z.br q)
  bk : Blw N z.KR
  bl : Below N.heap.size N w
  sz : N.heap.size ≤ B
section
variable {N w w3 : World} {B bd : Nat} {x : Rx} {z : Dz} {q : Rp}
theorem DLoop.more {v : Value} {y : Nat} {o : Obj} (h : DLoop N B w bd x z q) (hB : B ≤ w.heap.size) (hown : w3.ownsRow 0 71 1 v (x.args.length + 1) (fls x.args ++ [.float .f64 y])) (hg : (w.alloc o).grownBy w3 (Value.slice z.pa x.args.length z.ca).ownBlock) (hat : v.ownBlock = (Value.slice z.pa x.args.length z.ca).ownBlock ∨ v.ownBlock = some (w.alloc o).heap.size) :
    ∃ p' c', v = .slice p' (x.args.length + 1) c' ∧ w3.heap[bd]? = some (.cells (dboxX x z) 55 (0, 0)) ∧ DLoop N B (w3.setCell ⟨bd, 9, none⟩ (.slice p' (x.args.length + 1) c')) bd { x with args := x.args ++ [y] } { z with pa := p', ca := c' } q ∧ B ≤ (w3.setCell ⟨bd, 9, none⟩ (.slice p' (x.args.length + 1) c')).heap.size := by
  obtain ⟨p', c', rfl, hr⟩ := ownsRow_slice hown
  have hl : (fls x.args ++ [Value.float .f64 y]).length = x.args.length + 1 := by simp [fls_len]
  rw [hl] at hat ⊢
  have g : w.grownBy w3 (Value.slice z.pa x.args.length z.ca).ownBlock := (World.grownBy_alloc w o _).trans hg
  have ho : ∀ k, k ∈ fpR p' → k ∈ fpR z.pa ∨ w.heap.size ≤ k := own_at hat (by simp)
  have hip : Abv B (fpR p') := fun k hk => (ho k hk).elim (h.hi k) (fun y => Nat.le_trans hB y)
  have kp : ∀ k, k < B → w3.heap[k]? = w.heap[k]? := fun k hk => g.block k (Nat.lt_of_lt_of_le hk hB) (fun e => by have := h.hi k (own_fpR.2 e.symm); omega)
  have lob : bd < B := h.lo bd (by simp)
  have kk : Kept (bd :: (Fr z.br q ++ z.KR)) w w3 := ⟨g.size, fun i hi => kp i (h.lo i hi)⟩
  have hbd : w3.heap[bd]? = _ := (kp bd lob).trans h.raw.box
  have nd : bd ∉ Fr z.br q ++ z.KR := fun y => h.raw.sb (by rw [← List.append_assoc]; exact List.mem_append.2 (.inl y))
  have k2 : Kept (Fr z.br q ++ z.KR) w (w3.setCell ⟨bd, 9, none⟩ (.slice p' (x.args.length + 1) c')) := ⟨by simpa using g.size, fun i hi => (heap_setCell_other _ _ _ _ (fun (e : i = bd) => nd (e ▸ hi))).trans (kp i (h.lo i (List.mem_cons_of_mem _ hi)))⟩
  have np : bd ∉ fpR p' := fun y => by have := hip bd y; omega
  have row' : RowAt 71 (w3.setCell ⟨bd, 9, none⟩ (.slice p' (x.args.length + 1) c')) p' c' (fls (x.args ++ [y])) := by
    rw [fls_snoc] at *
    exact hr.keep (keptB np)
  have inF : ∀ k, k = z.br ∨ k = z.bl → k < B := fun k hk => h.lo k (by
    have e := h.raw.at_.1
    rcases hk with rfl | rfl
    · simp [Fr]
    · simp [Fr, e])
  have hbs := h.bl.size
  have hgs := g.size
  refine ⟨p', c', rfl, hbd, ⟨⟨?_, h.raw.ref.keep ⟨k2.1, fun i hi => k2.2 i (List.mem_append.2 (.inl hi))⟩ ⟨k2.1, fun i hi => k2.2 i (List.mem_append.2 (.inr (by rw [← h.raw.at_.2]; exact hi)))⟩, h.raw.at_, row'.ro, row'.blw, fun y => ?_, ⟨fun y => by have h1 := hip z.br y; have h2 := inF z.br (.inl rfl); omega, fun y => by have h1 := hip z.bl y; have h2 := inF z.bl (.inr rfl); omega⟩⟩, row', h.lo, hip, h.ab, h.bk, ?_, h.sz⟩, by simp; omega⟩
  · refine (heap_setCell_same w3 bd 9 _ _ _ hbd).trans ?_
    unfold dboxX
    simp
  · rw [← List.append_assoc] at y
    rcases List.mem_append.1 y with y | y
    · exact nd y
    · exact np y
  · refine ⟨g.os.trans h.bl.os, g.tape.trans h.bl.tape, g.output.trans h.bl.output, by simp; omega, fun k hk => ?_⟩
    have e1 : k ≠ bd := by have := h.ab bd (by simp); omega
    have := h.sz
    exact (heap_setCell_other _ _ _ _ e1).trans ((kp k (by omega)).trans (h.bl.block k hk))
end
/-- where the instructions lie that are handed in, if there are any -/
def krA (ao : Option Addr) (cs : List Ins) : List Nat := if cs = [] then [] else fpR ao
theorem krA_blw {w : World} {ao : Option Addr} {cs : List Ins} (h : CodeAt w ao cs) : Blw w (krA ao cs) := fpK_blw (q := rq0 0 0 ao 0 0 false 0) h
/-- the document's reader that is made -/
structure DMade (w w' : World) (bd : Nat) (x : Rx) (ao : Option Addr) (cs : List Ins) : Prop where
  at_ : ∃ z q, z.cs = cs ∧ z.KR = krA ao cs ∧ DRaw w' bd x z q ∧ Abv w.heap.size (bd :: Fr z.br q) ∧ Abv w.heap.size (fpR z.pa)
  bl : Below w.heap.size w w'
section
variable {w : World} {a b c e t th : Int} {ao : Option Addr} {cs : List Ins} {n cap : Nat} {po : Option Addr} {l : List Nat} {k co : Nat}
set_option maxRecDepth 100000 in
set_option maxHeartbeats 1000000 in
theorem dnew_nil (h : (Md.cfgB a b c e && decide (k ≤ 8)) = false) : Calls Tryz.prog 37 #[cfgV a b c e, .int .i64 th, .agg #[.int .i64 t, .slice ao n cap], .slice po k co] w fun r w' => r = .returned (.pointer none) ∧ Below w.heap.size w w' := by
  have HN : Hid (∀ u, Calls Tryz.prog 77 #[cfgV a b c e, .agg #[.int .i64 t, .slice ao n cap], .slice po k co] u fun r w' => r = .returned (.pointer none) ∧ Below u.heap.size u w') := fun u => rnew_nil h
  have HP := Lib.hid (fun u => Md.refPlace_any a b c e u)
  have HX : Hid (∀ u, Below (newW w a b c e t ao n cap).heap.size (newW w a b c e t ao n cap) u → u.heap[w.heap.size]? = some (cfgO a b c e) ∧ u.heap[w.heap.size + 1]? = some (prgO t ao n cap) ∧ Below w.heap.size w u) := fun u q => ⟨(q.block _ (by simp; omega)).trans (heap_old (heap_alloc_new _ _)), (q.block _ (by simp)).trans (heap_new (by simp)), (newW_boxes q).2.2⟩
  cases hc : Md.cfgB a b c e
  · simp only [hc] at HP
    go_enter Tryz.func37, Tryz.ntmps37
    go_wp2_with (first
      | (go_at_call 77; refine (HN.out _).mono ?_; rintro e u2 ⟨rfl, q⟩; have H2 := Lib.hid (below_chain (H1.out.alloc H1.out.size _) q); clear q)
      | (go_at_call 38; refine (HP.out _).mono ?_; rintro e u1 ⟨rfl, q⟩; have H1 := Lib.hid q; obtain ⟨b0, b1, b3⟩ := HX.out _ q; obtain ⟨c0, c1, c2, c3, c4⟩ := cells4 b0; obtain ⟨d0, d1, d2⟩ := cells2 b1; clear b0 b1 b3 q))
    go_ret
    exact ⟨rfl, (HX.out _ H2.out).2.2⟩
  · simp only [hc] at HP
    go_enter Tryz.func37, Tryz.ntmps37
    go_wp2_with (first
      | (go_at_call 77; refine (HN.out _).mono ?_; rintro e u2 ⟨rfl, q⟩; have H2 := Lib.hid (below_chain (H1.out.alloc H1.out.size _) q); clear q)
      | (go_at_call 38; refine (HP.out _).mono ?_; rintro e u1 ⟨rfl, q⟩; have H1 := Lib.hid q; obtain ⟨b0, b1, b3⟩ := HX.out _ q; obtain ⟨c0, c1, c2, c3, c4⟩ := cells4 b0; obtain ⟨d0, d1, d2⟩ := cells2 b1; clear b0 b1 b3 q))
    go_ret
    exact ⟨rfl, (HX.out _ H2.out).2.2⟩
set_option maxRecDepth 100000 in
set_option maxHeartbeats 1000000 in
theorem dnew_out (hc : Md.cfgB a b c e = true) (hn : cs.length = n) (hk : l.length = k) (hk8 : k ≤ 8) (hC : CodeAt w ao cs) (hL : FlAt w po l) (hnl : n ≤ 9223372036854775807) (ht : ¬ (0 ≤ th ∧ th < b)) : Calls Tryz.prog 37 #[cfgV a b c e, .int .i64 th, .agg #[.int .i64 t, .slice ao n cap], .slice po k co] w fun r w' => r = .returned (.pointer none) ∧ Below w.heap.size w w' := by
  have HN : Hid (∀ u, Below w.heap.size w u → Calls Tryz.prog 77 #[cfgV a b c e, .agg #[.int .i64 t, .slice ao n cap], .slice po k co] u fun r w' => ∃ br : Nat, r = .returned (.pointer (some ⟨br, 0, none⟩)) ∧ Below u.heap.size u w') := fun u hb => rnew_any hn hk (hC.on hb) (hL.on hb) hnl hc hk8
  have HP := Lib.hid (fun u => Md.refPlace_any a b c e u)
  have HX : Hid (∀ u, Below (newW w a b c e t ao n cap).heap.size (newW w a b c e t ao n cap) u → u.heap[w.heap.size]? = some (cfgO a b c e) ∧ u.heap[w.heap.size + 1]? = some (prgO t ao n cap) ∧ Below w.heap.size w u) := fun u q => ⟨(q.block _ (by simp; omega)).trans (heap_old (heap_alloc_new _ _)), (q.block _ (by simp)).trans (heap_new (by simp)), (newW_boxes q).2.2⟩
  simp only [hc] at HP
  clear hc hn hk hk8 hC hL hnl
  by_cases h0 : th < 0
  · go_enter Tryz.func37, Tryz.ntmps37
    go_wp2_with (first
      | (go_at_call 77; refine (HN.out _ (HX.out _ (H1.out.alloc H1.out.size _)).2.2).mono ?_; rintro e u2 ⟨br, rfl, q⟩; have H2 := Lib.hid (below_chain (H1.out.alloc H1.out.size _) q); clear q)
      | (go_at_call 38; refine (HP.out _).mono ?_; rintro e u1 ⟨rfl, q⟩; have H1 := Lib.hid q; obtain ⟨b0, b1, b3⟩ := HX.out _ q; obtain ⟨c0, c1, c2, c3, c4⟩ := cells4 b0; obtain ⟨d0, d1, d2⟩ := cells2 b1; clear b0 b1 b3 q))
    go_ret
    exact ⟨rfl, (HX.out _ H2.out).2.2⟩
  · have h1 : b ≤ th := by omega
    go_enter Tryz.func37, Tryz.ntmps37
    go_wp2_with (first
      | (go_at_call 77; refine (HN.out _ (HX.out _ (H1.out.alloc H1.out.size _)).2.2).mono ?_; rintro e u2 ⟨br, rfl, q⟩; have H2 := Lib.hid (below_chain (H1.out.alloc H1.out.size _) q); obtain ⟨x0, x1, x2, x3, x4⟩ := cells4 (HX.out _ H2.out).1; clear q)
      | (go_at_call 38; refine (HP.out _).mono ?_; rintro e u1 ⟨rfl, q⟩; have H1 := Lib.hid q; obtain ⟨b0, b1, b3⟩ := HX.out _ q; obtain ⟨c0, c1, c2, c3, c4⟩ := cells4 b0; obtain ⟨d0, d1, d2⟩ := cells2 b1; clear b0 b1 b3 q))
    go_ret
    exact ⟨rfl, (HX.out _ H2.out).2.2⟩
theorem take_fix {l : List Nat} {j : Nat} (h : j < l.length) : (l.take j).map fixB ++ [fixB (l.getD j 0)] = (l.take (j + 1)).map fixB := by
  rw [List.take_add_one, List.map_append, List.getD_eq_getElem?_getD, List.getElem?_eq_getElem h]
  rfl
theorem dloop_new {u1 u2 : World} {br bl ca : Nat} {pa : Option Addr} (hC : CodeAt w ao cs) (hn : cs.length = n) (h1 : Below w.heap.size w u1) (h : RNew u1 u2 (newM a c e t cs l) { rq0 b t ao n cap (!checkB t cs) bl with pa := pa, na := 8, ca := ca } br (eight (argF l))) {v : World} (hv : Same (u2.alloc (.cells (dboxX { newX a b c e t cs l th with args := [] } ⟨br, bl, [], none, 0, cs⟩) 55)) v) : ∃ q, DLoop w v.heap.size v u2.heap.size { newX a b c e t cs l th with args := [] } ⟨br, bl, krA ao cs, none, 0, cs⟩ q := by
  have hR := h.ref h1 hC hn
  have hA := h.abv
  have hb2 := h.bl
  have ha : Below u2.heap.size u2 v := (below_alloc _ _).trans (hv.below _)
  have hbx : v.heap[u2.heap.size]? = some (.cells (dboxX { newX a b c e t cs l th with args := [] } ⟨br, bl, [], none, 0, cs⟩) 55 (0, 0)) := by rw [hv.heap]; exact heap_alloc_new _ _
  have l2 : u2.heap.size < v.heap.size := lt_of_block hbx
  have hk : Blw w (fpK { rq0 b t ao n cap (!checkB t cs) bl with pa := pa, na := 8, ca := ca } cs) := fpK_blw hC
  have s1 := h1.size
  have s2 := hb2.size
  have lF : ∀ i ∈ Fr br { rq0 b t ao n cap (!checkB t cs) bl with pa := pa, na := 8, ca := ca }, i < u2.heap.size := hR.lt
  refine ⟨{ rq0 b t ao n cap (!checkB t cs) bl with pa := pa, na := 8, ca := ca }, ⟨⟨hbx, hR.on ha, ⟨rfl, rfl⟩, Ro.nil _, (fun i hi => by simp [fpR] at hi), fun y => ?_, ⟨by simp [fpR], by simp [fpR]⟩⟩, ⟨⟨rfl, .inl ⟨rfl, rfl⟩⟩⟩, fun i hi => ?_, (fun i hi => by simp [fpR] at hi), fun i hi => ?_, hk, h1.trans ((hb2.trans (ha.mono hb2.size)).mono s1), by omega⟩⟩
  · rcases List.mem_append.1 y with y | y
    · exact absurd (lF _ y) (Nat.lt_irrefl _)
    · rcases List.mem_append.1 y with y | y
      · have := hk _ y; omega
      · simp [fpR] at y
  · simp only [List.mem_cons, List.mem_append] at hi
    rcases hi with rfl | hi | hi
    · exact l2
    · have := lF i hi; omega
    · have := hk i hi; omega
  · simp only [List.mem_cons] at hi
    rcases hi with rfl | hi
    · omega
    · have := hA i hi; omega
set_option maxRecDepth 100000 in
set_option maxHeartbeats 1000000 in
theorem dnew_yes (hc : Md.cfgB a b c e = true) (hn : cs.length = n) (hk : l.length = k) (hk8 : k ≤ 8) (hC : CodeAt w ao cs) (hL : FlAt w po l) (hnl : n ≤ 9223372036854775807) (h0 : 0 ≤ th) (h1 : th < b) : Calls Tryz.prog 37 #[cfgV a b c e, .int .i64 th, .agg #[.int .i64 t, .slice ao n cap], .slice po k co] w fun r w' => ∃ bd, r = .returned (.pointer (some ⟨bd, 0, none⟩)) ∧ DMade w w' bd (newX a b c e t cs l th) ao cs := by
  have HN : Hid (∀ u, Below w.heap.size w u → Calls Tryz.prog 77 #[cfgV a b c e, .agg #[.int .i64 t, .slice ao n cap], .slice po k co] u fun r w' => ∃ br bl pa ca, r = .returned (.pointer (some ⟨br, 0, none⟩)) ∧ RNew u w' (newM a c e t cs l) { rq0 b t ao n cap (!checkB t cs) bl with pa := pa, na := 8, ca := ca } br (eight (argF l))) := fun u hb => rnew_some hc hn hk hk8 (hC.on hb) (hL.on hb) hnl
  have HP := Lib.hid (fun u => Md.refPlace_any a b c e u)
  have HX : Hid (∀ u, Below (newW w a b c e t ao n cap).heap.size (newW w a b c e t ao n cap) u → u.heap[w.heap.size]? = some (cfgO a b c e) ∧ u.heap[w.heap.size + 1]? = some (prgO t ao n cap) ∧ Below w.heap.size w u) := fun u q => ⟨(q.block _ (by simp; omega)).trans (heap_old (heap_alloc_new _ _)), (q.block _ (by simp)).trans (heap_new (by simp)), (newW_boxes q).2.2⟩
  simp only [hc] at HP
  have HDL : Hid (∀ u1 u2 br bl ca pa v, Below w.heap.size w u1 → RNew u1 u2 (newM a c e t cs l) { rq0 b t ao n cap (!checkB t cs) bl with pa := pa, na := 8, ca := ca } br (eight (argF l)) → Same (u2.alloc (.cells #[.int .i64 0, .int .i64 1, .int .i64 2, .int .i64 3, .int .i64 (3 + b), .int .i64 (3 + b + 3 * a), .pointer (some ⟨br, 0, none⟩), .int .i64 th, .int .i64 t, .slice none 0 0, .int .i64 1, .int .i64 0, .int .u64 0, .int .u64 0, .int .i64 (-1), .int .u64 0, .int .u64 0, .int .i64 0] 55)) v → ∃ q, DLoop w v.heap.size v u2.heap.size { newX a b c e t cs l th with args := [] } ⟨br, bl, krA ao cs, none, 0, cs⟩ q) := fun u1 u2 br bl ca pa v q1 q2 q3 => dloop_new hC hn q1 q2 q3
  have HL : Hid (∀ u, Below w.heap.size w u → FlAt u po l) := fun u hb => hL.on hb
  have HK : Hid (l.length = k) := hk
  obtain ⟨i0, hi, hz0, hz1, hz2⟩ := info_parts fInfo
  have HZI := Lib.hid (And.intro hi (And.intro hz0 (And.intro hz1 hz2)))
  clear hc hn hk hC hL hnl hi hz0 hz1 hz2
  obtain ⟨p5, h5⟩ : ∃ p5, 3 + b + 3 * a = p5 := ⟨_, rfl⟩
  obtain ⟨p4, h4⟩ : ∃ p4, 3 + b = p4 := ⟨_, rfl⟩
  rw [h5, h4] at HDL HP
  clear h4 h5
  generalize newM a c e t cs l = m0 at *
  go_enter Tryz.func37, Tryz.ntmps37
  go_wp2_with (first
    | (go_at_call 77; refine (HN.out _ (HX.out _ (H1.out.alloc H1.out.size _)).2.2).mono ?_; rintro e u2 ⟨br, bl, pa, ca, rfl, q⟩; have H2 := Lib.hid (below_chain (H1.out.alloc H1.out.size _) q.bl); have HRN := Lib.hid q; obtain ⟨x0, x1, x2, x3, x4⟩ := cells4 (HX.out _ H2.out).1; obtain ⟨s0, s1, s2⟩ := cells2 (HX.out _ H2.out).2.1; obtain ⟨t0, t1, t2, t3, t4, t5, t6⟩ := cells6 ((q.bl.block _ (by simp)).trans (heap_alloc_new u1 (.cells #[.int .i64 0, .int .i64 1, .int .i64 2, .int .i64 3, .int .i64 p4, .int .i64 p5] 51))); clear q)
    | (go_at_call 38; refine (HP.out _).mono ?_; rintro e u1 ⟨rfl, q⟩; have H1 := Lib.hid q; obtain ⟨b0, b1, b3⟩ := HX.out _ q; obtain ⟨c0, c1, c2, c3, c4⟩ := cells4 b0; obtain ⟨d0, d1, d2⟩ := cells2 b1; clear b0 b1 b3 q))
  obtain ⟨v0, hv0⟩ : ∃ v0, v0 = u2.alloc (.cells #[.int .i64 0, .int .i64 1, .int .i64 2, .int .i64 3, .int .i64 p4, .int .i64 p5, .pointer (some ⟨br, 0, none⟩), .int .i64 th, .int .i64 t, .slice none 0 0, .int .i64 1, .int .i64 0, .int .u64 0, .int .u64 0, .int .i64 (-1), .int .u64 0, .int .u64 0, .int .i64 0] 55) := ⟨_, rfl⟩
  rw [← hv0]
  obtain ⟨q0, hq0⟩ := HDL.out (u1.alloc (.cells #[.int .i64 0, .int .i64 1, .int .i64 2, .int .i64 3, .int .i64 p4, .int .i64 p5] 51)) u2 br bl ca pa v0 (HX.out _ (H1.out.alloc H1.out.size _)).2.2 HRN.out (by rw [hv0]; exact Same.refl _)
  have HQ0 := Lib.hid hq0
  clear hv0 hq0 HDL HRN HN HP HX H1 H2 x0 x1 x2 x3 x4 s0 s1 s2 t0 t1 t2 t3 t4 t5 t6 c0 c1 c2 c3 c4 d0 d1 d2
  obtain ⟨X, hX⟩ : ∃ X, X = newX a b c e t cs l th := ⟨_, rfl⟩
  rw [← hX] at HQ0
  have HXE := Lib.hid hX
  clear hX
  go_loopw [49] (fun vi wr => ∃ j : Nat, vi = .int .i64 j ∧ j ≤ k ∧ Hid (∃ p' c', DLoop w v0.heap.size wr u2.heap.size { X with args := (l.take j).map fixB } ⟨br, bl, krA ao cs, p', c', cs⟩ q0 ∧ v0.heap.size ≤ wr.heap.size)) (fun vi _ => k - (intOf vi).toNat)
  case atStart => exact ⟨0, rfl, Nat.zero_le _, none, 0, HQ0.out, Nat.le_refl _⟩
  case round =>
    obtain ⟨j, rfl, hj, HR⟩ := hrel
    obtain ⟨p', c', hr, hsz⟩ := HR.out
    by_cases hlt : j < k
    · have hlt' : (j : Int) < (k : Int) := by omega
      obtain ⟨g, o, rfl, hg, hx⟩ := HL.out _ hr.bl j (by rw [HK.out]; exact hlt)
      have hl : ((l.take j).map fixB).length = j := by simp; have := HK.out; omega
      have HE := Lib.hid (take_fix (l := l) (j := j) (by rw [HK.out]; exact hlt))
      generalize l.getD j 0 = y at hx HE
      have h9 : wr.cell? ⟨u2.heap.size, 9, none⟩ = some (.slice p' j c') := (hr.raw.cell 9).trans (by show some (Value.slice p' ((l.take j).map fixB).length c') = _; rw [hl])
      have hbr := hr.raw.ltB
      have HO : Hid (wr.ownsRow 0 71 1 (.slice p' j c') j (fls ((l.take j).map fixB))) := by
        have := hr.row.own
        dsimp only at this
        rw [fls_len, hl] at this
        exact this
      have HM : Hid (∀ w3 v ob, w3.ownsRow 0 71 1 v (j + 1) (fls ((l.take j).map fixB) ++ [.float .f64 (fixB y)]) → (wr.drew.alloc ob).grownBy w3 (Value.slice p' j c').ownBlock → (v.ownBlock = (Value.slice p' j c').ownBlock ∨ v.ownBlock = some (wr.drew.alloc ob).heap.size) → ∃ p2 c2, v = .slice p2 (j + 1) c2 ∧ w3.heap[u2.heap.size]? = some (.cells (dboxX { X with args := (l.take j).map fixB } ⟨br, bl, krA ao cs, p', c', cs⟩) 55 (0, 0)) ∧ DLoop w v0.heap.size (w3.setCell ⟨u2.heap.size, 9, none⟩ (.slice p2 (j + 1) c2)) u2.heap.size { X with args := (l.take (j + 1)).map fixB } ⟨br, bl, krA ao cs, p2, c2, cs⟩ q0 ∧ v0.heap.size ≤ (w3.setCell ⟨u2.heap.size, 9, none⟩ (.slice p2 (j + 1) c2)).heap.size) := fun w3 v ob q1 q2 q3 => by
        have hs : DLoop w v0.heap.size wr.drew u2.heap.size { X with args := (l.take j).map fixB } ⟨br, bl, krA ao cs, p', c', cs⟩ q0 := ⟨hr.raw.on ((Same.drew wr).below _), hr.row.on ((Same.drew wr).below _), hr.lo, hr.hi, hr.ab, hr.bk, hr.bl.trans ((Same.drew wr).below _), hr.sz⟩
        have := hs.more (w3 := w3) (v := v) (y := fixB y) (o := ob) hsz (by dsimp only; rw [hl]; exact q1) (by dsimp only; rw [hl]; exact q2) (by dsimp only; rw [hl]; exact q3)
        dsimp only at this
        rw [hl, HE.out] at this
        exact this
      have OD : Hid (wr.drew.ownsRow 0 71 1 (.slice p' j c') j (fls ((l.take j).map fixB))) := HO.out
      have HLJ : Hid (((l.take j).map fixB).length = j) := hl
      clear HR hr hsz hl HL
      go_wp2_with fail
      refine wp_region_seqE (fun u => u.cell? ⟨u2.heap.size, 9, none⟩ = some (.slice p' j c') )  ((0, true) :: (1, true) :: (2, true) :: (3, true) :: (4, true) :: (5, true) :: (6, false) :: (7, false) :: (8, false) :: (9, true) :: (10, true) :: (11, false) :: [])  Md.Cv.follows13 (by kernel_rfl) (fun _ _ _ _ _ h => h)  h9 ?_
      (repeat (refine wpSeqE_take (v := ?_) rfl (by rfl) (fun wq hSq => ?_) ?_; rotate_left; (focus ((try dsimp only at hSq); go_simp; try with_reducible rfl)); simp only [Act.put, List.setIfInBounds_toArray, List.set_cons_zero, List.set_cons_succ]))
      (refine wpSeqE_do rfl (by rfl) (fun KK hK => ?_); go_simp)
      refine (refFix_any _ _).mono ?_
      rintro r u ⟨rfl, hu⟩
      subst u
      refine hK.out _ _ (fun _ => h9) ?_
      (clear hK KK; try simp only [Act.put, List.setIfInBounds_toArray, List.set_cons_zero, List.set_cons_succ])
      (refine wpSeqE_do rfl (by rfl) (fun KK hK => ?_); go_simp)
      have h9a : (wr.drew.alloc (.cells #[.float .f64 (fixB y)] 71)).cell? ⟨u2.heap.size, 9, none⟩ = some (.slice p' j c') := (World.cell?_alloc_old _ _ _ (Nat.ne_of_lt hbr)).trans h9
      refine hK.out _ _ (fun _ => h9a) ?_
      (clear hK KK; try simp only [Act.put, List.setIfInBounds_toArray, List.set_cons_zero, List.set_cons_succ])
      refine wpSeqE_do rfl (by rfl) (fun KK hK => ?_)
      refine wp_append_ex _ _ 27 27 rfl (.slice p' j c') (.slice (some ⟨wr.heap.size, 0, none⟩) 1 1) rfl rfl (run_append_own_at (P := Tryz.prog) (wr.drew.alloc (.cells #[.float .f64 (fixB y)] 71)) 0 27 27 71 i0 (.float .f64 0) 1 8 Tryz.underlying27 HZI.out.1 HZI.out.2.1 HZI.out.2.2.1 HZI.out.2.2.2 rfl (by decide) _ j (fls ((l.take j).map fixB)) (World.ownsRow.alloc (OD.out) _) ⟨wr.heap.size, 0, none⟩ 1 1 [.float .f64 (fixB y)] rfl (cell_one_new wr.drew _ _) (fun u hu => by simp at hu; subst hu; rfl) (by unfold maxLen; omega) (by omega) (Nat.zero_le _)) ?_
      rintro v3 w3 ⟨hown3, hgrow3, hnil3, hat3⟩
      obtain ⟨p2, c2, hv3, k1, k2, k3⟩ := HM.out _ _ _ hown3 hgrow3 hat3
      subst hv3
      have c9 : w3.cell? ⟨u2.heap.size, 9, none⟩ = some (.slice p' j c') := by
        rw [cell_of_row w3 _ 9 _ _ _ k1]
        show some (Value.slice p' ((l.take j).map fixB).length c') = _
        rw [HLJ.out]
      have f9 := frozen_of_row w3 _ 9 _ _ k1
      have l9 := lt_of_block k1
      have HKK := Lib.hid (And.intro k2 k3)
      clear hown3 hgrow3 hnil3 hat3 k1 k2 k3 HM
      refine hK.out _ _ (fun _ => c9) ?_
      (clear hK KK; try simp only [Act.put, List.setIfInBounds_toArray, List.set_cons_zero, List.set_cons_succ])
      (repeat (refine wpSeqE_take (v := ?_) rfl (by rfl) (fun wq hSq => ?_) ?_; rotate_left; (focus ((try dsimp only at hSq); go_simp; try with_reducible rfl)); simp only [Act.put, List.setIfInBounds_toArray, List.set_cons_zero, List.set_cons_succ]))
      (refine wpSeqE_do rfl (by rfl) (fun KK hK => ?_); go_simp)
      refine hK.out _ _ (fun hn => absurd rfl hn) ?_
      (clear hK KK; try simp only [Act.put])
      refine wpSeqE_nil ?_
      go_wp2_with fail
      exact ⟨⟨j + 1, by first | rfl | (congr 1), by omega, p2, c2, HKK.out⟩, by simp [intOf]; omega⟩
    · have hlt' : ¬ (j : Int) < (k : Int) := by omega
      obtain rfl : j = k := by omega
      have HZ : Hid (DMade w wr u2.heap.size X ao cs) := by
        have e : (l.take j).map fixB = X.args := by rw [HXE.out, List.take_of_length_le (by rw [HK.out]; exact Nat.le_refl _)]; rfl
        rw [e] at hr
        exact ⟨⟨_, q0, rfl, rfl, hr.raw, hr.ab, hr.hi.mono hr.sz⟩, hr.bl⟩
      clear HR hr hsz
      go_wp2
      go_ret
      exact ⟨_, rfl, by rw [← HXE.out]; exact HZ.out⟩
end
end Go.Proofs.YtninicfnhoediaaGreatDoor.Rr
namespace Go.Proofs.YtninicfnhoediaaGreatDoor.Rr
open Go.ChangeShapes Go.WideShapes Go.ChangeAt Go.RowKit Num

/-! how a reader and its memory begin, and go on from a later moment -/
section
variable {W w w' : World} {G0 : List Nat} {b mb mg : Nat} {x : Rx} {z : Rz} {ws : List Int} {o : Bool} {n : Int}
theorem full_new {bx : Nat} (hW : Below W.heap.size W w) (hm : MemAt 123 w mb mg ws o n) (ab : W.heap.size ≤ mb) (ag : W.heap.size ≤ mg) (h : Made w w' bx x) (hc : x.cell < 0) : ∃ z, Full W [] bx z mb mg w' x ws o n := by
  obtain ⟨z, F, r, h1, h2, h3⟩ := h.at_
  have hs := hW.size
  have l1 := hm.ltB
  have l2 := hm.ltG
  refine ⟨z, none, r, ⟨F, h1, hm.on h.bl, fun i hi y => ?_, fun i hi y => ?_, ?_⟩, .inl ⟨rfl, hc⟩⟩
  · have := h2 i y
    simp only [List.mem_cons, List.not_mem_nil, or_false] at hi
    omega
  · have := h3 i y
    simp only [List.mem_cons, List.not_mem_nil, or_false] at hi
    omega
  · refine (Below.turn (hW.trans (h.bl.mono hs)) []).mono fun i hi => .inr ?_
    simp only [List.mem_cons] at hi
    rcases hi with hi | hi | hi
    · omega
    · omega
    · have := h2 i hi; omega
theorem Full.rebase (h : Full W G0 b z mb mg w x ws o n) : ∃ G, Full w G b z mb mg w x ws o n ∧ Turn G0 G W w ∧ Blw w G ∧ Sep z.KK G ∧ Blw w z.KK := by
  obtain ⟨q, r, ⟨F, h1, h2, h3, h4, t⟩, h5⟩ := h
  refine ⟨mb :: mg :: gX b z q F, ⟨q, r, ⟨F, h1, h2, h3, h4, Turn.refl _ _⟩, h5⟩, t, fun i hi => ?_, fun i hi y => ?_, h1.blwK⟩
  · simp only [List.mem_cons] at hi
    rcases hi with rfl | rfl | hi
    · exact h2.ltB
    · exact h2.ltG
    · exact h1.blw i hi
  · simp only [List.mem_cons] at y
    rcases y with rfl | rfl | y
    · exact h4 _ (by simp) hi
    · exact h4 _ (by simp) hi
    · exact h1.sep i hi y
theorem Full.from {G : List Nat} (h : Full w G b z mb mg w' x ws o n) (t : Turn G0 G W w) : Full W G0 b z mb mg w' x ws o n := by
  obtain ⟨q, r, ⟨F, h1, h2, h3, h4, t2⟩, h5⟩ := h
  exact ⟨q, r, ⟨F, h1, h2, h3, h4, t.trans t2⟩, h5⟩
theorem Full.kept {G L : List Nat} (h : Full w G b z mb mg w' x ws o n) (s : Sep L G) (hb : Blw w L) : Kept L w w' := by
  obtain ⟨q, r, ⟨F, h1, h2, h3, h4, t⟩, h5⟩ := h
  exact t.kept s hb
theorem Full.below (h : Full W [] b z mb mg w x ws o n) : Below W.heap.size W w := by
  obtain ⟨q, r, ⟨F, h1, h2, h3, h4, t⟩, h5⟩ := h
  exact t.below (fun _ hi => by simp at hi) (Nat.le_refl _)
theorem Full.mem (h : Full W G0 b z mb mg w x ws o n) : MemAt 123 w mb mg ws o n := by
  obtain ⟨q, r, h1, _⟩ := h
  exact h1.mem
theorem Full.memb {ws' : List Int} {o' : Bool} {n' : Int} (h : Full W G0 b z mb mg w x ws o n) (k : Chg mb mg w w') (hm : MemAt 123 w' mb mg ws' o' n') : Full W G0 b z mb mg w' x ws' o' n' := by
  obtain ⟨q, r, h1, h2⟩ := h
  exact ⟨q, r, h1.memb k hm, h2⟩
theorem Full.raw (h : Full W G0 b z mb mg w x ws o n) : ∃ q F r, RawAt w b x z q F (comC x) r := by
  obtain ⟨q, r, ⟨F, h1, _⟩, _⟩ := h
  exact ⟨q, F, r, h1⟩
theorem Full.poke (h : Full W G0 b z mb mg w x ws o n) (i v : Int) : Calls Tryz.prog 36 #[.pointer (some ⟨mb, 0, none⟩), .int .i64 i, .int .u64 v] w fun e w' => e = .returned (.int .i64 (errP ws i)) ∧ Full W G0 b z mb mg w' x (Md.poked ws i v) o n := by
  refine (Md.poke_any h.mem i v).mono ?_
  rintro e w' ⟨rfl, k1, k2⟩
  exact ⟨rfl, h.memb k2 k1⟩
end
/-! the chapter's first example -/
def lvC : List Ins := [⟨1, 0, 0⟩, ⟨16, 0, 0⟩, ⟨18, 0, 0⟩, ⟨20, 0, 0⟩]
def lvW : List Int := [0, 0, 3, 0, 0, 4, 4619567317775286272, 4618441417868443648]
def lvS : Nat → Rx × List Int × Bool × Int
  | 0 => (newX 1 2 20 1 1 lvC [] 1, lvW, false, 0)
  | i + 1 => ((stepX (lvS i).1 (lvS i).2.1).1, (stepX (lvS i).1 (lvS i).2.1).2.1, !(stepX (lvS i).1 (lvS i).2.1).2.2, if (stepX (lvS i).1 (lvS i).2.1).2.2 then up (lvS i).2.2.2 else (lvS i).2.2.2)
theorem lvS_part : ∀ i, i < 9 → (lvS i).1.part ≠ 4 := by
  intro i hi
  have : ((List.range 9).all fun i => (lvS i).1.part != 4) = true := by decide +kernel
  have := List.all_eq_true.1 this i (List.mem_range.2 hi)
  simpa using this
theorem lvS_end : (lvS 9).1.part = 4 ∧ (lvS 9).2.2.2 = 6 ∧ markV (lvS 9).1 = 3 ∧ (lvS 9).1.steps = 9 ∧ (lvS 9).1.m.how = 1 ∧ (lvS 9).1.m.cod = 0 ∧ (lvS 9).1.m.err = 0 ∧ (lvS 9).1.m.out = [4618441417868443648] := by
  refine ⟨by decide +kernel, by decide +kernel, by decide +kernel, by decide +kernel, by decide +kernel, by decide +kernel, by decide +kernel, by decide +kernel⟩
theorem lvS_peek : wordAt (lvS 4).2.1 4 = 4 ∧ hasB (lvS 4).2.1 4 = true := ⟨by decide +kernel, by decide +kernel⟩
theorem lvS_in : ∀ i, i ≤ 9 → InX (lvS i).1 ∧ okW (lvS i).2.1 ∧ plW (lvS i).1 ≤ ((lvS i).2.1.length : Int)
  | 0, _ => ⟨new_in (by decide +kernel) (fun k hk => by
      match k, hk with
      | 0, _ => decide
      | 1, _ => decide
      | 2, _ => decide
      | 3, _ => decide
      | k + 4, h => exact absurd h (by simp [lvC])) (fun x hx => by simp at hx) (by decide) ⟨by decide, by decide⟩, (fun v hv => by
      simp only [lvS, lvW, List.mem_cons, List.not_mem_nil, or_false] at hv
      unfold u64B
      omega), by decide +kernel⟩
  | i + 1, h => by
    obtain ⟨h1, h2, h3⟩ := lvS_in i (by omega)
    obtain ⟨g1, g2, _, g4, g5⟩ := step_in h1 (lvS_part i (by omega)) h2
    refine ⟨g1, g4, ?_⟩
    show plW (stepX (lvS i).1 (lvS i).2.1).1 ≤ ((stepX (lvS i).1 (lvS i).2.1).2.1.length : Int)
    rw [g5]
    unfold plW at h3 ⊢
    rw [g2.a, g2.b]
    exact h3
abbrev lvO : Obj := .cells #[.int .i64 1, .int .i64 0, .float .f64 0, .int .i64 16, .int .i64 0, .float .f64 0, .int .i64 18, .int .i64 0, .float .f64 0, .int .i64 20, .int .i64 0, .float .f64 0] 91
abbrev lvN (W : World) : World := ((W.alloc (cfgO 1 2 20 1)).alloc lvO).alloc (prgO 1 (some ⟨W.heap.size + 1, 0, none⟩) 4 4)
theorem lvN_below (W : World) : Below W.heap.size W (lvN W) := ((below_alloc W _).trans ((below_alloc _ _).mono (by simp))).trans ((below_alloc _ _).mono (by simp; omega))
theorem lvN_code {W u : World} (h : Below (lvN W).heap.size (lvN W) u) : CodeAt u (some ⟨W.heap.size + 1, 0, none⟩) lvC ∧ u.heap[W.heap.size]? = some (cfgO 1 2 20 1) ∧ u.heap[W.heap.size + 1 + 1]? = some (prgO 1 (some ⟨W.heap.size + 1, 0, none⟩) 4 4) := by
  have h1 : (lvN W).heap[W.heap.size + 1]? = some lvO := heap_old (heap_new (by simp))
  have h0 : (lvN W).heap[W.heap.size]? = some (cfgO 1 2 20 1) := heap_old (heap_old (heap_alloc_new _ _))
  have h2 : (lvN W).heap[W.heap.size + 1 + 1]? = some (prgO 1 (some ⟨W.heap.size + 1, 0, none⟩) 4 4) := heap_new (by simp)
  have hb : u.heap[W.heap.size + 1]? = some lvO := (h.block _ (lt_of_block h1)).trans h1
  refine ⟨fun i hi => ⟨_, 0, rfl, lt_of_block hb, ?_⟩, (h.block _ (lt_of_block h0)).trans h0, (h.block _ (lt_of_block h2)).trans h2⟩
  have C : ∀ j, u.cell? ⟨W.heap.size + 1, j, none⟩ = _ := fun j => cell_of_row u _ j _ _ _ hb
  match i, hi with
  | 0, _ => exact ⟨(C 0).trans rfl, (C 1).trans rfl, (C 2).trans rfl⟩
  | 1, _ => exact ⟨(C 3).trans rfl, (C 4).trans rfl, (C 5).trans rfl⟩
  | 2, _ => exact ⟨(C 6).trans rfl, (C 7).trans rfl, (C 8).trans rfl⟩
  | 3, _ => exact ⟨(C 9).trans rfl, (C 10).trans rfl, (C 11).trans rfl⟩
  | q + 4, h => exact absurd h (by simp [lvC])
/-- the words behind the first i Pokes -/
def lvP : Nat → List Int
  | 0 => [0, 0, 0, 0, 0, 0, 0, 0]
  | i + 1 => (lvP i).set i (lvW.getD i 0)
theorem lvP_len : ∀ i, (lvP i).length = 8
  | 0 => rfl
  | i + 1 => by unfold lvP; rw [List.length_set]; exact lvP_len i
theorem lvP_end : lvP 8 = lvW := by decide +kernel
theorem lvP_poke {i : Nat} (h : i < 8) : Md.poked (lvP i) (i : Int) (lvW.getD i 0) = lvP (i + 1) := by
  unfold Md.poked
  rw [hasB_of (by omega) (by rw [lvP_len]; omega), if_pos rfl]
  rfl
attribute [local go_sem] bits_run
set_option maxRecDepth 100000 in
set_option maxHeartbeats 4000000 in
theorem live_any {W : World} (hT : Shaped5 W) : Calls Tryz.prog 9 #[] W fun e w' => e = .returned (.bool true) ∧ Below W.heap.size W w' := by
  have HM : Hid (∀ u, Calls Tryz.prog 22 #[.int .i64 8] u fun e w' => e = .returned (.tuple #[.pointer (some ⟨u.heap.size + 1, 0, none⟩), .int .i64 0]) ∧ MemAt 123 w' (u.heap.size + 1) u.heap.size (lvP 0) false 0 ∧ Below u.heap.size u w') := fun u => Md.new_some 8 (by omega) (by omega) u
  have HN : Hid (∀ u, Below (lvN W).heap.size (lvN W) u → Calls Tryz.prog 35 #[cfgV 1 2 20 1, .int .i64 1, .agg #[.int .i64 1, .slice (some ⟨W.heap.size + 1, 0, none⟩) 4 4], .slice none 0 0] u fun r w' => ∃ bx, r = .returned (.pointer (some ⟨bx, 0, none⟩)) ∧ Made u w' bx (lvS 0).1) := fun u hb => new_yes (cs := lvC) (l := []) (by decide +kernel) rfl rfl (by omega) ((hT.on (lvN_below W)).on hb) (lvN_code hb).1 (fun j hj => by simp at hj) (by omega) (by omega) (by omega)
  have HB := Lib.hid (lvN_below W)
  have HC : Hid (∀ u, Below (lvN W).heap.size (lvN W) u → u.heap[W.heap.size]? = some (cfgO 1 2 20 1) ∧ u.heap[W.heap.size + 1 + 1]? = some (prgO 1 (some ⟨W.heap.size + 1, 0, none⟩) 4 4)) := fun u hb => (lvN_code hb).2
  have T0 : Hid (TabAt W []) := ⟨hT, by simp⟩
  have he1 := fun w => end_eq 1 0 0 w
  clear hT
  go_enter Tryz.func9, Tryz.ntmps9
  go_wp2_with (first
    | (go_at_call 35; refine (HN.out _ H1.out.2.1).mono ?_; rintro e u2 ⟨bx, rfl, q⟩; have H2 := Lib.hid q; clear q HN)
    | (go_at_call 22; refine (HM.out _).mono ?_; rintro e u1 ⟨rfl, q1, q2⟩; have H1 : Hid (MemAt 123 u1 ((lvN W).heap.size + 1) (lvN W).heap.size (lvP 0) false 0 ∧ Below (lvN W).heap.size (lvN W) u1 ∧ Below W.heap.size W u1) := ⟨q1, q2, HB.out.trans (q2.mono HB.out.size)⟩; obtain ⟨y0, y1⟩ := HC.out _ q2; obtain ⟨c0, c1, c2, c3, c4⟩ := cells4 y0; obtain ⟨d0, d1, d2⟩ := cells2 y1; clear q1 q2 y0 y1 HM HC))
  have HF0 : Hid (∃ z, Full W [] bx z (W.heap.size + 1 + 1 + 1 + 1) (W.heap.size + 1 + 1 + 1) u2 (lvS 0).1 (lvP 0) false 0) := by
    have e : (lvN W).heap.size = W.heap.size + 1 + 1 + 1 := by simp
    have h1 := H1.out
    rw [e] at h1
    exact full_new h1.2.2 h1.1 (by omega) (by omega) H2.out (by show (-1 : Int) < 0; omega)
  obtain ⟨z, hz⟩ := HF0.out
  have HF := Lib.hid hz
  clear hz HF0 H1 H2 c0 c1 c2 c3 c4 d0 d1 d2 HB
  obtain ⟨mb, hmb⟩ : ∃ mb, W.heap.size + 1 + 1 + 1 + 1 = mb := ⟨_, rfl⟩
  obtain ⟨mg, hmg⟩ : ∃ mg, W.heap.size + 1 + 1 + 1 = mg := ⟨_, rfl⟩
  rw [hmb, hmg] at HF
  rw [hmb]
  clear hmb hmg
  have HQ0 : Hid (Full W [] bx z mb mg (u2.alloc (.cells #[.int .u64 0, .int .u64 0, .int .u64 3, .int .u64 0, .int .u64 0, .int .u64 4, .int .u64 4619567317775286272, .int .u64 4618441417868443648] 53)) (lvS 0).1 (lvP 0) false 0 ∧ (u2.alloc (.cells #[.int .u64 0, .int .u64 0, .int .u64 3, .int .u64 0, .int .u64 0, .int .u64 4, .int .u64 4619567317775286272, .int .u64 4618441417868443648] 53)).heap[u2.heap.size]? = some (.cells (u64s lvW).toArray 53 (0, 0)) ∧ u2.heap.size ≠ mb ∧ u2.heap.size ≠ mg) := ⟨HF.out.on (below_alloc _ _), heap_alloc_new _ _, fun y => by have := HF.out.mem.ltB; omega, fun y => by have := HF.out.mem.ltG; omega⟩
  clear HF
  go_loopw [41] (fun vi wr => ∃ i : Nat, vi = .int .i64 i ∧ i ≤ 8 ∧ Hid (Full W [] bx z mb mg wr (lvS 0).1 (lvP i) false 0 ∧ wr.heap[u2.heap.size]? = some (.cells (u64s lvW).toArray 53 (0, 0)))) (fun vi _ => 8 - (intOf vi).toNat)
  case atStart => exact ⟨0, rfl, by omega, HQ0.out.1, HQ0.out.2.1⟩
  case round =>
    obtain ⟨i, rfl, hi, HR⟩ := hrel
    by_cases hlt : i < 8
    · have hlt' : (i : Int) < 8 := by omega
      have hx : wr.cell? ⟨u2.heap.size, i, none⟩ = some (.int .u64 (lvW.getD i 0)) := by
        rw [cell_of_row wr _ i _ _ _ HR.out.2]
        have : i < lvW.length := hlt
        simp [u64s, this]
      have hg := lt_of_block HR.out.2
      have HP := Lib.hid (Md.poke_any HR.out.1.mem (i : Int) (lvW.getD i 0))
      rw [lvP_poke hlt] at HP
      have HK : Hid (∀ u3, MemAt 123 u3 mb mg (lvP (i + 1)) false 0 → Chg mb mg wr u3 → Full W [] bx z mb mg u3 (lvS 0).1 (lvP (i + 1)) false 0 ∧ u3.heap[u2.heap.size]? = some (.cells (u64s lvW).toArray 53 (0, 0))) := fun u3 k1 k2 => ⟨HR.out.1.memb k2 k1, (k2.block _ hg HQ0.out.2.2.1 HQ0.out.2.2.2).trans HR.out.2⟩
      generalize lvW.getD i 0 = y at hx HP
      go_wp2_with (go_at_call 36; refine HP.out.mono ?_; rintro e u3 ⟨rfl, q1, q2⟩; have HQ := Lib.hid (HK.out _ q1 q2); clear q1 q2)
      exact ⟨⟨i + 1, by first | rfl | (congr 1), by omega, HQ.out⟩, by simp [intOf]; omega⟩
    · have hlt' : ¬ (i : Int) < 8 := by omega
      obtain rfl : i = 8 := by omega
      have HF8 := Lib.hid HR.out.1
      rw [lvP_end] at HF8
      clear HR HQ0
      go_wp2_with fail
      go_loopw [0, 4, 8, 9] (fun v0 v4 v8 v9 wr => ∃ i : Nat, v9 = .int .i64 i ∧ i ≤ 9 ∧ v8 = .bool (decide (i = 9)) ∧ v4 = .int .i64 0 ∧ v0 = .bool false ∧ Hid (Full W [] bx z mb mg wr (lvS i).1 (lvS i).2.1 (lvS i).2.2.1 (lvS i).2.2.2)) (fun v0 v4 v8 v9 _ => 9 - (intOf v9).toNat)
      case atStart => exact ⟨0, rfl, by omega, rfl, rfl, rfl, HF8.out⟩
      case round =>
        obtain ⟨i, rfl, hi, rfl, rfl, rfl, HR⟩ := hrel
        by_cases hlt : i < 9
        · have hlt' : (i : Int) < 9 := by omega
          have hd : decide (i = 9) = false := decide_eq_false (by omega)
          have HI := Lib.hid (lvS_in i (by omega))
          have HS : Hid (Calls Tryz.prog 14 #[.pointer (some ⟨bx, 0, none⟩), .pointer (some ⟨mb, 0, none⟩)] wr fun e w' => e = .returned (.tuple #[.bool (decide (i + 1 = 9)), .int .i64 0]) ∧ Full W [] bx z mb mg w' (lvS (i + 1)).1 (lvS (i + 1)).2.1 (lvS (i + 1)).2.2.1 (lvS (i + 1)).2.2.2) := by
            have := step_any HR.out T0.out HI.out.1 (lvS_part i hlt) HI.out.2.2 HI.out.2.1 (y := (lvS (i + 1)).1) (ws' := (lvS (i + 1)).2.1) (ac := (stepX (lvS i).1 (lvS i).2.1).2.2) rfl
            have e : decide (((lvS (i + 1)).1.part : Int) = 4) = decide (i + 1 = 9) := by
              rw [decide_eq_decide]
              by_cases q : i + 1 = 9
              · rw [q]; simp [lvS_end.1]
              · have := lvS_part (i + 1) (by omega)
                omega
            rw [e] at this
            exact this
          clear HI
          generalize hod : decide (i + 1 = 9) = od at HS
          rw [hd]
          by_cases h3 : i = 3
          · have h3' : ((i : Int) == 3) = true := by simp; omega
            have HPK : Hid (∀ u, Full W [] bx z mb mg u (lvS (i + 1)).1 (lvS (i + 1)).2.1 (lvS (i + 1)).2.2.1 (lvS (i + 1)).2.2.2 → Calls Tryz.prog 25 #[.pointer (some ⟨mb, 0, none⟩), .int .i64 4] u fun e w' => e = .returned (.tuple #[.int .u64 4, .int .i64 (errP (lvS (i + 1)).2.1 4)]) ∧ w' = u) := fun u k => by
              have := Md.peek_any k.mem 4
              subst h3
              rw [if_pos lvS_peek.2, lvS_peek.1] at this
              exact this
            generalize errP (lvS (i + 1)).2.1 4 = ep at HPK
            clear hd h3
            go_wp2_with (first
              | (go_at_call 25; refine (HPK.out _ HQ.out).mono ?_; rintro e u4 ⟨rfl, hw⟩; subst u4)
              | (go_at_call 14; refine HS.out.mono ?_; rintro e u3 ⟨rfl, q⟩; have HQ := Lib.hid q; clear q HS))
            subst hod
            exact ⟨⟨i + 1, by first | rfl | (congr 1), by omega, rfl, rfl, rfl, HQ.out⟩, by simp [intOf]; omega⟩
          · have h3' : ((i : Int) == 3) = false := by simp; omega
            clear hd h3
            go_wp2_with (go_at_call 14; refine HS.out.mono ?_; rintro e u3 ⟨rfl, q⟩; have HQ := Lib.hid q; clear q HS)
            subst hod
            exact ⟨⟨i + 1, by first | rfl | (congr 1), by omega, rfl, rfl, rfl, HQ.out⟩, by simp [intOf]; omega⟩
        · have hlt' : ¬ (i : Int) < 9 := by omega
          obtain rfl : i = 9 := by omega
          obtain ⟨e1, e2, e3, e4, e5, e6, e7, e8⟩ := lvS_end
          have HI := Lib.hid (lvS_in 9 (by omega)).1
          have HR9 := Lib.hid HR.out
          rw [e2] at HR9
          have HCT : Hid (∀ u, Below wr.heap.size wr u → Calls Tryz.prog 24 #[.pointer (some ⟨mb, 0, none⟩)] u fun e w' => e = .returned (.int .i64 6) ∧ w' = u) := fun u hu => Md.count_any (HR9.out.on hu).mem
          have HPH : Hid (∀ u, Below wr.heap.size wr u → Calls Tryz.prog 18 #[.pointer (some ⟨bx, 0, none⟩)] u fun e w' => e = .returned (.int .i64 4) ∧ w' = u) := fun u hu => by
            obtain ⟨q, F, r, h⟩ := (HR9.out.on hu).raw
            have := phase_raw h
            rw [e1] at this
            exact this
          have HDE : Hid (Calls Tryz.prog 20 #[.pointer (some ⟨bx, 0, none⟩)] wr fun e w' => ∃ D, e = .returned (.agg (dC (lvS 9).1.tag (lvS 9).1.args.length (lvS 9).1.m D 3 1 0 0 9)) ∧ DdAt w' wr.heap.size D (lvS 9).1.args (lvS 9).1.m ∧ Below wr.heap.size wr w') := by
            obtain ⟨q, F, r, h⟩ := HR9.out.raw
            have := Deed_any h HI.out.toIn0 rfl rfl e3 (show endI (lvS 9).1 (lvS 9).1.m.how = 1 by unfold endI; rw [if_pos e1]; exact e5) (show endI (lvS 9).1 (lvS 9).1.m.cod = 0 by unfold endI; rw [if_pos e1]; exact e6) (show endI (lvS 9).1 (lvS 9).1.m.err = 0 by unfold endI; rw [if_pos e1]; exact e7)
            rw [e4] at this
            exact this
          have HB9 : Hid (Below W.heap.size W wr) := HR9.out.below
          have HO8 : Hid ((lvS 9).1.m.out = [4618441417868443648]) := e8
          clear HR HI e1 e2 e3 e4 e5 e6 e7 e8 HR9
          go_wp2_with (first
            | (refine wpList_store_row rfl 61 _ _ rfl u4.heap.size (dC (lvS 9).1.tag (lvS 9).1.args.length (lvS 9).1.m D 3 1 0 0 9) rfl rfl _ _ (heap_alloc_new _ _) deedInfo rfl (deed_one _ _ _ _ _ _ _ _ _) ?_; rw [World.setRow_alloc_new])
            | (go_at_call 24; refine (HCT.out _ (H4.out.2.alloc H4.out.2.size _)).mono ?_; rintro e u5 ⟨rfl, hw⟩; subst u5)
            | (go_at_call 18; refine (HPH.out _ (H4.out.2.alloc H4.out.2.size _)).mono ?_; rintro e u5 ⟨rfl, hw⟩; subst u5)
            | (go_at_call 20; refine HDE.out.mono ?_; rintro e u4 ⟨D, rfl, q1, q2⟩; have H4 := Lib.hid (And.intro q1 q2); obtain ⟨g, _, hg, lg, cg⟩ := row_first (show RowAt 71 u4 D.po D.co (fls [4618441417868443648]) from by rw [← HO8.out]; exact q1.o); have ol : (lvS 9).1.m.out.length = 1 := (by rw [HO8.out]; rfl); clear q1 q2 HDE))
          rw [show (FloatKind.f64.format.order 4618441417868443648 4618441417868443648 == some Ordering.eq) = true by decide +kernel]
          go_ret
          have hb := HB9.out.trans (H4.out.2.mono HB9.out.size)
          exact ⟨rfl, hb.alloc hb.size _⟩
end Go.Proofs.YtninicfnhoediaaGreatDoor.Rr
namespace Go.Proofs.YtninicfnhoediaaGreatDoor

/-! a drawn region in which, behind what only reads, two operations may come up, whichever first -/
section
variable {P : Program} {ops : Array Oper} {Q : Exit → Act → World → Prop} {md : Region.Mode} {S : World → Prop}
def wpTwo (P : Program) (ops : Array Oper) (Q : Exit → Act → World → Prop) (S : World → Prop) (i : Nat) (ri : List (Nat × Bool)) (j : Nat) (rj : List (Nat × Bool)) : List Nat → Act → World → Prop
  | [], a, w => wpOp P ops Q i (fun a' w' => S w' ∧ wpSeq P ops Q S ri a' w') a w ∧ wpOp P ops Q j (fun a' w' => S w' ∧ wpSeq P ops Q S rj a' w') a w
  | x :: rest, a, w => ∃ o v, ops[x]? = some o ∧ YieldsIf P ops S o v a ∧ wpTwo P ops Q S i ri j rj rest (a.put o.dst v) w
def twoB (md : Region.Mode) (ops : Array Oper) (i : Nat) (ri : List (Nat × Bool)) (j : Nat) (rj : List (Nat × Bool)) : Array Bool → List Nat → Bool
  | listed, [] => Region.ready md ops listed == [i, j] && seqB md ops (listed.setIfInBounds i true) ri && seqB md ops (listed.setIfInBounds j true) rj
  | listed, x :: rest => (Region.ready md ops listed).contains x && Region.free md ops listed x && twoB md ops i ri j rj (listed.setIfInBounds x true) rest
theorem wpAnyH_of_two (hs : Region.noSelect ops = true) (hQ : ∀ c t t' d w, Q (.panic c) ⟨t, d⟩ w → Q (.panic c) ⟨t', d⟩ w) {i j : Nat} {ri rj : List (Nat × Bool)} (hlen : rj.length = ri.length) : ∀ (l : List Nat) (listed : Array Bool) (a : Act) (w : World), twoB md ops i ri j rj listed l = true → S w → wpTwo P ops Q S i ri j rj l a w → wpAnyH P md ops Q S (ri.length + 1 + l.length) listed a w
  | [], listed, a, w, hb, _, h => by
    simp only [twoB, Bool.and_eq_true, beq_iff_eq] at hb
    refine wpAnyH_all (rs := [i, j]) hb.1.1 (by simp) fun x hx => ?_
    by_cases e : x = i
    · subst e
      exact wpOp_mono (fun a' w' h' => ⟨h'.1, wpAnyH_of_seq hs hQ ri _ _ _ hb.1.2 h'.1 h'.2⟩) h.1
    · have e2 : x = j := by simpa [e] using hx
      subst e2
      refine wpOp_mono (fun a' w' h' => ⟨h'.1, ?_⟩) h.2
      have := wpAnyH_of_seq (Q := Q) hs hQ rj _ _ _ hb.2 h'.1 h'.2
      rw [hlen] at this
      exact this
  | x :: rest, listed, a, w, hb, hS, h => by
    simp only [twoB, Bool.and_eq_true] at hb
    obtain ⟨o, v, ho, hy, hr⟩ := h
    exact wpAnyH_take ho hs hb.1.2 hb.1.1 (fun c a w h => panic_put hQ h) hy hS (wpAnyH_of_two hs hQ hlen rest _ _ _ hb.2 hS hr)
theorem wp_region_two {id : Nat} {a : Act} {w : World} (S : World → Prop) (l : List Nat) (i : Nat) (ri : List (Nat × Bool)) (j : Nat) (rj : List (Nat × Bool)) (hm : P.follows .mixedOrders = true) (hb : (Region.noSelect ops && rj.length == ri.length && ri.length + 1 + l.length == ops.size && twoB .any ops i ri j rj (Array.replicate ops.size false) l) = true) (hQ : ∀ c t t' d w, Q (.panic c) ⟨t, d⟩ w → Q (.panic c) ⟨t', d⟩ w) (hS : S w.drew) (h : wpTwo P ops Q S i ri j rj l a w.drew) : (Code.region id ops true).wp P Q a w := by
  simp only [Bool.and_eq_true, beq_iff_eq] at hb
  refine wp_region_held (S := S) hm ?_
  rw [← hb.1.2]
  have := wpAnyH_of_two (Q := Q) (S := S) hb.1.1.1 hQ hb.1.1.2 l _ a w.drew hb.2 hS h
  rw [← hb.1.2] at this
  exact this
theorem wpTwo_take {x i j : Nat} {ri rj : List (Nat × Bool)} {rest : List Nat} {o : Oper} {v : Value} {a : Act} {w : World} (ho : nth ops.toList x = some o) (hw : Region.wanted o (yielded ops a.tmps) = true) (hy : ∀ w, S w → (execOp a.eval o).run P w = .ok (.value v) w) (h : wpTwo P ops Q S i ri j rj rest (a.put o.dst v) w) : wpTwo P ops Q S i ri j rj (x :: rest) a w := ⟨o, v, op_at ho, .inl ⟨hw, hy⟩, h⟩
theorem wpTwo_nil {i j : Nat} {ri rj : List (Nat × Bool)} {a : Act} {w : World} (h1 : wpSeq P ops Q S ((i, false) :: ri) a w) (h2 : wpSeq P ops Q S ((j, false) :: rj) a w) : wpTwo P ops Q S i ri j rj [] a w := ⟨h1, h2⟩
end
end Go.Proofs.YtninicfnhoediaaGreatDoor
namespace Go.Proofs.YtninicfnhoediaaGreatDoor.Rr
open Go.ChangeShapes Go.WideShapes Go.ChangeAt Go.RowKit Num

/-! append onto nothing: a copy in a block of its own -/
/-- a slice of n things of sz cells each: nothing, or a block of its own, from B on -/
def Cpy (B : Nat) (w' : World) (e : TypeId) (sz : Nat) (p : Option Addr) (n c : Nat) : Prop := (p = none ∧ n = 0) ∨ ∃ g arr, p = some ⟨g, 0, none⟩ ∧ B ≤ g ∧ w'.heap[g]? = some (.cells arr e (0, 0)) ∧ arr.size = c * sz ∧ n ≤ c
theorem app_nil {t e ty : TypeId} {i : TypeInfo} {z : Value} (ht : Tryz.prog.underlying t = some (.slice e)) (hi : Tryz.prog.info? e = some i) (hz : i.zero = some z) (hzs : z.cells.size = i.size) {w : World} {news : List Value} {n : Nat} {x : Value} (hs : Src Tryz.prog i.size t x n news w) (hb : n * i.bytes ≤ 140737488355328) (h63 : n ≤ 9223372036854775807) :
    ∃ v w', (Builtin.append_ #[t, t] ty #[.slice none 0 0, x]).run Tryz.prog w = .ok v w' ∧ ∃ p c, v = .slice p n c ∧ Cpy w.heap.size w' e i.size p n c ∧ Ro w' p news ∧ Below w.heap.size w w' := by
  by_cases h0 : n = 0
  · subst h0
    have hn : news = [] := by have := hs.newsLen; simpa using this
    refine ⟨.slice none 0 0, w, ?_, none, 0, rfl, .inl ⟨rfl, rfl⟩, by rw [hn]; exact Ro.nil w, Below.refl _ _⟩
    simp [Builtin.append_, run_underlying ht, sizeOf, typeInfo, hi, hs.len, hs.cells, hn]
  · have hold : (Builtin.firstCells i.size 0 (.slice none 0 0)).run Tryz.prog w.drew = .ok ([] : List Value).toArray w.drew := run_firstCells_none _ _ _ _ _
    refine ⟨_, _, run_append_grow_src w t t ty e i z ht hi hz none 0 0 [] hold x n news hs (by omega) (by omega) (growslice_fits (by omega) (by simpa using hb)), some ⟨w.heap.size, 0, none⟩, grownCap w (0 + n) 0 e, by rw [Nat.zero_add], .inr ⟨w.heap.size, _, rfl, Nat.le_refl _, heap_new (w := w.drew) (g := w.heap.size) rfl, ?_, by have := grownCap_ge w (0 + n) 0 e; omega⟩, .inr ⟨_, _, rfl, fun j v hv => ?_⟩, ((Same.drew w).below _).trans (below_alloc w.drew _)⟩
    · have hg := grownCap_ge w (0 + n) 0 e
      have hl := hs.newsLen
      rw [Array.size_append, size_zeroCells, hzs, List.size_toArray, List.nil_append, hl, ← Nat.add_mul, show n + (grownCap w (0 + n) 0 e - (0 + n)) = grownCap w (0 + n) 0 e by omega]
    · have hj := (List.getElem?_eq_some_iff.1 hv).1
      refine (cell_of_row _ w.heap.size (0 + j) _ _ _ (heap_new (w := w.drew) (g := w.heap.size) rfl)).trans ?_
      rw [Nat.zero_add, Array.getElem?_append_left (by simpa using hj)]
      simpa using hv
theorem Cpy.on {B : Nat} {w u : World} {e : TypeId} {sz n c : Nat} {p : Option Addr} (h : Cpy B w e sz p n c) (k : Below w.heap.size w u) : Cpy B u e sz p n c := by
  rcases h with h | ⟨g, arr, h1, h0, h2, h3⟩
  · exact .inl h
  · exact .inr ⟨g, arr, h1, h0, (k.block _ (lt_of_block h2)).trans h2, h3⟩
theorem Cpy.mono {B B' : Nat} {w : World} {e : TypeId} {sz n c : Nat} {p : Option Addr} (h : Cpy B w e sz p n c) (k : B' ≤ B) : Cpy B' w e sz p n c := by
  rcases h with h | ⟨g, arr, h1, h0, h2⟩
  · exact .inl h
  · exact .inr ⟨g, arr, h1, Nat.le_trans k h0, h2⟩
/-- the i-th thing's cell j may be written over -/
theorem Cpy.at_ {B : Nat} {w : World} {e : TypeId} {sz n c : Nat} {p : Option Addr} (h : Cpy B w e sz p n c) {i : Nat} (hi : i < n) : ∃ g, p = some ⟨g, 0, none⟩ ∧ B ≤ g ∧ g < w.heap.size ∧ ∀ j, j < sz → (∃ v, w.cell? ⟨g, i * sz + j, none⟩ = some v) ∧ w.frozen? ⟨g, i * sz + j, none⟩ = false := by
  rcases h with ⟨_, h⟩ | ⟨g, arr, h1, h0, h2, h3, h4⟩
  · omega
  · refine ⟨g, h1, h0, lt_of_block h2, fun j hj => ⟨?_, frozen_of_row w g _ _ _ h2⟩⟩
    rw [cell_of_row w g _ _ _ _ h2]
    have : i * sz + j < arr.size := by
      rw [h3]
      have := Nat.mul_le_mul_right sz (show i + 1 ≤ c by omega)
      rw [Nat.succ_mul] at this
      omega
    exact ⟨_, Array.getElem?_eq_getElem this⟩
theorem Cpy.put {B : Nat} {w : World} {e : TypeId} {sz n c : Nat} {p : Option Addr} (h : Cpy B w e sz p n c) (g j : Nat) (v : Value) : Cpy B (w.setCell ⟨g, j, none⟩ v) e sz p n c := by
  rcases h with h | ⟨g', arr, h1, h0, h2, h3, h4⟩
  · exact .inl h
  · by_cases q : g' = g
    · subst q
      exact .inr ⟨g', _, h1, h0, heap_setCell_same w g' j _ _ v h2, by simpa using h3, h4⟩
    · exact .inr ⟨g', arr, h1, h0, (heap_setCell_other _ _ _ _ q).trans h2, h3, h4⟩
theorem ro_code {w : World} {p : Option Addr} {cs : List Ins} (h : Ro w p (cs.flatMap insC)) : CodeAt w p cs := by
  rcases h with ⟨rfl, h⟩ | ⟨g, o, rfl, h⟩
  · have : cs = [] := by
      have := congrArg List.length h
      rw [insC_len] at this
      exact List.eq_nil_of_length_eq_zero (by simp only [List.length_nil] at this; omega)
    subst this
    intro i hi
    simp at hi
  · cases cs with
    | nil => intro i hi; simp at hi
    | cons i cs => exact codeAt_range (World.block_lt_of_cell? w _ (h 0 _ rfl)) h
/-! the ride, and how both begin -/
abbrev rideV (a b c e th t : Int) (ao : Option Addr) (n cap : Nat) (po : Option Addr) (k co : Nat) (pw : Option Addr) (kw cw : Nat) (pp : Option Addr) (kp cp : Nat) : Array Value := #[.int .i64 a, .int .i64 b, .int .i64 c, .int .i64 e, .int .i64 th, .int .i64 t, .slice ao n cap, .slice po k co, .slice pw kw cw, .slice pp kp cp]
/-- both readers are made -/
structure Bgn (w w' : World) (bx bd : Nat) (x : Rx) (ao : Option Addr) (cs : List Ins) : Prop where
  p : ∃ z F r zd qd, RawAt w' bx x z none F (comC x) r ∧ Abv w.heap.size (gX bx z none F) ∧ Abv w.heap.size z.KK ∧ zd.cs = cs ∧ DRaw w' bd x zd qd ∧ Abv w.heap.size (bd :: Fr zd.br qd) ∧ Abv w.heap.size (fpR zd.pa) ∧ zd.KR = krA ao cs ∧ Sep (gX bx z none F) (dAll bd zd qd) ∧ Sep z.KK (bd :: Fr zd.br qd)
  bl : Below w.heap.size w w'
theorem bgn_of {w u1 u2 u3 u4 : World} {bx bd : Nat} {x : Rx} {ao : Option Addr} {cs : List Ins} (hC : CodeAt w ao cs) (h1 : Below w.heap.size w u1) (hm : Made u1 u2 bx x) (t : ∀ k, u1.heap.size ≤ k → k < u2.heap.size → u3.heap[k]? = u2.heap[k]?) (hs : u2.heap.size ≤ u3.heap.size) (hb3 : Below w.heap.size w u3) (hd : DMade u3 u4 bd x ao cs) : Bgn w u4 bx bd x ao cs := by
  obtain ⟨z, F, r, m1, m2, m3⟩ := hm.at_
  obtain ⟨zd, qd, d0, d4, d1, d2, d3⟩ := hd.at_
  have s1 := h1.size
  have s3 := hb3.size
  have s2 := hm.bl.size
  have r3 : RawAt u3 bx x z none F (comC x) r := m1.keep ⟨hs, fun i hi => t i (m2 i hi) (m1.blw i hi)⟩ ⟨hs, fun i hi => t i (m3 i hi) (m1.blwK i hi)⟩
  have kr : Blw w zd.KR := by rw [d4]; exact krA_blw hC
  refine ⟨⟨z, F, r, zd, qd, r3.on hd.bl, m2.mono s1, m3.mono s1, d0, d1, d2.mono s3, d3.mono s3, d4, fun i hi y => ?_, fun i hi y => ?_⟩, hb3.trans (hd.bl.mono s3)⟩
  · have l1 := m1.blw i hi
    have l2 := m2 i hi
    have D2 : i ∈ bd :: Fr zd.br qd → u3.heap.size ≤ i := d2 i
    have D3 : i ∈ fpR zd.pa → u3.heap.size ≤ i := d3 i
    have D4 : i ∈ zd.KR → i < w.heap.size := kr i
    simp only [dAll, List.mem_cons, List.mem_append] at y D2
    rcases y with y | y | y | y
    · have := D2 (.inl y); omega
    · have := D2 (.inr y); omega
    · have := D4 y; omega
    · have := D3 y; omega
  · have l1 := m1.blwK i hi
    have := d2 i y
    omega
/-- what the law hands in: its parts -/
structure RideAt (W : World) (cs : List Ins) (l : List Nat) (ao po : Option Addr) (n k : Nat) : Prop where
  sh : Shaped5 W
  hn : cs.length = n
  hk : l.length = k
  code : CodeAt W ao cs
  args : FlAt W po l
  cx : ∀ i ∈ cs, i.x < 18446744073709551616
  lx : ∀ x ∈ l, x < 18446744073709551616
  nb : n * 24 ≤ 140737488355328
  kb : k * 8 ≤ 140737488355328
theorem ride_cells {w : World} {x : Nat} {a b c e th t : Int} {ao : Option Addr} {n cap : Nat} {po : Option Addr} {k co : Nat} {pw : Option Addr} {kw cw : Nat} {pp : Option Addr} {kp cp : Nat} (h : w.heap[x]? = some (.cells (rideV a b c e th t ao n cap po k co pw kw cw pp kp cp) 31 (0, 0))) : w.cell? ⟨x, 0, none⟩ = some (.int .i64 a) ∧ w.cell? ⟨x, 1, none⟩ = some (.int .i64 b) ∧ w.cell? ⟨x, 2, none⟩ = some (.int .i64 c) ∧ w.cell? ⟨x, 3, none⟩ = some (.int .i64 e) ∧ w.cell? ⟨x, 4, none⟩ = some (.int .i64 th) ∧ w.cell? ⟨x, 5, none⟩ = some (.int .i64 t) ∧ w.cell? ⟨x, 6, none⟩ = some (.slice ao n cap) ∧ w.cell? ⟨x, 7, none⟩ = some (.slice po k co) ∧ w.cell? ⟨x, 8, none⟩ = some (.slice pw kw cw) ∧ w.cell? ⟨x, 9, none⟩ = some (.slice pp kp cp) ∧ x < w.heap.size :=
  (cells10 h).1
section
variable {W : World} {a b c e th t : Int} {ao : Option Addr} {cs : List Ins} {n cap : Nat} {po : Option Addr} {l : List Nat} {k co : Nat} {pw : Option Addr} {kw cw : Nat} {pp : Option Addr} {kp cp : Nat}
attribute [local go_sem] run_store_float
set_option maxRecDepth 100000 in
set_option maxHeartbeats 4000000 in
theorem begun_any (h : RideAt W cs l ao po n k) : Calls Tryz.prog 10 #[.agg (rideV a b c e th t ao n cap po k co pw kw cw pp kp cp)] W fun r w' => ∃ q1 q2, r = .returned (.tuple #[.pointer q1, .pointer q2]) ∧ Hid ((mayX a b c e k th = true ∧ ∃ bx bd, q1 = some ⟨bx, 0, none⟩ ∧ q2 = some ⟨bd, 0, none⟩ ∧ Bgn W w' bx bd (newX a b c e t cs l th) ao cs) ∨ (mayX a b c e k th = false ∧ q1 = none ∧ q2 = none ∧ Below W.heap.size W w')) := by
  obtain ⟨i1, hi1, hz1, hs1, hb1⟩ := info_parts fInfo
  obtain ⟨i2, hi2, hz2, hs2, hb2⟩ := info_parts insInfo
  have HA1 : Hid (∀ u, Below W.heap.size W u → ∃ v w', (Builtin.append_ #[27, 27] 27 #[.slice none 0 0, .slice po k co]).run Tryz.prog u = .ok v w' ∧ ∃ p c, v = .slice p k c ∧ Cpy u.heap.size w' 71 1 p k c ∧ Ro w' p (fls l) ∧ Below u.heap.size u w') := fun u hu => by
    have hsrc := src_fl co (h.args.on hu)
    rw [h.hk] at hsrc
    have := app_nil (ty := 27) (i := i1) (z := .float .f64 0) Tryz.underlying27 hi1 hz1 (by rw [hs1]; rfl) (by rw [hs1]; exact hsrc) (by rw [hb1]; exact h.kb) (by have := h.kb; omega)
    rw [hs1] at this
    exact this
  have HA2 : Hid (∀ u, Below W.heap.size W u → ∃ v w', (Builtin.append_ #[24, 24] 24 #[.slice none 0 0, .slice ao n cap]).run Tryz.prog u = .ok v w' ∧ ∃ p c, v = .slice p n c ∧ Cpy u.heap.size w' 91 3 p n c ∧ Ro w' p (cs.flatMap insC) ∧ Below u.heap.size u w') := fun u hu => by
    have hsrc := src_code cap (h.code.on hu)
    rw [h.hn] at hsrc
    have := app_nil (ty := 24) (i := i2) (z := .agg #[.int .i64 0, .int .i64 0, .float .f64 0]) Tryz.underlying24 hi2 hz2 (by rw [hs2]; rfl) (by rw [hs2]; exact hsrc) (by rw [hb2]; exact h.nb) (by have := h.nb; omega)
    rw [hs2] at this
    exact this
  have H0 : Hid (Below W.heap.size W (W.alloc (.cells (rideV a b c e th t ao n cap po k co pw kw cw pp kp cp) 31)) ∧ (W.alloc (.cells (rideV a b c e th t ao n cap po k co pw kw cw pp kp cp) 31)).heap[W.heap.size]? = some (.cells (rideV a b c e th t ao n cap po k co pw kw cw pp kp cp) 31 (0, 0))) := ⟨below_alloc _ _, heap_alloc_new _ _⟩
  clear hi1 hz1 hs1 hb1 hi2 hz2 hs2 hb2 i1 i2
  go_enter Tryz.func10, Tryz.ntmps10
  go_upto_region 2 with (at_builtin; refine wpList_append_ex rfl _ _ 27 27 rfl (.slice none 0 0) (.slice po k co) rfl rfl (HA1.out _ H0.out.1) ?_; rintro v u1 ⟨p1, c1, rfl, q1, q2, q3⟩; have H1 : Hid (Cpy (W.heap.size + 1) u1 71 1 p1 k c1 ∧ FlAt u1 p1 l ∧ Below W.heap.size W u1 ∧ u1.heap[W.heap.size]? = some (.cells (rideV a b c e th t ao n cap po k co pw kw cw pp kp cp) 31 (0, 0))) := ⟨q1.mono (by simp), q2.fl, H0.out.1.trans (q3.mono H0.out.1.size), (q3.block _ (lt_of_block H0.out.2)).trans H0.out.2⟩; clear q1 q2 q3)
  go_cut [5] (fun v5 wc => ∃ g5 p2 c2, v5 = .pointer (some ⟨g5, 0, none⟩) ∧ Hid (Cpy (W.heap.size + 1) wc 91 3 p2 n c2 ∧ CodeAt wc p2 cs ∧ wc.heap[g5]? = some (prgO t p2 n c2) ∧ u1.heap.size ≤ g5 ∧ Below u1.heap.size u1 wc))
  case first =>
    obtain ⟨e0, e1, e2, e3, e4, e5, e6, e7, e8, e9, lb⟩ := ride_cells H1.out.2.2.2
    refine wp_region_two (fun u => u.cell? ⟨W.heap.size, 5, none⟩ = some (.int .i64 t) ∧ u.cell? ⟨W.heap.size, 6, none⟩ = some (.slice ao n cap)) [0, 1, 2, 3, 4, 5] 6 [(7, true), (8, false), (9, false)] 8 [(6, false), (7, true), (9, false)] Md.Cv.follows13 (by kernel_rfl) (fun _ _ _ _ _ h => h) ⟨e5, e6⟩ ?_
    repeat (refine wpTwo_take (v := ?_) rfl (by rfl) (fun wq hSq => ?_) ?_; rotate_left; (focus ((try dsimp only at hSq); go_simp; try with_reducible rfl)); simp only [Act.put, List.setIfInBounds_toArray, List.set_cons_zero, List.set_cons_succ])
    refine wpTwo_nil ?_ ?_
    · refine wpSeq_do rfl (by rfl) (fun KK hK => ?_)
      refine wp_append_ex _ _ 24 24 rfl (.slice none 0 0) (.slice ao n cap) rfl rfl (HA2.out _ (H1.out.2.2.1.trans ((Same.drew u1).below _))) ?_
      rintro v u2 ⟨p2, c2, rfl, q1, q2, q3⟩
      have q4 : Below u1.heap.size u1 u2 := ((Same.drew u1).below _).trans q3
      have ck : ∀ j v, u1.cell? ⟨W.heap.size, j, none⟩ = some v → u2.cell? ⟨W.heap.size, j, none⟩ = some v := fun j v hv => (q4.cell (p := ⟨W.heap.size, j, none⟩) lb).trans hv
      refine hK.out _ _ ⟨ck 5 _ e5, ck 6 _ e6⟩ ?_
      (clear hK KK; try simp only [Act.put, List.setIfInBounds_toArray, List.set_cons_zero, List.set_cons_succ])
      (repeat (first | (refine wpSeq_take (v := ?_) rfl (by rfl) (fun wq hSq => ?_) ?_; rotate_left; (focus ((try dsimp only at hSq); go_simp; try with_reducible rfl)); simp only [Act.put, List.setIfInBounds_toArray, List.set_cons_zero, List.set_cons_succ]) | (refine wpSeq_skip rfl (by rfl) ?_; simp only [Act.put, List.setIfInBounds_toArray, List.set_cons_zero, List.set_cons_succ])))
      (refine wpSeq_do rfl (by rfl) (fun KK hK => ?_); go_simp)
      have l2 : W.heap.size < u2.heap.size := Nat.lt_of_lt_of_le lb q4.size
      refine hK.out _ _ ⟨(World.cell?_alloc_old _ _ _ (Nat.ne_of_lt l2)).trans (ck 5 _ e5), (World.cell?_alloc_old _ _ _ (Nat.ne_of_lt l2)).trans (ck 6 _ e6)⟩ ?_
      (clear hK KK; try simp only [Act.put, List.setIfInBounds_toArray, List.set_cons_zero, List.set_cons_succ])
      (refine wpSeq_do rfl (by rfl) (fun KK hK => ?_); go_simp)
      refine hK.out _ _ ⟨(World.cell?_alloc_old _ _ _ (Nat.ne_of_lt l2)).trans (ck 5 _ e5), (World.cell?_alloc_old _ _ _ (Nat.ne_of_lt l2)).trans (ck 6 _ e6)⟩ ?_
      (clear hK KK; try simp only [Act.put])
      refine wpSeq_nil ?_
      have hs := H1.out.2.2.1.size
      have hl2 := lt_of_block H1.out.2.2.2
      have R : Hid (Cpy (W.heap.size + 1) (u2.alloc (prgO t p2 n c2)) 91 3 p2 n c2 ∧ CodeAt (u2.alloc (prgO t p2 n c2)) p2 cs ∧ (u2.alloc (prgO t p2 n c2)).heap[u2.heap.size]? = some (prgO t p2 n c2) ∧ u1.heap.size ≤ u2.heap.size ∧ Below u1.heap.size u1 (u2.alloc (prgO t p2 n c2))) := ⟨(q1.mono (show W.heap.size + 1 ≤ u1.drew.heap.size from hl2)).on (below_alloc _ _), (ro_code q2).on (below_alloc _ _), heap_alloc_new _ _, q4.size, q4.alloc q4.size _⟩
      go_wp2_with fail
      go_meet
      exact ⟨_, p2, c2, rfl, R.out⟩
    · (refine wpSeq_do rfl (by rfl) (fun KK hK => ?_); go_simp)
      obtain ⟨v1, hv1⟩ : ∃ v1, v1 = (u1.alloc (.cells #[.int .i64 0, .slice none 0 0] 26)).drew := ⟨_, rfl⟩
      have b1 : Below u1.heap.size u1 v1 := by rw [hv1]; exact (below_alloc _ _).trans ((Same.drew _).below _)
      have x1 : v1.heap[u1.heap.size]? = some (.cells #[.int .i64 0, .slice none 0 0] 26 (0, 0)) := by rw [hv1]; exact heap_alloc_new _ _
      rw [← hv1]
      clear hv1
      have ck : ∀ j v, u1.cell? ⟨W.heap.size, j, none⟩ = some v → v1.cell? ⟨W.heap.size, j, none⟩ = some v := fun j v hv => (b1.cell (p := ⟨W.heap.size, j, none⟩) lb).trans hv
      refine hK.out _ _ ⟨ck 5 _ e5, ck 6 _ e6⟩ ?_
      (clear hK KK; try simp only [Act.put, List.setIfInBounds_toArray, List.set_cons_zero, List.set_cons_succ])
      refine wpSeq_do rfl (by rfl) (fun KK hK => ?_)
      refine wp_append_ex _ _ 24 24 rfl (.slice none 0 0) (.slice ao n cap) rfl rfl (HA2.out _ (H1.out.2.2.1.trans (b1.mono H1.out.2.2.1.size))) ?_
      rintro v u2 ⟨p2, c2, rfl, q1, q2, q3⟩
      have q4 : Below u1.heap.size u1 u2 := b1.trans (q3.mono b1.size)
      have ck2 : ∀ j v, u1.cell? ⟨W.heap.size, j, none⟩ = some v → u2.cell? ⟨W.heap.size, j, none⟩ = some v := fun j v hv => (q4.cell (p := ⟨W.heap.size, j, none⟩) lb).trans hv
      have x2 : u2.heap[u1.heap.size]? = some (.cells #[.int .i64 0, .slice none 0 0] 26 (0, 0)) := (q3.block _ (lt_of_block x1)).trans x1
      obtain ⟨s0, s1, s2⟩ := cells2 x2
      have f0 := frozen_of_row u2 u1.heap.size 0 _ _ x2
      have f1 := frozen_of_row u2 u1.heap.size 1 _ _ x2
      refine hK.out _ _ ⟨ck2 5 _ e5, ck2 6 _ e6⟩ ?_
      (clear hK KK; try simp only [Act.put, List.setIfInBounds_toArray, List.set_cons_zero, List.set_cons_succ])
      (repeat (first | (refine wpSeq_take (v := ?_) rfl (by rfl) (fun wq hSq => ?_) ?_; rotate_left; (focus ((try dsimp only at hSq); go_simp; try with_reducible rfl)); simp only [Act.put, List.setIfInBounds_toArray, List.set_cons_zero, List.set_cons_succ]) | (refine wpSeq_skip rfl (by rfl) ?_; simp only [Act.put, List.setIfInBounds_toArray, List.set_cons_zero, List.set_cons_succ])))
      (refine wpSeq_do rfl (by rfl) (fun KK hK => ?_); go_simp)
      have ne : W.heap.size ≠ u1.heap.size := Nat.ne_of_lt lb
      have x3 : ((u2.setCell ⟨u1.heap.size, 0, none⟩ (.int .i64 t)).setCell ⟨u1.heap.size, 1, none⟩ (.slice p2 n c2)).heap[u1.heap.size]? = some (prgO t p2 n c2) := by
        have a1 := (heap_setCell_same u2 u1.heap.size 0 _ _ (.int .i64 t) x2).trans (show _ = some (Obj.cells #[.int .i64 t, .slice none 0 0] 26) from rfl)
        exact (heap_setCell_same _ u1.heap.size 1 _ _ (.slice p2 n c2) a1).trans rfl
      have oth : ∀ y, y ≠ u1.heap.size → ((u2.setCell ⟨u1.heap.size, 0, none⟩ (.int .i64 t)).setCell ⟨u1.heap.size, 1, none⟩ (.slice p2 n c2)).heap[y]? = u2.heap[y]? := fun y hy => (heap_setCell_other _ _ _ _ hy).trans (heap_setCell_other _ _ _ _ hy)
      refine hK.out _ _ ⟨(Md.Cv.cell_kept (oth _ ne) 5).trans (ck2 5 _ e5), (Md.Cv.cell_kept (oth _ ne) 6).trans (ck2 6 _ e6)⟩ ?_
      (clear hK KK; try simp only [Act.put])
      refine wpSeq_nil ?_
      have hl1 := lt_of_block x1
      have hc2 : CodeAt ((u2.setCell ⟨u1.heap.size, 0, none⟩ (.int .i64 t)).setCell ⟨u1.heap.size, 1, none⟩ (.slice p2 n c2)) p2 cs := by
        rcases q1 with ⟨r1, r2⟩ | ⟨g, arr, r1, r0, _⟩
        · have := h.hn
          intro i hi
          omega
        · refine (ro_code q2).keep ⟨by simp, fun i hi => oth i ?_⟩
          rw [r1] at hi
          simp [fpR] at hi
          omega
      have R : Hid (Cpy (W.heap.size + 1) ((u2.setCell ⟨u1.heap.size, 0, none⟩ (.int .i64 t)).setCell ⟨u1.heap.size, 1, none⟩ (.slice p2 n c2)) 91 3 p2 n c2 ∧ CodeAt ((u2.setCell ⟨u1.heap.size, 0, none⟩ (.int .i64 t)).setCell ⟨u1.heap.size, 1, none⟩ (.slice p2 n c2)) p2 cs ∧ ((u2.setCell ⟨u1.heap.size, 0, none⟩ (.int .i64 t)).setCell ⟨u1.heap.size, 1, none⟩ (.slice p2 n c2)).heap[u1.heap.size]? = some (prgO t p2 n c2) ∧ u1.heap.size ≤ u1.heap.size ∧ Below u1.heap.size u1 ((u2.setCell ⟨u1.heap.size, 0, none⟩ (.int .i64 t)).setCell ⟨u1.heap.size, 1, none⟩ (.slice p2 n c2))) := ⟨((q1.mono (by omega)).put _ _ _).put _ _ _, hc2, x3, Nat.le_refl _, (q4.setCell (Nat.le_refl _) _).setCell (Nat.le_refl _) _⟩
      go_wp2_with fail
      go_meet
      exact ⟨_, p2, c2, rfl, R.out⟩
  case rest =>
    obtain ⟨g5, p2, c2, rfl, H2⟩ := hcut
    have B2 : Hid (Below W.heap.size W wc ∧ wc.heap[W.heap.size]? = some (.cells (rideV a b c e th t ao n cap po k co pw kw cw pp kp cp) 31 (0, 0)) ∧ Cpy (W.heap.size + 1) wc 71 1 p1 k c1 ∧ FlAt wc p1 l) := ⟨H1.out.2.2.1.trans (H2.out.2.2.2.2.mono H1.out.2.2.1.size), (H2.out.2.2.2.2.block _ (lt_of_block H1.out.2.2.2)).trans H1.out.2.2.2, H1.out.1.on H2.out.2.2.2.2, H1.out.2.1.on H2.out.2.2.2.2⟩
    have HN : Hid (Calls Tryz.prog 35 #[cfgV a b c e, .int .i64 th, .agg #[.int .i64 t, .slice p2 n c2], .slice p1 k c1] wc fun r w' => ∃ q, r = .returned (.pointer q) ∧ Hid ((mayX a b c e k th = true ∧ ∃ bx, q = some ⟨bx, 0, none⟩ ∧ Made wc w' bx (newX a b c e t cs l th)) ∨ (mayX a b c e k th = false ∧ q = none ∧ Below wc.heap.size wc w'))) := by
      have nl : n ≤ 9223372036854775807 := by have := h.nb; omega
      unfold mayX
      cases hm : (Md.cfgB a b c e && decide (k ≤ 8))
      · exact (new_nil hm).mono fun r w' q => ⟨none, q.1, .inr ⟨by simp, rfl, q.2⟩⟩
      · have hm' : Md.cfgB a b c e = true ∧ k ≤ 8 := by simpa using hm
        by_cases ht : 0 ≤ th ∧ th < b
        · exact (new_yes hm'.1 h.hn h.hk hm'.2 (h.sh.on B2.out.1) H2.out.2.1 B2.out.2.2.2 nl ht.1 ht.2).mono fun r w' q => by obtain ⟨bx, q1, q2⟩ := q; exact ⟨_, q1, .inl ⟨by simp [ht], bx, rfl, q2⟩⟩
        · exact (new_out hm'.1 h.hn h.hk hm'.2 (h.sh.on B2.out.1) H2.out.2.1 B2.out.2.2.2 nl ht).mono fun r w' q => ⟨none, q.1, .inr ⟨by simp [ht], rfl, q.2⟩⟩
    have HD : Hid (∀ u, Below W.heap.size W u → Calls Tryz.prog 37 #[cfgV a b c e, .int .i64 th, .agg #[.int .i64 t, .slice ao n cap], .slice po k co] u fun r w' => ∃ q, r = .returned (.pointer q) ∧ Hid ((mayX a b c e k th = true ∧ ∃ bd, q = some ⟨bd, 0, none⟩ ∧ DMade u w' bd (newX a b c e t cs l th) ao cs) ∨ (mayX a b c e k th = false ∧ q = none ∧ Below u.heap.size u w'))) := fun u hu => by
      have nl : n ≤ 9223372036854775807 := by have := h.nb; omega
      unfold mayX
      cases hm : (Md.cfgB a b c e && decide (k ≤ 8))
      · exact (dnew_nil hm).mono fun r w' q => ⟨none, q.1, .inr ⟨by simp, rfl, q.2⟩⟩
      · have hm' : Md.cfgB a b c e = true ∧ k ≤ 8 := by simpa using hm
        by_cases ht : 0 ≤ th ∧ th < b
        · exact (dnew_yes hm'.1 h.hn h.hk hm'.2 (h.code.on hu) (h.args.on hu) nl ht.1 ht.2).mono fun r w' q => by obtain ⟨bx, q1, q2⟩ := q; exact ⟨_, q1, .inl ⟨by simp [ht], bx, rfl, q2⟩⟩
        · exact (dnew_out hm'.1 h.hn h.hk hm'.2 (h.code.on hu) (h.args.on hu) nl ht).mono fun r w' q => ⟨none, q.1, .inr ⟨by simp [ht], rfl, q.2⟩⟩
    have HCO : Hid (CodeAt W ao cs) := h.code
    have hkl : k ≤ 140737488355328 := by have := h.kb; omega
    have hnl : n ≤ 140737488355328 := by have := h.nb; omega
    obtain ⟨e0, e1, e2, e3, e4, e5, e6, e7, e8, e9, lb⟩ := ride_cells B2.out.2.1
    obtain ⟨s0, s1, s2⟩ := cells2 H2.out.2.2.1
    clear HA1 HA2 H0 h
    go_wp2_with (go_at_call 35; refine HN.out.mono ?_; rintro r u2 ⟨qx, rfl, HX⟩; clear HN)
    have HSZ : Hid (wc.heap.size ≤ u2.heap.size ∧ Below wc.heap.size wc u2) := by
      rcases HX.out with ⟨_, bx, _, hm⟩ | ⟨_, _, hb⟩
      · exact ⟨hm.bl.size, hm.bl⟩
      · exact ⟨hb.size, hb⟩
    have HC1 : Hid (Cpy (W.heap.size + 1) u2 71 1 p1 k c1) := B2.out.2.2.1.on HSZ.out.2
    go_loopw [29] (fun vi wr => ∃ i : Nat, vi = .int .i64 i ∧ i ≤ k ∧ Hid (Cpy (W.heap.size + 1) wr 71 1 p1 k c1 ∧ Turn (fpR p1) (fpR p1) u2 wr)) (fun vi _ => k - (intOf vi).toNat)
    case atStart => exact ⟨0, rfl, Nat.zero_le _, HC1.out, Turn.refl _ _⟩
    case round =>
      obtain ⟨i, rfl, hi, HR⟩ := hrel
      by_cases hlt : i < k
      · have hlt' : (i : Int) < (k : Int) := by omega
        obtain ⟨g, hp, hB, hg, hc⟩ := HR.out.1.at_ hlt
        obtain ⟨⟨v0, c0⟩, f0⟩ := hc 0 (by omega)
        rw [Nat.mul_one, Nat.add_zero] at c0 f0
        have HZ : Hid (Cpy (W.heap.size + 1) (wr.setCell ⟨g, i, none⟩ (.float .f64 13858561215837503488)) 71 1 p1 k c1 ∧ Turn (fpR p1) (fpR p1) u2 (wr.setCell ⟨g, i, none⟩ (.float .f64 13858561215837503488))) := ⟨HR.out.1.put _ _ _, HR.out.2.trans (by rw [hp]; exact turn_set wr g i _)⟩
        subst hp
        go_wp2_with fail
        exact ⟨⟨i + 1, by first | rfl | (congr 1), by omega, HZ.out⟩, by simp [intOf]; omega⟩
      · have hlt' : ¬ (i : Int) < (k : Int) := by omega
        obtain ⟨wo, rfl⟩ : ∃ wo : World, wo = wr := ⟨_, rfl⟩
        have HW1 : Hid (Turn (fpR p1) (fpR p1) u2 wo) := HR.out.2
        have HL1 : Hid (∀ j ∈ fpR p1, W.heap.size + 1 ≤ j ∧ j < wc.heap.size ∧ j ≠ g5) := fun j hj => by
          rcases B2.out.2.2.1 with ⟨r1, _⟩ | ⟨g, arr, r1, r0, r2, _⟩
          · rw [r1] at hj; simp [fpR] at hj
          · rw [r1] at hj
            simp [fpR] at hj
            subst hj
            exact ⟨r0, lt_of_block r2, Md.Cv.ne_ty r2 H2.out.2.2.1 (by decide)⟩
        have HL2 : Hid (∀ j ∈ fpR p2, W.heap.size + 1 ≤ j ∧ j < wc.heap.size ∧ j ≠ g5 ∧ j ∉ fpR p1) := fun j hj => by
          rcases H2.out.1 with ⟨r1, _⟩ | ⟨g, arr, r1, r0, r2, _⟩
          · rw [r1] at hj; simp [fpR] at hj
          · rw [r1] at hj
            simp [fpR] at hj
            subst hj
            refine ⟨r0, lt_of_block r2, Md.Cv.ne_ty r2 H2.out.2.2.1 (by decide), fun y => ?_⟩
            rcases B2.out.2.2.1 with ⟨q1, _⟩ | ⟨g', arr', q1, q0, q2, _⟩
            · rw [q1] at y; simp [fpR] at y
            · rw [q1] at y
              simp [fpR] at y
              subst y
              exact Md.Cv.ne_ty r2 q2 (by decide) rfl
        have HG5 : Hid (g5 < wc.heap.size) := s2
        have HBX : Hid (wo.heap[g5]? = some (prgO t p2 n c2)) := (HW1.out.block g5 (Nat.lt_of_lt_of_le HG5.out HSZ.out.1) (fun y => (HL1.out g5 y).2.2 rfl)).trans ((HSZ.out.2.block g5 HG5.out).trans H2.out.2.2.1)
        have HC2 : Hid (Cpy (W.heap.size + 1) wo 91 3 p2 n c2) := by
          have c2' := H2.out.1.on HSZ.out.2
          rcases c2' with r | ⟨g, arr, r1, r0, r2, r3⟩
          · exact .inl r
          · refine .inr ⟨g, arr, r1, r0, (HW1.out.block g (lt_of_block r2) (fun y => ?_)).trans r2, r3⟩
            exact (HL2.out g (by rw [r1]; simp [fpR])).2.2.2 y
        obtain ⟨z0, z1, z2⟩ := cells2 HBX.out
        clear HR
        go_wp2_with fail
        go_loopw [39] (fun vi wr => ∃ i : Nat, vi = .int .i64 i ∧ i ≤ n ∧ Hid (Cpy (W.heap.size + 1) wr 91 3 p2 n c2 ∧ Turn (fpR p2) (fpR p2) wo wr)) (fun vi _ => n - (intOf vi).toNat)
        case atStart => exact ⟨0, rfl, Nat.zero_le _, HC2.out, Turn.refl _ _⟩
        case round =>
          obtain ⟨i2, rfl, hi2, HR2⟩ := hrel
          have HB5 : Hid (wr.heap[g5]? = some (prgO t p2 n c2)) := (HR2.out.2.block g5 (lt_of_block HBX.out) (fun y => (HL2.out g5 y).2.2.1 rfl)).trans HBX.out
          obtain ⟨y0, y1, y2⟩ := cells2 HB5.out
          by_cases hlt2 : i2 < n
          · have hlt2' : (i2 : Int) < (n : Int) := by omega
            obtain ⟨g, hp, hB, hg, hc⟩ := HR2.out.1.at_ hlt2
            obtain ⟨⟨v0, k0⟩, f0⟩ := hc 0 (by omega)
            obtain ⟨⟨v1, k1⟩, f1⟩ := hc 1 (by omega)
            obtain ⟨⟨v2, k2⟩, f2⟩ := hc 2 (by omega)
            rw [Nat.add_zero] at k0 f0
            have HZ : Hid (Cpy (W.heap.size + 1) (((wr.setCell ⟨g, i2 * 3, none⟩ (.int .i64 19)).setCell ⟨g, i2 * 3 + 1, none⟩ (.int .i64 50)).setCell ⟨g, i2 * 3 + 2, none⟩ (.float .f64 0)) 91 3 p2 n c2 ∧ Turn (fpR p2) (fpR p2) wo (((wr.setCell ⟨g, i2 * 3, none⟩ (.int .i64 19)).setCell ⟨g, i2 * 3 + 1, none⟩ (.int .i64 50)).setCell ⟨g, i2 * 3 + 2, none⟩ (.float .f64 0))) := ⟨((HR2.out.1.put _ _ _).put _ _ _).put _ _ _, HR2.out.2.trans (by rw [hp]; exact ((turn_set wr g _ _).trans (turn_set _ g _ _)).trans (turn_set _ g _ _))⟩
            subst hp
            clear hc HR2 HB5
            go_wp2_with fail
            exact ⟨⟨i2 + 1, by first | rfl | (congr 1), by omega, HZ.out⟩, by simp [intOf]; omega⟩
          · have hlt2' : ¬ (i2 : Int) < (n : Int) := by omega
            have T2 : Hid (Turn (fpR p1 ++ fpR p2) (fpR p1 ++ fpR p2) u2 wr) := turn_of (L := fpR p1 ++ fpR p2) (HR2.out.2.os.trans HW1.out.os) (HR2.out.2.tape.trans HW1.out.tape) (HR2.out.2.output.trans HW1.out.output) (Nat.le_trans HW1.out.size HR2.out.2.size) (fun _ y => y) fun j hj hn => (HR2.out.2.block j (Nat.lt_of_lt_of_le hj HW1.out.size) (fun y => hn (List.mem_append.2 (.inr y)))).trans (HW1.out.block j hj (fun y => hn (List.mem_append.2 (.inl y))))
            have LL : Hid (∀ j ∈ fpR p1 ++ fpR p2, W.heap.size + 1 ≤ j ∧ j < wc.heap.size) := fun j hj => by
              rcases List.mem_append.1 hj with y | y
              · exact ⟨(HL1.out j y).1, (HL1.out j y).2.1⟩
              · exact ⟨(HL2.out j y).1, (HL2.out j y).2.1⟩
            have BW : Hid (Below W.heap.size W u2) := B2.out.1.trans (HSZ.out.2.mono B2.out.1.size)
            have BE : Hid (Below W.heap.size W wr) := ⟨T2.out.os.trans BW.out.os, T2.out.tape.trans BW.out.tape, T2.out.output.trans BW.out.output, Nat.le_trans BW.out.size T2.out.size, fun j hj => (T2.out.block j (Nat.lt_of_lt_of_le hj BW.out.size) (fun y => by have := (LL.out j y).1; omega)).trans (BW.out.block j hj)⟩
            have XR : Hid (wr.heap[W.heap.size]? = some (.cells (rideV a b c e th t ao n cap po k co pw kw cw pp kp cp) 31 (0, 0))) := (T2.out.block _ (Nat.lt_of_lt_of_le (lt_of_block B2.out.2.1) HSZ.out.1) (fun y => by have := (LL.out _ y).1; omega)).trans ((HSZ.out.2.block _ (lt_of_block B2.out.2.1)).trans B2.out.2.1)
            obtain ⟨x0, x1, x2, x3, x4, x5, x6, x7, x8, x9, xb⟩ := ride_cells XR.out
            clear HR2 HB5 HL1 HL2
            go_wp2_with (go_at_call 37; refine (HD.out _ BE.out).mono ?_; rintro r u4 ⟨qd, rfl, HY⟩; clear HD)
            go_ret2
            refine ⟨qx, qd, rfl, ?_⟩
            rcases HX.out with ⟨m1, bx, rfl, hm⟩ | ⟨m1, rfl, hb⟩
            · rcases HY.out with ⟨_, bd, rfl, hd⟩ | ⟨m2, _⟩
              · exact .inl ⟨m1, bx, bd, rfl, rfl, bgn_of HCO.out B2.out.1 hm (fun j hj hl => T2.out.block j hl (fun y => by have := (LL.out j y).2; omega)) T2.out.size BE.out hd⟩
              · rw [m1] at m2
                cases m2
            · rcases HY.out with ⟨m2, _⟩ | ⟨_, rfl, hd⟩
              · rw [m1] at m2
                cases m2
              · exact .inr ⟨m1, rfl, rfl, BE.out.trans (hd.mono BE.out.size)⟩
end
end Go.Proofs.YtninicfnhoediaaGreatDoor.Rr
