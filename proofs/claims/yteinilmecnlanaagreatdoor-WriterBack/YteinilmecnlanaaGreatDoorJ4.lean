import Derived.Test.YteinilmecnlanaaGreatDoorJ3
import Derived.Test.YteinilmecnlanaaGreatDoorTw
import Derived.Deep.CutBlock
import Derived.Deep.DeepCutAuto
import Derived.Test.YteinilmecnlanaaGreatDoorJ1
import Derived.Test.YteinilmecnlanaaGreatDoorJ2
namespace Go.Proofs.YteinilmecnlanaaGreatDoor.Ww
open Go.ChangeShapes Go.WideShapes Go.ChangeAt Go.RowKit Num Rr
def Cpy (B : Nat) (w' : World) (e : TypeId) (sz : Nat) (p : Option Addr) (n c : Nat) : Prop := (p = none ∧ n = 0) ∨ ∃ g arr, p = some ⟨g, 0, none⟩ ∧ B ≤ g ∧ w'.heap[g]? = some (.cells arr e (0, 0)) ∧ arr.size = c * sz ∧ n ≤ c
theorem app_nil {t e ty : TypeId} {i : TypeInfo} {z : Value} (ht : Tryz.prog.underlying t = some (.slice e)) (hi : Tryz.prog.info? e = some i) (hz : i.zero = some z) (hzs : z.cells.size = i.size) {w : World} {news : List Value} {n : Nat} {x : Value} (hs : Src Tryz.prog i.size t x n news w) (hb : n * i.bytes ≤ 140737488355328) (h63 : n ≤ 9223372036854775807) :
    ∃ v w', (Builtin.append_ #[t, t] ty #[.slice none 0 0, x]).run Tryz.prog w = .ok v w' ∧ ∃ p c, v = .slice p n c ∧ Cpy w.heap.size w' e i.size p n c ∧ Ro w' p news ∧ Below w.heap.size w w' := by
  by_cases h0 : n = 0
  · subst h0
    have hn : news = [] := by have := hs.newsLen; simpa using this
    refine ⟨.slice none 0 0, w, ?_, none, 0, rfl, .inl ⟨rfl, rfl⟩, by rw [hn]; exact Ro.nil w, Below.refl _ _⟩
    simp [Builtin.append_, run_underlying ht, sizeOf, typeInfo, hi, hs.len, hs.cells, hn]
  · have hold : (Builtin.firstCells i.size 0 (.slice none 0 0)).run Tryz.prog w.drew = .ok ([] : List Value).toArray w.drew := run_firstCells_none _ _ _ _ _
    refine ⟨_, _, run_append_grow_src w t t ty e i z ht hi hz none 0 0 [] hold x n news hs (by omega) (by omega) (growslice_fits (by omega) (by simpa using hb)), some ⟨w.heap.size, 0, none⟩, grownCap w (0 + n) 0 e, by rw [Nat.zero_add], .inr ⟨w.heap.size, _, rfl, Nat.le_refl _, heap_new (w := w.drew) (g := w.heap.size) rfl, ?_, by have := grownCap_ge w (0 + n) 0 e; omega⟩, .inr ⟨_, _, rfl, fun j v hv => ?_⟩, ((Same.drew w).below _).trans (below_alloc w.drew _)⟩
    · have hg := grownCap_ge w (0 + n) 0 e
      have hl := hs.newsLen
      rw [Array.size_append, size_zeroCells, hzs, List.size_toArray, List.nil_append, hl, ← Nat.add_mul, show n + (grownCap w (0 + n) 0 e - (0 + n)) = grownCap w (0 + n) 0 e by omega]
    · have hj := (List.getElem?_eq_some_iff.1 hv).1
      refine (cell_of_row _ w.heap.size (0 + j) _ _ _ (heap_new (w := w.drew) (g := w.heap.size) rfl)).trans ?_
      rw [Nat.zero_add, Array.getElem?_append_left (by simpa using hj)]
      simpa using hv
theorem Cpy.on {B : Nat} {w u : World} {e : TypeId} {sz n c : Nat} {p : Option Addr} (h : Cpy B w e sz p n c) (k : Below w.heap.size w u) : Cpy B u e sz p n c := by
  rcases h with h | ⟨g, arr, h1, h0, h2, h3⟩
  · exact .inl h
  · exact .inr ⟨g, arr, h1, h0, (k.block _ (lt_of_block h2)).trans h2, h3⟩
theorem Cpy.mono {B B' : Nat} {w : World} {e : TypeId} {sz n c : Nat} {p : Option Addr} (h : Cpy B w e sz p n c) (k : B' ≤ B) : Cpy B' w e sz p n c := by
  rcases h with h | ⟨g, arr, h1, h0, h2⟩
  · exact .inl h
  · exact .inr ⟨g, arr, h1, Nat.le_trans k h0, h2⟩
theorem Cpy.at_ {B : Nat} {w : World} {e : TypeId} {sz n c : Nat} {p : Option Addr} (h : Cpy B w e sz p n c) {i : Nat} (hi : i < n) : ∃ g, p = some ⟨g, 0, none⟩ ∧ B ≤ g ∧ g < w.heap.size ∧ ∀ j, j < sz → (∃ v, w.cell? ⟨g, i * sz + j, none⟩ = some v) ∧ w.frozen? ⟨g, i * sz + j, none⟩ = false := by
  rcases h with ⟨_, h⟩ | ⟨g, arr, h1, h0, h2, h3, h4⟩
  · omega
  · refine ⟨g, h1, h0, lt_of_block h2, fun j hj => ⟨?_, frozen_of_row w g _ _ _ h2⟩⟩
    rw [cell_of_row w g _ _ _ _ h2]
    have : i * sz + j < arr.size := by
      rw [h3]
      have := Nat.mul_le_mul_right sz (show i + 1 ≤ c by omega)
      rw [Nat.succ_mul] at this
      omega
    exact ⟨_, Array.getElem?_eq_getElem this⟩
theorem Cpy.put {B : Nat} {w : World} {e : TypeId} {sz n c : Nat} {p : Option Addr} (h : Cpy B w e sz p n c) (g j : Nat) (v : Value) : Cpy B (w.setCell ⟨g, j, none⟩ v) e sz p n c := by
  rcases h with h | ⟨g', arr, h1, h0, h2, h3, h4⟩
  · exact .inl h
  · by_cases q : g' = g
    · subst q
      exact .inr ⟨g', _, h1, h0, heap_setCell_same w g' j _ _ v h2, by simpa using h3, h4⟩
    · exact .inr ⟨g', arr, h1, h0, (heap_setCell_other _ _ _ _ q).trans h2, h3, h4⟩
theorem ro_code {w : World} {p : Option Addr} {cs : List Ins} (h : Ro w p (cs.flatMap insC)) : CodeAt w p cs := by
  rcases h with ⟨rfl, h⟩ | ⟨g, o, rfl, h⟩
  · have : cs = [] := by
      have := congrArg List.length h
      rw [insC_len] at this
      exact List.eq_nil_of_length_eq_zero (by simp only [List.length_nil] at this; omega)
    subst this
    intro i hi
    simp at hi
  · cases cs with
    | nil => intro i hi; simp at hi
    | cons i cs => exact codeAt_range (World.block_lt_of_cell? w _ (h 0 _ rfl)) h
abbrev rideV (a b c e th t : Int) (ao : Option Addr) (n cap : Nat) (po : Option Addr) (k co : Nat) (pw : Option Addr) (kw cw : Nat) (pp : Option Addr) (kp cp : Nat) (sp : Int) : Array Value := #[.int .i64 a, .int .i64 b, .int .i64 c, .int .i64 e, .int .i64 th, .int .i64 t, .slice ao n cap, .slice po k co, .slice pw kw cw, .slice pp kp cp, .int .i64 sp]
structure Bgn (w w' : World) (bx bd : Nat) (x : Wx) (ao : Option Addr) (cs : List Ins) : Prop where
  p : ∃ z v zd qd, RawAt w' bx x z v ∧ Abv w.heap.size (gY bx v) ∧ Abv w.heap.size z.KK ∧ zd.cs = cs ∧ DRaw w' bd x zd qd ∧ Abv w.heap.size (bd :: frY zd qd) ∧ Abv w.heap.size (fpR zd.pa) ∧ zd.KR = krA ao cs ∧ Sep (gY bx v) (dAll bd zd qd) ∧ Sep z.KK (bd :: frY zd qd) ∧ VOk x v
  bl : Below w.heap.size w w'
theorem bgn_of {w u1 u2 u3 u4 : World} {bx bd : Nat} {x : Wx} {ao : Option Addr} {cs : List Ins} (hC : CodeAt w ao cs) (h1 : Below w.heap.size w u1) (hm : Made u1 u2 bx x) (t : ∀ k, u1.heap.size ≤ k → k < u2.heap.size → u3.heap[k]? = u2.heap[k]?) (hs : u2.heap.size ≤ u3.heap.size) (hb3 : Below w.heap.size w u3) (hd : DMade u3 u4 bd x ao cs) : Bgn w u4 bx bd x ao cs := by
  obtain ⟨z, v, m1, mv, m2, m3⟩ := hm.at_
  obtain ⟨zd, qd, d0, d4, d1, d2, d3⟩ := hd.at_
  have s1 := h1.size
  have s3 := hb3.size
  have s2 := hm.bl.size
  have r3 : RawAt u3 bx x z v := m1.keep ⟨hs, fun i hi => t i (m2 i hi) (m1.blw i hi)⟩ ⟨hs, fun i hi => t i (m3 i hi) (m1.blwK i hi)⟩
  have kr : Blw w zd.KR := by rw [d4]; exact krA_blw hC
  refine ⟨⟨z, v, zd, qd, r3.on hd.bl, m2.mono s1, m3.mono s1, d0, d1, d2.mono s3, d3.mono s3, d4, fun i hi y => ?_, fun i hi y => ?_, mv⟩, hb3.trans (hd.bl.mono s3)⟩
  · have l1 := m1.blw i hi
    have l2 := m2 i hi
    have D2 : i ∈ bd :: frY zd qd → u3.heap.size ≤ i := d2 i
    have D3 : i ∈ fpR zd.pa → u3.heap.size ≤ i := d3 i
    have D4 : i ∈ zd.KR → i < w.heap.size := kr i
    simp only [dAll, List.mem_cons, List.mem_append] at y D2
    rcases y with y | y | y | y
    · have := D2 (.inl y); omega
    · have := D2 (.inr y); omega
    · have := D4 y; omega
    · have := D3 y; omega
  · have l1 := m1.blwK i hi
    have := d2 i y
    omega
structure RideAt (W : World) (cs : List Ins) (l : List Nat) (ao po : Option Addr) (n k : Nat) : Prop where
  sh : Shaped5 W
  hn : cs.length = n
  hk : l.length = k
  code : CodeAt W ao cs
  args : FlAt W po l
  cx : ∀ i ∈ cs, i.x < 18446744073709551616
  lx : ∀ x ∈ l, x < 18446744073709551616
  nb : n * 24 ≤ 140737488355328
  kb : k * 8 ≤ 140737488355328
theorem ride_cells {w : World} {x : Nat} {a b c e th t : Int} {ao : Option Addr} {n cap : Nat} {po : Option Addr} {k co : Nat} {pw : Option Addr} {kw cw : Nat} {pp : Option Addr} {kp cp : Nat} {sp : Int} (h : w.heap[x]? = some (.cells (rideV a b c e th t ao n cap po k co pw kw cw pp kp cp sp) 31 (0, 0))) : w.cell? ⟨x, 0, none⟩ = some (.int .i64 a) ∧ w.cell? ⟨x, 1, none⟩ = some (.int .i64 b) ∧ w.cell? ⟨x, 2, none⟩ = some (.int .i64 c) ∧ w.cell? ⟨x, 3, none⟩ = some (.int .i64 e) ∧ w.cell? ⟨x, 4, none⟩ = some (.int .i64 th) ∧ w.cell? ⟨x, 5, none⟩ = some (.int .i64 t) ∧ w.cell? ⟨x, 6, none⟩ = some (.slice ao n cap) ∧ w.cell? ⟨x, 7, none⟩ = some (.slice po k co) ∧ w.cell? ⟨x, 8, none⟩ = some (.slice pw kw cw) ∧ w.cell? ⟨x, 9, none⟩ = some (.slice pp kp cp) ∧ w.cell? ⟨x, 10, none⟩ = some (.int .i64 sp) ∧ x < w.heap.size :=
  ⟨(cell_of_row w x 0 _ _ _ h).trans rfl, (cell_of_row w x 1 _ _ _ h).trans rfl, (cell_of_row w x 2 _ _ _ h).trans rfl, (cell_of_row w x 3 _ _ _ h).trans rfl, (cell_of_row w x 4 _ _ _ h).trans rfl, (cell_of_row w x 5 _ _ _ h).trans rfl, (cell_of_row w x 6 _ _ _ h).trans rfl, (cell_of_row w x 7 _ _ _ h).trans rfl, (cell_of_row w x 8 _ _ _ h).trans rfl, (cell_of_row w x 9 _ _ _ h).trans rfl, (cell_of_row w x 10 _ _ _ h).trans rfl, lt_of_block h⟩
section
variable {W : World} {a b c e th t : Int} {ao : Option Addr} {cs : List Ins} {n cap : Nat} {po : Option Addr} {l : List Nat} {k co : Nat} {pw : Option Addr} {kw cw : Nat} {pp : Option Addr} {kp cp : Nat} {sp : Int}
attribute [local go_sem] run_store_float
set_option maxRecDepth 100000 in
set_option maxHeartbeats 4000000 in
theorem begun_any (h : RideAt W cs l ao po n k) : Calls Tryz.prog 10 #[.agg (rideV a b c e th t ao n cap po k co pw kw cw pp kp cp sp)] W fun r w' => ∃ q1 q2, r = .returned (.tuple #[.pointer q1, .pointer q2]) ∧ Hid ((mayX a b c e k th = true ∧ ∃ bx bd, q1 = some ⟨bx, 0, none⟩ ∧ q2 = some ⟨bd, 0, none⟩ ∧ Bgn W w' bx bd (newY a b c e t cs l th) ao cs) ∨ (mayX a b c e k th = false ∧ q1 = none ∧ q2 = none ∧ Below W.heap.size W w')) := by
  obtain ⟨i1, hi1, hz1, hs1, hb1⟩ := info_parts fInfo
  obtain ⟨i2, hi2, hz2, hs2, hb2⟩ := info_parts insInfo
  have HA1 : Hid (∀ u, Below W.heap.size W u → ∃ v w', (Builtin.append_ #[27, 27] 27 #[.slice none 0 0, .slice po k co]).run Tryz.prog u = .ok v w' ∧ ∃ p c, v = .slice p k c ∧ Cpy u.heap.size w' 73 1 p k c ∧ Ro w' p (fls l) ∧ Below u.heap.size u w') := fun u hu => by
    have hsrc := src_fl co (h.args.on hu)
    rw [h.hk] at hsrc
    have := app_nil (ty := 27) (i := i1) (z := .float .f64 0) Tryz.underlying27 hi1 hz1 (by rw [hs1]; rfl) (by rw [hs1]; exact hsrc) (by rw [hb1]; exact h.kb) (by have := h.kb; omega)
    rw [hs1] at this
    exact this
  have HA2 : Hid (∀ u, Below W.heap.size W u → ∃ v w', (Builtin.append_ #[24, 24] 24 #[.slice none 0 0, .slice ao n cap]).run Tryz.prog u = .ok v w' ∧ ∃ p c, v = .slice p n c ∧ Cpy u.heap.size w' 88 3 p n c ∧ Ro w' p (cs.flatMap insC) ∧ Below u.heap.size u w') := fun u hu => by
    have hsrc := src_code cap (h.code.on hu)
    rw [h.hn] at hsrc
    have := app_nil (ty := 24) (i := i2) (z := .agg #[.int .i64 0, .int .i64 0, .float .f64 0]) Tryz.underlying24 hi2 hz2 (by rw [hs2]; rfl) (by rw [hs2]; exact hsrc) (by rw [hb2]; exact h.nb) (by have := h.nb; omega)
    rw [hs2] at this
    exact this
  have H0 : Hid (Below W.heap.size W (W.alloc (.cells (rideV a b c e th t ao n cap po k co pw kw cw pp kp cp sp) 31)) ∧ (W.alloc (.cells (rideV a b c e th t ao n cap po k co pw kw cw pp kp cp sp) 31)).heap[W.heap.size]? = some (.cells (rideV a b c e th t ao n cap po k co pw kw cw pp kp cp sp) 31 (0, 0))) := ⟨below_alloc _ _, heap_alloc_new _ _⟩
  clear hi1 hz1 hs1 hb1 hi2 hz2 hs2 hb2 i1 i2
  go_enter Tryz.func10, Tryz.ntmps10
  go_upto_region 2 with (at_builtin; refine wpList_append_ex rfl _ _ 27 27 rfl (.slice none 0 0) (.slice po k co) rfl rfl (HA1.out _ H0.out.1) ?_; rintro v u1 ⟨p1, c1, rfl, q1, q2, q3⟩; have H1 : Hid (Cpy (W.heap.size + 1) u1 73 1 p1 k c1 ∧ FlAt u1 p1 l ∧ Below W.heap.size W u1 ∧ u1.heap[W.heap.size]? = some (.cells (rideV a b c e th t ao n cap po k co pw kw cw pp kp cp sp) 31 (0, 0))) := ⟨q1.mono (by simp), q2.fl, H0.out.1.trans (q3.mono H0.out.1.size), (q3.block _ (lt_of_block H0.out.2)).trans H0.out.2⟩; clear q1 q2 q3)
  go_cut [5] (fun v5 wc => ∃ g5 p2 c2, v5 = .pointer (some ⟨g5, 0, none⟩) ∧ Hid (Cpy (W.heap.size + 1) wc 88 3 p2 n c2 ∧ CodeAt wc p2 cs ∧ wc.heap[g5]? = some (prgO t p2 n c2) ∧ u1.heap.size ≤ g5 ∧ Below u1.heap.size u1 wc))
  case first =>
    obtain ⟨e0, e1, e2, e3, e4, e5, e6, e7, e8, e9, e10, lb⟩ := ride_cells H1.out.2.2.2
    refine wp_region_two (fun u => u.cell? ⟨W.heap.size, 5, none⟩ = some (.int .i64 t) ∧ u.cell? ⟨W.heap.size, 6, none⟩ = some (.slice ao n cap)) [0, 1, 2, 3, 4, 5] 6 [(7, true), (8, false), (9, false)] 8 [(6, false), (7, true), (9, false)] Md.Cv.follows13 (by kernel_rfl) (fun _ _ _ _ _ h => h) ⟨e5, e6⟩ ?_
    repeat (refine wpTwo_take (v := ?_) rfl (by rfl) (fun wq hSq => ?_) ?_; rotate_left; (focus ((try dsimp only at hSq); go_simp; try with_reducible rfl)); simp only [Act.put, List.setIfInBounds_toArray, List.set_cons_zero, List.set_cons_succ])
    refine wpTwo_nil ?_ ?_
    · refine wpSeq_do rfl (by rfl) (fun KK hK => ?_)
      refine wp_append_ex _ _ 24 24 rfl (.slice none 0 0) (.slice ao n cap) rfl rfl (HA2.out _ (H1.out.2.2.1.trans ((Same.drew u1).below _))) ?_
      rintro v u2 ⟨p2, c2, rfl, q1, q2, q3⟩
      have q4 : Below u1.heap.size u1 u2 := ((Same.drew u1).below _).trans q3
      have ck : ∀ j v, u1.cell? ⟨W.heap.size, j, none⟩ = some v → u2.cell? ⟨W.heap.size, j, none⟩ = some v := fun j v hv => (q4.cell (p := ⟨W.heap.size, j, none⟩) lb).trans hv
      refine hK.out _ _ ⟨ck 5 _ e5, ck 6 _ e6⟩ ?_
      (clear hK KK; try simp only [Act.put, List.setIfInBounds_toArray, List.set_cons_zero, List.set_cons_succ])
      (repeat ((first | (refine wpSeq_take (v := ?_) rfl (by rfl) (fun wq hSq => ?_) ?_; rotate_left; (focus ((try dsimp only at hSq); go_simp; try with_reducible rfl))) | refine wpSeq_skip rfl (by rfl) ?_); simp only [Act.put, List.setIfInBounds_toArray, List.set_cons_zero, List.set_cons_succ]))
      (refine wpSeq_do rfl (by rfl) (fun KK hK => ?_); go_simp)
      have l2 : W.heap.size < u2.heap.size := Nat.lt_of_lt_of_le lb q4.size
      refine hK.out _ _ ⟨(World.cell?_alloc_old _ _ _ (Nat.ne_of_lt l2)).trans (ck 5 _ e5), (World.cell?_alloc_old _ _ _ (Nat.ne_of_lt l2)).trans (ck 6 _ e6)⟩ ?_
      (clear hK KK; try simp only [Act.put, List.setIfInBounds_toArray, List.set_cons_zero, List.set_cons_succ])
      (refine wpSeq_do rfl (by rfl) (fun KK hK => ?_); go_simp)
      refine hK.out _ _ ⟨(World.cell?_alloc_old _ _ _ (Nat.ne_of_lt l2)).trans (ck 5 _ e5), (World.cell?_alloc_old _ _ _ (Nat.ne_of_lt l2)).trans (ck 6 _ e6)⟩ ?_
      (clear hK KK; try simp only [Act.put])
      refine wpSeq_nil ?_
      have hs := H1.out.2.2.1.size
      have hl2 := lt_of_block H1.out.2.2.2
      have R : Hid (Cpy (W.heap.size + 1) (u2.alloc (prgO t p2 n c2)) 88 3 p2 n c2 ∧ CodeAt (u2.alloc (prgO t p2 n c2)) p2 cs ∧ (u2.alloc (prgO t p2 n c2)).heap[u2.heap.size]? = some (prgO t p2 n c2) ∧ u1.heap.size ≤ u2.heap.size ∧ Below u1.heap.size u1 (u2.alloc (prgO t p2 n c2))) := ⟨(q1.mono (show W.heap.size + 1 ≤ u1.drew.heap.size from hl2)).on (below_alloc _ _), (ro_code q2).on (below_alloc _ _), heap_alloc_new _ _, q4.size, q4.alloc q4.size _⟩
      go_wp2_with fail
      go_meet
      exact ⟨_, p2, c2, rfl, R.out⟩
    · (refine wpSeq_do rfl (by rfl) (fun KK hK => ?_); go_simp)
      obtain ⟨v1, hv1⟩ : ∃ v1, v1 = (u1.alloc (.cells #[.int .i64 0, .slice none 0 0] 26)).drew := ⟨_, rfl⟩
      have b1 : Below u1.heap.size u1 v1 := by rw [hv1]; exact (below_alloc _ _).trans ((Same.drew _).below _)
      have x1 : v1.heap[u1.heap.size]? = some (.cells #[.int .i64 0, .slice none 0 0] 26 (0, 0)) := by rw [hv1]; exact heap_alloc_new _ _
      rw [← hv1]
      clear hv1
      have ck : ∀ j v, u1.cell? ⟨W.heap.size, j, none⟩ = some v → v1.cell? ⟨W.heap.size, j, none⟩ = some v := fun j v hv => (b1.cell (p := ⟨W.heap.size, j, none⟩) lb).trans hv
      refine hK.out _ _ ⟨ck 5 _ e5, ck 6 _ e6⟩ ?_
      (clear hK KK; try simp only [Act.put, List.setIfInBounds_toArray, List.set_cons_zero, List.set_cons_succ])
      refine wpSeq_do rfl (by rfl) (fun KK hK => ?_)
      refine wp_append_ex _ _ 24 24 rfl (.slice none 0 0) (.slice ao n cap) rfl rfl (HA2.out _ (H1.out.2.2.1.trans (b1.mono H1.out.2.2.1.size))) ?_
      rintro v u2 ⟨p2, c2, rfl, q1, q2, q3⟩
      have q4 : Below u1.heap.size u1 u2 := b1.trans (q3.mono b1.size)
      have ck2 : ∀ j v, u1.cell? ⟨W.heap.size, j, none⟩ = some v → u2.cell? ⟨W.heap.size, j, none⟩ = some v := fun j v hv => (q4.cell (p := ⟨W.heap.size, j, none⟩) lb).trans hv
      have x2 : u2.heap[u1.heap.size]? = some (.cells #[.int .i64 0, .slice none 0 0] 26 (0, 0)) := (q3.block _ (lt_of_block x1)).trans x1
      obtain ⟨s0, s1, s2⟩ := cells2 x2
      have f0 := frozen_of_row u2 u1.heap.size 0 _ _ x2
      have f1 := frozen_of_row u2 u1.heap.size 1 _ _ x2
      refine hK.out _ _ ⟨ck2 5 _ e5, ck2 6 _ e6⟩ ?_
      (clear hK KK; try simp only [Act.put, List.setIfInBounds_toArray, List.set_cons_zero, List.set_cons_succ])
      (repeat ((first | (refine wpSeq_take (v := ?_) rfl (by rfl) (fun wq hSq => ?_) ?_; rotate_left; (focus ((try dsimp only at hSq); go_simp; try with_reducible rfl))) | refine wpSeq_skip rfl (by rfl) ?_); simp only [Act.put, List.setIfInBounds_toArray, List.set_cons_zero, List.set_cons_succ]))
      (refine wpSeq_do rfl (by rfl) (fun KK hK => ?_); go_simp)
      have ne : W.heap.size ≠ u1.heap.size := Nat.ne_of_lt lb
      have x3 : ((u2.setCell ⟨u1.heap.size, 0, none⟩ (.int .i64 t)).setCell ⟨u1.heap.size, 1, none⟩ (.slice p2 n c2)).heap[u1.heap.size]? = some (prgO t p2 n c2) := by
        have a1 := (heap_setCell_same u2 u1.heap.size 0 _ _ (.int .i64 t) x2).trans (show _ = some (Obj.cells #[.int .i64 t, .slice none 0 0] 26) from rfl)
        exact (heap_setCell_same _ u1.heap.size 1 _ _ (.slice p2 n c2) a1).trans rfl
      have oth : ∀ y, y ≠ u1.heap.size → ((u2.setCell ⟨u1.heap.size, 0, none⟩ (.int .i64 t)).setCell ⟨u1.heap.size, 1, none⟩ (.slice p2 n c2)).heap[y]? = u2.heap[y]? := fun y hy => (heap_setCell_other _ _ _ _ hy).trans (heap_setCell_other _ _ _ _ hy)
      refine hK.out _ _ ⟨(Md.Cv.cell_kept (oth _ ne) 5).trans (ck2 5 _ e5), (Md.Cv.cell_kept (oth _ ne) 6).trans (ck2 6 _ e6)⟩ ?_
      (clear hK KK; try simp only [Act.put])
      refine wpSeq_nil ?_
      have hl1 := lt_of_block x1
      have hc2 : CodeAt ((u2.setCell ⟨u1.heap.size, 0, none⟩ (.int .i64 t)).setCell ⟨u1.heap.size, 1, none⟩ (.slice p2 n c2)) p2 cs := by
        rcases q1 with ⟨r1, r2⟩ | ⟨g, arr, r1, r0, _⟩
        · have := h.hn
          intro i hi
          omega
        · refine (ro_code q2).keep ⟨by simp, fun i hi => oth i ?_⟩
          rw [r1] at hi
          simp [fpR] at hi
          omega
      have R : Hid (Cpy (W.heap.size + 1) ((u2.setCell ⟨u1.heap.size, 0, none⟩ (.int .i64 t)).setCell ⟨u1.heap.size, 1, none⟩ (.slice p2 n c2)) 88 3 p2 n c2 ∧ CodeAt ((u2.setCell ⟨u1.heap.size, 0, none⟩ (.int .i64 t)).setCell ⟨u1.heap.size, 1, none⟩ (.slice p2 n c2)) p2 cs ∧ ((u2.setCell ⟨u1.heap.size, 0, none⟩ (.int .i64 t)).setCell ⟨u1.heap.size, 1, none⟩ (.slice p2 n c2)).heap[u1.heap.size]? = some (prgO t p2 n c2) ∧ u1.heap.size ≤ u1.heap.size ∧ Below u1.heap.size u1 ((u2.setCell ⟨u1.heap.size, 0, none⟩ (.int .i64 t)).setCell ⟨u1.heap.size, 1, none⟩ (.slice p2 n c2))) := ⟨((q1.mono (by omega)).put _ _ _).put _ _ _, hc2, x3, Nat.le_refl _, (q4.setCell (Nat.le_refl _) _).setCell (Nat.le_refl _) _⟩
      go_wp2_with fail
      go_meet
      exact ⟨_, p2, c2, rfl, R.out⟩
  case rest =>
    obtain ⟨g5, p2, c2, rfl, H2⟩ := hcut
    have B2 : Hid (Below W.heap.size W wc ∧ wc.heap[W.heap.size]? = some (.cells (rideV a b c e th t ao n cap po k co pw kw cw pp kp cp sp) 31 (0, 0)) ∧ Cpy (W.heap.size + 1) wc 73 1 p1 k c1 ∧ FlAt wc p1 l) := ⟨H1.out.2.2.1.trans (H2.out.2.2.2.2.mono H1.out.2.2.1.size), (H2.out.2.2.2.2.block _ (lt_of_block H1.out.2.2.2)).trans H1.out.2.2.2, H1.out.1.on H2.out.2.2.2.2, H1.out.2.1.on H2.out.2.2.2.2⟩
    have HN : Hid (Calls Tryz.prog 35 #[cfgV a b c e, .int .i64 th, .agg #[.int .i64 t, .slice p2 n c2], .slice p1 k c1] wc fun r w' => ∃ q, r = .returned (.pointer q) ∧ Hid ((mayX a b c e k th = true ∧ ∃ bx, q = some ⟨bx, 0, none⟩ ∧ Made wc w' bx (newY a b c e t cs l th)) ∨ (mayX a b c e k th = false ∧ q = none ∧ Below wc.heap.size wc w'))) := by
      have nl : n ≤ 9223372036854775807 := by have := h.nb; omega
      unfold mayX
      cases hm : (Md.cfgB a b c e && decide (k ≤ 8))
      · exact (new_nil hm).mono fun r w' q => ⟨none, q.1, .inr ⟨by simp, rfl, q.2⟩⟩
      · have hm' : Md.cfgB a b c e = true ∧ k ≤ 8 := by simpa using hm
        by_cases ht : 0 ≤ th ∧ th < b
        · exact (new_yes hm'.1 h.hn h.hk hm'.2 (h.sh.on B2.out.1) H2.out.2.1 B2.out.2.2.2 nl ht.1 ht.2).mono fun r w' q => by obtain ⟨bx, q1, q2⟩ := q; exact ⟨_, q1, .inl ⟨by simp [ht], bx, rfl, q2⟩⟩
        · exact (new_out hm'.1 h.hn h.hk hm'.2 (h.sh.on B2.out.1) H2.out.2.1 B2.out.2.2.2 nl ht).mono fun r w' q => ⟨none, q.1, .inr ⟨by simp [ht], rfl, q.2⟩⟩
    have HD : Hid (∀ u, Below W.heap.size W u → Calls Tryz.prog 36 #[cfgV a b c e, .int .i64 th, .agg #[.int .i64 t, .slice ao n cap], .slice po k co] u fun r w' => ∃ q, r = .returned (.pointer q) ∧ Hid ((mayX a b c e k th = true ∧ ∃ bd, q = some ⟨bd, 0, none⟩ ∧ DMade u w' bd (newY a b c e t cs l th) ao cs) ∨ (mayX a b c e k th = false ∧ q = none ∧ Below u.heap.size u w'))) := fun u hu => by
      have nl : n ≤ 9223372036854775807 := by have := h.nb; omega
      unfold mayX
      cases hm : (Md.cfgB a b c e && decide (k ≤ 8))
      · exact (dnew_nil hm).mono fun r w' q => ⟨none, q.1, .inr ⟨by simp, rfl, q.2⟩⟩
      · have hm' : Md.cfgB a b c e = true ∧ k ≤ 8 := by simpa using hm
        by_cases ht : 0 ≤ th ∧ th < b
        · exact (dnew_yes hm'.1 h.hn h.hk hm'.2 (h.code.on hu) (h.args.on hu) nl ht.1 ht.2).mono fun r w' q => by obtain ⟨bx, q1, q2⟩ := q; exact ⟨_, q1, .inl ⟨by simp [ht], bx, rfl, q2⟩⟩
        · exact (dnew_out hm'.1 h.hn h.hk hm'.2 (h.code.on hu) (h.args.on hu) nl ht).mono fun r w' q => ⟨none, q.1, .inr ⟨by simp [ht], rfl, q.2⟩⟩
    have HCO : Hid (CodeAt W ao cs) := h.code
    have hkl : k ≤ 140737488355328 := by have := h.kb; omega
    have hnl : n ≤ 140737488355328 := by have := h.nb; omega
    obtain ⟨e0, e1, e2, e3, e4, e5, e6, e7, e8, e9, e10, lb⟩ := ride_cells B2.out.2.1
    obtain ⟨s0, s1, s2⟩ := cells2 H2.out.2.2.1
    clear HA1 HA2 H0 h
    go_wp2_with (go_at_call 35; refine HN.out.mono ?_; rintro r u2 ⟨qx, rfl, HX⟩; clear HN)
    have HSZ : Hid (wc.heap.size ≤ u2.heap.size ∧ Below wc.heap.size wc u2) := by
      rcases HX.out with ⟨_, bx, _, hm⟩ | ⟨_, _, hb⟩
      · exact ⟨hm.bl.size, hm.bl⟩
      · exact ⟨hb.size, hb⟩
    have HC1 : Hid (Cpy (W.heap.size + 1) u2 73 1 p1 k c1) := B2.out.2.2.1.on HSZ.out.2
    go_loopw [29] (fun vi wr => ∃ i : Nat, vi = .int .i64 i ∧ i ≤ k ∧ Hid (Cpy (W.heap.size + 1) wr 73 1 p1 k c1 ∧ Turn (fpR p1) (fpR p1) u2 wr)) (fun vi _ => k - (intOf vi).toNat)
    case atStart => exact ⟨0, rfl, Nat.zero_le _, HC1.out, Turn.refl _ _⟩
    case round =>
      obtain ⟨i, rfl, hi, HR⟩ := hrel
      by_cases hlt : i < k
      · have hlt' : (i : Int) < (k : Int) := by omega
        obtain ⟨g, hp, hB, hg, hc⟩ := HR.out.1.at_ hlt
        obtain ⟨⟨v0, c0⟩, f0⟩ := hc 0 (by omega)
        rw [Nat.mul_one, Nat.add_zero] at c0 f0
        have HZ : Hid (Cpy (W.heap.size + 1) (wr.setCell ⟨g, i, none⟩ (.float .f64 13858561215837503488)) 73 1 p1 k c1 ∧ Turn (fpR p1) (fpR p1) u2 (wr.setCell ⟨g, i, none⟩ (.float .f64 13858561215837503488))) := ⟨HR.out.1.put _ _ _, HR.out.2.trans (by rw [hp]; exact turn_set wr g i _)⟩
        subst hp
        go_wp2_with fail
        exact ⟨⟨i + 1, by first | rfl | (congr 1), by omega, HZ.out⟩, by simp [intOf]; omega⟩
      · have hlt' : ¬ (i : Int) < (k : Int) := by omega
        obtain ⟨wo, rfl⟩ : ∃ wo : World, wo = wr := ⟨_, rfl⟩
        have HW1 : Hid (Turn (fpR p1) (fpR p1) u2 wo) := HR.out.2
        have HL1 : Hid (∀ j ∈ fpR p1, W.heap.size + 1 ≤ j ∧ j < wc.heap.size ∧ j ≠ g5) := fun j hj => by
          rcases B2.out.2.2.1 with ⟨r1, _⟩ | ⟨g, arr, r1, r0, r2, _⟩
          · rw [r1] at hj; simp [fpR] at hj
          · rw [r1] at hj
            simp [fpR] at hj
            subst hj
            exact ⟨r0, lt_of_block r2, Md.Cv.ne_ty r2 H2.out.2.2.1 (by decide)⟩
        have HL2 : Hid (∀ j ∈ fpR p2, W.heap.size + 1 ≤ j ∧ j < wc.heap.size ∧ j ≠ g5 ∧ j ∉ fpR p1) := fun j hj => by
          rcases H2.out.1 with ⟨r1, _⟩ | ⟨g, arr, r1, r0, r2, _⟩
          · rw [r1] at hj; simp [fpR] at hj
          · rw [r1] at hj
            simp [fpR] at hj
            subst hj
            refine ⟨r0, lt_of_block r2, Md.Cv.ne_ty r2 H2.out.2.2.1 (by decide), fun y => ?_⟩
            rcases B2.out.2.2.1 with ⟨q1, _⟩ | ⟨g', arr', q1, q0, q2, _⟩
            · rw [q1] at y; simp [fpR] at y
            · rw [q1] at y
              simp [fpR] at y
              subst y
              exact Md.Cv.ne_ty r2 q2 (by decide) rfl
        have HG5 : Hid (g5 < wc.heap.size) := s2
        have HBX : Hid (wo.heap[g5]? = some (prgO t p2 n c2)) := (HW1.out.block g5 (Nat.lt_of_lt_of_le HG5.out HSZ.out.1) (fun y => (HL1.out g5 y).2.2 rfl)).trans ((HSZ.out.2.block g5 HG5.out).trans H2.out.2.2.1)
        have HC2 : Hid (Cpy (W.heap.size + 1) wo 88 3 p2 n c2) := by
          have c2' := H2.out.1.on HSZ.out.2
          rcases c2' with r | ⟨g, arr, r1, r0, r2, r3⟩
          · exact .inl r
          · refine .inr ⟨g, arr, r1, r0, (HW1.out.block g (lt_of_block r2) (fun y => ?_)).trans r2, r3⟩
            exact (HL2.out g (by rw [r1]; simp [fpR])).2.2.2 y
        obtain ⟨z0, z1, z2⟩ := cells2 HBX.out
        clear HR
        go_wp2_with fail
        go_loopw [39] (fun vi wr => ∃ i : Nat, vi = .int .i64 i ∧ i ≤ n ∧ Hid (Cpy (W.heap.size + 1) wr 88 3 p2 n c2 ∧ Turn (fpR p2) (fpR p2) wo wr)) (fun vi _ => n - (intOf vi).toNat)
        case atStart => exact ⟨0, rfl, Nat.zero_le _, HC2.out, Turn.refl _ _⟩
        case round =>
          obtain ⟨i2, rfl, hi2, HR2⟩ := hrel
          have HB5 : Hid (wr.heap[g5]? = some (prgO t p2 n c2)) := (HR2.out.2.block g5 (lt_of_block HBX.out) (fun y => (HL2.out g5 y).2.2.1 rfl)).trans HBX.out
          obtain ⟨y0, y1, y2⟩ := cells2 HB5.out
          by_cases hlt2 : i2 < n
          · have hlt2' : (i2 : Int) < (n : Int) := by omega
            obtain ⟨g, hp, hB, hg, hc⟩ := HR2.out.1.at_ hlt2
            obtain ⟨⟨v0, k0⟩, f0⟩ := hc 0 (by omega)
            obtain ⟨⟨v1, k1⟩, f1⟩ := hc 1 (by omega)
            obtain ⟨⟨v2, k2⟩, f2⟩ := hc 2 (by omega)
            rw [Nat.add_zero] at k0 f0
            have HZ : Hid (Cpy (W.heap.size + 1) (((wr.setCell ⟨g, i2 * 3, none⟩ (.int .i64 19)).setCell ⟨g, i2 * 3 + 1, none⟩ (.int .i64 50)).setCell ⟨g, i2 * 3 + 2, none⟩ (.float .f64 0)) 88 3 p2 n c2 ∧ Turn (fpR p2) (fpR p2) wo (((wr.setCell ⟨g, i2 * 3, none⟩ (.int .i64 19)).setCell ⟨g, i2 * 3 + 1, none⟩ (.int .i64 50)).setCell ⟨g, i2 * 3 + 2, none⟩ (.float .f64 0))) := ⟨((HR2.out.1.put _ _ _).put _ _ _).put _ _ _, HR2.out.2.trans (by rw [hp]; exact ((turn_set wr g _ _).trans (turn_set _ g _ _)).trans (turn_set _ g _ _))⟩
            subst hp
            clear hc HR2 HB5
            go_wp2_with fail
            exact ⟨⟨i2 + 1, by first | rfl | (congr 1), by omega, HZ.out⟩, by simp [intOf]; omega⟩
          · have hlt2' : ¬ (i2 : Int) < (n : Int) := by omega
            have T2 : Hid (Turn (fpR p1 ++ fpR p2) (fpR p1 ++ fpR p2) u2 wr) := turn_of (L := fpR p1 ++ fpR p2) (HR2.out.2.os.trans HW1.out.os) (HR2.out.2.tape.trans HW1.out.tape) (HR2.out.2.output.trans HW1.out.output) (Nat.le_trans HW1.out.size HR2.out.2.size) (fun _ y => y) fun j hj hn => (HR2.out.2.block j (Nat.lt_of_lt_of_le hj HW1.out.size) (fun y => hn (List.mem_append.2 (.inr y)))).trans (HW1.out.block j hj (fun y => hn (List.mem_append.2 (.inl y))))
            have LL : Hid (∀ j ∈ fpR p1 ++ fpR p2, W.heap.size + 1 ≤ j ∧ j < wc.heap.size) := fun j hj => by
              rcases List.mem_append.1 hj with y | y
              · exact ⟨(HL1.out j y).1, (HL1.out j y).2.1⟩
              · exact ⟨(HL2.out j y).1, (HL2.out j y).2.1⟩
            have BW : Hid (Below W.heap.size W u2) := B2.out.1.trans (HSZ.out.2.mono B2.out.1.size)
            have BE : Hid (Below W.heap.size W wr) := ⟨T2.out.os.trans BW.out.os, T2.out.tape.trans BW.out.tape, T2.out.output.trans BW.out.output, Nat.le_trans BW.out.size T2.out.size, fun j hj => (T2.out.block j (Nat.lt_of_lt_of_le hj BW.out.size) (fun y => by have := (LL.out j y).1; omega)).trans (BW.out.block j hj)⟩
            have XR : Hid (wr.heap[W.heap.size]? = some (.cells (rideV a b c e th t ao n cap po k co pw kw cw pp kp cp sp) 31 (0, 0))) := (T2.out.block _ (Nat.lt_of_lt_of_le (lt_of_block B2.out.2.1) HSZ.out.1) (fun y => by have := (LL.out _ y).1; omega)).trans ((HSZ.out.2.block _ (lt_of_block B2.out.2.1)).trans B2.out.2.1)
            obtain ⟨x0, x1, x2, x3, x4, x5, x6, x7, x8, x9, x10, xb⟩ := ride_cells XR.out
            clear HR2 HB5 HL1 HL2
            go_wp2_with (go_at_call 36; refine (HD.out _ BE.out).mono ?_; rintro r u4 ⟨qd, rfl, HY⟩; clear HD)
            go_ret2
            refine ⟨qx, qd, rfl, ?_⟩
            rcases HX.out with ⟨m1, bx, rfl, hm⟩ | ⟨m1, rfl, hb⟩
            · rcases HY.out with ⟨_, bd, rfl, hd⟩ | ⟨m2, _⟩
              · exact .inl ⟨m1, bx, bd, rfl, rfl, bgn_of HCO.out B2.out.1 hm (fun j hj hl => T2.out.block j hl (fun y => by have := (LL.out j y).2; omega)) T2.out.size BE.out hd⟩
              · rw [m1] at m2
                cases m2
            · rcases HY.out with ⟨m2, _⟩ | ⟨_, rfl, hd⟩
              · rw [m1] at m2
                cases m2
              · exact .inr ⟨m1, rfl, rfl, BE.out.trans (hd.mono BE.out.size)⟩
end
end Go.Proofs.YteinilmecnlanaaGreatDoor.Ww
namespace Go.Proofs.YteinilmecnlanaaGreatDoor.Ww
open Go.ChangeShapes Go.WideShapes Go.ChangeAt Go.RowKit Go.Deep Rr
theorem cellsW : Tryz.prog.cellsOf 53 = 1 := by kernel_rfl
theorem cellsI : Tryz.prog.cellsOf 3 = 1 := by kernel_rfl
theorem cellsIns : Tryz.prog.cellsOf 88 = 3 := by kernel_rfl
theorem cellsPk : Tryz.prog.cellsOf 96 = 2 := by kernel_rfl
theorem cellsCf : Tryz.prog.cellsOf 23 = 4 := by kernel_rfl
theorem cellsPg : Tryz.prog.cellsOf 26 = 2 := by kernel_rfl
theorem cellsLI : Tryz.prog.cellsOf 24 = 1 := by kernel_rfl
theorem cellsLF : Tryz.prog.cellsOf 27 = 1 := by kernel_rfl
theorem cellsLW : Tryz.prog.cellsOf 28 = 1 := by kernel_rfl
theorem cellsLP : Tryz.prog.cellsOf 29 = 1 := by kernel_rfl
theorem cellsRi : Tryz.prog.cellsOf 31 = 11 := by kernel_rfl
theorem bytesI : Tryz.prog.bytesOf 88 = 24 := by kernel_rfl
theorem u64_of {z : Int} (h : (Lit.int .u64 z).wf = true) : u64B z := by
  simp [Lit.wf, IntKind.min, IntKind.max, IntKind.signed, IntKind.bits] at h
  exact ⟨by omega, by omega⟩
theorem i64_of {z : Int} (h : (Lit.int .i64 z).wf = true) : -9223372036854775808 ≤ z ∧ z ≤ 9223372036854775807 := by
  simp [Lit.wf, IntKind.min, IntKind.max, IntKind.signed, IntKind.bits] at h
  exact ⟨by omega, by omega⟩
def UAt (w : World) (p : Option Addr) (l : List Int) : Prop :=
  ∀ i, i < l.length → ∃ g o, p = some ⟨g, o, none⟩ ∧ g < w.heap.size ∧ w.cell? ⟨g, o + i, none⟩ = some (.int .u64 (l.getD i 0))
theorem UAt.on {w w' : World} {p : Option Addr} {l : List Int} (h : UAt w p l) (k : Below w.heap.size w w') : UAt w' p l := fun i hi => by
  obtain ⟨g, o, h1, h2, h3⟩ := h i hi
  exact ⟨g, o, h1, Nat.lt_of_lt_of_le h2 k.size, (k.cell (p := ⟨g, o + i, none⟩) h2).trans h3⟩
def PkAt (w : World) (p : Option Addr) (l : List (Int × Int)) : Prop :=
  ∀ i, i < l.length → ∃ g o, p = some ⟨g, o, none⟩ ∧ g < w.heap.size ∧ w.cell? ⟨g, o + i * 2, none⟩ = some (.int .i64 (l.getD i (0, 0)).1) ∧ w.cell? ⟨g, o + i * 2 + 1, none⟩ = some (.int .u64 (l.getD i (0, 0)).2)
theorem PkAt.on {w w' : World} {p : Option Addr} {l : List (Int × Int)} (h : PkAt w p l) (k : Below w.heap.size w w') : PkAt w' p l := fun i hi => by
  obtain ⟨g, o, h1, h2, h3, h4⟩ := h i hi
  exact ⟨g, o, h1, Nat.lt_of_lt_of_le h2 k.size, (k.cell (p := ⟨g, o + i * 2, none⟩) h2).trans h3, (k.cell (p := ⟨g, o + i * 2 + 1, none⟩) h2).trans h4⟩
section
variable {H : Type} {enc : TypeId × Value → H}
set_option maxRecDepth 100000 in
theorem open_codeT {W : World} {fuel : Nat} {cs : List Value} {x : DataW H × List MemPlace} (hf : DataW.trod enc Tryz.prog W 0 (fun _ => true) true fuel 24 cs = some x) :
    ∃ (ao : Option Addr) (c : List Ins) (cap : Nat), cs = [.slice ao c.length cap] ∧ (∀ i ∈ c, i.x < 18446744073709551616) ∧ CodeAt W ao c ∧ ((∀ z ∈ x.1.weights Tryz.prog 24, z ≤ reachBytes) → c.length * 24 ≤ reachBytes) := by
  rcases open_slice Tryz.underlying24 hf with ⟨hcs, _⟩ | ⟨a, len, cap, m, n, D, Pl, hcs, _, hl, hm, hmm, hd, hx⟩
  · exact ⟨none, [], 0, hcs, fun i hi => (by cases hi), fun i hi => absurd hi (Nat.not_lt_zero i), fun _ => by simp⟩
  · simp only [if_true] at hmm
    have hd1 : x.1 = .slice ((List.range len).map D) ((List.range (m - len)).map fun j => D (len + j)) := congrArg Prod.fst hd
    obtain ⟨b, off, spot⟩ := a
    have hs : 0 < len → spot = none := by
      intro h0
      obtain ⟨cs', h1, _⟩ := hx 0 (by omega)
      rw [cellsIns] at h1
      obtain ⟨_, hlen, hcell⟩ := World.cells?_some h1
      match cs', hlen with
      | [c0, c1, c2], _ =>
        have f0 := hcell 0 (by omega)
        simpa [Addr.add] using World.cell?_spot f0
    have each : ∀ i, i < len → ∃ q : Ins, spot = none ∧ b < W.heap.size ∧ q.x < 18446744073709551616 ∧ W.cell? ⟨b, off + i * 3, none⟩ = some (.int .i64 q.op) ∧ W.cell? ⟨b, off + i * 3 + 1, none⟩ = some (.int .i64 q.n) ∧ W.cell? ⟨b, off + i * 3 + 2, none⟩ = some (.float .f64 q.x) := by
      intro i hi
      obtain ⟨cs', h1, h2⟩ := hx i (by omega)
      rw [cellsIns] at h1
      obtain ⟨_, hlen, hcell⟩ := World.cells?_some h1
      obtain ⟨xs, k, _, _, _, hxl, hg⟩ := DataW.trod_struct Tryz.underlying88 h2
      match xs, hxl, cs', hlen with
      | [y0, y1, y2], _, [c0, c1, c2], _ =>
        have g0 := hg 0 _ rfl
        have g1 := hg 1 _ rfl
        have g2 := hg 2 _ rfl
        simp [cellsI, cellsF] at g0 g1 g2
        obtain ⟨x0, e0, _, _⟩ := DataW.trod_int Tryz.underlying3 g0
        obtain ⟨x1, e1, _, _⟩ := DataW.trod_int Tryz.underlying3 g1
        obtain ⟨x2, e2, hx2⟩ := trod_f64 g2
        simp at e0 e1 e2
        subst e0 e1 e2
        have f0 := hcell 0 (by omega)
        have f1 := hcell 1 (by omega)
        have f2 := hcell 2 (by omega)
        rw [add_add] at f0 f1 f2
        have hspot := hs (by omega)
        subst hspot
        rw [Go.WideShapes.add_plain] at f0 f1 f2
        exact ⟨⟨x0, x1, x2⟩, rfl, World.block_lt_of_cell? W _ f0, hx2, f0, f1, f2⟩
    have : Inhabited Ins := ⟨⟨0, 0, 0⟩⟩
    obtain ⟨q, hq⟩ := choose_lt each
    have hcl : ((List.range len).map q).length = len := by simp
    have hci : ∀ i, i < len → ci ((List.range len).map q) i = q i := fun i hi => by
      unfold ci
      simp [List.getD_eq_getElem?_getD, hi]
    refine ⟨some ⟨b, off, spot⟩, (List.range len).map q, cap, by rw [hcl]; exact hcs, fun i hi => ?_, fun i hi => ?_, fun hz => ?_⟩
    · obtain ⟨j, hj, rfl⟩ := List.mem_map.1 hi
      exact (hq j (List.mem_range.1 hj)).2.2.1
    · rw [hcl] at hi
      rw [hci i hi]
      obtain ⟨rfl, h2, _, r⟩ := hq i hi
      exact ⟨b, off, rfl, h2, r⟩
    · have := hz ((len + (m - len)) * 24) (by
        rw [hd1]
        simp [DataW.weights, Tryz.underlying24, bytesI])
      rw [hcl]
      omega
set_option maxRecDepth 100000 in
theorem open_flsT {W : World} {fuel : Nat} {cs : List Value} {x : DataW H × List MemPlace} (hf : DataW.trod enc Tryz.prog W 0 (fun _ => true) true fuel 27 cs = some x) :
    ∃ (ao : Option Addr) (l : List Nat) (cap : Nat), cs = [.slice ao l.length cap] ∧ (∀ y ∈ l, y < 18446744073709551616) ∧ FlAt W ao l ∧ ((∀ z ∈ x.1.weights Tryz.prog 27, z ≤ reachBytes) → l.length * 8 ≤ reachBytes) := by
  rcases open_slice1 Tryz.underlying27 cellsF hf with ⟨hcs, _⟩ | ⟨a, len, cap, m, n, V, D, Pl, hcs, _, hl, hm, hmm, hd, hx⟩
  · exact ⟨none, [], 0, hcs, fun y hy => (by cases hy), fun i hi => absurd hi (Nat.not_lt_zero i), fun _ => by simp⟩
  · simp only [if_true] at hmm
    have hd1 : x.1 = .slice ((List.range len).map D) ((List.range (m - len)).map fun j => D (len + j)) := congrArg Prod.fst hd
    obtain ⟨b, off, spot⟩ := a
    have hs : 0 < len → spot = none := by
      intro h0
      obtain ⟨h1, _⟩ := hx 0 (by omega)
      simpa [Addr.add] using World.cell?_spot h1
    have each : ∀ i, i < len → ∃ q : Nat, spot = none ∧ b < W.heap.size ∧ q < 18446744073709551616 ∧ W.cell? ⟨b, off + i, none⟩ = some (.float .f64 q) := by
      intro i hi
      obtain ⟨h1, h2⟩ := hx i (by omega)
      obtain ⟨q, e, hq⟩ := trod_f64 h2
      simp at e
      rw [e] at h1
      have hs := hs (by omega)
      subst hs
      rw [Go.WideShapes.add_plain] at h1
      exact ⟨q, rfl, World.block_lt_of_cell? W _ h1, hq, h1⟩
    obtain ⟨q, hq⟩ := choose_lt each
    have hlen : ((List.range len).map q).length = len := by simp
    have hget : ∀ i, i < len → ((List.range len).map q).getD i 0 = q i := fun i hi => by simp [hi]
    refine ⟨some ⟨b, off, spot⟩, (List.range len).map q, cap, by rw [hlen]; exact hcs, fun y hy => ?_, fun i hi => ?_, fun hz => ?_⟩
    · obtain ⟨j, hj, rfl⟩ := List.mem_map.1 hy
      exact (hq j (List.mem_range.1 hj)).2.2.1
    · rw [hlen] at hi
      obtain ⟨rfl, r1, _, r3⟩ := hq i hi
      exact ⟨b, off, rfl, r1, by rw [hget i hi]; exact r3⟩
    · have := hz ((len + (m - len)) * 8) (by
        rw [hd1]
        simp [DataW.weights, Tryz.underlying27, bytesF])
      rw [hlen]
      omega
set_option maxRecDepth 100000 in
theorem open_wordsT {W : World} {fuel : Nat} {cs : List Value} {x : DataW H × List MemPlace} (hf : DataW.trod enc Tryz.prog W 0 (fun _ => true) true fuel 28 cs = some x) :
    ∃ (ao : Option Addr) (l : List Int) (cap : Nat), cs = [.slice ao l.length cap] ∧ okW l ∧ UAt W ao l ∧ l.length ≤ 9223372036854775807 := by
  rcases open_slice1 Tryz.underlying28 cellsW hf with ⟨hcs, _⟩ | ⟨a, len, cap, m, n, V, D, Pl, hcs, _, hl, hm, hmm, hd, hx⟩
  · exact ⟨none, [], 0, hcs, fun y hy => (by cases hy), fun i hi => absurd hi (Nat.not_lt_zero i), Nat.zero_le _⟩
  · simp only [if_true] at hmm
    obtain ⟨b, off, spot⟩ := a
    have hs : 0 < len → spot = none := by
      intro h0
      obtain ⟨h1, _⟩ := hx 0 (by omega)
      simpa [Addr.add] using World.cell?_spot h1
    have each : ∀ i, i < len → ∃ q : Int, spot = none ∧ b < W.heap.size ∧ u64B q ∧ W.cell? ⟨b, off + i, none⟩ = some (.int .u64 q) := by
      intro i hi
      obtain ⟨h1, h2⟩ := hx i (by omega)
      obtain ⟨q, e, _, hq⟩ := DataW.trod_int Tryz.underlying53 h2
      simp at e
      rw [e] at h1
      have hs := hs (by omega)
      subst hs
      rw [Go.WideShapes.add_plain] at h1
      exact ⟨q, rfl, World.block_lt_of_cell? W _ h1, u64_of hq, h1⟩
    obtain ⟨q, hq⟩ := choose_lt each
    have hlen : ((List.range len).map q).length = len := by simp
    have hget : ∀ i, i < len → ((List.range len).map q).getD i 0 = q i := fun i hi => by simp [hi]
    refine ⟨some ⟨b, off, spot⟩, (List.range len).map q, cap, by rw [hlen]; exact hcs, fun y hy => ?_, fun i hi => ?_, by rw [hlen]; exact Nat.le_trans hl hm⟩
    · obtain ⟨j, hj, rfl⟩ := List.mem_map.1 hy
      exact (hq j (List.mem_range.1 hj)).2.2.1
    · rw [hlen] at hi
      obtain ⟨rfl, r1, _, r3⟩ := hq i hi
      exact ⟨b, off, rfl, r1, by rw [hget i hi]; exact r3⟩
set_option maxRecDepth 100000 in
theorem open_pokesT {W : World} {fuel : Nat} {cs : List Value} {x : DataW H × List MemPlace} (hf : DataW.trod enc Tryz.prog W 0 (fun _ => true) true fuel 29 cs = some x) :
    ∃ (ao : Option Addr) (l : List (Int × Int)) (cap : Nat), cs = [.slice ao l.length cap] ∧ (∀ p ∈ l, (-9223372036854775808 ≤ p.1 ∧ p.1 ≤ 9223372036854775807) ∧ u64B p.2) ∧ PkAt W ao l ∧ l.length ≤ 9223372036854775807 := by
  rcases open_slice Tryz.underlying29 hf with ⟨hcs, _⟩ | ⟨a, len, cap, m, n, D, Pl, hcs, _, hl, hm, hmm, hd, hx⟩
  · exact ⟨none, [], 0, hcs, fun i hi => (by cases hi), fun i hi => absurd hi (Nat.not_lt_zero i), Nat.zero_le _⟩
  · simp only [if_true] at hmm
    obtain ⟨b, off, spot⟩ := a
    have hs : 0 < len → spot = none := by
      intro h0
      obtain ⟨cs', h1, _⟩ := hx 0 (by omega)
      rw [cellsPk] at h1
      obtain ⟨_, hlen, hcell⟩ := World.cells?_some h1
      match cs', hlen with
      | [c0, c1], _ =>
        have f0 := hcell 0 (by omega)
        simpa [Addr.add] using World.cell?_spot f0
    have each : ∀ i, i < len → ∃ q : Int × Int, spot = none ∧ b < W.heap.size ∧ ((-9223372036854775808 ≤ q.1 ∧ q.1 ≤ 9223372036854775807) ∧ u64B q.2) ∧ W.cell? ⟨b, off + i * 2, none⟩ = some (.int .i64 q.1) ∧ W.cell? ⟨b, off + i * 2 + 1, none⟩ = some (.int .u64 q.2) := by
      intro i hi
      obtain ⟨cs', h1, h2⟩ := hx i (by omega)
      rw [cellsPk] at h1
      obtain ⟨_, hlen, hcell⟩ := World.cells?_some h1
      obtain ⟨xs, k, _, _, _, hxl, hg⟩ := DataW.trod_struct Tryz.underlying96 h2
      match xs, hxl, cs', hlen with
      | [y0, y1], _, [c0, c1], _ =>
        have g0 := hg 0 _ rfl
        have g1 := hg 1 _ rfl
        simp [cellsI, cellsW] at g0 g1
        obtain ⟨x0, e0, _, w0⟩ := DataW.trod_int Tryz.underlying3 g0
        obtain ⟨x1, e1, _, w1⟩ := DataW.trod_int Tryz.underlying53 g1
        simp at e0 e1
        subst e0 e1
        have f0 := hcell 0 (by omega)
        have f1 := hcell 1 (by omega)
        rw [add_add] at f0 f1
        have hspot := hs (by omega)
        subst hspot
        rw [Go.WideShapes.add_plain] at f0 f1
        exact ⟨(x0, x1), rfl, World.block_lt_of_cell? W _ f0, ⟨i64_of w0, u64_of w1⟩, f0, f1⟩
    obtain ⟨q, hq⟩ := choose_lt each
    have hcl : ((List.range len).map q).length = len := by simp
    have hget : ∀ i, i < len → ((List.range len).map q).getD i (0, 0) = q i := fun i hi => by simp [hi]
    refine ⟨some ⟨b, off, spot⟩, (List.range len).map q, cap, by rw [hcl]; exact hcs, fun i hi => ?_, fun i hi => ?_, by rw [hcl]; exact Nat.le_trans hl hm⟩
    · obtain ⟨j, hj, rfl⟩ := List.mem_map.1 hi
      exact (hq j (List.mem_range.1 hj)).2.2.1
    · rw [hcl] at hi
      rw [hget i hi]
      obtain ⟨rfl, h2, _, r⟩ := hq i hi
      exact ⟨b, off, rfl, h2, r⟩
structure RideIn (W : World) (a b c e th t : Int) (ao : Option Addr) (cs : List Ins) (cap : Nat) (po : Option Addr) (l : List Nat) (co : Nat) (pw : Option Addr) (lw : List Int) (cw : Nat) (pp : Option Addr) (lp : List (Int × Int)) (cp : Nat) : Prop where
  cx : ∀ i ∈ cs, i.x < 18446744073709551616
  code : CodeAt W ao cs
  lx : ∀ x ∈ l, x < 18446744073709551616
  args : FlAt W po l
  wx : okW lw
  words : UAt W pw lw
  wl : lw.length ≤ 9223372036854775807
  px : ∀ p ∈ lp, (-9223372036854775808 ≤ p.1 ∧ p.1 ≤ 9223372036854775807) ∧ u64B p.2
  pokes : PkAt W pp lp
  pl : lp.length ≤ 9223372036854775807
  nb : cs.length * 24 ≤ reachBytes
  kb : l.length * 8 ≤ reachBytes
set_option maxRecDepth 100000 in
set_option maxHeartbeats 1000000 in
theorem open_ride {W : World} {base : Nat} {v : Value} {d : DataW H} {ps : List MemPlace} (hval : Value.okWide Tryz.prog W .any base 31 v) (h : DataW.Trod enc Tryz.prog W 0 (fun _ => true) true 31 v d ps)
    {ts : List TypeId} {ds : List (DataW H)} (hz : (DataW.weightsEach Tryz.prog ts ds).all (· ≤ reachBytes) = true) {j : Nat} (h1 : ts[j]? = some 31) (h2 : ds[j]? = some d) :
    ∃ a b c e th t ao cs cap po l co pw lw cw pp lp cp sp, v = .agg (rideV a b c e th t ao cs.length cap po l.length co pw lw.length cw pp lp.length cp sp) ∧ RideIn W a b c e th t ao cs cap po l co pw lw cw pp lp cp := by
  obtain ⟨csv, rfl, hsz⟩ := okWide_struct Tryz.underlying31 hval
  rw [cellsRi] at hsz
  obtain ⟨lv⟩ := csv
  match lv, hsz with
  | [c0, c1, c2, c3, c4, c5, c6, c7, c8, c9, c10], _ =>
    obtain ⟨fuel, hf⟩ := h
    obtain ⟨xs, n, _, hxd, _, hlen, hg⟩ := DataW.trod_struct Tryz.underlying31 hf
    match xs, hlen with
    | [y0, y1, y2, y3, y4, y5, y6], _ =>
      have g0 := hg 0 _ rfl
      have g1 := hg 1 _ rfl
      have g2 := hg 2 _ rfl
      have g3 := hg 3 _ rfl
      have g4 := hg 4 _ rfl
      have g5 := hg 5 _ rfl
      have g6 := hg 6 _ rfl
      simp [cellsCf, cellsI, cellsPg, cellsLF, cellsLW, cellsLP, Value.cells] at g0 g1 g2 g3 g4 g5 g6
      obtain ⟨zs, n0, _, _, _, zl, zg⟩ := DataW.trod_struct Tryz.underlying23 g0
      obtain ⟨us, n2, _, hu, _, ul, ug⟩ := DataW.trod_struct Tryz.underlying26 g2
      match zs, zl, us, ul with
      | [z0, z1, z2, z3], _, [u0, u1], _ =>
        have k0 := zg 0 _ rfl
        have k1 := zg 1 _ rfl
        have k2 := zg 2 _ rfl
        have k3 := zg 3 _ rfl
        have m0 := ug 0 _ rfl
        have m1 := ug 1 _ rfl
        simp [cellsI, cellsLI] at k0 k1 k2 k3 m0 m1
        obtain ⟨a, ea, _, _⟩ := DataW.trod_int Tryz.underlying3 k0
        obtain ⟨b, eb, _, _⟩ := DataW.trod_int Tryz.underlying3 k1
        obtain ⟨c, ec, _, _⟩ := DataW.trod_int Tryz.underlying3 k2
        obtain ⟨e, ee, _, _⟩ := DataW.trod_int Tryz.underlying3 k3
        obtain ⟨th, eh, _, _⟩ := DataW.trod_int Tryz.underlying3 g1
        obtain ⟨sp, es, _, _⟩ := DataW.trod_int Tryz.underlying3 g6
        obtain ⟨t, et, _, _⟩ := DataW.trod_int Tryz.underlying3 m0
        obtain ⟨ao, cs, cap, e1, q1, q2, q3⟩ := open_codeT m1
        obtain ⟨po, l, co, e2, r1, r2, r3⟩ := open_flsT g3
        obtain ⟨pw, lw, cw, e3, s1, s2, s3⟩ := open_wordsT g4
        obtain ⟨pp, lp, cp, e4, t1, t2, t3⟩ := open_pokesT g5
        simp at ea eb ec ee eh et e1 e2 e3 e4 es
        have hd0 : d = .agg [y0.1, y1.1, y2.1, y3.1, y4.1, y5.1, y6.1] := congrArg Prod.fst hxd
        have hd2 : y2.1 = .agg [u0.1, u1.1] := congrArg Prod.fst hu
        have wt : ∀ z ∈ d.weights Tryz.prog 31, z ≤ reachBytes := fun z hz' => by simpa using List.all_eq_true.1 hz _ (DataW.weights_mem_each h1 h2 z hz')
        rw [hd0, hd2] at wt
        simp [DataW.weights, DataW.weightsEach, Tryz.underlying31, Tryz.underlying26] at wt
        refine ⟨a, b, c, e, th, t, ao, cs, cap, po, l, co, pw, lw, cw, pp, lp, cp, sp, by rw [ea, eb, ec, ee, eh, et, e1, e2, e3, e4, es], ⟨q1, q2, r1, r2, s1, s2, s3, t1, t2, t3, q3 fun z hz' => wt z ?_, r3 fun z hz' => wt z ?_⟩⟩
        · simp [hz']
        · simp [hz']
end
theorem RideIn.at_ {W : World} {a b c e th t : Int} {ao : Option Addr} {cs : List Ins} {cap : Nat} {po : Option Addr} {l : List Nat} {co : Nat} {pw : Option Addr} {lw : List Int} {cw : Nat} {pp : Option Addr} {lp : List (Int × Int)} {cp : Nat} (h : RideIn W a b c e th t ao cs cap po l co pw lw cw pp lp cp) (hs : Shaped5 W) : RideAt W cs l ao po cs.length l.length := ⟨hs, rfl, rfl, h.code, h.args, h.cx, h.lx, Nat.le_trans h.nb (by decide), Nat.le_trans h.kb (by decide)⟩
end Go.Proofs.YteinilmecnlanaaGreatDoor.Ww
namespace Go.Proofs.YteinilmecnlanaaGreatDoor.Ww
open Go.ChangeShapes Go.WideShapes Go.ChangeAt Go.RowKit Num Rr
theorem RideAt.on {W w : World} {cs : List Ins} {l : List Nat} {ao po : Option Addr} {n k : Nat} (h : RideAt W cs l ao po n k) (q : Below W.heap.size W w) : RideAt w cs l ao po n k := ⟨h.sh.on q, h.hn, h.hk, h.code.on q, h.args.on q, h.cx, h.lx, h.nb, h.kb⟩
theorem RideAt.inY {W : World} {a b c e t th : Int} {cs : List Ins} {l : List Nat} {ao po : Option Addr} {n k : Nat} (h : RideAt W cs l ao po n k) (hm : mayX a b c e k th = true) : InY (newY a b c e t cs l th) := by
  simp only [mayX, Bool.and_eq_true, decide_eq_true_eq] at hm
  refine new_inY hm.1.1 (fun j hj => ?_) h.lx (by rw [h.hk]; exact hm.1.2) hm.2
  refine h.cx _ ?_
  have : ci cs j = cs[j] := by simp [ci, hj]
  rw [this]
  exact List.getElem_mem hj
theorem full_of {W w u : World} {bx mb mg : Nat} {x : Wx} {z : Wz} {v : Wv} {ws : List Int} {o : Bool} {n : Int} (h : RawAt w bx x z v) (hv : VOk x v) (a1 : Abv W.heap.size (gY bx v)) (hW : Below W.heap.size W w) (hm : MemAt 116 u mb mg ws o n) (hb : Below w.heap.size w u) (ab : w.heap.size ≤ mb) (ag : w.heap.size ≤ mg) : Full u (mb :: mg :: gY bx v) bx z mb mg u x ws o n ∧ Turn [] (mb :: mg :: gY bx v) W u := by
  have hs := hW.size
  refine ⟨⟨v, ⟨h.on hb, hm, fun i hi y => ?_, fun i hi y => ?_, Turn.refl _ _⟩, hv⟩, ?_⟩
  · have := h.blw i y
    simp only [List.mem_cons, List.not_mem_nil, or_false] at hi
    omega
  · have := h.blwK i y
    simp only [List.mem_cons, List.not_mem_nil, or_false] at hi
    omega
  · refine (Below.turn (hW.trans (hb.mono hs)) []).mono fun i hi => .inr ?_
    simp only [List.mem_cons] at hi
    rcases hi with hi | hi | hi
    · omega
    · omega
    · have := a1 i hi; omega
theorem Full.keepG {w w' : World} {G : List Nat} {b mb mg : Nat} {x : Wx} {z : Wz} {ws : List Int} {o : Bool} {n : Int} (h : Full w G b z mb mg w x ws o n) (k : Kept G w w') (k2 : Kept z.KK w w') : Full w' G b z mb mg w' x ws o n := by
  obtain ⟨v, ⟨h1, h2, h3, h4, t⟩, h5⟩ := h
  have hin : ∀ i ∈ mb :: mg :: gY b v, i ∈ G := fun i hi => by
    rcases t.own i hi with y | y
    · exact y
    · have : i < w.heap.size := by
        simp only [List.mem_cons] at hi
        rcases hi with rfl | rfl | hi
        · exact h2.ltB
        · exact h2.ltG
        · exact h1.blw i hi
      omega
  refine ⟨v, ⟨h1.keep ⟨k.1, fun i hi => k.2 i (hin i (by simp [hi]))⟩ k2, h2.keep (k.2 _ (hin _ (by simp))) (k.2 _ (hin _ (by simp))), h3, h4, ⟨rfl, rfl, rfl, Nat.le_refl _, fun _ _ _ => rfl, fun i hi => .inl (hin i hi)⟩⟩, h5⟩
def dOwn (bd : Nat) (zd : Dz) (bw gw : Nat) : List Nat := [bd, zd.br, zd.bl, bw, gw]
structure Both (W w : World) (bx : Nat) (z : Wz) (mb mg : Nat) (x : Wx) (ws : List Int) (o : Bool) (n : Int) (bd : Nat) (zd : Dz) (bw gw : Nat) (xd : Wx) (wd : List Int) (nd : Int) : Prop where
  ex : ∃ G qd, Full w G bx z mb mg w x ws o n ∧ Turn [] G W w ∧ Blw w G ∧ Sep z.KK G ∧ Blw w z.KK ∧ DRaw w bd xd zd qd ∧ WdAt w bw gw wd nd ∧ Sep [bw, gw] (dAll bd zd qd) ∧ Sep (bw :: gw :: dAll bd zd qd) G ∧ Sep (dOwn bd zd bw gw) z.KK ∧ Abv W.heap.size (dOwn bd zd bw gw)
section
variable {W w w' : World} {bx : Nat} {z : Wz} {mb mg : Nat} {x : Wx} {ws : List Int} {o : Bool} {n : Int} {bd : Nat} {zd : Dz} {bw gw : Nat} {xd : Wx} {wd : List Int} {nd : Int}
theorem dAll_blw {qd : Dq} (h : DRaw w bd xd zd qd) (k : WdAt w bw gw wd nd) : Blw w (bw :: gw :: dAll bd zd qd) := fun i hi => by
  simp only [List.mem_cons] at hi
  rcases hi with rfl | rfl | hi
  · exact k.ltB
  · exact k.ltG
  · exact h.blw i hi
theorem dOwn_in {qd : Dq} (h : DRaw w bd xd zd qd) : ∀ i ∈ dOwn bd zd bw gw, i ∈ bw :: gw :: dAll bd zd qd := fun i hi => by
  have := h.at_.1
  simp only [dOwn, List.mem_cons, List.not_mem_nil, or_false] at hi
  simp only [dAll, frY, Fr, List.mem_cons, List.mem_append]
  rw [this]
  rcases hi with y | y | y | y | y <;> simp [y]
theorem Both.below (h : Both W w bx z mb mg x ws o n bd zd bw gw xd wd nd) : Below W.heap.size W w := by
  obtain ⟨G, qd, h1, h2, _⟩ := h.ex
  exact (h1.from h2).below
theorem Both.mem (h : Both W w bx z mb mg x ws o n bd zd bw gw xd wd nd) : MemAt 116 w mb mg ws o n := by
  obtain ⟨G, qd, h1, _⟩ := h.ex
  exact h1.mem
theorem Both.words (h : Both W w bx z mb mg x ws o n bd zd bw gw xd wd nd) : WdAt w bw gw wd nd := by
  obtain ⟨G, qd, _, _, _, _, _, _, h7, _⟩ := h.ex
  exact h7
theorem Both.draw (h : Both W w bx z mb mg x ws o n bd zd bw gw xd wd nd) : ∃ qd, DRaw w bd xd zd qd := by
  obtain ⟨G, qd, _, _, _, _, _, h6, _⟩ := h.ex
  exact ⟨qd, h6⟩
theorem Both.raw (h : Both W w bx z mb mg x ws o n bd zd bw gw xd wd nd) : ∃ v, RawAt w bx x z v ∧ VOk x v := by
  obtain ⟨G, qd, h1, _⟩ := h.ex
  exact h1.raw
theorem Both.p (h : Both W w bx z mb mg x ws o n bd zd bw gw xd wd nd) : ∃ G, Full w G bx z mb mg w x ws o n ∧ (Shaped5 W → TabAt w G) ∧ ∀ w' x' ws' o' n', Full w G bx z mb mg w' x' ws' o' n' → Both W w' bx z mb mg x' ws' o' n' bd zd bw gw xd wd nd := by
  obtain ⟨G, qd, h1, h2, h3, h4, h5, h6, h7, h8, h9, h10, h11⟩ := h.ex
  refine ⟨G, h1, fun hs => (show TabAt W [] from ⟨hs, by simp⟩).turn h2, fun w' x' ws' o' n' k => ?_⟩
  obtain ⟨G', k1, k2, k3, k4, k5⟩ := k.rebase
  have hb := dAll_blw h6 h7
  have kD := k2.kept h9 hb
  exact ⟨G', qd, k1, h2.trans k2, k3, k4, k5, h6.keep ⟨kD.1, fun i hi => kD.2 i (by simp [hi])⟩, h7.keep ⟨kD.1, fun i hi => kD.2 i (by simp only [List.mem_cons, List.not_mem_nil, or_false] at hi ⊢; rcases hi with y | y <;> simp [y])⟩, h8, h9.turn hb k2, h10, h11⟩
theorem Both.d (h : Both W w bx z mb mg x ws o n bd zd bw gw xd wd nd) : ∃ R0, DMid w R0 bd zd bw gw w xd wd nd ∧ ∀ w' xd' wd' nd', DMid w R0 bd zd bw gw w' xd' wd' nd' → Both W w' bx z mb mg x ws o n bd zd bw gw xd' wd' nd' := by
  obtain ⟨G, qd, h1, h2, h3, h4, h5, h6, h7, h8, h9, h10, h11⟩ := h.ex
  refine ⟨frY zd qd, ⟨qd, h6, h7, h8, Turn.refl _ _, fun _ hk => .inl hk⟩, fun w' xd' wd' nd' k => ?_⟩
  obtain ⟨qd', k1, k2, k3, k4, k5⟩ := k
  have sO : Sep G (dOwn bd zd bw gw) := fun i hi y => h9 i (dOwn_in h6 i y) hi
  have kG := k4.kept sO h3
  have kK := k4.kept h10.symm h5
  have blW := k4.below h11 h2.size
  refine ⟨G, qd', h1.keepG kG kK, ⟨k4.os.trans h2.os, k4.tape.trans h2.tape, k4.output.trans h2.output, Nat.le_trans h2.size k4.size, fun i hi hn => (blW.block i hi).trans (h2.block i hi hn), fun i hi => h2.own i hi⟩, fun i hi => Nat.lt_of_lt_of_le (h3 i hi) k4.size, h4, fun i hi => Nat.lt_of_lt_of_le (h5 i hi) k4.size, k1, k2, k3, fun i hi y => ?_, h10, h11⟩
  have old : ∀ i, i ∈ bw :: gw :: dAll bd zd qd → i ∈ G → False := fun i => h9 i
  have M : ∀ {i}, i ∈ bw :: gw :: dAll bd zd qd ↔ i = bw ∨ i = gw ∨ i ∈ dAll bd zd qd := by simp
  have M2 : i = bw ∨ i = gw ∨ i ∈ dAll bd zd qd' := by simpa using hi
  rcases M2 with q | q | q
  · exact old i (M.2 (.inl q)) y
  · exact old i (M.2 (.inr (.inl q))) y
  · rcases mem_dAll.1 q with q | q | q | q | q
    · exact old i (M.2 (.inr (.inr (mem_dAll.2 (.inl q))))) y
    · rcases k5 i (List.mem_append.2 (.inl q)) with q | q
      · exact old i (M.2 (.inr (.inr (by simp only [dAll, List.mem_cons, List.mem_append]; exact .inr (.inl q))))) y
      · have := h3 i y
        omega
    · rcases k5 i (List.mem_append.2 (.inr q)) with q | q
      · exact old i (M.2 (.inr (.inr (by simp only [dAll, List.mem_cons, List.mem_append]; exact .inr (.inl q))))) y
      · have := h3 i y
        omega
    · exact old i (M.2 (.inr (.inr (mem_dAll.2 (.inr (.inr (.inr (.inl q)))))))) y
    · exact old i (M.2 (.inr (.inr (mem_dAll.2 (.inr (.inr (.inr (.inr q)))))))) y
theorem Both.on (h : Both W w bx z mb mg x ws o n bd zd bw gw xd wd nd) (k : Below w.heap.size w w') : Both W w' bx z mb mg x ws o n bd zd bw gw xd wd nd := by
  obtain ⟨G, h1, _, h3⟩ := h.p
  exact h3 _ _ _ _ _ (h1.on k)
theorem both_new {W0 W u w : World} {ao : Option Addr} {cs : List Ins} (hW : Below W0.heap.size W0 W) (h : Bgn W u bx bd x ao cs) (hm : MemAt 116 w mb mg ws o n) (hd : WdAt w bw gw wd nd) (hb : Below u.heap.size u w) (a1 : u.heap.size ≤ mb) (a2 : u.heap.size ≤ mg) (a3 : u.heap.size ≤ bw) (a4 : u.heap.size ≤ gw) (s : Sep [bw, gw] [mb, mg]) : ∃ z zd, zd.cs = cs ∧ Both W0 w bx z mb mg x ws o n bd zd bw gw x wd nd := by
  obtain ⟨z, v, zd, qd, k1, k2, k3, k4, k5, k6, k7, k8, k9, k10, kv⟩ := h.p
  have hs := hW.size
  have hu := h.bl.size
  obtain ⟨f1, f2⟩ := full_of k1 kv (k2.mono hs) (hW.trans (h.bl.mono hs)) hm hb a1 a2
  have D := k5.on hb
  have lD := k5.blw
  have hsz := hb.size
  have lkk := k1.blwK
  refine ⟨z, zd, k4, ⟨_, qd, f1, f2, fun i hi => ?_, fun i hi y => ?_, fun i hi => Nat.lt_of_lt_of_le (lkk i hi) hsz, D, hd, fun i hi y => ?_, fun i hi y => ?_, fun i hi y => ?_, fun i hi => ?_⟩⟩
  · simp only [List.mem_cons] at hi
    rcases hi with rfl | rfl | hi
    · exact hm.ltB
    · exact hm.ltG
    · exact Nat.lt_of_lt_of_le (k1.blw i hi) hsz
  · have := lkk i hi
    simp only [List.mem_cons] at y
    rcases y with y | y | y
    · omega
    · omega
    · exact k1.sep i hi y
  · have := lD i y
    simp only [List.mem_cons, List.not_mem_nil, or_false] at hi
    omega
  · simp only [List.mem_cons] at hi y
    have sm := s i
    simp only [List.mem_cons, List.not_mem_nil, or_false] at sm
    rcases y with y | y | y
    · rcases hi with hi | hi | hi
      · exact sm (.inl hi) (.inl y)
      · exact sm (.inr hi) (.inl y)
      · have := lD i hi; omega
    · rcases hi with hi | hi | hi
      · exact sm (.inl hi) (.inr y)
      · exact sm (.inr hi) (.inr y)
      · have := lD i hi; omega
    · have := k1.blw i y
      rcases hi with hi | hi | hi
      · omega
      · omega
      · exact k9 i y hi
  · have := lkk i y
    have bl := k5.at_.1
    simp only [dOwn, List.mem_cons, List.not_mem_nil, or_false] at hi
    rcases hi with hi | hi | hi | hi | hi
    · exact k10 i y (by simp [hi])
    · exact k10 i y (by simp [hi, frY, Fr])
    · exact k10 i y (by simp [hi, frY, Fr, bl])
    · omega
    · omega
  · have bl := k5.at_.1
    have K6 := k6 i
    simp only [frY, Fr, List.mem_cons, List.mem_append] at K6
    simp only [dOwn, List.mem_cons, List.not_mem_nil, or_false] at hi
    rcases hi with hi | hi | hi | hi | hi
    · have := K6 (.inl hi); omega
    · have := K6 (.inr (.inl (.inl hi))); omega
    · have := K6 (.inr (.inl (.inr (.inl (by rw [bl]; exact hi))))); omega
    · omega
    · omega
end
end Go.Proofs.YteinilmecnlanaaGreatDoor.Ww
namespace Go.Proofs.YteinilmecnlanaaGreatDoor.Ww
open Go.ChangeShapes Go.WideShapes Go.ChangeAt Go.RowKit Num Rr
abbrev planO (b : Int) (N : Nat) : Obj := .cells #[.int .i64 0, .int .i64 1, .int .i64 2, .int .i64 3, .int .i64 (3 + b), .int .i64 (N : Int)] 51
structure Laid (w w' : World) (N mb mg bw gw : Nat) (ws : List Int) : Prop where
  len : ws.length = N
  ok : okW ws
  mem : MemAt 116 w' mb mg ws false 0
  wds : WdAt w' bw gw ws 0
  am : w.heap.size ≤ mb
  ag : w.heap.size ≤ mg
  aw : w.heap.size ≤ bw
  av : w.heap.size ≤ gw
  sep : Sep [bw, gw] [mb, mg]
  bl : Below w.heap.size w w'
theorem okW_zeros (N : Nat) : okW (List.replicate N 0) := fun v hv => by rw [List.eq_of_mem_replicate hv]; exact ⟨by decide, by decide⟩
theorem poked_nat {ws : List Int} {i : Nat} (h : i < ws.length) (v : Int) : Md.poked ws (i : Int) v = ws.set i v := by
  unfold Md.poked
  rw [if_pos (by simp [hasB]; omega)]
  simp
theorem getD_ok {ws : List Int} (h : okW ws) (i : Nat) : u64B (ws.getD i 0) := by
  by_cases q : i < ws.length
  · have e : ws.getD i 0 = ws[i] := by simp [q]
    rw [e]
    exact h _ (List.getElem_mem q)
  · have e : ws.getD i 0 = 0 := by simp [List.getD_eq_getElem?_getD, List.getElem?_eq_none (Nat.le_of_not_lt q)]
    rw [e]
    exact ⟨by decide, by decide⟩
theorem Laid.put {w u u1 : World} {N mb mg bw gw : Nat} {ws : List Int} (h : Laid w u N mb mg bw gw ws) {i : Nat} (hi : i < N) {v : Int} (hv : u64B v) (k1 : MemAt 116 u1 mb mg (Md.poked ws (i : Int) v) false 0) (k2 : Chg mb mg u u1) : Laid w (u1.setCell ⟨gw, i, none⟩ (.int .u64 v)) N mb mg bw gw (ws.set i v) := by
  have s : ∀ y, y = bw ∨ y = gw → y ≠ mb ∧ y ≠ mg := fun y hy => by
    have := h.sep y (by simpa using hy)
    simpa using this
  rw [poked_nat (by rw [h.len]; exact hi)] at k1
  have w1 : WdAt u1 bw gw ws 0 := h.wds.keep ⟨k2.size, fun y hy => by
    have hy' : y = bw ∨ y = gw := by simpa using hy
    refine k2.block y ?_ (s y hy').1 (s y hy').2
    rcases hy' with rfl | rfl
    · exact h.wds.ltB
    · exact h.wds.ltG⟩
  have b1 : Below w.heap.size w u1 := h.bl.trans (k2.below h.am h.ag h.bl.size)
  exact ⟨by rw [List.length_set]; exact h.len, h.ok.set _ hv, k1.other (fun y => (s gw (.inr rfl)).1 y.symm) (fun y => (s gw (.inr rfl)).2 y.symm) _ _, w1.setW i v, h.am, h.ag, h.aw, h.av, h.sep, b1.setCell h.av _⟩
theorem Laid.drew {w u : World} {N mb mg bw gw : Nat} {ws : List Int} (h : Laid w u N mb mg bw gw ws) : Laid w u.drew N mb mg bw gw ws := ⟨h.len, h.ok, h.mem.drew, ⟨h.wds.box, h.wds.row, h.wds.ne, h.wds.many⟩, h.am, h.ag, h.aw, h.av, h.sep, h.bl.trans ((Same.drew u).below _)⟩
section
variable {W : World} {a b c e : Int} {pw : Option Addr} {lw : List Int} {kw cw : Nat}
set_option maxRecDepth 100000 in
set_option maxHeartbeats 2000000 in
theorem laid_any (hc : Md.cfgB a b c e = true) (hw : UAt W pw lw) (hk : lw.length = kw) (hl : okW lw) (hx : kw ≤ 9223372036854775807) {N : Nat} (hN : 3 + b + 3 * a = (N : Int)) : Calls Tryz.prog 11 #[cfgV a b c e, .slice pw kw cw] W fun r w' => ∃ mb bw, r = .returned (.tuple #[.pointer (some ⟨mb, 0, none⟩), .pointer (some ⟨bw, 0, none⟩)]) ∧ Hid (∃ mg gw ws, Laid W w' N mb mg bw gw ws) := by
  obtain ⟨h1, h2, h3, h4⟩ := Md.cfgB_iff.1 hc
  have n1 : 1 ≤ N ∧ N ≤ 4096 := by omega
  have HP := Lib.hid (fun u => Md.refPlace_any a b c e u)
  simp only [hc, if_true, hN] at HP
  have HM : Hid (∀ u, Calls Tryz.prog 22 #[.int .i64 (N : Int)] u fun e w' => e = .returned (.tuple #[.pointer (some ⟨u.heap.size + 1, 0, none⟩), .int .i64 0]) ∧ MemAt 116 w' (u.heap.size + 1) u.heap.size (List.replicate N 0) false 0 ∧ Below u.heap.size u w') := fun u => Md.new_some N n1.1 n1.2 u
  have HK := fun u => Md.make_words N n1.2 u
  have HWW : Hid (UAt W pw lw ∧ okW lw ∧ lw.length = kw) := ⟨hw, hl, hk⟩
  clear hc h1 h2 h3 h4 hw hl hk hN
  go_enter Tryz.func11, Tryz.ntmps11
  go_upto_region 8 with (first
    | (go_at_call 22; refine (HM.out _).mono ?_; rintro r u2 ⟨rfl, q1, q2⟩; have H2 := Lib.hid (And.intro q1 q2); obtain ⟨p0, p1, p2, p3, p4, p5, lp⟩ := cells6 ((q2.block _ (lt_of_block H1.out.2)).trans H1.out.2); clear q1 q2 HM)
    | (go_at_call 37; refine (HP.out _).mono ?_; rintro r u1 ⟨rfl, q⟩; have H1 : Hid (Below W.heap.size W (u1.alloc (planO b N)) ∧ (u1.alloc (planO b N)).heap[u1.heap.size]? = some (planO b N)) := ⟨(below_chain (below_alloc W _) q).alloc (below_chain (below_alloc W _) q).size _, heap_alloc_new _ _⟩; clear q HP))
  have HL0 : Hid (Laid (u1.alloc (planO b N)) ((u2.alloc (.cells (u64s (List.replicate N 0)).toArray 53)).alloc (.cells #[.slice (some ⟨u2.heap.size, 0, none⟩) N N, .int .i64 0] 94)) N (u1.heap.size + 1 + 1) (u1.heap.size + 1) (u2.heap.size + 1) u2.heap.size (List.replicate N 0)) := by
    have e : (u1.alloc (planO b N)).heap.size = u1.heap.size + 1 := by simp
    obtain ⟨m1, m2⟩ := H2.out
    rw [e] at m1
    have l1 := m1.ltB
    have l2 := m1.ltG
    have k2 : Below u2.heap.size u2 ((u2.alloc (.cells (u64s (List.replicate N 0)).toArray 53)).alloc (.cells #[.slice (some ⟨u2.heap.size, 0, none⟩) N N, .int .i64 0] 94)) := (below_alloc _ _).trans ((below_alloc _ _).mono (by simp))
    refine ⟨by simp, okW_zeros N, m1.on k2, ⟨?_, heap_old (heap_alloc_new _ _), by omega, by simp; exact n1.2⟩, by rw [e]; omega, by rw [e]; omega, by rw [e]; omega, by rw [e]; omega, fun i hi y => ?_, m2.trans (k2.mono m2.size)⟩
    · have := heap_alloc_new (u2.alloc (.cells (u64s (List.replicate N 0)).toArray 53)) (.cells #[.slice (some ⟨u2.heap.size, 0, none⟩) N N, .int .i64 0] 94)
      simpa using this
    · simp only [List.mem_cons, List.not_mem_nil, or_false] at hi y
      omega
  clear H2 p0 p1 p2 p3 p4 p5 lp HK
  generalize u1.heap.size + 1 + 1 = mb at HL0
  generalize u1.heap.size + 1 = mg at HL0
  generalize hbw : u2.heap.size + 1 = bw at HL0
  generalize u2.heap.size = gw at HL0
  clear hbw
  go_wp2_with fail
  go_loopw [11] (fun vi wr => ∃ i : Nat, vi = .int .i64 i ∧ i ≤ N ∧ Hid (∃ ws, Laid (u1.alloc (planO b N)) wr N mb mg bw gw ws)) (fun vi _ => N - (intOf vi).toNat)
  case atStart => exact ⟨0, rfl, Nat.zero_le _, _, HL0.out⟩
  case round =>
    obtain ⟨i, rfl, hi, HR⟩ := hrel
    obtain ⟨ws, hws⟩ := HR.out
    have HR2 := Lib.hid hws
    clear HR hws
    obtain ⟨p0, p1, p2, p3, p4, p5, lp⟩ := cells6 ((HR2.out.bl.block _ (lt_of_block H1.out.2)).trans H1.out.2)
    clear p0 p1 p2 p3 p4
    by_cases hlt : i < N ∧ i < kw
    · have hlt' : (i : Int) < (N : Int) := by omega
      have hlk' : (i : Int) < (kw : Int) := by omega
      obtain ⟨g, off, hp, hg, hcell⟩ := HWW.out.1 i (by rw [HWW.out.2.2]; exact hlt.2)
      have HV : Hid (u64B (lw.getD i 0)) := getD_ok HWW.out.2.1 i
      generalize lw.getD i 0 = v at hcell HV
      subst hp
      have HB : Hid (∀ u, Below (u1.alloc (planO b N)).heap.size (u1.alloc (planO b N)) u → u.cell? ⟨g, off + i, none⟩ = some (.int .u64 v) ∧ g < u.heap.size) := fun u q => by
        have q2 := H1.out.1.trans (q.mono H1.out.1.size)
        exact ⟨(q2.cell (p := ⟨g, off + i, none⟩) hg).trans hcell, Nat.lt_of_lt_of_le hg q2.size⟩
      obtain ⟨x1, x2⟩ := HB.out _ HR2.out.bl
      have HPK := Lib.hid (Md.poke_any HR2.out.mem (i : Int) v)
      have HPUT : Hid (∀ u1', MemAt 116 u1' mb mg (Md.poked ws (i : Int) v) false 0 → Chg mb mg wr u1' → Laid (u1.alloc (planO b N)) (u1'.setCell ⟨gw, i, none⟩ (.int .u64 v)) N mb mg bw gw (ws.set i v) ∧ Below (u1.alloc (planO b N)).heap.size (u1.alloc (planO b N)) u1' ∧ WdAt u1' bw gw ws 0) := fun u' k1 k2 => by
        have b1 := HR2.out.bl.trans (k2.below HR2.out.am HR2.out.ag HR2.out.bl.size)
        refine ⟨HR2.out.put hlt.1 HV.out k1 k2, b1, HR2.out.wds.keep ⟨k2.size, fun y hy => ?_⟩⟩
        have hy' : y = bw ∨ y = gw := by simpa using hy
        have s := HR2.out.sep y hy
        refine k2.block y ?_ (fun q => s (by simp [q])) (fun q => s (by simp [q]))
        rcases hy' with rfl | rfl
        · exact HR2.out.wds.ltB
        · exact HR2.out.wds.ltG
      have hgw : Hid (g ≠ gw) := fun q => by have h1 := HR2.out.av; have h2 := H1.out.1.size; omega
      have HLEN : Hid (ws.length = N) := HR2.out.len
      clear hcell HWW
      go_upto_region 12 with (go_at_call 26; refine HPK.out.mono ?_; rintro r u3 ⟨rfl, q1, q2⟩; have H3 := Lib.hid (HPUT.out _ q1 q2); obtain ⟨y1, y2⟩ := HB.out _ H3.out.2.1; have c0 := H3.out.2.2.cell0; rw [HLEN.out] at c0; have lb := H3.out.2.2.ltB; have f0 := H3.out.2.2.freeG i; have lg := H3.out.2.2.ltG; clear q1 q2 HPK HPUT)
      have hne := H3.out.2.2.ne
      refine wp_region_seq (fun u => u.cell? ⟨g, off + i, none⟩ = some (.int .u64 v) ∧ u.cell? ⟨bw, 0, none⟩ = some (.slice (some ⟨gw, 0, none⟩) N N) )  ((0, true) :: (1, true) :: (2, true) :: (3, true) :: (4, true) :: (5, true) :: (6, true) :: (7, true) :: (8, true) :: (9, true) :: (10, false) :: [])  Md.Cv.follows13 (by kernel_rfl) (fun _ _ _ _ _ h => h)  ⟨y1, c0⟩ ?_
      (repeat ((first | (refine wpSeq_take (v := ?_) rfl (by rfl) (fun wq hSq => ?_) ?_; rotate_left; (focus ((try dsimp only at hSq); go_simp; try with_reducible rfl))) | refine wpSeq_skip rfl (by rfl) ?_); simp only [Act.put, List.setIfInBounds_toArray, List.set_cons_zero, List.set_cons_succ]))
      have cw := H3.out.2.2.word (i := i) (by rw [HLEN.out]; exact hlt.1)
      (refine wpSeq_do rfl (by rfl) (fun KK hK => ?_); go_simp)
      refine hK.out _ _ ⟨(World.cell?_setCell_far _ _ _ _ (fun q => hgw.out q.symm)).trans y1, (World.cell?_setCell_far _ _ _ _ (fun q => hne q.symm)).trans c0⟩ ?_
      (clear hK KK; try simp only [Act.put])
      refine wpSeq_nil ?_
      go_wp2_with fail
      exact ⟨⟨i + 1, by first | rfl | (congr 1), by omega, _, H3.out.1.drew⟩, by simp [intOf]; omega⟩
    · have HF : Hid (∃ mg gw ws, Laid W wr N mb mg bw gw ws) := by
        have q := HR2.out
        have hs := H1.out.1.size
        exact ⟨mg, gw, ws, q.len, q.ok, q.mem, q.wds, Nat.le_trans hs q.am, Nat.le_trans hs q.ag, Nat.le_trans hs q.aw, Nat.le_trans hs q.av, q.sep, H1.out.1.trans (q.bl.mono hs)⟩
      by_cases h1 : i < N
      · have h1' : (i : Int) < (N : Int) := by omega
        have h2' : ¬ (i : Int) < (kw : Int) := by omega
        go_wp2_with fail
        go_ret2
        exact ⟨mb, bw, rfl, HF.out⟩
      · have h1' : ¬ (i : Int) < (N : Int) := by omega
        go_wp2_with fail
        go_ret2
        exact ⟨mb, bw, rfl, HF.out⟩
end
section
variable {W w : World} {bx : Nat} {z : Wz} {mb mg : Nat} {x : Wx} {ws : List Int} {o : Bool} {n : Int} {bd : Nat} {zd : Dz} {bw gw : Nat} {xd : Wx} {wd : List Int} {nd : Int} {pp : Option Addr} {lp : List (Int × Int)} {kp cp : Nat}
theorem Both.poke (h : Both W w bx z mb mg x ws o n bd zd bw gw xd wd nd) {i : Nat} (hi : i < ws.length) (v : Int) : Calls Tryz.prog 26 #[.pointer (some ⟨mb, 0, none⟩), .int .i64 (i : Int), .int .u64 v] w fun e w' => e = .returned (.int .i64 0) ∧ Both W w' bx z mb mg x (ws.set i v) o n bd zd bw gw xd wd nd := by
  obtain ⟨G, h1, _, h3⟩ := h.p
  refine (h1.poke (i : Int) v).mono ?_
  rintro e w' ⟨rfl, k⟩
  rw [poked_nat hi] at k
  refine ⟨?_, h3 _ _ _ _ _ k⟩
  have : errP ws (i : Int) = 0 := by unfold errP; rw [if_pos (by simp [hasB]; omega)]
  rw [this]
theorem Both.setW (h : Both W w bx z mb mg x ws o n bd zd bw gw xd wd nd) (i : Nat) (v : Int) : Both W (w.setCell ⟨gw, i, none⟩ (.int .u64 v)) bx z mb mg x ws o n bd zd bw gw xd (wd.set i v) nd := by
  obtain ⟨R0, h1, h3⟩ := h.d
  exact h3 _ _ _ _ (h1.wrds ((turn_set w gw i _).wide (by simp)) (h1.words.setW i v))
end
end Go.Proofs.YteinilmecnlanaaGreatDoor.Ww
namespace Go.Proofs.YteinilmecnlanaaGreatDoor.Ww
open Go.ChangeShapes Go.WideShapes Go.ChangeAt Go.RowKit Num Rr
structure RideAll (W : World) (cs : List Ins) (l : List Nat) (ao po : Option Addr) (n k : Nat) (lw : List Int) (pw : Option Addr) (kw : Nat) (lp : List (Int × Int)) (pp : Option Addr) (kp : Nat) : Prop where
  at_ : RideAt W cs l ao po n k
  words : UAt W pw lw
  wx : okW lw
  wl : lw.length = kw
  wb : kw ≤ 9223372036854775807
  pokes : PkAt W pp lp
  px : ∀ p ∈ lp, (-9223372036854775808 ≤ p.1 ∧ p.1 ≤ 9223372036854775807) ∧ u64B p.2
  pl : lp.length = kp
theorem RideAll.on {W w : World} {cs : List Ins} {l : List Nat} {ao po : Option Addr} {n k : Nat} {lw : List Int} {pw : Option Addr} {kw : Nat} {lp : List (Int × Int)} {pp : Option Addr} {kp : Nat} (h : RideAll W cs l ao po n k lw pw kw lp pp kp) (q : Below W.heap.size W w) : RideAll w cs l ao po n k lw pw kw lp pp kp := ⟨h.at_.on q, h.words.on q, h.wx, h.wl, h.wb, h.pokes.on q, h.px, h.pl⟩
theorem RideIn.all {W : World} {a b c e th t : Int} {ao : Option Addr} {cs : List Ins} {cap : Nat} {po : Option Addr} {l : List Nat} {co : Nat} {pw : Option Addr} {lw : List Int} {cw : Nat} {pp : Option Addr} {lp : List (Int × Int)} {cp : Nat} (h : RideIn W a b c e th t ao cs cap po l co pw lw cw pp lp cp) (hs : Shaped5 W) : RideAll W cs l ao po cs.length l.length lw pw lw.length lp pp lp.length := ⟨h.at_ hs, h.words, h.wx, rfl, h.wl, h.pokes, h.px, rfl⟩
end Go.Proofs.YteinilmecnlanaaGreatDoor.Ww
namespace Go.Proofs.YteinilmecnlanaaGreatDoor.Ww
open Go.ChangeShapes Go.WideShapes Go.ChangeAt Go.RowKit Num Rr
theorem deed_num (t : Int) (na : Nat) (m : Mac) (D : Dd) (mk nu e0 e1 e2 st : Int) (w : World) : (Instr.field 61 (.agg (dC t na m D mk nu e0 e1 e2 st)) 6).run Tryz.prog w = .ok (.int .i64 nu) w := by kernel_rfl
theorem deed_end (t : Int) (na : Nat) (m : Mac) (D : Dd) (mk nu e0 e1 e2 st : Int) (w : World) : (Instr.field 61 (.agg (dC t na m D mk nu e0 e1 e2 st)) 10).run Tryz.prog w = .ok (.agg #[.int .i64 e0, .int .i64 e1, .int .i64 e2]) w := by kernel_rfl
section
variable {W w : World} {bx : Nat} {z : Wz} {mb mg : Nat} {x : Wx} {ws : List Int} {o : Bool} {n : Int} {bd : Nat} {zd : Dz} {bw gw : Nat} {xd : Wx} {wd : List Int} {nd : Int}
theorem Both.all (h : Both W w bx z mb mg x ws o n bd zd bw gw xd wd nd) {N : Nat} (hN : ws.length = N) : Calls Tryz.prog 27 #[.pointer (some ⟨mb, 0, none⟩)] w fun r w' => ∃ g, r = .returned (.slice (some ⟨g, 0, none⟩) N N) ∧ Hid (Md.RowAt w' g ws ∧ w.heap.size ≤ g ∧ Below w.heap.size w w') := by
  refine (Md.all_any h.mem).mono ?_
  rintro r w' ⟨rfl, k1, k2⟩
  rw [hN]
  exact ⟨_, rfl, k1, Nat.le_refl _, k2⟩
theorem Both.plan (h : Both W w bx z mb mg x ws o n bd zd bw gw xd wd nd) : w.cell? ⟨bd, 0, none⟩ = some (.int .i64 0) ∧ w.cell? ⟨bd, 1, none⟩ = some (.int .i64 1) ∧ w.cell? ⟨bd, 2, none⟩ = some (.int .i64 2) ∧ w.cell? ⟨bd, 3, none⟩ = some (.int .i64 3) ∧ w.cell? ⟨bd, 4, none⟩ = some (.int .i64 (3 + xd.b)) ∧ w.cell? ⟨bd, 5, none⟩ = some (.int .i64 (3 + xd.b + 3 * xd.a)) ∧ bd < w.heap.size := by
  obtain ⟨qd, k⟩ := h.draw
  exact ⟨(k.cell 0).trans rfl, (k.cell 1).trans rfl, (k.cell 2).trans rfl, (k.cell 3).trans rfl, (k.cell 4).trans rfl, (k.cell 5).trans rfl, k.ltB⟩
theorem Both.deed (h : Both W w bx z mb mg x ws o n bd zd bw gw xd wd nd) (hI : InY x) {mk nu e0 e1 e2 : Int} (hk : markY x = mk) (hnu : x.num = nu) (h0 : endJ x x.m.how = e0) (h1 : endJ x x.m.cod = e1) (h2 : endJ x x.m.err = e2) : Calls Tryz.prog 20 #[.pointer (some ⟨bx, 0, none⟩)] w fun r w' => ∃ na D, r = .returned (.agg (dC x.tag na x.m D mk nu e0 e1 e2 x.steps)) ∧ Hid (DdAt w' w.heap.size D x.args x.m ∧ x.args.length = na ∧ Below w.heap.size w w') := by
  obtain ⟨v, k, kv⟩ := h.raw
  refine (Deed_any k kv hI rfl rfl hk hnu h0 h1 h2).mono ?_
  rintro e w' ⟨D, q1, q2, q3⟩
  exact ⟨_, D, q1, q2, rfl, q3⟩
end
end Go.Proofs.YteinilmecnlanaaGreatDoor.Ww
namespace Go.Proofs.YteinilmecnlanaaGreatDoor.Ww
open Go.ChangeShapes Go.WideShapes Go.ChangeAt Go.RowKit Num Rr
def servL (ws : List Int) : List Int := ((ws.set 0 (ws.getD 0 0 % 1099511627776)).set 2 (ws.getD 2 0 % 1099511627776)).set 1 (ws.getD 0 0 % 1099511627776)
theorem servL_len (ws : List Int) : (servL ws).length = ws.length := by simp [servL]
theorem mod_in {v : Int} (h : u64B v) : u64B (v % 1099511627776) := by
  have h1 := h.1
  exact ⟨by omega, by omega⟩
theorem servL_ok {ws : List Int} (h : okW ws) : okW (servL ws) := ((h.set 0 (mod_in (getD_ok h 0))).set 2 (mod_in (getD_ok h 2))).set 1 (mod_in (getD_ok h 0))
theorem servL_eq (ws : List Int) (u v : Int) : ((ws.set 0 u).set 1 u).set 2 v = ((ws.set 0 u).set 2 v).set 1 u := List.set_comm _ _ (by omega)
section
variable {W w : World} {bx : Nat} {z : Wz} {mb mg : Nat} {x : Wx} {ws : List Int} {o : Bool} {n : Int} {bd : Nat} {zd : Dz} {bw gw : Nat} {xd : Wx} {nd : Int}
theorem getD_set_ne {l : List Int} {i j : Nat} (h : i ≠ j) (v : Int) : (l.set i v).getD j 0 = l.getD j 0 := by
  rw [List.getD_eq_getElem?_getD, List.getD_eq_getElem?_getD, List.getElem?_set_ne h]
theorem getD_set_eq {l : List Int} {i : Nat} (h : i < l.length) (v : Int) : (l.set i v).getD i 0 = v := by
  rw [List.getD_eq_getElem?_getD, List.getElem?_set_self h]
  rfl
set_option maxRecDepth 100000 in
set_option maxHeartbeats 2000000 in
theorem served_any (h : Both W w bx z mb mg x ws o n bd zd bw gw xd ws nd) (hok : okW ws) {N : Nat} (hN : ws.length = N) (h3 : 3 ≤ N) (p4 p5 : Int) : Calls Tryz.prog 25 #[.pointer (some ⟨mb, 0, none⟩), .pointer (some ⟨bw, 0, none⟩), .agg #[.int .i64 0, .int .i64 1, .int .i64 2, .int .i64 3, .int .i64 p4, .int .i64 p5]] w fun r w' => r = .returned (.tuple #[]) ∧ Both W w' bx z mb mg x (servL ws) o n bd zd bw gw xd (servL ws) nd := by
  have v0 := getD_ok hok 0
  have v2 := getD_ok hok 2
  obtain ⟨w1, hw1⟩ : ∃ w1, w1 = w.alloc (.cells #[.int .i64 0, .int .i64 1, .int .i64 2, .int .i64 3, .int .i64 p4, .int .i64 p5] 51) := ⟨_, rfl⟩
  have H1 : Hid (Both W w1 bx z mb mg x ws o n bd zd bw gw xd ws nd) := by rw [hw1]; exact h.on (below_alloc _ _)
  have P1 : Hid (w1.heap[w.heap.size]? = some (.cells #[.int .i64 0, .int .i64 1, .int .i64 2, .int .i64 3, .int .i64 p4, .int .i64 p5] 51 (0, 0))) := by rw [hw1]; exact heap_alloc_new _ _
  have HW : Hid (∀ u ws' wd, Both W u bx z mb mg x ws' o n bd zd bw gw xd wd nd → wd.length = N → (u.cell? ⟨bw, 0, none⟩ = some (.slice (some ⟨gw, 0, none⟩) N N) ∧ bw < u.heap.size ∧ gw < u.heap.size ∧ bw ≠ gw) ∧ (∀ j, j < N → u.cell? ⟨gw, j, none⟩ = some (.int .u64 (wd.getD j 0)) ∧ u.frozen? ⟨gw, j, none⟩ = false)) := fun u ws' wd k hl => ⟨⟨by have := k.words.cell0; rw [hl] at this; exact this, k.words.ltB, k.words.ltG, k.words.ne⟩, fun j hj => ⟨k.words.word (by rw [hl]; exact hj), k.words.freeG j⟩⟩
  have HNE : Hid (w.heap.size ≠ gw ∧ w.heap.size ≠ mb ∧ w.heap.size ≠ mg) := ⟨by have := h.words.ltG; omega, by have := h.mem.ltB; omega, by have := h.mem.ltG; omega⟩
  have HPO : Hid (∀ u ws' wd i (v : Int), Both W u bx z mb mg x ws' o n bd zd bw gw xd wd nd → i < ws'.length → Calls Tryz.prog 26 #[.pointer (some ⟨mb, 0, none⟩), .int .i64 ((i : Nat) : Int), .int .u64 v] u fun e w' => e = .returned (.int .i64 0) ∧ Both W w' bx z mb mg x (ws'.set i v) o n bd zd bw gw xd wd nd ∧ Chg mb mg u w') := fun u ws' wd i v k hi => by
    obtain ⟨G, h1, _, h3'⟩ := k.p
    refine (Md.poke_any h1.mem (i : Int) v).mono ?_
    rintro e w' ⟨rfl, k1, k2⟩
    have he : errP ws' (i : Int) = 0 := by unfold errP; rw [if_pos (by simp [hasB]; omega)]
    rw [poked_nat hi] at k1
    exact ⟨by rw [he], h3' _ _ _ _ _ (h1.memb k2 k1), k2⟩
  have HL : Hid (ws.length = N) := hN
  have HLN : Hid (servL ws = ((ws.set 0 (ws.getD 0 0 % 1099511627776)).set 1 (ws.getD 0 0 % 1099511627776)).set 2 (ws.getD 2 0 % 1099511627776)) := (servL_eq ws _ _).symm
  obtain ⟨a0, ha0⟩ : ∃ a0, ws.getD 0 0 = a0 := ⟨_, rfl⟩
  obtain ⟨a2, ha2⟩ : ∃ a2, ws.getD 2 0 = a2 := ⟨_, rfl⟩
  rw [ha0] at v0
  rw [ha2] at v2
  obtain ⟨m0, hm0⟩ : ∃ m0, a0 % 1099511627776 = m0 := ⟨_, rfl⟩
  obtain ⟨m2, hm2⟩ : ∃ m2, a2 % 1099511627776 = m2 := ⟨_, rfl⟩
  have t0 : a0.tmod 1099511627776 = m0 := by rw [Int.tmod_eq_emod_of_nonneg v0.1]; exact hm0
  have t2 : a2.tmod 1099511627776 = m2 := by rw [Int.tmod_eq_emod_of_nonneg v2.1]; exact hm2
  obtain ⟨sv, hsv⟩ : ∃ sv, servL ws = sv := ⟨_, rfl⟩
  have e1 : sv = ((ws.set 0 m0).set 2 m2).set 1 m0 := by rw [← hsv]; unfold servL; rw [ha0, ha2, hm0, hm2]
  have e2 : sv = ((ws.set 0 m0).set 1 m0).set 2 m2 := by rw [← hsv, HLN.out, ha0, ha2, hm0, hm2]
  rw [hsv]
  have HW1 : Hid (∀ u, Both W u bx z mb mg x ws o n bd zd bw gw xd ws nd → (u.cell? ⟨bw, 0, none⟩ = some (.slice (some ⟨gw, 0, none⟩) N N) ∧ u.cell? ⟨gw, 0, none⟩ = some (.int .u64 a0)) ∧ u.frozen? ⟨gw, 0, none⟩ = false ∧ bw < u.heap.size ∧ gw < u.heap.size) := fun u k => by
    obtain ⟨⟨q1, q2, q3, _⟩, q4⟩ := HW.out u _ _ k hN
    exact ⟨⟨q1, by rw [← ha0]; exact (q4 0 (by omega)).1⟩, (q4 0 (by omega)).2, q2, q3⟩
  have HW2 : Hid (∀ u, Both W u bx z mb mg x ws o n bd zd bw gw xd (ws.set 0 m0) nd → (u.cell? ⟨bw, 0, none⟩ = some (.slice (some ⟨gw, 0, none⟩) N N) ∧ u.cell? ⟨gw, 2, none⟩ = some (.int .u64 a2)) ∧ u.frozen? ⟨gw, 2, none⟩ = false ∧ bw < u.heap.size ∧ gw < u.heap.size) := fun u k => by
    obtain ⟨⟨q1, q2, q3, _⟩, q4⟩ := HW.out u _ _ k (by simpa using hN)
    exact ⟨⟨q1, by rw [← ha2, ← getD_set_ne (i := 0) (by omega) m0]; exact (q4 2 (by omega)).1⟩, (q4 2 (by omega)).2, q2, q3⟩
  have HW3 : Hid (∀ u, Both W u bx z mb mg x ws o n bd zd bw gw xd ((ws.set 0 m0).set 2 m2) nd → (u.cell? ⟨bw, 0, none⟩ = some (.slice (some ⟨gw, 0, none⟩) N N) ∧ u.cell? ⟨gw, 0, none⟩ = some (.int .u64 m0) ∧ (∃ y, u.cell? ⟨gw, 1, none⟩ = some (.int .u64 y))) ∧ u.frozen? ⟨gw, 1, none⟩ = false ∧ bw < u.heap.size ∧ gw < u.heap.size) := fun u k => by
    obtain ⟨⟨q1, q2, q3, _⟩, q4⟩ := HW.out u _ _ k (by simpa using hN)
    exact ⟨⟨q1, by have := (q4 0 (by omega)).1; rw [getD_set_ne (by omega), getD_set_eq (by rw [hN]; omega)] at this; exact this, _, (q4 1 (by omega)).1⟩, (q4 1 (by omega)).2, q2, q3⟩
  have HW4 : Hid (∀ u ws', Both W u bx z mb mg x ws' o n bd zd bw gw xd sv nd → (u.cell? ⟨bw, 0, none⟩ = some (.slice (some ⟨gw, 0, none⟩) N N) ∧ u.cell? ⟨gw, 0, none⟩ = some (.int .u64 m0) ∧ u.cell? ⟨gw, 1, none⟩ = some (.int .u64 m0) ∧ u.cell? ⟨gw, 2, none⟩ = some (.int .u64 m2)) ∧ bw < u.heap.size ∧ gw < u.heap.size) := fun u ws' k => by
    obtain ⟨⟨q1, q2, q3, _⟩, q4⟩ := HW.out u _ _ k (by rw [e1]; simpa using hN)
    rw [e1] at q4
    refine ⟨⟨q1, ?_, ?_, ?_⟩, q2, q3⟩
    · have := (q4 0 (by omega)).1
      rw [getD_set_ne (by omega), getD_set_ne (by omega), getD_set_eq (by rw [hN]; omega)] at this
      exact this
    · have := (q4 1 (by omega)).1
      rw [getD_set_eq (by simp; omega)] at this
      exact this
    · have := (q4 2 (by omega)).1
      rw [getD_set_ne (by omega), getD_set_eq (by simp; omega)] at this
      exact this
  have HPL : Hid (∀ u v, Chg mb mg u v → u.heap[w.heap.size]? = some (.cells #[.int .i64 0, .int .i64 1, .int .i64 2, .int .i64 3, .int .i64 p4, .int .i64 p5] 51 (0, 0)) → v.heap[w.heap.size]? = some (.cells #[.int .i64 0, .int .i64 1, .int .i64 2, .int .i64 3, .int .i64 p4, .int .i64 p5] 51 (0, 0))) := fun u v k q => (k.block _ (lt_of_block q) HNE.out.2.1 HNE.out.2.2).trans q
  have n0 : 0 < N := by omega
  have n1 : 1 < N := by omega
  have n2 : 2 < N := by omega
  have n1' : (1 : Int) < (N : Int) := by omega
  have n2' : (2 : Int) < (N : Int) := by omega
  have LS : Hid (ws.length = N ∧ True) := ⟨hN, trivial⟩
  have E1 := Lib.hid e1
  have E2 := Lib.hid e2
  clear h hok ha0 ha2 hm0 hm2 v0 v2 e1 e2 hsv HLN HW
  go_enter Tryz.func25, Tryz.ntmps25
  go_upto_region 1 with fail
  rw [← hw1]
  clear hw1
  obtain ⟨p0, p1, p2, _, _, _, pl⟩ := cells6 P1.out
  obtain ⟨⟨c0, g0⟩, f0, lb, lg⟩ := HW1.out _ (H1.out.on ((Same.drew _).below _))
  refine wp_region_seqE (fun u => u.cell? ⟨bw, 0, none⟩ = some (.slice (some ⟨gw, 0, none⟩) N N) ∧ u.cell? ⟨w.heap.size, 0, none⟩ = some (.int .i64 0) ∧ u.cell? ⟨gw, 0, none⟩ = some (.int .u64 a0) )  ((0, true) :: (1, true) :: (2, true) :: (3, true) :: (4, true) :: (5, true) :: (6, true) :: (7, true) :: (8, true) :: (9, true) :: (10, false) :: [])  Md.Cv.follows13 (by kernel_rfl) (fun _ _ _ _ _ h => h)  ⟨c0, p0, g0⟩ ?_
  (repeat (refine wpSeqE_take (v := ?_) rfl (by rfl) (fun wq hSq => ?_) ?_; rotate_left; (focus ((try dsimp only at hSq); go_simp; try with_reducible rfl)); simp only [Act.put, List.setIfInBounds_toArray, List.set_cons_zero, List.set_cons_succ]))
  try rw [t0]
  (refine wpSeqE_do rfl (by rfl) (fun KK hK => ?_); go_simp)
  obtain ⟨u1, hu1⟩ : ∃ u1, u1 = (w1.setCell ⟨gw, 0, none⟩ (.int .u64 m0)).drew := ⟨_, rfl⟩
  have H2 : Hid (Both W u1 bx z mb mg x ws o n bd zd bw gw xd (ws.set 0 m0) nd) := by rw [hu1]; exact (H1.out.setW 0 m0).on ((Same.drew _).below _)
  have P2 : Hid (u1.heap[w.heap.size]? = some (.cells #[.int .i64 0, .int .i64 1, .int .i64 2, .int .i64 3, .int .i64 p4, .int .i64 p5] 51 (0, 0))) := by rw [hu1]; exact (heap_setCell_other _ _ _ _ HNE.out.1).trans P1.out
  rw [← hu1]
  refine hK.out _ _ (fun hn => absurd rfl hn) ?_
  (clear hK KK; try simp only [Act.put])
  refine wpSeqE_nil ?_
  clear hu1 c0 g0 f0 lb lg p0 p1 p2 pl H1 P1
  go_upto_region 2 with fail
  obtain ⟨p0, p1, p2, _, _, _, pl⟩ := cells6 P2.out
  obtain ⟨⟨c0, g0⟩, f0, lb, lg⟩ := HW2.out _ (H2.out.on ((Same.drew _).below _))
  refine wp_region_seqE (fun u => u.cell? ⟨bw, 0, none⟩ = some (.slice (some ⟨gw, 0, none⟩) N N) ∧ u.cell? ⟨w.heap.size, 2, none⟩ = some (.int .i64 2) ∧ u.cell? ⟨gw, 2, none⟩ = some (.int .u64 a2) )  ((0, true) :: (1, true) :: (2, true) :: (3, true) :: (4, true) :: (5, true) :: (6, true) :: (7, true) :: (8, true) :: (9, true) :: (10, false) :: [])  Md.Cv.follows13 (by kernel_rfl) (fun _ _ _ _ _ h => h)  ⟨c0, p2, g0⟩ ?_
  (repeat (refine wpSeqE_take (v := ?_) rfl (by rfl) (fun wq hSq => ?_) ?_; rotate_left; (focus ((try dsimp only at hSq); go_simp; try with_reducible rfl)); simp only [Act.put, List.setIfInBounds_toArray, List.set_cons_zero, List.set_cons_succ]))
  try rw [t2]
  (refine wpSeqE_do rfl (by rfl) (fun KK hK => ?_); go_simp)
  obtain ⟨u2, hu2⟩ : ∃ u2, u2 = (u1.setCell ⟨gw, 2, none⟩ (.int .u64 m2)).drew := ⟨_, rfl⟩
  have H3 : Hid (Both W u2 bx z mb mg x ws o n bd zd bw gw xd ((ws.set 0 m0).set 2 m2) nd) := by rw [hu2]; exact (H2.out.setW 2 m2).on ((Same.drew _).below _)
  have P3 : Hid (u2.heap[w.heap.size]? = some (.cells #[.int .i64 0, .int .i64 1, .int .i64 2, .int .i64 3, .int .i64 p4, .int .i64 p5] 51 (0, 0))) := by rw [hu2]; exact (heap_setCell_other _ _ _ _ HNE.out.1).trans P2.out
  rw [← hu2]
  refine hK.out _ _ (fun hn => absurd rfl hn) ?_
  (clear hK KK; try simp only [Act.put])
  refine wpSeqE_nil ?_
  clear hu2 c0 g0 f0 lb lg p0 p1 p2 pl H2 P2
  go_upto_region 3 with fail
  obtain ⟨p0, p1, p2, _, _, _, pl⟩ := cells6 P3.out
  obtain ⟨⟨c0, g0, y1, g1⟩, f0, lb, lg⟩ := HW3.out _ (H3.out.on ((Same.drew _).below _))
  refine wp_region_seqE (fun u => u.cell? ⟨bw, 0, none⟩ = some (.slice (some ⟨gw, 0, none⟩) N N) ∧ u.cell? ⟨w.heap.size, 0, none⟩ = some (.int .i64 0) ∧ u.cell? ⟨w.heap.size, 1, none⟩ = some (.int .i64 1) ∧ u.cell? ⟨gw, 0, none⟩ = some (.int .u64 m0) )  ((0, true) :: (1, true) :: (2, true) :: (3, true) :: (4, true) :: (5, true) :: (6, true) :: (7, true) :: (8, true) :: (9, true) :: (10, true) :: (11, true) :: (12, true) :: (13, true) :: (14, true) :: (15, false) :: [])  Md.Cv.follows13 (by kernel_rfl) (fun _ _ _ _ _ h => h)  ⟨c0, p0, p1, g0⟩ ?_
  (repeat (refine wpSeqE_take (v := ?_) rfl (by rfl) (fun wq hSq => ?_) ?_; rotate_left; (focus ((try dsimp only at hSq); go_simp; try with_reducible rfl)); simp only [Act.put, List.setIfInBounds_toArray, List.set_cons_zero, List.set_cons_succ]))
  (refine wpSeqE_do rfl (by rfl) (fun KK hK => ?_); go_simp)
  obtain ⟨u3, hu3⟩ : ∃ u3, u3 = (u2.setCell ⟨gw, 1, none⟩ (.int .u64 m0)).drew := ⟨_, rfl⟩
  have H4 : Hid (Both W u3 bx z mb mg x ws o n bd zd bw gw xd sv nd) := by rw [hu3, E1.out]; exact (H3.out.setW 1 m0).on ((Same.drew _).below _)
  have P4 : Hid (u3.heap[w.heap.size]? = some (.cells #[.int .i64 0, .int .i64 1, .int .i64 2, .int .i64 3, .int .i64 p4, .int .i64 p5] 51 (0, 0))) := by rw [hu3]; exact (heap_setCell_other _ _ _ _ HNE.out.1).trans P3.out
  rw [← hu3]
  refine hK.out _ _ (fun hn => absurd rfl hn) ?_
  (clear hK KK; try simp only [Act.put])
  refine wpSeqE_nil ?_
  clear hu3 c0 g0 f0 lb lg p0 p1 p2 pl H3 P3 y1 g1
  go_upto_region 4 with fail
  obtain ⟨p0, p1, p2, _, _, _, pl⟩ := cells6 P4.out
  obtain ⟨⟨c0, g0, g1, g2⟩, lb, lg⟩ := HW4.out _ _ (H4.out.on ((Same.drew _).below _))
  refine wp_region_seq (fun u => u.cell? ⟨bw, 0, none⟩ = some (.slice (some ⟨gw, 0, none⟩) N N) ∧ u.cell? ⟨w.heap.size, 0, none⟩ = some (.int .i64 0) ∧ u.cell? ⟨gw, 0, none⟩ = some (.int .u64 m0) )  ((0, true) :: (1, true) :: (2, true) :: (3, true) :: (4, true) :: (5, true) :: (6, true) :: (7, true) :: (8, true) :: (9, true) :: (10, true) :: (11, false) :: [])  Md.Cv.follows13 (by kernel_rfl) (fun _ _ _ _ _ h => h)  ⟨c0, p0, g0⟩ ?_
  (repeat ((first | (refine wpSeq_take (v := ?_) rfl (by rfl) (fun wq hSq => ?_) ?_; rotate_left; (focus ((try dsimp only at hSq); go_simp; try with_reducible rfl))) | refine wpSeq_skip rfl (by rfl) ?_); simp only [Act.put, List.setIfInBounds_toArray, List.set_cons_zero, List.set_cons_succ]))
  (refine wpSeq_do rfl (by rfl) (fun KK hK => ?_); go_simp)
  go_at_call 26
  refine (HPO.out _ _ _ 0 m0 (H4.out.on ((Same.drew _).below _)) (by simp [LS.out.1]; omega)).mono ?_
  rintro r u4 ⟨rfl, q1, q2⟩
  have H5 := Lib.hid q1
  have P5 := Lib.hid (HPL.out _ _ q2 P4.out)
  obtain ⟨⟨d0, e0, e1, e2⟩, _, _⟩ := HW4.out _ _ q1
  obtain ⟨r0, r1, r2, _, _, _, _⟩ := cells6 P5.out
  refine hK.out _ _ ⟨d0, r0, e0⟩ ?_
  (clear hK KK; try simp only [Act.put, List.setIfInBounds_toArray, List.set_cons_zero, List.set_cons_succ])
  refine wpSeq_nil ?_
  clear q1 q2 c0 g0 g1 g2 lb lg p0 p1 p2 pl H4 P4 d0 e0 e1 e2 r0 r1 r2
  go_upto_region 5 with fail
  obtain ⟨p0, p1, p2, _, _, _, pl⟩ := cells6 P5.out
  obtain ⟨⟨c0, g0, g1, g2⟩, lb, lg⟩ := HW4.out _ _ (H5.out.on ((Same.drew _).below _))
  refine wp_region_seq (fun u => u.cell? ⟨bw, 0, none⟩ = some (.slice (some ⟨gw, 0, none⟩) N N) ∧ u.cell? ⟨w.heap.size, 1, none⟩ = some (.int .i64 1) ∧ u.cell? ⟨gw, 1, none⟩ = some (.int .u64 m0) )  ((0, true) :: (1, true) :: (2, true) :: (3, true) :: (4, true) :: (5, true) :: (6, true) :: (7, true) :: (8, true) :: (9, true) :: (10, true) :: (11, false) :: [])  Md.Cv.follows13 (by kernel_rfl) (fun _ _ _ _ _ h => h)  ⟨c0, p1, g1⟩ ?_
  (repeat ((first | (refine wpSeq_take (v := ?_) rfl (by rfl) (fun wq hSq => ?_) ?_; rotate_left; (focus ((try dsimp only at hSq); go_simp; try with_reducible rfl))) | refine wpSeq_skip rfl (by rfl) ?_); simp only [Act.put, List.setIfInBounds_toArray, List.set_cons_zero, List.set_cons_succ]))
  (refine wpSeq_do rfl (by rfl) (fun KK hK => ?_); go_simp)
  go_at_call 26
  refine (HPO.out _ _ _ 1 m0 (H5.out.on ((Same.drew _).below _)) (by simp [LS.out.1]; omega)).mono ?_
  rintro r u5 ⟨rfl, q1, q2⟩
  have H6 := Lib.hid q1
  have P6 := Lib.hid (HPL.out _ _ q2 P5.out)
  obtain ⟨⟨d0, e0, e1, e2⟩, _, _⟩ := HW4.out _ _ q1
  obtain ⟨r0, r1, r2, _, _, _, _⟩ := cells6 P6.out
  refine hK.out _ _ ⟨d0, r1, e1⟩ ?_
  (clear hK KK; try simp only [Act.put, List.setIfInBounds_toArray, List.set_cons_zero, List.set_cons_succ])
  refine wpSeq_nil ?_
  clear q1 q2 c0 g0 g1 g2 lb lg p0 p1 p2 pl H5 P5 d0 e0 e1 e2 r0 r1 r2
  go_upto_region 6 with fail
  obtain ⟨p0, p1, p2, _, _, _, pl⟩ := cells6 P6.out
  obtain ⟨⟨c0, g0, g1, g2⟩, lb, lg⟩ := HW4.out _ _ (H6.out.on ((Same.drew _).below _))
  refine wp_region_seq (fun u => u.cell? ⟨bw, 0, none⟩ = some (.slice (some ⟨gw, 0, none⟩) N N) ∧ u.cell? ⟨w.heap.size, 2, none⟩ = some (.int .i64 2) ∧ u.cell? ⟨gw, 2, none⟩ = some (.int .u64 m2) )  ((0, true) :: (1, true) :: (2, true) :: (3, true) :: (4, true) :: (5, true) :: (6, true) :: (7, true) :: (8, true) :: (9, true) :: (10, true) :: (11, false) :: [])  Md.Cv.follows13 (by kernel_rfl) (fun _ _ _ _ _ h => h)  ⟨c0, p2, g2⟩ ?_
  (repeat ((first | (refine wpSeq_take (v := ?_) rfl (by rfl) (fun wq hSq => ?_) ?_; rotate_left; (focus ((try dsimp only at hSq); go_simp; try with_reducible rfl))) | refine wpSeq_skip rfl (by rfl) ?_); simp only [Act.put, List.setIfInBounds_toArray, List.set_cons_zero, List.set_cons_succ]))
  (refine wpSeq_do rfl (by rfl) (fun KK hK => ?_); go_simp)
  go_at_call 26
  refine (HPO.out _ _ _ 2 m2 (H6.out.on ((Same.drew _).below _)) (by simp [LS.out.1]; omega)).mono ?_
  rintro r u6 ⟨rfl, q1, q2⟩
  have H7 := Lib.hid q1
  have P7 := Lib.hid (HPL.out _ _ q2 P6.out)
  obtain ⟨⟨d0, e0, e1, e2⟩, _, _⟩ := HW4.out _ _ q1
  obtain ⟨r0, r1, r2, _, _, _, _⟩ := cells6 P7.out
  refine hK.out _ _ ⟨d0, r2, e2⟩ ?_
  (clear hK KK; try simp only [Act.put, List.setIfInBounds_toArray, List.set_cons_zero, List.set_cons_succ])
  refine wpSeq_nil ?_
  clear q1 q2 c0 g0 g1 g2 lb lg p0 p1 p2 pl H6 P6 d0 e0 e1 e2 r0 r1 r2
  go_wp2_with fail
  go_end0
  exact ⟨rfl, by rw [E2.out]; rw [E2.out] at H7; exact H7.out⟩
end
end Go.Proofs.YteinilmecnlanaaGreatDoor.Ww
namespace Go.Proofs.YteinilmecnlanaaGreatDoor.Rr
open Go.ChangeShapes Go.WideShapes Go.ChangeAt Go.RowKit Num
theorem word_set_ne {ws : List Int} {k : Nat} {v j : Int} (hj : 0 ≤ j) (hk : j ≠ (k : Int)) : wordAt (ws.set k v) j = wordAt ws j := by
  unfold wordAt
  rw [List.getD_eq_getElem?_getD, List.getD_eq_getElem?_getD, List.getElem?_set_ne (by omega)]
end Go.Proofs.YteinilmecnlanaaGreatDoor.Rr
namespace Go.Proofs.YteinilmecnlanaaGreatDoor.Ww
open Go.ChangeShapes Go.WideShapes Go.ChangeAt Go.RowKit Num Rr
def storeP (b : Int) (buf : Wr) (k : Nat) : Int := 3 + b + 3 * (buf.getD (k / 3) (0, 0)).1 + (if k % 3 = 0 then 2 else if k % 3 = 1 then 0 else 1)
def storeV (st : Int) (buf : Wr) (was : List Nat) (k : Nat) : Int := if k % 3 = 0 then ((was.getD (k / 3) 0 : Nat) : Int) else if k % 3 = 1 then Md.Cv.passV st else (((buf.getD (k / 3) (0, 0)).2 : Nat) : Int)
def backN (b st : Int) (buf : Wr) (was : List Nat) : Nat → List Int → List Int
  | 0, ws => ws
  | k + 1, ws => (backN b st buf was k ws).set (storeP b buf k).toNat (storeV st buf was k)
theorem backW_eq (x : Wx) (ws : List Int) : backW x ws = ws.set (storeP x.b x.m.buf x.at_).toNat (storeV x.stamp x.m.buf x.was x.at_) := by
  unfold backW storeP storeV atC
  by_cases h0 : x.at_ % 3 = 0
  · rw [if_pos h0, if_pos h0, if_pos h0]
  · rw [if_neg h0, if_neg h0, if_neg h0]
    by_cases h1 : x.at_ % 3 = 1
    · rw [if_pos h1, if_pos h1, if_pos h1]
    · rw [if_neg h1, if_neg h1, if_neg h1]
section
variable {b st : Int} {buf : Wr} {was : List Nat} {ws : List Int}
theorem backN_len (n : Nat) : (backN b st buf was n ws).length = ws.length := by
  induction n with
  | zero => rfl
  | succ k ih => unfold backN; rw [List.length_set, ih]
theorem backN_out {p : Int} (hp : 0 ≤ p) (hb : 0 ≤ b) (hc : ∀ k, k < buf.length → 0 ≤ (buf.getD k (0, 0)).1) : ∀ n, n ≤ 3 * buf.length → (∀ k, k < n → p ≠ storeP b buf k) → wordAt (backN b st buf was n ws) p = wordAt ws p
  | 0, _, _ => rfl
  | n + 1, hn, h => by
    unfold backN
    have h1 := h n (Nat.lt_succ_self n)
    have h2 : 0 ≤ storeP b buf n := by
      have := hc (n / 3) (by omega)
      unfold storeP
      split
      · omega
      · split <;> omega
    rw [word_set_ne hp (by omega)]
    exact backN_out hp hb hc n (by omega) (fun k hk => h k (by omega))
theorem backN_in {k : Nat} (hb : 0 ≤ b) (hc : ∀ k, k < buf.length → 0 ≤ (buf.getD k (0, 0)).1) (hl : storeP b buf k < (ws.length : Int)) : ∀ n, n ≤ 3 * buf.length → k < n → (∀ i, k < i → i < n → storeP b buf k ≠ storeP b buf i) → wordAt (backN b st buf was n ws) (storeP b buf k) = storeV st buf was k
  | 0, _, h, _ => absurd h (Nat.not_lt_zero _)
  | n + 1, hn, h, hne => by
    unfold backN
    have pos : ∀ i, i < 3 * buf.length → 0 ≤ storeP b buf i := fun i hi => by
      have := hc (i / 3) (by omega)
      unfold storeP
      split
      · omega
      · split <;> omega
    by_cases e : k = n
    · subst e
      unfold wordAt
      rw [List.getD_eq_getElem?_getD, List.getElem?_set_self (by rw [backN_len]; have := pos k (by omega); omega)]
      rfl
    · have h1 := pos n (by omega)
      have h2 := pos k (by omega)
      have h3 := hne n (by omega) (Nat.lt_succ_self n)
      rw [word_set_ne h2 (by omega)]
      exact backN_in hb hc hl n (by omega) (by omega) (fun i hi hi2 => hne i hi (by omega))
theorem nodup_at (h : (cellsOfL buf).Nodup) {i j : Nat} (hi : i < buf.length) (hj : j < buf.length) (e : (buf.getD i (0, 0)).1 = (buf.getD j (0, 0)).1) : i = j := by
  have hi' : i < (cellsOfL buf).length := by unfold cellsOfL; simpa using hi
  have hj' : j < (cellsOfL buf).length := by unfold cellsOfL; simpa using hj
  have e1 : (cellsOfL buf)[i] = (buf.getD i (0, 0)).1 := by simp [cellsOfL, hi]
  have e2 : (cellsOfL buf)[j] = (buf.getD j (0, 0)).1 := by simp [cellsOfL, hj]
  have hpw := List.pairwise_iff_getElem.1 h
  rcases Nat.lt_trichotomy i j with q | q | q
  · exact absurd (show (cellsOfL buf)[i] = (cellsOfL buf)[j] by rw [e1, e2, e]) (hpw i j hi' hj' q)
  · exact q
  · exact absurd (show (cellsOfL buf)[j] = (cellsOfL buf)[i] by rw [e1, e2, e]) (hpw j i hj' hi' q)
theorem storeP_inj (h : (cellsOfL buf).Nodup) {i j : Nat} (hi : i < 3 * buf.length) (hj : j < 3 * buf.length) (e : storeP b buf i = storeP b buf j) : i = j := by
  unfold storeP at e
  have e3 : (buf.getD (i / 3) (0, 0)).1 = (buf.getD (j / 3) (0, 0)).1 ∧ i % 3 = j % 3 := by
    generalize (buf.getD (i / 3) (0, 0)).1 = u at e
    generalize (buf.getD (j / 3) (0, 0)).1 = v at e
    have hi3 : i % 3 = 0 ∨ i % 3 = 1 ∨ i % 3 = 2 := by omega
    have hj3 : j % 3 = 0 ∨ j % 3 = 1 ∨ j % 3 = 2 := by omega
    rcases hi3 with q | q | q <;> rcases hj3 with r | r | r <;> simp [q, r] at e ⊢ <;> omega
  have := nodup_at h (i := i / 3) (j := j / 3) (by omega) (by omega) e3.1
  omega
theorem backN_all (h : (cellsOfL buf).Nodup) (hb : 0 ≤ b) (hc : ∀ k, k < buf.length → 0 ≤ (buf.getD k (0, 0)).1) {k : Nat} (hk : k < 3 * buf.length) (hl : storeP b buf k < (ws.length : Int)) : wordAt (backN b st buf was (3 * buf.length) ws) (storeP b buf k) = storeV st buf was k :=
  backN_in hb hc hl _ (Nat.le_refl _) hk (fun i hi hi2 e => by have := storeP_inj h hk hi2 e; omega)
end
structure QY (ws0 : List Int) (s : List Nat) (m0 : Mac) (x : Wx) (ws : List Int) : Prop where
  one : x.part = 1 → ws = ws0 ∧ x.m = m0
  tk : 2 ≤ x.part → x.tick = wordAt ws0 0
  base : 2 ≤ x.part → x.part ≤ 5 → ws = ws0.set 0 (Md.Cv.passV (wordAt ws0 0))
  st : 4 ≤ x.part → x.stamp = wordAt ws0 2
  mac : ∃ j, x.m = runN s j m0
  was : x.was = (cellsOfL x.m.buf).map (Sx.getV s)
  num : x.part ≤ 7 → x.num = 0
  w6 : x.part = 6 → ws = backN x.b x.stamp x.m.buf x.was x.at_ (ws0.set 0 (Md.Cv.passV (wordAt ws0 0)))
  w7 : x.part = 7 → ws = backN x.b x.stamp x.m.buf x.was (3 * x.m.buf.length) (ws0.set 0 (Md.Cv.passV (wordAt ws0 0)))
  w8y : x.part = 8 → x.m.how = 1 → ws = (backN x.b x.stamp x.m.buf x.was (3 * x.m.buf.length) (ws0.set 0 (Md.Cv.passV (wordAt ws0 0)))).set 2 (Md.Cv.passV x.stamp) ∧ x.num = wrap64 (Md.Cv.passV x.stamp)
  w8n : x.part = 8 → x.m.how ≠ 1 → ws = ws0.set 0 (Md.Cv.passV (wordAt ws0 0)) ∧ x.num = 0
  w9y : x.part = 9 → x.m.how = 1 → ws = ((backN x.b x.stamp x.m.buf x.was (3 * x.m.buf.length) (ws0.set 0 (Md.Cv.passV (wordAt ws0 0)))).set 2 (Md.Cv.passV x.stamp)).set 1 (Md.Cv.passV x.tick) ∧ x.num = wrap64 (Md.Cv.passV x.stamp)
  w9n : x.part = 9 → x.m.how ≠ 1 → ws = (ws0.set 0 (Md.Cv.passV (wordAt ws0 0))).set 1 (Md.Cv.passV x.tick) ∧ x.num = 0
section
variable {ws0 ws : List Int} {s : List Nat} {m0 : Mac} {x : Wx}
theorem QY.tick (h : QY ws0 s m0 x ws) : QY ws0 s m0 (tickY x) ws := ⟨h.one, h.tk, h.base, h.st, h.mac, h.was, h.num, h.w6, h.w7, h.w8y, h.w8n, h.w9y, h.w9n⟩
theorem qy_new (h1 : x.part = 1) (hm : x.m = m0) (hw : x.was = []) (hb : m0.buf = []) (hn : x.num = 0) : QY ws0 s m0 x ws0 :=
  ⟨fun _ => ⟨rfl, hm⟩, (fun q => by omega), (fun q => by omega), (fun q => by omega), ⟨0, hm⟩, by rw [hw, hm, hb]; rfl, fun _ => hn, (fun q => by omega), (fun q => by omega), (fun q => by omega), (fun q => by omega), (fun q => by omega), (fun q => by omega)⟩
theorem QY.run (h : QY ws0 s m0 x ws) (hI : InY x) (hp : x.part = 4) (hs : ∀ c, 0 ≤ c → c < x.a → Sx.getV s c = nowN x ws0 c) : QY ws0 s m0 (runY x ws).1 ws := by
  have h0 := hI.run (by omega)
  have hR := hI.rest
  have hb := step_bufs hR.inv hR.nw h0
  obtain ⟨j, hj⟩ := h.mac
  have hws := h.base (by omega) (by omega)
  have hnow : ∀ c, 0 ≤ c → c < x.a → nowN x ws c = Sx.getV s c := fun c h0 h1 => by
    rw [hs c h0 h1]
    unfold nowN
    rw [hws, word_set_ne (by have := hI.cb; unfold atC; omega) (by have := hI.cb; unfold atC; omega)]
  have keep : ∀ y : Wx, y.part = 4 → y.tick = x.tick → y.stamp = x.stamp → y.num = x.num → (∃ j, y.m = runN s j m0) → y.was = (cellsOfL y.m.buf).map (Sx.getV s) → QY ws0 s m0 y ws := fun y e1 e2 e3 e4 e5 e6 =>
    ⟨(fun q => by omega), fun _ => by rw [e2]; exact h.tk (by omega), fun _ _ => hws, fun _ => by rw [e3]; exact h.st (by omega), e5, e6, fun _ => by rw [e4]; exact h.num (by omega), (fun q => by omega), (fun q => by omega), (fun q => by omega), (fun q => by omega), (fun q => by omega), (fun q => by omega)⟩
  unfold runY
  by_cases k1 : (stepM x.m).2.kind = 1
  · rw [if_pos k1]
    have cr : 0 ≤ (stepM x.m).2.cell ∧ (stepM x.m).2.cell < x.m.cells ∧ (stepM x.m).1.buf = x.m.buf := by
      rcases hb with ⟨q, _⟩ | ⟨q, _⟩ | ⟨_, e, _, c1, c2⟩ | ⟨q, _⟩ | ⟨q, _⟩
      · omega
      · omega
      · exact ⟨c1, c2, e⟩
      · omega
      · omega
    refine keep _ hp rfl rfl rfl ⟨j + 1, ?_⟩ ?_
    · rw [runN_succ, ← hj, go_kind1 k1]
      show giveM (stepM x.m).1 (nowN x ws (stepM x.m).2.cell) = _
      rw [hnow _ cr.1 (by rw [← hI.cel]; exact cr.2.1)]
    · dsimp only
      rw [give_bufs, cr.2.2]
      exact h.was
  · rw [if_neg k1]
    have E : (stepM x.m).1 = runN s (j + 1) m0 := by rw [runN_succ, ← hj, go_kindN k1]
    by_cases k3 : (stepM x.m).2.kind = 3 ∧ (stepM x.m).2.first = true
    · rw [if_pos k3]
      refine keep _ hp rfl rfl rfl ⟨j + 1, E⟩ ?_
      rcases hb with ⟨q, _⟩ | ⟨q, _⟩ | ⟨q, _⟩ | ⟨q, _⟩ | ⟨_, e, f, c1, c2⟩
      · omega
      · omega
      · omega
      · omega
      · rw [k3.2] at f
        have hc : hasC x.m.buf (stepM x.m).2.cell = false := by simpa using f.symm
        dsimp only
        rw [e, cells_put, hc, h.was, hnow _ c1 (by rw [← hI.cel]; exact c2)]
        simp
    · rw [if_neg k3]
      have hcl : cellsOfL (stepM x.m).1.buf = cellsOfL x.m.buf := by
        rcases hb with ⟨_, e⟩ | ⟨_, e⟩ | ⟨_, e, _⟩ | ⟨_, e, _⟩ | ⟨q, e, f, _⟩
        · rw [e]
        · rw [e]
        · rw [e]
        · rw [e]
        · rw [e, cells_put]
          have hc : hasC x.m.buf (stepM x.m).2.cell = true := by
            cases hq : hasC x.m.buf (stepM x.m).2.cell with
            | true => rfl
            | false => exact absurd ⟨q, by rw [f, hq]; rfl⟩ k3
          rw [hc]
          rfl
      by_cases k4 : (stepM x.m).2.kind = 4
      · rw [if_pos k4]
        by_cases hc : (stepM x.m).1.how = 1
        · rw [if_pos hc]
          exact ⟨(fun q => by dsimp only at q; omega), fun _ => h.tk (by omega), fun _ _ => hws, fun _ => h.st (by omega), ⟨j + 1, E⟩, by dsimp only; rw [hcl]; exact h.was, fun _ => h.num (by omega), (fun q => by dsimp only at q; omega), (fun q => by dsimp only at q; omega), (fun q => by dsimp only at q; omega), (fun q => by dsimp only at q; omega), (fun q => by dsimp only at q; omega), (fun q => by dsimp only at q; omega)⟩
        · rw [if_neg hc]
          exact ⟨(fun q => by dsimp only at q; omega), fun _ => h.tk (by omega), (fun _ q => by dsimp only at q; omega), fun _ => h.st (by omega), ⟨j + 1, E⟩, by dsimp only; rw [hcl]; exact h.was, (fun q => by dsimp only at q; omega), (fun q => by dsimp only at q; omega), (fun q => by dsimp only at q; omega), (fun _ q => absurd q hc), fun _ _ => ⟨hws, h.num (by omega)⟩, (fun q => by dsimp only at q; omega), (fun q => by dsimp only at q; omega)⟩
      · rw [if_neg k4]
        exact keep _ hp rfl rfl rfl ⟨j + 1, E⟩ (by dsimp only; rw [hcl]; exact h.was)
theorem QY.scan (h : QY ws0 s m0 x ws) (hp : x.part = 5) : QY ws0 s m0 (scanY x ws) ws := by
  have hws := h.base (by omega) (by omega)
  unfold scanY
  split
  · split
    · by_cases hl : x.m.buf.length = 0
      · rw [if_pos hl]
        exact ⟨(fun q => by dsimp only at q; omega), fun _ => h.tk (by omega), (fun _ q => by dsimp only at q; omega), fun _ => h.st (by omega), h.mac, h.was, fun _ => h.num (by omega), (fun q => by dsimp only at q; omega), (fun _ => by dsimp only; rw [hl]; exact hws), (fun q => by dsimp only at q; omega), (fun q => by dsimp only at q; omega), (fun q => by dsimp only at q; omega), (fun q => by dsimp only at q; omega)⟩
      · rw [if_neg hl]
        exact ⟨(fun q => by dsimp only at q; omega), fun _ => h.tk (by omega), (fun _ q => by dsimp only at q; omega), fun _ => h.st (by omega), h.mac, h.was, fun _ => h.num (by omega), (fun _ => hws), (fun q => by dsimp only at q; omega), (fun q => by dsimp only at q; omega), (fun q => by dsimp only at q; omega), (fun q => by dsimp only at q; omega), (fun q => by dsimp only at q; omega)⟩
    · exact ⟨h.one, h.tk, h.base, h.st, h.mac, h.was, h.num, (fun q => by dsimp only at q; omega), (fun q => by dsimp only at q; omega), (fun q => by dsimp only at q; omega), (fun q => by dsimp only at q; omega), (fun q => by dsimp only at q; omega), (fun q => by dsimp only at q; omega)⟩
  · exact h
theorem QY.step (h : QY ws0 s m0 x ws) (hI : InY x) (hp : x.part ≠ 9) (hs : ∀ c, 0 ≤ c → c < x.a → Sx.getV s c = nowN x ws0 c) : QY ws0 s m0 (stepY x ws).1 (stepY x ws).2.1 := by
  have hP := hI.part
  have t := h.tick
  have e8 : (tickY x).part = x.part := rfl
  unfold stepY stepY0
  rcases (by omega : x.part = 1 ∨ x.part = 2 ∨ x.part = 3 ∨ x.part = 4 ∨ x.part = 5 ∨ x.part = 6 ∨ x.part = 7 ∨ x.part = 8) with e | e | e | e | e | e | e | e
  · rw [if_pos (e8.trans e)]
    obtain ⟨e1, e2⟩ := h.one e
    subst e1
    exact ⟨(fun q => by dsimp only at q; omega), fun _ => rfl, fun _ _ => rfl, (fun q => by dsimp only at q; omega), h.mac, h.was, fun _ => h.num (by omega), (fun q => by dsimp only at q; omega), (fun q => by dsimp only at q; omega), (fun q => by dsimp only at q; omega), (fun q => by dsimp only at q; omega), (fun q => by dsimp only at q; omega), (fun q => by dsimp only at q; omega)⟩
  · rw [if_neg (by omega), if_pos (e8.trans e)]
    dsimp only
    split
    · exact ⟨(fun q => by dsimp only at q; omega), fun _ => h.tk (by omega), fun _ _ => h.base (by omega) (by omega), (fun q => by dsimp only at q; omega), h.mac, h.was, fun _ => h.num (by omega), (fun q => by dsimp only at q; omega), (fun q => by dsimp only at q; omega), (fun q => by dsimp only at q; omega), (fun q => by dsimp only at q; omega), (fun q => by dsimp only at q; omega), (fun q => by dsimp only at q; omega)⟩
    · exact t
  · rw [if_neg (by omega), if_neg (by omega), if_pos (e8.trans e)]
    have hws := h.base (by omega) (by omega)
    exact ⟨(fun q => by dsimp only at q; omega), fun _ => h.tk (by omega), fun _ _ => hws, (fun _ => by dsimp only; rw [hws]; exact word_set_ne (by omega) (by omega)), h.mac, h.was, fun _ => h.num (by omega), (fun q => by dsimp only at q; omega), (fun q => by dsimp only at q; omega), (fun q => by dsimp only at q; omega), (fun q => by dsimp only at q; omega), (fun q => by dsimp only at q; omega), (fun q => by dsimp only at q; omega)⟩
  · rw [if_neg (by omega), if_neg (by omega), if_neg (by omega), if_pos (e8.trans e)]
    exact t.run hI.tick (e8.trans e) hs
  · rw [if_neg (by omega), if_neg (by omega), if_neg (by omega), if_neg (by omega), if_pos (e8.trans e)]
    exact t.scan (e8.trans e)
  · rw [if_neg (by omega), if_neg (by omega), if_neg (by omega), if_neg (by omega), if_neg (by omega), if_pos (e8.trans e)]
    have hw := h.w6 e
    have hB : backW (tickY x) ws = backN x.b x.stamp x.m.buf x.was (x.at_ + 1) (ws0.set 0 (Md.Cv.passV (wordAt ws0 0))) := by
      rw [backW_eq]
      show ws.set _ _ = _
      unfold backN
      rw [← hw]
      rfl
    show QY ws0 s m0 (backY (tickY x)) (backW (tickY x) ws)
    rw [hB]
    unfold backY
    by_cases q : (tickY x).at_ + 1 = 3 * (tickY x).m.buf.length
    · rw [if_pos q]
      have q' : x.at_ + 1 = 3 * x.m.buf.length := q
      rw [q']
      exact ⟨(fun q => by dsimp only at q; omega), fun _ => h.tk (by omega), (fun _ q => by dsimp only at q; omega), fun _ => h.st (by omega), h.mac, h.was, fun _ => h.num (by omega), (fun q => by dsimp only at q; omega), (fun _ => rfl), (fun q => by dsimp only at q; omega), (fun q => by dsimp only at q; omega), (fun q => by dsimp only at q; omega), (fun q => by dsimp only at q; omega)⟩
    · rw [if_neg q]
      exact ⟨(fun q => by dsimp only at q; omega), fun _ => h.tk (by omega), (fun _ q => by dsimp only at q; omega), fun _ => h.st (by omega), h.mac, h.was, fun _ => h.num (by omega), (fun _ => rfl), (fun q => by dsimp only at q; omega), (fun q => by dsimp only at q; omega), (fun q => by dsimp only at q; omega), (fun q => by dsimp only at q; omega), (fun q => by dsimp only at q; omega)⟩
  · rw [if_neg (by omega), if_neg (by omega), if_neg (by omega), if_neg (by omega), if_neg (by omega), if_neg (by omega), if_pos (e8.trans e)]
    have hw := h.w7 e
    have hc := hI.com (by omega) (by omega)
    exact ⟨(fun q => by dsimp only at q; omega), fun _ => h.tk (by omega), (fun _ q => by dsimp only at q; omega), fun _ => h.st (by omega), h.mac, h.was, (fun q => by dsimp only at q; omega), (fun q => by dsimp only at q; omega), (fun q => by dsimp only at q; omega), fun _ _ => ⟨by dsimp only; rw [hw]; rfl, rfl⟩, fun _ q => absurd hc q, (fun q => by dsimp only at q; omega), (fun q => by dsimp only at q; omega)⟩
  · rw [if_neg (by omega), if_neg (by omega), if_neg (by omega), if_neg (by omega), if_neg (by omega), if_neg (by omega), if_neg (by omega)]
    exact ⟨(fun q => by dsimp only at q; omega), fun _ => h.tk (by omega), (fun _ q => by dsimp only at q; omega), fun _ => h.st (by omega), h.mac, h.was, (fun q => by dsimp only at q; omega), (fun q => by dsimp only at q; omega), (fun q => by dsimp only at q; omega), (fun q => by dsimp only at q; omega), (fun q => by dsimp only at q; omega), (fun _ q => ⟨by dsimp only; rw [(h.w8y e q).1]; rfl, (h.w8y e q).2⟩), (fun _ q => ⟨by dsimp only; rw [(h.w8n e q).1], (h.w8n e q).2⟩)⟩
end
end Go.Proofs.YteinilmecnlanaaGreatDoor.Ww
namespace Go.Proofs.YteinilmecnlanaaGreatDoor
open Go.ChangeShapes Go.WideShapes Go.ChangeAt Go.RowKit Num
end Go.Proofs.YteinilmecnlanaaGreatDoor
namespace Go.Proofs.YteinilmecnlanaaGreatDoor.Ww
open Go.ChangeShapes Go.WideShapes Go.ChangeAt Go.RowKit Num Rr
theorem buf_cells {x : Wx} (h : InY x) : ∀ k, k < x.m.buf.length → 0 ≤ (x.m.buf.getD k (0, 0)).1 ∧ (x.m.buf.getD k (0, 0)).1 < x.a := fun k hk => by
  have e : x.m.buf.getD k (0, 0) = x.m.buf[k] := by simp [hk]
  rw [e, ← h.cel]
  exact h.rest.cel _ (List.getElem_mem hk)
theorem store_in {x : Wx} (h : InY x) {k : Nat} (hk : k < 3 * x.m.buf.length) : 3 + x.b ≤ storeP x.b x.m.buf k ∧ storeP x.b x.m.buf k < plY x := by
  have := buf_cells h (k / 3) (by omega)
  unfold storeP plY
  split
  · omega
  · split <;> omega
section
variable {ws0 ws : List Int} {s : List Nat} {m0 : Mac} {x : Wx}
theorem base_at {p : Int} (h0 : 0 ≤ p) (h1 : p ≠ 0) (v : Int) : wordAt (ws0.set 0 v) p = wordAt ws0 p := word_set_ne h0 (by omega)
theorem base_next (hl : 0 < ws0.length) (v : Int) : wordAt (ws0.set 0 v) 0 = v := by
  unfold wordAt
  rw [List.getD_eq_getElem?_getD, show Int.toNat 0 = 0 from rfl, List.getElem?_set_self hl]
  rfl
theorem set_at {l : List Int} {k : Nat} (hk : k < l.length) (v : Int) : wordAt (l.set k v) (k : Int) = v := by
  unfold wordAt
  rw [List.getD_eq_getElem?_getD, Int.toNat_natCast, List.getElem?_set_self hk]
  rfl
theorem back_head {x : Wx} (h : InY x) {l : List Int} {p : Int} (h0 : 0 ≤ p) (h1 : p < 3 + x.b) (n : Nat) (hn : n ≤ 3 * x.m.buf.length) : wordAt (backN x.b x.stamp x.m.buf x.was n l) p = wordAt l p :=
  backN_out h0 (by have := h.cb; omega) (fun k hk => (buf_cells h k hk).1) n hn (fun k hk e => by have := store_in h (k := k) (by omega); omega)
theorem back_out {x : Wx} (h : InY x) {l : List Int} {c j : Int} (hc : 0 ≤ c) (hj : 0 ≤ j ∧ j < 3) (hn : c ∉ cellsOfL x.m.buf) (n : Nat) (hl : n ≤ 3 * x.m.buf.length) : wordAt (backN x.b x.stamp x.m.buf x.was n l) (3 + x.b + 3 * c + j) = wordAt l (3 + x.b + 3 * c + j) := by
  have hb := h.cb
  refine backN_out (by omega) (by omega) (fun k hk => (buf_cells h k hk).1) n hl (fun k hk e => hn ?_)
  have hk3 : k / 3 < x.m.buf.length := by omega
  have e1 : (x.m.buf.getD (k / 3) (0, 0)).1 = c := by
    unfold storeP at e
    generalize (x.m.buf.getD (k / 3) (0, 0)).1 = u at e
    have h3 : k % 3 = 0 ∨ k % 3 = 1 ∨ k % 3 = 2 := by omega
    rcases h3 with q | q | q <;> simp [q] at e <;> omega
  rw [← e1, show x.m.buf.getD (k / 3) (0, 0) = x.m.buf[k / 3] by simp [hk3]]
  exact List.mem_map_of_mem (List.getElem_mem hk3)
theorem back_in {x : Wx} (h : InY x) {l : List Int} (hl : (l.length : Int) = plY x) {k : Nat} (hk : k < x.m.buf.length) : wordAt (backN x.b x.stamp x.m.buf x.was (3 * x.m.buf.length) l) (3 + x.b + 3 * (x.m.buf.getD k (0, 0)).1) = Md.Cv.passV x.stamp ∧ wordAt (backN x.b x.stamp x.m.buf x.was (3 * x.m.buf.length) l) (3 + x.b + 3 * (x.m.buf.getD k (0, 0)).1 + 1) = (((x.m.buf.getD k (0, 0)).2 : Nat) : Int) ∧ wordAt (backN x.b x.stamp x.m.buf x.was (3 * x.m.buf.length) l) (3 + x.b + 3 * (x.m.buf.getD k (0, 0)).1 + 2) = ((x.was.getD k 0 : Nat) : Int) := by
  have hb := h.cb
  have A : ∀ i, i < 3 * x.m.buf.length → wordAt (backN x.b x.stamp x.m.buf x.was (3 * x.m.buf.length) l) (storeP x.b x.m.buf i) = storeV x.stamp x.m.buf x.was i := fun i hi => backN_all h.rest.nod (by omega) (fun k hk => (buf_cells h k hk).1) hi (by rw [hl]; exact (store_in h hi).2)
  have a0 := A (3 * k + 1) (by omega)
  have a1 := A (3 * k + 2) (by omega)
  have a2 := A (3 * k) (by omega)
  have d0 : (3 * k + 1) / 3 = k := by omega
  have d1 : (3 * k + 2) / 3 = k := by omega
  have d2 : (3 * k) / 3 = k := by omega
  have m0 : (3 * k + 1) % 3 = 1 := by omega
  have m1 : (3 * k + 2) % 3 = 2 := by omega
  have m2 : (3 * k) % 3 = 0 := by omega
  unfold storeP storeV at a0 a1 a2
  rw [d0, m0] at a0
  rw [d1, m1] at a1
  rw [d2, m2] at a2
  simp at a0 a1 a2
  exact ⟨a0, a1, a2⟩
theorem QY.passed (h : QY ws0 s m0 x ws) (hI : InY x) (hp : x.part = 9) (hl : 3 ≤ ws0.length) : wordAt ws 0 = Md.Cv.passV (wordAt ws0 0) ∧ wordAt ws 1 = Md.Cv.passV (wordAt ws0 0) ∧ (x.m.how = 1 → wordAt ws 2 = Md.Cv.passV (wordAt ws0 2)) := by
  have hb := hI.cb
  have ht := h.tk (by omega)
  have hs := h.st (by omega)
  by_cases h1 : x.m.how = 1
  · obtain ⟨hw, _⟩ := h.w9y hp h1
    have len : (backN x.b x.stamp x.m.buf x.was (3 * x.m.buf.length) (ws0.set 0 (Md.Cv.passV (wordAt ws0 0)))).length = ws0.length := by rw [backN_len, List.length_set]
    rw [hw]
    refine ⟨?_, ?_, fun _ => ?_⟩
    · rw [word_set_ne (by omega) (by omega), word_set_ne (by omega) (by omega), back_head hI (by omega) (by omega) _ (Nat.le_refl _)]
      exact base_next (by omega) _
    · exact (set_at (k := 1) (by rw [List.length_set, len]; omega) _).trans (by rw [ht])
    · rw [word_set_ne (by omega) (by omega)]
      exact (set_at (k := 2) (by rw [len]; omega) _).trans (by rw [hs])
  · obtain ⟨hw, _⟩ := h.w9n hp h1
    rw [hw]
    refine ⟨?_, ?_, fun q => absurd q h1⟩
    · rw [word_set_ne (by omega) (by omega)]
      exact base_next (by omega) _
    · exact (set_at (k := 1) (by rw [List.length_set]; omega) _).trans (by rw [ht])
end
end Go.Proofs.YteinilmecnlanaaGreatDoor.Ww
namespace Go.Proofs.YteinilmecnlanaaGreatDoor.Rr
open Go.ChangeShapes Go.WideShapes Go.ChangeAt Go.RowKit Num
end Go.Proofs.YteinilmecnlanaaGreatDoor.Rr
namespace Go.Proofs.YteinilmecnlanaaGreatDoor.Ww
open Go.ChangeShapes Go.WideShapes Go.ChangeAt Go.RowKit Num Rr
end Go.Proofs.YteinilmecnlanaaGreatDoor.Ww
namespace Go.Proofs.YteinilmecnlanaaGreatDoor.Ww
open Go.ChangeShapes Go.WideShapes Go.ChangeAt Go.RowKit Num Rr
end Go.Proofs.YteinilmecnlanaaGreatDoor.Ww
namespace Go.Proofs.YteinilmecnlanaaGreatDoor.Ww
open Go.ChangeShapes Go.WideShapes Go.ChangeAt Go.RowKit Num Rr
end Go.Proofs.YteinilmecnlanaaGreatDoor.Ww
namespace Go.Proofs.YteinilmecnlanaaGreatDoor.Ww
open Go.ChangeShapes Go.WideShapes Go.ChangeAt Go.RowKit Num Rr
def numsL (x : Wx) (ws : List Int) : List Nat := (List.range x.a.toNat).map fun (c : Nat) => nowN x ws (c : Int)
theorem numsL_len (x : Wx) (ws : List Int) : (numsL x ws).length = x.a.toNat := by simp [numsL]
theorem numsL_at (x : Wx) (ws : List Int) {c : Int} (h0 : 0 ≤ c) (h1 : c < x.a) : Sx.getV (numsL x ws) c = nowN x ws c := by
  unfold Sx.getV
  rw [if_pos (by rw [numsL_len]; unfold Sx.hasN; simp; omega), List.getD_eq_getElem?_getD]
  unfold numsL
  rw [List.getElem?_map, List.getElem?_range (by omega)]
  show nowN x ws ((c.toNat : Nat) : Int) = _
  rw [Int.toNat_of_nonneg h0]
structure HiI (x0 x : Wx) (ws wsv : List Int) (N i : Nat) : Prop where
  inx : InY x
  st : x.steps = i
  al : AlikeY x0 x
  ok : okW ws
  len : ws.length = N
  q : QY wsv (numsL x0 wsv) x0.m x ws
section
variable {x0 x : Wx} {ws wsv : List Int} {N i : Nat}
theorem HiI.step (h : HiI x0 x ws wsv N i) (hp : x.part ≠ 9) {y : Wx} {ws' : List Int} {ac : Bool} (hy : stepY x ws = (y, ws', ac)) : HiI x0 y ws' wsv N (i + 1) := by
  obtain ⟨k1, k2, k3, k4, k5⟩ := step_inY h.inx hp h.ok
  have hq := h.q.step h.inx hp (fun c h0 h1 => by
    rw [numsL_at x0 wsv h0 (by rw [← h.al.a]; exact h1)]
    unfold nowN atC
    rw [h.al.b])
  rw [hy] at k1 k2 k3 k4 k5 hq
  exact ⟨k1, by rw [k3, h.st]; rfl, h.al.trans k2, k4, k5.trans h.len, hq⟩
theorem pass_small {v : Int} (h0 : 0 ≤ v) (h1 : v < 1099511627776) : Md.Cv.passV v = v + 1 ∧ wrap64 (Md.Cv.passV v) = v + 1 := by
  have e : Md.Cv.passV v = v + 1 := by
    unfold Md.Cv.passV
    exact Go.IntWalk.u64_in _ ⟨by omega, by omega⟩
  refine ⟨e, ?_⟩
  rw [e]
  have h := Go.IntWalk.i64_in (v + 1) ⟨by omega, by omega⟩
  rw [Go.IntWalk.i64_left] at h
  exact h
end
end Go.Proofs.YteinilmecnlanaaGreatDoor.Ww
namespace Go.Proofs.YteinilmecnlanaaGreatDoor.Ww
open Go.ChangeShapes Go.WideShapes Go.ChangeAt Go.RowKit Num Rr
structure BothR (W w : World) (bx : Nat) (z : Wz) (mb mg : Nat) (x : Wx) (ws : List Int) (o : Bool) (n : Int) (bd : Nat) (zd : Dz) (bw gw : Nat) (xd : Wx) (wd : List Int) (nd : Int) (R : List Nat) : Prop where
  ex : ∃ G qd, Full w G bx z mb mg w x ws o n ∧ Turn [] G W w ∧ Blw w G ∧ Sep z.KK G ∧ Blw w z.KK ∧ DRaw w bd xd zd qd ∧ WdAt w bw gw wd nd ∧ Sep [bw, gw] (dAll bd zd qd) ∧ Sep (bw :: gw :: dAll bd zd qd) G ∧ Sep (dOwn bd zd bw gw) z.KK ∧ Abv W.heap.size (dOwn bd zd bw gw) ∧ Sep R G ∧ Blw w R
section
variable {W w w' : World} {bx : Nat} {z : Wz} {mb mg : Nat} {x : Wx} {ws : List Int} {o : Bool} {n : Int} {bd : Nat} {zd : Dz} {bw gw : Nat} {xd : Wx} {wd : List Int} {nd : Int} {R : List Nat}
theorem BothR.b (h : BothR W w bx z mb mg x ws o n bd zd bw gw xd wd nd R) : Both W w bx z mb mg x ws o n bd zd bw gw xd wd nd := by
  obtain ⟨G, qd, h1, h2, h3, h4, h5, h6, h7, h8, h9, h10, h11, _⟩ := h.ex
  exact ⟨G, qd, h1, h2, h3, h4, h5, h6, h7, h8, h9, h10, h11⟩
theorem BothR.p (h : BothR W w bx z mb mg x ws o n bd zd bw gw xd wd nd R) : ∃ G, Full w G bx z mb mg w x ws o n ∧ (Shaped5 W → TabAt w G) ∧ ∀ w' x' ws' o' n', Full w G bx z mb mg w' x' ws' o' n' → BothR W w' bx z mb mg x' ws' o' n' bd zd bw gw xd wd nd R ∧ Kept R w w' := by
  obtain ⟨G, qd, h1, h2, h3, h4, h5, h6, h7, h8, h9, h10, h11, h12, h13⟩ := h.ex
  refine ⟨G, h1, fun hs => (show TabAt W [] from ⟨hs, by simp⟩).turn h2, fun w' x' ws' o' n' k => ?_⟩
  obtain ⟨G', k1, k2, k3, k4, k5⟩ := k.rebase
  have hb := dAll_blw h6 h7
  have kD := k2.kept h9 hb
  exact ⟨⟨G', qd, k1, h2.trans k2, k3, k4, k5, h6.keep ⟨kD.1, fun i hi => kD.2 i (by simp [hi])⟩, h7.keep ⟨kD.1, fun i hi => kD.2 i (by simp only [List.mem_cons, List.not_mem_nil, or_false] at hi ⊢; rcases hi with y | y <;> simp [y])⟩, h8, h9.turn hb k2, h10, h11, h12.turn h13 k2, fun i hi => Nat.lt_of_lt_of_le (h13 i hi) k2.size⟩, k2.kept h12 h13⟩
theorem BothR.on (h : BothR W w bx z mb mg x ws o n bd zd bw gw xd wd nd R) (k : Below w.heap.size w w') : BothR W w' bx z mb mg x ws o n bd zd bw gw xd wd nd R := by
  obtain ⟨G, h1, _, h3⟩ := h.p
  exact (h3 _ _ _ _ _ (h1.on k)).1
theorem Both.rows (h : Both W w bx z mb mg x ws o n bd zd bw gw xd wd nd) (k : Below w.heap.size w w') (hR : ∀ g ∈ R, w.heap.size ≤ g ∧ g < w'.heap.size) : BothR W w' bx z mb mg x ws o n bd zd bw gw xd wd nd R := by
  obtain ⟨G, qd, h1, h2, h3, h4, h5, h6, h7, h8, h9, h10, h11⟩ := h.ex
  have hb := dAll_blw h6 h7
  have kD := kept_below k hb
  exact ⟨G, qd, h1.keepG (kept_below k h3) (kept_below k h5), ⟨k.os.trans h2.os, k.tape.trans h2.tape, k.output.trans h2.output, Nat.le_trans h2.size k.size, fun i hi hn => (k.block i (Nat.lt_of_lt_of_le hi h2.size)).trans (h2.block i hi hn), fun i hi => h2.own i hi⟩, fun i hi => Nat.lt_of_lt_of_le (h3 i hi) k.size, h4, fun i hi => Nat.lt_of_lt_of_le (h5 i hi) k.size, h6.keep ⟨kD.1, fun i hi => kD.2 i (by simp [hi])⟩, h7.keep ⟨kD.1, fun i hi => kD.2 i (by simp only [List.mem_cons, List.not_mem_nil, or_false] at hi ⊢; rcases hi with y | y <;> simp [y])⟩, h8, h9, h10, h11, fun i hi y => by have := h3 i y; have := (hR i hi).1; omega, fun i hi => (hR i hi).2⟩
theorem BothR.step (h : BothR W w bx z mb mg x ws o n bd zd bw gw xd wd nd R) (hs : Shaped5 W) (hI : InY x) (hp : x.part ≠ 9) (hl : plY x ≤ (ws.length : Int)) (h0 : 0 ≤ x.steps) (h1 : x.steps ≤ 1000000) {y : Wx} {ws' : List Int} {ac : Bool} (hy : stepY x ws = (y, ws', ac)) {n' : Int} (hn : (if ac then up n else n) = n') {ov : Bool} (hov : decide ((y.part : Int) = 9) = ov) : Calls Tryz.prog 14 #[.pointer (some ⟨bx, 0, none⟩), .pointer (some ⟨mb, 0, none⟩)] w fun r w' => r = .returned (.tuple #[.bool ov, .int .i64 0]) ∧ BothR W w' bx z mb mg y ws' (!ac) n' bd zd bw gw xd wd nd R ∧ Kept R w w' := by
  obtain ⟨G, h1', h2, h3⟩ := h.p
  refine (step_any h1' (h2 hs) hI hp hl h0 h1 hy).mono ?_
  rintro r w' ⟨rfl, k⟩
  rw [hov]
  rw [hn] at k
  exact ⟨rfl, h3 _ _ _ _ _ k⟩
theorem row_kept {g : Nat} {rs : List Int} (h : Md.RowAt w g rs) (k : Kept [g] w w') : Md.RowAt w' g rs := h.keep (k.2 g (by simp))
theorem row_word {g : Nat} {rs : List Int} {N : Nat} (h : Md.RowAt w g rs) (hl : rs.length = N) {j : Nat} (hj : j < N) : w.cell? ⟨g, j, none⟩ = some (.int .u64 (rs.getD j 0)) := by
  have hj' : j < rs.length := by omega
  rw [h.word hj', List.getD_eq_getElem?_getD, List.getElem?_eq_getElem hj']
  rfl
end
end Go.Proofs.YteinilmecnlanaaGreatDoor.Ww
namespace Go.Proofs.YteinilmecnlanaaGreatDoor.Ww
open Go.ChangeShapes Go.WideShapes Go.ChangeAt Go.RowKit Num Rr
section
variable {x0 x : Wx} {ws wsv : List Int} {N i : Nat}
theorem HiI.quick (h : HiI x0 x ws wsv N i) (he : wordAt wsv 0 = wordAt wsv 1) (hz : ∀ t : Int, 0 ≤ t → t < x0.b → wordAt wsv (3 + t) = 0) : ¬ waitY x ws := by
  rintro (⟨e2, q⟩ | ⟨e5, q⟩)
  · refine q ?_
    rw [h.q.base (by omega) (by omega), base_at (by omega) (by omega), h.q.tk (by omega), he]
  · refine q (.inl ?_)
    have a5 := h.inx.at5 e5
    rw [h.q.base (by omega) (by omega), base_at (by omega) (by omega)]
    exact hz _ (by omega) (by rw [← h.al.b]; exact a5)
structure BkI (x0 x : Wx) (ws wsv : List Int) (N i : Nat) : Prop extends HiI x0 x ws wsv N i where
  lf : (i : Int) + leftY x ≤ leftY x0
theorem BkI.next (h : BkI x0 x ws wsv N i) (hp : x.part ≠ 9) (he : wordAt wsv 0 = wordAt wsv 1) (hz : ∀ t : Int, 0 ≤ t → t < x0.b → wordAt wsv (3 + t) = 0) {y : Wx} {ws' : List Int} {ac : Bool} (hy : stepY x ws = (y, ws', ac)) : BkI x0 y ws' wsv N (i + 1) := by
  have hl := left_step h.inx hp h.ok (h.toHiI.quick he hz)
  rw [hy] at hl
  have := h.lf
  exact ⟨h.toHiI.step hp hy, by dsimp only at hl; omega⟩
theorem BkI.more (h : BkI x0 x ws wsv N i) (hp : x.part ≠ 9) : (i : Int) < leftY x0 := by
  have := left_pos h.inx hp
  have := h.lf
  omega
theorem HiI.none (h : HiI x0 x ws wsv N i) (h9 : x.part = 9) (hc : x.m.how ≠ 1) : x.num = 0 := (h.q.w9n h9 hc).2
theorem HiI.back (h : HiI x0 x ws wsv N i) (h9 : x.part = 9) (hc : x.m.how = 1) (hl : plY x0 = (N : Int)) (hw : wsv.length = N) (hv : 0 ≤ wordAt wsv 2 ∧ wordAt wsv 2 < 1099511627776) :
    wordAt ws 2 = wordAt wsv 2 + 1 ∧ x.num = wordAt wsv 2 + 1 ∧
    (∀ k, k < x.m.buf.length → wordAt ws (3 + x0.b + 3 * (x.m.buf.getD k (0, 0)).1) = wordAt wsv 2 + 1 ∧ wordAt ws (3 + x0.b + 3 * (x.m.buf.getD k (0, 0)).1 + 1) = (((x.m.buf.getD k (0, 0)).2 : Nat) : Int) ∧ wordAt ws (3 + x0.b + 3 * (x.m.buf.getD k (0, 0)).1 + 2) = ((fixB (wordAt wsv (3 + x0.b + 3 * (x.m.buf.getD k (0, 0)).1 + 1)).toNat : Nat) : Int)) ∧
    (∀ c j : Int, 0 ≤ c → 0 ≤ j → j < 3 → c ∉ cellsOfL x.m.buf → wordAt ws (3 + x0.b + 3 * c + j) = wordAt wsv (3 + x0.b + 3 * c + j)) := by
  have hb := h.inx.cb
  have eb := h.al.b
  have hpl : plY x = (N : Int) := (plY_alike h.al).trans hl
  obtain ⟨e1, e2⟩ := h.q.w9y h9 hc
  have est := h.q.st (by omega)
  have ps := pass_small hv.1 hv.2
  have h3 : 3 ≤ wsv.length := by rw [hw]; unfold plY at hpl; have := h.inx.ca; omega
  have W : ∀ p : Int, 3 ≤ p → wordAt ws p = wordAt (backN x.b x.stamp x.m.buf x.was (3 * x.m.buf.length) (wsv.set 0 (Md.Cv.passV (wordAt wsv 0)))) p := fun p hp => by
    rw [e1, word_set_ne (by omega) (by omega), word_set_ne (by omega) (by omega)]
  refine ⟨?_, ?_, fun k hk => ?_, fun c j c0 j0 j1 hn => ?_⟩
  · rw [(h.q.passed h.inx h9 h3).2.2 hc, ps.1]
  · rw [e2, est, ps.2]
  · obtain ⟨c0, c1⟩ := buf_cells h.inx k hk
    obtain ⟨b1, b2, b3⟩ := back_in h.inx (l := wsv.set 0 (Md.Cv.passV (wordAt wsv 0))) (by rw [List.length_set, hw, hpl]) hk
    rw [← eb, W _ (by omega), W _ (by omega), W _ (by omega), b1, b2, b3, est, ps.1]
    refine ⟨rfl, rfl, ?_⟩
    have hk' : k < (cellsOfL x.m.buf).length := by rw [cells_len]; exact hk
    have e : x.was.getD k 0 = Sx.getV (numsL x0 wsv) (x.m.buf.getD k (0, 0)).1 := by
      rw [h.q.was, List.getD_eq_getElem?_getD, List.getElem?_map, List.getElem?_eq_getElem hk', List.getD_eq_getElem?_getD, List.getElem?_eq_getElem hk]
      show Sx.getV (numsL x0 wsv) ((cellsOfL x.m.buf)[k]) = Sx.getV (numsL x0 wsv) (x.m.buf[k]).1
      congr 1
      exact List.getElem_map ..
    rw [e, numsL_at x0 wsv c0 (by rw [← h.al.a]; exact c1)]
    unfold nowN atC
    rw [eb]
  · rw [← eb, W _ (by omega), back_out h.inx c0 ⟨j0, j1⟩ hn _ (Nat.le_refl _), base_at (by omega) (by omega)]
structure PkI (wsv wp : List Int) (N tt : Nat) : Prop where
  len : wp.length = N
  ok : okW wp
  lo : wordAt wp 0 = wordAt wsv 0 ∧ wordAt wp 1 = wordAt wsv 1 ∧ wordAt wp 2 = wordAt wsv 2
  zz : ∀ t : Int, 0 ≤ t → t < tt → wordAt wp (3 + t) = 0
theorem PkI.poke {wp : List Int} {tt : Nat} (h : PkI wsv wp N tt) (hN : 3 + tt < N) : PkI wsv (wp.set (3 + tt) 0) N (tt + 1) := by
  have W : ∀ p : Int, 0 ≤ p → p ≠ 3 + tt → wordAt (wp.set (3 + tt) 0) p = wordAt wp p := fun p h0 h1 => word_set_ne h0 (by omega)
  refine ⟨(List.length_set ..).trans h.len, h.ok.set _ ⟨by decide, by decide⟩, ⟨(W 0 (by omega) (by omega)).trans h.lo.1, (W 1 (by omega) (by omega)).trans h.lo.2.1, (W 2 (by omega) (by omega)).trans h.lo.2.2⟩, fun t h0 h1 => ?_⟩
  by_cases e : t = tt
  · subst e
    have := set_at (l := wp) (k := 3 + tt) (by rw [h.len]; exact hN) 0
    rw [show ((3 + tt : Nat) : Int) = 3 + (tt : Int) by omega] at this
    exact this
  · rw [W _ (by omega) (by omega)]
    exact h.zz t h0 (by omega)
end
end Go.Proofs.YteinilmecnlanaaGreatDoor.Ww
namespace Go.Proofs.YteinilmecnlanaaGreatDoor.Ww
open Go.ChangeShapes Go.WideShapes Go.ChangeAt Go.RowKit Num Rr
section
attribute [local go_sem] frombits_run bits_run
theorem lawBits_any {v : Int} (hv : u64B v) (w : World) : Calls Tryz.prog 29 #[.int .u64 v] w fun e w' => e = .returned (.int .u64 (fixB v.toNat : Nat)) ∧ w' = w := by
  obtain ⟨k, rfl⟩ := Int.eq_ofNat_of_zero_le hv.1
  rw [show ((k : Int)).toNat = k from rfl]
  clear hv
  cases g : nan k
  · have h := self_num g
    rw [fixB_num g]
    clear g
    go_enter Tryz.func29, Tryz.ntmps29
    go_wp2
    go_ret
    exact ⟨rfl, rfl⟩
  · have h := self_nan g
    rw [fixB_nan g]
    clear g
    go_enter Tryz.func29, Tryz.ntmps29
    go_wp2
    go_ret
    exact ⟨rfl, rfl⟩
end
end Go.Proofs.YteinilmecnlanaaGreatDoor.Ww
namespace Go.Proofs.YteinilmecnlanaaGreatDoor.Ww
open Go.ChangeShapes Go.WideShapes Go.ChangeAt Go.RowKit Num Rr
set_option linter.unusedVariables false
def findReg (n : Nat) : Code → Option Code
  | .region i ops d => if i = n then some (.region i ops d) else none
  | .seq x y => match findReg n x with
    | some c => some c
    | none => findReg n y
  | .block _ c => findReg n c
  | .scope c => findReg n c
  | .loop c => findReg n c
  | .cond _ x y => match findReg n x with
    | some c => some c
    | none => findReg n y
  | _ => none
end Go.Proofs.YteinilmecnlanaaGreatDoor.Ww
namespace Go.Proofs.YteinilmecnlanaaGreatDoor.Ww
open Go.ChangeShapes Go.WideShapes Go.ChangeAt Go.RowKit Num Rr
set_option linter.unusedVariables false
section
attribute [local go_sem] frombits_run bits_run
set_option maxRecDepth 100000 in
set_option maxHeartbeats 4000000 in
theorem breg33 (w : World) {bd tb at0 : Nat} {p4 cc : Int} (z4 : w.cell? ⟨bd, 4, none⟩ = some (.int .i64 p4)) (zb : bd < w.heap.size) (q0 : w.cell? ⟨tb, 0, none⟩ = some (.int .i64 cc)) (lt : tb < w.heap.size) (e33 : IntKind.i64.wrap (p4 + IntKind.i64.wrap (3 * cc)) = (at0 : Int)) (D : Code) (hD : D = (Tryz.f7.body.bind (findReg 33)).getD .skip) (c0 c1 c2 c3 c4 c6 c7 c8 c9 c10 c11 c12 c13 c14 c15 c16 c17 c19 c20 c21 c22 c23 c24 c25 c26 c27 c28 c29 c30 c31 c32 c33 c34 c35 c36 c37 c38 c39 c40 c41 c42 c43 c44 c45 c46 c47 c48 c49 c50 c51 c52 c53 c54 c55 c56 c57 c58 c59 c60 c61 c62 c63 c64 c65 c66 c67 c68 c69 c70 c71 c72 c73 c74 c75 c76 c77 c78 c79 c80 c81 c82 c83 c84 c85 c86 c87 c88 c89 c90 c91 c92 c93 c94 c95 c96 c97 c98 c99 c100 c101 c102 c103 c104 c105 c106 c107 c108 c109 c110 c111 c112 c113 c114 c115 c116 c117 c118 c119 c120 c121 c122 c123 c124 c125 c126 c127 c128 c129 c130 c131 c132 c133 c134 c135 c136 c137 c138 c139 c140 c141 c142 c143 c144 c145 c146 c147 c148 c149 c150 c151 c152 c153 c154 c155 c156 c157 c158 c159 c160 c161 c162 c163 c164 c165 c166 c167 c168 c169 c170 c171 c172 c173 c174 c175 c176 c177 c178 c179 c180 c181 c182 c183 c184 c185 c186 c187 c188 c189 c190 c191 c192 c193 c194 c195 c196 c197 c198 c199 c200 c201 c202 c203 c204 c205 c206 c207 c208 c209 c210 c211 c212 c213 c214 c215 c216 c217 c218 c219 c220 c221 c222 c223 c224 c225 c226 c227 c228 c229 c230 c231 c232 c233 c234 c235 c236 c237 c238 c239 c240 c241 c242 c243 c244 c245 c246 c247 c248 c249 c250 c251 c252 c253 c254 c255 c256 c257 c258 c259 : Value) (Q : Exit → Act → World → Prop) (hQ : ∀ v t1 t2 d u, Q (.panic v) ⟨t1, d⟩ u → Q (.panic v) ⟨t2, d⟩ u) (hK : ∀ (u159 u160 u161 u162 u163 u164 u165 u166 u167 : Value), Q .normal ⟨#[c0, c1, c2, c3, c4, .pointer (some ⟨bd, 0, none⟩), c6, c7, c8, c9, c10, c11, c12, c13, c14, c15, c16, c17, .pointer (some ⟨tb, 0, none⟩), .int .i64 (at0 : Int), c20, c21, c22, c23, c24, c25, c26, c27, c28, c29, c30, c31, c32, c33, c34, c35, c36, c37, c38, c39, c40, c41, c42, c43, c44, c45, c46, c47, c48, c49, c50, c51, c52, c53, c54, c55, c56, c57, c58, c59, c60, c61, c62, c63, c64, c65, c66, c67, c68, c69, c70, c71, c72, c73, c74, c75, c76, c77, c78, c79, c80, c81, c82, c83, c84, c85, c86, c87, c88, c89, c90, c91, c92, c93, c94, c95, c96, c97, c98, c99, c100, c101, c102, c103, c104, c105, c106, c107, c108, c109, c110, c111, c112, c113, c114, c115, c116, c117, c118, c119, c120, c121, c122, c123, c124, c125, c126, c127, c128, c129, c130, c131, c132, c133, c134, c135, c136, c137, c138, c139, c140, c141, c142, c143, c144, c145, c146, c147, c148, c149, c150, c151, c152, c153, c154, c155, c156, c157, c158, u159, u160, u161, u162, u163, u164, u165, u166, u167, c168, c169, c170, c171, c172, c173, c174, c175, c176, c177, c178, c179, c180, c181, c182, c183, c184, c185, c186, c187, c188, c189, c190, c191, c192, c193, c194, c195, c196, c197, c198, c199, c200, c201, c202, c203, c204, c205, c206, c207, c208, c209, c210, c211, c212, c213, c214, c215, c216, c217, c218, c219, c220, c221, c222, c223, c224, c225, c226, c227, c228, c229, c230, c231, c232, c233, c234, c235, c236, c237, c238, c239, c240, c241, c242, c243, c244, c245, c246, c247, c248, c249, c250, c251, c252, c253, c254, c255, c256, c257, c258, c259], []⟩ w.drew) : D.wp Tryz.prog Q ⟨#[c0, c1, c2, c3, c4, .pointer (some ⟨bd, 0, none⟩), c6, c7, c8, c9, c10, c11, c12, c13, c14, c15, c16, c17, .pointer (some ⟨tb, 0, none⟩), c19, c20, c21, c22, c23, c24, c25, c26, c27, c28, c29, c30, c31, c32, c33, c34, c35, c36, c37, c38, c39, c40, c41, c42, c43, c44, c45, c46, c47, c48, c49, c50, c51, c52, c53, c54, c55, c56, c57, c58, c59, c60, c61, c62, c63, c64, c65, c66, c67, c68, c69, c70, c71, c72, c73, c74, c75, c76, c77, c78, c79, c80, c81, c82, c83, c84, c85, c86, c87, c88, c89, c90, c91, c92, c93, c94, c95, c96, c97, c98, c99, c100, c101, c102, c103, c104, c105, c106, c107, c108, c109, c110, c111, c112, c113, c114, c115, c116, c117, c118, c119, c120, c121, c122, c123, c124, c125, c126, c127, c128, c129, c130, c131, c132, c133, c134, c135, c136, c137, c138, c139, c140, c141, c142, c143, c144, c145, c146, c147, c148, c149, c150, c151, c152, c153, c154, c155, c156, c157, c158, c159, c160, c161, c162, c163, c164, c165, c166, c167, c168, c169, c170, c171, c172, c173, c174, c175, c176, c177, c178, c179, c180, c181, c182, c183, c184, c185, c186, c187, c188, c189, c190, c191, c192, c193, c194, c195, c196, c197, c198, c199, c200, c201, c202, c203, c204, c205, c206, c207, c208, c209, c210, c211, c212, c213, c214, c215, c216, c217, c218, c219, c220, c221, c222, c223, c224, c225, c226, c227, c228, c229, c230, c231, c232, c233, c234, c235, c236, c237, c238, c239, c240, c241, c242, c243, c244, c245, c246, c247, c248, c249, c250, c251, c252, c253, c254, c255, c256, c257, c258, c259], []⟩ w := by
  have HK : Hid (∀ (u159 u160 u161 u162 u163 u164 u165 u166 u167 : Value), Q .normal ⟨#[c0, c1, c2, c3, c4, .pointer (some ⟨bd, 0, none⟩), c6, c7, c8, c9, c10, c11, c12, c13, c14, c15, c16, c17, .pointer (some ⟨tb, 0, none⟩), .int .i64 (at0 : Int), c20, c21, c22, c23, c24, c25, c26, c27, c28, c29, c30, c31, c32, c33, c34, c35, c36, c37, c38, c39, c40, c41, c42, c43, c44, c45, c46, c47, c48, c49, c50, c51, c52, c53, c54, c55, c56, c57, c58, c59, c60, c61, c62, c63, c64, c65, c66, c67, c68, c69, c70, c71, c72, c73, c74, c75, c76, c77, c78, c79, c80, c81, c82, c83, c84, c85, c86, c87, c88, c89, c90, c91, c92, c93, c94, c95, c96, c97, c98, c99, c100, c101, c102, c103, c104, c105, c106, c107, c108, c109, c110, c111, c112, c113, c114, c115, c116, c117, c118, c119, c120, c121, c122, c123, c124, c125, c126, c127, c128, c129, c130, c131, c132, c133, c134, c135, c136, c137, c138, c139, c140, c141, c142, c143, c144, c145, c146, c147, c148, c149, c150, c151, c152, c153, c154, c155, c156, c157, c158, u159, u160, u161, u162, u163, u164, u165, u166, u167, c168, c169, c170, c171, c172, c173, c174, c175, c176, c177, c178, c179, c180, c181, c182, c183, c184, c185, c186, c187, c188, c189, c190, c191, c192, c193, c194, c195, c196, c197, c198, c199, c200, c201, c202, c203, c204, c205, c206, c207, c208, c209, c210, c211, c212, c213, c214, c215, c216, c217, c218, c219, c220, c221, c222, c223, c224, c225, c226, c227, c228, c229, c230, c231, c232, c233, c234, c235, c236, c237, c238, c239, c240, c241, c242, c243, c244, c245, c246, c247, c248, c249, c250, c251, c252, c253, c254, c255, c256, c257, c258, c259], []⟩ w.drew) := hK
  clear hK
  rw [hD]
  clear hD
  conv => arg 2; whnf
  go_wp2_with fail
  refine wp_region_seq (fun u => u.cell? ⟨bd, 4, none⟩ = some (.int .i64 p4) ∧ u.cell? ⟨tb, 0, none⟩ = some (.int .i64 cc) )  ((0, true) :: (1, true) :: (2, true) :: (3, true) :: (4, true) :: (5, true) :: (6, true) :: (7, true) :: (8, true) :: (9, true) :: [])  Md.Cv.follows13 (by kernel_rfl) hQ  ⟨z4, q0⟩ ?_
  (repeat ((first | (refine wpSeq_take (v := ?_) rfl (by rfl) (fun wq hSq => ?_) ?_; rotate_left; (focus ((try dsimp only at hSq); go_simp; try with_reducible rfl))) | refine wpSeq_skip rfl (by rfl) ?_); simp only [Act.put, List.setIfInBounds_toArray, List.set_cons_zero, List.set_cons_succ]))
  refine wpSeq_nil ?_
  exact HK.out _ _ _ _ _ _ _ _ _
set_option maxRecDepth 100000 in
set_option maxHeartbeats 4000000 in
theorem breg34 (w : World) {g1 g2 tb N at0 at1 at2 fx : Nat} {st s1 q3 p1 : Int} (r0 : w.cell? ⟨g2, at0, none⟩ = some (.int .u64 s1)) (r1 : w.cell? ⟨g2, at1, none⟩ = some (.int .u64 (fx : Int))) (r2 : w.cell? ⟨g2, at2, none⟩ = some (.int .u64 q3)) (r3 : w.cell? ⟨g1, at1, none⟩ = some (.int .u64 p1)) (q1 : w.cell? ⟨tb, 1, none⟩ = some (.float .f64 fx)) (lg2 : g2 < w.heap.size) (lg1 : g1 < w.heap.size) (lt : tb < w.heap.size) (h0 : at0 < N) (h1 : at1 < N) (h2 : at2 < N) (h0i : (at0 : Int) < (N : Int)) (h1i : (at1 : Int) < (N : Int)) (h2i : (at2 : Int) < (N : Int)) (e1 : IntKind.i64.wrap ((at0 : Int) + 1) = (at1 : Int)) (e2 : IntKind.i64.wrap ((at0 : Int) + 2) = (at2 : Int)) (es : IntKind.u64.wrap (st + 1) = s1) (hp1 : u64B p1) (hq : ((fixB p1.toNat : Nat) : Int) = q3) (D : Code) (hD : D = (Tryz.f7.body.bind (findReg 34)).getD .skip) (c0 c1 c2 c3 c4 c5 c6 c7 c8 c10 c11 c12 c13 c16 c17 c20 c21 c22 c23 c24 c25 c26 c27 c28 c29 c30 c31 c32 c33 c34 c35 c36 c37 c38 c39 c40 c41 c42 c43 c44 c45 c46 c47 c48 c49 c50 c51 c52 c53 c54 c55 c56 c57 c58 c59 c60 c61 c62 c63 c64 c65 c66 c67 c68 c69 c70 c71 c72 c73 c74 c75 c76 c77 c78 c79 c80 c81 c82 c83 c84 c85 c86 c87 c88 c89 c90 c91 c92 c93 c94 c95 c96 c97 c98 c99 c100 c101 c102 c103 c104 c105 c106 c107 c108 c109 c110 c111 c112 c113 c114 c115 c116 c117 c118 c119 c120 c121 c122 c123 c124 c125 c126 c127 c128 c129 c130 c131 c132 c133 c134 c135 c136 c137 c138 c139 c140 c141 c142 c143 c144 c145 c146 c147 c148 c149 c150 c151 c152 c153 c154 c155 c156 c157 c158 c159 c160 c161 c162 c163 c164 c165 c166 c167 c168 c169 c170 c171 c172 c173 c174 c175 c176 c177 c178 c179 c180 c181 c182 c183 c184 c185 c186 c187 c188 c189 c190 c191 c192 c193 c194 c195 c196 c197 c198 c199 c200 c201 c202 c203 c204 c205 c206 c207 c208 c209 c210 c211 c212 c213 c214 c215 c216 c217 c218 c219 c220 c221 c222 c223 c224 c225 c226 c227 c228 c229 c230 c231 c232 c233 c234 c235 c236 c237 c238 c239 c240 c241 c242 c243 c244 c245 c246 c247 c248 c249 c250 c251 c252 c253 c254 c255 c256 c257 c258 c259 : Value) (Q : Exit → Act → World → Prop) (hQ : ∀ v t1 t2 d u, Q (.panic v) ⟨t1, d⟩ u → Q (.panic v) ⟨t2, d⟩ u) (hK : ∀ (u168 u169 u170 u171 u172 u173 u174 u175 u176 u177 u178 u179 u180 u181 u182 u183 u184 u185 u186 u187 u188 u189 u190 u191 u192 u193 u194 u195 u196 u197 u198 : Value), Q .normal ⟨#[c0, c1, c2, c3, c4, c5, c6, c7, c8, .slice (some ⟨g1, 0, none⟩) N N, c10, c11, c12, c13, .slice (some ⟨g2, 0, none⟩) N N, .int .u64 st, c16, c17, .pointer (some ⟨tb, 0, none⟩), .int .i64 (at0 : Int), c20, c21, c22, c23, c24, c25, c26, c27, c28, c29, c30, c31, c32, c33, c34, c35, c36, c37, c38, c39, c40, c41, c42, c43, c44, c45, c46, c47, c48, c49, c50, c51, c52, c53, c54, c55, c56, c57, c58, c59, c60, c61, c62, c63, c64, c65, c66, c67, c68, c69, c70, c71, c72, c73, c74, c75, c76, c77, c78, c79, c80, c81, c82, c83, c84, c85, c86, c87, c88, c89, c90, c91, c92, c93, c94, c95, c96, c97, c98, c99, c100, c101, c102, c103, c104, c105, c106, c107, c108, c109, c110, c111, c112, c113, c114, c115, c116, c117, c118, c119, c120, c121, c122, c123, c124, c125, c126, c127, c128, c129, c130, c131, c132, c133, c134, c135, c136, c137, c138, c139, c140, c141, c142, c143, c144, c145, c146, c147, c148, c149, c150, c151, c152, c153, c154, c155, c156, c157, c158, c159, c160, c161, c162, c163, c164, c165, c166, c167, u168, u169, u170, u171, u172, u173, u174, u175, u176, u177, u178, u179, u180, u181, u182, u183, u184, u185, u186, u187, u188, u189, u190, u191, u192, u193, u194, u195, u196, u197, u198, .bool false, c200, c201, c202, c203, c204, c205, c206, c207, c208, c209, c210, c211, c212, c213, c214, c215, c216, c217, c218, c219, c220, c221, c222, c223, c224, c225, c226, c227, c228, c229, c230, c231, c232, c233, c234, c235, c236, c237, c238, c239, c240, c241, c242, c243, c244, c245, c246, c247, c248, c249, c250, c251, c252, c253, c254, c255, c256, c257, c258, c259], []⟩ w.drew) : D.wp Tryz.prog Q ⟨#[c0, c1, c2, c3, c4, c5, c6, c7, c8, .slice (some ⟨g1, 0, none⟩) N N, c10, c11, c12, c13, .slice (some ⟨g2, 0, none⟩) N N, .int .u64 st, c16, c17, .pointer (some ⟨tb, 0, none⟩), .int .i64 (at0 : Int), c20, c21, c22, c23, c24, c25, c26, c27, c28, c29, c30, c31, c32, c33, c34, c35, c36, c37, c38, c39, c40, c41, c42, c43, c44, c45, c46, c47, c48, c49, c50, c51, c52, c53, c54, c55, c56, c57, c58, c59, c60, c61, c62, c63, c64, c65, c66, c67, c68, c69, c70, c71, c72, c73, c74, c75, c76, c77, c78, c79, c80, c81, c82, c83, c84, c85, c86, c87, c88, c89, c90, c91, c92, c93, c94, c95, c96, c97, c98, c99, c100, c101, c102, c103, c104, c105, c106, c107, c108, c109, c110, c111, c112, c113, c114, c115, c116, c117, c118, c119, c120, c121, c122, c123, c124, c125, c126, c127, c128, c129, c130, c131, c132, c133, c134, c135, c136, c137, c138, c139, c140, c141, c142, c143, c144, c145, c146, c147, c148, c149, c150, c151, c152, c153, c154, c155, c156, c157, c158, c159, c160, c161, c162, c163, c164, c165, c166, c167, c168, c169, c170, c171, c172, c173, c174, c175, c176, c177, c178, c179, c180, c181, c182, c183, c184, c185, c186, c187, c188, c189, c190, c191, c192, c193, c194, c195, c196, c197, c198, c199, c200, c201, c202, c203, c204, c205, c206, c207, c208, c209, c210, c211, c212, c213, c214, c215, c216, c217, c218, c219, c220, c221, c222, c223, c224, c225, c226, c227, c228, c229, c230, c231, c232, c233, c234, c235, c236, c237, c238, c239, c240, c241, c242, c243, c244, c245, c246, c247, c248, c249, c250, c251, c252, c253, c254, c255, c256, c257, c258, c259], []⟩ w := by
  have HK : Hid (∀ (u168 u169 u170 u171 u172 u173 u174 u175 u176 u177 u178 u179 u180 u181 u182 u183 u184 u185 u186 u187 u188 u189 u190 u191 u192 u193 u194 u195 u196 u197 u198 : Value), Q .normal ⟨#[c0, c1, c2, c3, c4, c5, c6, c7, c8, .slice (some ⟨g1, 0, none⟩) N N, c10, c11, c12, c13, .slice (some ⟨g2, 0, none⟩) N N, .int .u64 st, c16, c17, .pointer (some ⟨tb, 0, none⟩), .int .i64 (at0 : Int), c20, c21, c22, c23, c24, c25, c26, c27, c28, c29, c30, c31, c32, c33, c34, c35, c36, c37, c38, c39, c40, c41, c42, c43, c44, c45, c46, c47, c48, c49, c50, c51, c52, c53, c54, c55, c56, c57, c58, c59, c60, c61, c62, c63, c64, c65, c66, c67, c68, c69, c70, c71, c72, c73, c74, c75, c76, c77, c78, c79, c80, c81, c82, c83, c84, c85, c86, c87, c88, c89, c90, c91, c92, c93, c94, c95, c96, c97, c98, c99, c100, c101, c102, c103, c104, c105, c106, c107, c108, c109, c110, c111, c112, c113, c114, c115, c116, c117, c118, c119, c120, c121, c122, c123, c124, c125, c126, c127, c128, c129, c130, c131, c132, c133, c134, c135, c136, c137, c138, c139, c140, c141, c142, c143, c144, c145, c146, c147, c148, c149, c150, c151, c152, c153, c154, c155, c156, c157, c158, c159, c160, c161, c162, c163, c164, c165, c166, c167, u168, u169, u170, u171, u172, u173, u174, u175, u176, u177, u178, u179, u180, u181, u182, u183, u184, u185, u186, u187, u188, u189, u190, u191, u192, u193, u194, u195, u196, u197, u198, .bool false, c200, c201, c202, c203, c204, c205, c206, c207, c208, c209, c210, c211, c212, c213, c214, c215, c216, c217, c218, c219, c220, c221, c222, c223, c224, c225, c226, c227, c228, c229, c230, c231, c232, c233, c234, c235, c236, c237, c238, c239, c240, c241, c242, c243, c244, c245, c246, c247, c248, c249, c250, c251, c252, c253, c254, c255, c256, c257, c258, c259], []⟩ w.drew) := hK
  clear hK
  rw [hD]
  clear hD
  conv => arg 2; whnf
  go_wp2_with fail
  refine wp_region_seq (fun u => u.cell? ⟨g2, at0, none⟩ = some (.int .u64 s1) ∧ u.cell? ⟨g2, at1, none⟩ = some (.int .u64 (fx : Int)) ∧ u.cell? ⟨g2, at2, none⟩ = some (.int .u64 q3) ∧ u.cell? ⟨g1, at1, none⟩ = some (.int .u64 p1) ∧ u.cell? ⟨tb, 1, none⟩ = some (.float .f64 fx) )  ((0, true) :: (1, true) :: (2, true) :: (3, true) :: (4, true) :: (5, true) :: (6, true) :: (7, true) :: (8, true) :: (9, true) :: (10, true) :: (11, true) :: (12, true) :: (13, true) :: (14, true) :: (15, false) :: (16, true) :: (17, true) :: (18, true) :: (19, true) :: (20, true) :: (21, true) :: (22, true) :: (23, true) :: (24, true) :: (25, true) :: (26, true) :: (27, true) :: (28, true) :: (29, false) :: (30, true) :: (31, true) :: [])  Md.Cv.follows13 (by kernel_rfl) hQ  ⟨r0, r1, r2, r3, q1⟩ ?_
  (repeat ((first | (refine wpSeq_take (v := ?_) rfl (by rfl) (fun wq hSq => ?_) ?_; rotate_left; (focus ((try dsimp only at hSq); go_simp; try with_reducible rfl))) | refine wpSeq_skip rfl (by rfl) ?_); simp only [Act.put, List.setIfInBounds_toArray, List.set_cons_zero, List.set_cons_succ]))
  (refine wpSeq_do rfl (by rfl) (fun KK hK => ?_); go_simp)
  refine hK.out _ _ ⟨r0, r1, r2, r3, q1⟩ ?_
  (clear hK KK; try simp only [Act.put, List.setIfInBounds_toArray, List.set_cons_zero, List.set_cons_succ])
  (repeat ((first | (refine wpSeq_take (v := ?_) rfl (by rfl) (fun wq hSq => ?_) ?_; rotate_left; (focus ((try dsimp only at hSq); go_simp; try with_reducible rfl))) | refine wpSeq_skip rfl (by rfl) ?_); simp only [Act.put, List.setIfInBounds_toArray, List.set_cons_zero, List.set_cons_succ]))
  (refine wpSeq_do rfl (by rfl) (fun KK hK => ?_); go_simp)
  refine (lawBits_any hp1 _).mono ?_
  rintro r u5 ⟨rfl, hw⟩
  subst u5
  refine hK.out _ _ ⟨r0, r1, r2, r3, q1⟩ ?_
  (clear hK KK; try simp only [Act.put, List.setIfInBounds_toArray, List.set_cons_zero, List.set_cons_succ])
  (repeat ((first | (refine wpSeq_take (v := ?_) rfl (by rfl) (fun wq hSq => ?_) ?_; rotate_left; (focus ((try dsimp only at hSq); go_simp; try with_reducible rfl))) | refine wpSeq_skip rfl (by rfl) ?_); simp only [Act.put, List.setIfInBounds_toArray, List.set_cons_zero, List.set_cons_succ]))
  refine wpSeq_nil ?_
  exact HK.out _ _ _ _ _ _ _ _ _ _ _ _ _ _ _ _ _ _ _ _ _ _ _ _ _ _ _ _ _ _ _
set_option maxRecDepth 100000 in
set_option maxHeartbeats 4000000 in
theorem breg40 (w : World) {bd g1 g2 gb N an kk kd pk : Nat} {p4 v1 v2 : Int} {wb : Bool} (z4 : w.cell? ⟨bd, 4, none⟩ = some (.int .i64 p4)) (zb : bd < w.heap.size) (rb : w.cell? ⟨gb, kd, none⟩ = some (.bool wb)) (r2 : w.cell? ⟨g2, pk, none⟩ = some (.int .u64 v2)) (r1 : w.cell? ⟨g1, pk, none⟩ = some (.int .u64 v1)) (lg2 : g2 < w.heap.size) (lg1 : g1 < w.heap.size) (lgb : gb < w.heap.size) (hkd : kd < an) (hkdi : (kd : Int) < (an : Int)) (hpk : pk < N) (hpki : (pk : Int) < (N : Int)) (e3 : kk / 3 = kd) (hkk : (kk : Int) ≤ 100000) (ep : IntKind.i64.wrap (p4 + (kk : Int)) = (pk : Int)) (hc : wb = true ∨ (wb = false ∧ (v2 != v1) = false)) (D : Code) (hD : D = (Tryz.f7.body.bind (findReg 40)).getD .skip) (c0 c1 c2 c3 c4 c6 c7 c8 c10 c11 c12 c13 c15 c17 c18 c19 c21 c22 c23 c24 c25 c26 c27 c28 c29 c30 c31 c32 c33 c34 c35 c36 c37 c38 c39 c40 c41 c42 c43 c44 c45 c46 c47 c48 c49 c50 c51 c52 c53 c54 c55 c56 c57 c58 c59 c60 c61 c62 c63 c64 c65 c66 c67 c68 c69 c70 c71 c72 c73 c74 c75 c76 c77 c78 c79 c80 c81 c82 c83 c84 c85 c86 c87 c88 c89 c90 c91 c92 c93 c94 c95 c96 c97 c98 c99 c100 c101 c102 c103 c104 c105 c106 c107 c108 c109 c110 c111 c112 c113 c114 c115 c116 c117 c118 c119 c120 c121 c122 c123 c124 c125 c126 c127 c128 c129 c130 c131 c132 c133 c134 c135 c136 c137 c138 c139 c140 c141 c142 c143 c144 c145 c146 c147 c148 c149 c150 c151 c152 c153 c154 c155 c156 c157 c158 c159 c160 c161 c162 c163 c164 c165 c166 c167 c168 c169 c170 c171 c172 c173 c174 c175 c176 c177 c178 c179 c180 c181 c182 c183 c184 c185 c186 c187 c188 c189 c190 c191 c192 c193 c194 c195 c196 c197 c198 c199 c200 c201 c202 c203 c204 c205 c206 c207 c208 c209 c210 c211 c212 c213 c214 c215 c216 c217 c218 c219 c220 c221 c222 c223 c224 c225 c226 c227 c228 c229 c230 c231 c232 c233 c234 c235 c236 c237 c238 c239 c240 c241 c242 c243 c244 c245 c246 c247 c248 c249 c250 c251 c252 c253 c254 c255 c256 c257 c258 c259 : Value) (Q : Exit → Act → World → Prop) (hQ : ∀ v t1 t2 d u, Q (.panic v) ⟨t1, d⟩ u → Q (.panic v) ⟨t2, d⟩ u) (hK : ∀ (u209 u210 u211 u212 u213 u214 u215 u216 u217 u218 u219 u220 u221 u222 u223 u224 u225 u226 u227 u228 u229 u230 u231 u232 u233 u234 u235 u236 : Value), Q .normal ⟨#[c0, c1, c2, c3, c4, .pointer (some ⟨bd, 0, none⟩), c6, c7, c8, .slice (some ⟨g1, 0, none⟩) N N, c10, c11, c12, c13, .slice (some ⟨g2, 0, none⟩) N N, c15, .slice (some ⟨gb, 0, none⟩) an an, c17, c18, c19, .int .i64 (kk : Int), c21, c22, c23, c24, c25, c26, c27, c28, c29, c30, c31, c32, c33, c34, c35, c36, c37, c38, c39, c40, c41, c42, c43, c44, c45, c46, c47, c48, c49, c50, c51, c52, c53, c54, c55, c56, c57, c58, c59, c60, c61, c62, c63, c64, c65, c66, c67, c68, c69, c70, c71, c72, c73, c74, c75, c76, c77, c78, c79, c80, c81, c82, c83, c84, c85, c86, c87, c88, c89, c90, c91, c92, c93, c94, c95, c96, c97, c98, c99, c100, c101, c102, c103, c104, c105, c106, c107, c108, c109, c110, c111, c112, c113, c114, c115, c116, c117, c118, c119, c120, c121, c122, c123, c124, c125, c126, c127, c128, c129, c130, c131, c132, c133, c134, c135, c136, c137, c138, c139, c140, c141, c142, c143, c144, c145, c146, c147, c148, c149, c150, c151, c152, c153, c154, c155, c156, c157, c158, c159, c160, c161, c162, c163, c164, c165, c166, c167, c168, c169, c170, c171, c172, c173, c174, c175, c176, c177, c178, c179, c180, c181, c182, c183, c184, c185, c186, c187, c188, c189, c190, c191, c192, c193, c194, c195, c196, c197, c198, c199, c200, c201, c202, c203, c204, c205, c206, c207, c208, u209, u210, u211, u212, u213, u214, u215, u216, u217, u218, u219, u220, u221, u222, u223, u224, u225, u226, u227, u228, u229, u230, u231, u232, u233, u234, u235, u236, .bool false, c238, c239, c240, c241, c242, c243, c244, c245, c246, c247, c248, c249, c250, c251, c252, c253, c254, c255, c256, c257, c258, c259], []⟩ w.drew) : D.wp Tryz.prog Q ⟨#[c0, c1, c2, c3, c4, .pointer (some ⟨bd, 0, none⟩), c6, c7, c8, .slice (some ⟨g1, 0, none⟩) N N, c10, c11, c12, c13, .slice (some ⟨g2, 0, none⟩) N N, c15, .slice (some ⟨gb, 0, none⟩) an an, c17, c18, c19, .int .i64 (kk : Int), c21, c22, c23, c24, c25, c26, c27, c28, c29, c30, c31, c32, c33, c34, c35, c36, c37, c38, c39, c40, c41, c42, c43, c44, c45, c46, c47, c48, c49, c50, c51, c52, c53, c54, c55, c56, c57, c58, c59, c60, c61, c62, c63, c64, c65, c66, c67, c68, c69, c70, c71, c72, c73, c74, c75, c76, c77, c78, c79, c80, c81, c82, c83, c84, c85, c86, c87, c88, c89, c90, c91, c92, c93, c94, c95, c96, c97, c98, c99, c100, c101, c102, c103, c104, c105, c106, c107, c108, c109, c110, c111, c112, c113, c114, c115, c116, c117, c118, c119, c120, c121, c122, c123, c124, c125, c126, c127, c128, c129, c130, c131, c132, c133, c134, c135, c136, c137, c138, c139, c140, c141, c142, c143, c144, c145, c146, c147, c148, c149, c150, c151, c152, c153, c154, c155, c156, c157, c158, c159, c160, c161, c162, c163, c164, c165, c166, c167, c168, c169, c170, c171, c172, c173, c174, c175, c176, c177, c178, c179, c180, c181, c182, c183, c184, c185, c186, c187, c188, c189, c190, c191, c192, c193, c194, c195, c196, c197, c198, c199, c200, c201, c202, c203, c204, c205, c206, c207, c208, c209, c210, c211, c212, c213, c214, c215, c216, c217, c218, c219, c220, c221, c222, c223, c224, c225, c226, c227, c228, c229, c230, c231, c232, c233, c234, c235, c236, c237, c238, c239, c240, c241, c242, c243, c244, c245, c246, c247, c248, c249, c250, c251, c252, c253, c254, c255, c256, c257, c258, c259], []⟩ w := by
  have HK : Hid (∀ (u209 u210 u211 u212 u213 u214 u215 u216 u217 u218 u219 u220 u221 u222 u223 u224 u225 u226 u227 u228 u229 u230 u231 u232 u233 u234 u235 u236 : Value), Q .normal ⟨#[c0, c1, c2, c3, c4, .pointer (some ⟨bd, 0, none⟩), c6, c7, c8, .slice (some ⟨g1, 0, none⟩) N N, c10, c11, c12, c13, .slice (some ⟨g2, 0, none⟩) N N, c15, .slice (some ⟨gb, 0, none⟩) an an, c17, c18, c19, .int .i64 (kk : Int), c21, c22, c23, c24, c25, c26, c27, c28, c29, c30, c31, c32, c33, c34, c35, c36, c37, c38, c39, c40, c41, c42, c43, c44, c45, c46, c47, c48, c49, c50, c51, c52, c53, c54, c55, c56, c57, c58, c59, c60, c61, c62, c63, c64, c65, c66, c67, c68, c69, c70, c71, c72, c73, c74, c75, c76, c77, c78, c79, c80, c81, c82, c83, c84, c85, c86, c87, c88, c89, c90, c91, c92, c93, c94, c95, c96, c97, c98, c99, c100, c101, c102, c103, c104, c105, c106, c107, c108, c109, c110, c111, c112, c113, c114, c115, c116, c117, c118, c119, c120, c121, c122, c123, c124, c125, c126, c127, c128, c129, c130, c131, c132, c133, c134, c135, c136, c137, c138, c139, c140, c141, c142, c143, c144, c145, c146, c147, c148, c149, c150, c151, c152, c153, c154, c155, c156, c157, c158, c159, c160, c161, c162, c163, c164, c165, c166, c167, c168, c169, c170, c171, c172, c173, c174, c175, c176, c177, c178, c179, c180, c181, c182, c183, c184, c185, c186, c187, c188, c189, c190, c191, c192, c193, c194, c195, c196, c197, c198, c199, c200, c201, c202, c203, c204, c205, c206, c207, c208, u209, u210, u211, u212, u213, u214, u215, u216, u217, u218, u219, u220, u221, u222, u223, u224, u225, u226, u227, u228, u229, u230, u231, u232, u233, u234, u235, u236, .bool false, c238, c239, c240, c241, c242, c243, c244, c245, c246, c247, c248, c249, c250, c251, c252, c253, c254, c255, c256, c257, c258, c259], []⟩ w.drew) := hK
  clear hK
  rw [hD]
  clear hD
  conv => arg 2; whnf
  go_wp2_with fail
  have e3d : (kk : Int) / 3 = (kd : Int) := by omega
  have e3a : (kk : Int).tdiv 3 = (kd : Int) := by rw [Int.tdiv_eq_ediv_of_nonneg (by omega)]; exact e3d
  have e3c : IntKind.i64.wrap (kd : Int) = (kd : Int) := Go.IntWalk.i64_in _ ⟨by omega, by omega⟩
  rcases hc with rfl | ⟨rfl, hvb⟩
  · refine wp_region_seq (fun u => u.cell? ⟨bd, 4, none⟩ = some (.int .i64 p4) ∧ u.cell? ⟨gb, kd, none⟩ = some (.bool true) ∧ u.cell? ⟨g2, pk, none⟩ = some (.int .u64 v2) ∧ u.cell? ⟨g1, pk, none⟩ = some (.int .u64 v1) )  ((0, true) :: (1, true) :: (2, true) :: (3, true) :: (4, true) :: (5, true) :: (6, true) :: (7, true) :: (8, true) :: (9, true) :: (10, true) :: (11, true) :: (12, true) :: (13, true) :: (14, true) :: (15, true) :: (16, true) :: (17, true) :: (18, true) :: (19, true) :: (20, true) :: (21, true) :: (22, true) :: (23, true) :: (24, true) :: (25, true) :: (26, true) :: (27, true) :: (28, true) :: [])  Md.Cv.follows13 (by kernel_rfl) hQ  ⟨z4, rb, r2, r1⟩ ?_
    (repeat ((first | (refine wpSeq_take (v := ?_) rfl (by rfl) (fun wq hSq => ?_) ?_; rotate_left; (focus ((try dsimp only at hSq); go_simp; try with_reducible rfl))) | refine wpSeq_skip rfl (by rfl) ?_); simp only [Act.put, List.setIfInBounds_toArray, List.set_cons_zero, List.set_cons_succ]))
    refine wpSeq_nil ?_
    exact HK.out _ _ _ _ _ _ _ _ _ _ _ _ _ _ _ _ _ _ _ _ _ _ _ _ _ _ _ _
  · refine wp_region_seq (fun u => u.cell? ⟨bd, 4, none⟩ = some (.int .i64 p4) ∧ u.cell? ⟨gb, kd, none⟩ = some (.bool false) ∧ u.cell? ⟨g2, pk, none⟩ = some (.int .u64 v2) ∧ u.cell? ⟨g1, pk, none⟩ = some (.int .u64 v1) )  ((0, true) :: (1, true) :: (2, true) :: (3, true) :: (4, true) :: (5, true) :: (6, true) :: (7, true) :: (8, true) :: (9, true) :: (10, true) :: (11, true) :: (12, true) :: (13, true) :: (14, true) :: (15, true) :: (16, true) :: (17, true) :: (18, true) :: (19, true) :: (20, true) :: (21, true) :: (22, true) :: (23, true) :: (24, true) :: (25, true) :: (26, true) :: (27, true) :: (28, true) :: [])  Md.Cv.follows13 (by kernel_rfl) hQ  ⟨z4, rb, r2, r1⟩ ?_
    (repeat ((first | (refine wpSeq_take (v := ?_) rfl (by rfl) (fun wq hSq => ?_) ?_; rotate_left; (focus ((try dsimp only at hSq); go_simp; try with_reducible rfl))) | refine wpSeq_skip rfl (by rfl) ?_); simp only [Act.put, List.setIfInBounds_toArray, List.set_cons_zero, List.set_cons_succ]))
    refine wpSeq_nil ?_
    exact HK.out _ _ _ _ _ _ _ _ _ _ _ _ _ _ _ _ _ _ _ _ _ _ _ _ _ _ _ _
end
end Go.Proofs.YteinilmecnlanaaGreatDoor.Ww
namespace Go.Proofs.YteinilmecnlanaaGreatDoor.Ww
open Go.ChangeShapes Go.WideShapes Go.ChangeAt Go.RowKit Num Rr
set_option linter.unusedVariables false
def findBl (n : Nat) : Code → Option Code
  | .seq x y => match findBl n x with
    | some c => some c
    | none => findBl n y
  | .block m c => if m = n then some (.block m c) else findBl n c
  | .scope c => findBl n c
  | .loop c => findBl n c
  | .cond _ x y => match findBl n x with
    | some c => some c
    | none => findBl n y
  | _ => none
set_option maxRecDepth 100000 in
set_option maxHeartbeats 4000000 in
theorem bpoke (w : World) {W1 : World} {rb bx : Nat} {z : Wz} {mb mg bd : Nat} {zd : Dz} {bw gw : Nat} {x0 : Wx} {wsv : List Int} {N nb : Nat} (hn : nb ≤ 8) (hN : 3 + nb ≤ N) (HRC : Hid (∀ u, Below W1.heap.size W1 u → u.cell? ⟨rb, 1, none⟩ = some (.int .i64 (nb : Int)) ∧ rb < u.heap.size)) (HS : Hid (∃ wp, PkI wsv wp N 0 ∧ Both W1 w bx z mb mg x0 wp false 0 bd zd bw gw x0 wsv 0)) (D : Code) (hD : D = (Tryz.f7.body.bind (findBl 0)).getD .skip) (c0 c2 c3 c4 c7 c9 c10 c11 c12 c13 c14 c15 c16 c17 c18 c19 c20 c21 c22 c23 c24 c25 c26 c27 c28 c29 c30 c31 c32 c33 c34 c35 c36 c37 c38 c39 c40 c41 c42 c43 c44 c45 c46 c47 c48 c49 c50 c51 c52 c53 c54 c55 c56 c57 c58 c59 c60 c61 c62 c63 c64 c65 c66 c67 c68 c69 c70 c71 c72 c73 c74 c75 c76 c77 c78 c79 c80 c81 c82 c83 c84 c85 c86 c87 c88 c89 c90 c91 c92 c93 c94 c95 c96 c97 c98 c99 c100 c101 c102 c103 c104 c105 c106 c107 c108 c109 c110 c111 c112 c113 c114 c115 c116 c117 c118 c119 c120 c121 c122 c123 c124 c125 c126 c127 c128 c129 c130 c131 c132 c133 c134 c135 c136 c137 c138 c139 c140 c141 c142 c143 c144 c145 c146 c147 c148 c149 c150 c151 c152 c153 c154 c155 c156 c157 c158 c159 c160 c161 c162 c163 c164 c165 c166 c167 c168 c169 c170 c171 c172 c173 c174 c175 c176 c177 c178 c179 c180 c181 c182 c183 c184 c185 c186 c187 c188 c189 c190 c191 c192 c193 c194 c195 c196 c197 c198 c199 c200 c201 c202 c203 c204 c205 c206 c207 c208 c209 c210 c211 c212 c213 c214 c215 c216 c217 c218 c219 c220 c221 c222 c223 c224 c225 c226 c227 c228 c229 c230 c231 c232 c233 c234 c235 c236 c237 c238 c239 c240 c241 c242 c243 c244 c245 c246 c247 c248 c249 c250 c251 c252 c253 c254 c255 c256 c257 c258 c259 : Value) (Q : Exit → Act → World → Prop) (hQ : ∀ v t1 t2 d u, Q (.panic v) ⟨t1, d⟩ u → Q (.panic v) ⟨t2, d⟩ u) (hK : ∀ (u59 u60 u61 u62 u63 u64 u65 u66 u67 u68 u69 u70 u71 u72 u73 u74 : Value) (wp : List Int) (wz : World), PkI wsv wp N nb → Both W1 wz bx z mb mg x0 wp false 0 bd zd bw gw x0 wsv 0 → Q .normal ⟨#[c0, .pointer (some ⟨rb, 0, none⟩), c2, c3, c4, .pointer (some ⟨bd, 0, none⟩), .pointer (some ⟨mb, 0, none⟩), c7, .int .i64 (nb : Int), c9, c10, c11, c12, c13, c14, c15, c16, c17, c18, c19, c20, c21, c22, c23, c24, c25, c26, c27, c28, c29, c30, c31, c32, c33, c34, c35, c36, c37, c38, c39, c40, c41, c42, c43, c44, c45, c46, c47, c48, c49, c50, c51, c52, c53, c54, c55, c56, c57, c58, u59, u60, u61, u62, u63, u64, u65, u66, u67, u68, u69, u70, u71, u72, u73, u74, c75, c76, c77, c78, c79, c80, c81, c82, c83, c84, c85, c86, c87, c88, c89, c90, c91, c92, c93, c94, c95, c96, c97, c98, c99, c100, c101, c102, c103, c104, c105, c106, c107, c108, c109, c110, c111, c112, c113, c114, c115, c116, c117, c118, c119, c120, c121, c122, c123, c124, c125, c126, c127, c128, c129, c130, c131, c132, c133, c134, c135, c136, c137, c138, c139, c140, c141, c142, c143, c144, c145, c146, c147, c148, c149, c150, c151, c152, c153, c154, c155, c156, c157, c158, c159, c160, c161, c162, c163, c164, c165, c166, c167, c168, c169, c170, c171, c172, c173, c174, c175, c176, c177, c178, c179, c180, c181, c182, c183, c184, c185, c186, c187, c188, c189, c190, c191, c192, c193, c194, c195, c196, c197, c198, c199, c200, c201, c202, c203, c204, c205, c206, c207, c208, c209, c210, c211, c212, c213, c214, c215, c216, c217, c218, c219, c220, c221, c222, c223, c224, c225, c226, c227, c228, c229, c230, c231, c232, c233, c234, c235, c236, c237, c238, c239, c240, c241, c242, c243, c244, c245, c246, c247, c248, c249, c250, c251, c252, c253, c254, c255, c256, c257, c258, c259], []⟩ wz) : D.wp Tryz.prog Q ⟨#[c0, .pointer (some ⟨rb, 0, none⟩), c2, c3, c4, .pointer (some ⟨bd, 0, none⟩), .pointer (some ⟨mb, 0, none⟩), c7, .int .i64 0, c9, c10, c11, c12, c13, c14, c15, c16, c17, c18, c19, c20, c21, c22, c23, c24, c25, c26, c27, c28, c29, c30, c31, c32, c33, c34, c35, c36, c37, c38, c39, c40, c41, c42, c43, c44, c45, c46, c47, c48, c49, c50, c51, c52, c53, c54, c55, c56, c57, c58, c59, c60, c61, c62, c63, c64, c65, c66, c67, c68, c69, c70, c71, c72, c73, c74, c75, c76, c77, c78, c79, c80, c81, c82, c83, c84, c85, c86, c87, c88, c89, c90, c91, c92, c93, c94, c95, c96, c97, c98, c99, c100, c101, c102, c103, c104, c105, c106, c107, c108, c109, c110, c111, c112, c113, c114, c115, c116, c117, c118, c119, c120, c121, c122, c123, c124, c125, c126, c127, c128, c129, c130, c131, c132, c133, c134, c135, c136, c137, c138, c139, c140, c141, c142, c143, c144, c145, c146, c147, c148, c149, c150, c151, c152, c153, c154, c155, c156, c157, c158, c159, c160, c161, c162, c163, c164, c165, c166, c167, c168, c169, c170, c171, c172, c173, c174, c175, c176, c177, c178, c179, c180, c181, c182, c183, c184, c185, c186, c187, c188, c189, c190, c191, c192, c193, c194, c195, c196, c197, c198, c199, c200, c201, c202, c203, c204, c205, c206, c207, c208, c209, c210, c211, c212, c213, c214, c215, c216, c217, c218, c219, c220, c221, c222, c223, c224, c225, c226, c227, c228, c229, c230, c231, c232, c233, c234, c235, c236, c237, c238, c239, c240, c241, c242, c243, c244, c245, c246, c247, c248, c249, c250, c251, c252, c253, c254, c255, c256, c257, c258, c259], []⟩ w := by
  have HK : Hid (∀ (u59 u60 u61 u62 u63 u64 u65 u66 u67 u68 u69 u70 u71 u72 u73 u74 : Value) (wp : List Int) (wz : World), PkI wsv wp N nb → Both W1 wz bx z mb mg x0 wp false 0 bd zd bw gw x0 wsv 0 → Q .normal ⟨#[c0, .pointer (some ⟨rb, 0, none⟩), c2, c3, c4, .pointer (some ⟨bd, 0, none⟩), .pointer (some ⟨mb, 0, none⟩), c7, .int .i64 (nb : Int), c9, c10, c11, c12, c13, c14, c15, c16, c17, c18, c19, c20, c21, c22, c23, c24, c25, c26, c27, c28, c29, c30, c31, c32, c33, c34, c35, c36, c37, c38, c39, c40, c41, c42, c43, c44, c45, c46, c47, c48, c49, c50, c51, c52, c53, c54, c55, c56, c57, c58, u59, u60, u61, u62, u63, u64, u65, u66, u67, u68, u69, u70, u71, u72, u73, u74, c75, c76, c77, c78, c79, c80, c81, c82, c83, c84, c85, c86, c87, c88, c89, c90, c91, c92, c93, c94, c95, c96, c97, c98, c99, c100, c101, c102, c103, c104, c105, c106, c107, c108, c109, c110, c111, c112, c113, c114, c115, c116, c117, c118, c119, c120, c121, c122, c123, c124, c125, c126, c127, c128, c129, c130, c131, c132, c133, c134, c135, c136, c137, c138, c139, c140, c141, c142, c143, c144, c145, c146, c147, c148, c149, c150, c151, c152, c153, c154, c155, c156, c157, c158, c159, c160, c161, c162, c163, c164, c165, c166, c167, c168, c169, c170, c171, c172, c173, c174, c175, c176, c177, c178, c179, c180, c181, c182, c183, c184, c185, c186, c187, c188, c189, c190, c191, c192, c193, c194, c195, c196, c197, c198, c199, c200, c201, c202, c203, c204, c205, c206, c207, c208, c209, c210, c211, c212, c213, c214, c215, c216, c217, c218, c219, c220, c221, c222, c223, c224, c225, c226, c227, c228, c229, c230, c231, c232, c233, c234, c235, c236, c237, c238, c239, c240, c241, c242, c243, c244, c245, c246, c247, c248, c249, c250, c251, c252, c253, c254, c255, c256, c257, c258, c259], []⟩ wz) := hK
  clear hK
  rw [hD]
  clear hD
  conv => arg 2; whnf
  have HPO : Hid (∀ u wp (tt : Nat), 3 + tt < wp.length → Both W1 u bx z mb mg x0 wp false 0 bd zd bw gw x0 wsv 0 → Calls Tryz.prog 26 #[.pointer (some ⟨mb, 0, none⟩), .int .i64 (3 + (tt : Int)), .int .u64 0] u fun r w' => r = .returned (.int .i64 0) ∧ Both W1 w' bx z mb mg x0 (wp.set (3 + tt) 0) false 0 bd zd bw gw x0 wsv 0) := fun u wp tt hl q => q.poke (i := 3 + tt) hl 0
  go_wp2_with fail
  go_loopw [8] (fun vt wr => ∃ tt : Nat, vt = .int .i64 tt ∧ tt ≤ nb ∧ Hid (∃ wp, PkI wsv wp N tt ∧ Both W1 wr bx z mb mg x0 wp false 0 bd zd bw gw x0 wsv 0)) (fun vt _ => nb - (intOf vt).toNat)
  case atStart => exact ⟨0, rfl, by omega, HS.out⟩
  case round =>
    obtain ⟨tt, rfl, htb, HR0⟩ := hrel
    obtain ⟨wp, hPk, hB0⟩ := HR0.out
    have HPK := Lib.hid hPk
    have HB0 := Lib.hid hB0
    obtain ⟨y1, yb⟩ := HRC.out _ hB0.below
    obtain ⟨z0, z1, z2, z3, z4, z5, zb⟩ := hB0.plan
    clear HS HR0 hPk hB0 z0 z1 z2 z4 z5
    by_cases htt : tt < nb
    · have htti : (tt : Int) < (nb : Int) := by omega
      go_wp2_with (go_at_call 26; refine (HPO.out _ _ _ (by rw [HPK.out.len]; omega) HB0.out).mono ?_; rintro r u5 ⟨rfl, q⟩; have H5 := Lib.hid q; clear q)
      first
      | exact ⟨⟨tt + 1, rfl, by omega, _, HPK.out.poke (by omega), H5.out⟩, by simp [intOf]; omega⟩
      | exact ⟨⟨_, _, _, _, _, _, _, _, _, _, _, _, _, _, _, _, _, ⟨tt + 1, rfl, by omega, _, HPK.out.poke (by omega), H5.out⟩, rfl⟩, by show nb - (intOf (.int .i64 ((tt : Int) + 1))).toNat < nb - (intOf (.int .i64 (tt : Int))).toNat; simp [intOf]; omega⟩
    · obtain rfl : tt = nb := by omega
      have htti : ¬ (tt : Int) < (tt : Int) := by omega
      go_wp2_with fail
      exact HK.out _ _ _ _ _ _ _ _ _ _ _ _ _ _ _ _ _ _ HPK.out HB0.out
set_option maxRecDepth 100000 in
set_option maxHeartbeats 4000000 in
theorem bcells (w : World) {rb bd g1 g2 gb N an pn : Nat} {wp ws2 : List Int} {wl : List Bool} (han : an ≤ 256) (hpn : pn + 3 * an ≤ N) (hN9 : N ≤ 1000) (l1 : wp.length = N) (l2 : ws2.length = N) (HRC : Hid (∀ u, Below w.heap.size w u → u.cell? ⟨rb, 0, none⟩ = some (.int .i64 (an : Int)) ∧ rb < u.heap.size ∧ u.cell? ⟨bd, 4, none⟩ = some (.int .i64 (pn : Int)) ∧ bd < u.heap.size ∧ Md.RowAt u g1 wp ∧ Md.RowAt u g2 ws2 ∧ (∀ j, j < an → u.cell? ⟨gb, j, none⟩ = some (.bool (wl.getD j false))) ∧ gb < u.heap.size)) (HE : Hid (∀ k, k < 3 * an → wl.getD (k / 3) false = true ∨ ws2.getD (pn + k) 0 = wp.getD (pn + k) 0)) (D : Code) (hD : D = (Tryz.f7.body.bind (findBl 6)).getD .skip) (c0 c2 c3 c4 c6 c7 c8 c10 c11 c12 c13 c15 c17 c18 c19 c21 c22 c23 c24 c25 c26 c27 c28 c29 c30 c31 c32 c33 c34 c35 c36 c37 c38 c39 c40 c41 c42 c43 c44 c45 c46 c47 c48 c49 c50 c51 c52 c53 c54 c55 c56 c57 c58 c59 c60 c61 c62 c63 c64 c65 c66 c67 c68 c69 c70 c71 c72 c73 c74 c75 c76 c77 c78 c79 c80 c81 c82 c83 c84 c85 c86 c87 c88 c89 c90 c91 c92 c93 c94 c95 c96 c97 c98 c99 c100 c101 c102 c103 c104 c105 c106 c107 c108 c109 c110 c111 c112 c113 c114 c115 c116 c117 c118 c119 c120 c121 c122 c123 c124 c125 c126 c127 c128 c129 c130 c131 c132 c133 c134 c135 c136 c137 c138 c139 c140 c141 c142 c143 c144 c145 c146 c147 c148 c149 c150 c151 c152 c153 c154 c155 c156 c157 c158 c159 c160 c161 c162 c163 c164 c165 c166 c167 c168 c169 c170 c171 c172 c173 c174 c175 c176 c177 c178 c179 c180 c181 c182 c183 c184 c185 c186 c187 c188 c189 c190 c191 c192 c193 c194 c195 c196 c197 c198 c199 c200 c201 c202 c203 c204 c205 c206 c207 c208 c209 c210 c211 c212 c213 c214 c215 c216 c217 c218 c219 c220 c221 c222 c223 c224 c225 c226 c227 c228 c229 c230 c231 c232 c233 c234 c235 c236 c237 c238 c239 c240 c241 c242 c243 c244 c245 c246 c247 c248 c249 c250 c251 c252 c253 c254 c255 c256 c257 c258 c259 : Value) (Q : Exit → Act → World → Prop) (hQ : ∀ v t1 t2 d u, Q (.panic v) ⟨t1, d⟩ u → Q (.panic v) ⟨t2, d⟩ u) (hK : ∀ (u2 u201 u202 u203 u204 u205 u206 u207 u208 u209 u210 u211 u212 u213 u214 u215 u216 u217 u218 u219 u220 u221 u222 u223 u224 u225 u226 u227 u228 u229 u230 u231 u232 u233 u234 u235 u236 u237 : Value) (wz : World), Below w.heap.size w wz → Q .normal ⟨#[c0, .pointer (some ⟨rb, 0, none⟩), u2, c3, c4, .pointer (some ⟨bd, 0, none⟩), c6, c7, c8, .slice (some ⟨g1, 0, none⟩) N N, c10, c11, c12, c13, .slice (some ⟨g2, 0, none⟩) N N, c15, .slice (some ⟨gb, 0, none⟩) an an, c17, c18, c19, .int .i64 ((3 * an : Nat) : Int), c21, c22, c23, c24, c25, c26, c27, c28, c29, c30, c31, c32, c33, c34, c35, c36, c37, c38, c39, c40, c41, c42, c43, c44, c45, c46, c47, c48, c49, c50, c51, c52, c53, c54, c55, c56, c57, c58, c59, c60, c61, c62, c63, c64, c65, c66, c67, c68, c69, c70, c71, c72, c73, c74, c75, c76, c77, c78, c79, c80, c81, c82, c83, c84, c85, c86, c87, c88, c89, c90, c91, c92, c93, c94, c95, c96, c97, c98, c99, c100, c101, c102, c103, c104, c105, c106, c107, c108, c109, c110, c111, c112, c113, c114, c115, c116, c117, c118, c119, c120, c121, c122, c123, c124, c125, c126, c127, c128, c129, c130, c131, c132, c133, c134, c135, c136, c137, c138, c139, c140, c141, c142, c143, c144, c145, c146, c147, c148, c149, c150, c151, c152, c153, c154, c155, c156, c157, c158, c159, c160, c161, c162, c163, c164, c165, c166, c167, c168, c169, c170, c171, c172, c173, c174, c175, c176, c177, c178, c179, c180, c181, c182, c183, c184, c185, c186, c187, c188, c189, c190, c191, c192, c193, c194, c195, c196, c197, c198, c199, c200, u201, u202, u203, u204, u205, u206, u207, u208, u209, u210, u211, u212, u213, u214, u215, u216, u217, u218, u219, u220, u221, u222, u223, u224, u225, u226, u227, u228, u229, u230, u231, u232, u233, u234, u235, u236, u237, c238, c239, c240, c241, c242, c243, c244, c245, c246, c247, c248, c249, c250, c251, c252, c253, c254, c255, c256, c257, c258, c259], []⟩ wz) : D.wp Tryz.prog Q ⟨#[c0, .pointer (some ⟨rb, 0, none⟩), c2, c3, c4, .pointer (some ⟨bd, 0, none⟩), c6, c7, c8, .slice (some ⟨g1, 0, none⟩) N N, c10, c11, c12, c13, .slice (some ⟨g2, 0, none⟩) N N, c15, .slice (some ⟨gb, 0, none⟩) an an, c17, c18, c19, .int .i64 0, c21, c22, c23, c24, c25, c26, c27, c28, c29, c30, c31, c32, c33, c34, c35, c36, c37, c38, c39, c40, c41, c42, c43, c44, c45, c46, c47, c48, c49, c50, c51, c52, c53, c54, c55, c56, c57, c58, c59, c60, c61, c62, c63, c64, c65, c66, c67, c68, c69, c70, c71, c72, c73, c74, c75, c76, c77, c78, c79, c80, c81, c82, c83, c84, c85, c86, c87, c88, c89, c90, c91, c92, c93, c94, c95, c96, c97, c98, c99, c100, c101, c102, c103, c104, c105, c106, c107, c108, c109, c110, c111, c112, c113, c114, c115, c116, c117, c118, c119, c120, c121, c122, c123, c124, c125, c126, c127, c128, c129, c130, c131, c132, c133, c134, c135, c136, c137, c138, c139, c140, c141, c142, c143, c144, c145, c146, c147, c148, c149, c150, c151, c152, c153, c154, c155, c156, c157, c158, c159, c160, c161, c162, c163, c164, c165, c166, c167, c168, c169, c170, c171, c172, c173, c174, c175, c176, c177, c178, c179, c180, c181, c182, c183, c184, c185, c186, c187, c188, c189, c190, c191, c192, c193, c194, c195, c196, c197, c198, c199, c200, c201, c202, c203, c204, c205, c206, c207, c208, c209, c210, c211, c212, c213, c214, c215, c216, c217, c218, c219, c220, c221, c222, c223, c224, c225, c226, c227, c228, c229, c230, c231, c232, c233, c234, c235, c236, c237, c238, c239, c240, c241, c242, c243, c244, c245, c246, c247, c248, c249, c250, c251, c252, c253, c254, c255, c256, c257, c258, c259], []⟩ w := by
  have HK : Hid (∀ (u2 u201 u202 u203 u204 u205 u206 u207 u208 u209 u210 u211 u212 u213 u214 u215 u216 u217 u218 u219 u220 u221 u222 u223 u224 u225 u226 u227 u228 u229 u230 u231 u232 u233 u234 u235 u236 u237 : Value) (wz : World), Below w.heap.size w wz → Q .normal ⟨#[c0, .pointer (some ⟨rb, 0, none⟩), u2, c3, c4, .pointer (some ⟨bd, 0, none⟩), c6, c7, c8, .slice (some ⟨g1, 0, none⟩) N N, c10, c11, c12, c13, .slice (some ⟨g2, 0, none⟩) N N, c15, .slice (some ⟨gb, 0, none⟩) an an, c17, c18, c19, .int .i64 ((3 * an : Nat) : Int), c21, c22, c23, c24, c25, c26, c27, c28, c29, c30, c31, c32, c33, c34, c35, c36, c37, c38, c39, c40, c41, c42, c43, c44, c45, c46, c47, c48, c49, c50, c51, c52, c53, c54, c55, c56, c57, c58, c59, c60, c61, c62, c63, c64, c65, c66, c67, c68, c69, c70, c71, c72, c73, c74, c75, c76, c77, c78, c79, c80, c81, c82, c83, c84, c85, c86, c87, c88, c89, c90, c91, c92, c93, c94, c95, c96, c97, c98, c99, c100, c101, c102, c103, c104, c105, c106, c107, c108, c109, c110, c111, c112, c113, c114, c115, c116, c117, c118, c119, c120, c121, c122, c123, c124, c125, c126, c127, c128, c129, c130, c131, c132, c133, c134, c135, c136, c137, c138, c139, c140, c141, c142, c143, c144, c145, c146, c147, c148, c149, c150, c151, c152, c153, c154, c155, c156, c157, c158, c159, c160, c161, c162, c163, c164, c165, c166, c167, c168, c169, c170, c171, c172, c173, c174, c175, c176, c177, c178, c179, c180, c181, c182, c183, c184, c185, c186, c187, c188, c189, c190, c191, c192, c193, c194, c195, c196, c197, c198, c199, c200, u201, u202, u203, u204, u205, u206, u207, u208, u209, u210, u211, u212, u213, u214, u215, u216, u217, u218, u219, u220, u221, u222, u223, u224, u225, u226, u227, u228, u229, u230, u231, u232, u233, u234, u235, u236, u237, c238, c239, c240, c241, c242, c243, c244, c245, c246, c247, c248, c249, c250, c251, c252, c253, c254, c255, c256, c257, c258, c259], []⟩ wz) := hK
  clear hK
  rw [hD]
  clear hD
  conv => arg 2; whnf
  go_wp2_with fail
  go_loopw [20] (fun vk wi => ∃ kk : Nat, vk = .int .i64 kk ∧ kk ≤ 3 * an ∧ Hid (Below w.heap.size w wi)) (fun vk _ => 3 * an - (intOf vk).toNat)
  case atStart => exact ⟨0, rfl, by omega, Below.refl _ _⟩
  case round =>
    obtain ⟨kk, rfl, hkk, HB0⟩ := hrel
    obtain ⟨y0, yb, z4, zb, ro1, ro2, rob, lgb⟩ := HRC.out _ HB0.out
    have HNX : Hid (∀ u, Below _ _ u → Below w.heap.size w u) := fun u q => HB0.out.trans (q.mono HB0.out.size)
    have hw3 : wrap64 (3 * (an : Int)) = 3 * (an : Int) := Go.IntWalk.wrap64_in _ ⟨by omega, by omega⟩
    by_cases htt : kk < 3 * an
    · have htti : (kk : Int) < 3 * (an : Int) := by omega
      have hkd : kk / 3 < an := by omega
      obtain ⟨kd, hkd2⟩ : ∃ kd : Nat, kk / 3 = kd := ⟨_, rfl⟩
      rw [hkd2] at hkd
      obtain ⟨pk, hpk⟩ : ∃ pk : Nat, pn + kk = pk := ⟨_, rfl⟩
      have hpN : pk < N := by omega
      have r1 := row_word ro1 l1 hpN
      have r2 := row_word ro2 l2 hpN
      have rb1 := rob kd hkd
      have lg1 := ro1.lt
      have lg2 := ro2.lt
      have HCC : Hid (wl.getD kd false = true ∨ (wl.getD kd false = false ∧ (ws2.getD pk 0 != wp.getD pk 0) = false)) := by
        have := HE.out kk htt
        rw [hkd2, hpk] at this
        cases q : wl.getD kd false
        · exact .inr ⟨rfl, by simpa using this.resolve_left (by rw [q]; simp)⟩
        · exact .inl rfl
      clear ro1 ro2 rob
      go_upto_region 40 with fail
      refine breg40 _ z4 zb rb1 r2 r1 lg2 lg1 lgb hkd (by omega) hpN (by omega) hkd2 (by omega) (by rw [Go.IntWalk.i64_in _ ⟨by omega, by omega⟩]; omega) HCC.out _ (by kernel_rfl) _ _ _ _ _ _ _ _ _ _ _ _ _ _ _ _ _ _ _ _ _ _ _ _ _ _ _ _ _ _ _ _ _ _ _ _ _ _ _ _ _ _ _ _ _ _ _ _ _ _ _ _ _ _ _ _ _ _ _ _ _ _ _ _ _ _ _ _ _ _ _ _ _ _ _ _ _ _ _ _ _ _ _ _ _ _ _ _ _ _ _ _ _ _ _ _ _ _ _ _ _ _ _ _ _ _ _ _ _ _ _ _ _ _ _ _ _ _ _ _ _ _ _ _ _ _ _ _ _ _ _ _ _ _ _ _ _ _ _ _ _ _ _ _ _ _ _ _ _ _ _ _ _ _ _ _ _ _ _ _ _ _ _ _ _ _ _ _ _ _ _ _ _ _ _ _ _ _ _ _ _ _ _ _ _ _ _ _ _ _ _ _ _ _ _ _ _ _ _ _ _ _ _ _ _ _ _ _ _ _ _ _ _ _ _ _ _ _ _ _ _ _ _ _ _ _ _ _ _ _ _ _ _ _ _ _ _ _ _ _ _ _ _ _ _ _ _ _ _ _ _ _ _ _ _ _ (fun v t1 t2 d u h => hQ v t1 t2 d u h) ?_
      intro _ _ _ _ _ _ _ _ _ _ _ _ _ _ _ _ _ _ _ _ _ _ _ _ _ _ _ _
      clear HCC
      go_wp2_with fail
      exact ⟨⟨kk + 1, rfl, by omega, HNX.out _ ((Same.drew _).below _)⟩, by simp [intOf]; omega⟩
    · obtain rfl : kk = 3 * an := by omega
      have htti : ¬ ((3 * an : Nat) : Int) < 3 * (an : Int) := by omega
      have htt2 : ¬ 3 * (an : Int) < 3 * (an : Int) := by omega
      clear ro1 ro2 rob
      go_wp2_with fail
      exact HK.out _ _ _ _ _ _ _ _ _ _ _ _ _ _ _ _ _ _ _ _ _ _ _ _ _ _ _ _ _ _ _ _ _ _ _ _ _ _ _ HB0.out
end Go.Proofs.YteinilmecnlanaaGreatDoor.Ww
namespace Go.Proofs.YteinilmecnlanaaGreatDoor.Ww
open Go.ChangeShapes Go.WideShapes Go.ChangeAt Go.RowKit Num Rr
set_option linter.unusedVariables false
theorem bls_at {wl : List Bool} {j : Nat} {v : Bool} (h : j < wl.length) (e : wl.getD j false = v) : (bls wl)[j]? = some (.bool v) := by
  unfold bls
  rw [List.getD_eq_getElem?_getD, List.getElem?_eq_getElem h] at e
  rw [List.getElem?_map, List.getElem?_eq_getElem h, ← e]
  rfl
section
attribute [local go_sem] run_store_float
set_option maxRecDepth 100000 in
set_option maxHeartbeats 4000000 in
theorem bwrote (w : World) {U : World} {rb bd g1 g2 gb N an pn : Nat} {wp ws2 : List Int} {pw : Option Addr} {cw : Nat} {buf : Wr} {st s1 : Int} (han : an ≤ 256) (hpn : pn + 3 * an ≤ N) (hN9 : N ≤ 1000) (l1 : wp.length = N) (l2 : ws2.length = N) (HRC : Hid (∀ u, Below U.heap.size U u → u.cell? ⟨rb, 0, none⟩ = some (.int .i64 (an : Int)) ∧ rb < u.heap.size ∧ u.cell? ⟨bd, 4, none⟩ = some (.int .i64 (pn : Int)) ∧ bd < u.heap.size ∧ Md.RowAt u g1 wp ∧ Md.RowAt u g2 ws2 ∧ TRow u pw cw buf)) (HBU : Hid (Below U.heap.size U w ∧ U.heap.size ≤ gb ∧ RowAt 4 w (some ⟨gb, 0, none⟩) an (bls (List.replicate an false)))) (HCE : Hid (∀ k, k < buf.length → 0 ≤ (buf.getD k (0, 0)).1 ∧ (buf.getD k (0, 0)).1 < (an : Int))) (hnd : (cellsOfL buf).Nodup) {L : Nat} (hL : buf.length = L) (hbl : L ≤ 1000) (es : IntKind.u64.wrap (st + 1) = s1) (hok : okW wp) (HE : Hid (∀ k, k < buf.length → ws2.getD (pn + 3 * (buf.getD k (0, 0)).1.toNat) 0 = s1 ∧ ws2.getD (pn + 3 * (buf.getD k (0, 0)).1.toNat + 1) 0 = (((buf.getD k (0, 0)).2 : Nat) : Int) ∧ ws2.getD (pn + 3 * (buf.getD k (0, 0)).1.toNat + 2) 0 = ((fixB (wp.getD (pn + 3 * (buf.getD k (0, 0)).1.toNat + 1) 0).toNat : Nat) : Int))) (D : Code) (hD : D = (Tryz.f7.body.bind (findBl 4)).getD .skip) (c0 c2 c3 c4 c6 c7 c8 c10 c11 c12 c13 c17 c18 c19 c20 c21 c22 c23 c24 c25 c26 c27 c28 c29 c30 c31 c32 c33 c34 c35 c36 c37 c38 c39 c40 c41 c42 c43 c44 c45 c46 c47 c48 c49 c50 c51 c52 c53 c54 c55 c56 c57 c58 c59 c60 c61 c62 c63 c64 c65 c66 c67 c68 c69 c70 c71 c72 c73 c74 c75 c76 c77 c78 c79 c80 c81 c82 c83 c84 c85 c86 c87 c88 c89 c90 c91 c92 c93 c94 c95 c96 c97 c98 c99 c100 c101 c102 c103 c104 c105 c106 c107 c108 c109 c110 c111 c112 c113 c114 c115 c116 c117 c118 c119 c120 c121 c122 c123 c124 c125 c126 c127 c128 c129 c130 c134 c135 c136 c137 c138 c139 c140 c141 c142 c143 c144 c145 c146 c147 c148 c149 c150 c151 c152 c153 c154 c155 c156 c157 c158 c159 c160 c161 c162 c163 c164 c165 c166 c167 c168 c169 c170 c171 c172 c173 c174 c175 c176 c177 c178 c179 c180 c181 c182 c183 c184 c185 c186 c187 c188 c189 c190 c191 c192 c193 c194 c195 c196 c197 c198 c199 c200 c201 c202 c203 c204 c205 c206 c207 c208 c209 c210 c211 c212 c213 c214 c215 c216 c217 c218 c219 c220 c221 c222 c223 c224 c225 c226 c227 c228 c229 c230 c231 c232 c233 c234 c235 c236 c237 c238 c239 c240 c241 c242 c243 c244 c245 c246 c247 c248 c249 c250 c251 c252 c253 c254 c255 c256 c257 c258 c259 : Value) (Q : Exit → Act → World → Prop) (hQ : ∀ v t1 t2 d u, Q (.panic v) ⟨t1, d⟩ u → Q (.panic v) ⟨t2, d⟩ u) (hK : ∀ (u2 u18 u19 u134 u135 u136 u137 u138 u139 u140 u141 u142 u143 u144 u145 u146 u147 u148 u149 u150 u151 u152 u153 u154 u155 u156 u157 u158 u159 u160 u161 u162 u163 u164 u165 u166 u167 u168 u169 u170 u171 u172 u173 u174 u175 u176 u177 u178 u179 u180 u181 u182 u183 u184 u185 u186 u187 u188 u189 u190 u191 u192 u193 u194 u195 u196 u197 u198 u199 u200 : Value) (wl : List Bool) (wz : World), Below U.heap.size U wz → RowAt 4 wz (some ⟨gb, 0, none⟩) an (bls wl) → wl.length = an → (∀ j, j < an → wl.getD j false = decide ((j : Int) ∈ cellsOfL buf)) → Q .normal ⟨#[c0, .pointer (some ⟨rb, 0, none⟩), u2, c3, c4, .pointer (some ⟨bd, 0, none⟩), c6, c7, c8, .slice (some ⟨g1, 0, none⟩) N N, c10, c11, c12, c13, .slice (some ⟨g2, 0, none⟩) N N, .int .u64 st, .slice (some ⟨gb, 0, none⟩) an an, c17, u18, u19, c20, c21, c22, c23, c24, c25, c26, c27, c28, c29, c30, c31, c32, c33, c34, c35, c36, c37, c38, c39, c40, c41, c42, c43, c44, c45, c46, c47, c48, c49, c50, c51, c52, c53, c54, c55, c56, c57, c58, c59, c60, c61, c62, c63, c64, c65, c66, c67, c68, c69, c70, c71, c72, c73, c74, c75, c76, c77, c78, c79, c80, c81, c82, c83, c84, c85, c86, c87, c88, c89, c90, c91, c92, c93, c94, c95, c96, c97, c98, c99, c100, c101, c102, c103, c104, c105, c106, c107, c108, c109, c110, c111, c112, c113, c114, c115, c116, c117, c118, c119, c120, c121, c122, c123, c124, c125, c126, c127, c128, c129, c130, .slice pw L cw, .int .i64 (L : Int), .int .i64 (L : Int), u134, u135, u136, u137, u138, u139, u140, u141, u142, u143, u144, u145, u146, u147, u148, u149, u150, u151, u152, u153, u154, u155, u156, u157, u158, u159, u160, u161, u162, u163, u164, u165, u166, u167, u168, u169, u170, u171, u172, u173, u174, u175, u176, u177, u178, u179, u180, u181, u182, u183, u184, u185, u186, u187, u188, u189, u190, u191, u192, u193, u194, u195, u196, u197, u198, u199, u200, c201, c202, c203, c204, c205, c206, c207, c208, c209, c210, c211, c212, c213, c214, c215, c216, c217, c218, c219, c220, c221, c222, c223, c224, c225, c226, c227, c228, c229, c230, c231, c232, c233, c234, c235, c236, c237, c238, c239, c240, c241, c242, c243, c244, c245, c246, c247, c248, c249, c250, c251, c252, c253, c254, c255, c256, c257, c258, c259], []⟩ wz) : D.wp Tryz.prog Q ⟨#[c0, .pointer (some ⟨rb, 0, none⟩), c2, c3, c4, .pointer (some ⟨bd, 0, none⟩), c6, c7, c8, .slice (some ⟨g1, 0, none⟩) N N, c10, c11, c12, c13, .slice (some ⟨g2, 0, none⟩) N N, .int .u64 st, .slice (some ⟨gb, 0, none⟩) an an, c17, c18, c19, c20, c21, c22, c23, c24, c25, c26, c27, c28, c29, c30, c31, c32, c33, c34, c35, c36, c37, c38, c39, c40, c41, c42, c43, c44, c45, c46, c47, c48, c49, c50, c51, c52, c53, c54, c55, c56, c57, c58, c59, c60, c61, c62, c63, c64, c65, c66, c67, c68, c69, c70, c71, c72, c73, c74, c75, c76, c77, c78, c79, c80, c81, c82, c83, c84, c85, c86, c87, c88, c89, c90, c91, c92, c93, c94, c95, c96, c97, c98, c99, c100, c101, c102, c103, c104, c105, c106, c107, c108, c109, c110, c111, c112, c113, c114, c115, c116, c117, c118, c119, c120, c121, c122, c123, c124, c125, c126, c127, c128, c129, c130, .slice pw L cw, .int .i64 (L : Int), .int .i64 0, c134, c135, c136, c137, c138, c139, c140, c141, c142, c143, c144, c145, c146, c147, c148, c149, c150, c151, c152, c153, c154, c155, c156, c157, c158, c159, c160, c161, c162, c163, c164, c165, c166, c167, c168, c169, c170, c171, c172, c173, c174, c175, c176, c177, c178, c179, c180, c181, c182, c183, c184, c185, c186, c187, c188, c189, c190, c191, c192, c193, c194, c195, c196, c197, c198, c199, c200, c201, c202, c203, c204, c205, c206, c207, c208, c209, c210, c211, c212, c213, c214, c215, c216, c217, c218, c219, c220, c221, c222, c223, c224, c225, c226, c227, c228, c229, c230, c231, c232, c233, c234, c235, c236, c237, c238, c239, c240, c241, c242, c243, c244, c245, c246, c247, c248, c249, c250, c251, c252, c253, c254, c255, c256, c257, c258, c259], []⟩ w := by
  have HK : Hid (∀ (u2 u18 u19 u134 u135 u136 u137 u138 u139 u140 u141 u142 u143 u144 u145 u146 u147 u148 u149 u150 u151 u152 u153 u154 u155 u156 u157 u158 u159 u160 u161 u162 u163 u164 u165 u166 u167 u168 u169 u170 u171 u172 u173 u174 u175 u176 u177 u178 u179 u180 u181 u182 u183 u184 u185 u186 u187 u188 u189 u190 u191 u192 u193 u194 u195 u196 u197 u198 u199 u200 : Value) (wl : List Bool) (wz : World), Below U.heap.size U wz → RowAt 4 wz (some ⟨gb, 0, none⟩) an (bls wl) → wl.length = an → (∀ j, j < an → wl.getD j false = decide ((j : Int) ∈ cellsOfL buf)) → Q .normal ⟨#[c0, .pointer (some ⟨rb, 0, none⟩), u2, c3, c4, .pointer (some ⟨bd, 0, none⟩), c6, c7, c8, .slice (some ⟨g1, 0, none⟩) N N, c10, c11, c12, c13, .slice (some ⟨g2, 0, none⟩) N N, .int .u64 st, .slice (some ⟨gb, 0, none⟩) an an, c17, u18, u19, c20, c21, c22, c23, c24, c25, c26, c27, c28, c29, c30, c31, c32, c33, c34, c35, c36, c37, c38, c39, c40, c41, c42, c43, c44, c45, c46, c47, c48, c49, c50, c51, c52, c53, c54, c55, c56, c57, c58, c59, c60, c61, c62, c63, c64, c65, c66, c67, c68, c69, c70, c71, c72, c73, c74, c75, c76, c77, c78, c79, c80, c81, c82, c83, c84, c85, c86, c87, c88, c89, c90, c91, c92, c93, c94, c95, c96, c97, c98, c99, c100, c101, c102, c103, c104, c105, c106, c107, c108, c109, c110, c111, c112, c113, c114, c115, c116, c117, c118, c119, c120, c121, c122, c123, c124, c125, c126, c127, c128, c129, c130, .slice pw L cw, .int .i64 (L : Int), .int .i64 (L : Int), u134, u135, u136, u137, u138, u139, u140, u141, u142, u143, u144, u145, u146, u147, u148, u149, u150, u151, u152, u153, u154, u155, u156, u157, u158, u159, u160, u161, u162, u163, u164, u165, u166, u167, u168, u169, u170, u171, u172, u173, u174, u175, u176, u177, u178, u179, u180, u181, u182, u183, u184, u185, u186, u187, u188, u189, u190, u191, u192, u193, u194, u195, u196, u197, u198, u199, u200, c201, c202, c203, c204, c205, c206, c207, c208, c209, c210, c211, c212, c213, c214, c215, c216, c217, c218, c219, c220, c221, c222, c223, c224, c225, c226, c227, c228, c229, c230, c231, c232, c233, c234, c235, c236, c237, c238, c239, c240, c241, c242, c243, c244, c245, c246, c247, c248, c249, c250, c251, c252, c253, c254, c255, c256, c257, c258, c259], []⟩ wz) := hK
  clear hK
  rw [hD]
  clear hD
  conv => arg 2; whnf
  have hbl' := hbl
  have HLL : Hid (buf.length = L) := hL
  go_wp2_with fail
  go_loopw [133] (fun vk wi => ∃ k : Nat, vk = .int .i64 k ∧ k ≤ L ∧ Hid (Below U.heap.size U wi ∧ ∃ wl : List Bool, wl.length = an ∧ RowAt 4 wi (some ⟨gb, 0, none⟩) an (bls wl) ∧ ∀ j, j < an → wl.getD j false = decide ((j : Int) ∈ (cellsOfL buf).take k))) (fun vk _ => L - (intOf vk).toNat)
  case atStart => exact ⟨0, rfl, by omega, HBU.out.1, List.replicate an false, by simp, HBU.out.2.2, fun j hj => by simp [List.getD_eq_getElem?_getD, List.getElem?_replicate]; split <;> rfl⟩
  case round =>
    obtain ⟨k, rfl, hkL, HB0⟩ := hrel
    obtain ⟨hBw, wl, hwl, hrow, hmem⟩ := HB0.out
    by_cases htt : k < L
    · have htti : (k : Int) < (L : Int) := by omega
      have hkb : k < buf.length := by rw [HLL.out]; exact htt
      obtain ⟨y0, yb, z4, zb, ro1, ro2, tr⟩ := HRC.out _ hBw
      obtain ⟨g, hg, lg, t0, t1, _⟩ := tr.at k hkb
      subst hg
      have HC0 := Lib.hid (HCE.out k hkb)
      obtain ⟨cn, hcn⟩ : ∃ cn : Nat, (buf[k]).1 = (cn : Int) := ⟨(buf[k]).1.toNat, by have := HC0.out.1; rw [List.getD_eq_getElem?_getD, List.getElem?_eq_getElem hkb] at this; exact (Int.toNat_of_nonneg this).symm⟩
      obtain ⟨fx, hfx⟩ : ∃ fx, (buf[k]).2 = fx := ⟨_, rfl⟩
      rw [hcn] at t0
      rw [hfx] at t1
      have hgd : buf.getD k (0, 0) = ((cn : Int), fx) := by rw [List.getD_eq_getElem?_getD, List.getElem?_eq_getElem hkb, ← hcn, ← hfx]; rfl
      have hca : cn < an := by have := HC0.out.2; rw [hgd] at this; dsimp only at this; omega
      have hcai : (cn : Int) < (an : Int) := by omega
      have hcni : ¬ (an : Int) ≤ (cn : Int) := by omega
      have HGD := Lib.hid hgd
      have hnw : wl.getD cn false = false := by
        rw [hmem cn hca]
        refine decide_eq_false (fun q => ?_)
        have hk' : k < (cellsOfL buf).length := by rw [cells_len]; exact hkb
        have e : (cellsOfL buf)[k] = (cn : Int) := (List.getElem_map ..).trans hcn
        obtain ⟨i, hi, hie⟩ := List.getElem_of_mem q
        rw [List.getElem_take] at hie
        rw [List.length_take] at hi
        exact (List.pairwise_iff_getElem.1 hnd) i k (by omega) hk' (by omega) (hie.trans e.symm)
      obtain ⟨b0, fb, lgb⟩ := row_get hrow (j := cn) (v := .bool false) (bls_at (by rw [hwl]; exact hca) hnw)
      clear hcn hfx hgd
      have HROW := Lib.hid hrow
      have HMEM := Lib.hid (And.intro hwl (And.intro hmem hnw))
      have HBW := Lib.hid hBw
      clear ro1 ro2 tr hrow hmem hwl hnw hBw HB0
      go_upto_region 30 with fail
      clear y0 yb z4 zb t0 t1 b0 fb lg
      obtain ⟨u1, hu1⟩ : ∃ u1, u1 = wr.alloc (.cells #[.int .i64 (cn : Int), .float .f64 fx] 75) := ⟨_, rfl⟩
      rw [← hu1]
      have HB1 : Hid (Below wr.heap.size wr u1 ∧ u1.heap[wr.heap.size]? = some (.cells #[.int .i64 (cn : Int), .float .f64 fx] 75 (0, 0))) := by rw [hu1]; exact ⟨below_alloc _ _, heap_alloc_new _ _⟩
      clear hu1
      have HU1 : Hid (Below U.heap.size U u1) := HBW.out.trans (HB1.out.1.mono HBW.out.size)
      have HR1 := Lib.hid (HROW.out.on HB1.out.1)
      have hgt : gb ≠ wr.heap.size := by omega
      obtain ⟨tb, htb⟩ : ∃ tb, wr.heap.size = tb := ⟨_, rfl⟩
      have HT1 : Hid (u1.heap[tb]? = some (.cells #[.int .i64 (cn : Int), .float .f64 fx] 75 (0, 0))) := by rw [← htb]; exact HB1.out.2
      rw [htb] at hgt ⊢
      clear htb HB1 HROW HBW lgb
      have q0 : u1.cell? ⟨tb, 0, none⟩ = some (.int .i64 (cn : Int)) := cell_of_row u1 tb 0 _ _ _ HT1.out
      have lt := lt_of_block HT1.out
      obtain ⟨y0, yb, z4, zb, ro1, ro2, tr⟩ := HRC.out _ HU1.out
      clear z4 zb ro1 ro2 tr
      obtain ⟨b0, fb, lgb⟩ := row_get HR1.out (j := cn) (v := .bool false) (bls_at (by rw [HMEM.out.1]; exact hca) HMEM.out.2.2)
      go_upto_region 33 with fail
      obtain ⟨u2, hu2⟩ : ∃ u2, u2 = u1.setCell ⟨gb, cn, none⟩ (.bool true) := ⟨_, rfl⟩
      rw [← hu2]
      obtain ⟨k1, k2⟩ := row_put HR1.out cn (.bool true)
      rw [← hu2] at k1 k2
      have HU2 : Hid (Below U.heap.size U u2) := HU1.out.trans (k2.below (fun i hi => by simp only [List.mem_cons, List.not_mem_nil, or_false] at hi; subst hi; exact HBU.out.2.1) HU1.out.size)
      have HT2 : Hid (u2.heap[tb]? = some (.cells #[.int .i64 (cn : Int), .float .f64 fx] 75 (0, 0))) := by rw [hu2]; exact (heap_setCell_other _ _ _ _ hgt.symm).trans HT1.out
      have HR2 : Hid (RowAt 4 u2 (some ⟨gb, 0, none⟩) an (bls (wl.set cn true))) := by
        have e : (bls wl).set cn (.bool true) = bls (wl.set cn true) := by unfold bls; rw [List.map_set]
        rw [← e]
        exact k1
      clear hu2 k1 k2 HU1 HT1 HR1 q0 lt y0 yb b0 fb lgb
      obtain ⟨y0, yb, z4, zb, ro1, ro2, tr⟩ := HRC.out _ HU2.out
      clear y0 yb tr
      have q0 : u2.cell? ⟨tb, 0, none⟩ = some (.int .i64 (cn : Int)) := cell_of_row u2 tb 0 _ _ _ HT2.out
      have q1 : u2.cell? ⟨tb, 1, none⟩ = some (.float .f64 fx) := cell_of_row u2 tb 1 _ _ _ HT2.out
      have lt := lt_of_block HT2.out
      have HF := Lib.hid (HE.out k hkb)
      rw [HGD.out] at HF
      obtain ⟨at0, hat0⟩ : ∃ at0 : Nat, pn + 3 * cn = at0 := ⟨_, rfl⟩
      have hF := HF.out
      simp only [Int.toNat_natCast] at hF
      rw [hat0] at hF
      have r0 := row_word ro2 l2 (j := at0) (by omega)
      have r1 := row_word ro2 l2 (j := at0 + 1) (by omega)
      have r2 := row_word ro2 l2 (j := at0 + 2) (by omega)
      have r3 := row_word ro1 l1 (j := at0 + 1) (by omega)
      rw [hF.1] at r0
      rw [hF.2.1] at r1
      have lg1 := ro1.lt
      have lg2 := ro2.lt
      have hp1 : u64B (wp.getD (at0 + 1) 0) := getD_ok hok _
      have HNX : Hid (∀ u, Below u2.heap.size u2 u → Below U.heap.size U u ∧ ∃ wl : List Bool, wl.length = an ∧ RowAt 4 u (some ⟨gb, 0, none⟩) an (bls wl) ∧ ∀ j, j < an → wl.getD j false = decide ((j : Int) ∈ (cellsOfL buf).take (k + 1))) := fun u q => by
        refine ⟨HU2.out.trans (q.mono HU2.out.size), wl.set cn true, by rw [List.length_set]; exact HMEM.out.1, HR2.out.on q, fun j hj => ?_⟩
        have hk' : k < (cellsOfL buf).length := by rw [cells_len]; exact hkb
        have e : (cellsOfL buf)[k] = (cn : Int) := by
          have := HGD.out
          rw [List.getD_eq_getElem?_getD, List.getElem?_eq_getElem hkb] at this
          have h2 : buf[k] = ((cn : Int), fx) := this
          exact (List.getElem_map ..).trans (by rw [h2])
        rw [List.take_succ_eq_append_getElem hk', e]
        by_cases ej : j = cn
        · subst ej
          rw [List.getD_eq_getElem?_getD, List.getElem?_set_self (by rw [HMEM.out.1]; exact hca)]
          simp
        · rw [List.getD_eq_getElem?_getD, List.getElem?_set_ne (by omega), ← List.getD_eq_getElem?_getD, HMEM.out.2.1 j hj]
          have : ¬ (j : Int) = (cn : Int) := by omega
          simp [this]
      clear ro1 ro2 HMEM HRC HE HCE HBU
      refine breg33 _ (at0 := at0) z4 zb q0 lt (by rw [Go.IntWalk.i64_in (3 * (cn : Int)) ⟨by omega, by omega⟩, Go.IntWalk.i64_in _ ⟨by omega, by omega⟩]; omega) _ (by kernel_rfl) _ _ _ _ _ _ _ _ _ _ _ _ _ _ _ _ _ _ _ _ _ _ _ _ _ _ _ _ _ _ _ _ _ _ _ _ _ _ _ _ _ _ _ _ _ _ _ _ _ _ _ _ _ _ _ _ _ _ _ _ _ _ _ _ _ _ _ _ _ _ _ _ _ _ _ _ _ _ _ _ _ _ _ _ _ _ _ _ _ _ _ _ _ _ _ _ _ _ _ _ _ _ _ _ _ _ _ _ _ _ _ _ _ _ _ _ _ _ _ _ _ _ _ _ _ _ _ _ _ _ _ _ _ _ _ _ _ _ _ _ _ _ _ _ _ _ _ _ _ _ _ _ _ _ _ _ _ _ _ _ _ _ _ _ _ _ _ _ _ _ _ _ _ _ _ _ _ _ _ _ _ _ _ _ _ _ _ _ _ _ _ _ _ _ _ _ _ _ _ _ _ _ _ _ _ _ _ _ _ _ _ _ _ _ _ _ _ _ _ _ _ _ _ _ _ _ _ _ _ _ _ _ _ _ _ _ _ _ _ _ _ _ _ _ _ _ _ _ _ _ _ _ _ _ _ _ _ _ _ (fun v t1 t2 d u h => hQ v t1 t2 d u h) ?_
      intro _ _ _ _ _ _ _ _ _
      go_upto_region 34 with fail
      refine breg34 u2.drew (N := N) (at0 := at0) (at1 := at0 + 1) (at2 := at0 + 2) (fx := fx) (p1 := wp.getD (at0 + 1) 0) r0 r1 r2 r3 q1 lg2 lg1 lt (by omega) (by omega) (by omega) (by omega) (by omega) (by omega) (by rw [Go.IntWalk.i64_in _ ⟨by omega, by omega⟩]; rfl) (by rw [Go.IntWalk.i64_in _ ⟨by omega, by omega⟩]; rfl) es hp1 hF.2.2.symm _ (by kernel_rfl) _ _ _ _ _ _ _ _ _ _ _ _ _ _ _ _ _ _ _ _ _ _ _ _ _ _ _ _ _ _ _ _ _ _ _ _ _ _ _ _ _ _ _ _ _ _ _ _ _ _ _ _ _ _ _ _ _ _ _ _ _ _ _ _ _ _ _ _ _ _ _ _ _ _ _ _ _ _ _ _ _ _ _ _ _ _ _ _ _ _ _ _ _ _ _ _ _ _ _ _ _ _ _ _ _ _ _ _ _ _ _ _ _ _ _ _ _ _ _ _ _ _ _ _ _ _ _ _ _ _ _ _ _ _ _ _ _ _ _ _ _ _ _ _ _ _ _ _ _ _ _ _ _ _ _ _ _ _ _ _ _ _ _ _ _ _ _ _ _ _ _ _ _ _ _ _ _ _ _ _ _ _ _ _ _ _ _ _ _ _ _ _ _ _ _ _ _ _ _ _ _ _ _ _ _ _ _ _ _ _ _ _ _ _ _ _ _ _ _ _ _ _ _ _ _ _ _ _ _ _ _ _ _ _ _ _ _ _ _ _ _ _ _ _ _ _ _ _ _ _ _ _ _ _ _ _ (fun v t1 t2 d u h => hQ v t1 t2 d u h) ?_
      intro _ _ _ _ _ _ _ _ _ _ _ _ _ _ _ _ _ _ _ _ _ _ _ _ _ _ _ _ _ _ _
      clear r0 r1 r2 r3 q0 q1 hF HF hp1 z4 zb
      go_wp2_with fail
      exact ⟨⟨k + 1, rfl, by omega, HNX.out _ (((Same.drew _).trans (Same.drew _)).below _)⟩, by simp [intOf]; omega⟩
    · obtain rfl : k = L := by omega
      have htti : ¬ (k : Int) < (k : Int) := by omega
      go_wp2_with fail
      exact HK.out _ _ _ _ _ _ _ _ _ _ _ _ _ _ _ _ _ _ _ _ _ _ _ _ _ _ _ _ _ _ _ _ _ _ _ _ _ _ _ _ _ _ _ _ _ _ _ _ _ _ _ _ _ _ _ _ _ _ _ _ _ _ _ _ _ _ _ _ _ _ _ _ hBw hrow hwl (fun j hj => by rw [hmem j hj, List.take_of_length_le (by rw [cells_len, HLL.out]; exact Nat.le_refl _)])
end
end Go.Proofs.YteinilmecnlanaaGreatDoor.Ww
namespace Go.Proofs.YteinilmecnlanaaGreatDoor.Ww
open Go.ChangeShapes Go.WideShapes Go.ChangeAt Go.RowKit Num Rr
set_option linter.unusedVariables false
def endsBl (n : Nat) : Code → Bool
  | .block m _ => m == n
  | .seq _ y => endsBl n y
  | .scope c => endsBl n c
  | _ => false
def findAft (n : Nat) : Code → Option Code
  | .seq x y => if endsBl n x then some y else match findAft n x with
    | some c => some c
    | none => findAft n y
  | .block _ c => findAft n c
  | .scope c => findAft n c
  | .loop c => findAft n c
  | .cond _ x y => match findAft n x with
    | some c => some c
    | none => findAft n y
  | _ => none
def findSq (n : Nat) : Code → Option Code
  | .seq x y => match x with
    | .region i ops d => if i = n then some (.seq (.region i ops d) y) else findSq n y
    | _ => match findSq n x with
      | some c => some c
      | none => findSq n y
  | .block _ c => findSq n c
  | .scope c => findSq n c
  | .loop c => findSq n c
  | .cond _ x y => match findSq n x with
    | some c => some c
    | none => findSq n y
  | _ => none
section
attribute [local go_sem] deed_end end_how deed_num
set_option maxRecDepth 100000 in
set_option maxHeartbeats 4000000 in
theorem bfin (w : World) {rb bd g1 g2 gb db N an pn : Nat} {wp ws2 : List Int} {wl : List Bool} {s0 : Int} (han : an ≤ 256) (hpn : pn + 3 * an ≤ N) (hN9 : N ≤ 1000) (hN3 : 3 ≤ N) (l1 : wp.length = N) (l2 : ws2.length = N) (HRC : Hid (∀ u, Below w.heap.size w u → (u.cell? ⟨rb, 0, none⟩ = some (.int .i64 (an : Int)) ∧ rb < u.heap.size) ∧ (u.cell? ⟨bd, 4, none⟩ = some (.int .i64 (pn : Int)) ∧ u.cell? ⟨bd, 2, none⟩ = some (.int .i64 2) ∧ bd < u.heap.size) ∧ Md.RowAt u g1 wp ∧ Md.RowAt u g2 ws2 ∧ (∀ j, j < an → u.cell? ⟨gb, j, none⟩ = some (.bool (wl.getD j false))) ∧ gb < u.heap.size ∧ u.cell? ⟨db, 6, none⟩ = some (.int .i64 (s0 + 1)) ∧ db < u.heap.size)) (HE : Hid (∀ k, k < 3 * an → wl.getD (k / 3) false = true ∨ ws2.getD (pn + k) 0 = wp.getD (pn + k) 0)) (h2 : ws2.getD 2 0 = s0 + 1) (es : IntKind.u64.wrap (s0 + 1) = s0 + 1) (hs0 : 0 ≤ s0) (hs1 : s0 < 1099511627776) (D : Code) (hD : D = (Tryz.f7.body.bind (findAft 4)).getD .skip) (c0 c2 c4 c6 c7 c8 c10 c11 c12 c17 c18 c19 c20 c21 c22 c23 c24 c25 c26 c27 c28 c29 c30 c31 c32 c33 c34 c35 c36 c37 c38 c39 c40 c41 c42 c43 c44 c45 c46 c47 c48 c49 c50 c51 c52 c53 c54 c55 c56 c57 c58 c59 c60 c61 c62 c63 c64 c65 c66 c67 c68 c69 c70 c71 c72 c73 c74 c75 c76 c77 c78 c79 c80 c81 c82 c83 c84 c85 c86 c87 c88 c89 c90 c91 c92 c93 c94 c95 c96 c97 c98 c99 c100 c101 c102 c103 c104 c105 c106 c107 c108 c109 c110 c111 c112 c113 c114 c115 c116 c117 c118 c119 c120 c121 c122 c123 c124 c125 c126 c127 c128 c129 c130 c131 c132 c133 c134 c135 c136 c137 c138 c139 c140 c141 c142 c143 c144 c145 c146 c147 c148 c149 c150 c151 c152 c153 c154 c155 c156 c157 c158 c159 c160 c161 c162 c163 c164 c165 c166 c167 c168 c169 c170 c171 c172 c173 c174 c175 c176 c177 c178 c179 c180 c181 c182 c183 c184 c185 c186 c187 c188 c189 c190 c191 c192 c193 c194 c195 c196 c197 c198 c199 c200 c201 c202 c203 c204 c205 c206 c207 c208 c209 c210 c211 c212 c213 c214 c215 c216 c217 c218 c219 c220 c221 c222 c223 c224 c225 c226 c227 c228 c229 c230 c231 c232 c233 c234 c235 c236 c237 c238 c239 c240 c241 c242 c243 c244 c245 c246 c247 c248 c249 c250 c251 c252 c253 c254 c255 c256 c257 c258 c259 : Value) (Q : Exit → Act → World → Prop) (hQ : ∀ v t1 t2 d u, Q (.panic v) ⟨t1, d⟩ u → Q (.panic v) ⟨t2, d⟩ u) (hR : ∀ (a : Act) (wz : World), a.tmps.getD 2 undef = .bool true → a.defers = [] → Below w.heap.size w wz → Q .ret a wz) : D.wp Tryz.prog Q ⟨#[c0, .pointer (some ⟨rb, 0, none⟩), c2, .bool true, c4, .pointer (some ⟨bd, 0, none⟩), c6, c7, c8, .slice (some ⟨g1, 0, none⟩) N N, c10, c11, c12, .pointer (some ⟨db, 0, none⟩), .slice (some ⟨g2, 0, none⟩) N N, .int .u64 s0, .slice (some ⟨gb, 0, none⟩) an an, c17, c18, c19, c20, c21, c22, c23, c24, c25, c26, c27, c28, c29, c30, c31, c32, c33, c34, c35, c36, c37, c38, c39, c40, c41, c42, c43, c44, c45, c46, c47, c48, c49, c50, c51, c52, c53, c54, c55, c56, c57, c58, c59, c60, c61, c62, c63, c64, c65, c66, c67, c68, c69, c70, c71, c72, c73, c74, c75, c76, c77, c78, c79, c80, c81, c82, c83, c84, c85, c86, c87, c88, c89, c90, c91, c92, c93, c94, c95, c96, c97, c98, c99, c100, c101, c102, c103, c104, c105, c106, c107, c108, c109, c110, c111, c112, c113, c114, c115, c116, c117, c118, c119, c120, c121, c122, c123, c124, c125, c126, c127, c128, c129, c130, c131, c132, c133, c134, c135, c136, c137, c138, c139, c140, c141, c142, c143, c144, c145, c146, c147, c148, c149, c150, c151, c152, c153, c154, c155, c156, c157, c158, c159, c160, c161, c162, c163, c164, c165, c166, c167, c168, c169, c170, c171, c172, c173, c174, c175, c176, c177, c178, c179, c180, c181, c182, c183, c184, c185, c186, c187, c188, c189, c190, c191, c192, c193, c194, c195, c196, c197, c198, c199, c200, c201, c202, c203, c204, c205, c206, c207, c208, c209, c210, c211, c212, c213, c214, c215, c216, c217, c218, c219, c220, c221, c222, c223, c224, c225, c226, c227, c228, c229, c230, c231, c232, c233, c234, c235, c236, c237, c238, c239, c240, c241, c242, c243, c244, c245, c246, c247, c248, c249, c250, c251, c252, c253, c254, c255, c256, c257, c258, c259], []⟩ w := by
  have HR : Hid (∀ (a : Act) (wz : World), a.tmps.getD 2 undef = .bool true → a.defers = [] → Below w.heap.size w wz → Q .ret a wz) := hR
  clear hR
  rw [hD]
  clear hD
  conv => arg 2; whnf
  go_upto_block 6 with fail
  have HRB2 : Hid (∀ u, Below w.heap.size w u → u.cell? ⟨rb, 0, none⟩ = some (.int .i64 (an : Int)) ∧ rb < u.heap.size ∧ u.cell? ⟨bd, 4, none⟩ = some (.int .i64 (pn : Int)) ∧ bd < u.heap.size ∧ Md.RowAt u g1 wp ∧ Md.RowAt u g2 ws2 ∧ (∀ j, j < an → u.cell? ⟨gb, j, none⟩ = some (.bool (wl.getD j false))) ∧ gb < u.heap.size) := fun u q => by
    obtain ⟨⟨a1, a2⟩, ⟨a3, _, a4⟩, a5, a6, a7, a8, _⟩ := HRC.out u q
    exact ⟨a1, a2, a3, a4, a5, a6, a7, a8⟩
  refine bcells _ (rb := rb) (bd := bd) (g1 := g1) (g2 := g2) (gb := gb) (N := N) (an := an) (pn := pn) (wp := wp) (ws2 := ws2) (wl := wl) han hpn hN9 l1 l2 HRB2 HE _ (by kernel_rfl) _ _ _ _ _ _ _ _ _ _ _ _ _ _ _ _ _ _ _ _ _ _ _ _ _ _ _ _ _ _ _ _ _ _ _ _ _ _ _ _ _ _ _ _ _ _ _ _ _ _ _ _ _ _ _ _ _ _ _ _ _ _ _ _ _ _ _ _ _ _ _ _ _ _ _ _ _ _ _ _ _ _ _ _ _ _ _ _ _ _ _ _ _ _ _ _ _ _ _ _ _ _ _ _ _ _ _ _ _ _ _ _ _ _ _ _ _ _ _ _ _ _ _ _ _ _ _ _ _ _ _ _ _ _ _ _ _ _ _ _ _ _ _ _ _ _ _ _ _ _ _ _ _ _ _ _ _ _ _ _ _ _ _ _ _ _ _ _ _ _ _ _ _ _ _ _ _ _ _ _ _ _ _ _ _ _ _ _ _ _ _ _ _ _ _ _ _ _ _ _ _ _ _ _ _ _ _ _ _ _ _ _ _ _ _ _ _ _ _ _ _ _ _ _ _ _ _ _ _ _ _ _ _ _ _ _ _ _ _ _ _ _ _ _ _ _ _ _ _ _ _ _ _ _ _ (fun v t1 t2 d u h => hQ v t1 t2 d u h) ?_
  intro _ _ _ _ _ _ _ _ _ _ _ _ _ _ _ _ _ _ _ _ _ _ _ _ _ _ _ _ _ _ _ _ _ _ _ _ _ _ wy hby
  have HBY := Lib.hid hby
  obtain ⟨_, ⟨_, z2, zb⟩, _, r0, _, _, d6, dl⟩ := HRC.out _ hby
  have r2 := row_word r0 l2 (j := 2) (by omega)
  rw [h2] at r2
  have lg2 := r0.lt
  have hN2 : (2 : Int) < (N : Int) := by omega
  clear hby HRB2 HE HRC r0 h2 l1 l2
  go_wp2_with fail
  exact HR.out _ _ rfl rfl HBY.out
set_option maxRecDepth 100000 in
set_option maxHeartbeats 4000000 in
theorem brest (w : World) {W1 : World} {rb bx : Nat} {z : Wz} {mb mg bd : Nat} {zd : Dz} {bw gw : Nat} {x0 : Wx} {wsv wp : List Int} {N nb an g1 : Nat} {y : Wx} {ws2 : List Int} {o2 : Bool} {n2 : Int} {db L cw : Nat} {pw : Option Addr} {buf : Wr} {s0 : Int} (H9 : Hid (BothR W1 w bx z mb mg y ws2 o2 n2 bd zd bw gw x0 wsv 0 [g1])) (R9 : Hid (Md.RowAt w g1 wp ∧ TRow w pw cw buf)) (HDC : Hid (∀ u, Below w.heap.size w u → u.cell? ⟨db, 6, none⟩ = some (.int .i64 (s0 + 1)) ∧ u.cell? ⟨db, 8, none⟩ = some (.slice pw L cw) ∧ db < u.heap.size)) (HRC : Hid (∀ u, Below W1.heap.size W1 u → u.cell? ⟨rb, 0, none⟩ = some (.int .i64 (an : Int)) ∧ rb < u.heap.size)) (hxb : x0.b = (nb : Int)) (han : an ≤ 256) (hN : 3 + nb + 3 * an = N) (hN9 : N ≤ 1000) (hN3 : 3 ≤ N) (l1 : wp.length = N) (l2 : ws2.length = N) (hok : okW wp) (hv : 0 ≤ s0 ∧ s0 < 1099511627776) (es : IntKind.u64.wrap (s0 + 1) = s0 + 1) (HES : Hid (ws2.getD 2 0 = s0 + 1 ∧ wp.getD 2 0 = s0)) (HCE : Hid ((∀ k, k < buf.length → 0 ≤ (buf.getD k (0, 0)).1 ∧ (buf.getD k (0, 0)).1 < (an : Int)) ∧ (cellsOfL buf).Nodup ∧ buf.length ≤ 1000)) (hL : buf.length = L) (HCB : Hid (∀ k, k < buf.length → ws2.getD (3 + nb + 3 * (buf.getD k (0, 0)).1.toNat) 0 = s0 + 1 ∧ ws2.getD (3 + nb + 3 * (buf.getD k (0, 0)).1.toNat + 1) 0 = (((buf.getD k (0, 0)).2 : Nat) : Int) ∧ ws2.getD (3 + nb + 3 * (buf.getD k (0, 0)).1.toNat + 2) 0 = ((fixB (wp.getD (3 + nb + 3 * (buf.getD k (0, 0)).1.toNat + 1) 0).toNat : Nat) : Int))) (HOB : Hid (∀ k, k < 3 * an → ¬ ((k / 3 : Nat) : Int) ∈ cellsOfL buf → ws2.getD (3 + nb + k) 0 = wp.getD (3 + nb + k) 0)) (D : Code) (hD : D = (Tryz.f7.body.bind (findSq 24)).getD .skip) (c0 c2 c4 c7 c8 c10 c11 c12 c14 c15 c16 c17 c18 c19 c20 c21 c22 c23 c24 c25 c26 c27 c28 c29 c30 c31 c32 c33 c34 c35 c36 c37 c38 c39 c40 c41 c42 c43 c44 c45 c46 c47 c48 c49 c50 c51 c52 c53 c54 c55 c56 c57 c58 c59 c60 c61 c62 c63 c64 c65 c66 c67 c68 c69 c70 c71 c72 c73 c74 c75 c76 c77 c78 c79 c80 c81 c82 c83 c84 c85 c86 c87 c88 c89 c90 c91 c92 c93 c94 c95 c96 c97 c98 c99 c100 c101 c102 c103 c104 c105 c106 c107 c108 c109 c110 c111 c112 c113 c114 c115 c116 c117 c118 c119 c120 c121 c122 c123 c124 c125 c126 c127 c128 c129 c130 c131 c132 c133 c134 c135 c136 c137 c138 c139 c140 c141 c142 c143 c144 c145 c146 c147 c148 c149 c150 c151 c152 c153 c154 c155 c156 c157 c158 c159 c160 c161 c162 c163 c164 c165 c166 c167 c168 c169 c170 c171 c172 c173 c174 c175 c176 c177 c178 c179 c180 c181 c182 c183 c184 c185 c186 c187 c188 c189 c190 c191 c192 c193 c194 c195 c196 c197 c198 c199 c200 c201 c202 c203 c204 c205 c206 c207 c208 c209 c210 c211 c212 c213 c214 c215 c216 c217 c218 c219 c220 c221 c222 c223 c224 c225 c226 c227 c228 c229 c230 c231 c232 c233 c234 c235 c236 c237 c238 c239 c240 c241 c242 c243 c244 c245 c246 c247 c248 c249 c250 c251 c252 c253 c254 c255 c256 c257 c258 c259 : Value) (Q : Exit → Act → World → Prop) (hQ : ∀ v t1 t2 d u, Q (.panic v) ⟨t1, d⟩ u → Q (.panic v) ⟨t2, d⟩ u) (hR : ∀ (a : Act) (wz : World), a.tmps.getD 2 undef = .bool true → a.defers = [] → Below W1.heap.size W1 wz → Q .ret a wz) : D.wp Tryz.prog Q ⟨#[c0, .pointer (some ⟨rb, 0, none⟩), c2, .bool true, c4, .pointer (some ⟨bd, 0, none⟩), .pointer (some ⟨mb, 0, none⟩), c7, c8, .slice (some ⟨g1, 0, none⟩) N N, c10, c11, c12, .pointer (some ⟨db, 0, none⟩), c14, c15, c16, c17, c18, c19, c20, c21, c22, c23, c24, c25, c26, c27, c28, c29, c30, c31, c32, c33, c34, c35, c36, c37, c38, c39, c40, c41, c42, c43, c44, c45, c46, c47, c48, c49, c50, c51, c52, c53, c54, c55, c56, c57, c58, c59, c60, c61, c62, c63, c64, c65, c66, c67, c68, c69, c70, c71, c72, c73, c74, c75, c76, c77, c78, c79, c80, c81, c82, c83, c84, c85, c86, c87, c88, c89, c90, c91, c92, c93, c94, c95, c96, c97, c98, c99, c100, c101, c102, c103, c104, c105, c106, c107, c108, c109, c110, c111, c112, c113, c114, c115, c116, c117, c118, c119, c120, c121, c122, c123, c124, c125, c126, c127, c128, c129, c130, c131, c132, c133, c134, c135, c136, c137, c138, c139, c140, c141, c142, c143, c144, c145, c146, c147, c148, c149, c150, c151, c152, c153, c154, c155, c156, c157, c158, c159, c160, c161, c162, c163, c164, c165, c166, c167, c168, c169, c170, c171, c172, c173, c174, c175, c176, c177, c178, c179, c180, c181, c182, c183, c184, c185, c186, c187, c188, c189, c190, c191, c192, c193, c194, c195, c196, c197, c198, c199, c200, c201, c202, c203, c204, c205, c206, c207, c208, c209, c210, c211, c212, c213, c214, c215, c216, c217, c218, c219, c220, c221, c222, c223, c224, c225, c226, c227, c228, c229, c230, c231, c232, c233, c234, c235, c236, c237, c238, c239, c240, c241, c242, c243, c244, c245, c246, c247, c248, c249, c250, c251, c252, c253, c254, c255, c256, c257, c258, c259], []⟩ w := by
  have HR : Hid (∀ (a : Act) (wz : World), a.tmps.getD 2 undef = .bool true → a.defers = [] → Below W1.heap.size W1 wz → Q .ret a wz) := hR
  clear hR
  rw [hD]
  clear hD
  conv => arg 2; whnf
  have HAA : Hid (Calls Tryz.prog 27 #[.pointer (some ⟨mb, 0, none⟩)] w fun r w' => ∃ g, r = .returned (.slice (some ⟨g, 0, none⟩) N N) ∧ Hid (Md.RowAt w' g ws2 ∧ w.heap.size ≤ g ∧ Below w.heap.size w w')) := H9.out.b.all l2
  go_upto_region 25 with (go_at_call 27; refine HAA.out.mono ?_; rintro r ua ⟨g2, rfl, q⟩; have HA := Lib.hid (H9.out.on q.out.2.2); have RA : Hid (Md.RowAt ua g1 wp ∧ TRow ua pw cw buf ∧ Md.RowAt ua g2 ws2) := ⟨R9.out.1.on q.out.2.2, R9.out.2.on q.out.2.2, q.out.1⟩; have HBA := Lib.hid q.out.2.2; clear q HAA)
  obtain ⟨d6, d8, dl⟩ := HDC.out _ HBA.out
  clear d6
  obtain ⟨z0, z1, z2, z3, z4, z5, zb⟩ := HA.out.b.plan
  clear z0 z1 z3 z4 z5
  have r2 := row_word RA.out.1 l1 (j := 2) (by omega)
  rw [HES.out.2] at r2
  have lg1 := RA.out.1.lt
  have hN2 : (2 : Int) < (N : Int) := by omega
  obtain ⟨ra, rbl⟩ := HRC.out _ HA.out.b.below
  have hmk := bMake an (by omega)
  go_upto_block 4 with fail
  have HKa := below_alloc ua (.cells (bls (List.replicate an false)).toArray 4)
  have HBU : Hid (Below ua.heap.size ua (ua.alloc (.cells (bls (List.replicate an false)).toArray 4)) ∧ ua.heap.size ≤ ua.heap.size ∧ RowAt 4 (ua.alloc (.cells (bls (List.replicate an false)).toArray 4)) (some ⟨ua.heap.size, 0, none⟩) an (bls (List.replicate an false))) := by
    refine ⟨HKa, Nat.le_refl _, ⟨(Nat.mul_one _).symm, .inr ⟨ua.heap.size, an, (bls (List.replicate an false)).toArray, by rw [bls_len, List.length_replicate], Nat.zero_le _, heap_alloc_new _ _, by rw [bls_len, List.length_replicate]; exact Nat.le_refl _, by unfold maxLen; omega, by simp [bls], by simp [bls]⟩⟩⟩
  have HRB : Hid (∀ u, Below ua.heap.size ua u → u.cell? ⟨rb, 0, none⟩ = some (.int .i64 (an : Int)) ∧ rb < u.heap.size ∧ u.cell? ⟨bd, 4, none⟩ = some (.int .i64 ((3 + nb : Nat) : Int)) ∧ bd < u.heap.size ∧ Md.RowAt u g1 wp ∧ Md.RowAt u g2 ws2 ∧ TRow u pw cw buf) := fun u q => by
    have B := HA.out.on q
    obtain ⟨_, _, _, _, y4, _, yb⟩ := B.b.plan
    have h := HRC.out _ B.b.below
    have y4' : u.cell? ⟨bd, 4, none⟩ = some (.int .i64 ((3 + nb : Nat) : Int)) := by rw [y4, hxb]; rfl
    exact ⟨h.1, h.2, y4', yb, RA.out.1.on q, RA.out.2.2.on q, RA.out.2.1.on q⟩
  refine bwrote _ (U := ua) (rb := rb) (bd := bd) (g1 := g1) (g2 := g2) (gb := ua.heap.size) (N := N) (an := an) (pn := 3 + nb) (wp := wp) (ws2 := ws2) (pw := pw) (cw := cw) (buf := buf) (st := s0) (s1 := s0 + 1) han (by omega) hN9 l1 l2 HRB HBU HCE.out.1 HCE.out.2.1 (L := L) hL (by rw [← hL]; exact HCE.out.2.2) es hok HCB _ (by kernel_rfl) _ _ _ _ _ _ _ _ _ _ _ _ _ _ _ _ _ _ _ _ _ _ _ _ _ _ _ _ _ _ _ _ _ _ _ _ _ _ _ _ _ _ _ _ _ _ _ _ _ _ _ _ _ _ _ _ _ _ _ _ _ _ _ _ _ _ _ _ _ _ _ _ _ _ _ _ _ _ _ _ _ _ _ _ _ _ _ _ _ _ _ _ _ _ _ _ _ _ _ _ _ _ _ _ _ _ _ _ _ _ _ _ _ _ _ _ _ _ _ _ _ _ _ _ _ _ _ _ _ _ _ _ _ _ _ _ _ _ _ _ _ _ _ _ _ _ _ _ _ _ _ _ _ _ _ _ _ _ _ _ _ _ _ _ _ _ _ _ _ _ _ _ _ _ _ _ _ _ _ _ _ _ _ _ _ _ _ _ _ _ _ _ _ _ _ _ _ _ _ _ _ _ _ _ _ _ _ _ _ _ _ _ _ _ _ _ _ _ _ _ _ _ _ _ _ _ _ _ _ _ _ _ _ _ _ _ _ _ _ _ _ _ _ _ _ _ _ _ _ _ _ _ (fun v t1 t2 d u h => hQ v t1 t2 d u h) ?_
  intro _ _ _ _ _ _ _ _ _ _ _ _ _ _ _ _ _ _ _ _ _ _ _ _ _ _ _ _ _ _ _ _ _ _ _ _ _ _ _ _ _ _ _ _ _ _ _ _ _ _ _ _ _ _ _ _ _ _ _ _ _ _ _ _ _ _ _ _ _ _ wl wz hbz hrow hwl hmem
  have HBZ := Lib.hid hbz
  have HROW := Lib.hid hrow
  have HMM := Lib.hid (And.intro hwl hmem)
  clear hbz hrow hwl hmem HBU HCB d8 dl r2 lg1 ra rbl z2 zb HKa hmk
  go_step
  go_step
  have HRF : Hid (∀ u, Below wz.heap.size wz u → (u.cell? ⟨rb, 0, none⟩ = some (.int .i64 (an : Int)) ∧ rb < u.heap.size) ∧ (u.cell? ⟨bd, 4, none⟩ = some (.int .i64 ((3 + nb : Nat) : Int)) ∧ u.cell? ⟨bd, 2, none⟩ = some (.int .i64 2) ∧ bd < u.heap.size) ∧ Md.RowAt u g1 wp ∧ Md.RowAt u g2 ws2 ∧ (∀ j, j < an → u.cell? ⟨ua.heap.size, j, none⟩ = some (.bool (wl.getD j false))) ∧ ua.heap.size < u.heap.size ∧ u.cell? ⟨db, 6, none⟩ = some (.int .i64 (s0 + 1)) ∧ db < u.heap.size) := fun u q => by
    have q' := HBZ.out.trans (q.mono HBZ.out.size)
    obtain ⟨a1, a2, a3, a4, a5, a6, _⟩ := HRB.out _ q'
    have hr := HROW.out.on q
    obtain ⟨_, _, z2, _, _, _, _⟩ := (HA.out.on q').b.plan
    obtain ⟨e6, _, el⟩ := HDC.out _ (HBA.out.trans (q'.mono HBA.out.size))
    exact ⟨⟨a1, a2⟩, ⟨a3, z2, a4⟩, a5, a6, fun j hj => (row_get hr (j := j) (v := .bool (wl.getD j false)) (bls_at (by rw [HMM.out.1]; exact hj) rfl)).1, hr.blw _ (by simp [fpR]), e6, el⟩
  have HEE : Hid (∀ k, k < 3 * an → wl.getD (k / 3) false = true ∨ ws2.getD (3 + nb + k) 0 = wp.getD (3 + nb + k) 0) := fun k hk => by
    by_cases q : ((k / 3 : Nat) : Int) ∈ cellsOfL buf
    · exact .inl (by rw [HMM.out.2 (k / 3) (by omega)]; exact decide_eq_true q)
    · exact .inr (HOB.out k hk q)
  refine bfin _ (rb := rb) (bd := bd) (g1 := g1) (g2 := g2) (gb := ua.heap.size) (db := db) (N := N) (an := an) (pn := 3 + nb) (wp := wp) (ws2 := ws2) (wl := wl) (s0 := s0) han (by omega) hN9 hN3 l1 l2 HRF HEE HES.out.1 es hv.1 hv.2 _ (by kernel_rfl) _ _ _ _ _ _ _ _ _ _ _ _ _ _ _ _ _ _ _ _ _ _ _ _ _ _ _ _ _ _ _ _ _ _ _ _ _ _ _ _ _ _ _ _ _ _ _ _ _ _ _ _ _ _ _ _ _ _ _ _ _ _ _ _ _ _ _ _ _ _ _ _ _ _ _ _ _ _ _ _ _ _ _ _ _ _ _ _ _ _ _ _ _ _ _ _ _ _ _ _ _ _ _ _ _ _ _ _ _ _ _ _ _ _ _ _ _ _ _ _ _ _ _ _ _ _ _ _ _ _ _ _ _ _ _ _ _ _ _ _ _ _ _ _ _ _ _ _ _ _ _ _ _ _ _ _ _ _ _ _ _ _ _ _ _ _ _ _ _ _ _ _ _ _ _ _ _ _ _ _ _ _ _ _ _ _ _ _ _ _ _ _ _ _ _ _ _ _ _ _ _ _ _ _ _ _ _ _ _ _ _ _ _ _ _ _ _ _ _ _ _ _ _ _ _ _ _ _ _ _ _ _ _ _ _ _ _ _ _ _ _ _ _ _ _ _ _ _ _ _ _ _ _ (fun v t1 t2 d u h => hQ v t1 t2 d u h) ?_
  intro a' wy h2 hd hy
  have hz := (HA.out.on (HBZ.out.trans (hy.mono HBZ.out.size))).b.below
  exact HR.out a' wy h2 hd hz
set_option maxRecDepth 100000 in
set_option maxHeartbeats 4000000 in
theorem bnot (w : World) {bx mb : Nat} {P : World → Prop} (HST : Hid (Calls Tryz.prog 14 #[.pointer (some ⟨bx, 0, none⟩), .pointer (some ⟨mb, 0, none⟩)] w fun r w' => r = .returned (.tuple #[.bool false, .int .i64 0]) ∧ P w')) (D : Code) (hD : D = (Tryz.f7.body.bind (findBl 3)).getD .skip) (c0 c1 c2 c3 c5 c7 c8 c9 c10 c11 c12 c13 c14 c15 c16 c17 c18 c19 c20 c21 c22 c23 c24 c25 c26 c27 c28 c29 c30 c31 c32 c33 c34 c35 c36 c37 c38 c39 c40 c41 c42 c43 c44 c45 c46 c47 c48 c49 c50 c51 c52 c53 c54 c55 c56 c57 c58 c59 c60 c61 c62 c63 c64 c65 c66 c67 c68 c69 c70 c71 c72 c73 c74 c75 c76 c77 c78 c79 c80 c81 c82 c83 c84 c85 c86 c87 c88 c89 c90 c91 c92 c93 c94 c95 c96 c97 c98 c99 c100 c101 c102 c103 c104 c105 c106 c107 c108 c109 c110 c111 c112 c113 c114 c115 c116 c117 c118 c119 c120 c121 c122 c123 c124 c125 c126 c127 c128 c129 c130 c131 c132 c133 c134 c135 c136 c137 c138 c139 c140 c141 c142 c143 c144 c145 c146 c147 c148 c149 c150 c151 c152 c153 c154 c155 c156 c157 c158 c159 c160 c161 c162 c163 c164 c165 c166 c167 c168 c169 c170 c171 c172 c173 c174 c175 c176 c177 c178 c179 c180 c181 c182 c183 c184 c185 c186 c187 c188 c189 c190 c191 c192 c193 c194 c195 c196 c197 c198 c199 c200 c201 c202 c203 c204 c205 c206 c207 c208 c209 c210 c211 c212 c213 c214 c215 c216 c217 c218 c219 c220 c221 c222 c223 c224 c225 c226 c227 c228 c229 c230 c231 c232 c233 c234 c235 c236 c237 c238 c239 c240 c241 c242 c243 c244 c245 c246 c247 c248 c249 c250 c251 c252 c253 c254 c255 c256 c257 c258 c259 : Value) (Q : Exit → Act → World → Prop) (hQ : ∀ v t1 t2 d u, Q (.panic v) ⟨t1, d⟩ u → Q (.panic v) ⟨t2, d⟩ u) (hK : ∀ (u94 u95 u96 u97 u98 u99 u100 u101 u102 u103 : Value) (wz : World), P wz → Q .normal ⟨#[c0, c1, c2, c3, .pointer (some ⟨bx, 0, none⟩), c5, .pointer (some ⟨mb, 0, none⟩), c7, c8, c9, c10, .bool false, .int .i64 0, c13, c14, c15, c16, c17, c18, c19, c20, c21, c22, c23, c24, c25, c26, c27, c28, c29, c30, c31, c32, c33, c34, c35, c36, c37, c38, c39, c40, c41, c42, c43, c44, c45, c46, c47, c48, c49, c50, c51, c52, c53, c54, c55, c56, c57, c58, c59, c60, c61, c62, c63, c64, c65, c66, c67, c68, c69, c70, c71, c72, c73, c74, c75, c76, c77, c78, c79, c80, c81, c82, c83, c84, c85, c86, c87, c88, c89, c90, c91, c92, c93, u94, u95, u96, u97, u98, u99, u100, u101, u102, u103, c104, c105, c106, c107, c108, c109, c110, c111, c112, c113, c114, c115, c116, c117, c118, c119, c120, c121, c122, c123, c124, c125, c126, c127, c128, c129, c130, c131, c132, c133, c134, c135, c136, c137, c138, c139, c140, c141, c142, c143, c144, c145, c146, c147, c148, c149, c150, c151, c152, c153, c154, c155, c156, c157, c158, c159, c160, c161, c162, c163, c164, c165, c166, c167, c168, c169, c170, c171, c172, c173, c174, c175, c176, c177, c178, c179, c180, c181, c182, c183, c184, c185, c186, c187, c188, c189, c190, c191, c192, c193, c194, c195, c196, c197, c198, c199, c200, c201, c202, c203, c204, c205, c206, c207, c208, c209, c210, c211, c212, c213, c214, c215, c216, c217, c218, c219, c220, c221, c222, c223, c224, c225, c226, c227, c228, c229, c230, c231, c232, c233, c234, c235, c236, c237, c238, c239, c240, c241, c242, c243, c244, c245, c246, c247, c248, c249, c250, c251, c252, c253, c254, c255, c256, c257, c258, c259], []⟩ wz) : D.wp Tryz.prog Q ⟨#[c0, c1, c2, c3, .pointer (some ⟨bx, 0, none⟩), c5, .pointer (some ⟨mb, 0, none⟩), c7, c8, c9, c10, c11, c12, c13, c14, c15, c16, c17, c18, c19, c20, c21, c22, c23, c24, c25, c26, c27, c28, c29, c30, c31, c32, c33, c34, c35, c36, c37, c38, c39, c40, c41, c42, c43, c44, c45, c46, c47, c48, c49, c50, c51, c52, c53, c54, c55, c56, c57, c58, c59, c60, c61, c62, c63, c64, c65, c66, c67, c68, c69, c70, c71, c72, c73, c74, c75, c76, c77, c78, c79, c80, c81, c82, c83, c84, c85, c86, c87, c88, c89, c90, c91, c92, c93, c94, c95, c96, c97, c98, c99, c100, c101, c102, c103, c104, c105, c106, c107, c108, c109, c110, c111, c112, c113, c114, c115, c116, c117, c118, c119, c120, c121, c122, c123, c124, c125, c126, c127, c128, c129, c130, c131, c132, c133, c134, c135, c136, c137, c138, c139, c140, c141, c142, c143, c144, c145, c146, c147, c148, c149, c150, c151, c152, c153, c154, c155, c156, c157, c158, c159, c160, c161, c162, c163, c164, c165, c166, c167, c168, c169, c170, c171, c172, c173, c174, c175, c176, c177, c178, c179, c180, c181, c182, c183, c184, c185, c186, c187, c188, c189, c190, c191, c192, c193, c194, c195, c196, c197, c198, c199, c200, c201, c202, c203, c204, c205, c206, c207, c208, c209, c210, c211, c212, c213, c214, c215, c216, c217, c218, c219, c220, c221, c222, c223, c224, c225, c226, c227, c228, c229, c230, c231, c232, c233, c234, c235, c236, c237, c238, c239, c240, c241, c242, c243, c244, c245, c246, c247, c248, c249, c250, c251, c252, c253, c254, c255, c256, c257, c258, c259], []⟩ w := by
  have HK : Hid (∀ (u94 u95 u96 u97 u98 u99 u100 u101 u102 u103 : Value) (wz : World), P wz → Q .normal ⟨#[c0, c1, c2, c3, .pointer (some ⟨bx, 0, none⟩), c5, .pointer (some ⟨mb, 0, none⟩), c7, c8, c9, c10, .bool false, .int .i64 0, c13, c14, c15, c16, c17, c18, c19, c20, c21, c22, c23, c24, c25, c26, c27, c28, c29, c30, c31, c32, c33, c34, c35, c36, c37, c38, c39, c40, c41, c42, c43, c44, c45, c46, c47, c48, c49, c50, c51, c52, c53, c54, c55, c56, c57, c58, c59, c60, c61, c62, c63, c64, c65, c66, c67, c68, c69, c70, c71, c72, c73, c74, c75, c76, c77, c78, c79, c80, c81, c82, c83, c84, c85, c86, c87, c88, c89, c90, c91, c92, c93, u94, u95, u96, u97, u98, u99, u100, u101, u102, u103, c104, c105, c106, c107, c108, c109, c110, c111, c112, c113, c114, c115, c116, c117, c118, c119, c120, c121, c122, c123, c124, c125, c126, c127, c128, c129, c130, c131, c132, c133, c134, c135, c136, c137, c138, c139, c140, c141, c142, c143, c144, c145, c146, c147, c148, c149, c150, c151, c152, c153, c154, c155, c156, c157, c158, c159, c160, c161, c162, c163, c164, c165, c166, c167, c168, c169, c170, c171, c172, c173, c174, c175, c176, c177, c178, c179, c180, c181, c182, c183, c184, c185, c186, c187, c188, c189, c190, c191, c192, c193, c194, c195, c196, c197, c198, c199, c200, c201, c202, c203, c204, c205, c206, c207, c208, c209, c210, c211, c212, c213, c214, c215, c216, c217, c218, c219, c220, c221, c222, c223, c224, c225, c226, c227, c228, c229, c230, c231, c232, c233, c234, c235, c236, c237, c238, c239, c240, c241, c242, c243, c244, c245, c246, c247, c248, c249, c250, c251, c252, c253, c254, c255, c256, c257, c258, c259], []⟩ wz) := hK
  clear hK
  rw [hD]
  clear hD
  conv => arg 2; whnf
  go_wp2_with (go_at_call 14; refine HST.out.mono ?_; rintro r u7 ⟨rfl, q⟩; have H7 := Lib.hid q; clear q HST)
  exact HK.out _ _ _ _ _ _ _ _ _ _ _ H7.out
set_option maxRecDepth 100000 in
set_option maxHeartbeats 4000000 in
theorem bover (w : World) {W1 : World} {rb bx : Nat} {z : Wz} {mb mg bd : Nat} {zd : Dz} {bw gw : Nat} {x0 : Wx} {wsv wp : List Int} {N nb an g1 : Nat} {y : Wx} {ws2 : List Int} {o2 : Bool} {n2 : Int} (HST : Hid (Calls Tryz.prog 14 #[.pointer (some ⟨bx, 0, none⟩), .pointer (some ⟨mb, 0, none⟩)] w fun r w' => r = .returned (.tuple #[.bool true, .int .i64 0]) ∧ BothR W1 w' bx z mb mg y ws2 o2 n2 bd zd bw gw x0 wsv 0 [g1] ∧ Md.RowAt w' g1 wp)) (HY : Hid (InY y ∧ y.part = 9)) (HRC : Hid (∀ u, Below W1.heap.size W1 u → u.cell? ⟨rb, 0, none⟩ = some (.int .i64 (an : Int)) ∧ rb < u.heap.size)) (hxb : x0.b = (nb : Int)) (han : an ≤ 256) (hN : 3 + nb + 3 * an = N) (hN9 : N ≤ 1000) (hN3 : 3 ≤ N) (l1 : wp.length = N) (l2 : ws2.length = N) (hok : okW wp) (hv : 0 ≤ wordAt wp 2 ∧ wordAt wp 2 < 1099511627776) (HNO : Hid (y.m.how ≠ 1 → y.num = 0)) (HYE : Hid (y.m.how = 1 → wordAt ws2 2 = wordAt wp 2 + 1 ∧ y.num = wordAt wp 2 + 1 ∧ (∀ k, k < y.m.buf.length → wordAt ws2 (3 + x0.b + 3 * (y.m.buf.getD k (0, 0)).1) = wordAt wp 2 + 1 ∧ wordAt ws2 (3 + x0.b + 3 * (y.m.buf.getD k (0, 0)).1 + 1) = (((y.m.buf.getD k (0, 0)).2 : Nat) : Int) ∧ wordAt ws2 (3 + x0.b + 3 * (y.m.buf.getD k (0, 0)).1 + 2) = ((fixB (wordAt wp (3 + x0.b + 3 * (y.m.buf.getD k (0, 0)).1 + 1)).toNat : Nat) : Int)) ∧ (∀ c j : Int, 0 ≤ c → 0 ≤ j → j < 3 → c ∉ cellsOfL y.m.buf → wordAt ws2 (3 + x0.b + 3 * c + j) = wordAt wp (3 + x0.b + 3 * c + j)))) (HCE : Hid ((∀ k, k < y.m.buf.length → 0 ≤ (y.m.buf.getD k (0, 0)).1 ∧ (y.m.buf.getD k (0, 0)).1 < (an : Int)) ∧ (cellsOfL y.m.buf).Nodup ∧ y.m.buf.length ≤ 1000)) (D : Code) (hD : D = (Tryz.f7.body.bind (findBl 3)).getD .skip) (c0 c2 c7 c8 c10 c11 c12 c13 c14 c15 c16 c17 c18 c19 c20 c21 c22 c23 c24 c25 c26 c27 c28 c29 c30 c31 c32 c33 c34 c35 c36 c37 c38 c39 c40 c41 c42 c43 c44 c45 c46 c47 c48 c49 c50 c51 c52 c53 c54 c55 c56 c57 c58 c59 c60 c61 c62 c63 c64 c65 c66 c67 c68 c69 c70 c71 c72 c73 c74 c75 c76 c77 c78 c79 c80 c81 c82 c83 c84 c85 c86 c87 c88 c89 c90 c91 c92 c93 c94 c95 c96 c97 c98 c99 c100 c101 c102 c103 c104 c105 c106 c107 c108 c109 c110 c111 c112 c113 c114 c115 c116 c117 c118 c119 c120 c121 c122 c123 c124 c125 c126 c127 c128 c129 c130 c131 c132 c133 c134 c135 c136 c137 c138 c139 c140 c141 c142 c143 c144 c145 c146 c147 c148 c149 c150 c151 c152 c153 c154 c155 c156 c157 c158 c159 c160 c161 c162 c163 c164 c165 c166 c167 c168 c169 c170 c171 c172 c173 c174 c175 c176 c177 c178 c179 c180 c181 c182 c183 c184 c185 c186 c187 c188 c189 c190 c191 c192 c193 c194 c195 c196 c197 c198 c199 c200 c201 c202 c203 c204 c205 c206 c207 c208 c209 c210 c211 c212 c213 c214 c215 c216 c217 c218 c219 c220 c221 c222 c223 c224 c225 c226 c227 c228 c229 c230 c231 c232 c233 c234 c235 c236 c237 c238 c239 c240 c241 c242 c243 c244 c245 c246 c247 c248 c249 c250 c251 c252 c253 c254 c255 c256 c257 c258 c259 : Value) (Q : Exit → Act → World → Prop) (hQ : ∀ v t1 t2 d u, Q (.panic v) ⟨t1, d⟩ u → Q (.panic v) ⟨t2, d⟩ u) (hR : ∀ (a : Act) (wz : World), a.tmps.getD 2 undef = .bool true → a.defers = [] → Below W1.heap.size W1 wz → Q .ret a wz) : D.wp Tryz.prog Q ⟨#[c0, .pointer (some ⟨rb, 0, none⟩), c2, .bool true, .pointer (some ⟨bx, 0, none⟩), .pointer (some ⟨bd, 0, none⟩), .pointer (some ⟨mb, 0, none⟩), c7, c8, .slice (some ⟨g1, 0, none⟩) N N, c10, c11, c12, c13, c14, c15, c16, c17, c18, c19, c20, c21, c22, c23, c24, c25, c26, c27, c28, c29, c30, c31, c32, c33, c34, c35, c36, c37, c38, c39, c40, c41, c42, c43, c44, c45, c46, c47, c48, c49, c50, c51, c52, c53, c54, c55, c56, c57, c58, c59, c60, c61, c62, c63, c64, c65, c66, c67, c68, c69, c70, c71, c72, c73, c74, c75, c76, c77, c78, c79, c80, c81, c82, c83, c84, c85, c86, c87, c88, c89, c90, c91, c92, c93, c94, c95, c96, c97, c98, c99, c100, c101, c102, c103, c104, c105, c106, c107, c108, c109, c110, c111, c112, c113, c114, c115, c116, c117, c118, c119, c120, c121, c122, c123, c124, c125, c126, c127, c128, c129, c130, c131, c132, c133, c134, c135, c136, c137, c138, c139, c140, c141, c142, c143, c144, c145, c146, c147, c148, c149, c150, c151, c152, c153, c154, c155, c156, c157, c158, c159, c160, c161, c162, c163, c164, c165, c166, c167, c168, c169, c170, c171, c172, c173, c174, c175, c176, c177, c178, c179, c180, c181, c182, c183, c184, c185, c186, c187, c188, c189, c190, c191, c192, c193, c194, c195, c196, c197, c198, c199, c200, c201, c202, c203, c204, c205, c206, c207, c208, c209, c210, c211, c212, c213, c214, c215, c216, c217, c218, c219, c220, c221, c222, c223, c224, c225, c226, c227, c228, c229, c230, c231, c232, c233, c234, c235, c236, c237, c238, c239, c240, c241, c242, c243, c244, c245, c246, c247, c248, c249, c250, c251, c252, c253, c254, c255, c256, c257, c258, c259], []⟩ w := by
  have HR : Hid (∀ (a : Act) (wz : World), a.tmps.getD 2 undef = .bool true → a.defers = [] → Below W1.heap.size W1 wz → Q .ret a wz) := hR
  clear hR
  rw [hD]
  clear hD
  conv => arg 2; whnf
  obtain ⟨e0, he0⟩ : ∃ e0, y.m.how = e0 := ⟨_, rfl⟩
  obtain ⟨nu, hnu⟩ : ∃ nu, y.num = nu := ⟨_, rfl⟩
  obtain ⟨m, hm⟩ : ∃ m, y.m = m := ⟨_, rfl⟩
  have HDE : Hid (∀ u, BothR W1 u bx z mb mg y ws2 o2 n2 bd zd bw gw x0 wsv 0 [g1] → Calls Tryz.prog 20 #[.pointer (some ⟨bx, 0, none⟩)] u fun r w' => ∃ t' na D mk e1 e2 st, r = .returned (.agg (dC t' na m D mk nu e0 e1 e2 st)) ∧ Hid (TRow w' D.pw D.cw m.buf ∧ Below u.heap.size u w')) := fun u q => by
    refine (q.b.deed HY.out.1 rfl hnu (show endJ y y.m.how = e0 by unfold endJ; rw [if_pos HY.out.2]; exact he0) rfl rfl).mono ?_
    rintro r w' ⟨na, D, q1, q2⟩
    subst hm
    exact ⟨_, _, D, _, _, _, _, q1, q2.out.1.wr, q2.out.2.2⟩
  rw [hm] at he0
  rw [hnu, hm, he0] at HNO HYE
  rw [hm] at HCE
  clear hm hnu
  have HE0 := Lib.hid he0
  clear he0
  go_upto_region 22 with (first
    | (go_at_call 14; refine HST.out.mono ?_; rintro r u7 ⟨rfl, q, q2⟩; have H7 := Lib.hid q; have R7 := Lib.hid q2; clear q q2 HST)
    | (go_at_call 20; refine (HDE.out _ H7.out).mono ?_; rintro r u8 ⟨t', na, D, mk, e1, e2, st, rfl, q⟩; have H8 := Lib.hid (H7.out.on q.out.2); have R8 := Lib.hid (R7.out.on q.out.2); have T8 := Lib.hid q.out.1; clear q H7 R7 HDE)
    | (refine wpList_store_row rfl 61 _ _ rfl u8.heap.size (dC t' na m D mk nu e0 e1 e2 st) rfl rfl _ _ (heap_alloc_new _ _) deedInfo rfl (deed_one _ _ _ _ _ _ _ _ _ _) ?_; rw [World.setRow_alloc_new]))
  obtain ⟨u9, hu9⟩ : ∃ u9, u9 = u8.alloc (.cells (dC t' na m D mk nu e0 e1 e2 st) 61) := ⟨_, rfl⟩
  rw [← hu9]
  have HB9 : Hid (Below u8.heap.size u8 u9 ∧ u9.heap[u8.heap.size]? = some (.cells (dC t' na m D mk nu e0 e1 e2 st) 61 (0, 0))) := by rw [hu9]; exact ⟨below_alloc _ _, heap_alloc_new _ _⟩
  clear hu9
  have H9 := Lib.hid (H8.out.on HB9.out.1)
  have R9 : Hid (Md.RowAt u9 g1 wp ∧ TRow u9 D.pw D.cw m.buf) := ⟨R8.out.on HB9.out.1, T8.out.on HB9.out.1⟩
  obtain ⟨db, hdb⟩ : ∃ db, u8.heap.size = db := ⟨_, rfl⟩
  have HD9 : Hid (u9.heap[db]? = some (.cells (dC t' na m D mk nu e0 e1 e2 st) 61 (0, 0))) := by rw [← hdb]; exact HB9.out.2
  rw [hdb]
  clear hdb HB9 H8 R8 T8
  have HDC : Hid (∀ u, Below u9.heap.size u9 u → u.cell? ⟨db, 10, none⟩ = some (.int .i64 e0) ∧ u.cell? ⟨db, 6, none⟩ = some (.int .i64 nu) ∧ u.cell? ⟨db, 8, none⟩ = some (.slice D.pw m.buf.length D.cw) ∧ db < u.heap.size) := fun u q => by
    have h := (q.block _ (lt_of_block HD9.out)).trans HD9.out
    exact ⟨(cell_of_row _ _ 10 _ _ _ h).trans rfl, (cell_of_row _ _ 6 _ _ _ h).trans rfl, (cell_of_row _ _ 8 _ _ _ h).trans rfl, lt_of_block h⟩
  clear HD9
  by_cases h1 : e0 = 1
  rotate_left
  · have h1' : (e0 != 1) = true := by simpa using h1
    have hn := HNO.out h1
    subst hn
    obtain ⟨d10, d6, d8, dl⟩ := HDC.out _ (Below.refl _ u9)
    have HZ : Hid (Below W1.heap.size W1 u9) := H9.out.b.below
    clear HYE HCE HDC d8 HNO HE0
    go_wp2_with fail
    exact HR.out _ _ rfl rfl HZ.out
  · have h1' : (e0 != 1) = false := by simp [h1]
    obtain ⟨eS, eN, eC, eO⟩ := HYE.out h1
    obtain ⟨s0, hs0⟩ : ∃ s0, wordAt wp 2 = s0 := ⟨_, rfl⟩
    rw [hs0] at eS eN eC hv
    have HES : Hid (ws2.getD 2 0 = s0 + 1 ∧ wp.getD 2 0 = s0) := ⟨eS, hs0⟩
    have es : IntKind.u64.wrap (s0 + 1) = s0 + 1 := Go.IntWalk.u64_in _ ⟨by omega, by omega⟩
    have HCB : Hid (∀ k, k < m.buf.length → ws2.getD (3 + nb + 3 * (m.buf.getD k (0, 0)).1.toNat) 0 = s0 + 1 ∧ ws2.getD (3 + nb + 3 * (m.buf.getD k (0, 0)).1.toNat + 1) 0 = (((m.buf.getD k (0, 0)).2 : Nat) : Int) ∧ ws2.getD (3 + nb + 3 * (m.buf.getD k (0, 0)).1.toNat + 2) 0 = ((fixB (wp.getD (3 + nb + 3 * (m.buf.getD k (0, 0)).1.toNat + 1) 0).toNat : Nat) : Int)) := fun k hk => by
      have h := eC k hk
      have hc := HCE.out.1 k hk
      rw [hxb] at h
      have E : ∀ (l : List Int) (j : Nat), wordAt l (3 + (nb : Int) + 3 * (m.buf.getD k (0, 0)).1 + (j : Int)) = l.getD (3 + nb + 3 * (m.buf.getD k (0, 0)).1.toNat + j) 0 := fun l j => by
        unfold wordAt
        congr 1
        omega
      have e0 := E ws2 0
      have e1 := E ws2 1
      have e2 := E ws2 2
      have e3 := E wp 1
      simp only [Int.ofNat_zero, Int.add_zero, Nat.add_zero] at e0
      have h1 : ((1 : Nat) : Int) = 1 := rfl
      have h2 : ((2 : Nat) : Int) = 2 := rfl
      rw [h1] at e1 e3
      rw [h2] at e2
      rw [e0, e1, e2, e3] at h
      exact h
    have HOB : Hid (∀ k, k < 3 * an → ¬ ((k / 3 : Nat) : Int) ∈ cellsOfL m.buf → ws2.getD (3 + nb + k) 0 = wp.getD (3 + nb + k) 0) := fun k hk q => by
      have h := eO ((k / 3 : Nat) : Int) ((k % 3 : Nat) : Int) (by omega) (by omega) (by omega) q
      rw [hxb] at h
      have E : ∀ (l : List Int), wordAt l (3 + (nb : Int) + 3 * ((k / 3 : Nat) : Int) + ((k % 3 : Nat) : Int)) = l.getD (3 + nb + k) 0 := fun l => by
        unfold wordAt
        congr 1
        omega
      rw [E, E] at h
      exact h
    subst eN
    clear eS eC eO hs0 HYE HNO HE0
    obtain ⟨d10, d6, d8, dl⟩ := HDC.out _ (Below.refl _ u9)
    clear d6 d8
    go_upto_if 109 with fail
    go_step
    go_step
    go_step
    go_step
    obtain ⟨L, hL⟩ : ∃ L, m.buf.length = L := ⟨_, rfl⟩
    refine brest _ (W1 := W1) (rb := rb) (bx := bx) (z := z) (mb := mb) (mg := mg) (bd := bd) (zd := zd) (bw := bw) (gw := gw) (x0 := x0) (wsv := wsv) (wp := wp) (N := N) (nb := nb) (an := an) (g1 := g1) (y := y) (ws2 := ws2) (o2 := o2) (n2 := n2) (db := db) (L := L) (cw := D.cw) (pw := D.pw) (buf := m.buf) (s0 := s0) H9 R9 (Lib.hid fun u q => ⟨(HDC.out u q).2.1, by rw [← hL]; exact (HDC.out u q).2.2.1, (HDC.out u q).2.2.2⟩) HRC hxb han hN hN9 hN3 l1 l2 hok hv es HES HCE hL HCB HOB _ (by kernel_rfl) _ _ _ _ _ _ _ _ _ _ _ _ _ _ _ _ _ _ _ _ _ _ _ _ _ _ _ _ _ _ _ _ _ _ _ _ _ _ _ _ _ _ _ _ _ _ _ _ _ _ _ _ _ _ _ _ _ _ _ _ _ _ _ _ _ _ _ _ _ _ _ _ _ _ _ _ _ _ _ _ _ _ _ _ _ _ _ _ _ _ _ _ _ _ _ _ _ _ _ _ _ _ _ _ _ _ _ _ _ _ _ _ _ _ _ _ _ _ _ _ _ _ _ _ _ _ _ _ _ _ _ _ _ _ _ _ _ _ _ _ _ _ _ _ _ _ _ _ _ _ _ _ _ _ _ _ _ _ _ _ _ _ _ _ _ _ _ _ _ _ _ _ _ _ _ _ _ _ _ _ _ _ _ _ _ _ _ _ _ _ _ _ _ _ _ _ _ _ _ _ _ _ _ _ _ _ _ _ _ _ _ _ _ _ _ _ _ _ _ _ _ _ _ _ _ _ _ _ _ _ _ _ _ _ _ _ _ _ _ _ _ _ _ _ _ _ _ _ _ _ _ _ _ _ _ (fun v t1 t2 d u h => hQ v t1 t2 d u h) ?_
    intro a' wz h2 hd hz
    exact HR.out a' wz h2 hd hz
set_option maxRecDepth 100000 in
set_option maxHeartbeats 4000000 in
theorem bloop (w : World) {W1 : World} {rb bx : Nat} {z : Wz} {mb mg bd : Nat} {zd : Dz} {bw gw : Nat} {x0 : Wx} {wsv wp : List Int} {N nb an g1 : Nat} {c e : Int} (hsh : Shaped5 W1) (hc : 1 ≤ c ∧ c ≤ 100000) (he : 1 ≤ e ∧ e ≤ 32) (hnb : 1 ≤ nb ∧ nb ≤ 8) (HRC : Hid (∀ u, Below W1.heap.size W1 u → u.cell? ⟨rb, 0, none⟩ = some (.int .i64 (an : Int)) ∧ u.cell? ⟨rb, 1, none⟩ = some (.int .i64 (nb : Int)) ∧ u.cell? ⟨rb, 2, none⟩ = some (.int .i64 c) ∧ u.cell? ⟨rb, 3, none⟩ = some (.int .i64 e) ∧ rb < u.heap.size)) (HX0 : Hid (plY x0 = (N : Int) ∧ leftY x0 = c + (nb : Int) + 3 * e + 6)) (hxa : x0.a = (an : Int)) (hxb : x0.b = (nb : Int)) (han : an ≤ 256) (hN : 3 + nb + 3 * an = N) (hN9 : N ≤ 1000) (hwl : wp.length = N) (hok : okW wp) (hv : 0 ≤ wordAt wp 2 ∧ wordAt wp 2 < 1099511627776) (HSV : Hid (wordAt wp 0 = wordAt wp 1 ∧ ∀ t : Int, 0 ≤ t → t < x0.b → wordAt wp (3 + t) = 0)) (HS0 : Hid (∃ x ws o n, BkI x0 x ws wp N 0 ∧ x.part ≠ 9 ∧ Md.RowAt w g1 wp ∧ BothR W1 w bx z mb mg x ws o n bd zd bw gw x0 wsv 0 [g1])) (D : Code) (hD : D = (Tryz.f7.body.bind (findBl 2)).getD .skip) (c0 c2 c7 c8 c11 c12 c13 c14 c15 c16 c17 c18 c19 c20 c21 c22 c23 c24 c25 c26 c27 c28 c29 c30 c31 c32 c33 c34 c35 c36 c37 c38 c39 c40 c41 c42 c43 c44 c45 c46 c47 c48 c49 c50 c51 c52 c53 c54 c55 c56 c57 c58 c59 c60 c61 c62 c63 c64 c65 c66 c67 c68 c69 c70 c71 c72 c73 c74 c75 c76 c77 c78 c79 c80 c81 c82 c83 c84 c85 c86 c87 c88 c89 c90 c91 c92 c93 c94 c95 c96 c97 c98 c99 c100 c101 c102 c103 c104 c105 c106 c107 c108 c109 c110 c111 c112 c113 c114 c115 c116 c117 c118 c119 c120 c121 c122 c123 c124 c125 c126 c127 c128 c129 c130 c131 c132 c133 c134 c135 c136 c137 c138 c139 c140 c141 c142 c143 c144 c145 c146 c147 c148 c149 c150 c151 c152 c153 c154 c155 c156 c157 c158 c159 c160 c161 c162 c163 c164 c165 c166 c167 c168 c169 c170 c171 c172 c173 c174 c175 c176 c177 c178 c179 c180 c181 c182 c183 c184 c185 c186 c187 c188 c189 c190 c191 c192 c193 c194 c195 c196 c197 c198 c199 c200 c201 c202 c203 c204 c205 c206 c207 c208 c209 c210 c211 c212 c213 c214 c215 c216 c217 c218 c219 c220 c221 c222 c223 c224 c225 c226 c227 c228 c229 c230 c231 c232 c233 c234 c235 c236 c237 c238 c239 c240 c241 c242 c243 c244 c245 c246 c247 c248 c249 c250 c251 c252 c253 c254 c255 c256 c257 c258 c259 : Value) (Q : Exit → Act → World → Prop) (hQ : ∀ v t1 t2 d u, Q (.panic v) ⟨t1, d⟩ u → Q (.panic v) ⟨t2, d⟩ u) (hR : ∀ (a : Act) (wz : World), a.tmps.getD 2 undef = .bool true → a.defers = [] → Below W1.heap.size W1 wz → Q .ret a wz) : D.wp Tryz.prog Q ⟨#[c0, .pointer (some ⟨rb, 0, none⟩), c2, .bool true, .pointer (some ⟨bx, 0, none⟩), .pointer (some ⟨bd, 0, none⟩), .pointer (some ⟨mb, 0, none⟩), c7, c8, .slice (some ⟨g1, 0, none⟩) N N, .int .i64 0, c11, c12, c13, c14, c15, c16, c17, c18, c19, c20, c21, c22, c23, c24, c25, c26, c27, c28, c29, c30, c31, c32, c33, c34, c35, c36, c37, c38, c39, c40, c41, c42, c43, c44, c45, c46, c47, c48, c49, c50, c51, c52, c53, c54, c55, c56, c57, c58, c59, c60, c61, c62, c63, c64, c65, c66, c67, c68, c69, c70, c71, c72, c73, c74, c75, c76, c77, c78, c79, c80, c81, c82, c83, c84, c85, c86, c87, c88, c89, c90, c91, c92, c93, c94, c95, c96, c97, c98, c99, c100, c101, c102, c103, c104, c105, c106, c107, c108, c109, c110, c111, c112, c113, c114, c115, c116, c117, c118, c119, c120, c121, c122, c123, c124, c125, c126, c127, c128, c129, c130, c131, c132, c133, c134, c135, c136, c137, c138, c139, c140, c141, c142, c143, c144, c145, c146, c147, c148, c149, c150, c151, c152, c153, c154, c155, c156, c157, c158, c159, c160, c161, c162, c163, c164, c165, c166, c167, c168, c169, c170, c171, c172, c173, c174, c175, c176, c177, c178, c179, c180, c181, c182, c183, c184, c185, c186, c187, c188, c189, c190, c191, c192, c193, c194, c195, c196, c197, c198, c199, c200, c201, c202, c203, c204, c205, c206, c207, c208, c209, c210, c211, c212, c213, c214, c215, c216, c217, c218, c219, c220, c221, c222, c223, c224, c225, c226, c227, c228, c229, c230, c231, c232, c233, c234, c235, c236, c237, c238, c239, c240, c241, c242, c243, c244, c245, c246, c247, c248, c249, c250, c251, c252, c253, c254, c255, c256, c257, c258, c259], []⟩ w := by
  have HR : Hid (∀ (a : Act) (wz : World), a.tmps.getD 2 undef = .bool true → a.defers = [] → Below W1.heap.size W1 wz → Q .ret a wz) := hR
  clear hR
  rw [hD]
  clear hD
  conv => arg 2; whnf
  go_wp2_with fail
  go_loopw [10] (fun vi wr => ∃ i : Nat, vi = .int .i64 i ∧ Hid (∃ x ws o n, BkI x0 x ws wp N i ∧ x.part ≠ 9 ∧ Md.RowAt wr g1 wp ∧ BothR W1 wr bx z mb mg x ws o n bd zd bw gw x0 wsv 0 [g1])) (fun vi _ => (c + (nb : Int) + 3 * e + 8).toNat - (intOf vi).toNat)
  case atStart => exact ⟨0, rfl, HS0.out⟩
  case round =>
    obtain ⟨i, rfl, HR0⟩ := hrel
    clear HS0
    obtain ⟨x, ws, o, n0, hI, hp9, hR, hB⟩ := HR0.out
    have HW := Lib.hid hI
    have HB := Lib.hid hB
    have R6 := Lib.hid hR
    have HP9 := Lib.hid hp9
    obtain ⟨y0, y1, y2, y3, yb⟩ := HRC.out _ hB.b.below
    have hlt : (i : Int) < c + (nb : Int) + 3 * e + 8 := by
      have := hI.more hp9
      rw [HX0.out.2] at this
      omega
    clear HR0 hI hB hR hp9 y0
    obtain ⟨y, ws2, ac, hy⟩ : ∃ y ws2 ac, stepY x ws = (y, ws2, ac) := ⟨_, _, _, rfl⟩
    obtain ⟨n', hn'⟩ : ∃ n', (if ac then up n0 else n0) = n' := ⟨_, rfl⟩
    obtain ⟨ov, hov⟩ : ∃ ov, decide ((y.part : Int) = 9) = ov := ⟨_, rfl⟩
    have HS := Lib.hid (HW.out.next HP9.out HSV.out.1 HSV.out.2 hy)
    have HST : Hid (Calls Tryz.prog 14 #[.pointer (some ⟨bx, 0, none⟩), .pointer (some ⟨mb, 0, none⟩)] _ fun r w' => r = .returned (.tuple #[.bool ov, .int .i64 0]) ∧ BothR W1 w' bx z mb mg y ws2 (!ac) n' bd zd bw gw x0 wsv 0 [g1] ∧ Md.RowAt w' g1 wp) := (HB.out.step hsh HW.out.inx HP9.out (by rw [plY_alike HW.out.al, HX0.out.1, HW.out.len]; omega) (by rw [HW.out.st]; omega) (by rw [HW.out.st]; omega) hy hn' hov).mono fun r w' ⟨k1, k2, k3⟩ => ⟨k1, k2, row_kept R6.out k3⟩
    have HOV := Lib.hid hov
    clear hy hn' hov
    go_upto_block 3 with fail
    cases ov
    · have h9 : y.part ≠ 9 := fun q => by have := of_decide_eq_false HOV.out; omega
      refine bnot _ (bx := bx) (mb := mb) (P := fun w' => BothR W1 w' bx z mb mg y ws2 (!ac) n' bd zd bw gw x0 wsv 0 [g1] ∧ Md.RowAt w' g1 wp) HST _ (by kernel_rfl) _ _ _ _ _ _ _ _ _ _ _ _ _ _ _ _ _ _ _ _ _ _ _ _ _ _ _ _ _ _ _ _ _ _ _ _ _ _ _ _ _ _ _ _ _ _ _ _ _ _ _ _ _ _ _ _ _ _ _ _ _ _ _ _ _ _ _ _ _ _ _ _ _ _ _ _ _ _ _ _ _ _ _ _ _ _ _ _ _ _ _ _ _ _ _ _ _ _ _ _ _ _ _ _ _ _ _ _ _ _ _ _ _ _ _ _ _ _ _ _ _ _ _ _ _ _ _ _ _ _ _ _ _ _ _ _ _ _ _ _ _ _ _ _ _ _ _ _ _ _ _ _ _ _ _ _ _ _ _ _ _ _ _ _ _ _ _ _ _ _ _ _ _ _ _ _ _ _ _ _ _ _ _ _ _ _ _ _ _ _ _ _ _ _ _ _ _ _ _ _ _ _ _ _ _ _ _ _ _ _ _ _ _ _ _ _ _ _ _ _ _ _ _ _ _ _ _ _ _ _ _ _ _ _ _ _ _ _ _ _ _ _ _ _ _ _ _ _ _ _ _ _ _ _ _ _ _ _ _ (fun v t1 t2 d u h => hQ v t1 t2 d u h) ?_
      intro _ _ _ _ _ _ _ _ _ _ wz hwz
      have HWZ := Lib.hid hwz
      clear hwz HST
      go_wp2_with fail
      exact ⟨⟨i + 1, rfl, y, ws2, _, _, HS.out, h9, HWZ.out.2, HWZ.out.1⟩, by simp [intOf]; omega⟩
    · have h9 : y.part = 9 := by have := of_decide_eq_true HOV.out; omega
      refine bover _ (W1 := W1) (rb := rb) (bx := bx) (z := z) (mb := mb) (mg := mg) (bd := bd) (zd := zd) (bw := bw) (gw := gw) (x0 := x0) (wsv := wsv) (wp := wp) (N := N) (nb := nb) (an := an) (g1 := g1) (y := y) (ws2 := ws2) (o2 := !ac) (n2 := n') HST (Lib.hid ⟨HS.out.inx, h9⟩) (Lib.hid fun u q => ⟨(HRC.out u q).1, (HRC.out u q).2.2.2.2⟩) hxb han hN hN9 (by omega) hwl HS.out.len hok hv (Lib.hid fun q => HS.out.toHiI.none h9 q) (Lib.hid fun q => HS.out.toHiI.back h9 q HX0.out.1 hwl hv) (Lib.hid ⟨fun k hk => by have := buf_cells HS.out.inx k hk; rw [HS.out.al.a, hxa] at this; exact this, HS.out.inx.rest.nod, by have h1 := HS.out.inx.rest.inv.few; have h2 := HS.out.inx.rest.inv.wmax; omega⟩) _ (by kernel_rfl) _ _ _ _ _ _ _ _ _ _ _ _ _ _ _ _ _ _ _ _ _ _ _ _ _ _ _ _ _ _ _ _ _ _ _ _ _ _ _ _ _ _ _ _ _ _ _ _ _ _ _ _ _ _ _ _ _ _ _ _ _ _ _ _ _ _ _ _ _ _ _ _ _ _ _ _ _ _ _ _ _ _ _ _ _ _ _ _ _ _ _ _ _ _ _ _ _ _ _ _ _ _ _ _ _ _ _ _ _ _ _ _ _ _ _ _ _ _ _ _ _ _ _ _ _ _ _ _ _ _ _ _ _ _ _ _ _ _ _ _ _ _ _ _ _ _ _ _ _ _ _ _ _ _ _ _ _ _ _ _ _ _ _ _ _ _ _ _ _ _ _ _ _ _ _ _ _ _ _ _ _ _ _ _ _ _ _ _ _ _ _ _ _ _ _ _ _ _ _ _ _ _ _ _ _ _ _ _ _ _ _ _ _ _ _ _ _ _ _ _ _ _ _ _ _ _ _ _ _ _ _ _ _ _ _ _ _ _ _ _ _ _ _ _ _ _ _ _ _ _ _ _ _ _ _ (fun v t1 t2 d u h => hQ v t1 t2 d u h) ?_
      intro a wz h2 hd hz
      exact HR.out a wz h2 hd hz
end
end Go.Proofs.YteinilmecnlanaaGreatDoor.Ww
namespace Go.Proofs.YteinilmecnlanaaGreatDoor.Ww
open Go.ChangeShapes Go.WideShapes Go.ChangeAt Go.RowKit Num Rr
section
variable {W : World} {a b c e th t : Int} {ao : Option Addr} {cs : List Ins} {n cap : Nat} {po : Option Addr} {l : List Nat} {k co : Nat} {pw : Option Addr} {lw : List Int} {kw cw : Nat} {pp : Option Addr} {lp : List (Int × Int)} {kp cp : Nat} {sp : Int}
attribute [local go_sem] deed_end end_how deed_num
set_option maxRecDepth 100000 in
set_option maxHeartbeats 4000000 in
theorem backs (h : RideAll W cs l ao po n k lw pw kw lp pp kp) : Calls Tryz.prog 7 #[.agg (rideV a b c e th t ao n cap po k co pw kw cw pp kp cp sp)] W fun r w' => r = .returned (.bool true) ∧ Below W.heap.size W w' := by
  obtain ⟨w1, hw1⟩ : ∃ w1, w1 = (W.alloc (.cells (rideV a b c e th t ao n cap po k co pw kw cw pp kp cp sp) 31)) := ⟨_, rfl⟩
  have H0 : Hid (Below W.heap.size W w1 ∧ w1.heap[W.heap.size]? = some (.cells (rideV a b c e th t ao n cap po k co pw kw cw pp kp cp sp) 31 (0, 0))) := by rw [hw1]; exact ⟨below_alloc _ _, heap_alloc_new _ _⟩
  have HL : Hid (Calls Tryz.prog 9 #[] w1 fun e w' => e = .returned (.bool true) ∧ Below w1.heap.size w1 w') := live_any (h.at_.sh.on H0.out.1)
  have HG : Hid (∀ u, Below w1.heap.size w1 u → Calls Tryz.prog 10 #[.agg (rideV a b c e th t ao n cap po k co pw kw cw pp kp cp sp)] u fun r w' => ∃ q1 q2, r = .returned (.tuple #[.pointer q1, .pointer q2]) ∧ Hid ((mayX a b c e k th = true ∧ ∃ bx bd, q1 = some ⟨bx, 0, none⟩ ∧ q2 = some ⟨bd, 0, none⟩ ∧ Bgn u w' bx bd (newY a b c e t cs l th) ao cs) ∨ (mayX a b c e k th = false ∧ q1 = none ∧ q2 = none ∧ Below u.heap.size u w'))) := fun u q => begun_any ((h.at_.on H0.out.1).on q)
  have HX := Lib.hid (h.on H0.out.1)
  have HRC : Hid (∀ u, Below w1.heap.size w1 u → u.cell? ⟨W.heap.size, 0, none⟩ = some (.int .i64 a) ∧ u.cell? ⟨W.heap.size, 1, none⟩ = some (.int .i64 b) ∧ u.cell? ⟨W.heap.size, 2, none⟩ = some (.int .i64 c) ∧ u.cell? ⟨W.heap.size, 3, none⟩ = some (.int .i64 e) ∧ u.cell? ⟨W.heap.size, 4, none⟩ = some (.int .i64 th) ∧ u.cell? ⟨W.heap.size, 5, none⟩ = some (.int .i64 t) ∧ u.cell? ⟨W.heap.size, 6, none⟩ = some (.slice ao n cap) ∧ u.cell? ⟨W.heap.size, 7, none⟩ = some (.slice po k co) ∧ u.cell? ⟨W.heap.size, 8, none⟩ = some (.slice pw kw cw) ∧ u.cell? ⟨W.heap.size, 9, none⟩ = some (.slice pp kp cp) ∧ u.cell? ⟨W.heap.size, 10, none⟩ = some (.int .i64 sp) ∧ W.heap.size < u.heap.size) := fun u q => ride_cells ((q.block _ (lt_of_block H0.out.2)).trans H0.out.2)
  clear h
  go_enter Tryz.func7, Tryz.ntmps7
  go_upto_region 3 with (first
    | (go_at_call 10; refine (HG.out _ H1.out).mono ?_; rintro r u2 ⟨q1, q2, rfl, H2⟩; clear HG)
    | (go_at_call 9; try simp only [← hw1]; refine HL.out.mono ?_; rintro r u1 ⟨rfl, q⟩; have H1 := Lib.hid q; obtain ⟨x0, x1, x2, x3, x4, x5, x6, x7, x8, x9, x10, xb⟩ := HRC.out _ q; clear q HL))
  clear x0 x1 x2 x3 x4 x5 x6 x7 x8 x9 x10 xb hw1
  rcases H2.out with ⟨hm, bx, bd, rfl, rfl, hB⟩ | ⟨hm, rfl, rfl, hB⟩
  rotate_left
  · have HB := Lib.hid (H0.out.1.trans ((H1.out.trans (hB.mono H1.out.size)).mono H0.out.1.size))
    clear hB H2
    go_wp2_with fail
    go_ret
    exact ⟨rfl, HB.out⟩
  have HI := Lib.hid (HX.out.at_.inY (t := t) hm)
  have hcf : Md.cfgB a b c e = true := by simp only [mayX, Bool.and_eq_true] at hm; exact hm.1.1
  obtain ⟨N, hN⟩ : ∃ N : Nat, 3 + b + 3 * a = (N : Int) := ⟨(3 + b + 3 * a).toNat, by have := Md.cfgB_iff.1 hcf; omega⟩
  have N1 : 1 ≤ N := by have := Md.cfgB_iff.1 hcf; omega
  have HFU : Hid (1 ≤ c ∧ c ≤ 100000) := by have := Md.cfgB_iff.1 hcf; exact ⟨by omega, by omega⟩
  have HB2 : Hid (Below w1.heap.size w1 u2) := H1.out.trans (hB.bl.mono H1.out.size)
  have HLA : Hid (Calls Tryz.prog 11 #[cfgV a b c e, .slice pw kw cw] u2 fun r w' => ∃ mb bw, r = .returned (.tuple #[.pointer (some ⟨mb, 0, none⟩), .pointer (some ⟨bw, 0, none⟩)]) ∧ Hid (∃ mg gw ws, Laid u2 w' N mb mg bw gw ws)) := laid_any hcf ((HX.out.on HB2.out).words) HX.out.wl HX.out.wx HX.out.wb hN
  have HBG := Lib.hid hB
  obtain ⟨x0, x1, x2, x3, x4, x5, x6, x7, x8, x9, x10, xb⟩ := HRC.out _ HB2.out
  clear H2 hB
  go_upto_region 8 with (go_at_call 11; refine HLA.out.mono ?_; rintro r u3 ⟨mb, bw, rfl, H3⟩; clear HLA)
  have HN : Hid (3 + b + 3 * a = (N : Int)) := hN
  have HBO : Hid (∃ mg gw ws z zd, ws.length = N ∧ okW ws ∧ zd.cs = cs ∧ Both w1 u3 bx z mb mg (newY a b c e t cs l th) ws false 0 bd zd bw gw (newY a b c e t cs l th) ws 0) := by
    obtain ⟨mg, gw, ws, q⟩ := H3.out
    obtain ⟨z, zd, k1, k2⟩ := both_new H1.out HBG.out q.mem q.wds q.bl q.am q.ag q.aw q.av q.sep
    exact ⟨mg, gw, ws, z, zd, q.len, q.ok, k1, k2⟩
  obtain ⟨mg, gw, ws, z, zd, hwl, hwo, hzd, hbo⟩ := HBO.out
  have HB3 := Lib.hid hbo
  have HW3 : Hid (ws.length = N ∧ okW ws) := ⟨hwl, hwo⟩
  clear H3 HBO hbo hwl hwo hN hcf hm HBG HB2 x0 x1 x2 x3 x4 x5 x6 x7 x8 x9 x10 xb
  have hbE : Hid (1 ≤ b ∧ b ≤ 8 ∧ 1 ≤ e ∧ e ≤ 32 ∧ 1 ≤ a ∧ a ≤ 256) := by
    have h1 := HI.out.cb
    have h2 := HI.out.rest.inv.wmax
    have h3 := HI.out.ca
    exact ⟨h1.1, h1.2, h2.1, h2.2, h3.1, h3.2⟩
  have HSV : Hid (Calls Tryz.prog 25 #[.pointer (some ⟨mb, 0, none⟩), .pointer (some ⟨bw, 0, none⟩), .agg #[.int .i64 0, .int .i64 1, .int .i64 2, .int .i64 3, .int .i64 (3 + b), .int .i64 (3 + b + 3 * a)]] u3 fun r w' => r = .returned (.tuple #[]) ∧ Both w1 w' bx z mb mg (newY a b c e t cs l th) (servL ws) false 0 bd zd bw gw (newY a b c e t cs l th) (servL ws) 0) := served_any HB3.out HW3.out.2 HW3.out.1 (by have h1 := hbE.out; have h2 := HN.out; omega) (3 + b) (3 + b + 3 * a)
  obtain ⟨d0, d1, d2, d3, d4, d5, db⟩ := HB3.out.plan
  have d4' : u3.cell? ⟨bd, 4, none⟩ = some (.int .i64 (3 + b)) := d4
  have d5' : u3.cell? ⟨bd, 5, none⟩ = some (.int .i64 (3 + b + 3 * a)) := d5
  clear d4 d5
  go_upto_region 9 with (go_at_call 25; refine HSV.out.mono ?_; rintro r u4 ⟨rfl, q⟩; have H4 := Lib.hid q; clear q HSV)
  clear d0 d1 d2 d3 d4' d5' db HB3
  have HW4 : Hid ((servL ws).length = N ∧ okW (servL ws)) := ⟨(servL_len ws).trans HW3.out.1, servL_ok HW3.out.2⟩
  have HS4 : Hid (wordAt (servL ws) 0 = wordAt (servL ws) 1) := by
    have h3 : 3 ≤ ws.length := by rw [HW3.out.1]; have h1 := hbE.out; have h2 := HN.out; omega
    show (servL ws).getD 0 0 = (servL ws).getD 1 0
    unfold servL
    rw [getD_set_eq (by simp; omega), getD_set_ne (by omega), getD_set_ne (by omega), getD_set_eq (by omega)]
  have HS5 : Hid ((0 ≤ wordAt (servL ws) 0 ∧ wordAt (servL ws) 0 < 1099511627776) ∧ (0 ≤ wordAt (servL ws) 2 ∧ wordAt (servL ws) 2 < 1099511627776)) := by
    have h3 : 3 ≤ ws.length := by rw [HW3.out.1]; have h1 := hbE.out; have h2 := HN.out; omega
    have e0 : wordAt (servL ws) 0 = ws.getD 0 0 % 1099511627776 := by
      show (servL ws).getD 0 0 = _
      unfold servL
      rw [getD_set_ne (by omega), getD_set_ne (by omega), getD_set_eq (by omega)]
    have e2 : wordAt (servL ws) 2 = ws.getD 2 0 % 1099511627776 := by
      show (servL ws).getD 2 0 = _
      unfold servL
      rw [getD_set_ne (by omega), getD_set_eq (by simp; omega)]
    rw [e0, e2]
    exact ⟨⟨by omega, by omega⟩, ⟨by omega, by omega⟩⟩
  generalize servL ws = wsv at H4 HW4 HS4 HS5
  clear HW3
  obtain ⟨nb, rfl⟩ : ∃ nb : Nat, b = (nb : Int) := ⟨b.toNat, by have := hbE.out; omega⟩
  obtain ⟨an, rfl⟩ : ∃ an : Nat, a = (an : Int) := ⟨a.toNat, by have := hbE.out; omega⟩
  obtain ⟨hb1, hb2, he1, he2, ha1, ha2⟩ := hbE.out
  have hc1 : 1 ≤ c := HFU.out.1
  have hc2 : c ≤ 100000 := HFU.out.2
  have hNe : 3 + (nb : Int) + 3 * (an : Int) = (N : Int) := HN.out
  have hN6 : 6 ≤ N := by omega
  have hN9 : N ≤ 1000 := by omega
  obtain ⟨x0, hx0⟩ : ∃ x0, x0 = newY an nb c e t cs l th := ⟨_, rfl⟩
  have HX0 : Hid (plY x0 = (N : Int) ∧ InY x0 ∧ x0.b = (nb : Int) ∧ x0.part = 1 ∧ x0.steps = 0 ∧ leftY x0 = c + (nb : Int) + 3 * e + 6 ∧ x0.a = (an : Int) ∧ ∀ wp, QY wp (numsL x0 wp) x0.m x0 wp) := by rw [hx0]; exact ⟨HN.out, HI.out, rfl, rfl, rfl, by unfold leftY; rw [if_pos (show (newY an nb c e t cs l th).part = 1 from rfl)]; show c - 0 + (nb : Int) + 3 * e + 6 = _; omega, rfl, fun wp => qy_new rfl rfl rfl rfl rfl⟩
  rw [← hx0] at H4
  clear hx0 HI H1 hbE
  go_upto_block 0 with fail
  refine bpoke _ (W1 := w1) (rb := W.heap.size) (bx := bx) (z := z) (mb := mb) (mg := mg) (bd := bd) (zd := zd) (bw := bw) (gw := gw) (x0 := x0) (wsv := wsv) (N := N) (nb := nb) (by omega) (by omega) (Lib.hid (fun u q => ⟨(HRC.out u q).2.1, (HRC.out u q).2.2.2.2.2.2.2.2.2.2.2⟩)) (Lib.hid ⟨wsv, ⟨HW4.out.1, HW4.out.2, ⟨rfl, rfl, rfl⟩, fun t h0 h1 => by omega⟩, H4.out⟩) _ (by kernel_rfl) _ _ _ _ _ _ _ _ _ _ _ _ _ _ _ _ _ _ _ _ _ _ _ _ _ _ _ _ _ _ _ _ _ _ _ _ _ _ _ _ _ _ _ _ _ _ _ _ _ _ _ _ _ _ _ _ _ _ _ _ _ _ _ _ _ _ _ _ _ _ _ _ _ _ _ _ _ _ _ _ _ _ _ _ _ _ _ _ _ _ _ _ _ _ _ _ _ _ _ _ _ _ _ _ _ _ _ _ _ _ _ _ _ _ _ _ _ _ _ _ _ _ _ _ _ _ _ _ _ _ _ _ _ _ _ _ _ _ _ _ _ _ _ _ _ _ _ _ _ _ _ _ _ _ _ _ _ _ _ _ _ _ _ _ _ _ _ _ _ _ _ _ _ _ _ _ _ _ _ _ _ _ _ _ _ _ _ _ _ _ _ _ _ _ _ _ _ _ _ _ _ _ _ _ _ _ _ _ _ _ _ _ _ _ _ _ _ _ _ _ _ _ _ _ _ _ _ _ _ _ _ _ _ _ _ _ _ _ _ _ _ _ _ _ _ _ _ _ _ _ _ _ _ _ _ _ _ (fun _ _ _ _ _ h => h) ?_
  intro _ _ _ _ _ _ _ _ _ _ _ _ _ _ _ _ wp wz hpk hb0
  have HPK := Lib.hid hpk
  have HB0 := Lib.hid hb0
  clear hpk hb0 H4
  have HAA : Hid (∀ u x ws o n, ws.length = N → Both w1 u bx z mb mg x ws o n bd zd bw gw x0 wsv 0 → Calls Tryz.prog 27 #[.pointer (some ⟨mb, 0, none⟩)] u fun r w' => ∃ g, r = .returned (.slice (some ⟨g, 0, none⟩) N N) ∧ Hid (Md.RowAt w' g ws ∧ u.heap.size ≤ g ∧ Below u.heap.size u w')) := fun u x ws o n hl q => q.all hl
  go_upto_region 14 with (go_at_call 27; refine (HAA.out _ _ _ _ _ HPK.out.len HB0.out).mono ?_; rintro r u5 ⟨g1, rfl, H5⟩; have HB5 := Lib.hid (HB0.out.rows (R := [g1]) H5.out.2.2 (fun g hg => by simp only [List.mem_cons, List.not_mem_nil, or_false] at hg; subst hg; exact ⟨H5.out.2.1, H5.out.1.lt⟩)); have R5 := Lib.hid H5.out.1; clear H5 HB0)
  go_upto_block 2 with fail
  have HRC2 : Hid (∀ u, Below w1.heap.size w1 u → u.cell? ⟨W.heap.size, 0, none⟩ = some (.int .i64 (an : Int)) ∧ u.cell? ⟨W.heap.size, 1, none⟩ = some (.int .i64 (nb : Int)) ∧ u.cell? ⟨W.heap.size, 2, none⟩ = some (.int .i64 c) ∧ u.cell? ⟨W.heap.size, 3, none⟩ = some (.int .i64 e) ∧ W.heap.size < u.heap.size) := fun u q => ⟨(HRC.out u q).1, (HRC.out u q).2.1, (HRC.out u q).2.2.1, (HRC.out u q).2.2.2.1, (HRC.out u q).2.2.2.2.2.2.2.2.2.2.2⟩
  refine bloop _ (W1 := w1) (rb := W.heap.size) (bx := bx) (z := z) (mb := mb) (mg := mg) (bd := bd) (zd := zd) (bw := bw) (gw := gw) (x0 := x0) (wsv := wsv) (wp := wp) (N := N) (nb := nb) (an := an) (g1 := g1) (c := c) (e := e) HX.out.at_.sh ⟨hc1, hc2⟩ ⟨he1, he2⟩ ⟨by omega, by omega⟩ HRC2 (Lib.hid ⟨HX0.out.1, HX0.out.2.2.2.2.2.1⟩) HX0.out.2.2.2.2.2.2.1 HX0.out.2.2.1 (by omega) (by omega) (by omega) HPK.out.len HPK.out.ok (by rw [HPK.out.lo.2.2]; exact HS5.out.2) (Lib.hid ⟨by rw [HPK.out.lo.1, HPK.out.lo.2.1]; exact HS4.out, fun t h0 h1 => HPK.out.zz t h0 (by rw [HX0.out.2.2.1] at h1; exact h1)⟩) (Lib.hid ⟨x0, wp, false, 0, ⟨⟨HX0.out.2.1, HX0.out.2.2.2.2.1, AlikeY.refl _, HPK.out.ok, HPK.out.len, HX0.out.2.2.2.2.2.2.2 wp⟩, by omega⟩, by rw [HX0.out.2.2.2.1]; omega, R5.out, HB5.out⟩) _ (by kernel_rfl) _ _ _ _ _ _ _ _ _ _ _ _ _ _ _ _ _ _ _ _ _ _ _ _ _ _ _ _ _ _ _ _ _ _ _ _ _ _ _ _ _ _ _ _ _ _ _ _ _ _ _ _ _ _ _ _ _ _ _ _ _ _ _ _ _ _ _ _ _ _ _ _ _ _ _ _ _ _ _ _ _ _ _ _ _ _ _ _ _ _ _ _ _ _ _ _ _ _ _ _ _ _ _ _ _ _ _ _ _ _ _ _ _ _ _ _ _ _ _ _ _ _ _ _ _ _ _ _ _ _ _ _ _ _ _ _ _ _ _ _ _ _ _ _ _ _ _ _ _ _ _ _ _ _ _ _ _ _ _ _ _ _ _ _ _ _ _ _ _ _ _ _ _ _ _ _ _ _ _ _ _ _ _ _ _ _ _ _ _ _ _ _ _ _ _ _ _ _ _ _ _ _ _ _ _ _ _ _ _ _ _ _ _ _ _ _ _ _ _ _ _ _ _ _ _ _ _ _ _ _ _ _ _ _ _ _ _ _ _ _ _ _ _ _ _ _ _ _ _ _ _ _ _ _ (fun _ _ _ _ _ h => h) ?_
  intro a' wz' h2 hd hz
  simp only [Exit.then]
  refine bodyPost_ret (results_tmp rfl _ _ _) hd ?_
  rw [h2]
  exact ⟨rfl, H0.out.1.trans (hz.mono H0.out.1.size)⟩
end
end Go.Proofs.YteinilmecnlanaaGreatDoor.Ww
