import Derived.Test.YteinilmecnlanaaGreatDoorRB
import Derived.Test.YteinilmecnlanaaGreatDoorKS
namespace Go.Proofs.YteinilmecnlanaaGreatDoor
open Go.ChangeShapes Go.WideShapes Go.ChangeAt Go.RowKit Num
attribute [local go_sem] run_store_float

section
variable {W w : World} {br bl : Nat} {F0 K : List Nat} {m : Mac} {cs : List Ins}
/-- the boxes of an instruction and of an answer -/
theorem Rg.both (h : Rg W F0 br bl K w m cs) (i : Ins) : ∃ F, Rg ((w.alloc (insO i)).alloc (askO ask0)) F br bl K ((w.alloc (insO i)).alloc (askO ask0)) m cs ∧ ∀ u m', Rg ((w.alloc (insO i)).alloc (askO ask0)) F br bl K u m' cs → u.heap[w.heap.size]? = some (insO i) ∧ u.heap[w.heap.size + 1]? = some (askO ask0) ∧ Rg W F0 br bl K u m' cs ∧ ∀ u', Turn [w.heap.size + 1] [w.heap.size + 1] u u' → Rg W F0 br bl K u' m' cs := by
  obtain ⟨F, h1, h2⟩ := h.away (N := (w.alloc (insO i)).alloc (askO ask0)) ((below_alloc w (insO i)).trans ((below_alloc _ (askO ask0)).mono (by simp)))
  refine ⟨F, h1, fun u m' hu => ?_⟩
  obtain ⟨a1, a2, a3⟩ := h2 u m' hu
  exact ⟨(a1 _ (Nat.le_refl _) (by simp; omega)).trans ((heap_alloc_old _ _ (by simp)).trans (heap_alloc_new w _)), (a1 (w.heap.size + 1) (by omega) (by simp)).trans (heap_new (by simp)), a2, fun u' t => a3 _ u' (by omega) (by simp) t⟩
theorem Rg.at11 (h : Rg W F0 br bl K w m cs) (c : Int) : w.cell? ⟨br, 11, none⟩ = some (.int .i64 m.place) ∧ w.frozen? ⟨br, 11, none⟩ = false ∧ br < w.heap.size ∧ Rg W F0 br bl K (w.setCell ⟨br, 11, none⟩ (.int .i64 c)) { m with place := c } cs := by
  obtain ⟨q, hr, _, _, _⟩ := id h
  exact ⟨(hr.cell 11).trans rfl, hr.free 11, hr.ltB, h.set 11 (.int .i64 c) { m with place := c } (fun q => rfl) ⟨rfl, rfl, rfl, rfl, rfl, rfl, rfl, rfl, rfl⟩ id⟩
theorem Rg.at14 (h : Rg W F0 br bl K w m cs) (o c e : Int) (ho : ¬ o = 0) : (w.cell? ⟨br, 14, none⟩ = some (.int .i64 m.how) ∧ w.cell? ⟨br, 15, none⟩ = some (.int .i64 m.cod) ∧ w.cell? ⟨br, 16, none⟩ = some (.int .i64 m.err)) ∧ (w.frozen? ⟨br, 14, none⟩ = false ∧ w.frozen? ⟨br, 15, none⟩ = false ∧ w.frozen? ⟨br, 16, none⟩ = false) ∧ br < w.heap.size ∧ Rg W F0 br bl K (((w.setCell ⟨br, 14, none⟩ (.int .i64 o)).setCell ⟨br, 15, none⟩ (.int .i64 c)).setCell ⟨br, 16, none⟩ (.int .i64 e)) { m with how := o, cod := c, err := e } cs := by
  obtain ⟨q, hr, _, _, _⟩ := id h
  refine ⟨⟨(hr.cell 14).trans rfl, (hr.cell 15).trans rfl, (hr.cell 16).trans rfl⟩, ⟨hr.free 14, hr.free 15, hr.free 16⟩, hr.ltB, ?_⟩
  have g1 := h.set 14 (.int .i64 o) { m with how := o } (fun q => rfl) ⟨rfl, rfl, rfl, rfl, rfl, rfl, rfl, rfl, rfl⟩ (fun _ z => absurd z ho)
  have g2 := g1.set 15 (.int .i64 c) { m with how := o, cod := c } (fun q => rfl) ⟨rfl, rfl, rfl, rfl, rfl, rfl, rfl, rfl, rfl⟩ (fun _ z => absurd z ho)
  exact g2.set 16 (.int .i64 e) { m with how := o, cod := c, err := e } (fun q => rfl) ⟨rfl, rfl, rfl, rfl, rfl, rfl, rfl, rfl, rfl⟩ (fun _ z => absurd z ho)
/-- it is over: of what it says how, only the first part is stored -/
theorem Rg.over (h : Rg W F0 br bl K w m cs) (h0 : m.how = 0) (he : m.err = 0) : Rg W F0 br bl K (w.setCell ⟨br, 14, none⟩ (.int .i64 1)) { m with how := 1, cod := 0, err := 0 } cs ∧ w.cell? ⟨br, 14, none⟩ = some (.int .i64 m.how) ∧ w.frozen? ⟨br, 14, none⟩ = false ∧ br < w.heap.size := by
  obtain ⟨q, hr, _, _, _⟩ := id h
  have g1 := h.set 14 (.int .i64 1) { m with how := 1 } (fun q => rfl) ⟨rfl, rfl, rfl, rfl, rfl, rfl, rfl, rfl, rfl⟩ (fun _ z => absurd z (by show ¬ (1 : Int) = 0; decide))
  have e : ({ m with how := 1, cod := 0, err := 0 } : Mac) = { m with how := 1 } := by
    have := hr.zc h0
    cases m
    simp_all
  rw [e]
  exact ⟨g1, (hr.cell 14).trans rfl, hr.free 14, hr.ltB⟩
set_option maxRecDepth 100000 in
set_option maxHeartbeats 2000000 in
theorem rdo_push (h : Rg W F0 br bl K w m cs) {n : Int} {x : Nat} (hs : m.st.length < 64) : Calls Tryz.prog 104 #[.pointer (some ⟨br, 0, none⟩), insV ⟨1, n, x⟩] w fun r w' => r = .returned (askV ask0) ∧ Rg W F0 br bl K w' { m with st := fixB x :: m.st } cs := by
  obtain ⟨F, h1, hX⟩ := h.both ⟨1, n, x⟩
  have HX := Lib.hid hX
  have hb := h.ltB
  have HTR : Hid (∀ g, g = ((w.alloc (insO ⟨1, n, x⟩)).alloc (askO ask0)).heap.size → Calls Tryz.prog 105 #[.pointer (some ⟨br, 0, none⟩), .int .i64 0, .slice (some ⟨g, 0, none⟩) 1 1] (((w.alloc (insO ⟨1, n, x⟩)).alloc (askO ask0)).alloc (.cells #[.float .f64 (fixB x)] 73)) fun e w' => e = .returned (.tuple #[]) ∧ Rg ((w.alloc (insO ⟨1, n, x⟩)).alloc (askO ask0)) F br bl K w' { m with st := fixB x :: m.st } cs) := fun g hg => by
    subst hg
    exact h1.trade1 (fixB x) (k := 0) (r := m.st.length) (by omega) (by omega)
  clear h h1 hX hs
  unfold insV
  go_enter Tryz.func104, Tryz.ntmps104
  go_wp2_with (first
    | (go_at_call 105; refine (HTR.out _ (by simp)).mono ?_; rintro e u2 ⟨rfl, q⟩; obtain ⟨r0, r1, r2, r3⟩ := HX.out _ _ q; obtain ⟨⟨c0, c1, c2, c3, c4⟩, d0, d1, d2, d3⟩ := askO_cells r1; obtain ⟨i0, i1, i2, i3⟩ := cells3_of r0; have G9 := Lib.hid (And.intro r1 r3); clear q r0 r1 r2 r3)
    | (go_at_call 72; refine (refFix_any _ _).mono ?_; rintro e u ⟨rfl, hu⟩; subst u))
  exact ask_back rfl (w.heap.size + 1) ask0 rfl (askO_set (k' := ask0) G9.out.1) rfl ⟨rfl, G9.out.2 _ (turn4 _ _ (.int .i64 0) (.int .i64 0) (.float .f64 0) (.bool false))⟩
set_option maxRecDepth 100000 in
set_option maxHeartbeats 2000000 in
theorem rdo_drop (h : Rg W F0 br bl K w m cs) {n : Int} {x : Nat} {y : Nat} {s : List Nat} (hs : m.st = y :: s) (hs2 : m.st.length ≤ 64) : Calls Tryz.prog 104 #[.pointer (some ⟨br, 0, none⟩), insV ⟨2, n, x⟩] w fun r w' => r = .returned (askV ask0) ∧ Rg W F0 br bl K w' { m with st := s } cs := by
  obtain ⟨F, h1, hX⟩ := h.both ⟨2, n, x⟩
  have HX := Lib.hid hX
  have hb := h.ltB
  have HTR : Hid (Calls Tryz.prog 105 #[.pointer (some ⟨br, 0, none⟩), .int .i64 1, .slice none 0 0] ((w.alloc (insO ⟨2, n, x⟩)).alloc (askO ask0)) fun e w' => e = .returned (.tuple #[]) ∧ Rg ((w.alloc (insO ⟨2, n, x⟩)).alloc (askO ask0)) F br bl K w' { m with st := s } cs) := by
    have := rtrade_none h1 (k := 1) (r := s.length) (by rw [hs]; simp) (by omega) hs2
    rw [show m.st.drop 1 = s by rw [hs]; rfl] at this
    exact this
  clear h h1 hX hs hs2
  unfold insV
  go_enter Tryz.func104, Tryz.ntmps104
  go_wp2_with (go_at_call 105; refine HTR.out.mono ?_; rintro e u2 ⟨rfl, q⟩; obtain ⟨r0, r1, r2, r3⟩ := HX.out _ _ q; obtain ⟨⟨c0, c1, c2, c3, c4⟩, d0, d1, d2, d3⟩ := askO_cells r1; obtain ⟨i0, i1, i2, i3⟩ := cells3_of r0; have G9 := Lib.hid (And.intro r1 r3); clear q r0 r1 r2 r3)
  exact ask_back rfl (w.heap.size + 1) ask0 rfl (askO_set (k' := ask0) G9.out.1) rfl ⟨rfl, G9.out.2 _ (turn4 _ _ (.int .i64 0) (.int .i64 0) (.float .f64 0) (.bool false))⟩
set_option maxRecDepth 100000 in
set_option maxHeartbeats 2000000 in
theorem rdo_jump (h : Rg W F0 br bl K w m cs) {n : Int} {x : Nat} : Calls Tryz.prog 104 #[.pointer (some ⟨br, 0, none⟩), insV ⟨11, n, x⟩] w fun r w' => r = .returned (askV ask0) ∧ Rg W F0 br bl K w' { m with place := n } cs := by
  obtain ⟨e1, e2, e3, e4⟩ := h.at11 n
  have G9 := Lib.hid e4
  clear h e4
  unfold insV
  go_enter Tryz.func104, Tryz.ntmps104
  go_wp2
  exact ask_back rfl (w.heap.size + 1) ask0 rfl (heap_new (by simp)) rfl ⟨rfl, (G9.out.alloc _).alloc _⟩
set_option maxRecDepth 100000 in
set_option maxHeartbeats 2000000 in
theorem rdo_abort (h : Rg W F0 br bl K w m cs) {n : Int} {x : Nat} : Calls Tryz.prog 104 #[.pointer (some ⟨br, 0, none⟩), insV ⟨19, n, x⟩] w fun r w' => r = .returned (askV askEnd) ∧ Rg W F0 br bl K w' { m with how := 2, cod := n, err := 0 } cs := by
  obtain ⟨⟨e1, e2, e3⟩, ⟨f1, f2, f3⟩, hb, e4⟩ := h.at14 2 n 0 (by decide)
  have G9 := Lib.hid e4
  clear h e4
  unfold insV
  go_enter Tryz.func104, Tryz.ntmps104
  go_wp2
  exact ask_back rfl (w.heap.size + 1) askEnd rfl (heap_new (by simp)) rfl ⟨rfl, (G9.out.alloc _).alloc _⟩
set_option maxRecDepth 100000 in
set_option maxHeartbeats 2000000 in
theorem rdo_halt (h : Rg W F0 br bl K w m cs) {n : Int} {x : Nat} (h0 : m.how = 0) (he : m.err = 0) : Calls Tryz.prog 104 #[.pointer (some ⟨br, 0, none⟩), insV ⟨20, n, x⟩] w fun r w' => r = .returned (askV askEnd) ∧ Rg W F0 br bl K w' { m with how := 1, cod := 0, err := 0 } cs := by
  obtain ⟨e4, e1, f1, hb⟩ := h.over h0 he
  have G9 := Lib.hid e4
  clear h e4 h0 he
  unfold insV
  go_enter Tryz.func104, Tryz.ntmps104
  go_wp2
  exact ask_back rfl (w.heap.size + 1) askEnd rfl (heap_new (by simp)) rfl ⟨rfl, (G9.out.alloc _).alloc _⟩
set_option maxRecDepth 100000 in
set_option maxHeartbeats 2000000 in
theorem rdo_ret0 (h : Rg W F0 br bl K w m cs) {n : Int} {x : Nat} (h0 : m.how = 0) (he : m.err = 0) (hc : m.calls = []) : Calls Tryz.prog 104 #[.pointer (some ⟨br, 0, none⟩), insV ⟨15, n, x⟩] w fun r w' => r = .returned (askV askEnd) ∧ Rg W F0 br bl K w' { m with how := 1, cod := 0, err := 0 } cs := by
  obtain ⟨e4, e1, f1, hb⟩ := h.over h0 he
  obtain ⟨q, hr, _⟩ := id h
  have e9 : w.cell? ⟨br, 9, none⟩ = some (.slice q.pc 0 q.cc) := by have z : w.cell? ⟨br, 9, none⟩ = some (.slice q.pc m.calls.length q.cc) := (hr.cell 9).trans rfl; rw [hc] at z; exact z
  have G9 := Lib.hid e4
  clear h e4 h0 he hr hc
  unfold insV
  go_enter Tryz.func104, Tryz.ntmps104
  go_wp2
  exact ask_back rfl (w.heap.size + 1) askEnd rfl (heap_new (by simp)) rfl ⟨rfl, (G9.out.alloc _).alloc _⟩
/-- its top, by contract -/
theorem Rg.topG (h : Rg W F0 br bl K w m cs) {k : Nat} (hk : k < m.st.length) (hs : m.st.length ≤ 64) : Calls Tryz.prog 120 #[.pointer (some ⟨br, 0, none⟩), .int .i64 k] w fun e w' => e = .returned (.float .f64 (m.st.getD k 0)) ∧ Rg W F0 br bl K w' m cs := (rtop_any h hk hs).mono fun e w' ⟨a, n, b⟩ => ⟨a, by rw [b]; exact h.same (Same.drewN _ _)⟩
theorem Rg.drop1 (h : Rg W F0 br bl K w m cs) {y : Nat} {s : List Nat} (hs : m.st = y :: s) (hs2 : m.st.length ≤ 64) : Calls Tryz.prog 105 #[.pointer (some ⟨br, 0, none⟩), .int .i64 1, .slice none 0 0] w fun e w' => e = .returned (.tuple #[]) ∧ Rg W F0 br bl K w' { m with st := s } cs := by
  have := rtrade_none h (k := 1) (r := s.length) (by rw [hs]; simp) (by omega) hs2
  rw [show m.st.drop 1 = s by rw [hs]; rfl] at this
  exact this
theorem Rg.trade2 (h : Rg W F0 br bl K w m cs) (a b : Nat) {k r : Nat} (hk : m.st.length = r + k) (hs : m.st.length ≤ 64) : Calls Tryz.prog 105 #[.pointer (some ⟨br, 0, none⟩), .int .i64 k, .slice (some ⟨w.heap.size, 0, none⟩) 2 2] (w.alloc (.cells #[.float .f64 a, .float .f64 b] 73)) fun e w' => e = .returned (.tuple #[]) ∧ Rg W F0 br bl K w' { m with st := b :: a :: m.st.drop k } cs :=
  rtrade_some (h.alloc _) (l := [a, b]) hk rfl (by omega) (by omega) hs (fun j v hv => by
    match j, hv with
    | 0, hv => rw [cell_of_row _ _ _ _ _ _ (heap_alloc_new w _)]; simpa [fls] using hv
    | 1, hv => rw [cell_of_row _ _ _ _ _ _ (heap_alloc_new w _)]; simpa [fls] using hv
    | j + 2, hv => simp [fls] at hv)
set_option maxRecDepth 100000 in
set_option maxHeartbeats 2000000 in
theorem rdo_dup (h : Rg W F0 br bl K w m cs) {n : Int} {x : Nat} {y : Nat} {s : List Nat} (hs : m.st = y :: s) (hs2 : m.st.length ≤ 64) : Calls Tryz.prog 104 #[.pointer (some ⟨br, 0, none⟩), insV ⟨3, n, x⟩] w fun r w' => r = .returned (askV ask0) ∧ Rg W F0 br bl K w' { m with st := y :: m.st } cs := by
  obtain ⟨F, h1, hX⟩ := h.both ⟨3, n, x⟩
  have HX := Lib.hid hX
  have hb := h.ltB
  have HT : Hid (∀ u, Rg ((w.alloc (insO ⟨3, n, x⟩)).alloc (askO ask0)) F br bl K u m cs → Calls Tryz.prog 120 #[.pointer (some ⟨br, 0, none⟩), .int .i64 0] u fun e w' => e = .returned (.float .f64 y) ∧ Rg ((w.alloc (insO ⟨3, n, x⟩)).alloc (askO ask0)) F br bl K w' m cs) := fun u hu => by
    have := hu.topG (k := 0) (by rw [hs]; simp) hs2
    rw [hs] at this
    exact this
  have HTR : Hid (∀ u x1, Rg ((w.alloc (insO ⟨3, n, x⟩)).alloc (askO ask0)) F br bl K u m cs → Calls Tryz.prog 105 #[.pointer (some ⟨br, 0, none⟩), .int .i64 0, .slice (some ⟨u.heap.size, 0, none⟩) 1 1] (u.alloc (.cells #[.float .f64 x1] 73)) fun e w' => e = .returned (.tuple #[]) ∧ Rg ((w.alloc (insO ⟨3, n, x⟩)).alloc (askO ask0)) F br bl K w' { m with st := x1 :: m.st } cs) := fun u x1 hu => by
    have := hu.trade1 x1 (k := 0) (r := m.st.length) (by omega) hs2
    rw [List.drop_zero] at this
    exact this
  have G0 := Lib.hid h1
  clear h h1 hX hs hs2
  unfold insV
  go_enter Tryz.func104, Tryz.ntmps104
  go_wp2_with (first
    | (go_at_call 105; refine (HTR.out _ _ G1.out).mono ?_; rintro e u9 ⟨rfl, q⟩; obtain ⟨r0, r1, r2, r3⟩ := HX.out _ _ q; obtain ⟨⟨c0, c1, c2, c3, c4⟩, d0, d1, d2, d3⟩ := askO_cells r1; obtain ⟨i0, i1, i2, i3⟩ := cells3_of r0; have G9 := Lib.hid (And.intro r1 r3); clear q r0 r1 r2 r3)
    | (go_at_call 120; refine (HT.out _ G0.out).mono ?_; rintro e u1 ⟨rfl, q⟩; have G1 := Lib.hid q; clear q))
  exact ask_back rfl (w.heap.size + 1) ask0 rfl (askO_set (k' := ask0) G9.out.1) rfl ⟨rfl, G9.out.2 _ (turn4 _ _ (.int .i64 0) (.int .i64 0) (.float .f64 0) (.bool false))⟩
set_option maxRecDepth 100000 in
set_option maxHeartbeats 2000000 in
theorem rdo_swap (h : Rg W F0 br bl K w m cs) {n : Int} {x : Nat} {y z : Nat} {s : List Nat} (hs : m.st = y :: z :: s) (hs2 : m.st.length ≤ 64) : Calls Tryz.prog 104 #[.pointer (some ⟨br, 0, none⟩), insV ⟨4, n, x⟩] w fun r w' => r = .returned (askV ask0) ∧ Rg W F0 br bl K w' { m with st := z :: y :: s } cs := by
  obtain ⟨F, h1, hX⟩ := h.both ⟨4, n, x⟩
  have HX := Lib.hid hX
  have hb := h.ltB
  have HT : Hid (∀ u, Rg ((w.alloc (insO ⟨4, n, x⟩)).alloc (askO ask0)) F br bl K u m cs → Calls Tryz.prog 120 #[.pointer (some ⟨br, 0, none⟩), .int .i64 0] u fun e w' => e = .returned (.float .f64 y) ∧ Rg ((w.alloc (insO ⟨4, n, x⟩)).alloc (askO ask0)) F br bl K w' m cs) := fun u hu => by
    have := hu.topG (k := 0) (by rw [hs]; simp) hs2
    rw [hs] at this
    exact this
  have HT1 : Hid (∀ u, Rg ((w.alloc (insO ⟨4, n, x⟩)).alloc (askO ask0)) F br bl K u m cs → Calls Tryz.prog 120 #[.pointer (some ⟨br, 0, none⟩), .int .i64 1] u fun e w' => e = .returned (.float .f64 z) ∧ Rg ((w.alloc (insO ⟨4, n, x⟩)).alloc (askO ask0)) F br bl K w' m cs) := fun u hu => by
    have := hu.topG (k := 1) (by rw [hs]; simp) hs2
    rw [hs] at this
    exact this
  have G0 := Lib.hid h1
  have HTR : Hid (∀ u a b, Rg ((w.alloc (insO ⟨4, n, x⟩)).alloc (askO ask0)) F br bl K u m cs → Calls Tryz.prog 105 #[.pointer (some ⟨br, 0, none⟩), .int .i64 2, .slice (some ⟨u.heap.size, 0, none⟩) 2 2] (u.alloc (.cells #[.float .f64 a, .float .f64 b] 73)) fun e w' => e = .returned (.tuple #[]) ∧ Rg ((w.alloc (insO ⟨4, n, x⟩)).alloc (askO ask0)) F br bl K w' { m with st := b :: a :: s } cs) := fun u a b hu => by
    have := hu.trade2 a b (k := 2) (r := s.length) (by rw [hs]; simp) hs2
    rw [show m.st.drop 2 = s by rw [hs]; rfl] at this
    exact this
  clear h h1 hX hs hs2
  unfold insV
  go_enter Tryz.func104, Tryz.ntmps104
  go_wp2_with (first
    | (go_at_call 105; refine (HTR.out _ _ _ G2.out).mono ?_; rintro e u9 ⟨rfl, q⟩; obtain ⟨r0, r1, r2, r3⟩ := HX.out _ _ q; obtain ⟨⟨c0, c1, c2, c3, c4⟩, d0, d1, d2, d3⟩ := askO_cells r1; obtain ⟨i0, i1, i2, i3⟩ := cells3_of r0; have G9 := Lib.hid (And.intro r1 r3); clear q r0 r1 r2 r3)
    | (go_at_call 120; refine (HT1.out _ G1.out).mono ?_; rintro e u2 ⟨rfl, q⟩; have G2 := Lib.hid q; clear q)
    | (go_at_call 120; refine (HT.out _ G0.out).mono ?_; rintro e u1 ⟨rfl, q⟩; have G1 := Lib.hid q; clear q))
  exact ask_back rfl (w.heap.size + 1) ask0 rfl (askO_set (k' := ask0) G9.out.1) rfl ⟨rfl, G9.out.2 _ (turn4 _ _ (.int .i64 0) (.int .i64 0) (.float .f64 0) (.bool false))⟩
set_option maxRecDepth 100000 in
set_option maxHeartbeats 2000000 in
theorem rdo_pick (h : Rg W F0 br bl K w m cs) {n : Int} {x : Nat} {k : Nat} (hn : n = k) (hk : k < m.st.length) (hs2 : m.st.length ≤ 64) : Calls Tryz.prog 104 #[.pointer (some ⟨br, 0, none⟩), insV ⟨5, n, x⟩] w fun r w' => r = .returned (askV ask0) ∧ Rg W F0 br bl K w' { m with st := m.st.getD k 0 :: m.st } cs := by
  subst hn
  obtain ⟨F, h1, hX⟩ := h.both ⟨5, k, x⟩
  have HX := Lib.hid hX
  have hb := h.ltB
  have HT : Hid (∀ u, Rg ((w.alloc (insO ⟨5, k, x⟩)).alloc (askO ask0)) F br bl K u m cs → Calls Tryz.prog 120 #[.pointer (some ⟨br, 0, none⟩), .int .i64 k] u fun e w' => e = .returned (.float .f64 (m.st.getD k 0)) ∧ Rg ((w.alloc (insO ⟨5, k, x⟩)).alloc (askO ask0)) F br bl K w' m cs) := fun u hu => by
    have := hu.topG (k := k) hk hs2
    skip
    exact this
  have HTR : Hid (∀ u x1, Rg ((w.alloc (insO ⟨5, k, x⟩)).alloc (askO ask0)) F br bl K u m cs → Calls Tryz.prog 105 #[.pointer (some ⟨br, 0, none⟩), .int .i64 0, .slice (some ⟨u.heap.size, 0, none⟩) 1 1] (u.alloc (.cells #[.float .f64 x1] 73)) fun e w' => e = .returned (.tuple #[]) ∧ Rg ((w.alloc (insO ⟨5, k, x⟩)).alloc (askO ask0)) F br bl K w' { m with st := x1 :: m.st } cs) := fun u x1 hu => by
    have := hu.trade1 x1 (k := 0) (r := m.st.length) (by omega) hs2
    rw [List.drop_zero] at this
    exact this
  have G0 := Lib.hid h1
  clear h h1 hX hk hs2
  generalize m.st.getD k 0 = y at *
  unfold insV
  go_enter Tryz.func104, Tryz.ntmps104
  go_wp2_with (first
    | (go_at_call 105; refine (HTR.out _ _ G1.out).mono ?_; rintro e u9 ⟨rfl, q⟩; obtain ⟨r0, r1, r2, r3⟩ := HX.out _ _ q; obtain ⟨⟨c0, c1, c2, c3, c4⟩, d0, d1, d2, d3⟩ := askO_cells r1; obtain ⟨i0, i1, i2, i3⟩ := cells3_of r0; have G9 := Lib.hid (And.intro r1 r3); clear q r0 r1 r2 r3)
    | (go_at_call 120; refine (HT.out _ G0.out).mono ?_; rintro e u1 ⟨rfl, q⟩; have G1 := Lib.hid q; clear q))
  exact ask_back rfl (w.heap.size + 1) ask0 rfl (askO_set (k' := ask0) G9.out.1) rfl ⟨rfl, G9.out.2 _ (turn4 _ _ (.int .i64 0) (.int .i64 0) (.float .f64 0) (.bool false))⟩
end
end Go.Proofs.YteinilmecnlanaaGreatDoor
namespace Go.Proofs.YteinilmecnlanaaGreatDoor
open Go.ChangeShapes Go.WideShapes Go.ChangeAt Go.RowKit Num
attribute [local go_sem] run_store_float

section
variable {W w : World} {br bl : Nat} {F0 K : List Nat} {m : Mac} {cs : List Ins}
theorem bl_drw {N u : World} {B : Nat} (h : Below B N u) : Below B N u.drew := h.trans ((Same.drew _).below _)
theorem bl_new {N u : World} (h : Below N.heap.size N u) (o : Obj) : Below N.heap.size N (u.alloc o) := h.alloc h.size o
theorem eight_at (f : Nat → Nat) {k : Nat} (h : k < 8) : (fls (eight f))[k]? = some (.float .f64 (f k)) := by
  match k, h with
  | 0, _ => rfl
  | 1, _ => rfl
  | 2, _ => rfl
  | 3, _ => rfl
  | 4, _ => rfl
  | 5, _ => rfl
  | 6, _ => rfl
  | 7, _ => rfl
theorem eight_put (f : Nat → Nat) (x : Nat) {k : Nat} (h : k < 8) : (fls (eight f)).set k (.float .f64 x) = fls (eight (updF f k x)) := by
  match k, h with
  | 0, _ => rfl
  | 1, _ => rfl
  | 2, _ => rfl
  | 3, _ => rfl
  | 4, _ => rfl
  | 5, _ => rfl
  | 6, _ => rfl
  | 7, _ => rfl
theorem Rg.argAt (h : Rg W F0 br bl K w m cs) {k : Nat} (hk : k < 8) : ∃ g o c, w.cell? ⟨br, 7, none⟩ = some (.slice (some ⟨g, o, none⟩) 8 c) ∧ w.cell? ⟨g, o + k, none⟩ = some (.float .f64 (m.args k)) ∧ g < w.heap.size ∧ br < w.heap.size := by
  obtain ⟨q, hr, _⟩ := h
  obtain ⟨g, o, e, c, hl⟩ := hr.arg.get (eight_at m.args hk)
  exact ⟨g, o, q.ca, by rw [← e, ← hr.na]; exact (hr.cell 7).trans rfl, c, hl, hr.ltB⟩
theorem Rg.locAt (h : Rg W F0 br bl K w m cs) {k : Nat} (hk : k < 8) : ∃ c, w.cell? ⟨br, 10, none⟩ = some (.slice (some ⟨bl, 0, none⟩) 8 c) ∧ w.cell? ⟨bl, k, none⟩ = some (.float .f64 (m.loc k)) ∧ w.frozen? ⟨bl, k, none⟩ = false ∧ bl < w.heap.size ∧ br < w.heap.size ∧ br ≠ bl := by
  obtain ⟨q, hr, ⟨rfl, _⟩, _⟩ := h
  obtain ⟨c1, c2, c3⟩ := row_get hr.loc (eight_at m.loc hk)
  exact ⟨q.cl, (hr.cell 10).trans rfl, c1, c2, c3, hr.ltB, hr.ne⟩
theorem Rg.setL (h : Rg W F0 br bl K w m cs) {k : Nat} (hk : k < 8) (x : Nat) : Rg W F0 br bl K (w.setCell ⟨bl, k, none⟩ (.float .f64 x)) { m with loc := updF m.loc k x } cs := by
  obtain ⟨q, hr, ⟨rfl, hK⟩, ht, hF⟩ := h
  obtain ⟨r, t⟩ := row_put hr.loc k (.float .f64 x)
  rw [eight_put m.loc x hk] at r
  have kk : ∀ p ∈ q.rows, Kept (fpR p) w (w.setCell ⟨q.bl, k, none⟩ (.float .f64 x)) := fun p hp => t.kept (fun y hy z => by simp at z; subst z; exact (hr.ap p hp).2 hy) (fun y hy => hr.lt y (in_fr hp hy))
  refine ⟨q, { hr with box := ?_, loc := r, arg := hr.arg.keep (kk _ (by simp [Rp.rows])), st := hr.st.keep (kk _ (by simp [Rp.rows])), cal := hr.cal.keep (kk _ (by simp [Rp.rows])), out := hr.out.keep (kk _ (by simp [Rp.rows])), rds := hr.rds.keep (kk _ (by simp [Rp.rows])), buf := hr.buf.keep (kk _ (by simp [Rp.rows])), cod := hr.cod.keepK (t.kept (fun y hy z => by simp at z; subst z; exact hr.apk.2 hy) hr.ltk), lt := fun y hy => Nat.lt_of_lt_of_le (hr.lt y hy) t.size, ltk := fun y hy => Nat.lt_of_lt_of_le (hr.ltk y hy) t.size }, ⟨rfl, hK⟩, ht.trans (t.wide (by simp)), hF⟩
  exact (heap_setCell_other _ _ _ _ (by simpa using hr.ne)).trans hr.box
set_option maxRecDepth 100000 in
set_option maxHeartbeats 2000000 in
theorem rdo_arg (h : Rg W F0 br bl K w m cs) {n : Int} {x : Nat} {k : Nat} (hn : n = k) (hk : k < 8) (hs2 : m.st.length ≤ 63) : Calls Tryz.prog 104 #[.pointer (some ⟨br, 0, none⟩), insV ⟨6, n, x⟩] w fun r w' => r = .returned (askV ask0) ∧ Rg W F0 br bl K w' { m with st := m.args k :: m.st } cs := by
  subst hn
  obtain ⟨F, h1, hX⟩ := h.both ⟨6, k, x⟩
  have HX := Lib.hid hX
  have hb := h.ltB
  obtain ⟨g0, o0, c0', e1, e2, e3, e4⟩ := h.argAt hk
  have HTR : Hid (∀ g, g = ((w.alloc (insO ⟨6, k, x⟩)).alloc (askO ask0)).heap.size → Calls Tryz.prog 105 #[.pointer (some ⟨br, 0, none⟩), .int .i64 0, .slice (some ⟨g, 0, none⟩) 1 1] (((w.alloc (insO ⟨6, k, x⟩)).alloc (askO ask0)).drew.alloc (.cells #[.float .f64 (m.args k)] 73)) fun e w' => e = .returned (.tuple #[]) ∧ Rg ((w.alloc (insO ⟨6, k, x⟩)).alloc (askO ask0)) F br bl K w' { m with st := m.args k :: m.st } cs) := fun g hg => by
    subst hg
    have := (h1.same (Same.drew _)).trade1 (m.args k) (k := 0) (r := m.st.length) (by omega) (by omega)
    rw [List.drop_zero] at this
    exact this
  have hk' : (k : Int) < 8 := by omega
  have HS : Hid (∀ u, Below (w.alloc (insO ⟨6, k, x⟩)).heap.size (w.alloc (insO ⟨6, k, x⟩)) u → (fun u => u.cell? ⟨br, 7, none⟩ = some (.slice (some ⟨g0, o0, none⟩) 8 c0') ∧ u.cell? ⟨w.heap.size, 1, none⟩ = some (.int .i64 (k : Int)) ∧ u.cell? ⟨g0, o0 + k, none⟩ = some (.float .f64 (m.args k))) u) := fun u hu => by
    have b1 : Below w.heap.size w u := (below_alloc w _).trans (hu.mono (by simp))
    exact ⟨(b1.cell (p := ⟨br, 7, none⟩) e4).trans e1, (insO_at hu).2.1, (b1.cell (p := ⟨g0, o0 + k, none⟩) e3).trans e2⟩
  clear h h1 hX hs2
  generalize m.args k = y at *
  unfold insV
  go_enter Tryz.func104, Tryz.ntmps104
  go_wp2
  refine wp_region_seqE (fun u => u.cell? ⟨br, 7, none⟩ = some (.slice (some ⟨g0, o0, none⟩) 8 c0') ∧ u.cell? ⟨w.heap.size, 1, none⟩ = some (.int .i64 (k : Int)) ∧ u.cell? ⟨g0, o0 + k, none⟩ = some (.float .f64 y)) ((0, true) :: (1, true) :: (2, true) :: (3, true) :: (4, true) :: (5, true) :: (6, true) :: (7, true) :: (8, true) :: (9, false) :: (10, false) :: []) (by kernel_rfl) (by kernel_rfl) (fun _ _ _ _ _ h => h) (HS.out _ (bl_drw (below_alloc (w.alloc (insO ⟨6, k, x⟩)) (askO ask0)))) ?_
  repeat (first
    | (refine wpSeqE_take (v := ?_) rfl (by rfl) (fun wq hSq => ?_) ?_; rotate_left; (focus ((try dsimp only at hSq); go_simp; try with_reducible rfl)); simp only [Act.put, List.setIfInBounds_toArray, List.set_cons_zero, List.set_cons_succ]))
  refine wpSeqE_do rfl (by rfl) (fun K hK => ?_)
  go_simp
  refine hK.out _ _ (fun _ => HS.out _ (bl_new (bl_drw (below_alloc (w.alloc (insO ⟨6, k, x⟩)) (askO ask0))) _)) ?_
  clear hK K
  try simp only [Act.put, List.setIfInBounds_toArray, List.set_cons_zero, List.set_cons_succ]
  refine wpSeqE_do rfl (by rfl) (fun K hK => ?_)
  go_simp
  refine (HTR.out _ (by simp)).mono ?_
  rintro e u9 ⟨rfl, q⟩
  obtain ⟨r0, r1, r2, r3⟩ := HX.out _ _ q; obtain ⟨⟨c0, c1, c2, c3, c4⟩, d0, d1, d2, d3⟩ := askO_cells r1; obtain ⟨i0, i1, i2, i3⟩ := cells3_of r0; have G9 := Lib.hid (And.intro r1 r3); clear q r0 r1 r2 r3
  refine hK.out _ _ (fun z => absurd rfl z) ?_
  clear hK K
  refine wpSeqE_nil ?_
  go_wp2
  exact ask_back rfl (w.heap.size + 1) ask0 rfl (askO_set (k' := ask0) G9.out.1) rfl ⟨rfl, G9.out.2 _ (turn4 _ _ (.int .i64 0) (.int .i64 0) (.float .f64 0) (.bool false))⟩
set_option maxRecDepth 100000 in
set_option maxHeartbeats 2000000 in
theorem rdo_get (h : Rg W F0 br bl K w m cs) {n : Int} {x : Nat} {k : Nat} (hn : n = k) (hk : k < 8) (hs2 : m.st.length ≤ 63) : Calls Tryz.prog 104 #[.pointer (some ⟨br, 0, none⟩), insV ⟨7, n, x⟩] w fun r w' => r = .returned (askV ask0) ∧ Rg W F0 br bl K w' { m with st := m.loc k :: m.st } cs := by
  subst hn
  obtain ⟨F, h1, hX⟩ := h.both ⟨7, k, x⟩
  have HX := Lib.hid hX
  have hb := h.ltB
  obtain ⟨c0', e1, e2, e3, e4, e5, e6⟩ := h.locAt hk
  have HTR : Hid (∀ g, g = ((w.alloc (insO ⟨7, k, x⟩)).alloc (askO ask0)).heap.size → Calls Tryz.prog 105 #[.pointer (some ⟨br, 0, none⟩), .int .i64 0, .slice (some ⟨g, 0, none⟩) 1 1] (((w.alloc (insO ⟨7, k, x⟩)).alloc (askO ask0)).drew.alloc (.cells #[.float .f64 (m.loc k)] 73)) fun e w' => e = .returned (.tuple #[]) ∧ Rg ((w.alloc (insO ⟨7, k, x⟩)).alloc (askO ask0)) F br bl K w' { m with st := m.loc k :: m.st } cs) := fun g hg => by
    subst hg
    have := (h1.same (Same.drew _)).trade1 (m.loc k) (k := 0) (r := m.st.length) (by omega) (by omega)
    rw [List.drop_zero] at this
    exact this
  have hk' : (k : Int) < 8 := by omega
  have HS : Hid (∀ u, Below (w.alloc (insO ⟨7, k, x⟩)).heap.size (w.alloc (insO ⟨7, k, x⟩)) u → (fun u => u.cell? ⟨br, 10, none⟩ = some (.slice (some ⟨bl, 0, none⟩) 8 c0') ∧ u.cell? ⟨w.heap.size, 1, none⟩ = some (.int .i64 (k : Int)) ∧ u.cell? ⟨bl, k, none⟩ = some (.float .f64 (m.loc k))) u) := fun u hu => by
    have b1 : Below w.heap.size w u := (below_alloc w _).trans (hu.mono (by simp))
    exact ⟨(b1.cell (p := ⟨br, 10, none⟩) e5).trans e1, (insO_at hu).2.1, (b1.cell (p := ⟨bl, k, none⟩) e4).trans e2⟩
  clear h h1 hX hs2
  generalize m.loc k = y at *
  unfold insV
  go_enter Tryz.func104, Tryz.ntmps104
  go_wp2
  refine wp_region_seqE (fun u => u.cell? ⟨br, 10, none⟩ = some (.slice (some ⟨bl, 0, none⟩) 8 c0') ∧ u.cell? ⟨w.heap.size, 1, none⟩ = some (.int .i64 (k : Int)) ∧ u.cell? ⟨bl, k, none⟩ = some (.float .f64 y)) ((0, true) :: (1, true) :: (2, true) :: (3, true) :: (4, true) :: (5, true) :: (6, true) :: (7, true) :: (8, true) :: (9, false) :: (10, false) :: []) (by kernel_rfl) (by kernel_rfl) (fun _ _ _ _ _ h => h) (HS.out _ (bl_drw (below_alloc (w.alloc (insO ⟨7, k, x⟩)) (askO ask0)))) ?_
  repeat (first
    | (refine wpSeqE_take (v := ?_) rfl (by rfl) (fun wq hSq => ?_) ?_; rotate_left; (focus ((try dsimp only at hSq); go_simp; try with_reducible rfl)); simp only [Act.put, List.setIfInBounds_toArray, List.set_cons_zero, List.set_cons_succ]))
  refine wpSeqE_do rfl (by rfl) (fun K hK => ?_)
  go_simp
  refine hK.out _ _ (fun _ => HS.out _ (bl_new (bl_drw (below_alloc (w.alloc (insO ⟨7, k, x⟩)) (askO ask0))) _)) ?_
  clear hK K
  try simp only [Act.put, List.setIfInBounds_toArray, List.set_cons_zero, List.set_cons_succ]
  refine wpSeqE_do rfl (by rfl) (fun K hK => ?_)
  go_simp
  refine (HTR.out _ (by simp)).mono ?_
  rintro e u9 ⟨rfl, q⟩
  obtain ⟨r0, r1, r2, r3⟩ := HX.out _ _ q; obtain ⟨⟨c0, c1, c2, c3, c4⟩, d0, d1, d2, d3⟩ := askO_cells r1; obtain ⟨i0, i1, i2, i3⟩ := cells3_of r0; have G9 := Lib.hid (And.intro r1 r3); clear q r0 r1 r2 r3
  refine hK.out _ _ (fun z => absurd rfl z) ?_
  clear hK K
  refine wpSeqE_nil ?_
  go_wp2
  exact ask_back rfl (w.heap.size + 1) ask0 rfl (askO_set (k' := ask0) G9.out.1) rfl ⟨rfl, G9.out.2 _ (turn4 _ _ (.int .i64 0) (.int .i64 0) (.float .f64 0) (.bool false))⟩
set_option maxRecDepth 100000 in
set_option maxHeartbeats 2000000 in
theorem rdo_one (h : Rg W F0 br bl K w m cs) {n : Int} {x : Nat} (hn : 1 ≤ n ∧ n ≤ 8) {y : Nat} {s : List Nat} (hs : m.st = y :: s) (hs2 : m.st.length ≤ 64) (hy : okN y) : Calls Tryz.prog 104 #[.pointer (some ⟨br, 0, none⟩), insV ⟨9, n, x⟩] w fun r w' => r = .returned (askV ask0) ∧ Rg W F0 br bl K w' { m with st := oneV n y :: s } cs := by
  obtain ⟨F, h1, hX⟩ := h.both ⟨9, n, x⟩
  have HX := Lib.hid hX
  have hb := h.ltB
  have HT : Hid (∀ u, Rg ((w.alloc (insO ⟨9, n, x⟩)).alloc (askO ask0)) F br bl K u m cs → Calls Tryz.prog 120 #[.pointer (some ⟨br, 0, none⟩), .int .i64 0] u fun e w' => e = .returned (.float .f64 y) ∧ Rg ((w.alloc (insO ⟨9, n, x⟩)).alloc (askO ask0)) F br bl K w' m cs) := fun u hu => by
    have := hu.topG (k := 0) (by rw [hs]; simp) hs2
    rw [hs] at this
    exact this
  have HIN : Hid (∀ u m', Rg ((w.alloc (insO ⟨9, n, x⟩)).alloc (askO ask0)) F br bl K u m' cs → u.cell? ⟨w.heap.size, 0, none⟩ = some (.int .i64 9) ∧ u.cell? ⟨w.heap.size, 1, none⟩ = some (.int .i64 n) ∧ w.heap.size < u.heap.size) := fun u m' hu => by
    obtain ⟨z0, z1, z2, z3⟩ := cells3_of (HX.out u m' hu).1
    exact ⟨z0, z1, z3⟩
  have HTR : Hid (∀ u x1, Rg ((w.alloc (insO ⟨9, n, x⟩)).alloc (askO ask0)) F br bl K u m cs → Calls Tryz.prog 105 #[.pointer (some ⟨br, 0, none⟩), .int .i64 1, .slice (some ⟨u.heap.size, 0, none⟩) 1 1] (u.alloc (.cells #[.float .f64 x1] 73)) fun e w' => e = .returned (.tuple #[]) ∧ Rg ((w.alloc (insO ⟨9, n, x⟩)).alloc (askO ask0)) F br bl K w' { m with st := x1 :: s } cs) := fun u x1 hu => by
    have := hu.trade1 x1 (k := 1) (r := s.length) (by rw [hs]; simp) hs2
    rw [show m.st.drop 1 = s by rw [hs]; rfl] at this
    exact this
  have HO : Hid (∀ u, Calls Tryz.prog 121 #[.int .i64 n, .float .f64 y] u fun e w' => e = .returned (.tuple #[.float .f64 (oneV n y), .int .i64 0]) ∧ Below u.heap.size u w') := fun u => rone_any hn hy u
  have G0 := Lib.hid (h1.same (Same.drew _))
  clear h h1 hX hs hs2 hn hy
  generalize oneV n y = v1 at *
  unfold insV
  go_enter Tryz.func104, Tryz.ntmps104
  go_wp2
  refine wp_region_seq (fun u => u.cell? ⟨w.heap.size, 1, none⟩ = some (.int .i64 n)) ((0, true) :: (1, true) :: (2, true) :: (3, false) :: (4, false) :: (5, true) :: (6, true) :: (7, true) :: (8, true) :: (9, true) :: []) (by kernel_rfl) (by kernel_rfl) (fun _ _ _ _ _ h => h) ((HIN.out _ _ G0.out).2.1) ?_
  repeat (first
    | (refine wpSeq_take (v := ?_) rfl (by rfl) (fun wq hSq => ?_) ?_; rotate_left; (focus ((try dsimp only at hSq); go_simp; try with_reducible rfl)); simp only [Act.put, List.setIfInBounds_toArray, List.set_cons_zero, List.set_cons_succ]))
  refine wpSeq_do rfl (by rfl) (fun K hK => ?_)
  go_simp
  refine (HT.out _ G0.out).mono ?_
  rintro e u1 ⟨rfl, q⟩
  have G1 := Lib.hid q
  clear q
  refine hK.out _ _ (HIN.out _ _ G1.out).2.1 ?_
  clear hK K
  try simp only [Act.put, List.setIfInBounds_toArray, List.set_cons_zero, List.set_cons_succ]
  repeat (first
    | (refine wpSeq_take (v := ?_) rfl (by rfl) (fun wq hSq => ?_) ?_; rotate_left; (focus ((try dsimp only at hSq); go_simp; try with_reducible rfl)); simp only [Act.put, List.setIfInBounds_toArray, List.set_cons_zero, List.set_cons_succ]))
  refine wpSeq_do rfl (by rfl) (fun K hK => ?_)
  go_simp
  refine (HO.out _).mono ?_
  rintro e u2 ⟨rfl, q⟩
  have G2 := Lib.hid (G1.out.on q)
  clear q
  refine hK.out _ _ (HIN.out _ _ G2.out).2.1 ?_
  clear hK K
  try simp only [Act.put, List.setIfInBounds_toArray, List.set_cons_zero, List.set_cons_succ]
  repeat (first
    | (refine wpSeq_take (v := ?_) rfl (by rfl) (fun wq hSq => ?_) ?_; rotate_left; (focus ((try dsimp only at hSq); go_simp; try with_reducible rfl)); simp only [Act.put, List.setIfInBounds_toArray, List.set_cons_zero, List.set_cons_succ]))
  refine wpSeq_nil ?_
  go_wp2_with (go_at_call 105; refine (HTR.out _ _ G2.out).mono ?_; rintro e u9 ⟨rfl, q⟩; obtain ⟨r0, r1, r2, r3⟩ := HX.out _ _ q; obtain ⟨⟨c0, c1, c2, c3, c4⟩, d0, d1, d2, d3⟩ := askO_cells r1; obtain ⟨i0, i1, i2, i3⟩ := cells3_of r0; have G9 := Lib.hid (And.intro r1 r3); clear q r0 r1 r2 r3)
  exact ask_back rfl (w.heap.size + 1) ask0 rfl (askO_set (k' := ask0) G9.out.1) rfl ⟨rfl, G9.out.2 _ (turn4 _ _ (.int .i64 0) (.int .i64 0) (.float .f64 0) (.bool false))⟩
set_option maxRecDepth 100000 in
set_option maxHeartbeats 2000000 in
theorem rdo_two (h : Rg W F0 br bl K w m cs) {n : Int} {x : Nat} (hn : 1 ≤ n ∧ n ≤ 12) {y z : Nat} {s : List Nat} (hs : m.st = y :: z :: s) (hs2 : m.st.length ≤ 64) (hy : okN y) (hz : okN z) : Calls Tryz.prog 104 #[.pointer (some ⟨br, 0, none⟩), insV ⟨10, n, x⟩] w fun r w' => r = .returned (askV ask0) ∧ Rg W F0 br bl K w' { m with st := twoV n z y :: s } cs := by
  obtain ⟨F, h1, hX⟩ := h.both ⟨10, n, x⟩
  have HX := Lib.hid hX
  have hb := h.ltB
  have HT : Hid (∀ u, Rg ((w.alloc (insO ⟨10, n, x⟩)).alloc (askO ask0)) F br bl K u m cs → Calls Tryz.prog 120 #[.pointer (some ⟨br, 0, none⟩), .int .i64 0] u fun e w' => e = .returned (.float .f64 y) ∧ Rg ((w.alloc (insO ⟨10, n, x⟩)).alloc (askO ask0)) F br bl K w' m cs) := fun u hu => by
    have := hu.topG (k := 0) (by rw [hs]; simp) hs2
    rw [hs] at this
    exact this
  have HT1 : Hid (∀ u, Rg ((w.alloc (insO ⟨10, n, x⟩)).alloc (askO ask0)) F br bl K u m cs → Calls Tryz.prog 120 #[.pointer (some ⟨br, 0, none⟩), .int .i64 1] u fun e w' => e = .returned (.float .f64 z) ∧ Rg ((w.alloc (insO ⟨10, n, x⟩)).alloc (askO ask0)) F br bl K w' m cs) := fun u hu => by
    have := hu.topG (k := 1) (by rw [hs]; simp) hs2
    rw [hs] at this
    exact this
  have HIN : Hid (∀ u m', Rg ((w.alloc (insO ⟨10, n, x⟩)).alloc (askO ask0)) F br bl K u m' cs → u.cell? ⟨w.heap.size, 0, none⟩ = some (.int .i64 10) ∧ u.cell? ⟨w.heap.size, 1, none⟩ = some (.int .i64 n) ∧ w.heap.size < u.heap.size) := fun u m' hu => by
    obtain ⟨z0, z1, z2, z3⟩ := cells3_of (HX.out u m' hu).1
    exact ⟨z0, z1, z3⟩
  have HTR : Hid (∀ u x1, Rg ((w.alloc (insO ⟨10, n, x⟩)).alloc (askO ask0)) F br bl K u m cs → Calls Tryz.prog 105 #[.pointer (some ⟨br, 0, none⟩), .int .i64 2, .slice (some ⟨u.heap.size, 0, none⟩) 1 1] (u.alloc (.cells #[.float .f64 x1] 73)) fun e w' => e = .returned (.tuple #[]) ∧ Rg ((w.alloc (insO ⟨10, n, x⟩)).alloc (askO ask0)) F br bl K w' { m with st := x1 :: s } cs) := fun u x1 hu => by
    have := hu.trade1 x1 (k := 2) (r := s.length) (by rw [hs]; simp) hs2
    rw [show m.st.drop 2 = s by rw [hs]; rfl] at this
    exact this
  have HO : Hid (∀ u, Calls Tryz.prog 122 #[.int .i64 n, .float .f64 z, .float .f64 y] u fun e w' => e = .returned (.tuple #[.float .f64 (twoV n z y), .int .i64 0]) ∧ Below u.heap.size u w') := fun u => rtwo_any hn hz hy u
  have G0 := Lib.hid (h1.same (Same.drew _))
  clear h h1 hX hs hs2 hn hy hz
  generalize twoV n z y = v1 at *
  unfold insV
  go_enter Tryz.func104, Tryz.ntmps104
  go_wp2
  refine wp_region_seq (fun u => u.cell? ⟨w.heap.size, 1, none⟩ = some (.int .i64 n)) ((0, true) :: (1, true) :: (2, true) :: (4, true) :: (3, false) :: (5, false) :: (6, false) :: (7, true) :: (8, true) :: (9, true) :: (10, true) :: (11, true) :: []) (by kernel_rfl) (by kernel_rfl) (fun _ _ _ _ _ h => h) ((HIN.out _ _ G0.out).2.1) ?_
  repeat (first
    | (refine wpSeq_take (v := ?_) rfl (by rfl) (fun wq hSq => ?_) ?_; rotate_left; (focus ((try dsimp only at hSq); go_simp; try with_reducible rfl)); simp only [Act.put, List.setIfInBounds_toArray, List.set_cons_zero, List.set_cons_succ]))
  refine wpSeq_do rfl (by rfl) (fun K hK => ?_)
  go_simp
  refine (HT1.out _ G0.out).mono ?_
  rintro e u1 ⟨rfl, q⟩
  have G1 := Lib.hid q
  clear q
  refine hK.out _ _ (HIN.out _ _ G1.out).2.1 ?_
  clear hK K
  try simp only [Act.put, List.setIfInBounds_toArray, List.set_cons_zero, List.set_cons_succ]
  refine wpSeq_do rfl (by rfl) (fun K hK => ?_)
  go_simp
  refine (HT.out _ G1.out).mono ?_
  rintro e u2 ⟨rfl, q⟩
  have G2 := Lib.hid q
  clear q
  refine hK.out _ _ (HIN.out _ _ G2.out).2.1 ?_
  clear hK K
  try simp only [Act.put, List.setIfInBounds_toArray, List.set_cons_zero, List.set_cons_succ]
  refine wpSeq_do rfl (by rfl) (fun K hK => ?_)
  go_simp
  refine (HO.out _).mono ?_
  rintro e u3 ⟨rfl, q⟩
  have G3 := Lib.hid (G2.out.on q)
  clear q
  refine hK.out _ _ (HIN.out _ _ G3.out).2.1 ?_
  clear hK K
  try simp only [Act.put, List.setIfInBounds_toArray, List.set_cons_zero, List.set_cons_succ]
  repeat (first
    | (refine wpSeq_take (v := ?_) rfl (by rfl) (fun wq hSq => ?_) ?_; rotate_left; (focus ((try dsimp only at hSq); go_simp; try with_reducible rfl)); simp only [Act.put, List.setIfInBounds_toArray, List.set_cons_zero, List.set_cons_succ]))
  refine wpSeq_nil ?_
  go_wp2_with (go_at_call 105; refine (HTR.out _ _ G3.out).mono ?_; rintro e u9 ⟨rfl, q⟩; obtain ⟨r0, r1, r2, r3⟩ := HX.out _ _ q; obtain ⟨⟨c0, c1, c2, c3, c4⟩, d0, d1, d2, d3⟩ := askO_cells r1; obtain ⟨i0, i1, i2, i3⟩ := cells3_of r0; have G9 := Lib.hid (And.intro r1 r3); clear q r0 r1 r2 r3)
  exact ask_back rfl (w.heap.size + 1) ask0 rfl (askO_set (k' := ask0) G9.out.1) rfl ⟨rfl, G9.out.2 _ (turn4 _ _ (.int .i64 0) (.int .i64 0) (.float .f64 0) (.bool false))⟩
set_option maxRecDepth 100000 in
set_option maxHeartbeats 2000000 in
theorem rdo_if1 (h : Rg W F0 br bl K w m cs) {n : Int} {x : Nat} {y : Nat} {s : List Nat} (hs : m.st = y :: s) (hs2 : m.st.length ≤ 64) (hy : trueB y = true) : Calls Tryz.prog 104 #[.pointer (some ⟨br, 0, none⟩), insV ⟨12, n, x⟩] w fun r w' => r = .returned (askV ask0) ∧ Rg W F0 br bl K w' { m with place := n, st := s } cs := by
  obtain ⟨F, h1, hX⟩ := h.both ⟨12, n, x⟩
  have HX := Lib.hid hX
  have hb := h.ltB
  have HT : Hid (∀ u, Rg ((w.alloc (insO ⟨12, n, x⟩)).alloc (askO ask0)) F br bl K u m cs → Calls Tryz.prog 120 #[.pointer (some ⟨br, 0, none⟩), .int .i64 0] u fun e w' => e = .returned (.float .f64 y) ∧ Rg ((w.alloc (insO ⟨12, n, x⟩)).alloc (askO ask0)) F br bl K w' m cs) := fun u hu => by
    have := hu.topG (k := 0) (by rw [hs]; simp) hs2
    rw [hs] at this
    exact this
  have HIN : Hid (∀ u m', Rg ((w.alloc (insO ⟨12, n, x⟩)).alloc (askO ask0)) F br bl K u m' cs → u.cell? ⟨w.heap.size, 0, none⟩ = some (.int .i64 12) ∧ u.cell? ⟨w.heap.size, 1, none⟩ = some (.int .i64 n) ∧ w.heap.size < u.heap.size) := fun u m' hu => by
    obtain ⟨z0, z1, z2, z3⟩ := cells3_of (HX.out u m' hu).1
    exact ⟨z0, z1, z3⟩
  have HTR : Hid (∀ u, Rg ((w.alloc (insO ⟨12, n, x⟩)).alloc (askO ask0)) F br bl K u { m with place := n } cs → Calls Tryz.prog 105 #[.pointer (some ⟨br, 0, none⟩), .int .i64 1, .slice none 0 0] u fun e w' => e = .returned (.tuple #[]) ∧ Rg ((w.alloc (insO ⟨12, n, x⟩)).alloc (askO ask0)) F br bl K w' { m with place := n, st := s } cs) := fun u hu => hu.drop1 (m := { m with place := n }) hs hs2
  have HO : Hid (∀ u, Calls Tryz.prog 123 #[.float .f64 y] u fun e w' => e = .returned (.bool true) ∧ w' = u) := fun u => by rw [← hy]; exact refTrue_any y u
  have HAT : Hid (∀ u, Rg ((w.alloc (insO ⟨12, n, x⟩)).alloc (askO ask0)) F br bl K u m cs → _) := fun u hu => hu.at11 n
  have G0 := Lib.hid (h1.same (Same.drew _))
  clear h h1 hX hs hs2 hy
  unfold insV
  go_enter Tryz.func104, Tryz.ntmps104
  go_wp2
  refine wp_region_seq (fun u => u.cell? ⟨w.heap.size, 0, none⟩ = some (.int .i64 12)) ((0, true) :: (3, true) :: (4, true) :: (5, true) :: (1, false) :: (2, false) :: (6, true) :: []) (by kernel_rfl) (by kernel_rfl) (fun _ _ _ _ _ h => h) ((HIN.out _ _ G0.out).1) ?_
  repeat (first
    | (refine wpSeq_take (v := ?_) rfl (by rfl) (fun wq hSq => ?_) ?_; rotate_left; (focus ((try dsimp only at hSq); go_simp; try with_reducible rfl)); simp only [Act.put, List.setIfInBounds_toArray, List.set_cons_zero, List.set_cons_succ]))
  refine wpSeq_do rfl (by rfl) (fun K hK => ?_)
  go_simp
  refine (HT.out _ G0.out).mono ?_
  rintro e u1 ⟨rfl, q⟩
  have G1 := Lib.hid q
  clear q
  refine hK.out _ _ (HIN.out _ _ G1.out).1 ?_
  clear hK K
  try simp only [Act.put, List.setIfInBounds_toArray, List.set_cons_zero, List.set_cons_succ]
  refine wpSeq_do rfl (by rfl) (fun K hK => ?_)
  go_simp
  refine (HO.out _).mono ?_
  rintro e u ⟨rfl, hu⟩
  subst u
  refine hK.out _ _ (HIN.out _ _ G1.out).1 ?_
  clear hK K
  try simp only [Act.put, List.setIfInBounds_toArray, List.set_cons_zero, List.set_cons_succ]
  repeat (first
    | (refine wpSeq_take (v := ?_) rfl (by rfl) (fun wq hSq => ?_) ?_; rotate_left; (focus ((try dsimp only at hSq); go_simp; try with_reducible rfl)); simp only [Act.put, List.setIfInBounds_toArray, List.set_cons_zero, List.set_cons_succ]))
  refine wpSeq_nil ?_
  obtain ⟨_, j1, j2⟩ := HIN.out _ _ G1.out
  obtain ⟨e1, e2, e3, e4⟩ := HAT.out _ G1.out
  have G2 := Lib.hid e4
  clear e4
  go_wp2_with (go_at_call 105; refine (HTR.out _ G2.out).mono ?_; rintro e u9 ⟨rfl, q⟩; obtain ⟨r0, r1, r2, r3⟩ := HX.out _ _ q; obtain ⟨⟨c0, c1, c2, c3, c4⟩, d0, d1, d2, d3⟩ := askO_cells r1; obtain ⟨i0, i1, i2, i3⟩ := cells3_of r0; have G9 := Lib.hid (And.intro r1 r3); clear q r0 r1 r2 r3)
  exact ask_back rfl (w.heap.size + 1) ask0 rfl (askO_set (k' := ask0) G9.out.1) rfl ⟨rfl, G9.out.2 _ (turn4 _ _ (.int .i64 0) (.int .i64 0) (.float .f64 0) (.bool false))⟩
set_option maxRecDepth 100000 in
set_option maxHeartbeats 2000000 in
theorem rdo_if0 (h : Rg W F0 br bl K w m cs) {n : Int} {x : Nat} {y : Nat} {s : List Nat} (hs : m.st = y :: s) (hs2 : m.st.length ≤ 64) (hy : trueB y = false) : Calls Tryz.prog 104 #[.pointer (some ⟨br, 0, none⟩), insV ⟨12, n, x⟩] w fun r w' => r = .returned (askV ask0) ∧ Rg W F0 br bl K w' { m with place := m.place, st := s } cs := by
  obtain ⟨F, h1, hX⟩ := h.both ⟨12, n, x⟩
  have HX := Lib.hid hX
  have hb := h.ltB
  have HT : Hid (∀ u, Rg ((w.alloc (insO ⟨12, n, x⟩)).alloc (askO ask0)) F br bl K u m cs → Calls Tryz.prog 120 #[.pointer (some ⟨br, 0, none⟩), .int .i64 0] u fun e w' => e = .returned (.float .f64 y) ∧ Rg ((w.alloc (insO ⟨12, n, x⟩)).alloc (askO ask0)) F br bl K w' m cs) := fun u hu => by
    have := hu.topG (k := 0) (by rw [hs]; simp) hs2
    rw [hs] at this
    exact this
  have HIN : Hid (∀ u m', Rg ((w.alloc (insO ⟨12, n, x⟩)).alloc (askO ask0)) F br bl K u m' cs → u.cell? ⟨w.heap.size, 0, none⟩ = some (.int .i64 12) ∧ u.cell? ⟨w.heap.size, 1, none⟩ = some (.int .i64 n) ∧ w.heap.size < u.heap.size) := fun u m' hu => by
    obtain ⟨z0, z1, z2, z3⟩ := cells3_of (HX.out u m' hu).1
    exact ⟨z0, z1, z3⟩
  have HTR : Hid (∀ u, Rg ((w.alloc (insO ⟨12, n, x⟩)).alloc (askO ask0)) F br bl K u { m with place := m.place } cs → Calls Tryz.prog 105 #[.pointer (some ⟨br, 0, none⟩), .int .i64 1, .slice none 0 0] u fun e w' => e = .returned (.tuple #[]) ∧ Rg ((w.alloc (insO ⟨12, n, x⟩)).alloc (askO ask0)) F br bl K w' { m with place := m.place, st := s } cs) := fun u hu => hu.drop1 (m := { m with place := m.place }) hs hs2
  have HO : Hid (∀ u, Calls Tryz.prog 123 #[.float .f64 y] u fun e w' => e = .returned (.bool false) ∧ w' = u) := fun u => by rw [← hy]; exact refTrue_any y u
  have HAT : Hid (∀ u, Rg ((w.alloc (insO ⟨12, n, x⟩)).alloc (askO ask0)) F br bl K u m cs → _) := fun u hu => hu.at11 n
  have G0 := Lib.hid (h1.same (Same.drew _))
  clear h h1 hX hs hs2 hy
  unfold insV
  go_enter Tryz.func104, Tryz.ntmps104
  go_wp2
  refine wp_region_seq (fun u => u.cell? ⟨w.heap.size, 0, none⟩ = some (.int .i64 12)) ((0, true) :: (3, true) :: (4, true) :: (5, true) :: (1, false) :: (2, false) :: (6, true) :: []) (by kernel_rfl) (by kernel_rfl) (fun _ _ _ _ _ h => h) ((HIN.out _ _ G0.out).1) ?_
  repeat (first
    | (refine wpSeq_take (v := ?_) rfl (by rfl) (fun wq hSq => ?_) ?_; rotate_left; (focus ((try dsimp only at hSq); go_simp; try with_reducible rfl)); simp only [Act.put, List.setIfInBounds_toArray, List.set_cons_zero, List.set_cons_succ]))
  refine wpSeq_do rfl (by rfl) (fun K hK => ?_)
  go_simp
  refine (HT.out _ G0.out).mono ?_
  rintro e u1 ⟨rfl, q⟩
  have G1 := Lib.hid q
  clear q
  refine hK.out _ _ (HIN.out _ _ G1.out).1 ?_
  clear hK K
  try simp only [Act.put, List.setIfInBounds_toArray, List.set_cons_zero, List.set_cons_succ]
  refine wpSeq_do rfl (by rfl) (fun K hK => ?_)
  go_simp
  refine (HO.out _).mono ?_
  rintro e u ⟨rfl, hu⟩
  subst u
  refine hK.out _ _ (HIN.out _ _ G1.out).1 ?_
  clear hK K
  try simp only [Act.put, List.setIfInBounds_toArray, List.set_cons_zero, List.set_cons_succ]
  repeat (first
    | (refine wpSeq_take (v := ?_) rfl (by rfl) (fun wq hSq => ?_) ?_; rotate_left; (focus ((try dsimp only at hSq); go_simp; try with_reducible rfl)); simp only [Act.put, List.setIfInBounds_toArray, List.set_cons_zero, List.set_cons_succ]))
  refine wpSeq_nil ?_
  have G2 := G1
  go_wp2_with (go_at_call 105; refine (HTR.out _ G2.out).mono ?_; rintro e u9 ⟨rfl, q⟩; obtain ⟨r0, r1, r2, r3⟩ := HX.out _ _ q; obtain ⟨⟨c0, c1, c2, c3, c4⟩, d0, d1, d2, d3⟩ := askO_cells r1; obtain ⟨i0, i1, i2, i3⟩ := cells3_of r0; have G9 := Lib.hid (And.intro r1 r3); clear q r0 r1 r2 r3)
  exact ask_back rfl (w.heap.size + 1) ask0 rfl (askO_set (k' := ask0) G9.out.1) rfl ⟨rfl, G9.out.2 _ (turn4 _ _ (.int .i64 0) (.int .i64 0) (.float .f64 0) (.bool false))⟩
set_option maxRecDepth 100000 in
set_option maxHeartbeats 2000000 in
theorem rdo_un1 (h : Rg W F0 br bl K w m cs) {n : Int} {x : Nat} {y : Nat} {s : List Nat} (hs : m.st = y :: s) (hs2 : m.st.length ≤ 64) (hy : trueB y = true) : Calls Tryz.prog 104 #[.pointer (some ⟨br, 0, none⟩), insV ⟨13, n, x⟩] w fun r w' => r = .returned (askV ask0) ∧ Rg W F0 br bl K w' { m with place := m.place, st := s } cs := by
  obtain ⟨F, h1, hX⟩ := h.both ⟨13, n, x⟩
  have HX := Lib.hid hX
  have hb := h.ltB
  have HT : Hid (∀ u, Rg ((w.alloc (insO ⟨13, n, x⟩)).alloc (askO ask0)) F br bl K u m cs → Calls Tryz.prog 120 #[.pointer (some ⟨br, 0, none⟩), .int .i64 0] u fun e w' => e = .returned (.float .f64 y) ∧ Rg ((w.alloc (insO ⟨13, n, x⟩)).alloc (askO ask0)) F br bl K w' m cs) := fun u hu => by
    have := hu.topG (k := 0) (by rw [hs]; simp) hs2
    rw [hs] at this
    exact this
  have HIN : Hid (∀ u m', Rg ((w.alloc (insO ⟨13, n, x⟩)).alloc (askO ask0)) F br bl K u m' cs → u.cell? ⟨w.heap.size, 0, none⟩ = some (.int .i64 13) ∧ u.cell? ⟨w.heap.size, 1, none⟩ = some (.int .i64 n) ∧ w.heap.size < u.heap.size) := fun u m' hu => by
    obtain ⟨z0, z1, z2, z3⟩ := cells3_of (HX.out u m' hu).1
    exact ⟨z0, z1, z3⟩
  have HTR : Hid (∀ u, Rg ((w.alloc (insO ⟨13, n, x⟩)).alloc (askO ask0)) F br bl K u { m with place := m.place } cs → Calls Tryz.prog 105 #[.pointer (some ⟨br, 0, none⟩), .int .i64 1, .slice none 0 0] u fun e w' => e = .returned (.tuple #[]) ∧ Rg ((w.alloc (insO ⟨13, n, x⟩)).alloc (askO ask0)) F br bl K w' { m with place := m.place, st := s } cs) := fun u hu => hu.drop1 (m := { m with place := m.place }) hs hs2
  have HO : Hid (∀ u, Calls Tryz.prog 123 #[.float .f64 y] u fun e w' => e = .returned (.bool true) ∧ w' = u) := fun u => by rw [← hy]; exact refTrue_any y u
  have HAT : Hid (∀ u, Rg ((w.alloc (insO ⟨13, n, x⟩)).alloc (askO ask0)) F br bl K u m cs → _) := fun u hu => hu.at11 n
  have G0 := Lib.hid (h1.same (Same.drew _))
  clear h h1 hX hs hs2 hy
  unfold insV
  go_enter Tryz.func104, Tryz.ntmps104
  go_wp2
  refine wp_region_seq (fun u => u.cell? ⟨w.heap.size, 0, none⟩ = some (.int .i64 13)) ((0, true) :: (3, true) :: (4, true) :: (5, true) :: (1, false) :: (2, false) :: (6, true) :: []) (by kernel_rfl) (by kernel_rfl) (fun _ _ _ _ _ h => h) ((HIN.out _ _ G0.out).1) ?_
  repeat (first
    | (refine wpSeq_take (v := ?_) rfl (by rfl) (fun wq hSq => ?_) ?_; rotate_left; (focus ((try dsimp only at hSq); go_simp; try with_reducible rfl)); simp only [Act.put, List.setIfInBounds_toArray, List.set_cons_zero, List.set_cons_succ]))
  refine wpSeq_do rfl (by rfl) (fun K hK => ?_)
  go_simp
  refine (HT.out _ G0.out).mono ?_
  rintro e u1 ⟨rfl, q⟩
  have G1 := Lib.hid q
  clear q
  refine hK.out _ _ (HIN.out _ _ G1.out).1 ?_
  clear hK K
  try simp only [Act.put, List.setIfInBounds_toArray, List.set_cons_zero, List.set_cons_succ]
  refine wpSeq_do rfl (by rfl) (fun K hK => ?_)
  go_simp
  refine (HO.out _).mono ?_
  rintro e u ⟨rfl, hu⟩
  subst u
  refine hK.out _ _ (HIN.out _ _ G1.out).1 ?_
  clear hK K
  try simp only [Act.put, List.setIfInBounds_toArray, List.set_cons_zero, List.set_cons_succ]
  repeat (first
    | (refine wpSeq_take (v := ?_) rfl (by rfl) (fun wq hSq => ?_) ?_; rotate_left; (focus ((try dsimp only at hSq); go_simp; try with_reducible rfl)); simp only [Act.put, List.setIfInBounds_toArray, List.set_cons_zero, List.set_cons_succ]))
  refine wpSeq_nil ?_
  have G2 := G1
  go_wp2_with (go_at_call 105; refine (HTR.out _ G2.out).mono ?_; rintro e u9 ⟨rfl, q⟩; obtain ⟨r0, r1, r2, r3⟩ := HX.out _ _ q; obtain ⟨⟨c0, c1, c2, c3, c4⟩, d0, d1, d2, d3⟩ := askO_cells r1; obtain ⟨i0, i1, i2, i3⟩ := cells3_of r0; have G9 := Lib.hid (And.intro r1 r3); clear q r0 r1 r2 r3)
  exact ask_back rfl (w.heap.size + 1) ask0 rfl (askO_set (k' := ask0) G9.out.1) rfl ⟨rfl, G9.out.2 _ (turn4 _ _ (.int .i64 0) (.int .i64 0) (.float .f64 0) (.bool false))⟩
set_option maxRecDepth 100000 in
set_option maxHeartbeats 2000000 in
theorem rdo_un0 (h : Rg W F0 br bl K w m cs) {n : Int} {x : Nat} {y : Nat} {s : List Nat} (hs : m.st = y :: s) (hs2 : m.st.length ≤ 64) (hy : trueB y = false) : Calls Tryz.prog 104 #[.pointer (some ⟨br, 0, none⟩), insV ⟨13, n, x⟩] w fun r w' => r = .returned (askV ask0) ∧ Rg W F0 br bl K w' { m with place := n, st := s } cs := by
  obtain ⟨F, h1, hX⟩ := h.both ⟨13, n, x⟩
  have HX := Lib.hid hX
  have hb := h.ltB
  have HT : Hid (∀ u, Rg ((w.alloc (insO ⟨13, n, x⟩)).alloc (askO ask0)) F br bl K u m cs → Calls Tryz.prog 120 #[.pointer (some ⟨br, 0, none⟩), .int .i64 0] u fun e w' => e = .returned (.float .f64 y) ∧ Rg ((w.alloc (insO ⟨13, n, x⟩)).alloc (askO ask0)) F br bl K w' m cs) := fun u hu => by
    have := hu.topG (k := 0) (by rw [hs]; simp) hs2
    rw [hs] at this
    exact this
  have HIN : Hid (∀ u m', Rg ((w.alloc (insO ⟨13, n, x⟩)).alloc (askO ask0)) F br bl K u m' cs → u.cell? ⟨w.heap.size, 0, none⟩ = some (.int .i64 13) ∧ u.cell? ⟨w.heap.size, 1, none⟩ = some (.int .i64 n) ∧ w.heap.size < u.heap.size) := fun u m' hu => by
    obtain ⟨z0, z1, z2, z3⟩ := cells3_of (HX.out u m' hu).1
    exact ⟨z0, z1, z3⟩
  have HTR : Hid (∀ u, Rg ((w.alloc (insO ⟨13, n, x⟩)).alloc (askO ask0)) F br bl K u { m with place := n } cs → Calls Tryz.prog 105 #[.pointer (some ⟨br, 0, none⟩), .int .i64 1, .slice none 0 0] u fun e w' => e = .returned (.tuple #[]) ∧ Rg ((w.alloc (insO ⟨13, n, x⟩)).alloc (askO ask0)) F br bl K w' { m with place := n, st := s } cs) := fun u hu => hu.drop1 (m := { m with place := n }) hs hs2
  have HO : Hid (∀ u, Calls Tryz.prog 123 #[.float .f64 y] u fun e w' => e = .returned (.bool false) ∧ w' = u) := fun u => by rw [← hy]; exact refTrue_any y u
  have HAT : Hid (∀ u, Rg ((w.alloc (insO ⟨13, n, x⟩)).alloc (askO ask0)) F br bl K u m cs → _) := fun u hu => hu.at11 n
  have G0 := Lib.hid (h1.same (Same.drew _))
  clear h h1 hX hs hs2 hy
  unfold insV
  go_enter Tryz.func104, Tryz.ntmps104
  go_wp2
  refine wp_region_seq (fun u => u.cell? ⟨w.heap.size, 0, none⟩ = some (.int .i64 13)) ((0, true) :: (3, true) :: (4, true) :: (5, true) :: (1, false) :: (2, false) :: (6, true) :: []) (by kernel_rfl) (by kernel_rfl) (fun _ _ _ _ _ h => h) ((HIN.out _ _ G0.out).1) ?_
  repeat (first
    | (refine wpSeq_take (v := ?_) rfl (by rfl) (fun wq hSq => ?_) ?_; rotate_left; (focus ((try dsimp only at hSq); go_simp; try with_reducible rfl)); simp only [Act.put, List.setIfInBounds_toArray, List.set_cons_zero, List.set_cons_succ]))
  refine wpSeq_do rfl (by rfl) (fun K hK => ?_)
  go_simp
  refine (HT.out _ G0.out).mono ?_
  rintro e u1 ⟨rfl, q⟩
  have G1 := Lib.hid q
  clear q
  refine hK.out _ _ (HIN.out _ _ G1.out).1 ?_
  clear hK K
  try simp only [Act.put, List.setIfInBounds_toArray, List.set_cons_zero, List.set_cons_succ]
  refine wpSeq_do rfl (by rfl) (fun K hK => ?_)
  go_simp
  refine (HO.out _).mono ?_
  rintro e u ⟨rfl, hu⟩
  subst u
  refine hK.out _ _ (HIN.out _ _ G1.out).1 ?_
  clear hK K
  try simp only [Act.put, List.setIfInBounds_toArray, List.set_cons_zero, List.set_cons_succ]
  repeat (first
    | (refine wpSeq_take (v := ?_) rfl (by rfl) (fun wq hSq => ?_) ?_; rotate_left; (focus ((try dsimp only at hSq); go_simp; try with_reducible rfl)); simp only [Act.put, List.setIfInBounds_toArray, List.set_cons_zero, List.set_cons_succ]))
  refine wpSeq_nil ?_
  obtain ⟨_, j1, j2⟩ := HIN.out _ _ G1.out
  obtain ⟨e1, e2, e3, e4⟩ := HAT.out _ G1.out
  have G2 := Lib.hid e4
  clear e4
  go_wp2_with (go_at_call 105; refine (HTR.out _ G2.out).mono ?_; rintro e u9 ⟨rfl, q⟩; obtain ⟨r0, r1, r2, r3⟩ := HX.out _ _ q; obtain ⟨⟨c0, c1, c2, c3, c4⟩, d0, d1, d2, d3⟩ := askO_cells r1; obtain ⟨i0, i1, i2, i3⟩ := cells3_of r0; have G9 := Lib.hid (And.intro r1 r3); clear q r0 r1 r2 r3)
  exact ask_back rfl (w.heap.size + 1) ask0 rfl (askO_set (k' := ask0) G9.out.1) rfl ⟨rfl, G9.out.2 _ (turn4 _ _ (.int .i64 0) (.int .i64 0) (.float .f64 0) (.bool false))⟩
set_option maxRecDepth 100000 in
set_option maxHeartbeats 2000000 in
theorem rdo_read (h : Rg W F0 br bl K w m cs) {n : Int} {x : Nat} {A : Ask} {M : Mac} (hc : ∀ F u, Rg u F br bl K u m cs → Calls Tryz.prog 124 #[.pointer (some ⟨br, 0, none⟩)] u fun r w' => r = .returned (askV A) ∧ Rg u F br bl K w' M cs) : Calls Tryz.prog 104 #[.pointer (some ⟨br, 0, none⟩), insV ⟨16, n, x⟩] w fun r w' => r = .returned (askV A) ∧ Rg W F0 br bl K w' M cs := by
  obtain ⟨F, h1, hX⟩ := h.both ⟨16, n, x⟩
  have HX := Lib.hid hX
  have hb := h.ltB
  have HC := Lib.hid (hc F _ h1)
  clear h h1 hX hc
  obtain ⟨ak, ac, ax, af⟩ := A
  unfold insV
  go_enter Tryz.func104, Tryz.ntmps104
  go_wp2_with (go_at_call 124; refine HC.out.mono ?_; rintro e u9 ⟨rfl, q⟩; obtain ⟨r0, r1, r2, r3⟩ := HX.out _ _ q; obtain ⟨⟨c0, c1, c2, c3, c4⟩, d0, d1, d2, d3⟩ := askO_cells r1; obtain ⟨i0, i1, i2, i3⟩ := cells3_of r0; have G9 := Lib.hid (And.intro r1 r3); clear q r0 r1 r2 r3; unfold askV)
  exact ask_back rfl (w.heap.size + 1) ⟨ak, ac, ax, af⟩ rfl (askO_set (k' := ⟨ak, ac, ax, af⟩) G9.out.1) rfl ⟨rfl, G9.out.2 _ (turn4 _ _ (.int .i64 ak) (.int .i64 ac) (.float .f64 ax) (.bool af))⟩
set_option maxRecDepth 100000 in
set_option maxHeartbeats 2000000 in
theorem rdo_write (h : Rg W F0 br bl K w m cs) {n : Int} {x : Nat} {A : Ask} {M : Mac} (hc : ∀ F u, Rg u F br bl K u m cs → Calls Tryz.prog 125 #[.pointer (some ⟨br, 0, none⟩)] u fun r w' => r = .returned (askV A) ∧ Rg u F br bl K w' M cs) : Calls Tryz.prog 104 #[.pointer (some ⟨br, 0, none⟩), insV ⟨17, n, x⟩] w fun r w' => r = .returned (askV A) ∧ Rg W F0 br bl K w' M cs := by
  obtain ⟨F, h1, hX⟩ := h.both ⟨17, n, x⟩
  have HX := Lib.hid hX
  have hb := h.ltB
  have HC := Lib.hid (hc F _ h1)
  clear h h1 hX hc
  obtain ⟨ak, ac, ax, af⟩ := A
  unfold insV
  go_enter Tryz.func104, Tryz.ntmps104
  go_wp2_with (go_at_call 125; refine HC.out.mono ?_; rintro e u9 ⟨rfl, q⟩; obtain ⟨r0, r1, r2, r3⟩ := HX.out _ _ q; obtain ⟨⟨c0, c1, c2, c3, c4⟩, d0, d1, d2, d3⟩ := askO_cells r1; obtain ⟨i0, i1, i2, i3⟩ := cells3_of r0; have G9 := Lib.hid (And.intro r1 r3); clear q r0 r1 r2 r3; unfold askV)
  exact ask_back rfl (w.heap.size + 1) ⟨ak, ac, ax, af⟩ rfl (askO_set (k' := ⟨ak, ac, ax, af⟩) G9.out.1) rfl ⟨rfl, G9.out.2 _ (turn4 _ _ (.int .i64 ak) (.int .i64 ac) (.float .f64 ax) (.bool af))⟩
end
end Go.Proofs.YteinilmecnlanaaGreatDoor
namespace Go.Proofs.YteinilmecnlanaaGreatDoor
open Go.ChangeShapes Go.WideShapes Go.ChangeAt Go.RowKit Num
attribute [local go_sem] run_store_float

section
variable {W w : World} {br bl : Nat} {F0 K : List Nat} {m : Mac} {cs : List Ins}
set_option maxRecDepth 100000 in
set_option maxHeartbeats 2000000 in
theorem rdo_set (h : Rg W F0 br bl K w m cs) {n : Int} {x : Nat} {k : Nat} (hn : n = k) (hk : k < 8) {y : Nat} {s : List Nat} (hs : m.st = y :: s) (hs2 : m.st.length ≤ 64) : Calls Tryz.prog 104 #[.pointer (some ⟨br, 0, none⟩), insV ⟨8, n, x⟩] w fun r w' => r = .returned (askV ask0) ∧ Rg W F0 br bl K w' { m with loc := updF m.loc k y, st := s } cs := by
  subst hn
  obtain ⟨F, h1, hX⟩ := h.both ⟨8, k, x⟩
  have HX := Lib.hid hX
  have hb := h.ltB
  have HT : Hid (∀ u, Rg ((w.alloc (insO ⟨8, k, x⟩)).alloc (askO ask0)) F br bl K u m cs → Calls Tryz.prog 120 #[.pointer (some ⟨br, 0, none⟩), .int .i64 0] u fun e w' => e = .returned (.float .f64 y) ∧ (∃ q, w' = u.drewN q) ∧ Rg ((w.alloc (insO ⟨8, k, x⟩)).alloc (askO ask0)) F br bl K w' m cs) := fun u hu => by
    have := rtop_any hu (k := 0) (by rw [hs]; simp) hs2
    rw [hs] at this
    exact this.mono fun e u' ⟨a, b⟩ => ⟨a, b, by obtain ⟨q, rfl⟩ := b; exact hu.same (Same.drewN _ _)⟩
  have HIN : Hid (∀ u m', Rg ((w.alloc (insO ⟨8, k, x⟩)).alloc (askO ask0)) F br bl K u m' cs → u.cell? ⟨w.heap.size, 0, none⟩ = some (.int .i64 8) ∧ u.cell? ⟨w.heap.size, 1, none⟩ = some (.int .i64 k) ∧ w.heap.size < u.heap.size) := fun u m' hu => by
    obtain ⟨z0, z1, z2, z3⟩ := cells3_of (HX.out u m' hu).1
    exact ⟨z0, z1, z3⟩
  obtain ⟨c0', e1, e2, e3, e4, e5, e6⟩ := h1.locAt hk
  have HLO : Hid (∀ u, Rg ((w.alloc (insO ⟨8, k, x⟩)).alloc (askO ask0)) F br bl K u m cs → (u.cell? ⟨bl, k, none⟩ = some (.float .f64 (m.loc k)) ∧ u.frozen? ⟨bl, k, none⟩ = false ∧ bl < u.heap.size) ∧ Hid (Rg ((w.alloc (insO ⟨8, k, x⟩)).alloc (askO ask0)) F br bl K (u.setCell ⟨bl, k, none⟩ (.float .f64 y)) { m with loc := updF m.loc k y } cs)) := fun u hu => by
    obtain ⟨c, z1, z2, z3, z4, z5, z6⟩ := hu.locAt hk
    exact ⟨⟨z2, z3, z4⟩, hu.setL hk y⟩
  have HTR : Hid (∀ u, Rg ((w.alloc (insO ⟨8, k, x⟩)).alloc (askO ask0)) F br bl K u { m with loc := updF m.loc k y } cs → Calls Tryz.prog 105 #[.pointer (some ⟨br, 0, none⟩), .int .i64 1, .slice none 0 0] u fun e w' => e = .returned (.tuple #[]) ∧ Rg ((w.alloc (insO ⟨8, k, x⟩)).alloc (askO ask0)) F br bl K w' { m with loc := updF m.loc k y, st := s } cs) := fun u hu => hu.drop1 (m := { m with loc := updF m.loc k y }) hs hs2
  have hk' : (k : Int) < 8 := by omega
  have G0 := Lib.hid (h1.same (Same.drew _))
  have HE1 := Lib.hid e1
  clear h h1 hX hs hs2 e1 e2 e3 e4 e5
  unfold insV
  go_enter Tryz.func104, Tryz.ntmps104
  go_wp2
  refine wp_region_seqE (fun u => u.cell? ⟨br, 10, none⟩ = some (.slice (some ⟨bl, 0, none⟩) 8 c0') ∧ u.cell? ⟨w.heap.size, 1, none⟩ = some (.int .i64 (k : Int))) ((0, true) :: (1, true) :: (2, true) :: (3, true) :: (4, true) :: (5, true) :: (6, true) :: (7, false) :: (8, true) :: (9, false) :: []) (by kernel_rfl) (by kernel_rfl) (fun _ _ _ _ _ h => h) (⟨HE1.out, (HIN.out _ _ G0.out).2.1⟩) ?_
  repeat (first
    | (refine wpSeqE_take (v := ?_) rfl (by rfl) (fun wq hSq => ?_) ?_; rotate_left; (focus ((try dsimp only at hSq); go_simp; try with_reducible rfl)); simp only [Act.put, List.setIfInBounds_toArray, List.set_cons_zero, List.set_cons_succ]))
  refine wpSeqE_do rfl (by rfl) (fun K hK => ?_)
  go_simp
  refine (HT.out _ G0.out).mono ?_
  rintro e u1 ⟨rfl, ⟨qn, hq⟩, q⟩
  have hS1 : u1.cell? ⟨br, 10, none⟩ = some (.slice (some ⟨bl, 0, none⟩) 8 c0') := by rw [hq]; exact HE1.out
  clear hq
  have G1 := Lib.hid q
  clear q
  refine hK.out _ _ (fun _ => ⟨hS1, (HIN.out _ _ G1.out).2.1⟩) ?_
  clear hK K
  try simp only [Act.put, List.setIfInBounds_toArray, List.set_cons_zero, List.set_cons_succ]
  repeat (first
    | (refine wpSeqE_take (v := ?_) rfl (by rfl) (fun wq hSq => ?_) ?_; rotate_left; (focus ((try dsimp only at hSq); go_simp; try with_reducible rfl)); simp only [Act.put, List.setIfInBounds_toArray, List.set_cons_zero, List.set_cons_succ]))
  obtain ⟨⟨l1, l2, l3⟩, G2⟩ := HLO.out _ G1.out
  refine wpSeqE_do rfl (by rfl) (fun K hK => ?_)
  go_simp
  refine hK.out _ _ (fun z => absurd rfl z) ?_
  clear hK K
  refine wpSeqE_nil ?_
  go_wp2_with (go_at_call 105; refine (HTR.out _ G2.out).mono ?_; rintro e u9 ⟨rfl, q⟩; obtain ⟨r0, r1, r2, r3⟩ := HX.out _ _ q; obtain ⟨⟨c0, c1, c2, c3, c4⟩, d0, d1, d2, d3⟩ := askO_cells r1; obtain ⟨i0, i1, i2, i3⟩ := cells3_of r0; have G9 := Lib.hid (And.intro r1 r3); clear q r0 r1 r2 r3)
  exact ask_back rfl (w.heap.size + 1) ask0 rfl (askO_set (k' := ask0) G9.out.1) rfl ⟨rfl, G9.out.2 _ (turn4 _ _ (.int .i64 0) (.int .i64 0) (.float .f64 0) (.bool false))⟩
set_option maxRecDepth 100000 in
set_option maxHeartbeats 2000000 in
theorem rdo_emit (h : Rg W F0 br bl K w m cs) {n : Int} {x : Nat} {y : Nat} {s : List Nat} (hs : m.st = y :: s) (hs2 : m.st.length ≤ 64) (hl : m.out.length ≤ 1024) : Calls Tryz.prog 104 #[.pointer (some ⟨br, 0, none⟩), insV ⟨18, n, x⟩] w fun r w' => r = .returned (askV ask0) ∧ Rg W F0 br bl K w' { m with out := m.out ++ [y], st := s } cs := by
  obtain ⟨F, h1, hX⟩ := h.both ⟨18, n, x⟩
  have HX := Lib.hid hX
  have hb := h.ltB
  have HT : Hid (∀ u, Rg ((w.alloc (insO ⟨18, n, x⟩)).alloc (askO ask0)) F br bl K u m cs → Calls Tryz.prog 120 #[.pointer (some ⟨br, 0, none⟩), .int .i64 0] u fun e w' => e = .returned (.float .f64 y) ∧ (∃ q, w' = u.drewN q) ∧ Rg ((w.alloc (insO ⟨18, n, x⟩)).alloc (askO ask0)) F br bl K w' m cs) := fun u hu => by
    have := rtop_any hu (k := 0) (by rw [hs]; simp) hs2
    rw [hs] at this
    exact this.mono fun e u' ⟨a, b⟩ => ⟨a, b, by obtain ⟨q, rfl⟩ := b; exact hu.same (Same.drewN _ _)⟩
  have HTR : Hid (∀ u, Rg ((w.alloc (insO ⟨18, n, x⟩)).alloc (askO ask0)) F br bl K u { m with out := m.out ++ [y] } cs → Calls Tryz.prog 105 #[.pointer (some ⟨br, 0, none⟩), .int .i64 1, .slice none 0 0] u fun e w' => e = .returned (.tuple #[]) ∧ Rg ((w.alloc (insO ⟨18, n, x⟩)).alloc (askO ask0)) F br bl K w' { m with out := m.out ++ [y], st := s } cs) := fun u hu => hu.drop1 (m := { m with out := m.out ++ [y] }) hs hs2
  obtain ⟨p, k, cr, e1, e2, e3, e4, e5⟩ := h1.tells y hl
  have H5 := Lib.hid e5
  have hkl : k ≤ 1024 := by omega
  have hwr : IntKind.i64.wrap (k : Int) = k := by rw [IntKind.wrap_i64]; omega
  have G0 := Lib.hid (h1.same (Same.drew _))
  have HE1 := Lib.hid e1
  clear h h1 hX hs hs2 e1 e3 e5 hl
  rcases e4 with ⟨rfl, rfl⟩ | ⟨g, o, rfl⟩
  · simp only [Int.cast_ofNat_Int] at hwr e2
    unfold insV
    go_enter Tryz.func104, Tryz.ntmps104
    go_wp2
    refine wp_region_seqE (fun u => u.cell? ⟨br, 17, none⟩ = some (.slice none 0 cr)) ((0, true) :: (1, true) :: (2, true) :: (3, true) :: (4, true) :: (5, true) :: (6, true) :: (7, true) :: (8, true) :: (9, true) :: (10, true) :: (11, true) :: (12, true) :: (13, true) :: (14, true) :: (15, true) :: (16, true) :: (17, false) :: (18, false) :: (19, false) :: (20, true) :: (21, true) :: (22, false) :: []) (by kernel_rfl) (by kernel_rfl) (fun _ _ _ _ _ h => h) (HE1.out) ?_
    repeat (first
      | (refine wpSeqE_take (v := ?_) rfl (by rfl) (fun wq hSq => ?_) ?_; rotate_left; (focus ((try dsimp only at hSq); go_simp; try with_reducible rfl)); simp only [Act.put, List.setIfInBounds_toArray, List.set_cons_zero, List.set_cons_succ]))
    refine wpSeqE_do rfl (by rfl) (fun K hK => ?_)
    go_simp
    refine (HT.out _ G0.out).mono ?_
    rintro e u1 ⟨rfl, ⟨qn, hq⟩, q⟩
    have hS1 : u1.cell? ⟨br, 17, none⟩ = some (.slice none 0 cr) := by rw [hq]; exact HE1.out
    have B1 : Hid (Below ((w.alloc (insO ⟨18, n, x⟩)).alloc (askO ask0)).heap.size ((w.alloc (insO ⟨18, n, x⟩)).alloc (askO ask0)) u1) := by rw [hq]; exact ((Same.drew _).below _).trans ((Same.drewN _ _).below _)
    clear hq
    have G1 := Lib.hid q
    clear q
    refine hK.out _ _ (fun _ => hS1) ?_
    clear hK K
    try simp only [Act.put, List.setIfInBounds_toArray, List.set_cons_zero, List.set_cons_succ]
    refine wpSeqE_do rfl (by rfl) (fun K hK => ?_)
    go_simp
    refine hK.out _ _ (fun _ => (H5.out _ (bl_new B1.out _)).1.1) ?_
    clear hK K
    try simp only [Act.put, List.setIfInBounds_toArray, List.set_cons_zero, List.set_cons_succ]
    refine wpSeqE_do rfl (by rfl) (fun K hK => ?_)
    refine wp_append_ex _ _ _ _ rfl _ _ rfl rfl ((H5.out (u1.alloc (.cells #[.float .f64 y] 73)) (bl_new B1.out _)).2 u1.heap.size _ (by rw [cell_of_row _ _ _ _ _ _ (heap_alloc_new u1 _)]; rfl)) ?_
    rintro v w3 ⟨gq, nq, cq, rfl, hq0, hq1, hq2, hq3⟩
    refine hK.out _ _ (fun _ => hq1) ?_
    clear hK K
    try simp only [Act.put, List.setIfInBounds_toArray, List.set_cons_zero, List.set_cons_succ]
    repeat (first
      | (refine wpSeqE_take (v := ?_) rfl (by rfl) (fun wq hSq => ?_) ?_; rotate_left; (focus ((try dsimp only at hSq); go_simp; try with_reducible rfl)); simp only [Act.put, List.setIfInBounds_toArray, List.set_cons_zero, List.set_cons_succ]))
    refine wpSeqE_do rfl (by rfl) (fun K hK => ?_)
    go_simp
    refine hK.out _ _ (fun z => absurd rfl z) ?_
    clear hK K
    refine wpSeqE_nil ?_
    go_wp2_with (go_at_call 105; refine (HTR.out _ hq0.out).mono ?_; rintro e u9 ⟨rfl, q⟩; obtain ⟨r0, r1, r2, r3⟩ := HX.out _ _ q; obtain ⟨⟨c0, c1, c2, c3, c4⟩, d0, d1, d2, d3⟩ := askO_cells r1; obtain ⟨i0, i1, i2, i3⟩ := cells3_of r0; have G9 := Lib.hid (And.intro r1 r3); clear q r0 r1 r2 r3)
    exact ask_back rfl (w.heap.size + 1) ask0 rfl (askO_set (k' := ask0) G9.out.1) rfl ⟨rfl, G9.out.2 _ (turn4 _ _ (.int .i64 0) (.int .i64 0) (.float .f64 0) (.bool false))⟩
  · skip
    unfold insV
    go_enter Tryz.func104, Tryz.ntmps104
    go_wp2
    refine wp_region_seqE (fun u => u.cell? ⟨br, 17, none⟩ = some (.slice (some ⟨g, o, none⟩) k cr)) ((0, true) :: (1, true) :: (2, true) :: (3, true) :: (4, true) :: (5, true) :: (6, true) :: (7, true) :: (8, true) :: (9, true) :: (10, true) :: (11, true) :: (12, true) :: (13, true) :: (14, true) :: (15, true) :: (16, true) :: (17, false) :: (18, false) :: (19, false) :: (20, true) :: (21, true) :: (22, false) :: []) (by kernel_rfl) (by kernel_rfl) (fun _ _ _ _ _ h => h) (HE1.out) ?_
    repeat (first
      | (refine wpSeqE_take (v := ?_) rfl (by rfl) (fun wq hSq => ?_) ?_; rotate_left; (focus ((try dsimp only at hSq); go_simp; try with_reducible rfl)); simp only [Act.put, List.setIfInBounds_toArray, List.set_cons_zero, List.set_cons_succ]))
    refine wpSeqE_do rfl (by rfl) (fun K hK => ?_)
    go_simp
    refine (HT.out _ G0.out).mono ?_
    rintro e u1 ⟨rfl, ⟨qn, hq⟩, q⟩
    have hS1 : u1.cell? ⟨br, 17, none⟩ = some (.slice (some ⟨g, o, none⟩) k cr) := by rw [hq]; exact HE1.out
    have B1 : Hid (Below ((w.alloc (insO ⟨18, n, x⟩)).alloc (askO ask0)).heap.size ((w.alloc (insO ⟨18, n, x⟩)).alloc (askO ask0)) u1) := by rw [hq]; exact ((Same.drew _).below _).trans ((Same.drewN _ _).below _)
    clear hq
    have G1 := Lib.hid q
    clear q
    refine hK.out _ _ (fun _ => hS1) ?_
    clear hK K
    try simp only [Act.put, List.setIfInBounds_toArray, List.set_cons_zero, List.set_cons_succ]
    refine wpSeqE_do rfl (by rfl) (fun K hK => ?_)
    go_simp
    refine hK.out _ _ (fun _ => (H5.out _ (bl_new B1.out _)).1.1) ?_
    clear hK K
    try simp only [Act.put, List.setIfInBounds_toArray, List.set_cons_zero, List.set_cons_succ]
    refine wpSeqE_do rfl (by rfl) (fun K hK => ?_)
    refine wp_append_ex _ _ _ _ rfl _ _ rfl rfl ((H5.out (u1.alloc (.cells #[.float .f64 y] 73)) (bl_new B1.out _)).2 u1.heap.size _ (by rw [cell_of_row _ _ _ _ _ _ (heap_alloc_new u1 _)]; rfl)) ?_
    rintro v w3 ⟨gq, nq, cq, rfl, hq0, hq1, hq2, hq3⟩
    refine hK.out _ _ (fun _ => hq1) ?_
    clear hK K
    try simp only [Act.put, List.setIfInBounds_toArray, List.set_cons_zero, List.set_cons_succ]
    repeat (first
      | (refine wpSeqE_take (v := ?_) rfl (by rfl) (fun wq hSq => ?_) ?_; rotate_left; (focus ((try dsimp only at hSq); go_simp; try with_reducible rfl)); simp only [Act.put, List.setIfInBounds_toArray, List.set_cons_zero, List.set_cons_succ]))
    refine wpSeqE_do rfl (by rfl) (fun K hK => ?_)
    go_simp
    refine hK.out _ _ (fun z => absurd rfl z) ?_
    clear hK K
    refine wpSeqE_nil ?_
    go_wp2_with (go_at_call 105; refine (HTR.out _ hq0.out).mono ?_; rintro e u9 ⟨rfl, q⟩; obtain ⟨r0, r1, r2, r3⟩ := HX.out _ _ q; obtain ⟨⟨c0, c1, c2, c3, c4⟩, d0, d1, d2, d3⟩ := askO_cells r1; obtain ⟨i0, i1, i2, i3⟩ := cells3_of r0; have G9 := Lib.hid (And.intro r1 r3); clear q r0 r1 r2 r3)
    exact ask_back rfl (w.heap.size + 1) ask0 rfl (askO_set (k' := ask0) G9.out.1) rfl ⟨rfl, G9.out.2 _ (turn4 _ _ (.int .i64 0) (.int .i64 0) (.float .f64 0) (.bool false))⟩
set_option maxRecDepth 100000 in
set_option maxHeartbeats 2000000 in
theorem rdo_call (h : Rg W F0 br bl K w m cs) {n : Int} {x : Nat} (hl : m.calls.length ≤ 1024) : Calls Tryz.prog 104 #[.pointer (some ⟨br, 0, none⟩), insV ⟨14, n, x⟩] w fun r w' => r = .returned (askV ask0) ∧ Rg W F0 br bl K w' { m with calls := m.place :: m.calls, place := n } cs := by
  obtain ⟨F, h1, hX⟩ := h.both ⟨14, n, x⟩
  have HX := Lib.hid hX
  have hb := h.ltB
  have HIN : Hid (∀ u m', Rg ((w.alloc (insO ⟨14, n, x⟩)).alloc (askO ask0)) F br bl K u m' cs → u.cell? ⟨w.heap.size, 0, none⟩ = some (.int .i64 14) ∧ u.cell? ⟨w.heap.size, 1, none⟩ = some (.int .i64 n) ∧ w.heap.size < u.heap.size) := fun u m' hu => by
    obtain ⟨z0, z1, z2, z3⟩ := cells3_of (HX.out u m' hu).1
    exact ⟨z0, z1, z3⟩
  have HAT : Hid (∀ u, Rg ((w.alloc (insO ⟨14, n, x⟩)).alloc (askO ask0)) F br bl K u { m with calls := m.place :: m.calls } cs → _) := fun u hu => hu.at11 n
  have HPL : Hid (∀ u, Below ((w.alloc (insO ⟨14, n, x⟩)).alloc (askO ask0)).heap.size ((w.alloc (insO ⟨14, n, x⟩)).alloc (askO ask0)) u → u.cell? ⟨br, 11, none⟩ = some (.int .i64 m.place)) := fun u hu => ((h1.on hu).at11 0).1
  obtain ⟨p, k, cr, e1, e2, e3, e4, e5⟩ := h1.opens m.place hl
  have H5 := Lib.hid e5
  have hkl : k ≤ 1024 := by omega
  have hwr : IntKind.i64.wrap (k : Int) = k := by rw [IntKind.wrap_i64]; omega
  have HE1 := Lib.hid e1
  have HE2 := Lib.hid (h1.at11 0).1
  have HAP : Hid (∀ u, Below ((w.alloc (insO ⟨14, n, x⟩)).alloc (askO ask0)).heap.size ((w.alloc (insO ⟨14, n, x⟩)).alloc (askO ask0)) u → ∀ g0 ty, u.cell? ⟨g0, 0, none⟩ = some (.int .i64 m.place) → ∃ v u', (Builtin.append_ #[105, 105] ty #[.slice p k k, .slice (some ⟨g0, 0, none⟩) 1 1]).run Tryz.prog u = .ok v u' ∧ ∃ g1 n1 c1, v = .slice (some ⟨g1, 0, none⟩) n1 c1 ∧ (Hid (Rg ((w.alloc (insO ⟨14, n, x⟩)).alloc (askO ask0)) F br bl K (u'.setCell ⟨br, 9, none⟩ (.slice (some ⟨g1, 0, none⟩) n1 c1)) { m with calls := m.place :: m.calls } cs) ∧ u'.cell? ⟨br, 9, none⟩ = some (.slice p k cr) ∧ u'.frozen? ⟨br, 9, none⟩ = false ∧ br < u'.heap.size ∧ u'.cell? ⟨br, 11, none⟩ = some (.int .i64 m.place))) := fun u hu g0 ty c0 => by
    obtain ⟨v, u', z1, g1, n1, c1, rfl, z2, z3, z4, z5⟩ := (H5.out u hu).2 g0 ty c0
    refine ⟨_, u', z1, g1, n1, c1, rfl, z2, z3, z4, z5, ?_⟩
    have := (HAT.out _ z2.out).1
    rwa [World.cell?_setCell_other _ _ _ _ (by simp)] at this
  clear h h1 hX e1 e3 e5 hl
  rcases e4 with ⟨rfl, rfl⟩ | ⟨g, o, rfl⟩
  · simp only [Int.cast_ofNat_Int] at hwr e2
    unfold insV
    go_enter Tryz.func104, Tryz.ntmps104
    go_wp2
    refine wp_region_seqE (fun u => u.cell? ⟨br, 9, none⟩ = some (.slice none 0 cr) ∧ u.cell? ⟨br, 11, none⟩ = some (.int .i64 m.place)) ((0, true) :: (1, true) :: (2, true) :: (3, true) :: (4, true) :: (5, true) :: (6, true) :: (7, true) :: (8, true) :: (9, true) :: (10, true) :: (11, true) :: (12, true) :: (13, true) :: (14, true) :: (15, true) :: (16, true) :: (17, true) :: (18, true) :: (19, true) :: (20, false) :: (21, false) :: (22, true) :: (23, true) :: (24, false) :: []) (by kernel_rfl) (by kernel_rfl) (fun _ _ _ _ _ h => h) (⟨HE1.out, HE2.out⟩) ?_
    repeat (first
      | (refine wpSeqE_take (v := ?_) rfl (by rfl) (fun wq hSq => ?_) ?_; rotate_left; (focus ((try dsimp only at hSq); go_simp; try with_reducible rfl)); simp only [Act.put, List.setIfInBounds_toArray, List.set_cons_zero, List.set_cons_succ]))
    refine wpSeqE_do rfl (by rfl) (fun K hK => ?_)
    go_simp
    refine hK.out _ _ (fun _ => ⟨(H5.out _ (bl_new (bl_drw (Below.refl _ _)) _)).1.1, HPL.out _ (bl_new (bl_drw (Below.refl _ _)) _)⟩) ?_
    clear hK K
    try simp only [Act.put, List.setIfInBounds_toArray, List.set_cons_zero, List.set_cons_succ]
    refine wpSeqE_do rfl (by rfl) (fun K hK => ?_)
    refine wp_append_ex _ _ _ _ rfl _ _ rfl rfl (HAP.out (((w.alloc (insO ⟨14, n, x⟩)).alloc (askO ask0)).drew.alloc (.cells #[.int .i64 m.place] 3)) (bl_new (bl_drw (Below.refl _ _)) _) (w.heap.size + 1 + 1) _ (by rw [cell_of_row _ _ _ _ _ _ (heap_new (by simp))]; rfl)) ?_
    rintro v w3 ⟨gq, nq, cq, rfl, hq0, hq1, hq2, hq3, hq4⟩
    refine hK.out _ _ (fun _ => ⟨hq1, hq4⟩) ?_
    clear hK K
    try simp only [Act.put, List.setIfInBounds_toArray, List.set_cons_zero, List.set_cons_succ]
    repeat (first
      | (refine wpSeqE_take (v := ?_) rfl (by rfl) (fun wq hSq => ?_) ?_; rotate_left; (focus ((try dsimp only at hSq); go_simp; try with_reducible rfl)); simp only [Act.put, List.setIfInBounds_toArray, List.set_cons_zero, List.set_cons_succ]))
    refine wpSeqE_do rfl (by rfl) (fun K hK => ?_)
    go_simp
    refine hK.out _ _ (fun z => absurd rfl z) ?_
    clear hK K
    refine wpSeqE_nil ?_
    obtain ⟨_, j1, j2⟩ := HIN.out _ _ hq0.out
    obtain ⟨f1, f2, f3, q⟩ := HAT.out _ hq0.out
    obtain ⟨r0, r1, r2, r3⟩ := HX.out _ _ q; obtain ⟨⟨c0, c1, c2, c3, c4⟩, d0, d1, d2, d3⟩ := askO_cells r1; obtain ⟨i0, i1, i2, i3⟩ := cells3_of r0; have G9 := Lib.hid (And.intro r1 r3); clear q r0 r1 r2 r3
    clear hq0
    go_wp2
    exact ask_back rfl (w.heap.size + 1) ask0 rfl (askO_set (k' := ask0) G9.out.1) rfl ⟨rfl, G9.out.2 _ (turn4 _ _ (.int .i64 0) (.int .i64 0) (.float .f64 0) (.bool false))⟩
  · skip
    unfold insV
    go_enter Tryz.func104, Tryz.ntmps104
    go_wp2
    refine wp_region_seqE (fun u => u.cell? ⟨br, 9, none⟩ = some (.slice (some ⟨g, o, none⟩) k cr) ∧ u.cell? ⟨br, 11, none⟩ = some (.int .i64 m.place)) ((0, true) :: (1, true) :: (2, true) :: (3, true) :: (4, true) :: (5, true) :: (6, true) :: (7, true) :: (8, true) :: (9, true) :: (10, true) :: (11, true) :: (12, true) :: (13, true) :: (14, true) :: (15, true) :: (16, true) :: (17, true) :: (18, true) :: (19, true) :: (20, false) :: (21, false) :: (22, true) :: (23, true) :: (24, false) :: []) (by kernel_rfl) (by kernel_rfl) (fun _ _ _ _ _ h => h) (⟨HE1.out, HE2.out⟩) ?_
    repeat (first
      | (refine wpSeqE_take (v := ?_) rfl (by rfl) (fun wq hSq => ?_) ?_; rotate_left; (focus ((try dsimp only at hSq); go_simp; try with_reducible rfl)); simp only [Act.put, List.setIfInBounds_toArray, List.set_cons_zero, List.set_cons_succ]))
    refine wpSeqE_do rfl (by rfl) (fun K hK => ?_)
    go_simp
    refine hK.out _ _ (fun _ => ⟨(H5.out _ (bl_new (bl_drw (Below.refl _ _)) _)).1.1, HPL.out _ (bl_new (bl_drw (Below.refl _ _)) _)⟩) ?_
    clear hK K
    try simp only [Act.put, List.setIfInBounds_toArray, List.set_cons_zero, List.set_cons_succ]
    refine wpSeqE_do rfl (by rfl) (fun K hK => ?_)
    refine wp_append_ex _ _ _ _ rfl _ _ rfl rfl (HAP.out (((w.alloc (insO ⟨14, n, x⟩)).alloc (askO ask0)).drew.alloc (.cells #[.int .i64 m.place] 3)) (bl_new (bl_drw (Below.refl _ _)) _) (w.heap.size + 1 + 1) _ (by rw [cell_of_row _ _ _ _ _ _ (heap_new (by simp))]; rfl)) ?_
    rintro v w3 ⟨gq, nq, cq, rfl, hq0, hq1, hq2, hq3, hq4⟩
    refine hK.out _ _ (fun _ => ⟨hq1, hq4⟩) ?_
    clear hK K
    try simp only [Act.put, List.setIfInBounds_toArray, List.set_cons_zero, List.set_cons_succ]
    repeat (first
      | (refine wpSeqE_take (v := ?_) rfl (by rfl) (fun wq hSq => ?_) ?_; rotate_left; (focus ((try dsimp only at hSq); go_simp; try with_reducible rfl)); simp only [Act.put, List.setIfInBounds_toArray, List.set_cons_zero, List.set_cons_succ]))
    refine wpSeqE_do rfl (by rfl) (fun K hK => ?_)
    go_simp
    refine hK.out _ _ (fun z => absurd rfl z) ?_
    clear hK K
    refine wpSeqE_nil ?_
    obtain ⟨_, j1, j2⟩ := HIN.out _ _ hq0.out
    obtain ⟨f1, f2, f3, q⟩ := HAT.out _ hq0.out
    obtain ⟨r0, r1, r2, r3⟩ := HX.out _ _ q; obtain ⟨⟨c0, c1, c2, c3, c4⟩, d0, d1, d2, d3⟩ := askO_cells r1; obtain ⟨i0, i1, i2, i3⟩ := cells3_of r0; have G9 := Lib.hid (And.intro r1 r3); clear q r0 r1 r2 r3
    clear hq0
    go_wp2
    exact ask_back rfl (w.heap.size + 1) ask0 rfl (askO_set (k' := ask0) G9.out.1) rfl ⟨rfl, G9.out.2 _ (turn4 _ _ (.int .i64 0) (.int .i64 0) (.float .f64 0) (.bool false))⟩
end
end Go.Proofs.YteinilmecnlanaaGreatDoor
namespace Go.Proofs.YteinilmecnlanaaGreatDoor
open Go.ChangeShapes Go.WideShapes Go.ChangeAt Go.RowKit Num
attribute [local go_sem] run_store_float

section
variable {W w : World} {br bl : Nat} {F0 K : List Nat} {m : Mac} {cs : List Ins}
theorem i64s_app (a b : List Int) : i64s (a ++ b) = i64s a ++ i64s b := by unfold i64s; rw [List.map_append]
/-- the last open call -/
theorem Rg.lastC (h : Rg W F0 br bl K w m cs) {c : Int} {r : List Int} (hc : m.calls = c :: r) : ∃ g o cc, w.cell? ⟨br, 9, none⟩ = some (.slice (some ⟨g, o, none⟩) (r.length + 1) cc) ∧ (r.length + 1 : Int) ≤ cc ∧ w.cell? ⟨g, o + r.length, none⟩ = some (.int .i64 c) ∧ g < w.heap.size ∧ br ≠ g ∧ (w.frozen? ⟨br, 9, none⟩ = false ∧ w.frozen? ⟨br, 11, none⟩ = false ∧ w.cell? ⟨br, 11, none⟩ = some (.int .i64 m.place) ∧ br < w.heap.size) ∧ Rg W F0 br bl K ((w.setCell ⟨br, 11, none⟩ (.int .i64 c)).setCell ⟨br, 9, none⟩ (.slice (some ⟨g, o, none⟩) r.length cc)) { m with calls := r, place := c } cs := by
  obtain ⟨q, hr, hbl, ht, hF⟩ := id h
  have hro := hr.cal
  rw [hc, List.reverse_cons, i64s_app] at hro
  obtain ⟨g, o, hp, hcell, hg⟩ := hro.get (j := r.length) (v := .int .i64 c) (by
    rw [List.getElem?_append_right (by rw [i64s_len, List.length_reverse]; exact Nat.le_refl _), i64s_len, List.length_reverse, Nat.sub_self]
    rfl)
  have hlen : m.calls.length = r.length + 1 := by rw [hc]; rfl
  refine ⟨g, o, q.cc, by rw [← hp, ← hlen]; exact (hr.cell 9).trans rfl, by have := hr.c2; omega, hcell, hg, fun e => (hr.ap q.pc (by simp [Rp.rows])).1 (by rw [hp]; simp [fpR]; exact e), ⟨hr.free 9, hr.free 11, (hr.cell 11).trans rfl, hr.ltB⟩, ?_⟩
  have hr1 := hr.set 11 (.int .i64 c) { m with place := c } rfl ⟨rfl, rfl, rfl, rfl, rfl, rfl, rfl, rfl, rfl⟩ hr.zc
  have hro1 := hr1.cal
  have e0 : ({ m with place := c } : Mac).calls = c :: r := hc
  rw [e0, List.reverse_cons, i64s_app] at hro1
  have := (h.at11 c).2.2.2.putC hr1 hF hbl (w3 := w.setCell ⟨br, 11, none⟩ (.int .i64 c)) (Below.refl _ _) (p := q.pc) (s := r) (c := q.cc) (.inl (by simp [Rp.rows])) (fun y hy => hr1.lt y (in_fr (by simp [Rp.rows]) hy)) hro1.pre (by have := hr.c2; omega)
  rw [hp] at this
  exact this
set_option maxRecDepth 100000 in
set_option maxHeartbeats 2000000 in
theorem rdo_ret (h : Rg W F0 br bl K w m cs) {n : Int} {x : Nat} {c : Int} {r : List Int} (hc : m.calls = c :: r) (hl : m.calls.length ≤ 16) : Calls Tryz.prog 104 #[.pointer (some ⟨br, 0, none⟩), insV ⟨15, n, x⟩] w fun e w' => e = .returned (askV ask0) ∧ Rg W F0 br bl K w' { m with calls := r, place := c } cs := by
  obtain ⟨g, o, cc, e1, e2, e3, e4, e5, ⟨k1, k2, k3, hb⟩, e6⟩ := h.lastC hc
  have hd : r.length ≤ 15 := by rw [hc] at hl; simp at hl; omega
  have G9 := Lib.hid e6
  obtain ⟨d, hdd⟩ : ∃ d, r.length = d := ⟨_, rfl⟩
  rw [hdd] at e1 e2 e3 G9 hd
  have hwr : IntKind.i64.wrap (d : Int) = d := by rw [IntKind.wrap_i64]; omega
  have HS : Hid (∀ u, Below w.heap.size w u → u.cell? ⟨br, 9, none⟩ = some (.slice (some ⟨g, o, none⟩) (d + 1) cc) ∧ u.cell? ⟨g, o + d, none⟩ = some (.int .i64 c)) := fun u hu => ⟨(hu.cell (p := ⟨br, 9, none⟩) hb).trans e1, (hu.cell (p := ⟨g, o + d, none⟩) e4).trans e3⟩
  have hdc : (d : Int) ≤ (cc : Int) := by omega
  have hb1 : (d : Int) < (d : Int) + 1 := by omega
  have hb2 : (d : Int) < ((d + 1 : Nat) : Int) := by omega
  have hb3 : (0 : Int) ≤ (d : Int) := by omega
  have HS1 : Hid (∀ u, Below (w.setCell ⟨br, 11, none⟩ (.int .i64 c)).heap.size (w.setCell ⟨br, 11, none⟩ (.int .i64 c)) u → u.cell? ⟨br, 9, none⟩ = some (.slice (some ⟨g, o, none⟩) (d + 1) cc)) := fun u hu => (hu.cell (p := ⟨br, 9, none⟩) (by simpa using hb)).trans ((World.cell?_setCell_other _ _ _ _ (by simp)).trans e1)
  clear h hc hl e6 hdd
  unfold insV
  go_enter Tryz.func104, Tryz.ntmps104
  go_wp2
  refine wp_region_seqE (fun u => u.cell? ⟨br, 9, none⟩ = some (.slice (some ⟨g, o, none⟩) (d + 1) cc) ∧ u.cell? ⟨g, o + d, none⟩ = some (.int .i64 c)) ((0, true) :: (1, true) :: (2, true) :: (3, true) :: (4, true) :: (5, true) :: (6, true) :: (7, true) :: (8, true) :: (9, true) :: (10, true) :: (11, true) :: (12, true) :: (13, true) :: (14, true) :: (15, false) :: []) (by kernel_rfl) (by kernel_rfl) (fun _ _ _ _ _ h => h) (HS.out _ (bl_drw ((below_alloc w _).trans ((below_alloc _ _).mono (by simp))))) ?_
  repeat (first
    | (refine wpSeqE_take (v := ?_) rfl (by rfl) (fun wq hSq => ?_) ?_; rotate_left; (focus ((try dsimp only at hSq); go_simp; try with_reducible rfl)); simp only [Act.put, List.setIfInBounds_toArray, List.set_cons_zero, List.set_cons_succ]))
  refine wpSeqE_do rfl (by rfl) (fun K hK => ?_)
  go_simp
  refine hK.out _ _ (fun z => absurd rfl z) ?_
  clear hK K
  refine wpSeqE_nil ?_
  go_wp2
  refine wp_region_seqE (fun u => u.cell? ⟨br, 9, none⟩ = some (.slice (some ⟨g, o, none⟩) (d + 1) cc)) ((0, true) :: (1, true) :: (2, true) :: (3, true) :: (4, true) :: (5, true) :: (6, true) :: (7, true) :: (8, true) :: (9, true) :: (10, true) :: (11, true) :: (12, true) :: (13, true) :: (14, false) :: []) (by kernel_rfl) (by kernel_rfl) (fun _ _ _ _ _ h => h) (HS1.out _ (bl_drw (bl_drw ((below_alloc (w.setCell ⟨br, 11, none⟩ (.int .i64 c)) _).trans ((below_alloc _ _).mono (by simp)))))) ?_
  repeat (first
    | (refine wpSeqE_take (v := ?_) rfl (by rfl) (fun wq hSq => ?_) ?_; rotate_left; (focus ((try dsimp only at hSq); go_simp; try with_reducible rfl)); simp only [Act.put, List.setIfInBounds_toArray, List.set_cons_zero, List.set_cons_succ]))
  refine wpSeqE_do rfl (by rfl) (fun K hK => ?_)
  go_simp
  refine hK.out _ _ (fun z => absurd rfl z) ?_
  clear hK K
  refine wpSeqE_nil ?_
  go_wp2
  exact ask_back rfl (w.heap.size + 1) ask0 rfl (heap_new (by simp)) rfl ⟨rfl, ((G9.out.alloc _).alloc _).same (Same.drewN _ 2)⟩
end
end Go.Proofs.YteinilmecnlanaaGreatDoor
