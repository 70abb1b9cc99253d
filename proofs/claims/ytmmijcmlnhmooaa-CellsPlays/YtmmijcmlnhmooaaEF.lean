import Derived.Test.YtmmijcmlnhmooaaEE
namespace Go.Proofs.Ytmmijcmlnhmooaa
open Go.ChangeShapes Go.WideShapes Go.ChangeAt Go.RowKit Num
attribute [local go_sem] run_store_float

/-- the document's write: its box, the row of its words -/
def eboxV (t : Wt) (g : Nat) : Array Value := #[.int .i64 0, .int .i64 0, .int .i64 0, .int .i64 0, .int .i64 t.p, .int .i64 0, .int .i64 t.c, .slice (some ⟨g, 0, none⟩) 3 3, .int .i64 t.d]
structure EwAt (w : World) (b g : Nat) (t : Wt) : Prop where
  box : w.heap[b]? = some (.cells (eboxV t g) 122 (0, 0))
  row : w.heap[g]? = some (.cells #[.int .u64 t.a, .int .u64 t.v, .int .u64 t.z] 22 (0, 0))
  ne : b ≠ g
  few : t.d ≤ 3
section
variable {w w' : World} {b g : Nat} {t : Wt}
theorem EwAt.lt (h : EwAt w b g t) : b < w.heap.size := lt_of_block h.box
theorem EwAt.ltG (h : EwAt w b g t) : g < w.heap.size := lt_of_block h.row
theorem EwAt.cell (h : EwAt w b g t) (j : Nat) (v : Value) (hj : (eboxV t g)[j]? = some v) : w.cell? ⟨b, j, none⟩ = some v := by rw [cell_of_row w b j _ _ _ h.box]; exact hj
theorem EwAt.free (h : EwAt w b g t) (j : Nat) : w.frozen? ⟨b, j, none⟩ = false := frozen_of_row w b j _ _ h.box
theorem EwAt.keep (h : EwAt w b g t) (h1 : w'.heap[b]? = w.heap[b]?) (h2 : w'.heap[g]? = w.heap[g]?) : EwAt w' b g t := ⟨h1.trans h.box, h2.trans h.row, h.ne, h.few⟩
theorem EwAt.on (h : EwAt w b g t) (k : Below w.heap.size w w') : EwAt w' b g t := h.keep (k.block b h.lt) (k.block g h.ltG)
theorem EwAt.cells (h : EwAt w b g t) : (w.cell? ⟨b, 0, none⟩ = some (.int .i64 0) ∧ w.cell? ⟨b, 1, none⟩ = some (.int .i64 0) ∧ w.cell? ⟨b, 2, none⟩ = some (.int .i64 0) ∧ w.cell? ⟨b, 3, none⟩ = some (.int .i64 0) ∧ w.cell? ⟨b, 4, none⟩ = some (.int .i64 t.p) ∧ w.cell? ⟨b, 5, none⟩ = some (.int .i64 0) ∧ w.cell? ⟨b, 6, none⟩ = some (.int .i64 t.c) ∧ w.cell? ⟨b, 7, none⟩ = some (.slice (some ⟨g, 0, none⟩) 3 3) ∧ w.cell? ⟨b, 8, none⟩ = some (.int .i64 t.d)) ∧ (w.cell? ⟨g, 0, none⟩ = some (.int .u64 t.a) ∧ w.cell? ⟨g, 1, none⟩ = some (.int .u64 t.v) ∧ w.cell? ⟨g, 2, none⟩ = some (.int .u64 t.z)) ∧ b < w.heap.size ∧ g < w.heap.size := by
  obtain ⟨⟨r0, r1, r2, _⟩, _⟩ := box3 h.row
  exact ⟨⟨h.cell 0 _ rfl, h.cell 1 _ rfl, h.cell 2 _ rfl, h.cell 3 _ rfl, h.cell 4 _ rfl, h.cell 5 _ rfl, h.cell 6 _ rfl, h.cell 7 _ rfl, h.cell 8 _ rfl⟩, ⟨r0, r1, r2⟩, h.lt, h.ltG⟩
theorem EwAt.setD (h : EwAt w b g t) (hd : t.d < 3) : EwAt (w.setCell ⟨b, 8, none⟩ (.int .i64 ((t.d + 1 : Nat) : Int))) b g { t with d := t.d + 1 } :=
  ⟨(heap_setCell_same w b 8 _ _ _ h.box).trans rfl, (heap_setCell_other _ _ _ _ (Ne.symm h.ne)).trans h.row, h.ne, hd⟩
end
section
variable {w : World} {b g bm gm : Nat} {ws : List Int} {o : Bool} {n : Int} {t : Wt}
set_option maxRecDepth 100000 in
theorem estep_over (hr : EwAt w b g t) (hk : ¬ t.d < 3) : Calls Try.prog 72 #[.pointer (some ⟨b, 0, none⟩), .pointer (some ⟨bm, 0, none⟩)] w fun e w' => e = .returned (.tuple #[.bool false, .int .i64 3]) ∧ w' = w := by
  have h8 : w.cell? ⟨b, 8, none⟩ = some (.int .i64 t.d) := hr.cell 8 _ rfl
  have hb := hr.lt
  have hd : (2 : Int) < (t.d : Int) := by omega
  generalize t.d = d at *
  clear hr hk
  go_enter Try.func72, Try.ntmps72
  go_wp2
  go_ret2
  exact ⟨rfl, rfl⟩
set_option maxRecDepth 100000 in
set_option maxHeartbeats 2000000 in
theorem estep_nocell (hr : EwAt w b g t) (hd : t.d < 3) (hm : mayC t.c = false) : Calls Try.prog 72 #[.pointer (some ⟨b, 0, none⟩), .pointer (some ⟨bm, 0, none⟩)] w fun e w' => e = .returned (.tuple #[.bool false, .int .i64 60]) ∧ Below w.heap.size w w' := by
  have HMB := Lib.hid (refMayBe_any t.c)
  simp only [hm] at HMB
  have h8 : w.cell? ⟨b, 8, none⟩ = some (.int .i64 t.d) := hr.cell 8 _ rfl
  have h6 : w.cell? ⟨b, 6, none⟩ = some (.int .i64 t.c) := hr.cell 6 _ rfl
  have hb := hr.lt
  have hd' : ¬ (2 : Int) < (t.d : Int) := by omega
  generalize t.d = d at *
  generalize t.c = c at *
  clear hr hd hm
  go_enter Try.func72, Try.ntmps72
  go_wp2_with (go_at_call 64; refine (HMB.out _).mono ?_; rintro e w2 ⟨rfl, hw⟩; subst w2)
  go_ret2
  exact ⟨rfl, Below.refl _ _⟩
set_option maxRecDepth 100000 in
set_option maxHeartbeats 4000000 in
theorem estep_may (h : MemAt 92 w bm gm ws o n) (hr : EwAt w b g t) (h1 : b ≠ bm) (h2 : b ≠ gm) (h3 : g ≠ bm) (h4 : g ≠ gm) (hd : t.d < 3) (hm : mayC t.c = true) (hok : errC ws o t.p t.c (wordW t.d) = 0) : Calls Try.prog 72 #[.pointer (some ⟨b, 0, none⟩), .pointer (some ⟨bm, 0, none⟩)] w fun e w' => e = .returned (.tuple #[.bool (decide (t.d = 2)), .int .i64 0]) ∧ MemAt 92 w' bm gm (storeC ws t.p t.c (wordW t.d) (bitsW t)) false (up n) ∧ EwAt w' b g { t with d := t.d + 1 } ∧ Ch [bm, gm, b] w w' := by
  have HMB := Lib.hid (refMayBe_any t.c)
  simp only [hm] at HMB
  obtain ⟨f1, _, f3, f4, f5⟩ := err_same (ws := ws) (o := o) hm t.p (wordW t.d) n
  have HW := Lib.hid (refWord_any 0 0 0 0 t.p 0 t.c (wordW t.d) (mayC_pos hm) (by have := wordW_in t.d; omega))
  have HS := Lib.hid (fun (u : World) (k : Below w.heap.size w u) => refStore_any (h.on k) (placeI t.p t.c (wordW t.d)) (bitsW t))
  simp only [f1, f3, f4, f5, aftO, aftN, if_pos hok] at HS
  rw [hok] at HS
  have HC : Hid (∀ u, Below w.heap.size w u → (u.cell? ⟨b, 0, none⟩ = some (.int .i64 0) ∧ u.cell? ⟨b, 1, none⟩ = some (.int .i64 0) ∧ u.cell? ⟨b, 2, none⟩ = some (.int .i64 0) ∧ u.cell? ⟨b, 3, none⟩ = some (.int .i64 0) ∧ u.cell? ⟨b, 4, none⟩ = some (.int .i64 t.p) ∧ u.cell? ⟨b, 5, none⟩ = some (.int .i64 0) ∧ u.cell? ⟨b, 6, none⟩ = some (.int .i64 t.c) ∧ u.cell? ⟨b, 7, none⟩ = some (.slice (some ⟨g, 0, none⟩) 3 3) ∧ u.cell? ⟨b, 8, none⟩ = some (.int .i64 t.d)) ∧ (u.cell? ⟨g, 0, none⟩ = some (.int .u64 t.a) ∧ u.cell? ⟨g, 1, none⟩ = some (.int .u64 t.v) ∧ u.cell? ⟨g, 2, none⟩ = some (.int .u64 t.z)) ∧ b < u.heap.size ∧ g < u.heap.size) := fun u k => (hr.on k).cells
  have HA : Hid (∀ (u v : World), Below w.heap.size w u → Chg bm gm u v → MemAt 92 v bm gm (storeC ws t.p t.c (wordW t.d) (bitsW t)) false (up n) → (v.cell? ⟨b, 7, none⟩ = some (.slice (some ⟨g, 0, none⟩) 3 3) ∧ (v.cell? ⟨g, 0, none⟩ = some (.int .u64 t.a) ∧ v.cell? ⟨g, 1, none⟩ = some (.int .u64 t.v) ∧ v.cell? ⟨g, 2, none⟩ = some (.int .u64 t.z)) ∧ v.cell? ⟨b, 8, none⟩ = some (.int .i64 t.d) ∧ v.frozen? ⟨b, 8, none⟩ = false ∧ b < v.heap.size) ∧ Hid (MemAt 92 (v.setCell ⟨b, 8, none⟩ (.int .i64 ((t.d + 1 : Nat) : Int))) bm gm (storeC ws t.p t.c (wordW t.d) (bitsW t)) false (up n) ∧ EwAt (v.setCell ⟨b, 8, none⟩ (.int .i64 ((t.d + 1 : Nat) : Int))) b g { t with d := t.d + 1 } ∧ Ch [bm, gm, b] w (v.setCell ⟨b, 8, none⟩ (.int .i64 ((t.d + 1 : Nat) : Int))))) := fun u v k hc hm => by
    have k1 : EwAt v b g t := (hr.on k).keep (hc.block b (hr.on k).lt h1 h2) (hc.block g (hr.on k).ltG h3 h4)
    exact ⟨⟨k1.cell 7 _ rfl, k1.cells.2.1, k1.cell 8 _ rfl, k1.free 8, k1.lt⟩, hm.other (Ne.symm h1) (Ne.symm h2) _ _, k1.setD hd, ((ch_of k _).trans (hc.ch (by simp) (by simp))).set (by simp) _ _⟩
  have HD := Lib.hid hd
  have hq := hr.lt
  have hgq := hr.ltG
  clear h hr hm hok hd f1 f3 f4 f5 h1 h2 h3 h4
  generalize storeC ws t.p t.c (wordW t.d) (bitsW t) = yy at HS HA ⊢
  unfold planV at HW
  generalize placeI t.p t.c (wordW t.d) = ii at HS HW
  obtain ⟨p, c, a, v, z, d⟩ := t
  simp only [wordW, bitsW] at *
  have hd : d = 0 ∨ d = 1 ∨ d = 2 := by have : d < 3 := HD.out; omega
  rcases hd with rfl | rfl | rfl
  · simp at HS HA HC HW
    obtain ⟨⟨c0, c1, c2, c3, c4, c5, c6, c7, c8⟩, ⟨r0, r1, r2⟩, cb, cg⟩ := HC.out w (Below.refl _ _)
    go_enter Try.func72, Try.ntmps72
    go_wp2_with (go_at_call 64; refine (HMB.out _).mono ?_; rintro e w2 ⟨rfl, hw⟩; subst w2)
    go_region_held (fun u => u.cell? ⟨b, 0, none⟩ = some (.int .i64 0) ∧ u.cell? ⟨b, 1, none⟩ = some (.int .i64 0) ∧ u.cell? ⟨b, 2, none⟩ = some (.int .i64 0) ∧ u.cell? ⟨b, 3, none⟩ = some (.int .i64 0) ∧ u.cell? ⟨b, 4, none⟩ = some (.int .i64 p) ∧ u.cell? ⟨b, 5, none⟩ = some (.int .i64 0) ∧ u.cell? ⟨b, 6, none⟩ = some (.int .i64 c) ∧ u.cell? ⟨b, 8, none⟩ = some (.int .i64 0) ∧ u.cell? ⟨w.heap.size, 0, none⟩ = some (.int .i64 2) ∧ u.cell? ⟨w.heap.size, 1, none⟩ = some (.int .i64 0) ∧ u.cell? ⟨w.heap.size, 2, none⟩ = some (.int .i64 1)) (go_keep) (first | (go_at_call 62; refine (HW.out _).mono ?_; rintro e w2 ⟨rfl, hw⟩; have HB2 : Hid (Below w.heap.size w w2) := below_step (by repeat (first | exact Below.refl _ _ | refine bl_drew ?_ | refine bl_drewN _ ?_ | refine bl_alloc ?_ _ | refine bl_setCell ?_ (by simp) _ _ | refine bl_setRow ?_ (by simp) _)) hw; obtain ⟨⟨c0, c1, c2, c3, c4, c5, c6, c7, c8⟩, ⟨r0, r1, r2⟩, cb, cg⟩ := HC.out _ HB2.out; obtain ⟨⟨y0, y1, y2, y3⟩, _⟩ := box3 ((hw.block w.heap.size (by simp)).trans (alloc_at rfl)); clear hw))
    go_wp2
    go_region_held (fun u => u.cell? ⟨b, 7, none⟩ = some (.slice (some ⟨g, 0, none⟩) 3 3) ∧ u.cell? ⟨b, 8, none⟩ = some (.int .i64 0) ∧ u.cell? ⟨g, 0, none⟩ = some (.int .u64 a)) (go_keep) (first | (go_at_call 84; refine (HS.out _ (by repeat (first | exact HB2.out | refine bl_drew ?_ | refine bl_drewN _ ?_ | refine bl_alloc ?_ _))).mono ?_; rintro e w3 ⟨rfl, hm, hc⟩; obtain ⟨⟨e7, ⟨g0, g1, g2⟩, e8, e88, eb⟩, HX⟩ := HA.out _ _ (by repeat (first | exact HB2.out | refine bl_drew ?_ | refine bl_drewN _ ?_ | refine bl_alloc ?_ _)) hc hm; clear hm hc))
    go_wp2
    go_ret2
    exact ⟨by first | rfl | simp, HX.out⟩
  · simp at HS HA HC HW
    obtain ⟨⟨c0, c1, c2, c3, c4, c5, c6, c7, c8⟩, ⟨r0, r1, r2⟩, cb, cg⟩ := HC.out w (Below.refl _ _)
    go_enter Try.func72, Try.ntmps72
    go_wp2_with (go_at_call 64; refine (HMB.out _).mono ?_; rintro e w2 ⟨rfl, hw⟩; subst w2)
    go_region_held (fun u => u.cell? ⟨b, 0, none⟩ = some (.int .i64 0) ∧ u.cell? ⟨b, 1, none⟩ = some (.int .i64 0) ∧ u.cell? ⟨b, 2, none⟩ = some (.int .i64 0) ∧ u.cell? ⟨b, 3, none⟩ = some (.int .i64 0) ∧ u.cell? ⟨b, 4, none⟩ = some (.int .i64 p) ∧ u.cell? ⟨b, 5, none⟩ = some (.int .i64 0) ∧ u.cell? ⟨b, 6, none⟩ = some (.int .i64 c) ∧ u.cell? ⟨b, 8, none⟩ = some (.int .i64 1) ∧ u.cell? ⟨w.heap.size, 0, none⟩ = some (.int .i64 2) ∧ u.cell? ⟨w.heap.size, 1, none⟩ = some (.int .i64 0) ∧ u.cell? ⟨w.heap.size, 2, none⟩ = some (.int .i64 1)) (go_keep) (first | (go_at_call 62; refine (HW.out _).mono ?_; rintro e w2 ⟨rfl, hw⟩; have HB2 : Hid (Below w.heap.size w w2) := below_step (by repeat (first | exact Below.refl _ _ | refine bl_drew ?_ | refine bl_drewN _ ?_ | refine bl_alloc ?_ _ | refine bl_setCell ?_ (by simp) _ _ | refine bl_setRow ?_ (by simp) _)) hw; obtain ⟨⟨c0, c1, c2, c3, c4, c5, c6, c7, c8⟩, ⟨r0, r1, r2⟩, cb, cg⟩ := HC.out _ HB2.out; obtain ⟨⟨y0, y1, y2, y3⟩, _⟩ := box3 ((hw.block w.heap.size (by simp)).trans (alloc_at rfl)); clear hw))
    go_wp2
    go_region_held (fun u => u.cell? ⟨b, 7, none⟩ = some (.slice (some ⟨g, 0, none⟩) 3 3) ∧ u.cell? ⟨b, 8, none⟩ = some (.int .i64 1) ∧ u.cell? ⟨g, 1, none⟩ = some (.int .u64 v)) (go_keep) (first | (go_at_call 84; refine (HS.out _ (by repeat (first | exact HB2.out | refine bl_drew ?_ | refine bl_drewN _ ?_ | refine bl_alloc ?_ _))).mono ?_; rintro e w3 ⟨rfl, hm, hc⟩; obtain ⟨⟨e7, ⟨g0, g1, g2⟩, e8, e88, eb⟩, HX⟩ := HA.out _ _ (by repeat (first | exact HB2.out | refine bl_drew ?_ | refine bl_drewN _ ?_ | refine bl_alloc ?_ _)) hc hm; clear hm hc))
    go_wp2
    go_ret2
    exact ⟨by first | rfl | simp, HX.out⟩
  · simp at HS HA HC HW
    obtain ⟨⟨c0, c1, c2, c3, c4, c5, c6, c7, c8⟩, ⟨r0, r1, r2⟩, cb, cg⟩ := HC.out w (Below.refl _ _)
    go_enter Try.func72, Try.ntmps72
    go_wp2_with (go_at_call 64; refine (HMB.out _).mono ?_; rintro e w2 ⟨rfl, hw⟩; subst w2)
    go_region_held (fun u => u.cell? ⟨b, 0, none⟩ = some (.int .i64 0) ∧ u.cell? ⟨b, 1, none⟩ = some (.int .i64 0) ∧ u.cell? ⟨b, 2, none⟩ = some (.int .i64 0) ∧ u.cell? ⟨b, 3, none⟩ = some (.int .i64 0) ∧ u.cell? ⟨b, 4, none⟩ = some (.int .i64 p) ∧ u.cell? ⟨b, 5, none⟩ = some (.int .i64 0) ∧ u.cell? ⟨b, 6, none⟩ = some (.int .i64 c) ∧ u.cell? ⟨b, 8, none⟩ = some (.int .i64 2) ∧ u.cell? ⟨w.heap.size, 0, none⟩ = some (.int .i64 2) ∧ u.cell? ⟨w.heap.size, 1, none⟩ = some (.int .i64 0) ∧ u.cell? ⟨w.heap.size, 2, none⟩ = some (.int .i64 1)) (go_keep) (first | (go_at_call 62; refine (HW.out _).mono ?_; rintro e w2 ⟨rfl, hw⟩; have HB2 : Hid (Below w.heap.size w w2) := below_step (by repeat (first | exact Below.refl _ _ | refine bl_drew ?_ | refine bl_drewN _ ?_ | refine bl_alloc ?_ _ | refine bl_setCell ?_ (by simp) _ _ | refine bl_setRow ?_ (by simp) _)) hw; obtain ⟨⟨c0, c1, c2, c3, c4, c5, c6, c7, c8⟩, ⟨r0, r1, r2⟩, cb, cg⟩ := HC.out _ HB2.out; obtain ⟨⟨y0, y1, y2, y3⟩, _⟩ := box3 ((hw.block w.heap.size (by simp)).trans (alloc_at rfl)); clear hw))
    go_wp2
    go_region_held (fun u => u.cell? ⟨b, 7, none⟩ = some (.slice (some ⟨g, 0, none⟩) 3 3) ∧ u.cell? ⟨b, 8, none⟩ = some (.int .i64 2) ∧ u.cell? ⟨g, 2, none⟩ = some (.int .u64 z)) (go_keep) (first | (go_at_call 84; refine (HS.out _ (by repeat (first | exact HB2.out | refine bl_drew ?_ | refine bl_drewN _ ?_ | refine bl_alloc ?_ _))).mono ?_; rintro e w3 ⟨rfl, hm, hc⟩; obtain ⟨⟨e7, ⟨g0, g1, g2⟩, e8, e88, eb⟩, HX⟩ := HA.out _ _ (by repeat (first | exact HB2.out | refine bl_drew ?_ | refine bl_drewN _ ?_ | refine bl_alloc ?_ _)) hc hm; clear hm hc))
    go_wp2
    go_ret2
    exact ⟨by first | rfl | simp, HX.out⟩
set_option maxRecDepth 100000 in
set_option maxHeartbeats 4000000 in
theorem estep_bad (h : MemAt 92 w bm gm ws o n) (hr : EwAt w b g t) (h1 : b ≠ bm) (h2 : b ≠ gm) (h3 : g ≠ bm) (h4 : g ≠ gm) (hd : t.d < 3) (hm : mayC t.c = true) (hok : ¬ errC ws o t.p t.c (wordW t.d) = 0) : Calls Try.prog 72 #[.pointer (some ⟨b, 0, none⟩), .pointer (some ⟨bm, 0, none⟩)] w fun e w' => e = .returned (.tuple #[.bool false, .int .i64 (errC ws o t.p t.c (wordW t.d))]) ∧ MemAt 92 w' bm gm ws o n ∧ EwAt w' b g t ∧ Ch [bm, gm, b] w w' := by
  have HMB := Lib.hid (refMayBe_any t.c)
  simp only [hm] at HMB
  obtain ⟨f1, _, f3, f4, f5⟩ := err_same (ws := ws) (o := o) hm t.p (wordW t.d) n
  have HW := Lib.hid (refWord_any 0 0 0 0 t.p 0 t.c (wordW t.d) (mayC_pos hm) (by have := wordW_in t.d; omega))
  have HS := Lib.hid (fun (u : World) (k : Below w.heap.size w u) => refStore_any (h.on k) (placeI t.p t.c (wordW t.d)) (bitsW t))
  simp only [f1, f3, f4, f5, aftO, aftN, if_neg hok] at HS
  have HC : Hid (∀ u, Below w.heap.size w u → (u.cell? ⟨b, 0, none⟩ = some (.int .i64 0) ∧ u.cell? ⟨b, 1, none⟩ = some (.int .i64 0) ∧ u.cell? ⟨b, 2, none⟩ = some (.int .i64 0) ∧ u.cell? ⟨b, 3, none⟩ = some (.int .i64 0) ∧ u.cell? ⟨b, 4, none⟩ = some (.int .i64 t.p) ∧ u.cell? ⟨b, 5, none⟩ = some (.int .i64 0) ∧ u.cell? ⟨b, 6, none⟩ = some (.int .i64 t.c) ∧ u.cell? ⟨b, 7, none⟩ = some (.slice (some ⟨g, 0, none⟩) 3 3) ∧ u.cell? ⟨b, 8, none⟩ = some (.int .i64 t.d)) ∧ (u.cell? ⟨g, 0, none⟩ = some (.int .u64 t.a) ∧ u.cell? ⟨g, 1, none⟩ = some (.int .u64 t.v) ∧ u.cell? ⟨g, 2, none⟩ = some (.int .u64 t.z)) ∧ b < u.heap.size ∧ g < u.heap.size) := fun u k => (hr.on k).cells
  have HA : Hid (∀ (u v : World), Below w.heap.size w u → Chg bm gm u v → MemAt 92 v bm gm ws o n → (v.cell? ⟨b, 7, none⟩ = some (.slice (some ⟨g, 0, none⟩) 3 3) ∧ (v.cell? ⟨g, 0, none⟩ = some (.int .u64 t.a) ∧ v.cell? ⟨g, 1, none⟩ = some (.int .u64 t.v) ∧ v.cell? ⟨g, 2, none⟩ = some (.int .u64 t.z)) ∧ v.cell? ⟨b, 8, none⟩ = some (.int .i64 t.d) ∧ v.frozen? ⟨b, 8, none⟩ = false ∧ b < v.heap.size) ∧ Hid (MemAt 92 v bm gm ws o n ∧ EwAt v b g t ∧ Ch [bm, gm, b] w v)) := fun u v k hc hm => by
    have k1 : EwAt v b g t := (hr.on k).keep (hc.block b (hr.on k).lt h1 h2) (hc.block g (hr.on k).ltG h3 h4)
    exact ⟨⟨k1.cell 7 _ rfl, k1.cells.2.1, k1.cell 8 _ rfl, k1.free 8, k1.lt⟩, hm, k1, (ch_of k _).trans (hc.ch (by simp) (by simp))⟩
  have HD := Lib.hid hd
  have hq := hr.lt
  have hgq := hr.ltG
  clear h hr hm hd f1 f3 f4 f5 h1 h2 h3 h4
  generalize errC ws o t.p t.c (wordW t.d) = xx at HS hok ⊢
  unfold planV at HW
  generalize placeI t.p t.c (wordW t.d) = ii at HS HW
  obtain ⟨p, c, a, v, z, d⟩ := t
  simp only [wordW, bitsW] at *
  have hd : d = 0 ∨ d = 1 ∨ d = 2 := by have : d < 3 := HD.out; omega
  rcases hd with rfl | rfl | rfl
  · simp at HS HA HC HW
    obtain ⟨⟨c0, c1, c2, c3, c4, c5, c6, c7, c8⟩, ⟨r0, r1, r2⟩, cb, cg⟩ := HC.out w (Below.refl _ _)
    go_enter Try.func72, Try.ntmps72
    go_wp2_with (go_at_call 64; refine (HMB.out _).mono ?_; rintro e w2 ⟨rfl, hw⟩; subst w2)
    go_region_held (fun u => u.cell? ⟨b, 0, none⟩ = some (.int .i64 0) ∧ u.cell? ⟨b, 1, none⟩ = some (.int .i64 0) ∧ u.cell? ⟨b, 2, none⟩ = some (.int .i64 0) ∧ u.cell? ⟨b, 3, none⟩ = some (.int .i64 0) ∧ u.cell? ⟨b, 4, none⟩ = some (.int .i64 p) ∧ u.cell? ⟨b, 5, none⟩ = some (.int .i64 0) ∧ u.cell? ⟨b, 6, none⟩ = some (.int .i64 c) ∧ u.cell? ⟨b, 8, none⟩ = some (.int .i64 0) ∧ u.cell? ⟨w.heap.size, 0, none⟩ = some (.int .i64 2) ∧ u.cell? ⟨w.heap.size, 1, none⟩ = some (.int .i64 0) ∧ u.cell? ⟨w.heap.size, 2, none⟩ = some (.int .i64 1)) (go_keep) (first | (go_at_call 62; refine (HW.out _).mono ?_; rintro e w2 ⟨rfl, hw⟩; have HB2 : Hid (Below w.heap.size w w2) := below_step (by repeat (first | exact Below.refl _ _ | refine bl_drew ?_ | refine bl_drewN _ ?_ | refine bl_alloc ?_ _ | refine bl_setCell ?_ (by simp) _ _ | refine bl_setRow ?_ (by simp) _)) hw; obtain ⟨⟨c0, c1, c2, c3, c4, c5, c6, c7, c8⟩, ⟨r0, r1, r2⟩, cb, cg⟩ := HC.out _ HB2.out; obtain ⟨⟨y0, y1, y2, y3⟩, _⟩ := box3 ((hw.block w.heap.size (by simp)).trans (alloc_at rfl)); clear hw))
    go_wp2
    go_region_held (fun u => u.cell? ⟨b, 7, none⟩ = some (.slice (some ⟨g, 0, none⟩) 3 3) ∧ u.cell? ⟨b, 8, none⟩ = some (.int .i64 0) ∧ u.cell? ⟨g, 0, none⟩ = some (.int .u64 a)) (go_keep) (first | (go_at_call 84; refine (HS.out _ (by repeat (first | exact HB2.out | refine bl_drew ?_ | refine bl_drewN _ ?_ | refine bl_alloc ?_ _))).mono ?_; rintro e w3 ⟨rfl, hm, hc⟩; obtain ⟨⟨e7, ⟨g0, g1, g2⟩, e8, e88, eb⟩, HX⟩ := HA.out _ _ (by repeat (first | exact HB2.out | refine bl_drew ?_ | refine bl_drewN _ ?_ | refine bl_alloc ?_ _)) hc hm; clear hm hc))
    go_wp2
    go_ret2
    exact ⟨by first | rfl | simp, HX.out⟩
  · simp at HS HA HC HW
    obtain ⟨⟨c0, c1, c2, c3, c4, c5, c6, c7, c8⟩, ⟨r0, r1, r2⟩, cb, cg⟩ := HC.out w (Below.refl _ _)
    go_enter Try.func72, Try.ntmps72
    go_wp2_with (go_at_call 64; refine (HMB.out _).mono ?_; rintro e w2 ⟨rfl, hw⟩; subst w2)
    go_region_held (fun u => u.cell? ⟨b, 0, none⟩ = some (.int .i64 0) ∧ u.cell? ⟨b, 1, none⟩ = some (.int .i64 0) ∧ u.cell? ⟨b, 2, none⟩ = some (.int .i64 0) ∧ u.cell? ⟨b, 3, none⟩ = some (.int .i64 0) ∧ u.cell? ⟨b, 4, none⟩ = some (.int .i64 p) ∧ u.cell? ⟨b, 5, none⟩ = some (.int .i64 0) ∧ u.cell? ⟨b, 6, none⟩ = some (.int .i64 c) ∧ u.cell? ⟨b, 8, none⟩ = some (.int .i64 1) ∧ u.cell? ⟨w.heap.size, 0, none⟩ = some (.int .i64 2) ∧ u.cell? ⟨w.heap.size, 1, none⟩ = some (.int .i64 0) ∧ u.cell? ⟨w.heap.size, 2, none⟩ = some (.int .i64 1)) (go_keep) (first | (go_at_call 62; refine (HW.out _).mono ?_; rintro e w2 ⟨rfl, hw⟩; have HB2 : Hid (Below w.heap.size w w2) := below_step (by repeat (first | exact Below.refl _ _ | refine bl_drew ?_ | refine bl_drewN _ ?_ | refine bl_alloc ?_ _ | refine bl_setCell ?_ (by simp) _ _ | refine bl_setRow ?_ (by simp) _)) hw; obtain ⟨⟨c0, c1, c2, c3, c4, c5, c6, c7, c8⟩, ⟨r0, r1, r2⟩, cb, cg⟩ := HC.out _ HB2.out; obtain ⟨⟨y0, y1, y2, y3⟩, _⟩ := box3 ((hw.block w.heap.size (by simp)).trans (alloc_at rfl)); clear hw))
    go_wp2
    go_region_held (fun u => u.cell? ⟨b, 7, none⟩ = some (.slice (some ⟨g, 0, none⟩) 3 3) ∧ u.cell? ⟨b, 8, none⟩ = some (.int .i64 1) ∧ u.cell? ⟨g, 1, none⟩ = some (.int .u64 v)) (go_keep) (first | (go_at_call 84; refine (HS.out _ (by repeat (first | exact HB2.out | refine bl_drew ?_ | refine bl_drewN _ ?_ | refine bl_alloc ?_ _))).mono ?_; rintro e w3 ⟨rfl, hm, hc⟩; obtain ⟨⟨e7, ⟨g0, g1, g2⟩, e8, e88, eb⟩, HX⟩ := HA.out _ _ (by repeat (first | exact HB2.out | refine bl_drew ?_ | refine bl_drewN _ ?_ | refine bl_alloc ?_ _)) hc hm; clear hm hc))
    go_wp2
    go_ret2
    exact ⟨by first | rfl | simp, HX.out⟩
  · simp at HS HA HC HW
    obtain ⟨⟨c0, c1, c2, c3, c4, c5, c6, c7, c8⟩, ⟨r0, r1, r2⟩, cb, cg⟩ := HC.out w (Below.refl _ _)
    go_enter Try.func72, Try.ntmps72
    go_wp2_with (go_at_call 64; refine (HMB.out _).mono ?_; rintro e w2 ⟨rfl, hw⟩; subst w2)
    go_region_held (fun u => u.cell? ⟨b, 0, none⟩ = some (.int .i64 0) ∧ u.cell? ⟨b, 1, none⟩ = some (.int .i64 0) ∧ u.cell? ⟨b, 2, none⟩ = some (.int .i64 0) ∧ u.cell? ⟨b, 3, none⟩ = some (.int .i64 0) ∧ u.cell? ⟨b, 4, none⟩ = some (.int .i64 p) ∧ u.cell? ⟨b, 5, none⟩ = some (.int .i64 0) ∧ u.cell? ⟨b, 6, none⟩ = some (.int .i64 c) ∧ u.cell? ⟨b, 8, none⟩ = some (.int .i64 2) ∧ u.cell? ⟨w.heap.size, 0, none⟩ = some (.int .i64 2) ∧ u.cell? ⟨w.heap.size, 1, none⟩ = some (.int .i64 0) ∧ u.cell? ⟨w.heap.size, 2, none⟩ = some (.int .i64 1)) (go_keep) (first | (go_at_call 62; refine (HW.out _).mono ?_; rintro e w2 ⟨rfl, hw⟩; have HB2 : Hid (Below w.heap.size w w2) := below_step (by repeat (first | exact Below.refl _ _ | refine bl_drew ?_ | refine bl_drewN _ ?_ | refine bl_alloc ?_ _ | refine bl_setCell ?_ (by simp) _ _ | refine bl_setRow ?_ (by simp) _)) hw; obtain ⟨⟨c0, c1, c2, c3, c4, c5, c6, c7, c8⟩, ⟨r0, r1, r2⟩, cb, cg⟩ := HC.out _ HB2.out; obtain ⟨⟨y0, y1, y2, y3⟩, _⟩ := box3 ((hw.block w.heap.size (by simp)).trans (alloc_at rfl)); clear hw))
    go_wp2
    go_region_held (fun u => u.cell? ⟨b, 7, none⟩ = some (.slice (some ⟨g, 0, none⟩) 3 3) ∧ u.cell? ⟨b, 8, none⟩ = some (.int .i64 2) ∧ u.cell? ⟨g, 2, none⟩ = some (.int .u64 z)) (go_keep) (first | (go_at_call 84; refine (HS.out _ (by repeat (first | exact HB2.out | refine bl_drew ?_ | refine bl_drewN _ ?_ | refine bl_alloc ?_ _))).mono ?_; rintro e w3 ⟨rfl, hm, hc⟩; obtain ⟨⟨e7, ⟨g0, g1, g2⟩, e8, e88, eb⟩, HX⟩ := HA.out _ _ (by repeat (first | exact HB2.out | refine bl_drew ?_ | refine bl_drewN _ ?_ | refine bl_alloc ?_ _)) hc hm; clear hm hc))
    go_wp2
    go_ret2
    exact ⟨by first | rfl | simp, HX.out⟩
theorem estep_any (h : MemAt 92 w bm gm ws o n) (hr : EwAt w b g t) (h1 : b ≠ bm) (h2 : b ≠ gm) (h3 : g ≠ bm) (h4 : g ≠ gm) : Calls Try.prog 72 #[.pointer (some ⟨b, 0, none⟩), .pointer (some ⟨bm, 0, none⟩)] w fun e w' => e = .returned (.tuple #[.bool (endW t ws o), .int .i64 (errW t ws o)]) ∧ MemAt 92 w' bm gm (laidW t ws o) (aftO (errW t ws o) o) (aftN (errW t ws o) n) ∧ EwAt w' b g (stepW t ws o) ∧ Ch [bm, gm, b] w w' := by
  by_cases hd : t.d < 3
  · have eE : errW t ws o = errC ws o t.p t.c (wordW t.d) := by simp [errW, hd]
    cases hm : mayC t.c
    · have e1 : errC ws o t.p t.c (wordW t.d) = 60 := by simp [errC, hm]
      have e3 : ¬ errW t ws o = 0 := by rw [eE, e1]; decide
      have e2 : endW t ws o = false := by simp [endW, e3]
      rw [e2, laidW, stepW, aftO, aftN, if_neg e3, if_neg e3, if_neg e3, if_neg e3, eE, e1]
      exact (estep_nocell hr hd hm).mono fun e w' ⟨he, hb⟩ => ⟨he, h.on hb, hr.on hb, ch_of hb _⟩
    · by_cases hok : errC ws o t.p t.c (wordW t.d) = 0
      · have e1 : errW t ws o = 0 := by rw [eE]; exact hok
        have e2 : endW t ws o = decide (t.d = 2) := by simp [endW, e1]
        rw [e2, laidW, stepW, if_pos e1, if_pos e1, e1]
        exact estep_may h hr h1 h2 h3 h4 hd hm hok
      · have e1 : ¬ errW t ws o = 0 := by rw [eE]; exact hok
        have e2 : endW t ws o = false := by simp [endW, e1]
        rw [e2, laidW, stepW, aftO, aftN, if_neg e1, if_neg e1, if_neg e1, if_neg e1, eE]
        exact estep_bad h hr h1 h2 h3 h4 hd hm hok
  · have e1 : errW t ws o = 3 := by simp [errW, hd]
    have e3 : ¬ errW t ws o = 0 := by rw [e1]; decide
    have e2 : endW t ws o = false := by simp [endW, e1]
    rw [e2, laidW, stepW, aftO, aftN, if_neg e3, if_neg e3, if_neg e3, if_neg e3, e1]
    refine (estep_over hr hd).mono fun e w' ⟨he, hw⟩ => ?_
    subst hw
    exact ⟨he, h, hr, Ch.refl _ _⟩
end
set_option maxRecDepth 100000 in
set_option maxHeartbeats 1000000 in
theorem ewrite_any (w : World) (p c v : Int) (x y : Nat) : Calls Try.prog 67 #[planV 0 0 0 0 p 0, .int .i64 c, .int .u64 v, .float .f64 x, .float .f64 y] w fun e w' => ∃ q g, e = .returned (.pointer (some ⟨q, 0, none⟩)) ∧ (w.heap.size ≤ q ∧ w.heap.size ≤ g) ∧ EwAt w' q g (newW p c v x y) ∧ Below w.heap.size w w' := by
  unfold planV
  go_enter Try.func67, Try.ntmps67
  go_wp2_with (go_at_call 35; refine (refBits_any _ _).mono ?_; rintro e w2 ⟨rfl, hw⟩; subst w2)
  go_ret
  exact ⟨_, _, rfl, ⟨by omega, by omega⟩, ⟨alloc_at (by simp), (Below.heap_alloc _ _ _ (by simp)).trans (alloc_at (by simp)), by omega, Nat.zero_le _⟩, bl_alloc (bl_alloc (bl_alloc (Below.refl _ _) _) _) _⟩
end Go.Proofs.Ytmmijcmlnhmooaa
