import Derived.Test.YtmmijcmlnhmooaaE4
import Derived.Deep.RegionHeld
import Derived.Deep.QuietTactic
import Derived.BigQuiet
namespace Go.Proofs.Ytmmijcmlnhmooaa
open Go.ChangeShapes Go.WideShapes Go.ChangeAt Go.RowKit Num
attribute [local go_sem] run_store_float run_store_func run_store_nilFunc

/-- a write as numbers: where, what it stores (Was, Version, Now), how many were -/
structure Wt where
  p : Int
  c : Int
  a : Int
  v : Int
  z : Int
  d : Nat
theorem bl_alloc {a w : World} (h : Below a.heap.size a w) (x : Obj) : Below a.heap.size a (w.alloc x) := h.alloc h.size x
theorem bl_drew {a w : World} (h : Below a.heap.size a w) : Below a.heap.size a w.drew := ⟨h.os, h.tape, h.output, h.size, h.block⟩
theorem bl_drewN {a w : World} (n : Nat) (h : Below a.heap.size a w) : Below a.heap.size a (w.drewN n) := ⟨h.os, h.tape, h.output, h.size, h.block⟩
theorem bl_setCell {a w : World} {k : Nat} (h : Below a.heap.size a w) (hk : a.heap.size ≤ k) (j : Nat) (u : Value) : Below a.heap.size a (w.setCell ⟨k, j, none⟩ u) :=
  ⟨h.os, h.tape, h.output, by simpa using h.size, fun i hi => (heap_setCell_other w ⟨k, j, none⟩ i u (by show i ≠ k; omega)).trans (h.block i hi)⟩
theorem bl_setRow {a w : World} {k : Nat} (h : Below a.heap.size a w) (hk : a.heap.size ≤ k) (x : Array Value) : Below a.heap.size a (w.setRow k x) :=
  ⟨h.os, h.tape, h.output, by simpa using h.size, fun i hi => (setRow_other _ _ _ _ (by omega)).trans (h.block i hi)⟩
theorem chg_cell {b g k : Nat} {u w1 : World} (hc : Chg b g u w1) (hk : k < u.heap.size) (h1 : k ≠ b) (h2 : k ≠ g) (j : Nat) : w1.cell? ⟨k, j, none⟩ = u.cell? ⟨k, j, none⟩ := World.cell?_of_block (a := ⟨k, j, none⟩) (hc.block k hk h1 h2)
def wboxV (t : Wt) : Array Value := #[.int .i64 t.p, .int .i64 t.c, .int .i64 2, .int .u64 t.a, .int .i64 0, .int .u64 t.v, .int .i64 1, .int .u64 t.z, .int .i64 t.d]
def WtAt (w : World) (q : Nat) (t : Wt) : Prop := w.heap[q]? = some (.cells (wboxV t) 108 (0, 0)) ∧ t.d ≤ 3
section
variable {w : World} {q : Nat} {t : Wt}
theorem WtAt.lt (h : WtAt w q t) : q < w.heap.size := lt_of_block h.1
theorem WtAt.free (h : WtAt w q t) (j : Nat) : w.frozen? ⟨q, j, none⟩ = false := frozen_of_row w q j _ _ h.1
theorem WtAt.cell (h : WtAt w q t) (j : Nat) (v : Value) (hj : (wboxV t)[j]? = some v) : w.cell? ⟨q, j, none⟩ = some v := by rw [cell_of_row w q j _ _ _ h.1]; exact hj
theorem WtAt.keep {w' : World} (h : WtAt w q t) (k : w'.heap[q]? = w.heap[q]?) : WtAt w' q t := ⟨k.trans h.1, h.2⟩
theorem WtAt.ch {w' : World} {L : List Nat} (h : WtAt w q t) (k : Ch L w w') (h1 : q ∉ L) : WtAt w' q t := h.keep (k.block q h.lt h1)
theorem WtAt.on {w' : World} (h : WtAt w q t) (k : Below w.heap.size w w') : WtAt w' q t := h.keep (k.block q h.lt)
theorem WtAt.setD (h : WtAt w q t) (hd : t.d < 3) : WtAt (w.setCell ⟨q, 8, none⟩ (.int .i64 ((t.d + 1 : Nat) : Int))) q { t with d := t.d + 1 } := ⟨(heap_setCell_same w q 8 _ _ _ h.1).trans rfl, hd⟩
end
/-- which word a write's step has, and what it gets -/
def wordW (d : Nat) : Int := if d = 0 then 2 else if d = 1 then 0 else 1
def bitsW (t : Wt) : Int := if t.d = 0 then t.a else if t.d = 1 then t.v else t.z
theorem wordW_in (d : Nat) : 0 ≤ wordW d ∧ wordW d < 3 := by unfold wordW; split <;> (try split) <;> omega
def errW (t : Wt) (ws : List Int) (o : Bool) : Int := if t.d < 3 then errC ws o t.p t.c (wordW t.d) else 3
def stepW (t : Wt) (ws : List Int) (o : Bool) : Wt := if errW t ws o = 0 then { t with d := t.d + 1 } else t
def laidW (t : Wt) (ws : List Int) (o : Bool) : List Int := if errW t ws o = 0 then storeC ws t.p t.c (wordW t.d) (bitsW t) else ws
def endW (t : Wt) (ws : List Int) (o : Bool) : Bool := decide (errW t ws o = 0) && decide (t.d = 2)
section
variable {w : World} {b g q : Nat} {ws : List Int} {o : Bool} {n : Int} {t : Wt}
theorem wover_any (h : WtAt w q t) : Calls Try.prog 59 #[.pointer (some ⟨q, 0, none⟩)] w fun e w' => e = .returned (.bool (decide (t.d = 3))) ∧ w' = w := by
  have h8 := h.cell 8 (.int .i64 t.d) rfl
  have hb := h.lt
  have e : decide ((t.d : Int) = 3) = decide (t.d = 3) := by rw [decide_eq_decide]; omega
  rw [← e]
  clear e h
  go_enter Try.func59, Try.ntmps59
  go_wp2
  go_ret
  exact ⟨by first | rfl | (congr 1), rfl⟩
set_option maxRecDepth 100000 in
set_option maxHeartbeats 1000000 in
theorem wstep_over (h : WtAt w q t) (hk : ¬ t.d < 3) : Calls Try.prog 30 #[.pointer (some ⟨q, 0, none⟩), .pointer (some ⟨b, 0, none⟩)] w fun e w' => e = .returned (.tuple #[.bool false, .int .i64 3]) ∧ w' = w := by
  have H1 := Lib.hid (wover_any h)
  rw [decide_eq_true (show t.d = 3 by have := h.2; omega)] at H1
  clear h hk
  go_enter Try.func30, Try.ntmps30
  go_wp2_with (go_at_call 59; refine H1.out.mono ?_; rintro e w1 ⟨rfl, hw⟩; subst w1)
  go_ret2
  exact ⟨rfl, rfl⟩
set_option maxRecDepth 100000 in
set_option maxHeartbeats 2000000 in
theorem wstep_ok (h : MemAt 90 w b g ws o n) (hr : WtAt w q t) (h1 : q ≠ b) (h2 : q ≠ g) (hd : t.d < 3) (hok : errC ws o t.p t.c (wordW t.d) = 0) : Calls Try.prog 30 #[.pointer (some ⟨q, 0, none⟩), .pointer (some ⟨b, 0, none⟩)] w fun e w' => e = .returned (.tuple #[.bool (decide (t.d = 2)), .int .i64 0]) ∧ MemAt 90 w' b g (storeC ws t.p t.c (wordW t.d) (bitsW t)) false (up n) ∧ WtAt w' q { t with d := t.d + 1 } ∧ Ch [b, g, q] w w' := by
  have H1 := Lib.hid (wover_any hr)
  rw [decide_eq_false (show ¬ t.d = 3 by omega)] at H1
  have HS := Lib.hid (fun (u : World) (k : Below w.heap.size w u) => cstore_ok (h.on k) (p := t.p) (c := t.c) (j := wordW t.d) (bitsW t) (wordW_in _) hok)
  have HR := Lib.hid hr
  have HD := Lib.hid hd
  have HN := Lib.hid (And.intro h1 h2)
  have hb := h.ltB
  have hg := h.ltG
  have hq := hr.lt
  have c0 : w.cell? ⟨q, 0, none⟩ = some (.int .i64 t.p) := hr.cell 0 _ rfl
  have c1 : w.cell? ⟨q, 1, none⟩ = some (.int .i64 t.c) := hr.cell 1 _ rfl
  have c2 : w.cell? ⟨q, 2, none⟩ = some (.int .i64 2) := hr.cell 2 _ rfl
  have c3 : w.cell? ⟨q, 3, none⟩ = some (.int .u64 t.a) := hr.cell 3 _ rfl
  have c4 : w.cell? ⟨q, 4, none⟩ = some (.int .i64 0) := hr.cell 4 _ rfl
  have c5 : w.cell? ⟨q, 5, none⟩ = some (.int .u64 t.v) := hr.cell 5 _ rfl
  have c6 : w.cell? ⟨q, 6, none⟩ = some (.int .i64 1) := hr.cell 6 _ rfl
  have c7 : w.cell? ⟨q, 7, none⟩ = some (.int .u64 t.z) := hr.cell 7 _ rfl
  have c8 : w.cell? ⟨q, 8, none⟩ = some (.int .i64 t.d) := hr.cell 8 _ rfl
  have HO := Lib.hid (fun (w1 : World) (k1 : WtAt w1 q { t with d := t.d + 1 }) => wover_any k1)
  have e2 : decide (t.d + 1 = 3) = decide (t.d = 2) := by rw [decide_eq_decide]; omega
  simp only [e2] at HO
  have HA : Hid (∀ (u w1 : World), Below w.heap.size w u → w.heap.size < u.heap.size → Chg b g u w1 → MemAt 90 w1 b g (storeC ws t.p t.c (wordW t.d) (bitsW t)) false (up n) → (w1.cell? ⟨q, 0, none⟩ = some (.int .i64 t.p) ∧ w1.cell? ⟨q, 1, none⟩ = some (.int .i64 t.c) ∧ w1.cell? ⟨w.heap.size, 0, none⟩ = u.cell? ⟨w.heap.size, 0, none⟩ ∧ w1.cell? ⟨w.heap.size, 1, none⟩ = u.cell? ⟨w.heap.size, 1, none⟩ ∧ w1.cell? ⟨q, 8, none⟩ = some (.int .i64 t.d) ∧ w1.frozen? ⟨q, 8, none⟩ = false ∧ q < w1.heap.size) ∧ Hid (WtAt (w1.setCell ⟨q, 8, none⟩ (.int .i64 ((t.d + 1 : Nat) : Int))) q { t with d := t.d + 1 } ∧ MemAt 90 (w1.setCell ⟨q, 8, none⟩ (.int .i64 ((t.d + 1 : Nat) : Int))) b g (storeC ws t.p t.c (wordW t.d) (bitsW t)) false (up n) ∧ Ch [b, g, q] w (w1.setCell ⟨q, 8, none⟩ (.int .i64 ((t.d + 1 : Nat) : Int))))) := fun u w1 k hs hc hm => by
    have k1 : WtAt w1 q t := hr.keep ((hc.block q (Nat.lt_of_lt_of_le hq k.size) h1 h2).trans (k.block q hq))
    exact ⟨⟨k1.cell 0 _ rfl, k1.cell 1 _ rfl, chg_cell hc hs (by omega) (by omega) 0, chg_cell hc hs (by omega) (by omega) 1, k1.cell 8 _ rfl, k1.free 8, k1.lt⟩, k1.setD hd, hm.other (Ne.symm h1) (Ne.symm h2) _ _, ((ch_of k _).trans (hc.ch (by simp) (by simp))).set (by simp) _ _⟩
  clear h hr hok hd e2
  generalize hyy : storeC ws t.p t.c (wordW t.d) (bitsW t) = yy at HS HA ⊢
  clear hyy
  obtain ⟨p, c, a, v, z, d⟩ := t
  simp only [wordW, bitsW] at *
  have hd : d = 0 ∨ d = 1 ∨ d = 2 := by have : d < 3 := HD.out; omega
  rcases hd with rfl | rfl | rfl
  · simp at HS HA HO c8
    go_enter Try.func30, Try.ntmps30
    go_wp2_with (go_at_call 59; refine H1.out.mono ?_; rintro e w1 ⟨rfl, hw⟩; subst w1; clear H1)
    go_region_held (fun u => u.cell? ⟨q, 0, none⟩ = some (.int .i64 p) ∧ u.cell? ⟨q, 1, none⟩ = some (.int .i64 c) ∧ u.cell? ⟨q, 2, none⟩ = some (.int .i64 2) ∧ u.cell? ⟨q, 3, none⟩ = some (.int .u64 a) ∧ u.cell? ⟨q, 4, none⟩ = some (.int .i64 0) ∧ u.cell? ⟨q, 5, none⟩ = some (.int .u64 v) ∧ u.cell? ⟨q, 6, none⟩ = some (.int .i64 1) ∧ u.cell? ⟨q, 7, none⟩ = some (.int .u64 z) ∧ u.cell? ⟨q, 8, none⟩ = some (.int .i64 0)) (go_keep) (fail)
    go_wp2
    go_region_held (fun u => u.cell? ⟨q, 0, none⟩ = some (.int .i64 p) ∧ u.cell? ⟨q, 1, none⟩ = some (.int .i64 c) ∧ u.cell? ⟨w.heap.size, 0, none⟩ = some (.int .i64 2) ∧ u.cell? ⟨w.heap.size, 1, none⟩ = some (.int .u64 a)) (go_keep) (first | (go_at_call 60; refine (HS.out _ (by repeat (first | exact Below.refl _ _ | refine bl_drew ?_ | refine bl_drewN _ ?_ | refine bl_alloc ?_ _ | refine bl_setCell ?_ (by simp) _ _ | refine bl_setRow ?_ (by simp) _))).mono ?_; rintro e w2 ⟨rfl, hm, hc⟩; obtain ⟨⟨d0, d1, d2, d3, d4, d5, d6⟩, hx⟩ := HA.out _ _ (by repeat (first | exact Below.refl _ _ | refine bl_drew ?_ | refine bl_drewN _ ?_ | refine bl_alloc ?_ _ | refine bl_setCell ?_ (by simp) _ _ | refine bl_setRow ?_ (by simp) _)) (by simp) hc hm; clear hm hc))
    go_wp2_with (go_at_call 59; refine (HO.out _ hx.out.1).mono ?_; rintro e w1 ⟨rfl, hw⟩; subst w1; clear HO)
    go_ret2
    exact ⟨by first | rfl | simp, hx.out.2.1, hx.out.1, hx.out.2.2⟩
  · simp at HS HA HO c8
    go_enter Try.func30, Try.ntmps30
    go_wp2_with (go_at_call 59; refine H1.out.mono ?_; rintro e w1 ⟨rfl, hw⟩; subst w1; clear H1)
    go_region_held (fun u => u.cell? ⟨q, 0, none⟩ = some (.int .i64 p) ∧ u.cell? ⟨q, 1, none⟩ = some (.int .i64 c) ∧ u.cell? ⟨q, 2, none⟩ = some (.int .i64 2) ∧ u.cell? ⟨q, 3, none⟩ = some (.int .u64 a) ∧ u.cell? ⟨q, 4, none⟩ = some (.int .i64 0) ∧ u.cell? ⟨q, 5, none⟩ = some (.int .u64 v) ∧ u.cell? ⟨q, 6, none⟩ = some (.int .i64 1) ∧ u.cell? ⟨q, 7, none⟩ = some (.int .u64 z) ∧ u.cell? ⟨q, 8, none⟩ = some (.int .i64 1)) (go_keep) (fail)
    go_wp2
    go_region_held (fun u => u.cell? ⟨q, 0, none⟩ = some (.int .i64 p) ∧ u.cell? ⟨q, 1, none⟩ = some (.int .i64 c) ∧ u.cell? ⟨w.heap.size, 0, none⟩ = some (.int .i64 0) ∧ u.cell? ⟨w.heap.size, 1, none⟩ = some (.int .u64 v)) (go_keep) (first | (go_at_call 60; refine (HS.out _ (by repeat (first | exact Below.refl _ _ | refine bl_drew ?_ | refine bl_drewN _ ?_ | refine bl_alloc ?_ _ | refine bl_setCell ?_ (by simp) _ _ | refine bl_setRow ?_ (by simp) _))).mono ?_; rintro e w2 ⟨rfl, hm, hc⟩; obtain ⟨⟨d0, d1, d2, d3, d4, d5, d6⟩, hx⟩ := HA.out _ _ (by repeat (first | exact Below.refl _ _ | refine bl_drew ?_ | refine bl_drewN _ ?_ | refine bl_alloc ?_ _ | refine bl_setCell ?_ (by simp) _ _ | refine bl_setRow ?_ (by simp) _)) (by simp) hc hm; clear hm hc))
    go_wp2_with (go_at_call 59; refine (HO.out _ hx.out.1).mono ?_; rintro e w1 ⟨rfl, hw⟩; subst w1; clear HO)
    go_ret2
    exact ⟨by first | rfl | simp, hx.out.2.1, hx.out.1, hx.out.2.2⟩
  · simp at HS HA HO c8
    go_enter Try.func30, Try.ntmps30
    go_wp2_with (go_at_call 59; refine H1.out.mono ?_; rintro e w1 ⟨rfl, hw⟩; subst w1; clear H1)
    go_region_held (fun u => u.cell? ⟨q, 0, none⟩ = some (.int .i64 p) ∧ u.cell? ⟨q, 1, none⟩ = some (.int .i64 c) ∧ u.cell? ⟨q, 2, none⟩ = some (.int .i64 2) ∧ u.cell? ⟨q, 3, none⟩ = some (.int .u64 a) ∧ u.cell? ⟨q, 4, none⟩ = some (.int .i64 0) ∧ u.cell? ⟨q, 5, none⟩ = some (.int .u64 v) ∧ u.cell? ⟨q, 6, none⟩ = some (.int .i64 1) ∧ u.cell? ⟨q, 7, none⟩ = some (.int .u64 z) ∧ u.cell? ⟨q, 8, none⟩ = some (.int .i64 2)) (go_keep) (fail)
    go_wp2
    go_region_held (fun u => u.cell? ⟨q, 0, none⟩ = some (.int .i64 p) ∧ u.cell? ⟨q, 1, none⟩ = some (.int .i64 c) ∧ u.cell? ⟨w.heap.size, 0, none⟩ = some (.int .i64 1) ∧ u.cell? ⟨w.heap.size, 1, none⟩ = some (.int .u64 z)) (go_keep) (first | (go_at_call 60; refine (HS.out _ (by repeat (first | exact Below.refl _ _ | refine bl_drew ?_ | refine bl_drewN _ ?_ | refine bl_alloc ?_ _ | refine bl_setCell ?_ (by simp) _ _ | refine bl_setRow ?_ (by simp) _))).mono ?_; rintro e w2 ⟨rfl, hm, hc⟩; obtain ⟨⟨d0, d1, d2, d3, d4, d5, d6⟩, hx⟩ := HA.out _ _ (by repeat (first | exact Below.refl _ _ | refine bl_drew ?_ | refine bl_drewN _ ?_ | refine bl_alloc ?_ _ | refine bl_setCell ?_ (by simp) _ _ | refine bl_setRow ?_ (by simp) _)) (by simp) hc hm; clear hm hc))
    go_wp2_with (go_at_call 59; refine (HO.out _ hx.out.1).mono ?_; rintro e w1 ⟨rfl, hw⟩; subst w1; clear HO)
    go_ret2
    exact ⟨by first | rfl | simp, hx.out.2.1, hx.out.1, hx.out.2.2⟩
set_option maxRecDepth 100000 in
set_option maxHeartbeats 2000000 in
theorem wstep_no (h : MemAt 90 w b g ws o n) (hr : WtAt w q t) (h1 : q ≠ b) (h2 : q ≠ g) (hd : t.d < 3) (hok : ¬ errC ws o t.p t.c (wordW t.d) = 0) : Calls Try.prog 30 #[.pointer (some ⟨q, 0, none⟩), .pointer (some ⟨b, 0, none⟩)] w fun e w' => e = .returned (.tuple #[.bool false, .int .i64 (errC ws o t.p t.c (wordW t.d))]) ∧ MemAt 90 w' b g ws o n ∧ WtAt w' q t ∧ Ch [b, g, q] w w' := by
  have H1 := Lib.hid (wover_any hr)
  rw [decide_eq_false (show ¬ t.d = 3 by omega)] at H1
  have HS := Lib.hid (fun (u : World) (k : Below w.heap.size w u) => cstore_no (h.on k) (p := t.p) (c := t.c) (j := wordW t.d) (bitsW t) (wordW_in _) hok)
  have HD := Lib.hid hd
  have hb := h.ltB
  have hg := h.ltG
  have hq := hr.lt
  have c0 : w.cell? ⟨q, 0, none⟩ = some (.int .i64 t.p) := hr.cell 0 _ rfl
  have c1 : w.cell? ⟨q, 1, none⟩ = some (.int .i64 t.c) := hr.cell 1 _ rfl
  have c2 : w.cell? ⟨q, 2, none⟩ = some (.int .i64 2) := hr.cell 2 _ rfl
  have c3 : w.cell? ⟨q, 3, none⟩ = some (.int .u64 t.a) := hr.cell 3 _ rfl
  have c4 : w.cell? ⟨q, 4, none⟩ = some (.int .i64 0) := hr.cell 4 _ rfl
  have c5 : w.cell? ⟨q, 5, none⟩ = some (.int .u64 t.v) := hr.cell 5 _ rfl
  have c6 : w.cell? ⟨q, 6, none⟩ = some (.int .i64 1) := hr.cell 6 _ rfl
  have c7 : w.cell? ⟨q, 7, none⟩ = some (.int .u64 t.z) := hr.cell 7 _ rfl
  have c8 : w.cell? ⟨q, 8, none⟩ = some (.int .i64 t.d) := hr.cell 8 _ rfl
  have HA : Hid (∀ (u w1 : World), Below w.heap.size w u → w.heap.size < u.heap.size → Chg b g u w1 → MemAt 90 w1 b g ws o n → (w1.cell? ⟨q, 0, none⟩ = some (.int .i64 t.p) ∧ w1.cell? ⟨q, 1, none⟩ = some (.int .i64 t.c) ∧ w1.cell? ⟨w.heap.size, 0, none⟩ = u.cell? ⟨w.heap.size, 0, none⟩ ∧ w1.cell? ⟨w.heap.size, 1, none⟩ = u.cell? ⟨w.heap.size, 1, none⟩) ∧ Hid (MemAt 90 w1 b g ws o n ∧ WtAt w1 q t ∧ Ch [b, g, q] w w1)) := fun u w1 k hs hc hm => by
    have k1 : WtAt w1 q t := hr.keep ((hc.block q (Nat.lt_of_lt_of_le hq k.size) h1 h2).trans (k.block q hq))
    exact ⟨⟨k1.cell 0 _ rfl, k1.cell 1 _ rfl, chg_cell hc hs (by omega) (by omega) 0, chg_cell hc hs (by omega) (by omega) 1⟩, hm, hr.keep ((hc.block q (Nat.lt_of_lt_of_le hq k.size) h1 h2).trans (k.block q hq)), ((ch_of k _).trans (hc.ch (by simp) (by simp)))⟩
  clear h hr hd
  generalize errC ws o t.p t.c (wordW t.d) = x at HS hok ⊢
  obtain ⟨p, c, a, v, z, d⟩ := t
  simp only [wordW, bitsW] at *
  have hd : d = 0 ∨ d = 1 ∨ d = 2 := by have : d < 3 := HD.out; omega
  rcases hd with rfl | rfl | rfl
  · simp at HS HA c8
    go_enter Try.func30, Try.ntmps30
    go_wp2_with (go_at_call 59; refine H1.out.mono ?_; rintro e w1 ⟨rfl, hw⟩; subst w1; clear H1)
    go_region_held (fun u => u.cell? ⟨q, 0, none⟩ = some (.int .i64 p) ∧ u.cell? ⟨q, 1, none⟩ = some (.int .i64 c) ∧ u.cell? ⟨q, 2, none⟩ = some (.int .i64 2) ∧ u.cell? ⟨q, 3, none⟩ = some (.int .u64 a) ∧ u.cell? ⟨q, 4, none⟩ = some (.int .i64 0) ∧ u.cell? ⟨q, 5, none⟩ = some (.int .u64 v) ∧ u.cell? ⟨q, 6, none⟩ = some (.int .i64 1) ∧ u.cell? ⟨q, 7, none⟩ = some (.int .u64 z) ∧ u.cell? ⟨q, 8, none⟩ = some (.int .i64 0)) (go_keep) (fail)
    go_wp2
    go_region_held (fun u => u.cell? ⟨q, 0, none⟩ = some (.int .i64 p) ∧ u.cell? ⟨q, 1, none⟩ = some (.int .i64 c) ∧ u.cell? ⟨w.heap.size, 0, none⟩ = some (.int .i64 2) ∧ u.cell? ⟨w.heap.size, 1, none⟩ = some (.int .u64 a)) (go_keep) (first | (go_at_call 60; refine (HS.out _ (by repeat (first | exact Below.refl _ _ | refine bl_drew ?_ | refine bl_drewN _ ?_ | refine bl_alloc ?_ _ | refine bl_setCell ?_ (by simp) _ _ | refine bl_setRow ?_ (by simp) _))).mono ?_; rintro e w2 ⟨rfl, hm, hc⟩; obtain ⟨⟨d0, d1, d2, d3⟩, hx⟩ := HA.out _ _ (by repeat (first | exact Below.refl _ _ | refine bl_drew ?_ | refine bl_drewN _ ?_ | refine bl_alloc ?_ _ | refine bl_setCell ?_ (by simp) _ _ | refine bl_setRow ?_ (by simp) _)) (by simp) hc hm; clear hm hc))
    go_wp2
    go_ret2
    exact ⟨rfl, hx.out⟩
  · simp at HS HA c8
    go_enter Try.func30, Try.ntmps30
    go_wp2_with (go_at_call 59; refine H1.out.mono ?_; rintro e w1 ⟨rfl, hw⟩; subst w1; clear H1)
    go_region_held (fun u => u.cell? ⟨q, 0, none⟩ = some (.int .i64 p) ∧ u.cell? ⟨q, 1, none⟩ = some (.int .i64 c) ∧ u.cell? ⟨q, 2, none⟩ = some (.int .i64 2) ∧ u.cell? ⟨q, 3, none⟩ = some (.int .u64 a) ∧ u.cell? ⟨q, 4, none⟩ = some (.int .i64 0) ∧ u.cell? ⟨q, 5, none⟩ = some (.int .u64 v) ∧ u.cell? ⟨q, 6, none⟩ = some (.int .i64 1) ∧ u.cell? ⟨q, 7, none⟩ = some (.int .u64 z) ∧ u.cell? ⟨q, 8, none⟩ = some (.int .i64 1)) (go_keep) (fail)
    go_wp2
    go_region_held (fun u => u.cell? ⟨q, 0, none⟩ = some (.int .i64 p) ∧ u.cell? ⟨q, 1, none⟩ = some (.int .i64 c) ∧ u.cell? ⟨w.heap.size, 0, none⟩ = some (.int .i64 0) ∧ u.cell? ⟨w.heap.size, 1, none⟩ = some (.int .u64 v)) (go_keep) (first | (go_at_call 60; refine (HS.out _ (by repeat (first | exact Below.refl _ _ | refine bl_drew ?_ | refine bl_drewN _ ?_ | refine bl_alloc ?_ _ | refine bl_setCell ?_ (by simp) _ _ | refine bl_setRow ?_ (by simp) _))).mono ?_; rintro e w2 ⟨rfl, hm, hc⟩; obtain ⟨⟨d0, d1, d2, d3⟩, hx⟩ := HA.out _ _ (by repeat (first | exact Below.refl _ _ | refine bl_drew ?_ | refine bl_drewN _ ?_ | refine bl_alloc ?_ _ | refine bl_setCell ?_ (by simp) _ _ | refine bl_setRow ?_ (by simp) _)) (by simp) hc hm; clear hm hc))
    go_wp2
    go_ret2
    exact ⟨rfl, hx.out⟩
  · simp at HS HA c8
    go_enter Try.func30, Try.ntmps30
    go_wp2_with (go_at_call 59; refine H1.out.mono ?_; rintro e w1 ⟨rfl, hw⟩; subst w1; clear H1)
    go_region_held (fun u => u.cell? ⟨q, 0, none⟩ = some (.int .i64 p) ∧ u.cell? ⟨q, 1, none⟩ = some (.int .i64 c) ∧ u.cell? ⟨q, 2, none⟩ = some (.int .i64 2) ∧ u.cell? ⟨q, 3, none⟩ = some (.int .u64 a) ∧ u.cell? ⟨q, 4, none⟩ = some (.int .i64 0) ∧ u.cell? ⟨q, 5, none⟩ = some (.int .u64 v) ∧ u.cell? ⟨q, 6, none⟩ = some (.int .i64 1) ∧ u.cell? ⟨q, 7, none⟩ = some (.int .u64 z) ∧ u.cell? ⟨q, 8, none⟩ = some (.int .i64 2)) (go_keep) (fail)
    go_wp2
    go_region_held (fun u => u.cell? ⟨q, 0, none⟩ = some (.int .i64 p) ∧ u.cell? ⟨q, 1, none⟩ = some (.int .i64 c) ∧ u.cell? ⟨w.heap.size, 0, none⟩ = some (.int .i64 1) ∧ u.cell? ⟨w.heap.size, 1, none⟩ = some (.int .u64 z)) (go_keep) (first | (go_at_call 60; refine (HS.out _ (by repeat (first | exact Below.refl _ _ | refine bl_drew ?_ | refine bl_drewN _ ?_ | refine bl_alloc ?_ _ | refine bl_setCell ?_ (by simp) _ _ | refine bl_setRow ?_ (by simp) _))).mono ?_; rintro e w2 ⟨rfl, hm, hc⟩; obtain ⟨⟨d0, d1, d2, d3⟩, hx⟩ := HA.out _ _ (by repeat (first | exact Below.refl _ _ | refine bl_drew ?_ | refine bl_drewN _ ?_ | refine bl_alloc ?_ _ | refine bl_setCell ?_ (by simp) _ _ | refine bl_setRow ?_ (by simp) _)) (by simp) hc hm; clear hm hc))
    go_wp2
    go_ret2
    exact ⟨rfl, hx.out⟩
theorem wstep_any (h : MemAt 90 w b g ws o n) (hr : WtAt w q t) (h1 : q ≠ b) (h2 : q ≠ g) : Calls Try.prog 30 #[.pointer (some ⟨q, 0, none⟩), .pointer (some ⟨b, 0, none⟩)] w fun e w' => e = .returned (.tuple #[.bool (endW t ws o), .int .i64 (errW t ws o)]) ∧ MemAt 90 w' b g (laidW t ws o) (aftO (errW t ws o) o) (aftN (errW t ws o) n) ∧ WtAt w' q (stepW t ws o) ∧ Ch [b, g, q] w w' := by
  by_cases hd : t.d < 3
  · have eE : errW t ws o = errC ws o t.p t.c (wordW t.d) := by simp [errW, hd]
    by_cases hok : errC ws o t.p t.c (wordW t.d) = 0
    · have e1 : errW t ws o = 0 := by rw [eE]; exact hok
      have e2 : endW t ws o = decide (t.d = 2) := by simp [endW, e1]
      rw [e2, laidW, stepW, if_pos e1, if_pos e1, e1]
      exact wstep_ok h hr h1 h2 hd hok
    · have e1 : ¬ errW t ws o = 0 := by rw [eE]; exact hok
      have e2 : endW t ws o = false := by simp [endW, e1]
      rw [e2, laidW, stepW, aftO, aftN, if_neg e1, if_neg e1, if_neg e1, if_neg e1, eE]
      exact wstep_no h hr h1 h2 hd hok
  · have e1 : errW t ws o = 3 := by simp [errW, hd]
    have e3 : ¬ errW t ws o = 0 := by rw [e1]; decide
    have e2 : endW t ws o = false := by simp [endW, e1]
    rw [e2, laidW, stepW, aftO, aftN, if_neg e3, if_neg e3, if_neg e3, if_neg e3, e1]
    refine (wstep_over hr hd).mono fun e w' ⟨he, hw⟩ => ?_
    subst hw
    exact ⟨he, h, hr, Ch.refl _ _⟩
end
def newW (p c v : Int) (x y : Nat) : Wt := ⟨p, c, fixB x, v, fixB y, 0⟩
set_option maxRecDepth 100000 in
set_option maxHeartbeats 1000000 in
theorem write_any (w : World) (a1 a2 a3 a4 p a6 c v : Int) (x y : Nat) : Calls Try.prog 27 #[planV a1 a2 a3 a4 p a6, .int .i64 c, .int .u64 v, .float .f64 x, .float .f64 y] w fun e w' => ∃ q, e = .returned (.pointer (some ⟨q, 0, none⟩)) ∧ w.heap.size ≤ q ∧ WtAt w' q (newW p c v x y) ∧ Below w.heap.size w w' := by
  unfold planV
  go_enter Try.func27, Try.ntmps27
  go_wp2
  go_region_held (fun u => u.cell? ⟨w.heap.size, 4, none⟩ = some (.int .i64 p)) (go_keep) (first | (go_at_call 54; refine (bits_any _ _).mono ?_; rintro e w1 ⟨rfl, hw⟩; subst w1))
  go_wp2
  go_ret
  refine ⟨_, rfl, by omega, ⟨alloc_at (by simp), Nat.zero_le _⟩, (by repeat (first | exact Below.refl _ _ | refine bl_drew ?_ | refine bl_drewN _ ?_ | refine bl_alloc ?_ _ | refine bl_setCell ?_ (by simp) _ _ | refine bl_setRow ?_ (by simp) _))⟩
theorem wbox_one (t : Wt) : (wboxV t).all (·.oneCell') = true := by simp [wboxV, Value.oneCell']
theorem writingInfo : (Try.prog.info? 108).map (·.size) = some 9 := by kernel_rfl
set_option maxRecDepth 100000 in
theorem wclone_any {w : World} {q : Nat} {t : Wt} (h : WtAt w q t) : Calls Try.prog 75 #[.pointer (some ⟨q, 0, none⟩)] w fun e w' => ∃ c, e = .returned (.pointer (some ⟨c, 0, none⟩)) ∧ w.heap.size ≤ c ∧ WtAt w' c t ∧ Below w.heap.size w w' := by
  have hb := h.lt
  have hbox := h.1
  have HD := Lib.hid h.2
  have HB : Hid (∀ o, Below w.heap.size w (w.alloc o)) := fun o => (Below.refl w.heap.size w).alloc (Nat.le_refl _) o
  clear h
  go_enter Try.func75, Try.ntmps75
  go_wp2_with (first
    | (refine wpList_load_row rfl 108 _ rfl q rfl _ (wboxV t) _ _ hbox Try.underlying108 rfl writingInfo ?_)
    | (refine wpList_store_row rfl 108 _ _ rfl w.heap.size (wboxV t) rfl rfl _ _ (heap_alloc_new _ _) writingInfo rfl (wbox_one t) ?_; rw [World.setRow_alloc_new]))
  go_ret
  exact ⟨_, rfl, Nat.le_refl _, ⟨heap_alloc_new _ _, HD.out⟩, HB.out _⟩
end Go.Proofs.Ytmmijcmlnhmooaa
