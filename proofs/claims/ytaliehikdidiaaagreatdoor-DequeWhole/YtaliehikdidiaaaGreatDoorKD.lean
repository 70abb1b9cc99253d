import Derived.Test.YtaliehikdidiaaaGreatDoorK9
import Derived.Recover
import Derived.Defers
namespace Go.Proofs.YtaliehikdidiaaaGreatDoor
open Go.ChangeShapes Go.WideShapes Go.ChangeAt Go.RowKit Num
attribute [local go_sem] run_store_float

section
variable {W w : World} {b : Nat} {F0 K : List Nat} {m : Mac}
/-- in 'do': both boxes made -/
theorem Gm.both (h : Gm W F0 b K w m) (i : Ins) : ∃ F, Gm ((w.alloc (insO i)).alloc (askO ask0)) F b K ((w.alloc (insO i)).alloc (askO ask0)) m ∧ ∀ w' m', Gm ((w.alloc (insO i)).alloc (askO ask0)) F b K w' m' → w'.heap[w.heap.size]? = some (insO i) ∧ w'.heap[w.heap.size + 1]? = some (askO ask0) ∧ ∀ w'', Turn [w.heap.size + 1] [w.heap.size + 1] w' w'' → Gm W F0 b K w'' m' := by
  obtain ⟨F1, hM1, hT1⟩ := h.mc
  have hb1 : Blw w F1 := hM1.blw
  have hM3 := hM1.on ((below_alloc w (insO i)).trans ((below_alloc _ (askO ask0)).mono (by simp)))
  refine ⟨F1, hM3.gm, fun w' m' hg => ?_⟩
  have a1 : w'.heap[w.heap.size]? = some (insO i) := (hg.far (by simp; omega) (fun q => absurd (hb1 _ q) (Nat.lt_irrefl _))).trans ((heap_alloc_old _ _ (by simp)).trans (heap_alloc_new w _))
  have a2 : w'.heap[w.heap.size + 1]? = some (askO ask0) := (hg.far (by simp) (fun q => absurd (hb1 _ q) (by omega))).trans (heap_new (by simp))
  refine ⟨a1, a2, fun w'' t => ?_⟩
  obtain ⟨p, q1, q2, q3⟩ := hg
  have n1 : w.heap.size + 1 ∉ p.F b := fun q => (q2.own _ q).elim (fun z => absurd (hb1 _ z) (by omega)) (fun z => by simp at z; omega)
  have n2 : w.heap.size + 1 ∉ fpR p.pk := fun q => by rw [← q3] at q; exact absurd (hM1.blwK _ q) (by omega)
  have s1 : Sep (p.F b) [w.heap.size + 1] := fun k hk q => n1 (by simp at q; rw [← q]; exact hk)
  have s2 : Sep (fpR p.pk) [w.heap.size + 1] := fun k hk q => n2 (by simp at q; rw [← q]; exact hk)
  have hs : w.heap.size ≤ w'.heap.size := Nat.le_trans (by simp; omega) q2.size
  refine ⟨p, q1.keep (t.kept s1 q1.blw) (t.kept s2 q1.ltk), hT1.trans ⟨t.os.trans q2.os, t.tape.trans q2.tape, t.output.trans q2.output, Nat.le_trans hs t.size, fun k hk hf => ?_, fun k hk => ?_⟩, q3⟩
  · exact (t.block k (Nat.lt_of_lt_of_le hk hs) (by simp; omega)).trans ((q2.block k (by simp; omega) hf).trans ((heap_alloc_old _ _ (by simp; omega)).trans (heap_alloc_old w _ hk)))
  · exact (q2.own k hk).imp id (fun z => by simp at z; omega)
theorem both_shaped (hT : Shaped5 w) (i : Ins) : Shaped5 ((w.alloc (insO i)).alloc (askO ask0)) := hT.on ((below_alloc w (insO i)).trans ((below_alloc _ (askO ask0)).mono (by simp)))
set_option maxHeartbeats 400000 in
set_option maxRecDepth 100000 in
theorem do_A (h : Gm W F0 b K w m) (hT : Shaped5 w) {k : Nat} {n : Int} {x : Nat} {m' : Mac} (x16 : ¬ (k : Int) = 16) (x17 : ¬ (k : Int) = 17) (x19 : ¬ (k : Int) = 19) (x20 : ¬ (k : Int) = 20) (x15 : ¬ (k : Int) = 15) (x11 : ¬ (k : Int) = 11) (x12 : ¬ (k : Int) = 12) (x13 : ¬ (k : Int) = 13) (x14 : ¬ (k : Int) = 14) (hR : ∀ W F0 w, Gm W F0 b K w m → Calls Tryz.prog 144 #[.pointer (some ⟨b, 0, none⟩), .agg #[.int .i64 (k : Int), .int .i64 n, .float .f64 x]] w fun r w' => r = .returned (.tuple #[]) ∧ Gm W F0 b K w' m') (hF : ∀ W F0 w, Gm W F0 b K w m → Shaped5 w → Calls Tryz.prog 139 #[.pointer (some ⟨b, 0, none⟩), .agg #[.int .i64 (k : Int), .int .i64 n, .float .f64 x]] w fun r w' => r = .returned (.tuple #[]) ∧ Below w.heap.size w w') : Calls Tryz.prog 126 #[.pointer (some ⟨b, 0, none⟩), .agg #[.int .i64 (k : Int), .int .i64 n, .float .f64 x]] w fun r w' => r = .returned (askV ask0) ∧ Gm W F0 b K w' m' := by
  obtain ⟨F, h1, hX⟩ := h.both ⟨(k : Int), n, x⟩
  have HF := Lib.hid (hF _ _ _ h1 (both_shaped hT _))
  have HG := Lib.hid h1
  have HX := Lib.hid hX
  have HR := Lib.hid hR
  clear h h1 hX hT hF hR
  go_enter Tryz.func126, Tryz.ntmps126
  go_wp2_with (first
    | (go_at_call 144; refine (HR.out _ _ _ G0.out).mono ?_; rintro e u1 ⟨rfl, q⟩; obtain ⟨r1, r2, r3⟩ := HX.out _ _ q; obtain ⟨⟨d0, d1, d2, d3, d4⟩, d5, d6, d7, d8⟩ := askO_cells r2; have G1 := Lib.hid (And.intro r2 r3); clear q r1 r2 r3)
    | (go_at_call 139; refine HF.out.mono ?_; rintro e u0 ⟨rfl, q⟩; have q0 := HG.out.on q; obtain ⟨r1, r2, r3⟩ := HX.out _ _ q0; obtain ⟨c0, c1, c2, c3⟩ := insO_cells r1; obtain ⟨⟨k0, k1, k2, k3, k4⟩, k5, k6, k7, k8⟩ := askO_cells r2; have G0 := Lib.hid q0; clear q q0 r1 r2 r3))
  exact ask_back rfl (w.heap.size + 1) ask0 rfl (askO_set (k' := ask0) G1.out.1) rfl ⟨rfl, G1.out.2 _ (turn4 _ _ (.int .i64 0) (.int .i64 0) (.float .f64 0) (.bool false))⟩
set_option maxHeartbeats 400000 in
set_option maxRecDepth 100000 in
theorem do_B11 (h : Gm W F0 b K w m) (hT : Shaped5 w) {n : Int} {x : Nat} {m' : Mac} (hR : ∀ W F0 w, Gm W F0 b K w m → Calls Tryz.prog 143 #[.pointer (some ⟨b, 0, none⟩), .agg #[.int .i64 11, .int .i64 n, .float .f64 x]] w fun r w' => r = .returned (.tuple #[]) ∧ Gm W F0 b K w' m') (hF : ∀ W F0 w, Gm W F0 b K w m → Shaped5 w → Calls Tryz.prog 139 #[.pointer (some ⟨b, 0, none⟩), .agg #[.int .i64 11, .int .i64 n, .float .f64 x]] w fun r w' => r = .returned (.tuple #[]) ∧ Below w.heap.size w w') : Calls Tryz.prog 126 #[.pointer (some ⟨b, 0, none⟩), .agg #[.int .i64 11, .int .i64 n, .float .f64 x]] w fun r w' => r = .returned (askV ask0) ∧ Gm W F0 b K w' m' := by
  obtain ⟨F, h1, hX⟩ := h.both ⟨11, n, x⟩
  have HF := Lib.hid (hF _ _ _ h1 (both_shaped hT _))
  have HG := Lib.hid h1
  have HX := Lib.hid hX
  have HR := Lib.hid hR
  clear h h1 hX hT hF hR
  go_enter Tryz.func126, Tryz.ntmps126
  go_wp2_with (first
    | (go_at_call 143; refine (HR.out _ _ _ G0.out).mono ?_; rintro e u1 ⟨rfl, q⟩; obtain ⟨r1, r2, r3⟩ := HX.out _ _ q; obtain ⟨⟨d0, d1, d2, d3, d4⟩, d5, d6, d7, d8⟩ := askO_cells r2; have G1 := Lib.hid (And.intro r2 r3); clear q r1 r2 r3)
    | (go_at_call 139; refine HF.out.mono ?_; rintro e u0 ⟨rfl, q⟩; have q0 := HG.out.on q; obtain ⟨r1, r2, r3⟩ := HX.out _ _ q0; obtain ⟨c0, c1, c2, c3⟩ := insO_cells r1; obtain ⟨⟨k0, k1, k2, k3, k4⟩, k5, k6, k7, k8⟩ := askO_cells r2; have G0 := Lib.hid q0; clear q q0 r1 r2 r3))
  exact ask_back rfl (w.heap.size + 1) ask0 rfl (askO_set (k' := ask0) G1.out.1) rfl ⟨rfl, G1.out.2 _ (turn4 _ _ (.int .i64 0) (.int .i64 0) (.float .f64 0) (.bool false))⟩
set_option maxHeartbeats 400000 in
set_option maxRecDepth 100000 in
theorem do_B12 (h : Gm W F0 b K w m) (hT : Shaped5 w) {n : Int} {x : Nat} {m' : Mac} (hR : ∀ W F0 w, Gm W F0 b K w m → Calls Tryz.prog 143 #[.pointer (some ⟨b, 0, none⟩), .agg #[.int .i64 12, .int .i64 n, .float .f64 x]] w fun r w' => r = .returned (.tuple #[]) ∧ Gm W F0 b K w' m') (hF : ∀ W F0 w, Gm W F0 b K w m → Shaped5 w → Calls Tryz.prog 139 #[.pointer (some ⟨b, 0, none⟩), .agg #[.int .i64 12, .int .i64 n, .float .f64 x]] w fun r w' => r = .returned (.tuple #[]) ∧ Below w.heap.size w w') : Calls Tryz.prog 126 #[.pointer (some ⟨b, 0, none⟩), .agg #[.int .i64 12, .int .i64 n, .float .f64 x]] w fun r w' => r = .returned (askV ask0) ∧ Gm W F0 b K w' m' := by
  obtain ⟨F, h1, hX⟩ := h.both ⟨12, n, x⟩
  have HF := Lib.hid (hF _ _ _ h1 (both_shaped hT _))
  have HG := Lib.hid h1
  have HX := Lib.hid hX
  have HR := Lib.hid hR
  clear h h1 hX hT hF hR
  go_enter Tryz.func126, Tryz.ntmps126
  go_wp2_with (first
    | (go_at_call 143; refine (HR.out _ _ _ G0.out).mono ?_; rintro e u1 ⟨rfl, q⟩; obtain ⟨r1, r2, r3⟩ := HX.out _ _ q; obtain ⟨⟨d0, d1, d2, d3, d4⟩, d5, d6, d7, d8⟩ := askO_cells r2; have G1 := Lib.hid (And.intro r2 r3); clear q r1 r2 r3)
    | (go_at_call 139; refine HF.out.mono ?_; rintro e u0 ⟨rfl, q⟩; have q0 := HG.out.on q; obtain ⟨r1, r2, r3⟩ := HX.out _ _ q0; obtain ⟨c0, c1, c2, c3⟩ := insO_cells r1; obtain ⟨⟨k0, k1, k2, k3, k4⟩, k5, k6, k7, k8⟩ := askO_cells r2; have G0 := Lib.hid q0; clear q q0 r1 r2 r3))
  exact ask_back rfl (w.heap.size + 1) ask0 rfl (askO_set (k' := ask0) G1.out.1) rfl ⟨rfl, G1.out.2 _ (turn4 _ _ (.int .i64 0) (.int .i64 0) (.float .f64 0) (.bool false))⟩
set_option maxHeartbeats 400000 in
set_option maxRecDepth 100000 in
theorem do_B13 (h : Gm W F0 b K w m) (hT : Shaped5 w) {n : Int} {x : Nat} {m' : Mac} (hR : ∀ W F0 w, Gm W F0 b K w m → Calls Tryz.prog 143 #[.pointer (some ⟨b, 0, none⟩), .agg #[.int .i64 13, .int .i64 n, .float .f64 x]] w fun r w' => r = .returned (.tuple #[]) ∧ Gm W F0 b K w' m') (hF : ∀ W F0 w, Gm W F0 b K w m → Shaped5 w → Calls Tryz.prog 139 #[.pointer (some ⟨b, 0, none⟩), .agg #[.int .i64 13, .int .i64 n, .float .f64 x]] w fun r w' => r = .returned (.tuple #[]) ∧ Below w.heap.size w w') : Calls Tryz.prog 126 #[.pointer (some ⟨b, 0, none⟩), .agg #[.int .i64 13, .int .i64 n, .float .f64 x]] w fun r w' => r = .returned (askV ask0) ∧ Gm W F0 b K w' m' := by
  obtain ⟨F, h1, hX⟩ := h.both ⟨13, n, x⟩
  have HF := Lib.hid (hF _ _ _ h1 (both_shaped hT _))
  have HG := Lib.hid h1
  have HX := Lib.hid hX
  have HR := Lib.hid hR
  clear h h1 hX hT hF hR
  go_enter Tryz.func126, Tryz.ntmps126
  go_wp2_with (first
    | (go_at_call 143; refine (HR.out _ _ _ G0.out).mono ?_; rintro e u1 ⟨rfl, q⟩; obtain ⟨r1, r2, r3⟩ := HX.out _ _ q; obtain ⟨⟨d0, d1, d2, d3, d4⟩, d5, d6, d7, d8⟩ := askO_cells r2; have G1 := Lib.hid (And.intro r2 r3); clear q r1 r2 r3)
    | (go_at_call 139; refine HF.out.mono ?_; rintro e u0 ⟨rfl, q⟩; have q0 := HG.out.on q; obtain ⟨r1, r2, r3⟩ := HX.out _ _ q0; obtain ⟨c0, c1, c2, c3⟩ := insO_cells r1; obtain ⟨⟨k0, k1, k2, k3, k4⟩, k5, k6, k7, k8⟩ := askO_cells r2; have G0 := Lib.hid q0; clear q q0 r1 r2 r3))
  exact ask_back rfl (w.heap.size + 1) ask0 rfl (askO_set (k' := ask0) G1.out.1) rfl ⟨rfl, G1.out.2 _ (turn4 _ _ (.int .i64 0) (.int .i64 0) (.float .f64 0) (.bool false))⟩
set_option maxHeartbeats 400000 in
set_option maxRecDepth 100000 in
theorem do_B14 (h : Gm W F0 b K w m) (hT : Shaped5 w) {n : Int} {x : Nat} {m' : Mac} (hR : ∀ W F0 w, Gm W F0 b K w m → Calls Tryz.prog 143 #[.pointer (some ⟨b, 0, none⟩), .agg #[.int .i64 14, .int .i64 n, .float .f64 x]] w fun r w' => r = .returned (.tuple #[]) ∧ Gm W F0 b K w' m') (hF : ∀ W F0 w, Gm W F0 b K w m → Shaped5 w → Calls Tryz.prog 139 #[.pointer (some ⟨b, 0, none⟩), .agg #[.int .i64 14, .int .i64 n, .float .f64 x]] w fun r w' => r = .returned (.tuple #[]) ∧ Below w.heap.size w w') : Calls Tryz.prog 126 #[.pointer (some ⟨b, 0, none⟩), .agg #[.int .i64 14, .int .i64 n, .float .f64 x]] w fun r w' => r = .returned (askV ask0) ∧ Gm W F0 b K w' m' := by
  obtain ⟨F, h1, hX⟩ := h.both ⟨14, n, x⟩
  have HF := Lib.hid (hF _ _ _ h1 (both_shaped hT _))
  have HG := Lib.hid h1
  have HX := Lib.hid hX
  have HR := Lib.hid hR
  clear h h1 hX hT hF hR
  go_enter Tryz.func126, Tryz.ntmps126
  go_wp2_with (first
    | (go_at_call 143; refine (HR.out _ _ _ G0.out).mono ?_; rintro e u1 ⟨rfl, q⟩; obtain ⟨r1, r2, r3⟩ := HX.out _ _ q; obtain ⟨⟨d0, d1, d2, d3, d4⟩, d5, d6, d7, d8⟩ := askO_cells r2; have G1 := Lib.hid (And.intro r2 r3); clear q r1 r2 r3)
    | (go_at_call 139; refine HF.out.mono ?_; rintro e u0 ⟨rfl, q⟩; have q0 := HG.out.on q; obtain ⟨r1, r2, r3⟩ := HX.out _ _ q0; obtain ⟨c0, c1, c2, c3⟩ := insO_cells r1; obtain ⟨⟨k0, k1, k2, k3, k4⟩, k5, k6, k7, k8⟩ := askO_cells r2; have G0 := Lib.hid q0; clear q q0 r1 r2 r3))
  exact ask_back rfl (w.heap.size + 1) ask0 rfl (askO_set (k' := ask0) G1.out.1) rfl ⟨rfl, G1.out.2 _ (turn4 _ _ (.int .i64 0) (.int .i64 0) (.float .f64 0) (.bool false))⟩
set_option maxHeartbeats 400000 in
set_option maxRecDepth 100000 in
theorem do_read (h : Gm W F0 b K w m) (hT : Shaped5 w) {n : Int} {x : Nat} {m' : Mac} {a : Ask} (hR : ∀ W F0 w, Gm W F0 b K w m → Calls Tryz.prog 140 #[.pointer (some ⟨b, 0, none⟩)] w fun r w' => r = .returned (askV a) ∧ Gm W F0 b K w' m') (hF : ∀ W F0 w, Gm W F0 b K w m → Shaped5 w → Calls Tryz.prog 139 #[.pointer (some ⟨b, 0, none⟩), .agg #[.int .i64 16, .int .i64 n, .float .f64 x]] w fun r w' => r = .returned (.tuple #[]) ∧ Below w.heap.size w w') : Calls Tryz.prog 126 #[.pointer (some ⟨b, 0, none⟩), .agg #[.int .i64 16, .int .i64 n, .float .f64 x]] w fun r w' => r = .returned (askV a) ∧ Gm W F0 b K w' m' := by
  obtain ⟨F, h1, hX⟩ := h.both ⟨16, n, x⟩
  have HF := Lib.hid (hF _ _ _ h1 (both_shaped hT _))
  have HG := Lib.hid h1
  have HX := Lib.hid hX
  have HR := Lib.hid hR
  clear h h1 hX hT hF hR
  go_enter Tryz.func126, Tryz.ntmps126
  go_wp2_with (first
    | (go_at_call 140; refine (HR.out _ _ _ G0.out).mono ?_; rintro e u1 ⟨rfl, q⟩; obtain ⟨r1, r2, r3⟩ := HX.out _ _ q; obtain ⟨⟨d0, d1, d2, d3, d4⟩, d5, d6, d7, d8⟩ := askO_cells r2; have G1 := Lib.hid (And.intro r2 r3); clear q r1 r2 r3; unfold askV)
    | (go_at_call 139; refine HF.out.mono ?_; rintro e u0 ⟨rfl, q⟩; have q0 := HG.out.on q; obtain ⟨r1, r2, r3⟩ := HX.out _ _ q0; obtain ⟨c0, c1, c2, c3⟩ := insO_cells r1; obtain ⟨⟨k0, k1, k2, k3, k4⟩, k5, k6, k7, k8⟩ := askO_cells r2; have G0 := Lib.hid q0; clear q q0 r1 r2 r3))
  exact ask_back rfl (w.heap.size + 1) a rfl (askO_set (k' := a) G1.out.1) rfl ⟨rfl, G1.out.2 _ (turn4 _ _ (.int .i64 a.kind) (.int .i64 a.cell) (.float .f64 a.x) (.bool a.first))⟩
set_option maxHeartbeats 400000 in
set_option maxRecDepth 100000 in
theorem do_write (h : Gm W F0 b K w m) (hT : Shaped5 w) {n : Int} {x : Nat} {m' : Mac} {a : Ask} (hR : ∀ W F0 w, Gm W F0 b K w m → Calls Tryz.prog 141 #[.pointer (some ⟨b, 0, none⟩)] w fun r w' => r = .returned (askV a) ∧ Gm W F0 b K w' m') (hF : ∀ W F0 w, Gm W F0 b K w m → Shaped5 w → Calls Tryz.prog 139 #[.pointer (some ⟨b, 0, none⟩), .agg #[.int .i64 17, .int .i64 n, .float .f64 x]] w fun r w' => r = .returned (.tuple #[]) ∧ Below w.heap.size w w') : Calls Tryz.prog 126 #[.pointer (some ⟨b, 0, none⟩), .agg #[.int .i64 17, .int .i64 n, .float .f64 x]] w fun r w' => r = .returned (askV a) ∧ Gm W F0 b K w' m' := by
  obtain ⟨F, h1, hX⟩ := h.both ⟨17, n, x⟩
  have HF := Lib.hid (hF _ _ _ h1 (both_shaped hT _))
  have HG := Lib.hid h1
  have HX := Lib.hid hX
  have HR := Lib.hid hR
  clear h h1 hX hT hF hR
  go_enter Tryz.func126, Tryz.ntmps126
  go_wp2_with (first
    | (go_at_call 141; refine (HR.out _ _ _ G0.out).mono ?_; rintro e u1 ⟨rfl, q⟩; obtain ⟨r1, r2, r3⟩ := HX.out _ _ q; obtain ⟨⟨d0, d1, d2, d3, d4⟩, d5, d6, d7, d8⟩ := askO_cells r2; have G1 := Lib.hid (And.intro r2 r3); clear q r1 r2 r3; unfold askV)
    | (go_at_call 139; refine HF.out.mono ?_; rintro e u0 ⟨rfl, q⟩; have q0 := HG.out.on q; obtain ⟨r1, r2, r3⟩ := HX.out _ _ q0; obtain ⟨c0, c1, c2, c3⟩ := insO_cells r1; obtain ⟨⟨k0, k1, k2, k3, k4⟩, k5, k6, k7, k8⟩ := askO_cells r2; have G0 := Lib.hid q0; clear q q0 r1 r2 r3))
  exact ask_back rfl (w.heap.size + 1) a rfl (askO_set (k' := a) G1.out.1) rfl ⟨rfl, G1.out.2 _ (turn4 _ _ (.int .i64 a.kind) (.int .i64 a.cell) (.float .f64 a.x) (.bool a.first))⟩
set_option maxHeartbeats 400000 in
set_option maxRecDepth 100000 in
theorem do_ret (h : Gm W F0 b K w m) (hT : Shaped5 w) {n : Int} {x : Nat} {m' : Mac} {a : Ask} (hR : ∀ W F0 w, Gm W F0 b K w m → Calls Tryz.prog 142 #[.pointer (some ⟨b, 0, none⟩)] w fun r w' => r = .returned (askV a) ∧ Gm W F0 b K w' m') (hF : ∀ W F0 w, Gm W F0 b K w m → Shaped5 w → Calls Tryz.prog 139 #[.pointer (some ⟨b, 0, none⟩), .agg #[.int .i64 15, .int .i64 n, .float .f64 x]] w fun r w' => r = .returned (.tuple #[]) ∧ Below w.heap.size w w') : Calls Tryz.prog 126 #[.pointer (some ⟨b, 0, none⟩), .agg #[.int .i64 15, .int .i64 n, .float .f64 x]] w fun r w' => r = .returned (askV a) ∧ Gm W F0 b K w' m' := by
  obtain ⟨F, h1, hX⟩ := h.both ⟨15, n, x⟩
  have HF := Lib.hid (hF _ _ _ h1 (both_shaped hT _))
  have HG := Lib.hid h1
  have HX := Lib.hid hX
  have HR := Lib.hid hR
  clear h h1 hX hT hF hR
  go_enter Tryz.func126, Tryz.ntmps126
  go_wp2_with (first
    | (go_at_call 142; refine (HR.out _ _ _ G0.out).mono ?_; rintro e u1 ⟨rfl, q⟩; obtain ⟨r1, r2, r3⟩ := HX.out _ _ q; obtain ⟨⟨d0, d1, d2, d3, d4⟩, d5, d6, d7, d8⟩ := askO_cells r2; have G1 := Lib.hid (And.intro r2 r3); clear q r1 r2 r3; unfold askV)
    | (go_at_call 139; refine HF.out.mono ?_; rintro e u0 ⟨rfl, q⟩; have q0 := HG.out.on q; obtain ⟨r1, r2, r3⟩ := HX.out _ _ q0; obtain ⟨c0, c1, c2, c3⟩ := insO_cells r1; obtain ⟨⟨k0, k1, k2, k3, k4⟩, k5, k6, k7, k8⟩ := askO_cells r2; have G0 := Lib.hid q0; clear q q0 r1 r2 r3))
  exact ask_back rfl (w.heap.size + 1) a rfl (askO_set (k' := a) G1.out.1) rfl ⟨rfl, G1.out.2 _ (turn4 _ _ (.int .i64 a.kind) (.int .i64 a.cell) (.float .f64 a.x) (.bool a.first))⟩
set_option maxHeartbeats 400000 in
set_option maxRecDepth 100000 in
theorem do_read_no (h : Gm W F0 b K w m) (hT : Shaped5 w) {n : Int} {x : Nat} {e0 : Int} (hR : ∀ W F0 w, Gm W F0 b K w m → Calls Tryz.prog 140 #[.pointer (some ⟨b, 0, none⟩)] w fun r w' => r = gaveM e0 ∧ Gm W F0 b K w' m) (hF : ∀ W F0 w, Gm W F0 b K w m → Shaped5 w → Calls Tryz.prog 139 #[.pointer (some ⟨b, 0, none⟩), .agg #[.int .i64 16, .int .i64 n, .float .f64 x]] w fun r w' => r = .returned (.tuple #[]) ∧ Below w.heap.size w w') : Calls Tryz.prog 126 #[.pointer (some ⟨b, 0, none⟩), .agg #[.int .i64 16, .int .i64 n, .float .f64 x]] w fun r w' => r = gaveM e0 ∧ Gm W F0 b K w' m := by
  obtain ⟨F, h1, hX⟩ := h.both ⟨16, n, x⟩
  have HF := Lib.hid (hF _ _ _ h1 (both_shaped hT _))
  have HG := Lib.hid h1
  have HX := Lib.hid hX
  have HR := Lib.hid hR
  clear h h1 hX hT hF hR
  go_enter Tryz.func126, Tryz.ntmps126
  go_wp2_with (first
    | (go_at_call 140; refine (HR.out _ _ _ G0.out).mono ?_; rintro e u1 ⟨rfl, q⟩; have G1 := Lib.hid ((HX.out _ _ q).2.2 _ (Turn.refl _ _)); clear q)
    | (go_at_call 139; refine HF.out.mono ?_; rintro e u0 ⟨rfl, q⟩; have q0 := HG.out.on q; obtain ⟨r1, r2, r3⟩ := HX.out _ _ q0; obtain ⟨c0, c1, c2, c3⟩ := insO_cells r1; obtain ⟨⟨k0, k1, k2, k3, k4⟩, k5, k6, k7, k8⟩ := askO_cells r2; have G0 := Lib.hid q0; clear q q0 r1 r2 r3))
  exact ⟨rfl, rfl, G1.out⟩
set_option maxHeartbeats 400000 in
set_option maxRecDepth 100000 in
theorem do_write_no (h : Gm W F0 b K w m) (hT : Shaped5 w) {n : Int} {x : Nat} {e0 : Int} (hR : ∀ W F0 w, Gm W F0 b K w m → Calls Tryz.prog 141 #[.pointer (some ⟨b, 0, none⟩)] w fun r w' => r = gaveM e0 ∧ Gm W F0 b K w' m) (hF : ∀ W F0 w, Gm W F0 b K w m → Shaped5 w → Calls Tryz.prog 139 #[.pointer (some ⟨b, 0, none⟩), .agg #[.int .i64 17, .int .i64 n, .float .f64 x]] w fun r w' => r = .returned (.tuple #[]) ∧ Below w.heap.size w w') : Calls Tryz.prog 126 #[.pointer (some ⟨b, 0, none⟩), .agg #[.int .i64 17, .int .i64 n, .float .f64 x]] w fun r w' => r = gaveM e0 ∧ Gm W F0 b K w' m := by
  obtain ⟨F, h1, hX⟩ := h.both ⟨17, n, x⟩
  have HF := Lib.hid (hF _ _ _ h1 (both_shaped hT _))
  have HG := Lib.hid h1
  have HX := Lib.hid hX
  have HR := Lib.hid hR
  clear h h1 hX hT hF hR
  go_enter Tryz.func126, Tryz.ntmps126
  go_wp2_with (first
    | (go_at_call 141; refine (HR.out _ _ _ G0.out).mono ?_; rintro e u1 ⟨rfl, q⟩; have G1 := Lib.hid ((HX.out _ _ q).2.2 _ (Turn.refl _ _)); clear q)
    | (go_at_call 139; refine HF.out.mono ?_; rintro e u0 ⟨rfl, q⟩; have q0 := HG.out.on q; obtain ⟨r1, r2, r3⟩ := HX.out _ _ q0; obtain ⟨c0, c1, c2, c3⟩ := insO_cells r1; obtain ⟨⟨k0, k1, k2, k3, k4⟩, k5, k6, k7, k8⟩ := askO_cells r2; have G0 := Lib.hid q0; clear q q0 r1 r2 r3))
  exact ⟨rfl, rfl, G1.out⟩
set_option maxHeartbeats 400000 in
set_option maxRecDepth 100000 in
theorem do_19 (h : Gm W F0 b K w m) (hT : Shaped5 w) {n : Int} {x : Nat} (hF : ∀ W F0 w, Gm W F0 b K w m → Shaped5 w → Calls Tryz.prog 139 #[.pointer (some ⟨b, 0, none⟩), .agg #[.int .i64 19, .int .i64 n, .float .f64 x]] w fun r w' => r = .returned (.tuple #[]) ∧ Below w.heap.size w w') : Calls Tryz.prog 126 #[.pointer (some ⟨b, 0, none⟩), .agg #[.int .i64 19, .int .i64 n, .float .f64 x]] w fun r w' => r = .returned (askV askEnd) ∧ Gm W F0 b K w' { m with how := 2, cod := n, err := 0 } := by
  obtain ⟨F, h1, hX⟩ := h.both ⟨19, n, x⟩
  have HF := Lib.hid (hF _ _ _ h1 (both_shaped hT _))
  have HG := Lib.hid h1
  have HX := Lib.hid hX
  clear h h1 hX hT hF
  go_enter Tryz.func126, Tryz.ntmps126
  go_wp2_with (first
    | (go_at_call 125; refine (ends_any G0.out 2 n 0).mono ?_; rintro e u1 ⟨rfl, q⟩; obtain ⟨r1, r2, r3⟩ := HX.out _ _ q; obtain ⟨⟨d0, d1, d2, d3, d4⟩, d5, d6, d7, d8⟩ := askO_cells r2; have G1 := Lib.hid (And.intro r2 r3); clear q r1 r2 r3; unfold askV)
    | (go_at_call 139; refine HF.out.mono ?_; rintro e u0 ⟨rfl, q⟩; have q0 := HG.out.on q; obtain ⟨r1, r2, r3⟩ := HX.out _ _ q0; obtain ⟨c0, c1, c2, c3⟩ := insO_cells r1; obtain ⟨⟨k0, k1, k2, k3, k4⟩, k5, k6, k7, k8⟩ := askO_cells r2; have G0 := Lib.hid q0; clear q q0 r1 r2 r3))
  exact ask_back rfl (w.heap.size + 1) askEnd rfl (askO_set (k' := askEnd) G1.out.1) rfl ⟨rfl, G1.out.2 _ (turn4 _ _ (.int .i64 4) (.int .i64 0) (.float .f64 0) (.bool false))⟩
set_option maxHeartbeats 400000 in
set_option maxRecDepth 100000 in
theorem do_20 (h : Gm W F0 b K w m) (hT : Shaped5 w) {n : Int} {x : Nat} (hF : ∀ W F0 w, Gm W F0 b K w m → Shaped5 w → Calls Tryz.prog 139 #[.pointer (some ⟨b, 0, none⟩), .agg #[.int .i64 20, .int .i64 n, .float .f64 x]] w fun r w' => r = .returned (.tuple #[]) ∧ Below w.heap.size w w') : Calls Tryz.prog 126 #[.pointer (some ⟨b, 0, none⟩), .agg #[.int .i64 20, .int .i64 n, .float .f64 x]] w fun r w' => r = .returned (askV askEnd) ∧ Gm W F0 b K w' { m with how := 1, cod := 0, err := 0 } := by
  obtain ⟨F, h1, hX⟩ := h.both ⟨20, n, x⟩
  have HF := Lib.hid (hF _ _ _ h1 (both_shaped hT _))
  have HG := Lib.hid h1
  have HX := Lib.hid hX
  clear h h1 hX hT hF
  go_enter Tryz.func126, Tryz.ntmps126
  go_wp2_with (first
    | (go_at_call 125; refine (ends_any G0.out 1 0 0).mono ?_; rintro e u1 ⟨rfl, q⟩; obtain ⟨r1, r2, r3⟩ := HX.out _ _ q; obtain ⟨⟨d0, d1, d2, d3, d4⟩, d5, d6, d7, d8⟩ := askO_cells r2; have G1 := Lib.hid (And.intro r2 r3); clear q r1 r2 r3; unfold askV)
    | (go_at_call 139; refine HF.out.mono ?_; rintro e u0 ⟨rfl, q⟩; have q0 := HG.out.on q; obtain ⟨r1, r2, r3⟩ := HX.out _ _ q0; obtain ⟨c0, c1, c2, c3⟩ := insO_cells r1; obtain ⟨⟨k0, k1, k2, k3, k4⟩, k5, k6, k7, k8⟩ := askO_cells r2; have G0 := Lib.hid q0; clear q q0 r1 r2 r3))
  exact ask_back rfl (w.heap.size + 1) askEnd rfl (askO_set (k' := askEnd) G1.out.1) rfl ⟨rfl, G1.out.2 _ (turn4 _ _ (.int .i64 4) (.int .i64 0) (.float .f64 0) (.bool false))⟩
set_option maxHeartbeats 400000 in
set_option maxRecDepth 100000 in
theorem do_unfit {k : Nat} {n : Int} {x : Nat} (h : Gm W F0 b K w m) (hT : Shaped5 w) (hF : ∀ W F0 w, Gm W F0 b K w m → Shaped5 w → Calls Tryz.prog 139 #[.pointer (some ⟨b, 0, none⟩), .agg #[.int .i64 (k : Int), .int .i64 n, .float .f64 x]] w fun r w' => r = gaveM 82 ∧ Below w.heap.size w w') : Calls Tryz.prog 126 #[.pointer (some ⟨b, 0, none⟩), .agg #[.int .i64 (k : Int), .int .i64 n, .float .f64 x]] w fun r w' => r = gaveM 82 ∧ Gm W F0 b K w' m := by
  obtain ⟨F, h1, hX⟩ := h.both ⟨(k : Int), n, x⟩
  have HF := Lib.hid (hF _ _ _ h1 (both_shaped hT _))
  have HG := Lib.hid h1
  have HX := Lib.hid hX
  clear h h1 hX hT hF
  go_enter Tryz.func126, Tryz.ntmps126
  go_wp2_with (go_at_call 139; refine HF.out.mono ?_; rintro e u0 ⟨rfl, q⟩; have G1 := Lib.hid ((HX.out _ _ (HG.out.on q)).2.2 _ (Turn.refl _ _)); clear q)
  exact ⟨rfl, rfl, G1.out⟩
end
end Go.Proofs.YtaliehikdidiaaaGreatDoor
namespace Go.Proofs.YtaliehikdidiaaaGreatDoor
open Go.ChangeShapes Go.WideShapes Go.ChangeAt Go.RowKit Num

def doF (m : Mac) (i : Ins) : Mac × Ask := if roomB m i then doM m i else failM m 82
theorem st1 {l : List Nat} (h : 1 ≤ l.length) : ∃ y s, l = y :: s := by
  match l, h with
  | y :: s, _ => exact ⟨y, s, rfl⟩
theorem st2 {l : List Nat} (h : 2 ≤ l.length) : ∃ y z s, l = y :: z :: s := by
  match l, h with
  | y :: z :: s, _ => exact ⟨y, z, s, rfl⟩
  | [y], h => exact absurd h (by simp)
theorem room_parts {m : Mac} {k : Nat} {n : Int} {x : Nat} (h : roomB m ⟨k, n, x⟩ = true) : (k ≠ 5 → (shp k).takes ≤ (m.st.length : Int)) ∧ (k = 5 → n + 1 ≤ (m.st.length : Int)) ∧ (m.st.length : Int) - (shp k).takes + (shp k).lays ≤ 64 ∧ (k = 14 → m.calls.length < 16) := by
  unfold roomB leastI takesI laysI at h
  simp only [Int.toNat_natCast, Bool.and_eq_true, decide_eq_true_eq, Bool.not_eq_true', Bool.and_eq_false_iff, decide_eq_false_iff_not] at h
  obtain ⟨⟨h1, h2⟩, h3⟩ := h
  refine ⟨fun hk => ?_, fun hk => ?_, h2, fun hk => ?_⟩
  · rw [if_neg (by omega)] at h1
    exact h1
  · rw [if_pos (by omega)] at h1
    exact h1
  · rcases h3 with h3 | h3
    · exact absurd (by omega) h3
    · omega
theorem fits_parts {k : Nat} {n : Int} {x many : Nat} (h : mayB ⟨k, n, x⟩ many = true) : (1 ≤ k ∧ k < 21) ∧ (shp k).lo ≤ n ∧ n ≤ (shp k).hi := by
  unfold mayB knownB fitsB at h
  simp only [Bool.and_eq_true, decide_eq_true_eq, Int.toNat_natCast] at h
  omega
theorem retM_nil {m : Mac} (h : m.calls = []) : retM m = ({ m with how := 1, cod := 0, err := 0 }, askEnd) := by
  unfold retM
  split
  · rfl
  · rename_i q; rw [h] at q; cases q
theorem retM_cons {m : Mac} {c : Int} {r : List Int} (h : m.calls = c :: r) : retM m = ({ m with calls := r, place := c }, ask0) := by
  unfold retM
  split
  · rename_i q; rw [h] at q; cases q
  · rename_i q; rw [h] at q; cases q; rfl
section
variable {W w : World} {b : Nat} {F0 K : List Nat} {m : Mac}
set_option maxHeartbeats 200000 in
theorem do_k1 (h : Gm W F0 b K w m) (hT : Shaped5 w) {n : Int} {x : Nat} (_hlo : (shp 1).lo ≤ n) (_hhi : n ≤ (shp 1).hi) (_hst : ∀ x ∈ m.st, okN x) (_hcl : m.cells ≤ 256) (_hre : m.reads.length ≤ 1024) (_hou : m.out.length ≤ 1024)
    (hF : ∀ W F0 w, Gm W F0 b K w m → Shaped5 w → Calls Tryz.prog 139 #[.pointer (some ⟨b, 0, none⟩), .agg #[.int .i64 ((1 : Nat) : Int), .int .i64 n, .float .f64 x]] w fun r w' => r = .returned (.tuple #[]) ∧ Below w.heap.size w w')
    (_r1 : 1 ≠ 5 → (shp 1).takes ≤ (m.st.length : Int)) (_r2 : 1 = 5 → n + 1 ≤ (m.st.length : Int)) (r3 : (m.st.length : Int) - (shp 1).takes + (shp 1).lays ≤ 64) (_r4 : 1 = 14 → m.calls.length < 16) :
    Calls Tryz.prog 126 #[.pointer (some ⟨b, 0, none⟩), .agg #[.int .i64 ((1 : Nat) : Int), .int .i64 n, .float .f64 x]] w fun r w' => Done W F0 b K m (doM m ⟨((1 : Nat) : Int), n, x⟩) r w' := by
  change (m.st.length : Int) - 0 + 1 ≤ 64 at r3
  exact (do_A h hT (k := 1) (by omega) (by omega) (by omega) (by omega) (by omega) (by omega) (by omega) (by omega) (by omega) (fun W F0 w h => reckon_1 h n x (by omega)) hF).mono fun r w' ⟨a1, a2⟩ => .inr ⟨a1, by rw [show (doM m ⟨(1 : Nat), n, x⟩).1 = { m with st := fixB x :: m.st } from rfl]; exact a2⟩
set_option maxHeartbeats 200000 in
theorem do_k2 (h : Gm W F0 b K w m) (hT : Shaped5 w) {n : Int} {x : Nat} (_hlo : (shp 2).lo ≤ n) (_hhi : n ≤ (shp 2).hi) (_hst : ∀ x ∈ m.st, okN x) (_hcl : m.cells ≤ 256) (_hre : m.reads.length ≤ 1024) (_hou : m.out.length ≤ 1024)
    (hF : ∀ W F0 w, Gm W F0 b K w m → Shaped5 w → Calls Tryz.prog 139 #[.pointer (some ⟨b, 0, none⟩), .agg #[.int .i64 ((2 : Nat) : Int), .int .i64 n, .float .f64 x]] w fun r w' => r = .returned (.tuple #[]) ∧ Below w.heap.size w w')
    (r1 : 2 ≠ 5 → (shp 2).takes ≤ (m.st.length : Int)) (_r2 : 2 = 5 → n + 1 ≤ (m.st.length : Int)) (_r3 : (m.st.length : Int) - (shp 2).takes + (shp 2).lays ≤ 64) (_r4 : 2 = 14 → m.calls.length < 16) :
    Calls Tryz.prog 126 #[.pointer (some ⟨b, 0, none⟩), .agg #[.int .i64 ((2 : Nat) : Int), .int .i64 n, .float .f64 x]] w fun r w' => Done W F0 b K m (doM m ⟨((2 : Nat) : Int), n, x⟩) r w' := by
  obtain ⟨y, s, hs⟩ := st1 (l := m.st) (by have := r1 (by omega); change (1 : Int) ≤ _ at this; omega)
  exact (do_A h hT (k := 2) (by omega) (by omega) (by omega) (by omega) (by omega) (by omega) (by omega) (by omega) (by omega) (fun W F0 w h => reckon_2 h n x hs) hF).mono fun r w' ⟨a1, a2⟩ => .inr ⟨a1, by rw [show (doM m ⟨(2 : Nat), n, x⟩).1 = { m with st := s } from by show ({ m with st := m.st.drop 1 } : Mac) = _; rw [hs]; rfl]; exact a2⟩
set_option maxHeartbeats 200000 in
theorem do_k3 (h : Gm W F0 b K w m) (hT : Shaped5 w) {n : Int} {x : Nat} (_hlo : (shp 3).lo ≤ n) (_hhi : n ≤ (shp 3).hi) (_hst : ∀ x ∈ m.st, okN x) (_hcl : m.cells ≤ 256) (_hre : m.reads.length ≤ 1024) (_hou : m.out.length ≤ 1024)
    (hF : ∀ W F0 w, Gm W F0 b K w m → Shaped5 w → Calls Tryz.prog 139 #[.pointer (some ⟨b, 0, none⟩), .agg #[.int .i64 ((3 : Nat) : Int), .int .i64 n, .float .f64 x]] w fun r w' => r = .returned (.tuple #[]) ∧ Below w.heap.size w w')
    (r1 : 3 ≠ 5 → (shp 3).takes ≤ (m.st.length : Int)) (_r2 : 3 = 5 → n + 1 ≤ (m.st.length : Int)) (r3 : (m.st.length : Int) - (shp 3).takes + (shp 3).lays ≤ 64) (_r4 : 3 = 14 → m.calls.length < 16) :
    Calls Tryz.prog 126 #[.pointer (some ⟨b, 0, none⟩), .agg #[.int .i64 ((3 : Nat) : Int), .int .i64 n, .float .f64 x]] w fun r w' => Done W F0 b K m (doM m ⟨((3 : Nat) : Int), n, x⟩) r w' := by
  change (m.st.length : Int) - 1 + 2 ≤ 64 at r3
  have r0 := r1 (by omega)
  change (1 : Int) ≤ _ at r0
  exact (do_A h hT (k := 3) (by omega) (by omega) (by omega) (by omega) (by omega) (by omega) (by omega) (by omega) (by omega) (fun W F0 w h => reckon_3 h n x (by omega) (by omega)) hF).mono fun r w' ⟨a1, a2⟩ => .inr ⟨a1, by rw [show (doM m ⟨(3 : Nat), n, x⟩).1 = { m with st := m.st.getD 0 0 :: m.st } from rfl]; exact a2⟩
set_option maxHeartbeats 200000 in
theorem do_k4 (h : Gm W F0 b K w m) (hT : Shaped5 w) {n : Int} {x : Nat} (_hlo : (shp 4).lo ≤ n) (_hhi : n ≤ (shp 4).hi) (_hst : ∀ x ∈ m.st, okN x) (_hcl : m.cells ≤ 256) (_hre : m.reads.length ≤ 1024) (_hou : m.out.length ≤ 1024)
    (hF : ∀ W F0 w, Gm W F0 b K w m → Shaped5 w → Calls Tryz.prog 139 #[.pointer (some ⟨b, 0, none⟩), .agg #[.int .i64 ((4 : Nat) : Int), .int .i64 n, .float .f64 x]] w fun r w' => r = .returned (.tuple #[]) ∧ Below w.heap.size w w')
    (r1 : 4 ≠ 5 → (shp 4).takes ≤ (m.st.length : Int)) (_r2 : 4 = 5 → n + 1 ≤ (m.st.length : Int)) (r3 : (m.st.length : Int) - (shp 4).takes + (shp 4).lays ≤ 64) (_r4 : 4 = 14 → m.calls.length < 16) :
    Calls Tryz.prog 126 #[.pointer (some ⟨b, 0, none⟩), .agg #[.int .i64 ((4 : Nat) : Int), .int .i64 n, .float .f64 x]] w fun r w' => Done W F0 b K m (doM m ⟨((4 : Nat) : Int), n, x⟩) r w' := by
  obtain ⟨y, z, s, hs⟩ := st2 (l := m.st) (by have := r1 (by omega); change (2 : Int) ≤ _ at this; omega)
  change (m.st.length : Int) - 2 + 2 ≤ 64 at r3
  exact (do_A h hT (k := 4) (by omega) (by omega) (by omega) (by omega) (by omega) (by omega) (by omega) (by omega) (by omega) (fun W F0 w h => reckon_4 h n x hs (by rw [hs] at r3; simp at r3; omega)) hF).mono fun r w' ⟨a1, a2⟩ => .inr ⟨a1, by rw [show (doM m ⟨(4 : Nat), n, x⟩).1 = { m with st := z :: y :: s } from by show ({ m with st := m.st.getD 1 0 :: m.st.getD 0 0 :: m.st.drop 2 } : Mac) = _; rw [hs]; rfl]; exact a2⟩
set_option maxHeartbeats 200000 in
theorem do_k5 (h : Gm W F0 b K w m) (hT : Shaped5 w) {n : Int} {x : Nat} (hlo : (shp 5).lo ≤ n) (_hhi : n ≤ (shp 5).hi) (_hst : ∀ x ∈ m.st, okN x) (_hcl : m.cells ≤ 256) (_hre : m.reads.length ≤ 1024) (_hou : m.out.length ≤ 1024)
    (hF : ∀ W F0 w, Gm W F0 b K w m → Shaped5 w → Calls Tryz.prog 139 #[.pointer (some ⟨b, 0, none⟩), .agg #[.int .i64 ((5 : Nat) : Int), .int .i64 n, .float .f64 x]] w fun r w' => r = .returned (.tuple #[]) ∧ Below w.heap.size w w')
    (_r1 : 5 ≠ 5 → (shp 5).takes ≤ (m.st.length : Int)) (r2 : 5 = 5 → n + 1 ≤ (m.st.length : Int)) (r3 : (m.st.length : Int) - (shp 5).takes + (shp 5).lays ≤ 64) (_r4 : 5 = 14 → m.calls.length < 16) :
    Calls Tryz.prog 126 #[.pointer (some ⟨b, 0, none⟩), .agg #[.int .i64 ((5 : Nat) : Int), .int .i64 n, .float .f64 x]] w fun r w' => Done W F0 b K m (doM m ⟨((5 : Nat) : Int), n, x⟩) r w' := by
  obtain ⟨q, rfl⟩ : ∃ q : Nat, n = q := ⟨n.toNat, by change (0 : Int) ≤ n at hlo; omega⟩
  change (m.st.length : Int) - 0 + 1 ≤ 64 at r3
  have r0 := r2 rfl
  exact (do_A h hT (k := 5) (by omega) (by omega) (by omega) (by omega) (by omega) (by omega) (by omega) (by omega) (by omega) (fun W F0 w h => reckon_5 h _ x rfl (by omega) (by omega)) hF).mono fun r w' ⟨a1, a2⟩ => .inr ⟨a1, by rw [show (doM m ⟨(5 : Nat), (q : Int), x⟩).1 = { m with st := m.st.getD q 0 :: m.st } from rfl]; exact a2⟩
set_option maxHeartbeats 200000 in
theorem do_k6 (h : Gm W F0 b K w m) (hT : Shaped5 w) {n : Int} {x : Nat} (hlo : (shp 6).lo ≤ n) (hhi : n ≤ (shp 6).hi) (_hst : ∀ x ∈ m.st, okN x) (_hcl : m.cells ≤ 256) (_hre : m.reads.length ≤ 1024) (_hou : m.out.length ≤ 1024)
    (hF : ∀ W F0 w, Gm W F0 b K w m → Shaped5 w → Calls Tryz.prog 139 #[.pointer (some ⟨b, 0, none⟩), .agg #[.int .i64 ((6 : Nat) : Int), .int .i64 n, .float .f64 x]] w fun r w' => r = .returned (.tuple #[]) ∧ Below w.heap.size w w')
    (_r1 : 6 ≠ 5 → (shp 6).takes ≤ (m.st.length : Int)) (_r2 : 6 = 5 → n + 1 ≤ (m.st.length : Int)) (r3 : (m.st.length : Int) - (shp 6).takes + (shp 6).lays ≤ 64) (_r4 : 6 = 14 → m.calls.length < 16) :
    Calls Tryz.prog 126 #[.pointer (some ⟨b, 0, none⟩), .agg #[.int .i64 ((6 : Nat) : Int), .int .i64 n, .float .f64 x]] w fun r w' => Done W F0 b K m (doM m ⟨((6 : Nat) : Int), n, x⟩) r w' := by
  obtain ⟨q, rfl⟩ : ∃ q : Nat, n = q := ⟨n.toNat, by change (0 : Int) ≤ n at hlo; omega⟩
  change _ ≤ (7 : Int) at hhi
  change (m.st.length : Int) - 0 + 1 ≤ 64 at r3
  exact (do_A h hT (k := 6) (by omega) (by omega) (by omega) (by omega) (by omega) (by omega) (by omega) (by omega) (by omega) (fun W F0 w h => reckon_6 h _ x rfl (by omega) (by omega)) hF).mono fun r w' ⟨a1, a2⟩ => .inr ⟨a1, by rw [show (doM m ⟨(6 : Nat), (q : Int), x⟩).1 = { m with st := m.args q :: m.st } from rfl]; exact a2⟩
set_option maxHeartbeats 200000 in
theorem do_k7 (h : Gm W F0 b K w m) (hT : Shaped5 w) {n : Int} {x : Nat} (hlo : (shp 7).lo ≤ n) (hhi : n ≤ (shp 7).hi) (_hst : ∀ x ∈ m.st, okN x) (_hcl : m.cells ≤ 256) (_hre : m.reads.length ≤ 1024) (_hou : m.out.length ≤ 1024)
    (hF : ∀ W F0 w, Gm W F0 b K w m → Shaped5 w → Calls Tryz.prog 139 #[.pointer (some ⟨b, 0, none⟩), .agg #[.int .i64 ((7 : Nat) : Int), .int .i64 n, .float .f64 x]] w fun r w' => r = .returned (.tuple #[]) ∧ Below w.heap.size w w')
    (_r1 : 7 ≠ 5 → (shp 7).takes ≤ (m.st.length : Int)) (_r2 : 7 = 5 → n + 1 ≤ (m.st.length : Int)) (r3 : (m.st.length : Int) - (shp 7).takes + (shp 7).lays ≤ 64) (_r4 : 7 = 14 → m.calls.length < 16) :
    Calls Tryz.prog 126 #[.pointer (some ⟨b, 0, none⟩), .agg #[.int .i64 ((7 : Nat) : Int), .int .i64 n, .float .f64 x]] w fun r w' => Done W F0 b K m (doM m ⟨((7 : Nat) : Int), n, x⟩) r w' := by
  obtain ⟨q, rfl⟩ : ∃ q : Nat, n = q := ⟨n.toNat, by change (0 : Int) ≤ n at hlo; omega⟩
  change _ ≤ (7 : Int) at hhi
  change (m.st.length : Int) - 0 + 1 ≤ 64 at r3
  exact (do_A h hT (k := 7) (by omega) (by omega) (by omega) (by omega) (by omega) (by omega) (by omega) (by omega) (by omega) (fun W F0 w h => reckon_7 h _ x rfl (by omega) (by omega)) hF).mono fun r w' ⟨a1, a2⟩ => .inr ⟨a1, by rw [show (doM m ⟨(7 : Nat), (q : Int), x⟩).1 = { m with st := m.loc q :: m.st } from rfl]; exact a2⟩
set_option maxHeartbeats 200000 in
theorem do_k8 (h : Gm W F0 b K w m) (hT : Shaped5 w) {n : Int} {x : Nat} (hlo : (shp 8).lo ≤ n) (hhi : n ≤ (shp 8).hi) (_hst : ∀ x ∈ m.st, okN x) (_hcl : m.cells ≤ 256) (_hre : m.reads.length ≤ 1024) (_hou : m.out.length ≤ 1024)
    (hF : ∀ W F0 w, Gm W F0 b K w m → Shaped5 w → Calls Tryz.prog 139 #[.pointer (some ⟨b, 0, none⟩), .agg #[.int .i64 ((8 : Nat) : Int), .int .i64 n, .float .f64 x]] w fun r w' => r = .returned (.tuple #[]) ∧ Below w.heap.size w w')
    (r1 : 8 ≠ 5 → (shp 8).takes ≤ (m.st.length : Int)) (_r2 : 8 = 5 → n + 1 ≤ (m.st.length : Int)) (_r3 : (m.st.length : Int) - (shp 8).takes + (shp 8).lays ≤ 64) (_r4 : 8 = 14 → m.calls.length < 16) :
    Calls Tryz.prog 126 #[.pointer (some ⟨b, 0, none⟩), .agg #[.int .i64 ((8 : Nat) : Int), .int .i64 n, .float .f64 x]] w fun r w' => Done W F0 b K m (doM m ⟨((8 : Nat) : Int), n, x⟩) r w' := by
  obtain ⟨q, rfl⟩ : ∃ q : Nat, n = q := ⟨n.toNat, by change (0 : Int) ≤ n at hlo; omega⟩
  change _ ≤ (7 : Int) at hhi
  obtain ⟨y, s, hs⟩ := st1 (l := m.st) (by have := r1 (by omega); change (1 : Int) ≤ _ at this; omega)
  exact (do_A h hT (k := 8) (by omega) (by omega) (by omega) (by omega) (by omega) (by omega) (by omega) (by omega) (by omega) (fun W F0 w h => reckon_8 h _ x rfl (by omega) hs) hF).mono fun r w' ⟨a1, a2⟩ => .inr ⟨a1, by rw [show (doM m ⟨(8 : Nat), (q : Int), x⟩).1 = { m with loc := updF m.loc q y, st := s } from by show ({ m with loc := updF m.loc q (m.st.getD 0 0), st := m.st.drop 1 } : Mac) = _; rw [hs]; rfl]; exact a2⟩
set_option maxHeartbeats 200000 in
theorem do_k9 (h : Gm W F0 b K w m) (hT : Shaped5 w) {n : Int} {x : Nat} (hlo : (shp 9).lo ≤ n) (hhi : n ≤ (shp 9).hi) (hst : ∀ x ∈ m.st, okN x) (_hcl : m.cells ≤ 256) (_hre : m.reads.length ≤ 1024) (_hou : m.out.length ≤ 1024)
    (hF : ∀ W F0 w, Gm W F0 b K w m → Shaped5 w → Calls Tryz.prog 139 #[.pointer (some ⟨b, 0, none⟩), .agg #[.int .i64 ((9 : Nat) : Int), .int .i64 n, .float .f64 x]] w fun r w' => r = .returned (.tuple #[]) ∧ Below w.heap.size w w')
    (r1 : 9 ≠ 5 → (shp 9).takes ≤ (m.st.length : Int)) (_r2 : 9 = 5 → n + 1 ≤ (m.st.length : Int)) (r3 : (m.st.length : Int) - (shp 9).takes + (shp 9).lays ≤ 64) (_r4 : 9 = 14 → m.calls.length < 16) :
    Calls Tryz.prog 126 #[.pointer (some ⟨b, 0, none⟩), .agg #[.int .i64 ((9 : Nat) : Int), .int .i64 n, .float .f64 x]] w fun r w' => Done W F0 b K m (doM m ⟨((9 : Nat) : Int), n, x⟩) r w' := by
  change _ ≤ (8 : Int) at hhi
  change (1 : Int) ≤ _ at hlo
  obtain ⟨y, s, hs⟩ := st1 (l := m.st) (by have := r1 (by omega); change (1 : Int) ≤ _ at this; omega)
  change (m.st.length : Int) - 1 + 1 ≤ 64 at r3
  exact (do_A h hT (k := 9) (by omega) (by omega) (by omega) (by omega) (by omega) (by omega) (by omega) (by omega) (by omega) (fun W F0 w h => reckon_9 h n x ⟨hlo, hhi⟩ (hst y (by rw [hs]; simp)) hs (by rw [hs] at r3; simp at r3; omega)) hF).mono fun r w' ⟨a1, a2⟩ => .inr ⟨a1, by rw [show (doM m ⟨(9 : Nat), n, x⟩).1 = { m with st := oneV n y :: s } from by show ({ m with st := oneV n (m.st.getD 0 0) :: m.st.drop 1 } : Mac) = _; rw [hs]; rfl]; exact a2⟩
set_option maxHeartbeats 200000 in
theorem do_k10 (h : Gm W F0 b K w m) (hT : Shaped5 w) {n : Int} {x : Nat} (hlo : (shp 10).lo ≤ n) (hhi : n ≤ (shp 10).hi) (hst : ∀ x ∈ m.st, okN x) (_hcl : m.cells ≤ 256) (_hre : m.reads.length ≤ 1024) (_hou : m.out.length ≤ 1024)
    (hF : ∀ W F0 w, Gm W F0 b K w m → Shaped5 w → Calls Tryz.prog 139 #[.pointer (some ⟨b, 0, none⟩), .agg #[.int .i64 ((10 : Nat) : Int), .int .i64 n, .float .f64 x]] w fun r w' => r = .returned (.tuple #[]) ∧ Below w.heap.size w w')
    (r1 : 10 ≠ 5 → (shp 10).takes ≤ (m.st.length : Int)) (_r2 : 10 = 5 → n + 1 ≤ (m.st.length : Int)) (r3 : (m.st.length : Int) - (shp 10).takes + (shp 10).lays ≤ 64) (_r4 : 10 = 14 → m.calls.length < 16) :
    Calls Tryz.prog 126 #[.pointer (some ⟨b, 0, none⟩), .agg #[.int .i64 ((10 : Nat) : Int), .int .i64 n, .float .f64 x]] w fun r w' => Done W F0 b K m (doM m ⟨((10 : Nat) : Int), n, x⟩) r w' := by
  change _ ≤ (12 : Int) at hhi
  change (1 : Int) ≤ _ at hlo
  obtain ⟨y, z, s, hs⟩ := st2 (l := m.st) (by have := r1 (by omega); change (2 : Int) ≤ _ at this; omega)
  change (m.st.length : Int) - 2 + 1 ≤ 64 at r3
  exact (do_A h hT (k := 10) (by omega) (by omega) (by omega) (by omega) (by omega) (by omega) (by omega) (by omega) (by omega) (fun W F0 w h => reckon_10 h n x ⟨hlo, hhi⟩ (hst y (by rw [hs]; simp)) (hst z (by rw [hs]; simp)) hs (by rw [hs] at r3; simp at r3; omega)) hF).mono fun r w' ⟨a1, a2⟩ => .inr ⟨a1, by rw [show (doM m ⟨(10 : Nat), n, x⟩).1 = { m with st := twoV n z y :: s } from by show ({ m with st := twoV n (m.st.getD 1 0) (m.st.getD 0 0) :: m.st.drop 2 } : Mac) = _; rw [hs]; rfl]; exact a2⟩
set_option maxHeartbeats 200000 in
theorem do_k11 (h : Gm W F0 b K w m) (hT : Shaped5 w) {n : Int} {x : Nat} (_hlo : (shp 11).lo ≤ n) (_hhi : n ≤ (shp 11).hi) (_hst : ∀ x ∈ m.st, okN x) (_hcl : m.cells ≤ 256) (_hre : m.reads.length ≤ 1024) (_hou : m.out.length ≤ 1024)
    (hF : ∀ W F0 w, Gm W F0 b K w m → Shaped5 w → Calls Tryz.prog 139 #[.pointer (some ⟨b, 0, none⟩), .agg #[.int .i64 ((11 : Nat) : Int), .int .i64 n, .float .f64 x]] w fun r w' => r = .returned (.tuple #[]) ∧ Below w.heap.size w w')
    (_r1 : 11 ≠ 5 → (shp 11).takes ≤ (m.st.length : Int)) (_r2 : 11 = 5 → n + 1 ≤ (m.st.length : Int)) (_r3 : (m.st.length : Int) - (shp 11).takes + (shp 11).lays ≤ 64) (_r4 : 11 = 14 → m.calls.length < 16) :
    Calls Tryz.prog 126 #[.pointer (some ⟨b, 0, none⟩), .agg #[.int .i64 ((11 : Nat) : Int), .int .i64 n, .float .f64 x]] w fun r w' => Done W F0 b K m (doM m ⟨((11 : Nat) : Int), n, x⟩) r w' := by
  exact (do_B11 h hT (fun W F0 w h => move_11 h n x) hF).mono fun r w' ⟨a1, a2⟩ => .inr ⟨a1, by rw [show (doM m ⟨(11 : Nat), n, x⟩).1 = { m with place := n } from rfl]; exact a2⟩
set_option maxHeartbeats 200000 in
theorem do_k12 (h : Gm W F0 b K w m) (hT : Shaped5 w) {n : Int} {x : Nat} (_hlo : (shp 12).lo ≤ n) (_hhi : n ≤ (shp 12).hi) (_hst : ∀ x ∈ m.st, okN x) (_hcl : m.cells ≤ 256) (_hre : m.reads.length ≤ 1024) (_hou : m.out.length ≤ 1024)
    (hF : ∀ W F0 w, Gm W F0 b K w m → Shaped5 w → Calls Tryz.prog 139 #[.pointer (some ⟨b, 0, none⟩), .agg #[.int .i64 ((12 : Nat) : Int), .int .i64 n, .float .f64 x]] w fun r w' => r = .returned (.tuple #[]) ∧ Below w.heap.size w w')
    (r1 : 12 ≠ 5 → (shp 12).takes ≤ (m.st.length : Int)) (_r2 : 12 = 5 → n + 1 ≤ (m.st.length : Int)) (_r3 : (m.st.length : Int) - (shp 12).takes + (shp 12).lays ≤ 64) (_r4 : 12 = 14 → m.calls.length < 16) :
    Calls Tryz.prog 126 #[.pointer (some ⟨b, 0, none⟩), .agg #[.int .i64 ((12 : Nat) : Int), .int .i64 n, .float .f64 x]] w fun r w' => Done W F0 b K m (doM m ⟨((12 : Nat) : Int), n, x⟩) r w' := by
  obtain ⟨y, s, hs⟩ := st1 (l := m.st) (by have := r1 (by omega); change (1 : Int) ≤ _ at this; omega)
  cases ht : trueB y with
  | true => exact (do_B12 h hT (fun W F0 w h => move_12y h n x hs ht) hF).mono fun r w' ⟨a1, a2⟩ => .inr ⟨a1, by rw [show (doM m ⟨(12 : Nat), n, x⟩).1 = { m with place := n, st := s } from by show ({ m with place := if trueB (m.st.getD 0 0) then n else m.place, st := m.st.drop 1 } : Mac) = _; rw [hs]; simp [ht]]; exact a2⟩
  | false => exact (do_B12 h hT (fun W F0 w h => move_12n h n x hs ht) hF).mono fun r w' ⟨a1, a2⟩ => .inr ⟨a1, by rw [show (doM m ⟨(12 : Nat), n, x⟩).1 = { m with st := s } from by show ({ m with place := if trueB (m.st.getD 0 0) then n else m.place, st := m.st.drop 1 } : Mac) = _; rw [hs]; simp [ht]]; exact a2⟩
set_option maxHeartbeats 200000 in
theorem do_k13 (h : Gm W F0 b K w m) (hT : Shaped5 w) {n : Int} {x : Nat} (_hlo : (shp 13).lo ≤ n) (_hhi : n ≤ (shp 13).hi) (_hst : ∀ x ∈ m.st, okN x) (_hcl : m.cells ≤ 256) (_hre : m.reads.length ≤ 1024) (_hou : m.out.length ≤ 1024)
    (hF : ∀ W F0 w, Gm W F0 b K w m → Shaped5 w → Calls Tryz.prog 139 #[.pointer (some ⟨b, 0, none⟩), .agg #[.int .i64 ((13 : Nat) : Int), .int .i64 n, .float .f64 x]] w fun r w' => r = .returned (.tuple #[]) ∧ Below w.heap.size w w')
    (r1 : 13 ≠ 5 → (shp 13).takes ≤ (m.st.length : Int)) (_r2 : 13 = 5 → n + 1 ≤ (m.st.length : Int)) (_r3 : (m.st.length : Int) - (shp 13).takes + (shp 13).lays ≤ 64) (_r4 : 13 = 14 → m.calls.length < 16) :
    Calls Tryz.prog 126 #[.pointer (some ⟨b, 0, none⟩), .agg #[.int .i64 ((13 : Nat) : Int), .int .i64 n, .float .f64 x]] w fun r w' => Done W F0 b K m (doM m ⟨((13 : Nat) : Int), n, x⟩) r w' := by
  obtain ⟨y, s, hs⟩ := st1 (l := m.st) (by have := r1 (by omega); change (1 : Int) ≤ _ at this; omega)
  cases ht : trueB y with
  | true => exact (do_B13 h hT (fun W F0 w h => move_13y h n x hs ht) hF).mono fun r w' ⟨a1, a2⟩ => .inr ⟨a1, by rw [show (doM m ⟨(13 : Nat), n, x⟩).1 = { m with st := s } from by show ({ m with place := if trueB (m.st.getD 0 0) then m.place else n, st := m.st.drop 1 } : Mac) = _; rw [hs]; simp [ht]]; exact a2⟩
  | false => exact (do_B13 h hT (fun W F0 w h => move_13n h n x hs ht) hF).mono fun r w' ⟨a1, a2⟩ => .inr ⟨a1, by rw [show (doM m ⟨(13 : Nat), n, x⟩).1 = { m with place := n, st := s } from by show ({ m with place := if trueB (m.st.getD 0 0) then m.place else n, st := m.st.drop 1 } : Mac) = _; rw [hs]; simp [ht]]; exact a2⟩
set_option maxHeartbeats 200000 in
theorem do_k14 (h : Gm W F0 b K w m) (hT : Shaped5 w) {n : Int} {x : Nat} (_hlo : (shp 14).lo ≤ n) (_hhi : n ≤ (shp 14).hi) (_hst : ∀ x ∈ m.st, okN x) (_hcl : m.cells ≤ 256) (_hre : m.reads.length ≤ 1024) (_hou : m.out.length ≤ 1024)
    (hF : ∀ W F0 w, Gm W F0 b K w m → Shaped5 w → Calls Tryz.prog 139 #[.pointer (some ⟨b, 0, none⟩), .agg #[.int .i64 ((14 : Nat) : Int), .int .i64 n, .float .f64 x]] w fun r w' => r = .returned (.tuple #[]) ∧ Below w.heap.size w w')
    (_r1 : 14 ≠ 5 → (shp 14).takes ≤ (m.st.length : Int)) (_r2 : 14 = 5 → n + 1 ≤ (m.st.length : Int)) (_r3 : (m.st.length : Int) - (shp 14).takes + (shp 14).lays ≤ 64) (r4 : 14 = 14 → m.calls.length < 16) :
    Calls Tryz.prog 126 #[.pointer (some ⟨b, 0, none⟩), .agg #[.int .i64 ((14 : Nat) : Int), .int .i64 n, .float .f64 x]] w fun r w' => Done W F0 b K m (doM m ⟨((14 : Nat) : Int), n, x⟩) r w' := by
  exact (do_B14 h hT (fun W F0 w h => move_14 h n x (r4 rfl)) hF).mono fun r w' ⟨a1, a2⟩ => .inr ⟨a1, by rw [show (doM m ⟨(14 : Nat), n, x⟩).1 = { m with calls := m.place :: m.calls, place := n } from rfl]; exact a2⟩
set_option maxHeartbeats 200000 in
theorem do_k15 (h : Gm W F0 b K w m) (hT : Shaped5 w) {n : Int} {x : Nat} (_hlo : (shp 15).lo ≤ n) (_hhi : n ≤ (shp 15).hi) (_hst : ∀ x ∈ m.st, okN x) (_hcl : m.cells ≤ 256) (_hre : m.reads.length ≤ 1024) (_hou : m.out.length ≤ 1024)
    (hF : ∀ W F0 w, Gm W F0 b K w m → Shaped5 w → Calls Tryz.prog 139 #[.pointer (some ⟨b, 0, none⟩), .agg #[.int .i64 ((15 : Nat) : Int), .int .i64 n, .float .f64 x]] w fun r w' => r = .returned (.tuple #[]) ∧ Below w.heap.size w w')
    (_r1 : 15 ≠ 5 → (shp 15).takes ≤ (m.st.length : Int)) (_r2 : 15 = 5 → n + 1 ≤ (m.st.length : Int)) (_r3 : (m.st.length : Int) - (shp 15).takes + (shp 15).lays ≤ 64) (_r4 : 15 = 14 → m.calls.length < 16) :
    Calls Tryz.prog 126 #[.pointer (some ⟨b, 0, none⟩), .agg #[.int .i64 ((15 : Nat) : Int), .int .i64 n, .float .f64 x]] w fun r w' => Done W F0 b K m (doM m ⟨((15 : Nat) : Int), n, x⟩) r w' := by
  refine (do_ret h hT (m' := (retM m).1) (a := (retM m).2) (fun W F0 w h => ?_) hF).mono fun r w' ⟨a1, a2⟩ => .inr ⟨a1, a2⟩
  cases hc : m.calls with
  | nil => exact (ret_end h hc).mono fun r w' ⟨a1, a2⟩ => ⟨by rw [a1, retM_nil hc], by rw [retM_nil hc]; exact a2⟩
  | cons c q => exact (ret_back h hc).mono fun r w' ⟨a1, a2⟩ => ⟨by rw [a1, retM_cons hc], by rw [retM_cons hc]; exact a2⟩
set_option maxHeartbeats 200000 in
theorem do_k16 (h : Gm W F0 b K w m) (hT : Shaped5 w) {n : Int} {x : Nat} (_hlo : (shp 16).lo ≤ n) (_hhi : n ≤ (shp 16).hi) (_hst : ∀ x ∈ m.st, okN x) (hcl : m.cells ≤ 256) (hre : m.reads.length ≤ 1024) (_hou : m.out.length ≤ 1024)
    (hF : ∀ W F0 w, Gm W F0 b K w m → Shaped5 w → Calls Tryz.prog 139 #[.pointer (some ⟨b, 0, none⟩), .agg #[.int .i64 ((16 : Nat) : Int), .int .i64 n, .float .f64 x]] w fun r w' => r = .returned (.tuple #[]) ∧ Below w.heap.size w w')
    (r1 : 16 ≠ 5 → (shp 16).takes ≤ (m.st.length : Int)) (_r2 : 16 = 5 → n + 1 ≤ (m.st.length : Int)) (r3 : (m.st.length : Int) - (shp 16).takes + (shp 16).lays ≤ 64) (_r4 : 16 = 14 → m.calls.length < 16) :
    Calls Tryz.prog 126 #[.pointer (some ⟨b, 0, none⟩), .agg #[.int .i64 ((16 : Nat) : Int), .int .i64 n, .float .f64 x]] w fun r w' => Done W F0 b K m (doM m ⟨((16 : Nat) : Int), n, x⟩) r w' := by
  obtain ⟨y, s, hs⟩ := st1 (l := m.st) (by have := r1 (by omega); change (1 : Int) ≤ _ at this; omega)
  change (m.st.length : Int) - 1 + 1 ≤ 64 at r3
  have hl : s.length < 64 := by rw [hs] at r3; simp at r3; omega
  cases ha : addrB m with
  | false => exact (do_read_no h hT (e0 := 50) (fun W F0 w h => read_no h (by rw [hs]; simp) ha) hF).mono fun r w' ⟨a1, a2⟩ => .inl ⟨50, by show readM m = _; unfold readM; rw [ha]; rfl, a1, a2⟩
  | true =>
    cases hh : hasC m.buf (addrV m) with
    | false => exact (do_read h hT (fun W F0 w h => read_wait h hs hcl ha hh) hF).mono fun r w' ⟨a1, a2⟩ => .inr ⟨a1, a2⟩
    | true => exact (do_read h hT (fun W F0 w h => read_own h hs hl hre hcl ha hh) hF).mono fun r w' ⟨a1, a2⟩ => .inr ⟨a1, a2⟩
set_option maxHeartbeats 200000 in
theorem do_k17 (h : Gm W F0 b K w m) (hT : Shaped5 w) {n : Int} {x : Nat} (_hlo : (shp 17).lo ≤ n) (_hhi : n ≤ (shp 17).hi) (hst : ∀ x ∈ m.st, okN x) (hcl : m.cells ≤ 256) (_hre : m.reads.length ≤ 1024) (_hou : m.out.length ≤ 1024)
    (hF : ∀ W F0 w, Gm W F0 b K w m → Shaped5 w → Calls Tryz.prog 139 #[.pointer (some ⟨b, 0, none⟩), .agg #[.int .i64 ((17 : Nat) : Int), .int .i64 n, .float .f64 x]] w fun r w' => r = .returned (.tuple #[]) ∧ Below w.heap.size w w')
    (r1 : 17 ≠ 5 → (shp 17).takes ≤ (m.st.length : Int)) (_r2 : 17 = 5 → n + 1 ≤ (m.st.length : Int)) (_r3 : (m.st.length : Int) - (shp 17).takes + (shp 17).lays ≤ 64) (_r4 : 17 = 14 → m.calls.length < 16) :
    Calls Tryz.prog 126 #[.pointer (some ⟨b, 0, none⟩), .agg #[.int .i64 ((17 : Nat) : Int), .int .i64 n, .float .f64 x]] w fun r w' => Done W F0 b K m (doM m ⟨((17 : Nat) : Int), n, x⟩) r w' := by
  obtain ⟨y, z, s, hs⟩ := st2 (l := m.st) (by have := r1 (by omega); change (2 : Int) ≤ _ at this; omega)
  have hz := hst z (by rw [hs]; simp)
  cases hu : m.upd with
  | false => exact (do_write_no h hT (e0 := 81) (fun W F0 w h => write_ro h hu) hF).mono fun r w' ⟨a1, a2⟩ => .inl ⟨81, by show writeM m = _; unfold writeM; rw [hu]; rfl, a1, a2⟩
  | true =>
    cases ha : addrB m with
    | false => exact (do_write_no h hT (e0 := 50) (fun W F0 w h => write_no h (by rw [hs]; simp) hu ha) hF).mono fun r w' ⟨a1, a2⟩ => .inl ⟨50, by show writeM m = _; unfold writeM; rw [hu, ha]; rfl, a1, a2⟩
    | true =>
      cases hp : mayP m.wmax m.buf (addrV m) with
      | false => exact (do_write_no h hT (e0 := 70) (fun W F0 w h => write_full h hs hz hcl hu ha hp) hF).mono fun r w' ⟨a1, a2⟩ => .inl ⟨70, by show writeM m = _; unfold writeM; rw [hu, ha, hp]; rfl, a1, a2⟩
      | true => exact (do_write h hT (fun W F0 w h => write_ok h hs hz hcl hu ha hp) hF).mono fun r w' ⟨a1, a2⟩ => .inr ⟨a1, a2⟩
set_option maxHeartbeats 200000 in
theorem do_k18 (h : Gm W F0 b K w m) (hT : Shaped5 w) {n : Int} {x : Nat} (_hlo : (shp 18).lo ≤ n) (_hhi : n ≤ (shp 18).hi) (_hst : ∀ x ∈ m.st, okN x) (_hcl : m.cells ≤ 256) (_hre : m.reads.length ≤ 1024) (hou : m.out.length ≤ 1024)
    (hF : ∀ W F0 w, Gm W F0 b K w m → Shaped5 w → Calls Tryz.prog 139 #[.pointer (some ⟨b, 0, none⟩), .agg #[.int .i64 ((18 : Nat) : Int), .int .i64 n, .float .f64 x]] w fun r w' => r = .returned (.tuple #[]) ∧ Below w.heap.size w w')
    (r1 : 18 ≠ 5 → (shp 18).takes ≤ (m.st.length : Int)) (_r2 : 18 = 5 → n + 1 ≤ (m.st.length : Int)) (_r3 : (m.st.length : Int) - (shp 18).takes + (shp 18).lays ≤ 64) (_r4 : 18 = 14 → m.calls.length < 16) :
    Calls Tryz.prog 126 #[.pointer (some ⟨b, 0, none⟩), .agg #[.int .i64 ((18 : Nat) : Int), .int .i64 n, .float .f64 x]] w fun r w' => Done W F0 b K m (doM m ⟨((18 : Nat) : Int), n, x⟩) r w' := by
  obtain ⟨y, s, hs⟩ := st1 (l := m.st) (by have := r1 (by omega); change (1 : Int) ≤ _ at this; omega)
  exact (do_A h hT (k := 18) (by omega) (by omega) (by omega) (by omega) (by omega) (by omega) (by omega) (by omega) (by omega) (fun W F0 w h => reckon_18 h n x hs hou) hF).mono fun r w' ⟨a1, a2⟩ => .inr ⟨a1, by rw [show (doM m ⟨(18 : Nat), n, x⟩).1 = { m with out := m.out ++ [y], st := s } from by show ({ m with out := m.out ++ [m.st.getD 0 0], st := m.st.drop 1 } : Mac) = _; rw [hs]; rfl]; exact a2⟩
set_option maxHeartbeats 200000 in
theorem do_k19 (h : Gm W F0 b K w m) (hT : Shaped5 w) {n : Int} {x : Nat} (_hlo : (shp 19).lo ≤ n) (_hhi : n ≤ (shp 19).hi) (_hst : ∀ x ∈ m.st, okN x) (_hcl : m.cells ≤ 256) (_hre : m.reads.length ≤ 1024) (_hou : m.out.length ≤ 1024)
    (hF : ∀ W F0 w, Gm W F0 b K w m → Shaped5 w → Calls Tryz.prog 139 #[.pointer (some ⟨b, 0, none⟩), .agg #[.int .i64 ((19 : Nat) : Int), .int .i64 n, .float .f64 x]] w fun r w' => r = .returned (.tuple #[]) ∧ Below w.heap.size w w')
    (_r1 : 19 ≠ 5 → (shp 19).takes ≤ (m.st.length : Int)) (_r2 : 19 = 5 → n + 1 ≤ (m.st.length : Int)) (_r3 : (m.st.length : Int) - (shp 19).takes + (shp 19).lays ≤ 64) (_r4 : 19 = 14 → m.calls.length < 16) :
    Calls Tryz.prog 126 #[.pointer (some ⟨b, 0, none⟩), .agg #[.int .i64 ((19 : Nat) : Int), .int .i64 n, .float .f64 x]] w fun r w' => Done W F0 b K m (doM m ⟨((19 : Nat) : Int), n, x⟩) r w' := by
  exact (do_19 h hT hF).mono fun r w' ⟨a1, a2⟩ => .inr ⟨a1, a2⟩
set_option maxHeartbeats 200000 in
theorem do_k20 (h : Gm W F0 b K w m) (hT : Shaped5 w) {n : Int} {x : Nat} (_hlo : (shp 20).lo ≤ n) (_hhi : n ≤ (shp 20).hi) (_hst : ∀ x ∈ m.st, okN x) (_hcl : m.cells ≤ 256) (_hre : m.reads.length ≤ 1024) (_hou : m.out.length ≤ 1024)
    (hF : ∀ W F0 w, Gm W F0 b K w m → Shaped5 w → Calls Tryz.prog 139 #[.pointer (some ⟨b, 0, none⟩), .agg #[.int .i64 ((20 : Nat) : Int), .int .i64 n, .float .f64 x]] w fun r w' => r = .returned (.tuple #[]) ∧ Below w.heap.size w w')
    (_r1 : 20 ≠ 5 → (shp 20).takes ≤ (m.st.length : Int)) (_r2 : 20 = 5 → n + 1 ≤ (m.st.length : Int)) (_r3 : (m.st.length : Int) - (shp 20).takes + (shp 20).lays ≤ 64) (_r4 : 20 = 14 → m.calls.length < 16) :
    Calls Tryz.prog 126 #[.pointer (some ⟨b, 0, none⟩), .agg #[.int .i64 ((20 : Nat) : Int), .int .i64 n, .float .f64 x]] w fun r w' => Done W F0 b K m (doM m ⟨((20 : Nat) : Int), n, x⟩) r w' := by
  exact (do_20 h hT hF).mono fun r w' ⟨a1, a2⟩ => .inr ⟨a1, a2⟩
set_option maxHeartbeats 400000 in
set_option maxRecDepth 100000 in
theorem do_any (h : Gm W F0 b K w m) (hT : Shaped5 w) {k many : Nat} {n : Int} {x : Nat} (hi : mayB ⟨k, n, x⟩ many = true) (hst : ∀ x ∈ m.st, okN x) (hcl : m.cells ≤ 256) (hre : m.reads.length ≤ 1024) (hou : m.out.length ≤ 1024) : Calls Tryz.prog 126 #[.pointer (some ⟨b, 0, none⟩), .agg #[.int .i64 (k : Int), .int .i64 n, .float .f64 x]] w fun r w' => Done W F0 b K m (doF m ⟨k, n, x⟩) r w' := by
  obtain ⟨hk, hlo, hhi⟩ := fits_parts hi
  clear hi
  have h5 : k = 5 → 0 ≤ n ∧ n ≤ 63 := fun e => by subst e; exact ⟨hlo, hhi⟩
  cases hro : roomB m ⟨k, n, x⟩ with
  | false =>
    have e : doF m ⟨k, n, x⟩ = failM m 82 := by unfold doF; rw [hro]; rfl
    rw [e]
    exact (do_unfit h hT (fun W F0 w h hT => (fit_any h hT hk h5).mono fun r w' ⟨a1, a2⟩ => ⟨by rw [a1, hro]; rfl, a2⟩)).mono fun r w' ⟨a1, a2⟩ => .inl ⟨82, rfl, a1, a2⟩
  | true =>
    have hF : ∀ W F0 w, Gm W F0 b K w m → Shaped5 w → Calls Tryz.prog 139 #[.pointer (some ⟨b, 0, none⟩), .agg #[.int .i64 (k : Int), .int .i64 n, .float .f64 x]] w fun r w' => r = .returned (.tuple #[]) ∧ Below w.heap.size w w' := fun W F0 w h hT => (fit_any h hT hk h5).mono fun r w' ⟨a1, a2⟩ => ⟨by rw [a1, hro]; rfl, a2⟩
    have e0 : doF m ⟨k, n, x⟩ = doM m ⟨k, n, x⟩ := by unfold doF; rw [hro]; rfl
    obtain ⟨r1, r2, r3, r4⟩ := room_parts hro
    rw [e0]
    clear e0 hro h5
    have hkk : k = 1 ∨ k = 2 ∨ k = 3 ∨ k = 4 ∨ k = 5 ∨ k = 6 ∨ k = 7 ∨ k = 8 ∨ k = 9 ∨ k = 10 ∨ k = 11 ∨ k = 12 ∨ k = 13 ∨ k = 14 ∨ k = 15 ∨ k = 16 ∨ k = 17 ∨ k = 18 ∨ k = 19 ∨ k = 20 := by omega
    rcases hkk with rfl | rfl | rfl | rfl | rfl | rfl | rfl | rfl | rfl | rfl | rfl | rfl | rfl | rfl | rfl | rfl | rfl | rfl | rfl | rfl
    · exact do_k1 h hT hlo hhi hst hcl hre hou hF r1 r2 r3 r4
    · exact do_k2 h hT hlo hhi hst hcl hre hou hF r1 r2 r3 r4
    · exact do_k3 h hT hlo hhi hst hcl hre hou hF r1 r2 r3 r4
    · exact do_k4 h hT hlo hhi hst hcl hre hou hF r1 r2 r3 r4
    · exact do_k5 h hT hlo hhi hst hcl hre hou hF r1 r2 r3 r4
    · exact do_k6 h hT hlo hhi hst hcl hre hou hF r1 r2 r3 r4
    · exact do_k7 h hT hlo hhi hst hcl hre hou hF r1 r2 r3 r4
    · exact do_k8 h hT hlo hhi hst hcl hre hou hF r1 r2 r3 r4
    · exact do_k9 h hT hlo hhi hst hcl hre hou hF r1 r2 r3 r4
    · exact do_k10 h hT hlo hhi hst hcl hre hou hF r1 r2 r3 r4
    · exact do_k11 h hT hlo hhi hst hcl hre hou hF r1 r2 r3 r4
    · exact do_k12 h hT hlo hhi hst hcl hre hou hF r1 r2 r3 r4
    · exact do_k13 h hT hlo hhi hst hcl hre hou hF r1 r2 r3 r4
    · exact do_k14 h hT hlo hhi hst hcl hre hou hF r1 r2 r3 r4
    · exact do_k15 h hT hlo hhi hst hcl hre hou hF r1 r2 r3 r4
    · exact do_k16 h hT hlo hhi hst hcl hre hou hF r1 r2 r3 r4
    · exact do_k17 h hT hlo hhi hst hcl hre hou hF r1 r2 r3 r4
    · exact do_k18 h hT hlo hhi hst hcl hre hou hF r1 r2 r3 r4
    · exact do_k19 h hT hlo hhi hst hcl hre hou hF r1 r2 r3 r4
    · exact do_k20 h hT hlo hhi hst hcl hre hou hF r1 r2 r3 r4
end
end Go.Proofs.YtaliehikdidiaaaGreatDoor
namespace Go.Proofs.YtaliehikdidiaaaGreatDoor
open Go.ChangeShapes Go.WideShapes Go.ChangeAt Go.RowKit Num
attribute [local go_sem] run_store_float

section
variable {W w : World} {b : Nat} {F0 K : List Nat} {m : Mac}
/-- in a callee that makes two boxes and writes into the second -/
theorem Gm.two (h : Gm W F0 b K w m) (o1 o2 : Obj) : ∃ F, Gm ((w.alloc o1).alloc o2) F b K ((w.alloc o1).alloc o2) m ∧ ∀ w' m', Gm ((w.alloc o1).alloc o2) F b K w' m' → w'.heap[w.heap.size]? = some o1 ∧ w'.heap[w.heap.size + 1]? = some o2 ∧ ∀ w'', Turn [w.heap.size + 1] [w.heap.size + 1] w' w'' → Gm W F0 b K w'' m' := by
  obtain ⟨F1, hM1, hT1⟩ := h.mc
  have hb1 : Blw w F1 := hM1.blw
  have hM3 := hM1.on ((below_alloc w o1).trans ((below_alloc _ o2).mono (by simp)))
  refine ⟨F1, hM3.gm, fun w' m' hg => ?_⟩
  have a1 : w'.heap[w.heap.size]? = some o1 := (hg.far (by simp; omega) (fun q => absurd (hb1 _ q) (Nat.lt_irrefl _))).trans ((heap_alloc_old _ _ (by simp)).trans (heap_alloc_new w _))
  have a2 : w'.heap[w.heap.size + 1]? = some o2 := (hg.far (by simp) (fun q => absurd (hb1 _ q) (by omega))).trans (heap_new (by simp))
  refine ⟨a1, a2, fun w'' t => ?_⟩
  obtain ⟨p, q1, q2, q3⟩ := hg
  have n1 : w.heap.size + 1 ∉ p.F b := fun q => (q2.own _ q).elim (fun z => absurd (hb1 _ z) (by omega)) (fun z => by simp at z; omega)
  have n2 : w.heap.size + 1 ∉ fpR p.pk := fun q => by rw [← q3] at q; exact absurd (hM1.blwK _ q) (by omega)
  have s1 : Sep (p.F b) [w.heap.size + 1] := fun k hk q => n1 (by simp at q; rw [← q]; exact hk)
  have s2 : Sep (fpR p.pk) [w.heap.size + 1] := fun k hk q => n2 (by simp at q; rw [← q]; exact hk)
  have hs : w.heap.size ≤ w'.heap.size := Nat.le_trans (by simp; omega) q2.size
  refine ⟨p, q1.keep (t.kept s1 q1.blw) (t.kept s2 q1.ltk), hT1.trans ⟨t.os.trans q2.os, t.tape.trans q2.tape, t.output.trans q2.output, Nat.le_trans hs t.size, fun k hk hf => ?_, fun k hk => ?_⟩, q3⟩
  · exact (t.block k (Nat.lt_of_lt_of_le hk hs) (by simp; omega)).trans ((q2.block k (by simp; omega) hf).trans ((heap_alloc_old _ _ (by simp; omega)).trans (heap_alloc_old w _ hk)))
  · exact (q2.own k hk).imp id (fun z => by simp at z; omega)
abbrev ptrO (b : Nat) : Obj := .cells #[.pointer (some ⟨b, 0, none⟩)] 100
theorem ptrO_cell {w : World} {g b : Nat} (h : w.heap[g]? = some (ptrO b)) : w.cell? ⟨g, 0, none⟩ = some (.pointer (some ⟨b, 0, none⟩)) ∧ g < w.heap.size := ⟨by rw [cell_of_row w g 0 _ _ _ h]; rfl, lt_of_block h⟩
set_option maxHeartbeats 1000000 in
set_option maxRecDepth 100000 in
theorem catch_gave {B : World} {F : List Nat} {g1 g2 : Nat} (e : Int) (h : Gm B F b K w m) (hX : ∀ w' m', Gm B F b K w' m' → w'.heap[g1]? = some (ptrO b) ∧ w'.heap[g2]? = some (askO ask0) ∧ ∀ w'', Turn [g2] [g2] w' w'' → Gm W F0 b K w'' m') :
    CallsD Tryz.prog 124 #[.pointer (some ⟨g1, 0, none⟩), .pointer (some ⟨g2, 0, none⟩)] (.panicking [{ v := .iface 29 (.int .i64 e), recovered := false }]) w fun r u' w' =>
      r = .returned (.tuple #[]) ∧ u' = .panicking [{ v := .iface 29 (.int .i64 e), recovered := true }] ∧ w'.heap[g2]? = some (askO askEnd) ∧ Gm W F0 b K w' (failM m e).1 := by
  refine callsD_of_wpS Tryz.func124 rfl fun c₀ cs hu => ?_
  obtain ⟨r1, r2, r3⟩ := hX _ _ h
  obtain ⟨q0, q1⟩ := ptrO_cell r1
  have HX := Lib.hid hX
  have HG := Lib.hid h
  clear r1 r2 r3 h hX
  apply wpS_seq
  apply wpS_region
  simp [wpOpsS, go_sem, recoverD, hu, Tryz.ntmps124, Exit.thenS]
  refine wpS_of_wp ?_
  have hta : ∀ u : World, (Instr.typeAssert (.iface 29 (.int .i64 e)) 20 29 false).run Tryz.prog u = .ok (.int .i64 e) u := fun u => by kernel_rfl
  generalize hF : (Value.iface 29 (.int .i64 e)) = Fv at hta ⊢
  rw [show (#[Value.pointer (some ⟨g1, 0, none⟩), Value.pointer (some ⟨g2, 0, none⟩)] ++ ((Array.replicate 9 undef).setIfInBounds 1 Fv).setIfInBounds 0 Fv) = #[Value.pointer (some ⟨g1, 0, none⟩), Value.pointer (some ⟨g2, 0, none⟩), Fv, Fv, undef, undef, undef, undef, undef, undef, undef] from rfl]
  subst hF
  go_wp2
  refine region_tail 4 (by kernel_rfl) ?_
  simp only [List.take_succ_cons, List.take_zero, List.drop_succ_cons, List.drop_zero]
  repeat still_step
  refine wpStill_nil ?_
  go_wp2_with (go_at_call 125; refine (ends_any (HG.out.drewN 1) 3 0 e).mono ?_; rintro r u1 ⟨rfl, q⟩; obtain ⟨r1, r2, r3⟩ := HX.out _ _ q; obtain ⟨⟨d0, d1, d2, d3, d4⟩, d5, d6, d7, d8⟩ := askO_cells r2; have G1 := Lib.hid (And.intro r2 r3); clear q r1 r2 r3; unfold askV)
  refine ⟨rfl, _, rfl, _, results_none rfl _ _ _, rfl, rfl, ?_, ?_⟩
  · exact askO_set (k' := askEnd) G1.out.1
  · exact G1.out.2 _ (turn4 _ _ (.int .i64 4) (.int .i64 0) (.float .f64 0) (.bool false))
theorem catch_idle {g1 g2 : Nat} :
    CallsD Tryz.prog 124 #[.pointer (some ⟨g1, 0, none⟩), .pointer (some ⟨g2, 0, none⟩)] .returning w fun r u' w' => r = .returned (.tuple #[]) ∧ u' = .returning ∧ w' = w := by
  refine callsD_of_wpS Tryz.func124 rfl fun c₀ cs hu => ?_
  apply wpS_seq
  apply wpS_region
  simp [wpOpsS, go_sem, recoverD, hu, Tryz.ntmps124, Exit.thenS]
  refine wpS_of_wp ?_
  rw [show (#[Value.pointer (some ⟨g1, 0, none⟩), Value.pointer (some ⟨g2, 0, none⟩)] ++ ((Array.replicate 9 undef).setIfInBounds 1 .nilIface).setIfInBounds 0 .nilIface) = #[Value.pointer (some ⟨g1, 0, none⟩), Value.pointer (some ⟨g2, 0, none⟩), .nilIface, .nilIface, undef, undef, undef, undef, undef, undef, undef] from rfl]
  go_wp2
  cases c₀
  simp_all [bodyPostS, results, Tryz.results124]
end
end Go.Proofs.YtaliehikdidiaaaGreatDoor
