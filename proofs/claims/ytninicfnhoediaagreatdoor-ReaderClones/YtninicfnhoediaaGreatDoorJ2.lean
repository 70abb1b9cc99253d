import Derived.Test.YtninicfnhoediaaGreatDoorJ1
import Derived.Recover
import Derived.Defers
import Derived.Laws.StructEq
import Derived.Test.YtninicfnhoediaaGreatDoorWalkB
import Derived.Test.YtninicfnhoediaaGreatDoorM2
import Derived.Deep.QuietTactic
import Derived.BigQuiet
import Derived.Laws.CopyRow
import Derived.Deep.RegionWith
import Derived.Deep.WholeRow
import Derived.Deep.RegionHeld
import Derived.Test.YtninicfnhoediaaGreatDoorSq
namespace Go.Proofs.YtninicfnhoediaaGreatDoor
open Go.ChangeShapes Go.WideShapes Go.ChangeAt Go.RowKit Num
attribute [local go_sem] run_store_float
section
variable {W w : World} {b : Nat} {F0 K : List Nat} {m : Mac}
theorem Gm.both (h : Gm W F0 b K w m) (i : Ins) : ∃ F, Gm ((w.alloc (insO i)).alloc (askO ask0)) F b K ((w.alloc (insO i)).alloc (askO ask0)) m ∧ ∀ w' m', Gm ((w.alloc (insO i)).alloc (askO ask0)) F b K w' m' → w'.heap[w.heap.size]? = some (insO i) ∧ w'.heap[w.heap.size + 1]? = some (askO ask0) ∧ ∀ w'', Turn [w.heap.size + 1] [w.heap.size + 1] w' w'' → Gm W F0 b K w'' m' := by
  obtain ⟨F1, hM1, hT1⟩ := h.mc
  have hb1 : Blw w F1 := hM1.blw
  have hM3 := hM1.on ((below_alloc w (insO i)).trans ((below_alloc _ (askO ask0)).mono (by simp)))
  refine ⟨F1, hM3.gm, fun w' m' hg => ?_⟩
  have a1 : w'.heap[w.heap.size]? = some (insO i) := (hg.far (by simp; omega) (fun q => absurd (hb1 _ q) (Nat.lt_irrefl _))).trans ((heap_alloc_old _ _ (by simp)).trans (heap_alloc_new w _))
  have a2 : w'.heap[w.heap.size + 1]? = some (askO ask0) := (hg.far (by simp) (fun q => absurd (hb1 _ q) (by omega))).trans (heap_new (by simp))
  refine ⟨a1, a2, fun w'' t => ?_⟩
  obtain ⟨p, q1, q2, q3⟩ := hg
  have n1 : w.heap.size + 1 ∉ p.F b := fun q => (q2.own _ q).elim (fun z => absurd (hb1 _ z) (by omega)) (fun z => by simp at z; omega)
  have n2 : w.heap.size + 1 ∉ fpR p.pk := fun q => by rw [← q3] at q; exact absurd (hM1.blwK _ q) (by omega)
  have s1 : Sep (p.F b) [w.heap.size + 1] := fun k hk q => n1 (by simp at q; rw [← q]; exact hk)
  have s2 : Sep (fpR p.pk) [w.heap.size + 1] := fun k hk q => n2 (by simp at q; rw [← q]; exact hk)
  have hs : w.heap.size ≤ w'.heap.size := Nat.le_trans (by simp; omega) q2.size
  refine ⟨p, q1.keep (t.kept s1 q1.blw) (t.kept s2 q1.ltk), hT1.trans ⟨t.os.trans q2.os, t.tape.trans q2.tape, t.output.trans q2.output, Nat.le_trans hs t.size, fun k hk hf => ?_, fun k hk => ?_⟩, q3⟩
  · exact (t.block k (Nat.lt_of_lt_of_le hk hs) (by simp; omega)).trans ((q2.block k (by simp; omega) hf).trans ((heap_alloc_old _ _ (by simp; omega)).trans (heap_alloc_old w _ hk)))
  · exact (q2.own k hk).imp id (fun z => by simp at z; omega)
theorem both_shaped (hT : Shaped5 w) (i : Ins) : Shaped5 ((w.alloc (insO i)).alloc (askO ask0)) := hT.on ((below_alloc w (insO i)).trans ((below_alloc _ (askO ask0)).mono (by simp)))
set_option maxHeartbeats 400000 in
set_option maxRecDepth 100000 in
theorem do_A (h : Gm W F0 b K w m) (hT : Shaped5 w) {k : Nat} {n : Int} {x : Nat} {m' : Mac} (x16 : ¬ (k : Int) = 16) (x17 : ¬ (k : Int) = 17) (x19 : ¬ (k : Int) = 19) (x20 : ¬ (k : Int) = 20) (x15 : ¬ (k : Int) = 15) (x11 : ¬ (k : Int) = 11) (x12 : ¬ (k : Int) = 12) (x13 : ¬ (k : Int) = 13) (x14 : ¬ (k : Int) = 14) (hR : ∀ W F0 w, Gm W F0 b K w m → Calls Tryz.prog 169 #[.pointer (some ⟨b, 0, none⟩), .agg #[.int .i64 (k : Int), .int .i64 n, .float .f64 x]] w fun r w' => r = .returned (.tuple #[]) ∧ Gm W F0 b K w' m') (hF : ∀ W F0 w, Gm W F0 b K w m → Shaped5 w → Calls Tryz.prog 164 #[.pointer (some ⟨b, 0, none⟩), .agg #[.int .i64 (k : Int), .int .i64 n, .float .f64 x]] w fun r w' => r = .returned (.tuple #[]) ∧ Below w.heap.size w w') : Calls Tryz.prog 137 #[.pointer (some ⟨b, 0, none⟩), .agg #[.int .i64 (k : Int), .int .i64 n, .float .f64 x]] w fun r w' => r = .returned (askV ask0) ∧ Gm W F0 b K w' m' := by
  obtain ⟨F, h1, hX⟩ := h.both ⟨(k : Int), n, x⟩
  have HF := Lib.hid (hF _ _ _ h1 (both_shaped hT _))
  have HG := Lib.hid h1
  have HX := Lib.hid hX
  have HR := Lib.hid hR
  clear h h1 hX hT hF hR
  go_enter Tryz.func137, Tryz.ntmps137
  go_wp2_with (first
    | (go_at_call 169; refine (HR.out _ _ _ G0.out).mono ?_; rintro e u1 ⟨rfl, q⟩; obtain ⟨r1, r2, r3⟩ := HX.out _ _ q; obtain ⟨⟨d0, d1, d2, d3, d4⟩, d5, d6, d7, d8⟩ := askO_cells r2; have G1 := Lib.hid (And.intro r2 r3); clear q r1 r2 r3)
    | (go_at_call 164; refine HF.out.mono ?_; rintro e u0 ⟨rfl, q⟩; have q0 := HG.out.on q; obtain ⟨r1, r2, r3⟩ := HX.out _ _ q0; obtain ⟨c0, c1, c2, c3⟩ := insO_cells r1; obtain ⟨⟨k0, k1, k2, k3, k4⟩, k5, k6, k7, k8⟩ := askO_cells r2; have G0 := Lib.hid q0; clear q q0 r1 r2 r3))
  exact ask_back rfl (w.heap.size + 1) ask0 rfl (askO_set (k' := ask0) G1.out.1) rfl ⟨rfl, G1.out.2 _ (turn4 _ _ (.int .i64 0) (.int .i64 0) (.float .f64 0) (.bool false))⟩
set_option maxHeartbeats 400000 in
set_option maxRecDepth 100000 in
theorem do_B11 (h : Gm W F0 b K w m) (hT : Shaped5 w) {n : Int} {x : Nat} {m' : Mac} (hR : ∀ W F0 w, Gm W F0 b K w m → Calls Tryz.prog 168 #[.pointer (some ⟨b, 0, none⟩), .agg #[.int .i64 11, .int .i64 n, .float .f64 x]] w fun r w' => r = .returned (.tuple #[]) ∧ Gm W F0 b K w' m') (hF : ∀ W F0 w, Gm W F0 b K w m → Shaped5 w → Calls Tryz.prog 164 #[.pointer (some ⟨b, 0, none⟩), .agg #[.int .i64 11, .int .i64 n, .float .f64 x]] w fun r w' => r = .returned (.tuple #[]) ∧ Below w.heap.size w w') : Calls Tryz.prog 137 #[.pointer (some ⟨b, 0, none⟩), .agg #[.int .i64 11, .int .i64 n, .float .f64 x]] w fun r w' => r = .returned (askV ask0) ∧ Gm W F0 b K w' m' := by
  obtain ⟨F, h1, hX⟩ := h.both ⟨11, n, x⟩
  have HF := Lib.hid (hF _ _ _ h1 (both_shaped hT _))
  have HG := Lib.hid h1
  have HX := Lib.hid hX
  have HR := Lib.hid hR
  clear h h1 hX hT hF hR
  go_enter Tryz.func137, Tryz.ntmps137
  go_wp2_with (first
    | (go_at_call 168; refine (HR.out _ _ _ G0.out).mono ?_; rintro e u1 ⟨rfl, q⟩; obtain ⟨r1, r2, r3⟩ := HX.out _ _ q; obtain ⟨⟨d0, d1, d2, d3, d4⟩, d5, d6, d7, d8⟩ := askO_cells r2; have G1 := Lib.hid (And.intro r2 r3); clear q r1 r2 r3)
    | (go_at_call 164; refine HF.out.mono ?_; rintro e u0 ⟨rfl, q⟩; have q0 := HG.out.on q; obtain ⟨r1, r2, r3⟩ := HX.out _ _ q0; obtain ⟨c0, c1, c2, c3⟩ := insO_cells r1; obtain ⟨⟨k0, k1, k2, k3, k4⟩, k5, k6, k7, k8⟩ := askO_cells r2; have G0 := Lib.hid q0; clear q q0 r1 r2 r3))
  exact ask_back rfl (w.heap.size + 1) ask0 rfl (askO_set (k' := ask0) G1.out.1) rfl ⟨rfl, G1.out.2 _ (turn4 _ _ (.int .i64 0) (.int .i64 0) (.float .f64 0) (.bool false))⟩
set_option maxHeartbeats 400000 in
set_option maxRecDepth 100000 in
theorem do_B12 (h : Gm W F0 b K w m) (hT : Shaped5 w) {n : Int} {x : Nat} {m' : Mac} (hR : ∀ W F0 w, Gm W F0 b K w m → Calls Tryz.prog 168 #[.pointer (some ⟨b, 0, none⟩), .agg #[.int .i64 12, .int .i64 n, .float .f64 x]] w fun r w' => r = .returned (.tuple #[]) ∧ Gm W F0 b K w' m') (hF : ∀ W F0 w, Gm W F0 b K w m → Shaped5 w → Calls Tryz.prog 164 #[.pointer (some ⟨b, 0, none⟩), .agg #[.int .i64 12, .int .i64 n, .float .f64 x]] w fun r w' => r = .returned (.tuple #[]) ∧ Below w.heap.size w w') : Calls Tryz.prog 137 #[.pointer (some ⟨b, 0, none⟩), .agg #[.int .i64 12, .int .i64 n, .float .f64 x]] w fun r w' => r = .returned (askV ask0) ∧ Gm W F0 b K w' m' := by
  obtain ⟨F, h1, hX⟩ := h.both ⟨12, n, x⟩
  have HF := Lib.hid (hF _ _ _ h1 (both_shaped hT _))
  have HG := Lib.hid h1
  have HX := Lib.hid hX
  have HR := Lib.hid hR
  clear h h1 hX hT hF hR
  go_enter Tryz.func137, Tryz.ntmps137
  go_wp2_with (first
    | (go_at_call 168; refine (HR.out _ _ _ G0.out).mono ?_; rintro e u1 ⟨rfl, q⟩; obtain ⟨r1, r2, r3⟩ := HX.out _ _ q; obtain ⟨⟨d0, d1, d2, d3, d4⟩, d5, d6, d7, d8⟩ := askO_cells r2; have G1 := Lib.hid (And.intro r2 r3); clear q r1 r2 r3)
    | (go_at_call 164; refine HF.out.mono ?_; rintro e u0 ⟨rfl, q⟩; have q0 := HG.out.on q; obtain ⟨r1, r2, r3⟩ := HX.out _ _ q0; obtain ⟨c0, c1, c2, c3⟩ := insO_cells r1; obtain ⟨⟨k0, k1, k2, k3, k4⟩, k5, k6, k7, k8⟩ := askO_cells r2; have G0 := Lib.hid q0; clear q q0 r1 r2 r3))
  exact ask_back rfl (w.heap.size + 1) ask0 rfl (askO_set (k' := ask0) G1.out.1) rfl ⟨rfl, G1.out.2 _ (turn4 _ _ (.int .i64 0) (.int .i64 0) (.float .f64 0) (.bool false))⟩
set_option maxHeartbeats 400000 in
set_option maxRecDepth 100000 in
theorem do_B13 (h : Gm W F0 b K w m) (hT : Shaped5 w) {n : Int} {x : Nat} {m' : Mac} (hR : ∀ W F0 w, Gm W F0 b K w m → Calls Tryz.prog 168 #[.pointer (some ⟨b, 0, none⟩), .agg #[.int .i64 13, .int .i64 n, .float .f64 x]] w fun r w' => r = .returned (.tuple #[]) ∧ Gm W F0 b K w' m') (hF : ∀ W F0 w, Gm W F0 b K w m → Shaped5 w → Calls Tryz.prog 164 #[.pointer (some ⟨b, 0, none⟩), .agg #[.int .i64 13, .int .i64 n, .float .f64 x]] w fun r w' => r = .returned (.tuple #[]) ∧ Below w.heap.size w w') : Calls Tryz.prog 137 #[.pointer (some ⟨b, 0, none⟩), .agg #[.int .i64 13, .int .i64 n, .float .f64 x]] w fun r w' => r = .returned (askV ask0) ∧ Gm W F0 b K w' m' := by
  obtain ⟨F, h1, hX⟩ := h.both ⟨13, n, x⟩
  have HF := Lib.hid (hF _ _ _ h1 (both_shaped hT _))
  have HG := Lib.hid h1
  have HX := Lib.hid hX
  have HR := Lib.hid hR
  clear h h1 hX hT hF hR
  go_enter Tryz.func137, Tryz.ntmps137
  go_wp2_with (first
    | (go_at_call 168; refine (HR.out _ _ _ G0.out).mono ?_; rintro e u1 ⟨rfl, q⟩; obtain ⟨r1, r2, r3⟩ := HX.out _ _ q; obtain ⟨⟨d0, d1, d2, d3, d4⟩, d5, d6, d7, d8⟩ := askO_cells r2; have G1 := Lib.hid (And.intro r2 r3); clear q r1 r2 r3)
    | (go_at_call 164; refine HF.out.mono ?_; rintro e u0 ⟨rfl, q⟩; have q0 := HG.out.on q; obtain ⟨r1, r2, r3⟩ := HX.out _ _ q0; obtain ⟨c0, c1, c2, c3⟩ := insO_cells r1; obtain ⟨⟨k0, k1, k2, k3, k4⟩, k5, k6, k7, k8⟩ := askO_cells r2; have G0 := Lib.hid q0; clear q q0 r1 r2 r3))
  exact ask_back rfl (w.heap.size + 1) ask0 rfl (askO_set (k' := ask0) G1.out.1) rfl ⟨rfl, G1.out.2 _ (turn4 _ _ (.int .i64 0) (.int .i64 0) (.float .f64 0) (.bool false))⟩
set_option maxHeartbeats 400000 in
set_option maxRecDepth 100000 in
theorem do_B14 (h : Gm W F0 b K w m) (hT : Shaped5 w) {n : Int} {x : Nat} {m' : Mac} (hR : ∀ W F0 w, Gm W F0 b K w m → Calls Tryz.prog 168 #[.pointer (some ⟨b, 0, none⟩), .agg #[.int .i64 14, .int .i64 n, .float .f64 x]] w fun r w' => r = .returned (.tuple #[]) ∧ Gm W F0 b K w' m') (hF : ∀ W F0 w, Gm W F0 b K w m → Shaped5 w → Calls Tryz.prog 164 #[.pointer (some ⟨b, 0, none⟩), .agg #[.int .i64 14, .int .i64 n, .float .f64 x]] w fun r w' => r = .returned (.tuple #[]) ∧ Below w.heap.size w w') : Calls Tryz.prog 137 #[.pointer (some ⟨b, 0, none⟩), .agg #[.int .i64 14, .int .i64 n, .float .f64 x]] w fun r w' => r = .returned (askV ask0) ∧ Gm W F0 b K w' m' := by
  obtain ⟨F, h1, hX⟩ := h.both ⟨14, n, x⟩
  have HF := Lib.hid (hF _ _ _ h1 (both_shaped hT _))
  have HG := Lib.hid h1
  have HX := Lib.hid hX
  have HR := Lib.hid hR
  clear h h1 hX hT hF hR
  go_enter Tryz.func137, Tryz.ntmps137
  go_wp2_with (first
    | (go_at_call 168; refine (HR.out _ _ _ G0.out).mono ?_; rintro e u1 ⟨rfl, q⟩; obtain ⟨r1, r2, r3⟩ := HX.out _ _ q; obtain ⟨⟨d0, d1, d2, d3, d4⟩, d5, d6, d7, d8⟩ := askO_cells r2; have G1 := Lib.hid (And.intro r2 r3); clear q r1 r2 r3)
    | (go_at_call 164; refine HF.out.mono ?_; rintro e u0 ⟨rfl, q⟩; have q0 := HG.out.on q; obtain ⟨r1, r2, r3⟩ := HX.out _ _ q0; obtain ⟨c0, c1, c2, c3⟩ := insO_cells r1; obtain ⟨⟨k0, k1, k2, k3, k4⟩, k5, k6, k7, k8⟩ := askO_cells r2; have G0 := Lib.hid q0; clear q q0 r1 r2 r3))
  exact ask_back rfl (w.heap.size + 1) ask0 rfl (askO_set (k' := ask0) G1.out.1) rfl ⟨rfl, G1.out.2 _ (turn4 _ _ (.int .i64 0) (.int .i64 0) (.float .f64 0) (.bool false))⟩
set_option maxHeartbeats 400000 in
set_option maxRecDepth 100000 in
theorem do_read (h : Gm W F0 b K w m) (hT : Shaped5 w) {n : Int} {x : Nat} {m' : Mac} {a : Ask} (hR : ∀ W F0 w, Gm W F0 b K w m → Calls Tryz.prog 165 #[.pointer (some ⟨b, 0, none⟩)] w fun r w' => r = .returned (askV a) ∧ Gm W F0 b K w' m') (hF : ∀ W F0 w, Gm W F0 b K w m → Shaped5 w → Calls Tryz.prog 164 #[.pointer (some ⟨b, 0, none⟩), .agg #[.int .i64 16, .int .i64 n, .float .f64 x]] w fun r w' => r = .returned (.tuple #[]) ∧ Below w.heap.size w w') : Calls Tryz.prog 137 #[.pointer (some ⟨b, 0, none⟩), .agg #[.int .i64 16, .int .i64 n, .float .f64 x]] w fun r w' => r = .returned (askV a) ∧ Gm W F0 b K w' m' := by
  obtain ⟨F, h1, hX⟩ := h.both ⟨16, n, x⟩
  have HF := Lib.hid (hF _ _ _ h1 (both_shaped hT _))
  have HG := Lib.hid h1
  have HX := Lib.hid hX
  have HR := Lib.hid hR
  clear h h1 hX hT hF hR
  go_enter Tryz.func137, Tryz.ntmps137
  go_wp2_with (first
    | (go_at_call 165; refine (HR.out _ _ _ G0.out).mono ?_; rintro e u1 ⟨rfl, q⟩; obtain ⟨r1, r2, r3⟩ := HX.out _ _ q; obtain ⟨⟨d0, d1, d2, d3, d4⟩, d5, d6, d7, d8⟩ := askO_cells r2; have G1 := Lib.hid (And.intro r2 r3); clear q r1 r2 r3; unfold askV)
    | (go_at_call 164; refine HF.out.mono ?_; rintro e u0 ⟨rfl, q⟩; have q0 := HG.out.on q; obtain ⟨r1, r2, r3⟩ := HX.out _ _ q0; obtain ⟨c0, c1, c2, c3⟩ := insO_cells r1; obtain ⟨⟨k0, k1, k2, k3, k4⟩, k5, k6, k7, k8⟩ := askO_cells r2; have G0 := Lib.hid q0; clear q q0 r1 r2 r3))
  exact ask_back rfl (w.heap.size + 1) a rfl (askO_set (k' := a) G1.out.1) rfl ⟨rfl, G1.out.2 _ (turn4 _ _ (.int .i64 a.kind) (.int .i64 a.cell) (.float .f64 a.x) (.bool a.first))⟩
set_option maxHeartbeats 400000 in
set_option maxRecDepth 100000 in
theorem do_write (h : Gm W F0 b K w m) (hT : Shaped5 w) {n : Int} {x : Nat} {m' : Mac} {a : Ask} (hR : ∀ W F0 w, Gm W F0 b K w m → Calls Tryz.prog 166 #[.pointer (some ⟨b, 0, none⟩)] w fun r w' => r = .returned (askV a) ∧ Gm W F0 b K w' m') (hF : ∀ W F0 w, Gm W F0 b K w m → Shaped5 w → Calls Tryz.prog 164 #[.pointer (some ⟨b, 0, none⟩), .agg #[.int .i64 17, .int .i64 n, .float .f64 x]] w fun r w' => r = .returned (.tuple #[]) ∧ Below w.heap.size w w') : Calls Tryz.prog 137 #[.pointer (some ⟨b, 0, none⟩), .agg #[.int .i64 17, .int .i64 n, .float .f64 x]] w fun r w' => r = .returned (askV a) ∧ Gm W F0 b K w' m' := by
  obtain ⟨F, h1, hX⟩ := h.both ⟨17, n, x⟩
  have HF := Lib.hid (hF _ _ _ h1 (both_shaped hT _))
  have HG := Lib.hid h1
  have HX := Lib.hid hX
  have HR := Lib.hid hR
  clear h h1 hX hT hF hR
  go_enter Tryz.func137, Tryz.ntmps137
  go_wp2_with (first
    | (go_at_call 166; refine (HR.out _ _ _ G0.out).mono ?_; rintro e u1 ⟨rfl, q⟩; obtain ⟨r1, r2, r3⟩ := HX.out _ _ q; obtain ⟨⟨d0, d1, d2, d3, d4⟩, d5, d6, d7, d8⟩ := askO_cells r2; have G1 := Lib.hid (And.intro r2 r3); clear q r1 r2 r3; unfold askV)
    | (go_at_call 164; refine HF.out.mono ?_; rintro e u0 ⟨rfl, q⟩; have q0 := HG.out.on q; obtain ⟨r1, r2, r3⟩ := HX.out _ _ q0; obtain ⟨c0, c1, c2, c3⟩ := insO_cells r1; obtain ⟨⟨k0, k1, k2, k3, k4⟩, k5, k6, k7, k8⟩ := askO_cells r2; have G0 := Lib.hid q0; clear q q0 r1 r2 r3))
  exact ask_back rfl (w.heap.size + 1) a rfl (askO_set (k' := a) G1.out.1) rfl ⟨rfl, G1.out.2 _ (turn4 _ _ (.int .i64 a.kind) (.int .i64 a.cell) (.float .f64 a.x) (.bool a.first))⟩
set_option maxHeartbeats 400000 in
set_option maxRecDepth 100000 in
theorem do_ret (h : Gm W F0 b K w m) (hT : Shaped5 w) {n : Int} {x : Nat} {m' : Mac} {a : Ask} (hR : ∀ W F0 w, Gm W F0 b K w m → Calls Tryz.prog 167 #[.pointer (some ⟨b, 0, none⟩)] w fun r w' => r = .returned (askV a) ∧ Gm W F0 b K w' m') (hF : ∀ W F0 w, Gm W F0 b K w m → Shaped5 w → Calls Tryz.prog 164 #[.pointer (some ⟨b, 0, none⟩), .agg #[.int .i64 15, .int .i64 n, .float .f64 x]] w fun r w' => r = .returned (.tuple #[]) ∧ Below w.heap.size w w') : Calls Tryz.prog 137 #[.pointer (some ⟨b, 0, none⟩), .agg #[.int .i64 15, .int .i64 n, .float .f64 x]] w fun r w' => r = .returned (askV a) ∧ Gm W F0 b K w' m' := by
  obtain ⟨F, h1, hX⟩ := h.both ⟨15, n, x⟩
  have HF := Lib.hid (hF _ _ _ h1 (both_shaped hT _))
  have HG := Lib.hid h1
  have HX := Lib.hid hX
  have HR := Lib.hid hR
  clear h h1 hX hT hF hR
  go_enter Tryz.func137, Tryz.ntmps137
  go_wp2_with (first
    | (go_at_call 167; refine (HR.out _ _ _ G0.out).mono ?_; rintro e u1 ⟨rfl, q⟩; obtain ⟨r1, r2, r3⟩ := HX.out _ _ q; obtain ⟨⟨d0, d1, d2, d3, d4⟩, d5, d6, d7, d8⟩ := askO_cells r2; have G1 := Lib.hid (And.intro r2 r3); clear q r1 r2 r3; unfold askV)
    | (go_at_call 164; refine HF.out.mono ?_; rintro e u0 ⟨rfl, q⟩; have q0 := HG.out.on q; obtain ⟨r1, r2, r3⟩ := HX.out _ _ q0; obtain ⟨c0, c1, c2, c3⟩ := insO_cells r1; obtain ⟨⟨k0, k1, k2, k3, k4⟩, k5, k6, k7, k8⟩ := askO_cells r2; have G0 := Lib.hid q0; clear q q0 r1 r2 r3))
  exact ask_back rfl (w.heap.size + 1) a rfl (askO_set (k' := a) G1.out.1) rfl ⟨rfl, G1.out.2 _ (turn4 _ _ (.int .i64 a.kind) (.int .i64 a.cell) (.float .f64 a.x) (.bool a.first))⟩
set_option maxHeartbeats 400000 in
set_option maxRecDepth 100000 in
theorem do_read_no (h : Gm W F0 b K w m) (hT : Shaped5 w) {n : Int} {x : Nat} {e0 : Int} (hR : ∀ W F0 w, Gm W F0 b K w m → Calls Tryz.prog 165 #[.pointer (some ⟨b, 0, none⟩)] w fun r w' => r = gaveM e0 ∧ Gm W F0 b K w' m) (hF : ∀ W F0 w, Gm W F0 b K w m → Shaped5 w → Calls Tryz.prog 164 #[.pointer (some ⟨b, 0, none⟩), .agg #[.int .i64 16, .int .i64 n, .float .f64 x]] w fun r w' => r = .returned (.tuple #[]) ∧ Below w.heap.size w w') : Calls Tryz.prog 137 #[.pointer (some ⟨b, 0, none⟩), .agg #[.int .i64 16, .int .i64 n, .float .f64 x]] w fun r w' => r = gaveM e0 ∧ Gm W F0 b K w' m := by
  obtain ⟨F, h1, hX⟩ := h.both ⟨16, n, x⟩
  have HF := Lib.hid (hF _ _ _ h1 (both_shaped hT _))
  have HG := Lib.hid h1
  have HX := Lib.hid hX
  have HR := Lib.hid hR
  clear h h1 hX hT hF hR
  go_enter Tryz.func137, Tryz.ntmps137
  go_wp2_with (first
    | (go_at_call 165; refine (HR.out _ _ _ G0.out).mono ?_; rintro e u1 ⟨rfl, q⟩; have G1 := Lib.hid ((HX.out _ _ q).2.2 _ (Turn.refl _ _)); clear q)
    | (go_at_call 164; refine HF.out.mono ?_; rintro e u0 ⟨rfl, q⟩; have q0 := HG.out.on q; obtain ⟨r1, r2, r3⟩ := HX.out _ _ q0; obtain ⟨c0, c1, c2, c3⟩ := insO_cells r1; obtain ⟨⟨k0, k1, k2, k3, k4⟩, k5, k6, k7, k8⟩ := askO_cells r2; have G0 := Lib.hid q0; clear q q0 r1 r2 r3))
  exact ⟨rfl, rfl, G1.out⟩
set_option maxHeartbeats 400000 in
set_option maxRecDepth 100000 in
theorem do_write_no (h : Gm W F0 b K w m) (hT : Shaped5 w) {n : Int} {x : Nat} {e0 : Int} (hR : ∀ W F0 w, Gm W F0 b K w m → Calls Tryz.prog 166 #[.pointer (some ⟨b, 0, none⟩)] w fun r w' => r = gaveM e0 ∧ Gm W F0 b K w' m) (hF : ∀ W F0 w, Gm W F0 b K w m → Shaped5 w → Calls Tryz.prog 164 #[.pointer (some ⟨b, 0, none⟩), .agg #[.int .i64 17, .int .i64 n, .float .f64 x]] w fun r w' => r = .returned (.tuple #[]) ∧ Below w.heap.size w w') : Calls Tryz.prog 137 #[.pointer (some ⟨b, 0, none⟩), .agg #[.int .i64 17, .int .i64 n, .float .f64 x]] w fun r w' => r = gaveM e0 ∧ Gm W F0 b K w' m := by
  obtain ⟨F, h1, hX⟩ := h.both ⟨17, n, x⟩
  have HF := Lib.hid (hF _ _ _ h1 (both_shaped hT _))
  have HG := Lib.hid h1
  have HX := Lib.hid hX
  have HR := Lib.hid hR
  clear h h1 hX hT hF hR
  go_enter Tryz.func137, Tryz.ntmps137
  go_wp2_with (first
    | (go_at_call 166; refine (HR.out _ _ _ G0.out).mono ?_; rintro e u1 ⟨rfl, q⟩; have G1 := Lib.hid ((HX.out _ _ q).2.2 _ (Turn.refl _ _)); clear q)
    | (go_at_call 164; refine HF.out.mono ?_; rintro e u0 ⟨rfl, q⟩; have q0 := HG.out.on q; obtain ⟨r1, r2, r3⟩ := HX.out _ _ q0; obtain ⟨c0, c1, c2, c3⟩ := insO_cells r1; obtain ⟨⟨k0, k1, k2, k3, k4⟩, k5, k6, k7, k8⟩ := askO_cells r2; have G0 := Lib.hid q0; clear q q0 r1 r2 r3))
  exact ⟨rfl, rfl, G1.out⟩
set_option maxHeartbeats 400000 in
set_option maxRecDepth 100000 in
theorem do_19 (h : Gm W F0 b K w m) (hT : Shaped5 w) {n : Int} {x : Nat} (hF : ∀ W F0 w, Gm W F0 b K w m → Shaped5 w → Calls Tryz.prog 164 #[.pointer (some ⟨b, 0, none⟩), .agg #[.int .i64 19, .int .i64 n, .float .f64 x]] w fun r w' => r = .returned (.tuple #[]) ∧ Below w.heap.size w w') : Calls Tryz.prog 137 #[.pointer (some ⟨b, 0, none⟩), .agg #[.int .i64 19, .int .i64 n, .float .f64 x]] w fun r w' => r = .returned (askV askEnd) ∧ Gm W F0 b K w' { m with how := 2, cod := n, err := 0 } := by
  obtain ⟨F, h1, hX⟩ := h.both ⟨19, n, x⟩
  have HF := Lib.hid (hF _ _ _ h1 (both_shaped hT _))
  have HG := Lib.hid h1
  have HX := Lib.hid hX
  clear h h1 hX hT hF
  go_enter Tryz.func137, Tryz.ntmps137
  go_wp2_with (first
    | (go_at_call 136; refine (ends_any G0.out 2 n 0).mono ?_; rintro e u1 ⟨rfl, q⟩; obtain ⟨r1, r2, r3⟩ := HX.out _ _ q; obtain ⟨⟨d0, d1, d2, d3, d4⟩, d5, d6, d7, d8⟩ := askO_cells r2; have G1 := Lib.hid (And.intro r2 r3); clear q r1 r2 r3; unfold askV)
    | (go_at_call 164; refine HF.out.mono ?_; rintro e u0 ⟨rfl, q⟩; have q0 := HG.out.on q; obtain ⟨r1, r2, r3⟩ := HX.out _ _ q0; obtain ⟨c0, c1, c2, c3⟩ := insO_cells r1; obtain ⟨⟨k0, k1, k2, k3, k4⟩, k5, k6, k7, k8⟩ := askO_cells r2; have G0 := Lib.hid q0; clear q q0 r1 r2 r3))
  exact ask_back rfl (w.heap.size + 1) askEnd rfl (askO_set (k' := askEnd) G1.out.1) rfl ⟨rfl, G1.out.2 _ (turn4 _ _ (.int .i64 4) (.int .i64 0) (.float .f64 0) (.bool false))⟩
set_option maxHeartbeats 400000 in
set_option maxRecDepth 100000 in
theorem do_20 (h : Gm W F0 b K w m) (hT : Shaped5 w) {n : Int} {x : Nat} (hF : ∀ W F0 w, Gm W F0 b K w m → Shaped5 w → Calls Tryz.prog 164 #[.pointer (some ⟨b, 0, none⟩), .agg #[.int .i64 20, .int .i64 n, .float .f64 x]] w fun r w' => r = .returned (.tuple #[]) ∧ Below w.heap.size w w') : Calls Tryz.prog 137 #[.pointer (some ⟨b, 0, none⟩), .agg #[.int .i64 20, .int .i64 n, .float .f64 x]] w fun r w' => r = .returned (askV askEnd) ∧ Gm W F0 b K w' { m with how := 1, cod := 0, err := 0 } := by
  obtain ⟨F, h1, hX⟩ := h.both ⟨20, n, x⟩
  have HF := Lib.hid (hF _ _ _ h1 (both_shaped hT _))
  have HG := Lib.hid h1
  have HX := Lib.hid hX
  clear h h1 hX hT hF
  go_enter Tryz.func137, Tryz.ntmps137
  go_wp2_with (first
    | (go_at_call 136; refine (ends_any G0.out 1 0 0).mono ?_; rintro e u1 ⟨rfl, q⟩; obtain ⟨r1, r2, r3⟩ := HX.out _ _ q; obtain ⟨⟨d0, d1, d2, d3, d4⟩, d5, d6, d7, d8⟩ := askO_cells r2; have G1 := Lib.hid (And.intro r2 r3); clear q r1 r2 r3; unfold askV)
    | (go_at_call 164; refine HF.out.mono ?_; rintro e u0 ⟨rfl, q⟩; have q0 := HG.out.on q; obtain ⟨r1, r2, r3⟩ := HX.out _ _ q0; obtain ⟨c0, c1, c2, c3⟩ := insO_cells r1; obtain ⟨⟨k0, k1, k2, k3, k4⟩, k5, k6, k7, k8⟩ := askO_cells r2; have G0 := Lib.hid q0; clear q q0 r1 r2 r3))
  exact ask_back rfl (w.heap.size + 1) askEnd rfl (askO_set (k' := askEnd) G1.out.1) rfl ⟨rfl, G1.out.2 _ (turn4 _ _ (.int .i64 4) (.int .i64 0) (.float .f64 0) (.bool false))⟩
set_option maxHeartbeats 400000 in
set_option maxRecDepth 100000 in
theorem do_unfit {k : Nat} {n : Int} {x : Nat} (h : Gm W F0 b K w m) (hT : Shaped5 w) (hF : ∀ W F0 w, Gm W F0 b K w m → Shaped5 w → Calls Tryz.prog 164 #[.pointer (some ⟨b, 0, none⟩), .agg #[.int .i64 (k : Int), .int .i64 n, .float .f64 x]] w fun r w' => r = gaveM 82 ∧ Below w.heap.size w w') : Calls Tryz.prog 137 #[.pointer (some ⟨b, 0, none⟩), .agg #[.int .i64 (k : Int), .int .i64 n, .float .f64 x]] w fun r w' => r = gaveM 82 ∧ Gm W F0 b K w' m := by
  obtain ⟨F, h1, hX⟩ := h.both ⟨(k : Int), n, x⟩
  have HF := Lib.hid (hF _ _ _ h1 (both_shaped hT _))
  have HG := Lib.hid h1
  have HX := Lib.hid hX
  clear h h1 hX hT hF
  go_enter Tryz.func137, Tryz.ntmps137
  go_wp2_with (go_at_call 164; refine HF.out.mono ?_; rintro e u0 ⟨rfl, q⟩; have G1 := Lib.hid ((HX.out _ _ (HG.out.on q)).2.2 _ (Turn.refl _ _)); clear q)
  exact ⟨rfl, rfl, G1.out⟩
end
end Go.Proofs.YtninicfnhoediaaGreatDoor
namespace Go.Proofs.YtninicfnhoediaaGreatDoor
open Go.ChangeShapes Go.WideShapes Go.ChangeAt Go.RowKit Num
def doF (m : Mac) (i : Ins) : Mac × Ask := if roomB m i then doM m i else failM m 82
theorem st1 {l : List Nat} (h : 1 ≤ l.length) : ∃ y s, l = y :: s := by
  match l, h with
  | y :: s, _ => exact ⟨y, s, rfl⟩
theorem st2 {l : List Nat} (h : 2 ≤ l.length) : ∃ y z s, l = y :: z :: s := by
  match l, h with
  | y :: z :: s, _ => exact ⟨y, z, s, rfl⟩
  | [y], h => exact absurd h (by simp)
theorem room_parts {m : Mac} {k : Nat} {n : Int} {x : Nat} (h : roomB m ⟨k, n, x⟩ = true) : (k ≠ 5 → (shp k).takes ≤ (m.st.length : Int)) ∧ (k = 5 → n + 1 ≤ (m.st.length : Int)) ∧ (m.st.length : Int) - (shp k).takes + (shp k).lays ≤ 64 ∧ (k = 14 → m.calls.length < 16) := by
  unfold roomB leastI takesI laysI at h
  simp only [Int.toNat_natCast, Bool.and_eq_true, decide_eq_true_eq, Bool.not_eq_true', Bool.and_eq_false_iff, decide_eq_false_iff_not] at h
  obtain ⟨⟨h1, h2⟩, h3⟩ := h
  refine ⟨fun hk => ?_, fun hk => ?_, h2, fun hk => ?_⟩
  · rw [if_neg (by omega)] at h1
    exact h1
  · rw [if_pos (by omega)] at h1
    exact h1
  · rcases h3 with h3 | h3
    · exact absurd (by omega) h3
    · omega
theorem fits_parts {k : Nat} {n : Int} {x many : Nat} (h : mayB ⟨k, n, x⟩ many = true) : (1 ≤ k ∧ k < 21) ∧ (shp k).lo ≤ n ∧ n ≤ (shp k).hi := by
  unfold mayB knownB fitsB at h
  simp only [Bool.and_eq_true, decide_eq_true_eq, Int.toNat_natCast] at h
  omega
theorem retM_nil {m : Mac} (h : m.calls = []) : retM m = ({ m with how := 1, cod := 0, err := 0 }, askEnd) := by
  unfold retM
  split
  · rfl
  · rename_i q; rw [h] at q; cases q
theorem retM_cons {m : Mac} {c : Int} {r : List Int} (h : m.calls = c :: r) : retM m = ({ m with calls := r, place := c }, ask0) := by
  unfold retM
  split
  · rename_i q; rw [h] at q; cases q
  · rename_i q; rw [h] at q; cases q; rfl
section
variable {W w : World} {b : Nat} {F0 K : List Nat} {m : Mac}
set_option maxHeartbeats 200000 in
theorem do_k1 (h : Gm W F0 b K w m) (hT : Shaped5 w) {n : Int} {x : Nat} (_hlo : (shp 1).lo ≤ n) (_hhi : n ≤ (shp 1).hi) (_hst : ∀ x ∈ m.st, okN x) (_hcl : m.cells ≤ 256) (_hre : m.reads.length ≤ 1024) (_hou : m.out.length ≤ 1024)
    (hF : ∀ W F0 w, Gm W F0 b K w m → Shaped5 w → Calls Tryz.prog 164 #[.pointer (some ⟨b, 0, none⟩), .agg #[.int .i64 ((1 : Nat) : Int), .int .i64 n, .float .f64 x]] w fun r w' => r = .returned (.tuple #[]) ∧ Below w.heap.size w w')
    (_r1 : 1 ≠ 5 → (shp 1).takes ≤ (m.st.length : Int)) (_r2 : 1 = 5 → n + 1 ≤ (m.st.length : Int)) (r3 : (m.st.length : Int) - (shp 1).takes + (shp 1).lays ≤ 64) (_r4 : 1 = 14 → m.calls.length < 16) :
    Calls Tryz.prog 137 #[.pointer (some ⟨b, 0, none⟩), .agg #[.int .i64 ((1 : Nat) : Int), .int .i64 n, .float .f64 x]] w fun r w' => Done W F0 b K m (doM m ⟨((1 : Nat) : Int), n, x⟩) r w' := by
  change (m.st.length : Int) - 0 + 1 ≤ 64 at r3
  exact (do_A h hT (k := 1) (by omega) (by omega) (by omega) (by omega) (by omega) (by omega) (by omega) (by omega) (by omega) (fun W F0 w h => reckon_1 h n x (by omega)) hF).mono fun r w' ⟨a1, a2⟩ => .inr ⟨a1, by rw [show (doM m ⟨(1 : Nat), n, x⟩).1 = { m with st := fixB x :: m.st } from rfl]; exact a2⟩
set_option maxHeartbeats 200000 in
theorem do_k2 (h : Gm W F0 b K w m) (hT : Shaped5 w) {n : Int} {x : Nat} (_hlo : (shp 2).lo ≤ n) (_hhi : n ≤ (shp 2).hi) (_hst : ∀ x ∈ m.st, okN x) (_hcl : m.cells ≤ 256) (_hre : m.reads.length ≤ 1024) (_hou : m.out.length ≤ 1024)
    (hF : ∀ W F0 w, Gm W F0 b K w m → Shaped5 w → Calls Tryz.prog 164 #[.pointer (some ⟨b, 0, none⟩), .agg #[.int .i64 ((2 : Nat) : Int), .int .i64 n, .float .f64 x]] w fun r w' => r = .returned (.tuple #[]) ∧ Below w.heap.size w w')
    (r1 : 2 ≠ 5 → (shp 2).takes ≤ (m.st.length : Int)) (_r2 : 2 = 5 → n + 1 ≤ (m.st.length : Int)) (_r3 : (m.st.length : Int) - (shp 2).takes + (shp 2).lays ≤ 64) (_r4 : 2 = 14 → m.calls.length < 16) :
    Calls Tryz.prog 137 #[.pointer (some ⟨b, 0, none⟩), .agg #[.int .i64 ((2 : Nat) : Int), .int .i64 n, .float .f64 x]] w fun r w' => Done W F0 b K m (doM m ⟨((2 : Nat) : Int), n, x⟩) r w' := by
  obtain ⟨y, s, hs⟩ := st1 (l := m.st) (by have := r1 (by omega); change (1 : Int) ≤ _ at this; omega)
  exact (do_A h hT (k := 2) (by omega) (by omega) (by omega) (by omega) (by omega) (by omega) (by omega) (by omega) (by omega) (fun W F0 w h => reckon_2 h n x hs) hF).mono fun r w' ⟨a1, a2⟩ => .inr ⟨a1, by rw [show (doM m ⟨(2 : Nat), n, x⟩).1 = { m with st := s } from by show ({ m with st := m.st.drop 1 } : Mac) = _; rw [hs]; rfl]; exact a2⟩
set_option maxHeartbeats 200000 in
theorem do_k3 (h : Gm W F0 b K w m) (hT : Shaped5 w) {n : Int} {x : Nat} (_hlo : (shp 3).lo ≤ n) (_hhi : n ≤ (shp 3).hi) (_hst : ∀ x ∈ m.st, okN x) (_hcl : m.cells ≤ 256) (_hre : m.reads.length ≤ 1024) (_hou : m.out.length ≤ 1024)
    (hF : ∀ W F0 w, Gm W F0 b K w m → Shaped5 w → Calls Tryz.prog 164 #[.pointer (some ⟨b, 0, none⟩), .agg #[.int .i64 ((3 : Nat) : Int), .int .i64 n, .float .f64 x]] w fun r w' => r = .returned (.tuple #[]) ∧ Below w.heap.size w w')
    (r1 : 3 ≠ 5 → (shp 3).takes ≤ (m.st.length : Int)) (_r2 : 3 = 5 → n + 1 ≤ (m.st.length : Int)) (r3 : (m.st.length : Int) - (shp 3).takes + (shp 3).lays ≤ 64) (_r4 : 3 = 14 → m.calls.length < 16) :
    Calls Tryz.prog 137 #[.pointer (some ⟨b, 0, none⟩), .agg #[.int .i64 ((3 : Nat) : Int), .int .i64 n, .float .f64 x]] w fun r w' => Done W F0 b K m (doM m ⟨((3 : Nat) : Int), n, x⟩) r w' := by
  change (m.st.length : Int) - 1 + 2 ≤ 64 at r3
  have r0 := r1 (by omega)
  change (1 : Int) ≤ _ at r0
  exact (do_A h hT (k := 3) (by omega) (by omega) (by omega) (by omega) (by omega) (by omega) (by omega) (by omega) (by omega) (fun W F0 w h => reckon_3 h n x (by omega) (by omega)) hF).mono fun r w' ⟨a1, a2⟩ => .inr ⟨a1, by rw [show (doM m ⟨(3 : Nat), n, x⟩).1 = { m with st := m.st.getD 0 0 :: m.st } from rfl]; exact a2⟩
set_option maxHeartbeats 200000 in
theorem do_k4 (h : Gm W F0 b K w m) (hT : Shaped5 w) {n : Int} {x : Nat} (_hlo : (shp 4).lo ≤ n) (_hhi : n ≤ (shp 4).hi) (_hst : ∀ x ∈ m.st, okN x) (_hcl : m.cells ≤ 256) (_hre : m.reads.length ≤ 1024) (_hou : m.out.length ≤ 1024)
    (hF : ∀ W F0 w, Gm W F0 b K w m → Shaped5 w → Calls Tryz.prog 164 #[.pointer (some ⟨b, 0, none⟩), .agg #[.int .i64 ((4 : Nat) : Int), .int .i64 n, .float .f64 x]] w fun r w' => r = .returned (.tuple #[]) ∧ Below w.heap.size w w')
    (r1 : 4 ≠ 5 → (shp 4).takes ≤ (m.st.length : Int)) (_r2 : 4 = 5 → n + 1 ≤ (m.st.length : Int)) (r3 : (m.st.length : Int) - (shp 4).takes + (shp 4).lays ≤ 64) (_r4 : 4 = 14 → m.calls.length < 16) :
    Calls Tryz.prog 137 #[.pointer (some ⟨b, 0, none⟩), .agg #[.int .i64 ((4 : Nat) : Int), .int .i64 n, .float .f64 x]] w fun r w' => Done W F0 b K m (doM m ⟨((4 : Nat) : Int), n, x⟩) r w' := by
  obtain ⟨y, z, s, hs⟩ := st2 (l := m.st) (by have := r1 (by omega); change (2 : Int) ≤ _ at this; omega)
  change (m.st.length : Int) - 2 + 2 ≤ 64 at r3
  exact (do_A h hT (k := 4) (by omega) (by omega) (by omega) (by omega) (by omega) (by omega) (by omega) (by omega) (by omega) (fun W F0 w h => reckon_4 h n x hs (by rw [hs] at r3; simp at r3; omega)) hF).mono fun r w' ⟨a1, a2⟩ => .inr ⟨a1, by rw [show (doM m ⟨(4 : Nat), n, x⟩).1 = { m with st := z :: y :: s } from by show ({ m with st := m.st.getD 1 0 :: m.st.getD 0 0 :: m.st.drop 2 } : Mac) = _; rw [hs]; rfl]; exact a2⟩
set_option maxHeartbeats 200000 in
theorem do_k5 (h : Gm W F0 b K w m) (hT : Shaped5 w) {n : Int} {x : Nat} (hlo : (shp 5).lo ≤ n) (_hhi : n ≤ (shp 5).hi) (_hst : ∀ x ∈ m.st, okN x) (_hcl : m.cells ≤ 256) (_hre : m.reads.length ≤ 1024) (_hou : m.out.length ≤ 1024)
    (hF : ∀ W F0 w, Gm W F0 b K w m → Shaped5 w → Calls Tryz.prog 164 #[.pointer (some ⟨b, 0, none⟩), .agg #[.int .i64 ((5 : Nat) : Int), .int .i64 n, .float .f64 x]] w fun r w' => r = .returned (.tuple #[]) ∧ Below w.heap.size w w')
    (_r1 : 5 ≠ 5 → (shp 5).takes ≤ (m.st.length : Int)) (r2 : 5 = 5 → n + 1 ≤ (m.st.length : Int)) (r3 : (m.st.length : Int) - (shp 5).takes + (shp 5).lays ≤ 64) (_r4 : 5 = 14 → m.calls.length < 16) :
    Calls Tryz.prog 137 #[.pointer (some ⟨b, 0, none⟩), .agg #[.int .i64 ((5 : Nat) : Int), .int .i64 n, .float .f64 x]] w fun r w' => Done W F0 b K m (doM m ⟨((5 : Nat) : Int), n, x⟩) r w' := by
  obtain ⟨q, rfl⟩ : ∃ q : Nat, n = q := ⟨n.toNat, by change (0 : Int) ≤ n at hlo; omega⟩
  change (m.st.length : Int) - 0 + 1 ≤ 64 at r3
  have r0 := r2 rfl
  exact (do_A h hT (k := 5) (by omega) (by omega) (by omega) (by omega) (by omega) (by omega) (by omega) (by omega) (by omega) (fun W F0 w h => reckon_5 h _ x rfl (by omega) (by omega)) hF).mono fun r w' ⟨a1, a2⟩ => .inr ⟨a1, by rw [show (doM m ⟨(5 : Nat), (q : Int), x⟩).1 = { m with st := m.st.getD q 0 :: m.st } from rfl]; exact a2⟩
set_option maxHeartbeats 200000 in
theorem do_k6 (h : Gm W F0 b K w m) (hT : Shaped5 w) {n : Int} {x : Nat} (hlo : (shp 6).lo ≤ n) (hhi : n ≤ (shp 6).hi) (_hst : ∀ x ∈ m.st, okN x) (_hcl : m.cells ≤ 256) (_hre : m.reads.length ≤ 1024) (_hou : m.out.length ≤ 1024)
    (hF : ∀ W F0 w, Gm W F0 b K w m → Shaped5 w → Calls Tryz.prog 164 #[.pointer (some ⟨b, 0, none⟩), .agg #[.int .i64 ((6 : Nat) : Int), .int .i64 n, .float .f64 x]] w fun r w' => r = .returned (.tuple #[]) ∧ Below w.heap.size w w')
    (_r1 : 6 ≠ 5 → (shp 6).takes ≤ (m.st.length : Int)) (_r2 : 6 = 5 → n + 1 ≤ (m.st.length : Int)) (r3 : (m.st.length : Int) - (shp 6).takes + (shp 6).lays ≤ 64) (_r4 : 6 = 14 → m.calls.length < 16) :
    Calls Tryz.prog 137 #[.pointer (some ⟨b, 0, none⟩), .agg #[.int .i64 ((6 : Nat) : Int), .int .i64 n, .float .f64 x]] w fun r w' => Done W F0 b K m (doM m ⟨((6 : Nat) : Int), n, x⟩) r w' := by
  obtain ⟨q, rfl⟩ : ∃ q : Nat, n = q := ⟨n.toNat, by change (0 : Int) ≤ n at hlo; omega⟩
  change _ ≤ (7 : Int) at hhi
  change (m.st.length : Int) - 0 + 1 ≤ 64 at r3
  exact (do_A h hT (k := 6) (by omega) (by omega) (by omega) (by omega) (by omega) (by omega) (by omega) (by omega) (by omega) (fun W F0 w h => reckon_6 h _ x rfl (by omega) (by omega)) hF).mono fun r w' ⟨a1, a2⟩ => .inr ⟨a1, by rw [show (doM m ⟨(6 : Nat), (q : Int), x⟩).1 = { m with st := m.args q :: m.st } from rfl]; exact a2⟩
set_option maxHeartbeats 200000 in
theorem do_k7 (h : Gm W F0 b K w m) (hT : Shaped5 w) {n : Int} {x : Nat} (hlo : (shp 7).lo ≤ n) (hhi : n ≤ (shp 7).hi) (_hst : ∀ x ∈ m.st, okN x) (_hcl : m.cells ≤ 256) (_hre : m.reads.length ≤ 1024) (_hou : m.out.length ≤ 1024)
    (hF : ∀ W F0 w, Gm W F0 b K w m → Shaped5 w → Calls Tryz.prog 164 #[.pointer (some ⟨b, 0, none⟩), .agg #[.int .i64 ((7 : Nat) : Int), .int .i64 n, .float .f64 x]] w fun r w' => r = .returned (.tuple #[]) ∧ Below w.heap.size w w')
    (_r1 : 7 ≠ 5 → (shp 7).takes ≤ (m.st.length : Int)) (_r2 : 7 = 5 → n + 1 ≤ (m.st.length : Int)) (r3 : (m.st.length : Int) - (shp 7).takes + (shp 7).lays ≤ 64) (_r4 : 7 = 14 → m.calls.length < 16) :
    Calls Tryz.prog 137 #[.pointer (some ⟨b, 0, none⟩), .agg #[.int .i64 ((7 : Nat) : Int), .int .i64 n, .float .f64 x]] w fun r w' => Done W F0 b K m (doM m ⟨((7 : Nat) : Int), n, x⟩) r w' := by
  obtain ⟨q, rfl⟩ : ∃ q : Nat, n = q := ⟨n.toNat, by change (0 : Int) ≤ n at hlo; omega⟩
  change _ ≤ (7 : Int) at hhi
  change (m.st.length : Int) - 0 + 1 ≤ 64 at r3
  exact (do_A h hT (k := 7) (by omega) (by omega) (by omega) (by omega) (by omega) (by omega) (by omega) (by omega) (by omega) (fun W F0 w h => reckon_7 h _ x rfl (by omega) (by omega)) hF).mono fun r w' ⟨a1, a2⟩ => .inr ⟨a1, by rw [show (doM m ⟨(7 : Nat), (q : Int), x⟩).1 = { m with st := m.loc q :: m.st } from rfl]; exact a2⟩
set_option maxHeartbeats 200000 in
theorem do_k8 (h : Gm W F0 b K w m) (hT : Shaped5 w) {n : Int} {x : Nat} (hlo : (shp 8).lo ≤ n) (hhi : n ≤ (shp 8).hi) (_hst : ∀ x ∈ m.st, okN x) (_hcl : m.cells ≤ 256) (_hre : m.reads.length ≤ 1024) (_hou : m.out.length ≤ 1024)
    (hF : ∀ W F0 w, Gm W F0 b K w m → Shaped5 w → Calls Tryz.prog 164 #[.pointer (some ⟨b, 0, none⟩), .agg #[.int .i64 ((8 : Nat) : Int), .int .i64 n, .float .f64 x]] w fun r w' => r = .returned (.tuple #[]) ∧ Below w.heap.size w w')
    (r1 : 8 ≠ 5 → (shp 8).takes ≤ (m.st.length : Int)) (_r2 : 8 = 5 → n + 1 ≤ (m.st.length : Int)) (_r3 : (m.st.length : Int) - (shp 8).takes + (shp 8).lays ≤ 64) (_r4 : 8 = 14 → m.calls.length < 16) :
    Calls Tryz.prog 137 #[.pointer (some ⟨b, 0, none⟩), .agg #[.int .i64 ((8 : Nat) : Int), .int .i64 n, .float .f64 x]] w fun r w' => Done W F0 b K m (doM m ⟨((8 : Nat) : Int), n, x⟩) r w' := by
  obtain ⟨q, rfl⟩ : ∃ q : Nat, n = q := ⟨n.toNat, by change (0 : Int) ≤ n at hlo; omega⟩
  change _ ≤ (7 : Int) at hhi
  obtain ⟨y, s, hs⟩ := st1 (l := m.st) (by have := r1 (by omega); change (1 : Int) ≤ _ at this; omega)
  exact (do_A h hT (k := 8) (by omega) (by omega) (by omega) (by omega) (by omega) (by omega) (by omega) (by omega) (by omega) (fun W F0 w h => reckon_8 h _ x rfl (by omega) hs) hF).mono fun r w' ⟨a1, a2⟩ => .inr ⟨a1, by rw [show (doM m ⟨(8 : Nat), (q : Int), x⟩).1 = { m with loc := updF m.loc q y, st := s } from by show ({ m with loc := updF m.loc q (m.st.getD 0 0), st := m.st.drop 1 } : Mac) = _; rw [hs]; rfl]; exact a2⟩
set_option maxHeartbeats 200000 in
theorem do_k9 (h : Gm W F0 b K w m) (hT : Shaped5 w) {n : Int} {x : Nat} (hlo : (shp 9).lo ≤ n) (hhi : n ≤ (shp 9).hi) (hst : ∀ x ∈ m.st, okN x) (_hcl : m.cells ≤ 256) (_hre : m.reads.length ≤ 1024) (_hou : m.out.length ≤ 1024)
    (hF : ∀ W F0 w, Gm W F0 b K w m → Shaped5 w → Calls Tryz.prog 164 #[.pointer (some ⟨b, 0, none⟩), .agg #[.int .i64 ((9 : Nat) : Int), .int .i64 n, .float .f64 x]] w fun r w' => r = .returned (.tuple #[]) ∧ Below w.heap.size w w')
    (r1 : 9 ≠ 5 → (shp 9).takes ≤ (m.st.length : Int)) (_r2 : 9 = 5 → n + 1 ≤ (m.st.length : Int)) (r3 : (m.st.length : Int) - (shp 9).takes + (shp 9).lays ≤ 64) (_r4 : 9 = 14 → m.calls.length < 16) :
    Calls Tryz.prog 137 #[.pointer (some ⟨b, 0, none⟩), .agg #[.int .i64 ((9 : Nat) : Int), .int .i64 n, .float .f64 x]] w fun r w' => Done W F0 b K m (doM m ⟨((9 : Nat) : Int), n, x⟩) r w' := by
  change _ ≤ (8 : Int) at hhi
  change (1 : Int) ≤ _ at hlo
  obtain ⟨y, s, hs⟩ := st1 (l := m.st) (by have := r1 (by omega); change (1 : Int) ≤ _ at this; omega)
  change (m.st.length : Int) - 1 + 1 ≤ 64 at r3
  exact (do_A h hT (k := 9) (by omega) (by omega) (by omega) (by omega) (by omega) (by omega) (by omega) (by omega) (by omega) (fun W F0 w h => reckon_9 h n x ⟨hlo, hhi⟩ (hst y (by rw [hs]; simp)) hs (by rw [hs] at r3; simp at r3; omega)) hF).mono fun r w' ⟨a1, a2⟩ => .inr ⟨a1, by rw [show (doM m ⟨(9 : Nat), n, x⟩).1 = { m with st := oneV n y :: s } from by show ({ m with st := oneV n (m.st.getD 0 0) :: m.st.drop 1 } : Mac) = _; rw [hs]; rfl]; exact a2⟩
set_option maxHeartbeats 200000 in
theorem do_k10 (h : Gm W F0 b K w m) (hT : Shaped5 w) {n : Int} {x : Nat} (hlo : (shp 10).lo ≤ n) (hhi : n ≤ (shp 10).hi) (hst : ∀ x ∈ m.st, okN x) (_hcl : m.cells ≤ 256) (_hre : m.reads.length ≤ 1024) (_hou : m.out.length ≤ 1024)
    (hF : ∀ W F0 w, Gm W F0 b K w m → Shaped5 w → Calls Tryz.prog 164 #[.pointer (some ⟨b, 0, none⟩), .agg #[.int .i64 ((10 : Nat) : Int), .int .i64 n, .float .f64 x]] w fun r w' => r = .returned (.tuple #[]) ∧ Below w.heap.size w w')
    (r1 : 10 ≠ 5 → (shp 10).takes ≤ (m.st.length : Int)) (_r2 : 10 = 5 → n + 1 ≤ (m.st.length : Int)) (r3 : (m.st.length : Int) - (shp 10).takes + (shp 10).lays ≤ 64) (_r4 : 10 = 14 → m.calls.length < 16) :
    Calls Tryz.prog 137 #[.pointer (some ⟨b, 0, none⟩), .agg #[.int .i64 ((10 : Nat) : Int), .int .i64 n, .float .f64 x]] w fun r w' => Done W F0 b K m (doM m ⟨((10 : Nat) : Int), n, x⟩) r w' := by
  change _ ≤ (12 : Int) at hhi
  change (1 : Int) ≤ _ at hlo
  obtain ⟨y, z, s, hs⟩ := st2 (l := m.st) (by have := r1 (by omega); change (2 : Int) ≤ _ at this; omega)
  change (m.st.length : Int) - 2 + 1 ≤ 64 at r3
  exact (do_A h hT (k := 10) (by omega) (by omega) (by omega) (by omega) (by omega) (by omega) (by omega) (by omega) (by omega) (fun W F0 w h => reckon_10 h n x ⟨hlo, hhi⟩ (hst y (by rw [hs]; simp)) (hst z (by rw [hs]; simp)) hs (by rw [hs] at r3; simp at r3; omega)) hF).mono fun r w' ⟨a1, a2⟩ => .inr ⟨a1, by rw [show (doM m ⟨(10 : Nat), n, x⟩).1 = { m with st := twoV n z y :: s } from by show ({ m with st := twoV n (m.st.getD 1 0) (m.st.getD 0 0) :: m.st.drop 2 } : Mac) = _; rw [hs]; rfl]; exact a2⟩
set_option maxHeartbeats 200000 in
theorem do_k11 (h : Gm W F0 b K w m) (hT : Shaped5 w) {n : Int} {x : Nat} (_hlo : (shp 11).lo ≤ n) (_hhi : n ≤ (shp 11).hi) (_hst : ∀ x ∈ m.st, okN x) (_hcl : m.cells ≤ 256) (_hre : m.reads.length ≤ 1024) (_hou : m.out.length ≤ 1024)
    (hF : ∀ W F0 w, Gm W F0 b K w m → Shaped5 w → Calls Tryz.prog 164 #[.pointer (some ⟨b, 0, none⟩), .agg #[.int .i64 ((11 : Nat) : Int), .int .i64 n, .float .f64 x]] w fun r w' => r = .returned (.tuple #[]) ∧ Below w.heap.size w w')
    (_r1 : 11 ≠ 5 → (shp 11).takes ≤ (m.st.length : Int)) (_r2 : 11 = 5 → n + 1 ≤ (m.st.length : Int)) (_r3 : (m.st.length : Int) - (shp 11).takes + (shp 11).lays ≤ 64) (_r4 : 11 = 14 → m.calls.length < 16) :
    Calls Tryz.prog 137 #[.pointer (some ⟨b, 0, none⟩), .agg #[.int .i64 ((11 : Nat) : Int), .int .i64 n, .float .f64 x]] w fun r w' => Done W F0 b K m (doM m ⟨((11 : Nat) : Int), n, x⟩) r w' := by
  exact (do_B11 h hT (fun W F0 w h => move_11 h n x) hF).mono fun r w' ⟨a1, a2⟩ => .inr ⟨a1, by rw [show (doM m ⟨(11 : Nat), n, x⟩).1 = { m with place := n } from rfl]; exact a2⟩
set_option maxHeartbeats 200000 in
theorem do_k12 (h : Gm W F0 b K w m) (hT : Shaped5 w) {n : Int} {x : Nat} (_hlo : (shp 12).lo ≤ n) (_hhi : n ≤ (shp 12).hi) (_hst : ∀ x ∈ m.st, okN x) (_hcl : m.cells ≤ 256) (_hre : m.reads.length ≤ 1024) (_hou : m.out.length ≤ 1024)
    (hF : ∀ W F0 w, Gm W F0 b K w m → Shaped5 w → Calls Tryz.prog 164 #[.pointer (some ⟨b, 0, none⟩), .agg #[.int .i64 ((12 : Nat) : Int), .int .i64 n, .float .f64 x]] w fun r w' => r = .returned (.tuple #[]) ∧ Below w.heap.size w w')
    (r1 : 12 ≠ 5 → (shp 12).takes ≤ (m.st.length : Int)) (_r2 : 12 = 5 → n + 1 ≤ (m.st.length : Int)) (_r3 : (m.st.length : Int) - (shp 12).takes + (shp 12).lays ≤ 64) (_r4 : 12 = 14 → m.calls.length < 16) :
    Calls Tryz.prog 137 #[.pointer (some ⟨b, 0, none⟩), .agg #[.int .i64 ((12 : Nat) : Int), .int .i64 n, .float .f64 x]] w fun r w' => Done W F0 b K m (doM m ⟨((12 : Nat) : Int), n, x⟩) r w' := by
  obtain ⟨y, s, hs⟩ := st1 (l := m.st) (by have := r1 (by omega); change (1 : Int) ≤ _ at this; omega)
  cases ht : trueB y with
  | true => exact (do_B12 h hT (fun W F0 w h => move_12y h n x hs ht) hF).mono fun r w' ⟨a1, a2⟩ => .inr ⟨a1, by rw [show (doM m ⟨(12 : Nat), n, x⟩).1 = { m with place := n, st := s } from by show ({ m with place := if trueB (m.st.getD 0 0) then n else m.place, st := m.st.drop 1 } : Mac) = _; rw [hs]; simp [ht]]; exact a2⟩
  | false => exact (do_B12 h hT (fun W F0 w h => move_12n h n x hs ht) hF).mono fun r w' ⟨a1, a2⟩ => .inr ⟨a1, by rw [show (doM m ⟨(12 : Nat), n, x⟩).1 = { m with st := s } from by show ({ m with place := if trueB (m.st.getD 0 0) then n else m.place, st := m.st.drop 1 } : Mac) = _; rw [hs]; simp [ht]]; exact a2⟩
set_option maxHeartbeats 200000 in
theorem do_k13 (h : Gm W F0 b K w m) (hT : Shaped5 w) {n : Int} {x : Nat} (_hlo : (shp 13).lo ≤ n) (_hhi : n ≤ (shp 13).hi) (_hst : ∀ x ∈ m.st, okN x) (_hcl : m.cells ≤ 256) (_hre : m.reads.length ≤ 1024) (_hou : m.out.length ≤ 1024)
    (hF : ∀ W F0 w, Gm W F0 b K w m → Shaped5 w → Calls Tryz.prog 164 #[.pointer (some ⟨b, 0, none⟩), .agg #[.int .i64 ((13 : Nat) : Int), .int .i64 n, .float .f64 x]] w fun r w' => r = .returned (.tuple #[]) ∧ Below w.heap.size w w')
    (r1 : 13 ≠ 5 → (shp 13).takes ≤ (m.st.length : Int)) (_r2 : 13 = 5 → n + 1 ≤ (m.st.length : Int)) (_r3 : (m.st.length : Int) - (shp 13).takes + (shp 13).lays ≤ 64) (_r4 : 13 = 14 → m.calls.length < 16) :
    Calls Tryz.prog 137 #[.pointer (some ⟨b, 0, none⟩), .agg #[.int .i64 ((13 : Nat) : Int), .int .i64 n, .float .f64 x]] w fun r w' => Done W F0 b K m (doM m ⟨((13 : Nat) : Int), n, x⟩) r w' := by
  obtain ⟨y, s, hs⟩ := st1 (l := m.st) (by have := r1 (by omega); change (1 : Int) ≤ _ at this; omega)
  cases ht : trueB y with
  | true => exact (do_B13 h hT (fun W F0 w h => move_13y h n x hs ht) hF).mono fun r w' ⟨a1, a2⟩ => .inr ⟨a1, by rw [show (doM m ⟨(13 : Nat), n, x⟩).1 = { m with st := s } from by show ({ m with place := if trueB (m.st.getD 0 0) then m.place else n, st := m.st.drop 1 } : Mac) = _; rw [hs]; simp [ht]]; exact a2⟩
  | false => exact (do_B13 h hT (fun W F0 w h => move_13n h n x hs ht) hF).mono fun r w' ⟨a1, a2⟩ => .inr ⟨a1, by rw [show (doM m ⟨(13 : Nat), n, x⟩).1 = { m with place := n, st := s } from by show ({ m with place := if trueB (m.st.getD 0 0) then m.place else n, st := m.st.drop 1 } : Mac) = _; rw [hs]; simp [ht]]; exact a2⟩
set_option maxHeartbeats 200000 in
theorem do_k14 (h : Gm W F0 b K w m) (hT : Shaped5 w) {n : Int} {x : Nat} (_hlo : (shp 14).lo ≤ n) (_hhi : n ≤ (shp 14).hi) (_hst : ∀ x ∈ m.st, okN x) (_hcl : m.cells ≤ 256) (_hre : m.reads.length ≤ 1024) (_hou : m.out.length ≤ 1024)
    (hF : ∀ W F0 w, Gm W F0 b K w m → Shaped5 w → Calls Tryz.prog 164 #[.pointer (some ⟨b, 0, none⟩), .agg #[.int .i64 ((14 : Nat) : Int), .int .i64 n, .float .f64 x]] w fun r w' => r = .returned (.tuple #[]) ∧ Below w.heap.size w w')
    (_r1 : 14 ≠ 5 → (shp 14).takes ≤ (m.st.length : Int)) (_r2 : 14 = 5 → n + 1 ≤ (m.st.length : Int)) (_r3 : (m.st.length : Int) - (shp 14).takes + (shp 14).lays ≤ 64) (r4 : 14 = 14 → m.calls.length < 16) :
    Calls Tryz.prog 137 #[.pointer (some ⟨b, 0, none⟩), .agg #[.int .i64 ((14 : Nat) : Int), .int .i64 n, .float .f64 x]] w fun r w' => Done W F0 b K m (doM m ⟨((14 : Nat) : Int), n, x⟩) r w' := by
  exact (do_B14 h hT (fun W F0 w h => move_14 h n x (r4 rfl)) hF).mono fun r w' ⟨a1, a2⟩ => .inr ⟨a1, by rw [show (doM m ⟨(14 : Nat), n, x⟩).1 = { m with calls := m.place :: m.calls, place := n } from rfl]; exact a2⟩
set_option maxHeartbeats 200000 in
theorem do_k15 (h : Gm W F0 b K w m) (hT : Shaped5 w) {n : Int} {x : Nat} (_hlo : (shp 15).lo ≤ n) (_hhi : n ≤ (shp 15).hi) (_hst : ∀ x ∈ m.st, okN x) (_hcl : m.cells ≤ 256) (_hre : m.reads.length ≤ 1024) (_hou : m.out.length ≤ 1024)
    (hF : ∀ W F0 w, Gm W F0 b K w m → Shaped5 w → Calls Tryz.prog 164 #[.pointer (some ⟨b, 0, none⟩), .agg #[.int .i64 ((15 : Nat) : Int), .int .i64 n, .float .f64 x]] w fun r w' => r = .returned (.tuple #[]) ∧ Below w.heap.size w w')
    (_r1 : 15 ≠ 5 → (shp 15).takes ≤ (m.st.length : Int)) (_r2 : 15 = 5 → n + 1 ≤ (m.st.length : Int)) (_r3 : (m.st.length : Int) - (shp 15).takes + (shp 15).lays ≤ 64) (_r4 : 15 = 14 → m.calls.length < 16) :
    Calls Tryz.prog 137 #[.pointer (some ⟨b, 0, none⟩), .agg #[.int .i64 ((15 : Nat) : Int), .int .i64 n, .float .f64 x]] w fun r w' => Done W F0 b K m (doM m ⟨((15 : Nat) : Int), n, x⟩) r w' := by
  refine (do_ret h hT (m' := (retM m).1) (a := (retM m).2) (fun W F0 w h => ?_) hF).mono fun r w' ⟨a1, a2⟩ => .inr ⟨a1, a2⟩
  cases hc : m.calls with
  | nil => exact (ret_end h hc).mono fun r w' ⟨a1, a2⟩ => ⟨by rw [a1, retM_nil hc], by rw [retM_nil hc]; exact a2⟩
  | cons c q => exact (ret_back h hc).mono fun r w' ⟨a1, a2⟩ => ⟨by rw [a1, retM_cons hc], by rw [retM_cons hc]; exact a2⟩
set_option maxHeartbeats 200000 in
theorem do_k16 (h : Gm W F0 b K w m) (hT : Shaped5 w) {n : Int} {x : Nat} (_hlo : (shp 16).lo ≤ n) (_hhi : n ≤ (shp 16).hi) (_hst : ∀ x ∈ m.st, okN x) (hcl : m.cells ≤ 256) (hre : m.reads.length ≤ 1024) (_hou : m.out.length ≤ 1024)
    (hF : ∀ W F0 w, Gm W F0 b K w m → Shaped5 w → Calls Tryz.prog 164 #[.pointer (some ⟨b, 0, none⟩), .agg #[.int .i64 ((16 : Nat) : Int), .int .i64 n, .float .f64 x]] w fun r w' => r = .returned (.tuple #[]) ∧ Below w.heap.size w w')
    (r1 : 16 ≠ 5 → (shp 16).takes ≤ (m.st.length : Int)) (_r2 : 16 = 5 → n + 1 ≤ (m.st.length : Int)) (r3 : (m.st.length : Int) - (shp 16).takes + (shp 16).lays ≤ 64) (_r4 : 16 = 14 → m.calls.length < 16) :
    Calls Tryz.prog 137 #[.pointer (some ⟨b, 0, none⟩), .agg #[.int .i64 ((16 : Nat) : Int), .int .i64 n, .float .f64 x]] w fun r w' => Done W F0 b K m (doM m ⟨((16 : Nat) : Int), n, x⟩) r w' := by
  obtain ⟨y, s, hs⟩ := st1 (l := m.st) (by have := r1 (by omega); change (1 : Int) ≤ _ at this; omega)
  change (m.st.length : Int) - 1 + 1 ≤ 64 at r3
  have hl : s.length < 64 := by rw [hs] at r3; simp at r3; omega
  cases ha : addrB m with
  | false => exact (do_read_no h hT (e0 := 50) (fun W F0 w h => read_no h (by rw [hs]; simp) ha) hF).mono fun r w' ⟨a1, a2⟩ => .inl ⟨50, by show readM m = _; unfold readM; rw [ha]; rfl, a1, a2⟩
  | true =>
    cases hh : hasC m.buf (addrV m) with
    | false => exact (do_read h hT (fun W F0 w h => read_wait h hs hcl ha hh) hF).mono fun r w' ⟨a1, a2⟩ => .inr ⟨a1, a2⟩
    | true => exact (do_read h hT (fun W F0 w h => read_own h hs hl hre hcl ha hh) hF).mono fun r w' ⟨a1, a2⟩ => .inr ⟨a1, a2⟩
set_option maxHeartbeats 200000 in
theorem do_k17 (h : Gm W F0 b K w m) (hT : Shaped5 w) {n : Int} {x : Nat} (_hlo : (shp 17).lo ≤ n) (_hhi : n ≤ (shp 17).hi) (hst : ∀ x ∈ m.st, okN x) (hcl : m.cells ≤ 256) (_hre : m.reads.length ≤ 1024) (_hou : m.out.length ≤ 1024)
    (hF : ∀ W F0 w, Gm W F0 b K w m → Shaped5 w → Calls Tryz.prog 164 #[.pointer (some ⟨b, 0, none⟩), .agg #[.int .i64 ((17 : Nat) : Int), .int .i64 n, .float .f64 x]] w fun r w' => r = .returned (.tuple #[]) ∧ Below w.heap.size w w')
    (r1 : 17 ≠ 5 → (shp 17).takes ≤ (m.st.length : Int)) (_r2 : 17 = 5 → n + 1 ≤ (m.st.length : Int)) (_r3 : (m.st.length : Int) - (shp 17).takes + (shp 17).lays ≤ 64) (_r4 : 17 = 14 → m.calls.length < 16) :
    Calls Tryz.prog 137 #[.pointer (some ⟨b, 0, none⟩), .agg #[.int .i64 ((17 : Nat) : Int), .int .i64 n, .float .f64 x]] w fun r w' => Done W F0 b K m (doM m ⟨((17 : Nat) : Int), n, x⟩) r w' := by
  obtain ⟨y, z, s, hs⟩ := st2 (l := m.st) (by have := r1 (by omega); change (2 : Int) ≤ _ at this; omega)
  have hz := hst z (by rw [hs]; simp)
  cases hu : m.upd with
  | false => exact (do_write_no h hT (e0 := 81) (fun W F0 w h => write_ro h hu) hF).mono fun r w' ⟨a1, a2⟩ => .inl ⟨81, by show writeM m = _; unfold writeM; rw [hu]; rfl, a1, a2⟩
  | true =>
    cases ha : addrB m with
    | false => exact (do_write_no h hT (e0 := 50) (fun W F0 w h => write_no h (by rw [hs]; simp) hu ha) hF).mono fun r w' ⟨a1, a2⟩ => .inl ⟨50, by show writeM m = _; unfold writeM; rw [hu, ha]; rfl, a1, a2⟩
    | true =>
      cases hp : mayP m.wmax m.buf (addrV m) with
      | false => exact (do_write_no h hT (e0 := 70) (fun W F0 w h => write_full h hs hz hcl hu ha hp) hF).mono fun r w' ⟨a1, a2⟩ => .inl ⟨70, by show writeM m = _; unfold writeM; rw [hu, ha, hp]; rfl, a1, a2⟩
      | true => exact (do_write h hT (fun W F0 w h => write_ok h hs hz hcl hu ha hp) hF).mono fun r w' ⟨a1, a2⟩ => .inr ⟨a1, a2⟩
set_option maxHeartbeats 200000 in
theorem do_k18 (h : Gm W F0 b K w m) (hT : Shaped5 w) {n : Int} {x : Nat} (_hlo : (shp 18).lo ≤ n) (_hhi : n ≤ (shp 18).hi) (_hst : ∀ x ∈ m.st, okN x) (_hcl : m.cells ≤ 256) (_hre : m.reads.length ≤ 1024) (hou : m.out.length ≤ 1024)
    (hF : ∀ W F0 w, Gm W F0 b K w m → Shaped5 w → Calls Tryz.prog 164 #[.pointer (some ⟨b, 0, none⟩), .agg #[.int .i64 ((18 : Nat) : Int), .int .i64 n, .float .f64 x]] w fun r w' => r = .returned (.tuple #[]) ∧ Below w.heap.size w w')
    (r1 : 18 ≠ 5 → (shp 18).takes ≤ (m.st.length : Int)) (_r2 : 18 = 5 → n + 1 ≤ (m.st.length : Int)) (_r3 : (m.st.length : Int) - (shp 18).takes + (shp 18).lays ≤ 64) (_r4 : 18 = 14 → m.calls.length < 16) :
    Calls Tryz.prog 137 #[.pointer (some ⟨b, 0, none⟩), .agg #[.int .i64 ((18 : Nat) : Int), .int .i64 n, .float .f64 x]] w fun r w' => Done W F0 b K m (doM m ⟨((18 : Nat) : Int), n, x⟩) r w' := by
  obtain ⟨y, s, hs⟩ := st1 (l := m.st) (by have := r1 (by omega); change (1 : Int) ≤ _ at this; omega)
  exact (do_A h hT (k := 18) (by omega) (by omega) (by omega) (by omega) (by omega) (by omega) (by omega) (by omega) (by omega) (fun W F0 w h => reckon_18 h n x hs hou) hF).mono fun r w' ⟨a1, a2⟩ => .inr ⟨a1, by rw [show (doM m ⟨(18 : Nat), n, x⟩).1 = { m with out := m.out ++ [y], st := s } from by show ({ m with out := m.out ++ [m.st.getD 0 0], st := m.st.drop 1 } : Mac) = _; rw [hs]; rfl]; exact a2⟩
set_option maxHeartbeats 200000 in
theorem do_k19 (h : Gm W F0 b K w m) (hT : Shaped5 w) {n : Int} {x : Nat} (_hlo : (shp 19).lo ≤ n) (_hhi : n ≤ (shp 19).hi) (_hst : ∀ x ∈ m.st, okN x) (_hcl : m.cells ≤ 256) (_hre : m.reads.length ≤ 1024) (_hou : m.out.length ≤ 1024)
    (hF : ∀ W F0 w, Gm W F0 b K w m → Shaped5 w → Calls Tryz.prog 164 #[.pointer (some ⟨b, 0, none⟩), .agg #[.int .i64 ((19 : Nat) : Int), .int .i64 n, .float .f64 x]] w fun r w' => r = .returned (.tuple #[]) ∧ Below w.heap.size w w')
    (_r1 : 19 ≠ 5 → (shp 19).takes ≤ (m.st.length : Int)) (_r2 : 19 = 5 → n + 1 ≤ (m.st.length : Int)) (_r3 : (m.st.length : Int) - (shp 19).takes + (shp 19).lays ≤ 64) (_r4 : 19 = 14 → m.calls.length < 16) :
    Calls Tryz.prog 137 #[.pointer (some ⟨b, 0, none⟩), .agg #[.int .i64 ((19 : Nat) : Int), .int .i64 n, .float .f64 x]] w fun r w' => Done W F0 b K m (doM m ⟨((19 : Nat) : Int), n, x⟩) r w' := by
  exact (do_19 h hT hF).mono fun r w' ⟨a1, a2⟩ => .inr ⟨a1, a2⟩
set_option maxHeartbeats 200000 in
theorem do_k20 (h : Gm W F0 b K w m) (hT : Shaped5 w) {n : Int} {x : Nat} (_hlo : (shp 20).lo ≤ n) (_hhi : n ≤ (shp 20).hi) (_hst : ∀ x ∈ m.st, okN x) (_hcl : m.cells ≤ 256) (_hre : m.reads.length ≤ 1024) (_hou : m.out.length ≤ 1024)
    (hF : ∀ W F0 w, Gm W F0 b K w m → Shaped5 w → Calls Tryz.prog 164 #[.pointer (some ⟨b, 0, none⟩), .agg #[.int .i64 ((20 : Nat) : Int), .int .i64 n, .float .f64 x]] w fun r w' => r = .returned (.tuple #[]) ∧ Below w.heap.size w w')
    (_r1 : 20 ≠ 5 → (shp 20).takes ≤ (m.st.length : Int)) (_r2 : 20 = 5 → n + 1 ≤ (m.st.length : Int)) (_r3 : (m.st.length : Int) - (shp 20).takes + (shp 20).lays ≤ 64) (_r4 : 20 = 14 → m.calls.length < 16) :
    Calls Tryz.prog 137 #[.pointer (some ⟨b, 0, none⟩), .agg #[.int .i64 ((20 : Nat) : Int), .int .i64 n, .float .f64 x]] w fun r w' => Done W F0 b K m (doM m ⟨((20 : Nat) : Int), n, x⟩) r w' := by
  exact (do_20 h hT hF).mono fun r w' ⟨a1, a2⟩ => .inr ⟨a1, a2⟩
set_option maxHeartbeats 400000 in
set_option maxRecDepth 100000 in
theorem do_any (h : Gm W F0 b K w m) (hT : Shaped5 w) {k many : Nat} {n : Int} {x : Nat} (hi : mayB ⟨k, n, x⟩ many = true) (hst : ∀ x ∈ m.st, okN x) (hcl : m.cells ≤ 256) (hre : m.reads.length ≤ 1024) (hou : m.out.length ≤ 1024) : Calls Tryz.prog 137 #[.pointer (some ⟨b, 0, none⟩), .agg #[.int .i64 (k : Int), .int .i64 n, .float .f64 x]] w fun r w' => Done W F0 b K m (doF m ⟨k, n, x⟩) r w' := by
  obtain ⟨hk, hlo, hhi⟩ := fits_parts hi
  clear hi
  have h5 : k = 5 → 0 ≤ n ∧ n ≤ 63 := fun e => by subst e; exact ⟨hlo, hhi⟩
  cases hro : roomB m ⟨k, n, x⟩ with
  | false =>
    have e : doF m ⟨k, n, x⟩ = failM m 82 := by unfold doF; rw [hro]; rfl
    rw [e]
    exact (do_unfit h hT (fun W F0 w h hT => (fit_any h hT hk h5).mono fun r w' ⟨a1, a2⟩ => ⟨by rw [a1, hro]; rfl, a2⟩)).mono fun r w' ⟨a1, a2⟩ => .inl ⟨82, rfl, a1, a2⟩
  | true =>
    have hF : ∀ W F0 w, Gm W F0 b K w m → Shaped5 w → Calls Tryz.prog 164 #[.pointer (some ⟨b, 0, none⟩), .agg #[.int .i64 (k : Int), .int .i64 n, .float .f64 x]] w fun r w' => r = .returned (.tuple #[]) ∧ Below w.heap.size w w' := fun W F0 w h hT => (fit_any h hT hk h5).mono fun r w' ⟨a1, a2⟩ => ⟨by rw [a1, hro]; rfl, a2⟩
    have e0 : doF m ⟨k, n, x⟩ = doM m ⟨k, n, x⟩ := by unfold doF; rw [hro]; rfl
    obtain ⟨r1, r2, r3, r4⟩ := room_parts hro
    rw [e0]
    clear e0 hro h5
    have hkk : k = 1 ∨ k = 2 ∨ k = 3 ∨ k = 4 ∨ k = 5 ∨ k = 6 ∨ k = 7 ∨ k = 8 ∨ k = 9 ∨ k = 10 ∨ k = 11 ∨ k = 12 ∨ k = 13 ∨ k = 14 ∨ k = 15 ∨ k = 16 ∨ k = 17 ∨ k = 18 ∨ k = 19 ∨ k = 20 := by omega
    rcases hkk with rfl | rfl | rfl | rfl | rfl | rfl | rfl | rfl | rfl | rfl | rfl | rfl | rfl | rfl | rfl | rfl | rfl | rfl | rfl | rfl
    · exact do_k1 h hT hlo hhi hst hcl hre hou hF r1 r2 r3 r4
    · exact do_k2 h hT hlo hhi hst hcl hre hou hF r1 r2 r3 r4
    · exact do_k3 h hT hlo hhi hst hcl hre hou hF r1 r2 r3 r4
    · exact do_k4 h hT hlo hhi hst hcl hre hou hF r1 r2 r3 r4
    · exact do_k5 h hT hlo hhi hst hcl hre hou hF r1 r2 r3 r4
    · exact do_k6 h hT hlo hhi hst hcl hre hou hF r1 r2 r3 r4
    · exact do_k7 h hT hlo hhi hst hcl hre hou hF r1 r2 r3 r4
    · exact do_k8 h hT hlo hhi hst hcl hre hou hF r1 r2 r3 r4
    · exact do_k9 h hT hlo hhi hst hcl hre hou hF r1 r2 r3 r4
    · exact do_k10 h hT hlo hhi hst hcl hre hou hF r1 r2 r3 r4
    · exact do_k11 h hT hlo hhi hst hcl hre hou hF r1 r2 r3 r4
    · exact do_k12 h hT hlo hhi hst hcl hre hou hF r1 r2 r3 r4
    · exact do_k13 h hT hlo hhi hst hcl hre hou hF r1 r2 r3 r4
    · exact do_k14 h hT hlo hhi hst hcl hre hou hF r1 r2 r3 r4
    · exact do_k15 h hT hlo hhi hst hcl hre hou hF r1 r2 r3 r4
    · exact do_k16 h hT hlo hhi hst hcl hre hou hF r1 r2 r3 r4
    · exact do_k17 h hT hlo hhi hst hcl hre hou hF r1 r2 r3 r4
    · exact do_k18 h hT hlo hhi hst hcl hre hou hF r1 r2 r3 r4
    · exact do_k19 h hT hlo hhi hst hcl hre hou hF r1 r2 r3 r4
    · exact do_k20 h hT hlo hhi hst hcl hre hou hF r1 r2 r3 r4
end
end Go.Proofs.YtninicfnhoediaaGreatDoor
namespace Go.Proofs.YtninicfnhoediaaGreatDoor
open Go.ChangeShapes Go.WideShapes Go.ChangeAt Go.RowKit Num
attribute [local go_sem] run_store_float
section
variable {W w : World} {b : Nat} {F0 K : List Nat} {m : Mac}
theorem Gm.two (h : Gm W F0 b K w m) (o1 o2 : Obj) : ∃ F, Gm ((w.alloc o1).alloc o2) F b K ((w.alloc o1).alloc o2) m ∧ ∀ w' m', Gm ((w.alloc o1).alloc o2) F b K w' m' → w'.heap[w.heap.size]? = some o1 ∧ w'.heap[w.heap.size + 1]? = some o2 ∧ ∀ w'', Turn [w.heap.size + 1] [w.heap.size + 1] w' w'' → Gm W F0 b K w'' m' := by
  obtain ⟨F1, hM1, hT1⟩ := h.mc
  have hb1 : Blw w F1 := hM1.blw
  have hM3 := hM1.on ((below_alloc w o1).trans ((below_alloc _ o2).mono (by simp)))
  refine ⟨F1, hM3.gm, fun w' m' hg => ?_⟩
  have a1 : w'.heap[w.heap.size]? = some o1 := (hg.far (by simp; omega) (fun q => absurd (hb1 _ q) (Nat.lt_irrefl _))).trans ((heap_alloc_old _ _ (by simp)).trans (heap_alloc_new w _))
  have a2 : w'.heap[w.heap.size + 1]? = some o2 := (hg.far (by simp) (fun q => absurd (hb1 _ q) (by omega))).trans (heap_new (by simp))
  refine ⟨a1, a2, fun w'' t => ?_⟩
  obtain ⟨p, q1, q2, q3⟩ := hg
  have n1 : w.heap.size + 1 ∉ p.F b := fun q => (q2.own _ q).elim (fun z => absurd (hb1 _ z) (by omega)) (fun z => by simp at z; omega)
  have n2 : w.heap.size + 1 ∉ fpR p.pk := fun q => by rw [← q3] at q; exact absurd (hM1.blwK _ q) (by omega)
  have s1 : Sep (p.F b) [w.heap.size + 1] := fun k hk q => n1 (by simp at q; rw [← q]; exact hk)
  have s2 : Sep (fpR p.pk) [w.heap.size + 1] := fun k hk q => n2 (by simp at q; rw [← q]; exact hk)
  have hs : w.heap.size ≤ w'.heap.size := Nat.le_trans (by simp; omega) q2.size
  refine ⟨p, q1.keep (t.kept s1 q1.blw) (t.kept s2 q1.ltk), hT1.trans ⟨t.os.trans q2.os, t.tape.trans q2.tape, t.output.trans q2.output, Nat.le_trans hs t.size, fun k hk hf => ?_, fun k hk => ?_⟩, q3⟩
  · exact (t.block k (Nat.lt_of_lt_of_le hk hs) (by simp; omega)).trans ((q2.block k (by simp; omega) hf).trans ((heap_alloc_old _ _ (by simp; omega)).trans (heap_alloc_old w _ hk)))
  · exact (q2.own k hk).imp id (fun z => by simp at z; omega)
abbrev ptrO (b : Nat) : Obj := .cells #[.pointer (some ⟨b, 0, none⟩)] 100
theorem ptrO_cell {w : World} {g b : Nat} (h : w.heap[g]? = some (ptrO b)) : w.cell? ⟨g, 0, none⟩ = some (.pointer (some ⟨b, 0, none⟩)) ∧ g < w.heap.size := ⟨by rw [cell_of_row w g 0 _ _ _ h]; rfl, lt_of_block h⟩
set_option maxHeartbeats 1000000 in
set_option maxRecDepth 100000 in
theorem catch_gave {B : World} {F : List Nat} {g1 g2 : Nat} (e : Int) (h : Gm B F b K w m) (hX : ∀ w' m', Gm B F b K w' m' → w'.heap[g1]? = some (ptrO b) ∧ w'.heap[g2]? = some (askO ask0) ∧ ∀ w'', Turn [g2] [g2] w' w'' → Gm W F0 b K w'' m') :
    CallsD Tryz.prog 135 #[.pointer (some ⟨g1, 0, none⟩), .pointer (some ⟨g2, 0, none⟩)] (.panicking [{ v := .iface 43 (.int .i64 e), recovered := false }]) w fun r u' w' =>
      r = .returned (.tuple #[]) ∧ u' = .panicking [{ v := .iface 43 (.int .i64 e), recovered := true }] ∧ w'.heap[g2]? = some (askO askEnd) ∧ Gm W F0 b K w' (failM m e).1 := by
  refine callsD_of_wpS Tryz.func135 rfl fun c₀ cs hu => ?_
  obtain ⟨r1, r2, r3⟩ := hX _ _ h
  obtain ⟨q0, q1⟩ := ptrO_cell r1
  have HX := Lib.hid hX
  have HG := Lib.hid h
  clear r1 r2 r3 h hX
  apply wpS_seq
  apply wpS_region
  simp [wpOpsS, go_sem, recoverD, hu, Tryz.ntmps135, Exit.thenS]
  refine wpS_of_wp ?_
  have hta : ∀ u : World, (Instr.typeAssert (.iface 43 (.int .i64 e)) 20 43 false).run Tryz.prog u = .ok (.int .i64 e) u := fun u => by kernel_rfl
  generalize hF : (Value.iface 43 (.int .i64 e)) = Fv at hta ⊢
  rw [show (#[Value.pointer (some ⟨g1, 0, none⟩), Value.pointer (some ⟨g2, 0, none⟩)] ++ ((Array.replicate 9 undef).setIfInBounds 1 Fv).setIfInBounds 0 Fv) = #[Value.pointer (some ⟨g1, 0, none⟩), Value.pointer (some ⟨g2, 0, none⟩), Fv, Fv, undef, undef, undef, undef, undef, undef, undef] from rfl]
  subst hF
  go_wp2
  refine region_tail 4 (by kernel_rfl) ?_
  simp only [List.take_succ_cons, List.take_zero, List.drop_succ_cons, List.drop_zero]
  repeat still_step
  refine wpStill_nil ?_
  go_wp2_with (go_at_call 136; refine (ends_any (HG.out.drewN 1) 3 0 e).mono ?_; rintro r u1 ⟨rfl, q⟩; obtain ⟨r1, r2, r3⟩ := HX.out _ _ q; obtain ⟨⟨d0, d1, d2, d3, d4⟩, d5, d6, d7, d8⟩ := askO_cells r2; have G1 := Lib.hid (And.intro r2 r3); clear q r1 r2 r3; unfold askV)
  refine ⟨rfl, _, rfl, _, results_none rfl _ _ _, rfl, rfl, ?_, ?_⟩
  · exact askO_set (k' := askEnd) G1.out.1
  · exact G1.out.2 _ (turn4 _ _ (.int .i64 4) (.int .i64 0) (.float .f64 0) (.bool false))
theorem catch_idle {g1 g2 : Nat} :
    CallsD Tryz.prog 135 #[.pointer (some ⟨g1, 0, none⟩), .pointer (some ⟨g2, 0, none⟩)] .returning w fun r u' w' => r = .returned (.tuple #[]) ∧ u' = .returning ∧ w' = w := by
  refine callsD_of_wpS Tryz.func135 rfl fun c₀ cs hu => ?_
  apply wpS_seq
  apply wpS_region
  simp [wpOpsS, go_sem, recoverD, hu, Tryz.ntmps135, Exit.thenS]
  refine wpS_of_wp ?_
  rw [show (#[Value.pointer (some ⟨g1, 0, none⟩), Value.pointer (some ⟨g2, 0, none⟩)] ++ ((Array.replicate 9 undef).setIfInBounds 1 .nilIface).setIfInBounds 0 .nilIface) = #[Value.pointer (some ⟨g1, 0, none⟩), Value.pointer (some ⟨g2, 0, none⟩), .nilIface, .nilIface, undef, undef, undef, undef, undef, undef, undef] from rfl]
  go_wp2
  cases c₀
  simp_all [bodyPostS, results, Tryz.results135]
end
end Go.Proofs.YtninicfnhoediaaGreatDoor
namespace Go.Proofs.YtninicfnhoediaaGreatDoor
open Go.ChangeShapes Go.WideShapes Go.ChangeAt Go.RowKit Num
attribute [local go_sem] run_store_float
theorem ask_left {fn : Func} {p : Tmp} (h : fn.results = #[.cell p 112]) {R : Ending → World → Prop} {tmps : Array Value} {w : World} (g : Nat) (k : Ask) (hp : tmps.getD p undef = .pointer (some ⟨g, 0, none⟩)) (hg : w.heap[g]? = some (askO k)) (hR : R (.returned (askV k)) w) : Leaves Tryz.prog fn tmps R [] .returning w :=
  ⟨_, results_cell_row h _ _ g _ _ _ _ hp hg Tryz.underlying112 rfl (by kernel_rfl), hR⟩
section
variable {W w : World} {b : Nat} {F0 K : List Nat} {m : Mac}
theorem Gm.shaped (h : Gm W F0 b K w m) (hT : TabAt W F0) : Shaped5 w := by
  obtain ⟨p, _, h2, _⟩ := h
  exact (hT.turn h2).1
theorem how_at (h : Gm W F0 b K w m) : w.cell? ⟨b, 29, none⟩ = some (.int .i64 m.how) := by
  obtain ⟨p, hm, _, _⟩ := h
  exact (hm.cell 29).trans rfl
set_option maxHeartbeats 1000000 in
set_option maxRecDepth 100000 in
theorem step_waits (h : Gm W F0 b K w m) (hw : 0 ≤ m.wait) : Calls Tryz.prog 104 #[.pointer (some ⟨b, 0, none⟩)] w fun e w' => e = .returned (askV (askRead m.wait)) ∧ Gm W F0 b K w' m := by
  obtain ⟨F, h1, hX⟩ := h.two (ptrO b) (askO ask0)
  have hb := h.ltB
  have h27 := (wait_at h).1
  rw [decide_eq_true hw] at h27
  have HW := Lib.hid (wants_any h1 hw)
  have HX := Lib.hid hX
  have HG := Lib.hid h1
  clear h h1 hX hw
  go_enter_defers Tryz.func104, Tryz.ntmps104
  go_wp2_with (go_at_call 134; refine HW.out.mono ?_; rintro e u0 ⟨rfl, q⟩; obtain ⟨r1, r2, r3⟩ := HX.out _ _ (HG.out.on q); obtain ⟨⟨d0, d1, d2, d3, d4⟩, d5, d6, d7, d8⟩ := askO_cells r2; have G1 := Lib.hid (And.intro r2 r3); clear q r1 r2 r3; unfold askV askRead)
  simp only [bodyPostD]
  exact ask_left rfl (w.heap.size + 1) (askRead m.wait) rfl (askO_set (k' := askRead m.wait) G1.out.1) ⟨rfl, G1.out.2 _ (turn4 _ _ (.int .i64 1) (.int .i64 m.wait) (.float .f64 0) (.bool false))⟩
set_option maxHeartbeats 1000000 in
set_option maxRecDepth 100000 in
theorem step_ended (h : Gm W F0 b K w m) (hw : ¬ 0 ≤ m.wait) (h0 : ¬ m.how = 0) : Calls Tryz.prog 104 #[.pointer (some ⟨b, 0, none⟩)] w fun e w' => e = .returned (askV askEnd) ∧ Gm W F0 b K w' m := by
  obtain ⟨F, h1, hX⟩ := h.two (ptrO b) (askO ask0)
  have hb := h.ltB
  have h27 := (wait_at h).1
  rw [decide_eq_false hw] at h27
  have h29 := how_at h
  have HG := Lib.hid ((h.alloc (ptrO b)).alloc (askO askEnd))
  clear h h1 hX hw
  go_enter_defers Tryz.func104, Tryz.ntmps104
  go_wp2
  simp only [bodyPostD]
  exact ask_left rfl (w.heap.size + 1) askEnd rfl (heap_new (by simp)) ⟨rfl, HG.out⟩
set_option maxHeartbeats 1000000 in
set_option maxRecDepth 100000 in
theorem step_gave1 (h : Gm W F0 b K w m) (hw : ¬ 0 ≤ m.wait) (h0 : m.how = 0) {e0 : Int} (hB : ∀ W F0 w, Gm W F0 b K w m → Calls Tryz.prog 138 #[.pointer (some ⟨b, 0, none⟩)] w fun r w' => r = gaveM e0 ∧ Gm W F0 b K w' m) : Calls Tryz.prog 104 #[.pointer (some ⟨b, 0, none⟩)] w fun e w' => e = .returned (askV askEnd) ∧ Gm W F0 b K w' (failM m e0).1 := by
  obtain ⟨F, h1, hX⟩ := h.two (ptrO b) (askO ask0)
  have hb := h.ltB
  have h27 := (wait_at h).1
  rw [decide_eq_false hw] at h27
  have h29 := how_at h
  rw [h0] at h29
  have HX := Lib.hid hX
  have HG : Hid (Gm ((w.alloc (ptrO b)).alloc (askO ask0)) F b K ((w.alloc (ptrO b)).alloc (askO ask0)).drew m) := h1.same (Same.drew _)
  have HBG := Lib.hid hB
  clear h h1 hX hw h0 hB
  have hmf : ∀ (fn : Fn) (first cap : Array Value) (w : World), (Instr.makeFunc fn first cap).run Tryz.prog w = .ok (.func fn first cap) w := fun _ _ _ _ => rfl
  go_enter_defers Tryz.func104, Tryz.ntmps104
  go_wp2
  refine wp_region_any (by kernel_rfl) ?_
  change wpAny _ _ _ _ _ _ _ (World.drew _)
  refine wpAny_ready (rs := [0, 1]) (by kernel_rfl) (by simp) ?_
  refine AllReady.cons rfl (fun K hK => ?_) (AllReady.cons rfl (fun K hK => ?_) (AllReady.nil))
  · go_simp
    refine hK _ _ ?_
    clear hK K
    refine wpAny_ready (rs := [1]) (by kernel_rfl) (by simp) ?_
    refine AllReady.cons rfl (fun K hK => ?_) (AllReady.nil)
    go_simp
    refine hK _ _ ?_
    clear hK K
    refine wpAny_ready (rs := [2]) (by kernel_rfl) (by simp) ?_
    refine AllReady.cons rfl (fun K hK => ?_) (AllReady.nil)
    go_simp
    refine (HBG.out _ _ _ HG.out).mono ?_
    rintro e u1 ⟨rfl, q⟩
    refine leaves_cons (f := 135) (args := #[.pointer (some ⟨w.heap.size, 0, none⟩), .pointer (some ⟨w.heap.size + 1, 0, none⟩)]) (by simp) (by simp [go_sem]) ?_
    refine (catch_gave (W := W) (F0 := F0) e0 q HX.out).mono ?_
    rintro e u' w5 ⟨rfl, rfl, c1, c2⟩
    exact ask_left rfl (w.heap.size + 1) askEnd rfl c1 ⟨rfl, c2⟩
  · go_simp
    refine hK _ _ ?_
    clear hK K
    refine wpAny_ready (rs := [0, 2]) (by kernel_rfl) (by simp) ?_
    refine AllReady.cons rfl (fun K hK => ?_) (AllReady.cons rfl (fun K hK => ?_) (AllReady.nil))
    · go_simp
      refine hK _ _ ?_
      clear hK K
      refine wpAny_ready (rs := [2]) (by kernel_rfl) (by simp) ?_
      refine AllReady.cons rfl (fun K hK => ?_) (AllReady.nil)
      go_simp
      refine (HBG.out _ _ _ HG.out).mono ?_
      rintro e u1 ⟨rfl, q⟩
      refine leaves_cons (f := 135) (args := #[.pointer (some ⟨w.heap.size, 0, none⟩), .pointer (some ⟨w.heap.size + 1, 0, none⟩)]) (by simp) (by simp [go_sem]) ?_
      refine (catch_gave (W := W) (F0 := F0) e0 q HX.out).mono ?_
      rintro e u' w5 ⟨rfl, rfl, c1, c2⟩
      exact ask_left rfl (w.heap.size + 1) askEnd rfl c1 ⟨rfl, c2⟩
    · go_simp
      refine (HBG.out _ _ _ HG.out).mono ?_
      rintro e u1 ⟨rfl, q⟩
      refine leaves_cons (f := 135) (args := #[.pointer (some ⟨w.heap.size, 0, none⟩), .pointer (some ⟨w.heap.size + 1, 0, none⟩)]) (by simp) (by simp [go_sem]) ?_
      refine (catch_gave (W := W) (F0 := F0) e0 q HX.out).mono ?_
      rintro e u' w5 ⟨rfl, rfl, c1, c2⟩
      exact ask_left rfl (w.heap.size + 1) askEnd rfl c1 ⟨rfl, c2⟩
set_option maxHeartbeats 1000000 in
set_option maxRecDepth 100000 in
theorem step_do (h : Gm W F0 b K w m) (hw : ¬ 0 ≤ m.wait) (h0 : m.how = 0) {o n : Int} {x : Nat} {m1 : Mac} {res : Mac × Ask} (hT : TabAt W F0) (hB : ∀ W F0 w, Gm W F0 b K w m → Calls Tryz.prog 138 #[.pointer (some ⟨b, 0, none⟩)] w fun r w' => r = .returned (.agg #[.int .i64 o, .int .i64 n, .float .f64 x]) ∧ Gm W F0 b K w' m1) (hD : ∀ W F0 w, Gm W F0 b K w m1 → Shaped5 w → Calls Tryz.prog 137 #[.pointer (some ⟨b, 0, none⟩), .agg #[.int .i64 o, .int .i64 n, .float .f64 x]] w fun r w' => Done W F0 b K m1 res r w') : Calls Tryz.prog 104 #[.pointer (some ⟨b, 0, none⟩)] w fun e w' => e = .returned (askV res.2) ∧ Gm W F0 b K w' res.1 := by
  obtain ⟨F, h1, hX⟩ := h.two (ptrO b) (askO ask0)
  have hb := h.ltB
  have h27 := (wait_at h).1
  rw [decide_eq_false hw] at h27
  have h29 := how_at h
  rw [h0] at h29
  have HX := Lib.hid hX
  have HG : Hid (Gm ((w.alloc (ptrO b)).alloc (askO ask0)) F b K ((w.alloc (ptrO b)).alloc (askO ask0)).drew m) := h1.same (Same.drew _)
  have HBG := Lib.hid hB
  have HDO := Lib.hid hD
  have HT := Lib.hid hT
  clear h h1 hX hw h0 hB hD hT
  have hmf : ∀ (fn : Fn) (first cap : Array Value) (w : World), (Instr.makeFunc fn first cap).run Tryz.prog w = .ok (.func fn first cap) w := fun _ _ _ _ => rfl
  go_enter_defers Tryz.func104, Tryz.ntmps104
  go_wp2
  refine wp_region_any (by kernel_rfl) ?_
  change wpAny _ _ _ _ _ _ _ (World.drew _)
  refine wpAny_ready (rs := [0, 1]) (by kernel_rfl) (by simp) ?_
  refine AllReady.cons rfl (fun K hK => ?_) (AllReady.cons rfl (fun K hK => ?_) (AllReady.nil))
  · go_simp
    refine hK _ _ ?_
    clear hK K
    refine wpAny_ready (rs := [1]) (by kernel_rfl) (by simp) ?_
    refine AllReady.cons rfl (fun K hK => ?_) (AllReady.nil)
    go_simp
    refine hK _ _ ?_
    clear hK K
    refine wpAny_ready (rs := [2]) (by kernel_rfl) (by simp) ?_
    refine AllReady.cons rfl (fun K hK => ?_) (AllReady.nil)
    go_simp
    refine (HBG.out _ _ _ HG.out).mono ?_
    rintro e u1 ⟨rfl, q⟩
    obtain ⟨r1, r2, r3⟩ := HX.out _ _ q
    obtain ⟨k0, k1⟩ := ptrO_cell r1
    have HSH := Lib.hid ((r3 _ (Turn.refl _ _)).shaped HT.out)
    clear r1 r2 r3
    have G1 := Lib.hid q
    clear q
    refine hK _ _ ?_
    clear hK K
    refine wpAny_ready (rs := [3]) (by kernel_rfl) (by simp) ?_
    refine AllReady.cons rfl (fun K hK => ?_) (AllReady.nil)
    go_simp
    refine (HDO.out _ _ _ G1.out HSH.out).mono ?_
    rintro e u2 (⟨e0, he0, rfl, q⟩ | ⟨rfl, q⟩)
    · subst he0
      refine leaves_cons (f := 135) (args := #[.pointer (some ⟨w.heap.size, 0, none⟩), .pointer (some ⟨w.heap.size + 1, 0, none⟩)]) (by simp) (by simp [go_sem]) ?_
      refine (catch_gave (W := W) (F0 := F0) e0 q HX.out).mono ?_
      rintro e u' w5 ⟨rfl, rfl, c1, c2⟩
      exact ask_left rfl (w.heap.size + 1) askEnd rfl c1 ⟨rfl, c2⟩
    · obtain ⟨r1, r2, r3⟩ := HX.out _ _ q
      obtain ⟨⟨d0, d1, d2, d3, d4⟩, d5, d6, d7, d8⟩ := askO_cells r2
      have G2 := Lib.hid (And.intro r2 r3)
      clear q r1 r2 r3
      unfold askV
      refine hK _ _ ?_
      clear hK K
      refine wpAny_ready (rs := [4]) (by kernel_rfl) (by simp) ?_
      refine AllReady.cons rfl (fun K hK => ?_) (AllReady.nil)
      go_simp
      refine hK _ _ ?_
      clear hK K
      refine wpAny_done (by kernel_rfl) ?_ _
      go_wp2
      refine leaves_cons (f := 135) (args := #[.pointer (some ⟨w.heap.size, 0, none⟩), .pointer (some ⟨w.heap.size + 1, 0, none⟩)]) (by simp) (by simp [go_sem]) ?_
      refine catch_idle.mono ?_
      rintro e u' w5 ⟨rfl, rfl, rfl⟩
      exact ask_left rfl (w.heap.size + 1) res.2 rfl (askO_set (k' := res.2) G2.out.1) ⟨rfl, G2.out.2 _ (turn4 _ _ (.int .i64 res.2.kind) (.int .i64 res.2.cell) (.float .f64 res.2.x) (.bool res.2.first))⟩
  · go_simp
    refine hK _ _ ?_
    clear hK K
    refine wpAny_ready (rs := [0, 2]) (by kernel_rfl) (by simp) ?_
    refine AllReady.cons rfl (fun K hK => ?_) (AllReady.cons rfl (fun K hK => ?_) (AllReady.nil))
    · go_simp
      refine hK _ _ ?_
      clear hK K
      refine wpAny_ready (rs := [2]) (by kernel_rfl) (by simp) ?_
      refine AllReady.cons rfl (fun K hK => ?_) (AllReady.nil)
      go_simp
      refine (HBG.out _ _ _ HG.out).mono ?_
      rintro e u1 ⟨rfl, q⟩
      obtain ⟨r1, r2, r3⟩ := HX.out _ _ q
      obtain ⟨k0, k1⟩ := ptrO_cell r1
      have HSH := Lib.hid ((r3 _ (Turn.refl _ _)).shaped HT.out)
      clear r1 r2 r3
      have G1 := Lib.hid q
      clear q
      refine hK _ _ ?_
      clear hK K
      refine wpAny_ready (rs := [3]) (by kernel_rfl) (by simp) ?_
      refine AllReady.cons rfl (fun K hK => ?_) (AllReady.nil)
      go_simp
      refine (HDO.out _ _ _ G1.out HSH.out).mono ?_
      rintro e u2 (⟨e0, he0, rfl, q⟩ | ⟨rfl, q⟩)
      · subst he0
        refine leaves_cons (f := 135) (args := #[.pointer (some ⟨w.heap.size, 0, none⟩), .pointer (some ⟨w.heap.size + 1, 0, none⟩)]) (by simp) (by simp [go_sem]) ?_
        refine (catch_gave (W := W) (F0 := F0) e0 q HX.out).mono ?_
        rintro e u' w5 ⟨rfl, rfl, c1, c2⟩
        exact ask_left rfl (w.heap.size + 1) askEnd rfl c1 ⟨rfl, c2⟩
      · obtain ⟨r1, r2, r3⟩ := HX.out _ _ q
        obtain ⟨⟨d0, d1, d2, d3, d4⟩, d5, d6, d7, d8⟩ := askO_cells r2
        have G2 := Lib.hid (And.intro r2 r3)
        clear q r1 r2 r3
        unfold askV
        refine hK _ _ ?_
        clear hK K
        refine wpAny_ready (rs := [4]) (by kernel_rfl) (by simp) ?_
        refine AllReady.cons rfl (fun K hK => ?_) (AllReady.nil)
        go_simp
        refine hK _ _ ?_
        clear hK K
        refine wpAny_done (by kernel_rfl) ?_ _
        go_wp2
        refine leaves_cons (f := 135) (args := #[.pointer (some ⟨w.heap.size, 0, none⟩), .pointer (some ⟨w.heap.size + 1, 0, none⟩)]) (by simp) (by simp [go_sem]) ?_
        refine catch_idle.mono ?_
        rintro e u' w5 ⟨rfl, rfl, rfl⟩
        exact ask_left rfl (w.heap.size + 1) res.2 rfl (askO_set (k' := res.2) G2.out.1) ⟨rfl, G2.out.2 _ (turn4 _ _ (.int .i64 res.2.kind) (.int .i64 res.2.cell) (.float .f64 res.2.x) (.bool res.2.first))⟩
    · go_simp
      refine (HBG.out _ _ _ HG.out).mono ?_
      rintro e u1 ⟨rfl, q⟩
      obtain ⟨r1, r2, r3⟩ := HX.out _ _ q
      obtain ⟨k0, k1⟩ := ptrO_cell r1
      have HSH := Lib.hid ((r3 _ (Turn.refl _ _)).shaped HT.out)
      clear r1 r2 r3
      have G1 := Lib.hid q
      clear q
      refine hK _ _ ?_
      clear hK K
      refine wpAny_ready (rs := [0]) (by kernel_rfl) (by simp) ?_
      refine AllReady.cons rfl (fun K hK => ?_) (AllReady.nil)
      go_simp
      refine hK _ _ ?_
      clear hK K
      refine wpAny_ready (rs := [3]) (by kernel_rfl) (by simp) ?_
      refine AllReady.cons rfl (fun K hK => ?_) (AllReady.nil)
      go_simp
      refine (HDO.out _ _ _ G1.out HSH.out).mono ?_
      rintro e u2 (⟨e0, he0, rfl, q⟩ | ⟨rfl, q⟩)
      · subst he0
        refine leaves_cons (f := 135) (args := #[.pointer (some ⟨w.heap.size, 0, none⟩), .pointer (some ⟨w.heap.size + 1, 0, none⟩)]) (by simp) (by simp [go_sem]) ?_
        refine (catch_gave (W := W) (F0 := F0) e0 q HX.out).mono ?_
        rintro e u' w5 ⟨rfl, rfl, c1, c2⟩
        exact ask_left rfl (w.heap.size + 1) askEnd rfl c1 ⟨rfl, c2⟩
      · obtain ⟨r1, r2, r3⟩ := HX.out _ _ q
        obtain ⟨⟨d0, d1, d2, d3, d4⟩, d5, d6, d7, d8⟩ := askO_cells r2
        have G2 := Lib.hid (And.intro r2 r3)
        clear q r1 r2 r3
        unfold askV
        refine hK _ _ ?_
        clear hK K
        refine wpAny_ready (rs := [4]) (by kernel_rfl) (by simp) ?_
        refine AllReady.cons rfl (fun K hK => ?_) (AllReady.nil)
        go_simp
        refine hK _ _ ?_
        clear hK K
        refine wpAny_done (by kernel_rfl) ?_ _
        go_wp2
        refine leaves_cons (f := 135) (args := #[.pointer (some ⟨w.heap.size, 0, none⟩), .pointer (some ⟨w.heap.size + 1, 0, none⟩)]) (by simp) (by simp [go_sem]) ?_
        refine catch_idle.mono ?_
        rintro e u' w5 ⟨rfl, rfl, rfl⟩
        exact ask_left rfl (w.heap.size + 1) res.2 rfl (askO_set (k' := res.2) G2.out.1) ⟨rfl, G2.out.2 _ (turn4 _ _ (.int .i64 res.2.kind) (.int .i64 res.2.cell) (.float .f64 res.2.x) (.bool res.2.first))⟩
end
end Go.Proofs.YtninicfnhoediaaGreatDoor
namespace Go.Proofs.YtninicfnhoediaaGreatDoor
open Go.ChangeShapes Go.WideShapes Go.ChangeAt Go.RowKit Num
attribute [local go_sem] run_store_float
section
variable {W w : World} {b : Nat} {F0 K : List Nat} {m : Mac}
theorem step_any (h : Gm W F0 b K w m) (hT : TabAt W F0) (hI : Inv m) : Calls Tryz.prog 104 #[.pointer (some ⟨b, 0, none⟩)] w fun e w' => e = .returned (askV (stepM m).2) ∧ Gm W F0 b K w' (stepM m).1 := by
  unfold stepM
  by_cases hw : 0 ≤ m.wait
  · rw [if_pos hw]
    exact step_waits h hw
  rw [if_neg hw]
  by_cases h0 : m.how = 0
  · rw [if_pos h0]
    by_cases hf : m.used < m.fuel
    · rw [if_pos hf]
      by_cases hp : m.place < (m.code.length : Int)
      · rw [if_pos hp]
        obtain ⟨k, hk⟩ : ∃ k : Nat, m.place = k := ⟨m.place.toNat, by have := hI.place.1; omega⟩
        have hkl : k < m.code.length := by omega
        have hmay := hI.may k hkl
        have hin : insM m = ci m.code k := by unfold insM; rw [hk, Int.toNat_natCast]
        rw [hin]
        rcases hci : ci m.code k with ⟨o, n, x⟩
        have hB : ∀ W F0 w, Gm W F0 b K w m → Calls Tryz.prog 138 #[.pointer (some ⟨b, 0, none⟩)] w fun r w' => r = .returned (.agg #[.int .i64 o, .int .i64 n, .float .f64 x]) ∧ Gm W F0 b K w' (begM m) := fun W F0 w h => by
          have := begin_ok h hf hk hkl ⟨by have := hI.fuel; omega, by have := hI.used; omega⟩ (by have := hI.len; omega)
          rw [hci] at this
          exact this
        rw [hci] at hmay
        obtain ⟨q, hq⟩ : ∃ q : Nat, o = q := ⟨o.toNat, by have := hmay.1; unfold mayB knownB at this; simp at this; omega⟩
        subst hq
        have hre : (begM m).reads.length ≤ 1024 := by
          have h1 := hI.reads
          have h2 := hI.used
          have h3 := hI.fuel
          rw [if_neg hw] at h1
          show m.reads.length ≤ 1024
          omega
        have hou : (begM m).out.length ≤ 1024 := by
          have h1 := hI.out
          have h2 := hI.used
          have h3 := hI.fuel
          show m.out.length ≤ 1024
          omega
        have hD : ∀ W F0 w, Gm W F0 b K w (begM m) → Shaped5 w → Calls Tryz.prog 137 #[.pointer (some ⟨b, 0, none⟩), .agg #[.int .i64 (q : Int), .int .i64 n, .float .f64 x]] w fun r w' => Done W F0 b K (begM m) (doF (begM m) ⟨q, n, x⟩) r w' := fun W F0 w h hT => do_any h hT hmay.1 hI.st hI.cells.2 hre hou
        exact step_do h hw h0 hT hB hD
      · rw [if_neg hp]
        exact step_gave1 h hw h0 (e0 := 50) (fun W F0 w h => (begin_far h hf hp).mono fun r w' ⟨a1, a2⟩ => ⟨a1, h.on a2⟩)
    · rw [if_neg hf]
      exact step_gave1 h hw h0 (e0 := 80) (fun W F0 w h => (begin_fuel h hf).mono fun r w' ⟨a1, a2⟩ => ⟨a1, h.on a2⟩)
  · rw [if_neg h0]
    exact step_ended h hw h0
set_option maxHeartbeats 600000 in
set_option maxRecDepth 100000 in
theorem give_any (h : Gm W F0 b K w m) (hI : Inv m) (x : Nat) : Calls Tryz.prog 106 #[.pointer (some ⟨b, 0, none⟩), .float .f64 x] w fun e w' => e = .returned (.int .i64 (giveE m)) ∧ Gm W F0 b K w' (giveM m x) := by
  have hb := h.ltB
  have h27 := (wait_at h).1
  have f27 := h.free 27
  unfold giveE giveM
  by_cases hw : 0 ≤ m.wait
  · rw [if_pos hw, if_pos hw]
    rw [decide_eq_true hw] at h27
    have h28 : w.cell? ⟨b, 28, none⟩ = some (.int .i64 m.wait) := by
      obtain ⟨p, hm, _, _⟩ := h
      rw [← hm.wt hw]
      exact (hm.cell 28).trans rfl
    have g1 : Gm W F0 b K (w.setCell ⟨b, 27, none⟩ (.bool false)) { m with wait := -1 } := h.set 27 (.bool false) { m with wait := -1 } (fun p _ => ⟨p.wt, rfl, fun z => absurd z (show ¬ (0 : Int) ≤ -1 by decide)⟩) ⟨rfl, rfl, rfl, rfl, rfl, rfl, rfl⟩
    have HG := Lib.hid (g1.same (Same.drew _))
    have hl : m.st.length < 64 := by
      have := hI.high
      rw [if_pos hw] at this
      omega
    have hr : m.reads.length ≤ 1024 := by
      have h1 := hI.reads
      have h2 := hI.used
      have h3 := hI.fuel
      rw [if_pos hw] at h1
      omega
    have HS := Lib.hid (And.intro hl hr)
    clear h g1 hI hl hr hw
    go_enter Tryz.func106, Tryz.ntmps106
    go_wp2
    refine region_tail 7 (by kernel_rfl) ?_
    simp only [List.take_succ_cons, List.take_zero, List.drop_succ_cons, List.drop_zero]
    repeat (first | still_step | still_call (fix_any x _))
    refine wpStill_nil ?_
    go_wp2_with (go_at_call 139; refine (hasRead_any HG.out m.wait (fixB x) HS.out.1 HS.out.2).mono ?_; rintro e u1 ⟨rfl, q⟩; have G1 := Lib.hid q; clear q)
    go_ret
    exact ⟨rfl, G1.out⟩
  · rw [if_neg hw, if_neg hw]
    rw [decide_eq_false hw] at h27
    have HG := Lib.hid h
    clear h hI hw
    go_enter Tryz.func106, Tryz.ntmps106
    go_wp2
    go_ret
    exact ⟨rfl, HG.out⟩
end
end Go.Proofs.YtninicfnhoediaaGreatDoor
namespace Go.Proofs.YtninicfnhoediaaGreatDoor
open Go.ChangeShapes Go.WideShapes Go.ChangeAt Go.RowKit Num
structure Mid (m : Mac) : Prop where
  cells : 1 ≤ m.cells ∧ m.cells ≤ 256
  fuel : 1 ≤ m.fuel ∧ m.fuel ≤ 1024
  wmax : 1 ≤ m.wmax ∧ m.wmax ≤ 32
  len : m.code.length ≤ 1024
  may : ∀ k, k < m.code.length → mayB (ci m.code k) m.code.length = true ∧ (ci m.code k).x < 18446744073709551616
  args : ∀ k, okN (m.args k)
  loc : ∀ k, okN (m.loc k)
  st : ∀ x ∈ m.st, okN x
  high : m.st.length ≤ 64
  calls : ∀ c ∈ m.calls, 0 ≤ c ∧ c ≤ (m.code.length : Int)
  deep : m.calls.length ≤ 16
  place : 0 ≤ m.place ∧ m.place ≤ (m.code.length : Int)
  used : 0 ≤ m.used ∧ m.used ≤ m.fuel
  out : (m.out.length : Int) < m.used
  reads : (m.reads.length : Int) < m.used
  buf : ∀ t ∈ m.buf, okN t.2
  few : (m.buf.length : Int) ≤ m.wmax
  wait : m.wait = -1
  how : m.how = 0
  none : m.upd = false → m.buf = []
  err : m.err = 0
  idle : m.code ≠ []
section
variable {m : Mac}
theorem Mid.setSt (h : Mid m) {s : List Nat} (hs : ∀ x ∈ s, okN x) (hl : s.length ≤ 64) : Mid { m with st := s } :=
  ⟨h.cells, h.fuel, h.wmax, h.len, h.may, h.args, h.loc, hs, hl, h.calls, h.deep, h.place, h.used, h.out, h.reads, h.buf, h.few, h.wait, h.how, h.none, h.err, h.idle⟩
theorem Mid.setLoc (h : Mid m) {f : Nat → Nat} (hf : ∀ k, okN (f k)) : Mid { m with loc := f } :=
  ⟨h.cells, h.fuel, h.wmax, h.len, h.may, h.args, hf, h.st, h.high, h.calls, h.deep, h.place, h.used, h.out, h.reads, h.buf, h.few, h.wait, h.how, h.none, h.err, h.idle⟩
theorem Mid.setPlace (h : Mid m) {n : Int} (hn : 0 ≤ n ∧ n ≤ (m.code.length : Int)) : Mid { m with place := n } :=
  ⟨h.cells, h.fuel, h.wmax, h.len, h.may, h.args, h.loc, h.st, h.high, h.calls, h.deep, hn, h.used, h.out, h.reads, h.buf, h.few, h.wait, h.how, h.none, h.err, h.idle⟩
theorem Mid.setCalls (h : Mid m) {c : List Int} (hc : ∀ x ∈ c, 0 ≤ x ∧ x ≤ (m.code.length : Int)) (hd : c.length ≤ 16) : Mid { m with calls := c } :=
  ⟨h.cells, h.fuel, h.wmax, h.len, h.may, h.args, h.loc, h.st, h.high, hc, hd, h.place, h.used, h.out, h.reads, h.buf, h.few, h.wait, h.how, h.none, h.err, h.idle⟩
theorem Mid.setBuf (h : Mid m) {l : Wr} (hl : ∀ t ∈ l, okN t.2) (hf : (l.length : Int) ≤ m.wmax) (hn : m.upd = false → l = []) : Mid { m with buf := l } :=
  ⟨h.cells, h.fuel, h.wmax, h.len, h.may, h.args, h.loc, h.st, h.high, h.calls, h.deep, h.place, h.used, h.out, h.reads, hl, hf, h.wait, h.how, hn, h.err, h.idle⟩
theorem Mid.not_wait (h : Mid m) : ¬ 0 ≤ m.wait := by rw [h.wait]; decide
theorem Mid.ended (h : Mid m) (o c e : Int) (ho : 0 ≤ o ∧ o ≤ 3) (hoe : o = 3 ↔ e ≠ 0) (he : e ≠ 80) (l : List Nat) (hl : (l.length : Int) ≤ m.used) : Inv { m with out := l, how := o, cod := c, err := e } :=
  ⟨h.cells, h.fuel, h.wmax, h.len, h.may, h.args, h.loc, h.st, by rw [if_neg h.not_wait]; have := h.high; show (m.st.length : Int) + 0 ≤ 64; omega, h.calls, h.deep, h.place, h.used, hl, by rw [if_neg h.not_wait]; have := h.reads; show (m.reads.length : Int) + 0 ≤ m.used; omega, h.buf, h.few, by have := h.cells; show -1 ≤ m.wait ∧ m.wait < m.cells; rw [h.wait]; omega, ho, h.none, hoe, fun q => absurd q he, fun q => absurd q h.idle⟩
theorem Mid.out' (h : Mid m) {l : List Nat} (hl : (l.length : Int) ≤ m.used) : Inv { m with out := l } := by
  have := h.ended 0 m.cod 0 (by omega) (by omega) (by omega) l hl
  have e : ({ m with out := l } : Mac) = { m with out := l, how := 0, cod := m.cod, err := 0 } := by have h1 := h.how; have h2 := h.err; simp only [h1, h2]
  rw [e]
  exact this
theorem Mid.inv (h : Mid m) : Inv m := h.out' (l := m.out) (by have := h.out; omega)
theorem Mid.fails (h : Mid m) (e : Int) (he : e ≠ 0 ∧ e ≠ 80) : Inv (failM m e).1 := h.ended 3 0 e (by omega) ⟨fun _ => he.1, fun _ => rfl⟩ he.2 m.out (by have := h.out; omega)
theorem Mid.readsSt (h : Mid m) {l : Wr} (hl : (l.length : Int) ≤ m.used) : Inv { m with reads := l } :=
  ⟨h.cells, h.fuel, h.wmax, h.len, h.may, h.args, h.loc, h.st, by rw [if_neg h.not_wait]; have := h.high; show (m.st.length : Int) + 0 ≤ 64; omega, h.calls, h.deep, h.place, h.used, by have := h.out; show (m.out.length : Int) ≤ m.used; omega, by rw [if_neg h.not_wait]; show (l.length : Int) + 0 ≤ m.used; omega, h.buf, h.few, by have := h.cells; show -1 ≤ m.wait ∧ m.wait < m.cells; rw [h.wait]; omega, by show 0 ≤ m.how ∧ m.how ≤ 3; rw [h.how]; decide, h.none, by show m.how = 3 ↔ m.err ≠ 0; rw [h.how, h.err]; decide, fun q => by have q' : m.err = 80 := q; rw [h.err] at q'; exact absurd q' (by decide), fun q => absurd q h.idle⟩
theorem Mid.waits (h : Mid m) {c : Int} (hc : 0 ≤ c ∧ c < m.cells) (hl : m.st.length + 1 ≤ 64) : Inv { m with wait := c } :=
  ⟨h.cells, h.fuel, h.wmax, h.len, h.may, h.args, h.loc, h.st, by rw [if_pos hc.1]; show (m.st.length : Int) + 1 ≤ 64; omega, h.calls, h.deep, h.place, h.used, by have := h.out; show (m.out.length : Int) ≤ m.used; omega, by rw [if_pos hc.1]; have := h.reads; show (m.reads.length : Int) + 1 ≤ m.used; omega, h.buf, h.few, by show -1 ≤ c ∧ c < m.cells; omega, by show 0 ≤ m.how ∧ m.how ≤ 3; rw [h.how]; decide, h.none, by show m.how = 3 ↔ m.err ≠ 0; rw [h.how, h.err]; decide, fun q => by have q' : m.err = 80 := q; rw [h.err] at q'; exact absurd q' (by decide), fun q => absurd q h.idle⟩
theorem putC_len_le {l : Wr} {m : Int} {c : Int} (h : mayP m l c = true) (hf : (l.length : Int) ≤ m) (y : Nat) : ((putC l c y).length : Int) ≤ m := by
  rw [putC_len]
  unfold mayP at h
  cases hh : hasC l c
  · rw [hh] at h
    have : (l.length : Int) < m := by simpa using h
    simp
    omega
  · simpa using hf
theorem putC_all {l : Wr} {c : Int} {y : Nat} (h : ∀ t ∈ l, okN t.2) (hy : okN y) : ∀ t ∈ putC l c y, okN t.2 := by
  intro t ht
  unfold putC at ht
  split at ht
  · rcases List.mem_or_eq_of_mem_set ht with q | q
    · exact h t q
    · rw [q]; exact hy
  · rcases List.mem_append.1 ht with q | q
    · exact h t q
    · simp at q; rw [q]; exact hy
theorem getC_ok {l : Wr} {c : Int} (h : ∀ t ∈ l, okN t.2) : okN (getC l c) := by
  unfold getC
  rw [List.getD_eq_getElem?_getD]
  cases hl : l[idx l c]? with
  | none => exact okN_zero
  | some t => exact h t (List.mem_of_getElem? hl)
theorem get_ok {l : List Nat} (h : ∀ x ∈ l, okN x) (k : Nat) : okN (l.getD k 0) := getD_all 0 okN_zero l h k
theorem drop_ok {l : List Nat} (h : ∀ x ∈ l, okN x) (k : Nat) : ∀ x ∈ l.drop k, okN x := fun x hx => h x (List.mem_of_mem_drop hx)
theorem cons_ok {l : List Nat} {y : Nat} (hy : okN y) (h : ∀ x ∈ l, okN x) : ∀ x ∈ y :: l, okN x := fun x hx => by
  rcases List.mem_cons.1 hx with rfl | q
  · exact hy
  · exact h x q
theorem place_ok {k : Nat} {n : Int} {x many : Nat} (h : mayB ⟨k, n, x⟩ many = true) (hk : (shp k).kind = 3) (hl : (shp k).lo = 0) : 0 ≤ n ∧ n ≤ (many : Int) := by
  unfold mayB fitsB outB at h
  simp only [Bool.and_eq_true, decide_eq_true_eq, Int.toNat_natCast, Bool.not_eq_true', Bool.and_eq_false_iff, decide_eq_false_iff_not] at h
  obtain ⟨⟨⟨_, h1⟩, h2⟩, _⟩ := h
  rw [hl] at h1
  rcases h2 with h2 | h2
  · exact absurd hk h2
  · omega
theorem inv_do (h : Mid m) {k : Nat} {n : Int} {x : Nat} (hi : mayB ⟨k, n, x⟩ m.code.length = true) (hx : x < 18446744073709551616) (hr : roomB m ⟨k, n, x⟩ = true) : Inv (doM m ⟨k, n, x⟩).1 := by
  obtain ⟨hk, hlo, hhi⟩ := fits_parts hi
  obtain ⟨r1, r2, r3, r4⟩ := room_parts hr
  have hst := h.st
  have hgh := h.high
  have hkk : k = 1 ∨ k = 2 ∨ k = 3 ∨ k = 4 ∨ k = 5 ∨ k = 6 ∨ k = 7 ∨ k = 8 ∨ k = 9 ∨ k = 10 ∨ k = 11 ∨ k = 12 ∨ k = 13 ∨ k = 14 ∨ k = 15 ∨ k = 16 ∨ k = 17 ∨ k = 18 ∨ k = 19 ∨ k = 20 := by omega
  rcases hkk with rfl | rfl | rfl | rfl | rfl | rfl | rfl | rfl | rfl | rfl | rfl | rfl | rfl | rfl | rfl | rfl | rfl | rfl | rfl | rfl
  · have r3' : (m.st.length : Int) - 0 + 1 ≤ 64 := r3
    exact (h.setSt (cons_ok (okN_fix hx) hst) (by simp; omega)).inv
  · exact (h.setSt (drop_ok hst 1) (by simp; omega)).inv
  · have r3' : (m.st.length : Int) - 1 + 2 ≤ 64 := r3
    have r1' : (1 : Int) ≤ (m.st.length : Int) := r1 (by omega)
    exact (h.setSt (cons_ok (get_ok hst 0) hst) (by simp; omega)).inv
  · have r3' : (m.st.length : Int) - 2 + 2 ≤ 64 := r3
    have r1' : (2 : Int) ≤ (m.st.length : Int) := r1 (by omega)
    exact (h.setSt (cons_ok (get_ok hst 1) (cons_ok (get_ok hst 0) (drop_ok hst 2))) (by simp; omega)).inv
  · have r3' : (m.st.length : Int) - 0 + 1 ≤ 64 := r3
    exact (h.setSt (cons_ok (get_ok hst _) hst) (by simp; omega)).inv
  · have r3' : (m.st.length : Int) - 0 + 1 ≤ 64 := r3
    exact (h.setSt (cons_ok (h.args _) hst) (by simp; omega)).inv
  · have r3' : (m.st.length : Int) - 0 + 1 ≤ 64 := r3
    exact (h.setSt (cons_ok (h.loc _) hst) (by simp; omega)).inv
  · exact ((h.setSt (drop_ok hst 1) (by simp; omega)).setLoc (fun j => by show okN (if j = n.toNat then _ else _); split; exact get_ok hst 0; exact h.loc j)).inv
  · have r3' : (m.st.length : Int) - 1 + 1 ≤ 64 := r3
    have r1' : (1 : Int) ≤ (m.st.length : Int) := r1 (by omega)
    exact (h.setSt (cons_ok (okN_one n (get_ok hst 0)) (drop_ok hst 1)) (by simp; omega)).inv
  · have r3' : (m.st.length : Int) - 2 + 1 ≤ 64 := r3
    have r1' : (2 : Int) ≤ (m.st.length : Int) := r1 (by omega)
    exact (h.setSt (cons_ok (okN_two n (get_ok hst 1) (get_ok hst 0)) (drop_ok hst 2)) (by simp; omega)).inv
  · exact (h.setPlace (place_ok hi rfl rfl)).inv
  · have hp := place_ok hi rfl rfl
    exact ((h.setSt (drop_ok hst 1) (by simp; omega)).setPlace (n := if trueB (m.st.getD 0 0) then n else m.place) (by split; exact hp; exact h.place)).inv
  · have hp := place_ok hi rfl rfl
    exact ((h.setSt (drop_ok hst 1) (by simp; omega)).setPlace (n := if trueB (m.st.getD 0 0) then m.place else n) (by split; exact h.place; exact hp)).inv
  · have hc := r4 rfl
    exact ((h.setCalls (c := m.place :: m.calls) (fun y hy => by rcases List.mem_cons.1 hy with rfl | q; exact h.place; exact h.calls y q) (by simp; omega)).setPlace (place_ok hi rfl rfl)).inv
  · show Inv (retM m).1
    cases hc : m.calls with
    | nil =>
      rw [retM_nil hc]
      exact h.ended 1 0 0 (by omega) (by omega) (by omega) m.out (by have := h.out; omega)
    | cons c q =>
      rw [retM_cons hc]
      have hq := h.calls
      have hd := h.deep
      rw [hc] at hq hd
      simp at hd
      exact ((h.setCalls (c := q) (fun y hy => hq y (by simp [hy])) (by omega)).setPlace (hq c (by simp))).inv
  · have r1' : (1 : Int) ≤ (m.st.length : Int) := r1 (by omega)
    have r3' : (m.st.length : Int) - 1 + 1 ≤ 64 := r3
    show Inv (readM m).1
    unfold readM
    cases ha : addrB m with
    | false => exact h.fails 50 (by omega)
    | true =>
      have hid := idx_wf (m.st.getD 0 0) h.cells.2 ha
      cases hh : hasC m.buf (addrV m) with
      | false =>
        rw [if_pos rfl, if_neg Bool.false_ne_true]
        exact (h.setSt (drop_ok hst 1) (by simp; omega)).waits ⟨hid.1, hid.2.1⟩ (by simp; omega)
      | true =>
        rw [if_pos rfl, if_pos rfl]
        exact (h.setSt (cons_ok (getC_ok h.buf) (drop_ok hst 1)) (by simp; omega)).readsSt (l := m.reads ++ [(addrV m, getC m.buf (addrV m))]) (by have := h.reads; simp; omega)
  · show Inv (writeM m).1
    unfold writeM
    cases hu : m.upd with
    | false => exact h.fails 81 (by omega)
    | true =>
      cases ha : addrB m with
      | false => exact h.fails 50 (by omega)
      | true =>
        cases hp : mayP m.wmax m.buf (addrV m) with
        | false => exact h.fails 70 (by omega)
        | true =>
          have := ((h.setSt (drop_ok hst 2) (by simp; omega)).setBuf (l := putC m.buf (addrV m) (m.st.getD 1 0)) (putC_all h.buf (get_ok hst 1)) (putC_len_le hp h.few _) (fun q => by have q' : m.upd = false := q; rw [hu] at q'; cases q')).inv
          rw [if_pos rfl, if_pos rfl, if_pos rfl]
          rw [← hu]
          exact this
  · exact (h.setSt (drop_ok hst 1) (by simp; omega)).out' (l := m.out ++ [m.st.getD 0 0]) (by have := h.out; simp; omega)
  · exact h.ended 2 n 0 (by omega) (by omega) (by omega) m.out (by have := h.out; omega)
  · exact h.ended 1 0 0 (by omega) (by omega) (by omega) m.out (by have := h.out; omega)
theorem mid_beg (h : Inv m) (hw : ¬ 0 ≤ m.wait) (h0 : m.how = 0) (hf : m.used < m.fuel) (hp : m.place < (m.code.length : Int)) : Mid (begM m) := by
  have h1 := h.high
  have h2 := h.reads
  rw [if_neg hw] at h1 h2
  have h3 := h.wait
  have h4 := h.used
  have h5 := h.place
  have h6 := h.out
  refine ⟨h.cells, h.fuel, h.wmax, h.len, h.may, h.args, h.loc, h.st, by show m.st.length ≤ 64; omega, h.calls, h.deep, by show 0 ≤ m.place + 1 ∧ m.place + 1 ≤ (m.code.length : Int); omega, by show 0 ≤ m.used + 1 ∧ m.used + 1 ≤ m.fuel; omega, by show (m.out.length : Int) < m.used + 1; omega, by show (m.reads.length : Int) < m.used + 1; omega, h.buf, h.few, by show m.wait = -1; omega, h0, h.none, ?_, fun q => ?_⟩
  · show m.err = 0
    by_cases he : m.err = 0
    · exact he
    · exact absurd (h.fail.2 he) (by rw [h0]; decide)
  · have q' : m.code = [] := q
    rw [q'] at hp
    simp at hp
    omega
theorem inv_ended (h : Inv m) (e : Int) (he : e ≠ 0) (hf : e = 80 → m.used = m.fuel) : Inv (failM m e).1 :=
  ⟨h.cells, h.fuel, h.wmax, h.len, h.may, h.args, h.loc, h.st, h.high, h.calls, h.deep, h.place, h.used, h.out, h.reads, h.buf, h.few, h.wait, by show (0 : Int) ≤ 3 ∧ (3 : Int) ≤ 3; decide, h.none, ⟨fun _ => he, fun _ => rfl⟩, hf, h.idle⟩
theorem inv_step (h : Inv m) : Inv (stepM m).1 := by
  unfold stepM
  by_cases hw : 0 ≤ m.wait
  · rw [if_pos hw]
    exact h
  rw [if_neg hw]
  by_cases h0 : m.how = 0
  · rw [if_pos h0]
    by_cases hf : m.used < m.fuel
    · rw [if_pos hf]
      by_cases hp : m.place < (m.code.length : Int)
      · rw [if_pos hp]
        have hM := mid_beg h hw h0 hf hp
        have hk : m.place.toNat < m.code.length := by have := h.place; omega
        have hmay := h.may _ hk
        cases hr : roomB (begM m) (insM m) with
        | false => exact hM.fails 82 (by omega)
        | true =>
          rw [if_pos rfl]
          unfold insM at hr ⊢
          rcases hci : ci m.code m.place.toNat with ⟨o, n, x⟩
          rw [hci] at hmay hr
          obtain ⟨q, hq⟩ : ∃ q : Nat, o = q := ⟨o.toNat, by have := hmay.1; unfold mayB knownB at this; simp at this; omega⟩
          subst hq
          exact inv_do hM hmay.1 hmay.2 hr
      · rw [if_neg hp]
        exact inv_ended h 50 (by omega) (by omega)
    · rw [if_neg hf]
      exact inv_ended h 80 (by omega) (fun _ => by have := h.used; omega)
  · rw [if_neg h0]
    exact h
theorem inv_give (h : Inv m) {x : Nat} (hx : x < 18446744073709551616) : Inv (giveM m x) := by
  unfold giveM
  by_cases hw : 0 ≤ m.wait
  · rw [if_pos hw]
    have h1 := h.high
    have h2 := h.reads
    rw [if_pos hw] at h1 h2
    have h3 := h.cells
    exact ⟨h.cells, h.fuel, h.wmax, h.len, h.may, h.args, h.loc, cons_ok (okN_fix hx) h.st, by show ((fixB x :: m.st).length : Int) + (if (0 : Int) ≤ -1 then 1 else 0) ≤ 64; rw [if_neg (by decide)]; simp; omega, h.calls, h.deep, h.place, h.used, h.out, by show ((m.reads ++ [(m.wait, fixB x)]).length : Int) + (if (0 : Int) ≤ -1 then 1 else 0) ≤ m.used; rw [if_neg (by decide)]; simp; omega, h.buf, h.few, by show (-1 : Int) ≤ -1 ∧ (-1 : Int) < m.cells; omega, h.how, h.none, h.fail, h.full, h.idle⟩
  · rw [if_neg hw]
    exact h
theorem inv_new {a b f e t : Int} {c : List Ins} {l : List Nat} (hc : Md.cfgB a b f e = true) (hx : ∀ k, k < c.length → (ci c k).x < 18446744073709551616) (hl : ∀ x ∈ l, x < 18446744073709551616) : Inv (newM a f e t c l) := by
  obtain ⟨h1, _, h3, h4⟩ := Md.cfgB_iff.1 hc
  have hcode : (if checkB t c then c else []).length ≤ 1024 ∧ ∀ k, k < (if checkB t c then c else []).length → mayB (ci (if checkB t c then c else []) k) (if checkB t c then c else []).length = true ∧ (ci (if checkB t c then c else []) k).x < 18446744073709551616 := by
    cases hq : checkB t c with
    | false => exact ⟨by simp, fun k hk => absurd hk (by simp)⟩
    | true =>
      have := check_parts.1 hq
      rw [if_pos rfl]
      exact ⟨this.2.2.1, fun k hk => ⟨this.2.2.2 k hk, hx k hk⟩⟩
  refine ⟨h1, h3, h4, hcode.1, hcode.2, fun k => okN_fix ?_, fun _ => okN_zero, fun x hx => by simp [newM] at hx, by simp [newM], fun c hc => by simp [newM] at hc, by simp [newM], by show (0 : Int) ≤ 0 ∧ (0 : Int) ≤ _; omega, by show (0 : Int) ≤ 0 ∧ (0 : Int) ≤ f; omega, by simp [newM], by simp [newM], fun t ht => by simp [newM] at ht, by show ((([] : Wr).length : Nat) : Int) ≤ e; simp; omega, by show (-1 : Int) ≤ -1 ∧ (-1 : Int) < a; omega, by show (0 : Int) ≤ 0 ∧ (0 : Int) ≤ 3; decide, fun _ => rfl, by show (0 : Int) = 3 ↔ (0 : Int) ≠ 0; decide, fun q => absurd q (show ¬ (0 : Int) = 80 by decide), fun _ => rfl⟩
  exact getD_all (P := fun x => x < 18446744073709551616) 0 (by decide) l hl k
end
end Go.Proofs.YtninicfnhoediaaGreatDoor
namespace Go.Proofs.YtninicfnhoediaaGreatDoor
open Go.ChangeShapes Go.WideShapes Go.ChangeAt Go.RowKit Num
attribute [local go_sem] run_store_float
end Go.Proofs.YtninicfnhoediaaGreatDoor
namespace Go.Proofs.YtninicfnhoediaaGreatDoor
open Go.ChangeShapes Go.WideShapes Go.ChangeAt Go.RowKit Num
attribute [local go_sem] run_store_float
set_option maxRecDepth 100000 in
theorem end_eq (h c e : Int) (w : World) : (Op.equalIn 10000 59 (.agg #[.int .i64 h, .int .i64 c, .int .i64 e]) (.agg #[.int .i64 h, .int .i64 c, .int .i64 e])).run Tryz.prog w = .ok true w := by
  have u3 := Tryz.underlying3
  have a3 := Tryz.isAgg3
  have z3 := Tryz.sizeOf3
  have u4 := Tryz.underlying43
  have a4 := Tryz.isAgg43
  have z4 := Tryz.sizeOf43
  have hS : Tryz.prog.underlying 59 = some (.struct (Tryz.prog.fieldsOf 59)) := by kernel_rfl
  rw [show (10000 : Nat) = 9999 + 1 from rfl, run_equalIn_agg w 9999 59 _ _ hS (by kernel_rfl)]
  simp only [Program.fieldsOf, Tryz.underlying59]
  go_simp
theorem row_first {w : World} {p : Option Addr} {c x : Nat} (h : RowAt 71 w p c (fls [x])) : ∃ g : Nat, ∃ _o : Nat, p = some ⟨g, 0, none⟩ ∧ g < w.heap.size ∧ w.cell? ⟨g, 0, none⟩ = some (.float .f64 x) := by
  rcases h.own.2 with ⟨_, q⟩ | ⟨g, cap, cur, hv, _, hg, _⟩
  · simp [fls] at q
  · cases hv
    exact ⟨g, 0, rfl, lt_of_block hg, World.ownsRow.cells h.own (g := g) rfl 0 _ rfl⟩
end Go.Proofs.YtninicfnhoediaaGreatDoor
namespace Go.Proofs.YtninicfnhoediaaGreatDoor
open Go.ChangeShapes Go.WideShapes Go.ChangeAt Go.RowKit Num
def rlo (k : Nat) : Int := if (shp k).kind = 3 then -1 else (shp k).lo
def rhi (k : Nat) : Int := if (shp k).kind = 3 then -1 else (shp k).hi
def rowC (k : Nat) : List Value := [strB (shp k).word, .int .i64 (rlo k), .int .i64 (rhi k), .int .i64 (shp k).takes, .int .i64 (shp k).lays]
def rowsC : List Value := (List.range 21).flatMap rowC
def rowsO : Obj := .cells rowsC.toArray 210
theorem rowsC_at : ∀ k, k < 21 → rowsC[k * 5]? = some (strB (shp k).word) ∧ rowsC[k * 5 + 1]? = some (.int .i64 (rlo k)) ∧ rowsC[k * 5 + 2]? = some (.int .i64 (rhi k)) ∧ rowsC[k * 5 + 3]? = some (.int .i64 (shp k).takes) ∧ rowsC[k * 5 + 4]? = some (.int .i64 (shp k).lays) := by
  intro k hk
  have h : ∀ (n : Nat) (l : List Nat) (m : Nat), l[n]? = some m → ∀ j, j < 5 → (l.flatMap rowC)[n * 5 + j]? = (rowC m)[j]? := by
    intro n
    induction n with
    | zero =>
      intro l m hm j hj
      cases l with
      | nil => simp at hm
      | cons a t =>
        simp at hm
        subst hm
        rw [List.flatMap_cons, List.getElem?_append_left (by simp [rowC]; omega)]
        simp
    | succ n ih =>
      intro l m hm j hj
      cases l with
      | nil => simp at hm
      | cons a t =>
        rw [List.flatMap_cons, List.getElem?_append_right (by simp [rowC]; omega)]
        have e : (n + 1) * 5 + j - (rowC a).length = n * 5 + j := by simp [rowC]; omega
        rw [e]
        exact ih t m (by simpa using hm) j hj
  have g := h k (List.range 21) k (by simp [hk])
  unfold rowsC
  exact ⟨g 0 (by decide), g 1 (by decide), g 2 (by decide), g 3 (by decide), g 4 (by decide)⟩
structure RowsAt (w : World) (b : Nat) : Prop where
  lt : b < w.heap.size
  row : ∀ k, k < 21 → w.cell? ⟨b, k * 5, none⟩ = some (strB (shp k).word) ∧ w.cell? ⟨b, k * 5 + 1, none⟩ = some (.int .i64 (rlo k)) ∧ w.cell? ⟨b, k * 5 + 2, none⟩ = some (.int .i64 (rhi k)) ∧ w.cell? ⟨b, k * 5 + 3, none⟩ = some (.int .i64 (shp k).takes) ∧ w.cell? ⟨b, k * 5 + 4, none⟩ = some (.int .i64 (shp k).lays)
theorem rowsO_at (w : World) : RowsAt (w.alloc rowsO) w.heap.size := by
  have h := heap_alloc_new w rowsO
  refine ⟨lt_of_block h, fun k hk => ?_⟩
  obtain ⟨c0, c1, c2, c3, c4⟩ := rowsC_at k hk
  refine ⟨?_, ?_, ?_, ?_, ?_⟩
  · rw [cell_of_row _ _ _ _ _ _ h]; simpa using c0
  · rw [cell_of_row _ _ _ _ _ _ h]; simpa using c1
  · rw [cell_of_row _ _ _ _ _ _ h]; simpa using c2
  · rw [cell_of_row _ _ _ _ _ _ h]; simpa using c3
  · rw [cell_of_row _ _ _ _ _ _ h]; simpa using c4
set_option maxHeartbeats 2000000 in
set_option maxRecDepth 100000 in
theorem rows_any (w : World) : Calls Tryz.prog 148 #[] w fun e w' => e = .returned (.slice (some ⟨w.heap.size, 0, none⟩) 21 21) ∧ w' = w.alloc rowsO := by
  go_enter Tryz.func148, Tryz.ntmps148
  go_wp2
  go_ret
  exact ⟨rfl, rfl⟩
end Go.Proofs.YtninicfnhoediaaGreatDoor
namespace Go.Proofs.YtninicfnhoediaaGreatDoor
open Go.ChangeShapes Go.WideShapes Go.ChangeAt Go.RowKit Num
attribute [local go_sem] run_store_float
set_option maxHeartbeats 2000000 in
set_option maxRecDepth 100000 in
theorem refEffect_some (k : Nat) (w : World) (hk : k < 21) (h1 : 1 ≤ k) : Calls Tryz.prog 124 #[.int .i64 k] w fun e w' => e = .returned (.tuple #[.int .i64 (shp k).takes, .int .i64 (shp k).lays, .int .i64 0]) ∧ Below w.heap.size w w' := by
  have hr := fun w => (rowsO_at w).row k hk
  have c0 := fun w => (hr w).1
  have c1 := fun w => (hr w).2.1
  have c2 := fun w => (hr w).2.2.1
  have c3 := fun w => (hr w).2.2.2.1
  have c4 := fun w => (hr w).2.2.2.2
  clear hr
  have hk' : (k : Int) < 21 := by omega
  have hk2 : ¬ (k : Int) < 1 := by omega
  have hk3 : ¬ 20 < (k : Int) := by omega
  generalize (shp k).takes = t at *
  generalize (shp k).lays = l at *
  unfold strB at c0
  generalize (shp k).word = wd at *
  generalize rlo k = lo at *
  generalize rhi k = hi at *
  go_enter Tryz.func124, Tryz.ntmps124
  go_wp2_with (first
    | (go_at_call 148; refine (rows_any _).mono ?_; rintro e w' ⟨rfl, hw⟩; subst w'))
  go_region_with (go_at_call 148; refine (rows_any _).mono ?_; rintro e w' ⟨rfl, hw⟩; subst w')
  all_goals go_wp2
  all_goals go_ret3
  all_goals exact ⟨rfl, by repeat (first | exact Below.refl _ _ | apply bl_alloc | apply bl_drewN | apply bl_drew)⟩
theorem rlo_place {k : Nat} (h : (shp k).kind = 3) : rlo k = -1 := by unfold rlo; rw [if_pos h]
theorem rlo_else {k : Nat} (h : (shp k).kind ≠ 3) : rlo k = (shp k).lo := by unfold rlo; rw [if_neg h]
theorem rhi_else {k : Nat} (h : (shp k).kind ≠ 3) : rhi k = (shp k).hi := by unfold rhi; rw [if_neg h]
theorem rows_cells (k : Nat) (hk : k < 21) (u : World) (b : Nat) (hb : b = u.heap.size) : (u.alloc rowsO).cell? ⟨b, k * 5, none⟩ = some (strB (shp k).word) ∧ (u.alloc rowsO).cell? ⟨b, k * 5 + 1, none⟩ = some (.int .i64 (rlo k)) ∧ (u.alloc rowsO).cell? ⟨b, k * 5 + 2, none⟩ = some (.int .i64 (rhi k)) ∧ (u.alloc rowsO).cell? ⟨b, k * 5 + 3, none⟩ = some (.int .i64 (shp k).takes) ∧ (u.alloc rowsO).cell? ⟨b, k * 5 + 4, none⟩ = some (.int .i64 (shp k).lays) := by
  subst hb
  exact (rowsO_at u).row k hk
theorem lo_pos : ∀ k, k < 21 → 0 ≤ (shp k).lo := by decide +kernel
set_option maxHeartbeats 4000000 in
set_option maxRecDepth 100000 in
theorem may_any (i : Ins) (many : Nat) (w : World) (hm : many ≤ 1024) : Calls Tryz.prog 143 #[insV i, .int .i64 many] w fun e w' => e = .returned (.bool (mayB i many)) ∧ Below w.heap.size w w' := by
  obtain ⟨op, n, x⟩ := i
  unfold insV
  simp only
  cases hkn : knownB op with
  | false =>
    have h' : op < 1 ∨ 20 < op := by
      unfold knownB at hkn
      simp at hkn
      omega
    have e : mayB ⟨op, n, x⟩ many = false := by unfold mayB; simp [hkn]
    rw [e]
    rcases h' with q | q
    · go_enter Tryz.func143, Tryz.ntmps143
      go_wp2
      go_ret
      exact ⟨rfl, box5 _ _⟩
    · have q2 : ¬ op < 1 := by omega
      go_enter Tryz.func143, Tryz.ntmps143
      go_wp2
      go_ret
      exact ⟨rfl, box5 _ _⟩
  | true =>
    have hop : 0 < op ∧ op ≤ 20 := by unfold knownB at hkn; simpa using hkn
    obtain ⟨k, rfl⟩ : ∃ k : Nat, op = k := ⟨op.toNat, by omega⟩
    have hk : k < 21 := by omega
    have HE : Hid (mayB ⟨k, n, x⟩ many = (true && fitsB k n && !outB k n many && (decide ((k : Int) = 1) || fixB x == 0))) := by
      show mayB _ _ = _
      unfold mayB
      rw [hkn]
      rfl
    have hk1 : ¬ (k : Int) < 1 := by omega
    have hk2 : ¬ 20 < (k : Int) := by omega
    have hk3 : (k : Int) < 21 := by omega
    by_cases hx : (k : Int) = 1 ∨ fixB x = 0
    · have hx' : (decide ((k : Int) = 1) || fixB x == 0) = true := by simpa using hx
      have c0 := fun u b hb => (rows_cells k hk u b hb).1
      have c1 := fun u b hb => (rows_cells k hk u b hb).2.1
      have c2 := fun u b hb => (rows_cells k hk u b hb).2.2.1
      have c3 := fun u b hb => (rows_cells k hk u b hb).2.2.2.1
      have c4 := fun u b hb => (rows_cells k hk u b hb).2.2.2.2
      have H3 := Lib.hid (fun h => kind_3 k hk h)
      have HL := Lib.hid (lo_pos k hk)
      generalize (shp k).takes = t at *
      generalize (shp k).lays = l at *
      unfold strB at c0
      generalize (shp k).word = wd at *
      by_cases h3 : (shp k).kind = 3
      · rw [rlo_place h3] at c1
        obtain ⟨h1k, h4, h5⟩ := H3.out h3
        generalize rhi k = hi at *
        clear HL H3
        have HF : Hid (mayB ⟨k, n, x⟩ many = (decide (0 ≤ n) && decide (n < (many : Int)))) := by
          show mayB _ _ = _
          rw [HE.out, hx']
          unfold fitsB outB
          rw [h4, h5, decide_eq_true h3]
          by_cases a1 : 0 ≤ n
          · by_cases a2 : n < (many : Int)
            · have a3 : n ≤ 1023 := by omega
              have a4 : ¬ (many : Int) ≤ n := by omega
              simp [a1, a2, a3, a4]
            · have a4 : (many : Int) ≤ n := by omega
              simp [a1, a2, a4]
          · simp [a1]
        have hx0 : fixB x = 0 := hx.resolve_left (by omega)
        have hx2 : ((k : Int) != 1) = true := by simp; omega
        clear HE h3 h4 h5 hx hx' h1k
        go_enter Tryz.func143, Tryz.ntmps143
        go_wp2_with (first
          | (go_at_call 111; refine (refBits_any _ _).mono ?_; rintro e w' ⟨rfl, hw⟩; subst w'))
        go_region_with (go_at_call 148; refine (rows_any _).mono ?_; rintro e w' ⟨rfl, hw⟩; subst w')
        clear c0 c1 c2 c3 c4
        all_goals go_wp2
        all_goals go_ret
        all_goals exact ⟨by rw [HF.out]; simp <;> omega, by repeat (first | exact Below.refl _ _ | apply bl_alloc | apply bl_drewN | apply bl_drew)⟩
      · rw [rlo_else h3] at c1
        rw [rhi_else h3] at c2
        have HF : Hid (mayB ⟨k, n, x⟩ many = (decide ((shp k).lo ≤ n) && decide (n ≤ (shp k).hi))) := by
          show mayB _ _ = _
          rw [HE.out, hx']
          unfold fitsB outB
          rw [decide_eq_false h3]
          simp
        have hl0 : ¬ (shp k).lo < 0 := by have := HL.out; omega
        clear HE H3 HL h3 hx'
        generalize (shp k).lo = lo at *
        generalize (shp k).hi = hi at *
        cases hk9 : ((k : Int) != 1) with
        | true =>
          have hx0 : fixB x = 0 := hx.resolve_left (by simpa using hk9)
          clear hx
          go_enter Tryz.func143, Tryz.ntmps143
          go_wp2_with (first
            | (go_at_call 111; refine (refBits_any _ _).mono ?_; rintro e w' ⟨rfl, hw⟩; subst w'))
          go_region_with (go_at_call 148; refine (rows_any _).mono ?_; rintro e w' ⟨rfl, hw⟩; subst w')
          clear c0 c1 c2 c3 c4
          all_goals go_wp2
          all_goals go_ret
          all_goals exact ⟨by rw [HF.out]; simp <;> omega, by repeat (first | exact Below.refl _ _ | apply bl_alloc | apply bl_drewN | apply bl_drew)⟩
        | false =>
          clear hx
          go_enter Tryz.func143, Tryz.ntmps143
          go_wp2
          go_region_with (go_at_call 148; refine (rows_any _).mono ?_; rintro e w' ⟨rfl, hw⟩; subst w')
          clear c0 c1 c2 c3 c4
          all_goals go_wp2
          all_goals go_ret
          all_goals exact ⟨by rw [HF.out]; simp <;> omega, by repeat (first | exact Below.refl _ _ | apply bl_alloc | apply bl_drewN | apply bl_drew)⟩
    · have hx2 : ((k : Int) != 1) = true := by simpa using fun q => hx (.inl q)
      have hx3 : (((fixB x : Nat) : Int) != 0) = true := by
        have : fixB x ≠ 0 := fun q => hx (.inr q)
        simp
        exact this
      have e : mayB ⟨k, n, x⟩ many = false := by
        rw [HE.out]
        have h1 : ¬ (k : Int) = 1 := fun q => hx (.inl q)
        have h2 : ¬ fixB x = 0 := fun q => hx (.inr q)
        rw [decide_eq_false h1, beq_eq_false_iff_ne.2 h2]
        simp
      rw [e]
      clear HE hx
      go_enter Tryz.func143, Tryz.ntmps143
      go_wp2_with (first
        | (go_at_call 111; refine (refBits_any _ _).mono ?_; rintro e w' ⟨rfl, hw⟩; subst w'))
      go_ret
      exact ⟨rfl, box5 _ _⟩
end Go.Proofs.YtninicfnhoediaaGreatDoor
namespace Go.Proofs.YtninicfnhoediaaGreatDoor
open Go.ChangeShapes Go.WideShapes Go.ChangeAt Go.RowKit Num
attribute [local go_sem] run_store_float
set_option maxHeartbeats 2000000 in
set_option maxRecDepth 100000 in
theorem refCheck_any {w : World} (t : Int) {ao : Option Addr} {c : List Ins} (cap : Nat) (hc : CodeAt w ao c) (hl : c.length ≤ 9223372036854775807) :
    Calls Tryz.prog 114 #[progV t ao c.length cap] w fun e w' => e = .returned (.int .i64 (checkE t c)) ∧ Below w.heap.size w w' := by
  unfold progV
  by_cases ht : t = 1 ∨ t = 2
  · by_cases hn : c.length < 1 ∨ 1024 < c.length
    · rw [checkE_no (check_false (fun q => by omega))]
      clear hc
      generalize c.length = n at *
      rcases ht with rfl | rfl <;> rcases hn with hn | hn
      · obtain rfl : n = 0 := by omega
        go_enter Tryz.func114, Tryz.ntmps114
        go_wp2
        go_ret
        exact ⟨rfl, box5 _ _⟩
      · have h1 : ¬ (n : Int) < 1 := by omega
        have h2 : (1024 : Int) < n := by omega
        go_enter Tryz.func114, Tryz.ntmps114
        go_wp2
        go_ret
        exact ⟨rfl, box5 _ _⟩
      · obtain rfl : n = 0 := by omega
        go_enter Tryz.func114, Tryz.ntmps114
        go_wp2
        go_ret
        exact ⟨rfl, box5 _ _⟩
      · have h1 : ¬ (n : Int) < 1 := by omega
        have h2 : (1024 : Int) < n := by omega
        go_enter Tryz.func114, Tryz.ntmps114
        go_wp2
        go_ret
        exact ⟨rfl, box5 _ _⟩
    · have h1 : ¬ ((c.length : Nat) : Int) < 1 := by omega
      have h2 : ((c.length : Nat) : Int) ≤ 1024 := by omega
      have HC := Lib.hid hc
      have HN := Lib.hid hn
      clear hc hn
      have HX := Lib.hid (heap_alloc_new w (.cells #[.int .i64 t, .slice ao c.length cap] 26))
      have HB1 := Lib.hid (box5 w (.cells #[.int .i64 t, .slice ao c.length cap] 26))
      rcases ht with rfl | rfl
      all_goals go_enter Tryz.func114, Tryz.ntmps114
      all_goals go_wp2
      all_goals (go_loopw [28] (fun vi wr => ∃ (i : Nat), vi = .int .i64 i ∧ i ≤ c.length ∧ Hid (∀ j, j < i → mayB (ci c j) c.length = true) ∧ Hid (Below (w.heap.size + 1) (w.alloc (.cells #[.int .i64 _, .slice ao c.length cap] 26)) wr)) (fun vi _ => c.length - (intOf vi).toNat))
      case atStart => exact ⟨0, rfl, Nat.zero_le _, fun j hj => absurd hj (Nat.not_lt_zero j), Below.refl _ _⟩
      case atStart => exact ⟨0, rfl, Nat.zero_le _, fun j hj => absurd hj (Nat.not_lt_zero j), Below.refl _ _⟩
      all_goals (
        obtain ⟨i, rfl, hi, HM, HB⟩ := hrel
        have HBW := Lib.hid (HB1.out.trans (HB.out.mono (Nat.le_succ _)))
        by_cases hlt : i < c.length
        · have hlt' : (i : Int) < (c.length : Int) := by omega
          obtain ⟨b0, off, hao, hbW, k0, k1, k2⟩ := HC.out i hlt
          subst hao
          rw [← HBW.out.cell (p := ⟨b0, off + i * 3, none⟩) hbW] at k0
          rw [← HBW.out.cell (p := ⟨b0, off + i * 3 + 1, none⟩) hbW] at k1
          rw [← HBW.out.cell (p := ⟨b0, off + i * 3 + 2, none⟩) hbW] at k2
          have hbw : b0 < wr.heap.size := Nat.lt_of_lt_of_le hbW HBW.out.size
          obtain ⟨q0, q1, q2⟩ := cells2_of ((HB.out.block w.heap.size (Nat.lt_succ_self _)).trans HX.out)
          have HMB := Lib.hid (fun w' => may_any (ci c i) c.length w' (by omega))
          cases hmb : mayB (ci c i) c.length with
          | true =>
            rw [hmb] at HMB
            have HM2 : Hid (∀ j, j < i + 1 → mayB (ci c j) c.length = true) := fun j hj => by
              rcases Nat.lt_succ_iff_lt_or_eq.1 hj with q | rfl
              · exact HM.out j q
              · exact hmb
            generalize ci c i = z at k0 k1 k2 HMB
            obtain ⟨zo, zn, zx⟩ := z
            unfold insV at HMB
            simp only at k0 k1 k2 HMB
            clear hbW hmb HM
            go_wp2_with (first
              | (go_at_call 143; refine (HMB.out _).mono ?_; rintro e w2 ⟨rfl, hb2⟩; have HB2 := Lib.hid (HB.out.trans ((chain5 (box5 _ _) hb2).mono (Nat.le_trans (by simp) HB.out.size))); clear hb2))
            exact ⟨⟨i + 1, by first | rfl | (congr 1), by omega, HM2, HB2⟩, by simp [intOf]; omega⟩
          | false =>
            rw [hmb] at HMB
            have HNO := Lib.hid (fun t => checkE_no (t := t) (check_false (fun q => by have := q.2.2.2 i hlt; rw [hmb] at this; cases this)))
            generalize ci c i = z at k0 k1 k2 HMB
            obtain ⟨zo, zn, zx⟩ := z
            unfold insV at HMB
            simp only at k0 k1 k2 HMB
            clear hbW hmb HM
            go_wp2_with (first
              | (go_at_call 143; refine (HMB.out _).mono ?_; rintro e w2 ⟨rfl, hb2⟩; have HB2 := Lib.hid (chain5 HBW.out (chain5 (box5 _ _) hb2)); clear hb2))
            go_ret
            exact ⟨by rw [HNO.out]; rfl, HB2.out⟩
        · have hlt' : ¬ (i : Int) < (c.length : Int) := by omega
          have HYES := Lib.hid (fun t ht => checkE_yes (t := t) (check_parts.2 ⟨ht, by have := HN.out; omega, by omega, fun k hk => HM.out k (by omega)⟩))
          go_wp2
          go_ret
          exact ⟨by rw [HYES.out _ (by first | exact .inl rfl | exact .inr rfl)]; rfl, HBW.out⟩)
  · rw [checkE_no (check_false (fun q => ht q.1))]
    have h1 : (t != 1) = true := by simpa using fun q => ht (.inl q)
    have h2 : (t != 2) = true := by simpa using fun q => ht (.inr q)
    clear hc ht
    go_enter Tryz.func114, Tryz.ntmps114
    go_wp2
    go_ret
    exact ⟨rfl, box5 _ _⟩
end Go.Proofs.YtninicfnhoediaaGreatDoor
namespace Go.Proofs.YtninicfnhoediaaGreatDoor
open Go.ChangeShapes Go.WideShapes Go.ChangeAt Go.RowKit Num
attribute [local go_sem] run_store_float
structure Rp where
  th : Int
  tg : Int
  pk : Option Addr
  nk : Nat
  ck : Nat
  bad : Bool
  pa : Option Addr
  na : Nat
  ca : Nat
  ps : Option Addr
  cs : Nat
  pc : Option Addr
  cc : Nat
  bl : Nat
  cl : Nat
  pt : Option Addr
  ct : Nat
  pr : Option Addr
  cr : Nat
  pb : Option Addr
  cb : Nat
def rboxV (m : Mac) (q : Rp) : Array Value := #[.int .i64 m.cells, .int .i64 q.th, .int .i64 m.fuel, .int .i64 m.wmax, .int .i64 q.tg, .slice q.pk q.nk q.ck, .bool q.bad, .slice q.pa q.na q.ca, .slice q.ps m.st.length q.cs, .slice q.pc m.calls.length q.cc, .slice (some ⟨q.bl, 0, none⟩) 8 q.cl,
  .int .i64 m.place, .int .i64 m.used, .int .i64 m.wait, .int .i64 m.how, .int .i64 m.cod, .int .i64 m.err, .slice q.pt m.out.length q.ct, .slice q.pr m.reads.length q.cr, .slice q.pb m.buf.length q.cb]
theorem fMake8 (w : World) : (Instr.makeSlice 27 (.int .i64 8) (.int .i64 8)).run Tryz.prog w = .ok (.slice (some ⟨w.heap.size, 0, none⟩) 8 8) (w.alloc (.cells #[.float .f64 0, .float .f64 0, .float .f64 0, .float .f64 0, .float .f64 0, .float .f64 0, .float .f64 0, .float .f64 0] 71)) := fMake 8 (by omega) w
section
variable {w : World}
set_option maxHeartbeats 600000 in
set_option maxRecDepth 100000 in
theorem rnew_cfg (a b c e t : Int) (ao : Option Addr) (n cap : Nat) (po : Option Addr) (k co : Nat) (hc : Md.cfgB a b c e = false) : Calls Tryz.prog 77 #[cfgV a b c e, .agg #[.int .i64 t, .slice ao n cap], .slice po k co] w fun r w' => r = .returned (.pointer none) ∧ Below w.heap.size w w' := by
  have HP := Lib.hid (Md.refPlace_any a b c e (newW w a b c e t ao n cap))
  rw [hc] at HP
  clear hc
  go_enter Tryz.func77, Tryz.ntmps77
  go_wp2_with (go_at_call 38; refine HP.out.mono ?_; rw [if_neg Bool.false_ne_true]; rintro r u0 ⟨rfl, q⟩; have HQ := Lib.hid (newW_boxes q).2.2; clear q HP)
  go_ret
  exact ⟨rfl, HQ.out.alloc HQ.out.size _⟩
set_option maxHeartbeats 600000 in
set_option maxRecDepth 100000 in
theorem rnew_args (a b c e t : Int) (ao : Option Addr) (n cap : Nat) (po : Option Addr) (k co : Nat) (hc : Md.cfgB a b c e = true) (hk : 8 < k) : Calls Tryz.prog 77 #[cfgV a b c e, .agg #[.int .i64 t, .slice ao n cap], .slice po k co] w fun r w' => r = .returned (.pointer none) ∧ Below w.heap.size w w' := by
  have HP := Lib.hid (Md.refPlace_any a b c e (newW w a b c e t ao n cap))
  rw [hc] at HP
  have hk' : (8 : Int) < (k : Int) := by omega
  clear hc
  go_enter Tryz.func77, Tryz.ntmps77
  go_wp2_with (go_at_call 38; refine HP.out.mono ?_; rw [if_pos rfl]; rintro r u0 ⟨rfl, q⟩; have HQ := Lib.hid (newW_boxes q).2.2; clear q HP)
  go_ret
  exact ⟨rfl, HQ.out.alloc HQ.out.size _⟩
theorem newW_boxes4 {w u : World} {a b c e t : Int} {ao : Option Addr} {n cap : Nat} (h : Below (newW w a b c e t ao n cap).heap.size (newW w a b c e t ao n cap) u) :
    u.cell? ⟨w.heap.size, 0, none⟩ = some (.int .i64 a) ∧ u.cell? ⟨w.heap.size, 1, none⟩ = some (.int .i64 b) ∧ u.cell? ⟨w.heap.size, 2, none⟩ = some (.int .i64 c) ∧ u.cell? ⟨w.heap.size, 3, none⟩ = some (.int .i64 e) ∧ w.heap.size < u.heap.size := by
  have b1 : u.heap[w.heap.size]? = some (cfgO a b c e) := (h.block _ (by simp; omega)).trans ((heap_alloc_old _ _ (by simp)).trans (heap_alloc_new w _))
  exact Md.cells4 b1
abbrev locO : Obj := .cells #[.float .f64 0, .float .f64 0, .float .f64 0, .float .f64 0, .float .f64 0, .float .f64 0, .float .f64 0, .float .f64 0] 71
abbrev rbO (m : Mac) (q : Rp) : Obj := .cells (rboxV m q) 116
structure RNew (w wr : World) (m : Mac) (q : Rp) (br : Nat) (l : List Nat) : Prop where
  box : wr.heap[br]? = some (rbO m q)
  loc : wr.heap[q.bl]? = some locO
  row : RowAt 71 wr q.pa q.ca (fls l)
  na : q.na = l.length
  ne : br ≠ q.bl
  n1 : br ∉ fpR q.pa
  n2 : q.bl ∉ fpR q.pa
  a1 : w.heap.size ≤ br
  a2 : w.heap.size ≤ q.bl
  a3 : Abv w.heap.size (fpR q.pa)
  bl : Below w.heap.size w wr
theorem RNew.more {w wr w3 : World} {m : Mac} {q : Rp} {br x : Nat} {l : List Nat} {v : Value} {o : Obj} (h : RNew w wr m q br l) (hown : w3.ownsRow 0 71 1 v (l.length + 1) (fls l ++ [.float .f64 x])) (hg : (wr.alloc o).grownBy w3 (Value.slice q.pa l.length q.ca).ownBlock) (hat : v.ownBlock = (Value.slice q.pa l.length q.ca).ownBlock ∨ v.ownBlock = some (wr.alloc o).heap.size) :
    ∃ p' c', v = .slice p' (l.length + 1) c' ∧ w3.heap[br]? = some (rbO m q) ∧ RNew w (w3.setCell ⟨br, 7, none⟩ (.slice p' (l.length + 1) c')) m { q with pa := p', na := l.length + 1, ca := c' } br (l ++ [x]) := by
  obtain ⟨p', c', rfl, hr⟩ := ownsRow_slice hown
  have hl : (fls l ++ [Value.float .f64 x]).length = l.length + 1 := by simp [fls_len]
  rw [hl] at hat ⊢
  have g : wr.grownBy w3 (Value.slice q.pa l.length q.ca).ownBlock := (World.grownBy_alloc wr o _).trans hg
  have ho : ∀ k, k ∈ fpR p' → k ∈ fpR q.pa ∨ wr.heap.size ≤ k := own_at hat (by simp)
  have hb3 : w3.heap[br]? = some (rbO m q) := (g.block br (lt_of_block h.box) (fun z => h.n1 (own_fpR.2 z.symm))).trans h.box
  have hl3 : w3.heap[q.bl]? = some locO := (g.block q.bl (lt_of_block h.loc) (fun z => h.n2 (own_fpR.2 z.symm))).trans h.loc
  have m1 : br ∉ fpR p' := fun z => (ho br z).elim h.n1 (fun y => absurd (lt_of_block h.box) (Nat.not_lt.2 y))
  have m2 : q.bl ∉ fpR p' := fun z => (ho q.bl z).elim h.n2 (fun y => absurd (lt_of_block h.loc) (Nat.not_lt.2 y))
  have hsz := h.bl.size
  have hgs := g.size
  refine ⟨p', c', rfl, hb3, ⟨?_, ?_, ?_, by simp, h.ne, m1, m2, h.a1, h.a2, fun k hk => (ho k hk).elim (h.a3 k) (fun y => by omega), ?_⟩⟩
  · exact (heap_setCell_same w3 br 7 _ _ _ hb3).trans rfl
  · exact (heap_setCell_other _ _ _ _ (by simpa using h.ne.symm)).trans hl3
  · rw [fls_snoc]
    exact hr.keep ⟨by simp, fun k hk => heap_setCell_other _ _ _ _ (by rintro rfl; exact m1 hk)⟩
  · refine ⟨g.os.trans h.bl.os, g.tape.trans h.bl.tape, g.output.trans h.bl.output, by simp; omega, fun k hk => ?_⟩
    have e1 : k ≠ br := by have := h.a1; omega
    have e2 : (some k : Option Nat) ≠ (Value.slice q.pa l.length q.ca).ownBlock := fun z => by have := h.a3 k (own_fpR.2 z.symm); omega
    exact (heap_setCell_other _ _ _ _ (by simpa using e1)).trans ((g.block k (by omega) e2).trans (h.bl.block k hk))
theorem eight_take (f : Nat → Nat) {j : Nat} (h : j < 8) : (eight f).take (j + 1) = (eight f).take j ++ [f j] := by
  match j, h with
  | 0, _ => rfl
  | 1, _ => rfl
  | 2, _ => rfl
  | 3, _ => rfl
  | 4, _ => rfl
  | 5, _ => rfl
  | 6, _ => rfl
  | 7, _ => rfl
theorem eight_len (f : Nat → Nat) {j : Nat} (h : j ≤ 8) : ((eight f).take j).length = j := by rw [List.length_take]; simp [eight]; omega
def rq0 (b t : Int) (ao : Option Addr) (n cap : Nat) (bad : Bool) (bl : Nat) : Rp := ⟨b, t, ao, n, cap, bad, none, 0, 0, none, 0, none, 0, bl, 8, none, 0, none, 0, none, 0⟩
theorem bl_same0 {N u : World} (h : Below N.heap.size N u) : Below N.heap.size N u.drew := h.trans ((Same.drew _).below _)
theorem bl_alloc0 {N u : World} (h : Below N.heap.size N u) (o : Obj) : Below N.heap.size N (u.drew.alloc o) := (bl_same0 h).alloc (bl_same0 h).size o
theorem start_a {w v : World} (h : Below w.heap.size w v) {m : Mac} {b t : Int} {ao : Option Addr} {n cap : Nat} {bad : Bool} : RNew w ((v.alloc locO).alloc (rbO m (rq0 b t ao n cap bad v.heap.size))) m (rq0 b t ao n cap bad v.heap.size) (v.heap.size + 1) [] := by
  have hs := h.size
  refine ⟨heap_new (by simp), (heap_alloc_old _ _ (by simp [rq0])).trans (heap_new rfl), ⟨World.ownsRow_nil _ _ _ _⟩, rfl, by simp [rq0], by simp [fpR, rq0], by simp [fpR, rq0], by omega, by show w.heap.size ≤ v.heap.size; omega, fun k hk => by simp [fpR, rq0] at hk, ?_⟩
  exact (h.alloc h.size _).alloc (by simp; omega) _
theorem start_b {w v : World} (h : Below w.heap.size w v) {m : Mac} {b t : Int} {ao : Option Addr} {n cap bl : Nat} {bad : Bool} (hl : v.heap[bl]? = some locO) (ha : w.heap.size ≤ bl) : RNew w (v.alloc (rbO m (rq0 b t ao n cap bad bl))) m (rq0 b t ao n cap bad bl) v.heap.size [] := by
  have hs := h.size
  have hlt := lt_of_block hl
  refine ⟨heap_new rfl, (heap_alloc_old _ _ hlt).trans hl, ⟨World.ownsRow_nil _ _ _ _⟩, rfl, by show v.heap.size ≠ bl; omega, by simp [fpR, rq0], by simp [fpR, rq0], by omega, ha, fun k hk => by simp [fpR, rq0] at hk, h.alloc h.size _⟩
set_option maxHeartbeats 1000000 in
set_option maxRecDepth 100000 in
theorem rnew_some {a b c e t : Int} {ao : Option Addr} {cs : List Ins} {n cap : Nat} {po : Option Addr} {l : List Nat} {k co : Nat} (hc : Md.cfgB a b c e = true) (hn : cs.length = n) (hk : l.length = k) (hk8 : k ≤ 8) (hC : CodeAt w ao cs) (hL : FlAt w po l) (hnl : n ≤ 9223372036854775807) : Calls Tryz.prog 77 #[cfgV a b c e, .agg #[.int .i64 t, .slice ao n cap], .slice po k co] w fun r w' => ∃ br bl pa ca, r = .returned (.pointer (some ⟨br, 0, none⟩)) ∧ RNew w w' (newM a c e t cs l) { rq0 b t ao n cap (!checkB t cs) bl with pa := pa, na := 8, ca := ca } br (eight (argF l)) := by
  have HP := Lib.hid (Md.refPlace_any a b c e (newW w a b c e t ao n cap))
  rw [hc] at HP
  have hk' : ¬ (8 : Int) < (k : Int) := by omega
  have HCK : Hid (∀ u, Below w.heap.size w u → Calls Tryz.prog 114 #[.agg #[.int .i64 t, .slice ao n cap]] u fun r w' => r = .returned (.int .i64 (checkE t cs)) ∧ Below u.heap.size u w') := fun u hb => by
    have := refCheck_any t cap (hC.on hb) (by omega)
    rw [hn] at this
    exact this
  have HBD : Hid ((checkE t cs != 0) = !checkB t cs) := by
    show _ = _
    cases hq : checkB t cs
    · rw [checkE_no hq]; rfl
    · rw [checkE_yes hq]; rfl
  have HL := Lib.hid (And.intro hL (And.intro hk hk8))
  have HNW : Hid (w.heap.size ≤ (newW w a b c e t ao n cap).heap.size) := by show _ ≤ _; simp; omega
  have hmk := fMake8
  obtain ⟨i0, hi, hz0, hz1, hz2⟩ := info_parts fInfo
  have HZI := Lib.hid (And.intro hi (And.intro hz0 (And.intro hz1 hz2)))
  clear hc hC hL hnl hi hz0 hz1 hz2
  generalize checkE t cs = ce at HCK HBD
  go_enter Tryz.func77, Tryz.ntmps77
  go_wp2_with (go_at_call 38; refine HP.out.mono ?_; rw [if_pos rfl]; rintro r u0 ⟨rfl, q⟩; obtain ⟨x0, x1, x2, x3, x4⟩ := newW_boxes4 q; obtain ⟨_, ⟨y0, y1, y2⟩, z0⟩ := newW_boxes q; have B0 := Lib.hid (q.alloc q.size (.cells #[.int .i64 0, .int .i64 1, .int .i64 2, .int .i64 3, .int .i64 (3 + b), .int .i64 (3 + b + 3 * a)] 51)); clear q HP z0)
  go_region_held (fun w' => w'.cell? ⟨w.heap.size, 0, none⟩ = some (.int .i64 a) ∧ w'.cell? ⟨w.heap.size, 1, none⟩ = some (.int .i64 b) ∧ w'.cell? ⟨w.heap.size, 2, none⟩ = some (.int .i64 c) ∧ w'.cell? ⟨w.heap.size, 3, none⟩ = some (.int .i64 e) ∧ w'.cell? ⟨w.heap.size + 1, 0, none⟩ = some (.int .i64 t) ∧ w'.cell? ⟨w.heap.size + 1, 1, none⟩ = some (.slice ao n cap)) (go_keep) (first
    | (go_at_call 114; refine (HCK.out _ (newW_boxes (bl_same0 B0.out)).2.2).mono ?_; rintro r v1 ⟨rfl, d1⟩; have d2 := (bl_same0 B0.out).trans (d1.mono (bl_same0 B0.out).size); obtain ⟨x0, x1, x2, x3, x4⟩ := newW_boxes4 d2; obtain ⟨_, ⟨y0, y1, y2⟩, z0⟩ := newW_boxes d2; have B1 := Lib.hid (And.intro d2 d1); clear d1 d2 z0)
    | (go_at_call 114; refine (HCK.out _ (newW_boxes (bl_alloc0 B0.out locO)).2.2).mono ?_; rintro r v1 ⟨rfl, d1⟩; have d2 := (bl_alloc0 B0.out locO).trans (d1.mono (bl_alloc0 B0.out locO).size); obtain ⟨x0, x1, x2, x3, x4⟩ := newW_boxes4 d2; obtain ⟨_, ⟨y0, y1, y2⟩, z0⟩ := newW_boxes d2; have B1 := Lib.hid (And.intro d2 d1); clear d1 d2 z0))
  all_goals go_wp2
  · have HS0 : Hid (RNew w ((v1.alloc locO).alloc (rbO (newM a c e t cs l) (rq0 b t ao n cap (ce != 0) (v1.heap.size)))) (newM a c e t cs l) (rq0 b t ao n cap (ce != 0) (v1.heap.size)) (v1.heap.size + 1) []) := start_a (newW_boxes B1.out.1).2.2
    go_loopw [10] (fun vi wr => ∃ j : Nat, vi = .int .i64 j ∧ j ≤ 8 ∧ Hid (∃ pa ca, RNew w wr (newM a c e t cs l) { rq0 b t ao n cap (ce != 0) (v1.heap.size) with pa := pa, na := j, ca := ca } (v1.heap.size + 1) ((eight (argF l)).take j))) (fun vi _ => 8 - (intOf vi).toNat)
    case atStart => exact ⟨0, rfl, by omega, none, 0, HS0.out⟩
    case round =>
      obtain ⟨j, rfl, hj, HR⟩ := hrel
      obtain ⟨pa, ca, hr⟩ := HR.out
      by_cases hlt : j < 8
      · have hlt' : (j : Int) < 8 := by omega
        have hl := eight_len (argF l) (j := j) (by omega)
        have HE := Lib.hid (eight_take (argF l) hlt)
        have HBW : Hid (Below w.heap.size w wr) := hr.bl
        have h7 : wr.cell? ⟨v1.heap.size + 1, 7, none⟩ = some (.slice pa j ca) := by rw [cell_of_row wr _ 7 _ _ _ hr.box]; rfl
        have hbr := lt_of_block hr.box
        have HO : Hid (wr.ownsRow 0 71 1 (.slice pa j ca) j (fls ((eight (argF l)).take j))) := by
          have := hr.row.own
          rw [fls_len, hl] at this
          exact this
        have HM : Hid (∀ w3 v o x, w3.ownsRow 0 71 1 v (j + 1) (fls ((eight (argF l)).take j) ++ [.float .f64 x]) → (wr.alloc o).grownBy w3 (Value.slice pa j ca).ownBlock → (v.ownBlock = (Value.slice pa j ca).ownBlock ∨ v.ownBlock = some (wr.alloc o).heap.size) → ∃ p' c', v = .slice p' (j + 1) c' ∧ w3.heap[v1.heap.size + 1]? = some (rbO (newM a c e t cs l) { rq0 b t ao n cap (ce != 0) (v1.heap.size) with pa := pa, na := j, ca := ca }) ∧ RNew w (w3.setCell ⟨v1.heap.size + 1, 7, none⟩ (.slice p' (j + 1) c')) (newM a c e t cs l) { rq0 b t ao n cap (ce != 0) (v1.heap.size) with pa := p', na := j + 1, ca := c' } (v1.heap.size + 1) ((eight (argF l)).take j ++ [x])) := fun w3 v o x q1 q2 q3 => by
          have := hr.more (w3 := w3) (v := v) (x := x) (o := o) (by rw [hl]; exact q1) (by rw [hl]; exact q2) (by rw [hl]; exact q3)
          rw [hl] at this
          exact this
        clear HR hr
        have AP : True := True.intro
        by_cases hjk : j < k
        · have hjk' : (j : Int) < (k : Int) := by omega
          obtain ⟨g, o, hpo, hg, hcell⟩ := (HL.out.1.on HBW.out) j (by omega)
          subst hpo
          have HX : Hid (argF l j = fixB (l.getD j 0)) := rfl
          generalize l.getD j 0 = y at hcell HX
          clear HCK B0 B1
          go_wp2_with (first
            | (go_at_call 78; refine (refFix_any _ _).mono ?_; rintro r u ⟨rfl, hu⟩; subst u)
            | (at_builtin; refine wpList_append_own_at _ rfl _ _ 27 rfl 0 71 i0 (.float .f64 0) 1 8 Tryz.underlying27 HZI.out.1 HZI.out.2.1 HZI.out.2.2.1 HZI.out.2.2.2 rfl (by decide) _ j (fls ((eight (argF l)).take j)) rfl (World.ownsRow.alloc HO.out _) ⟨wr.heap.size, 0, none⟩ 1 1 [.float .f64 (fixB y)] rfl rfl (cell_one_new _ _ _) (fun u hu => by simp at hu; subst hu; rfl) (by unfold maxLen; omega) (by omega) (Nat.zero_le _) ?_; intro v3 w3 hown3 hgrow3 hnil3 hat3; obtain ⟨p', c', hv3, k1, k2⟩ := HM.out _ _ _ _ hown3 hgrow3 hat3; subst hv3; have c7 : w3.cell? ⟨v1.heap.size + 1, 7, none⟩ = some (.slice pa j ca) := (by rw [cell_of_row w3 _ 7 _ _ _ k1]; rfl); have f7 := frozen_of_row w3 _ 7 _ _ k1; have l7 := lt_of_block k1; have HK := Lib.hid k2; clear hown3 hgrow3 hnil3 hat3 k1 k2 HM))
          refine ⟨⟨j + 1, by first | rfl | (congr 1), by omega, p', c', ?_⟩, by simp [intOf]; omega⟩
          rw [HE.out, HX.out]
          exact HK.out
        · have hjk' : ¬ (j : Int) < (k : Int) := by omega
          have HX : Hid (argF l j = 0) := by
            show fixB (l.getD j 0) = 0
            rw [List.getD_eq_getElem?_getD, List.getElem?_eq_none (by omega)]
            exact fix0
          clear HCK B0 B1
          go_wp2_with (at_builtin; refine wpList_append_own_at _ rfl _ _ 27 rfl 0 71 i0 (.float .f64 0) 1 8 Tryz.underlying27 HZI.out.1 HZI.out.2.1 HZI.out.2.2.1 HZI.out.2.2.2 rfl (by decide) _ j (fls ((eight (argF l)).take j)) rfl (World.ownsRow.alloc HO.out _) ⟨wr.heap.size, 0, none⟩ 1 1 [.float .f64 0] rfl rfl (cell_one_new _ _ _) (fun u hu => by simp at hu; subst hu; rfl) (by unfold maxLen; omega) (by omega) (Nat.zero_le _) ?_; intro v3 w3 hown3 hgrow3 hnil3 hat3; obtain ⟨p', c', hv3, k1, k2⟩ := HM.out _ _ _ _ hown3 hgrow3 hat3; subst hv3; have c7 : w3.cell? ⟨v1.heap.size + 1, 7, none⟩ = some (.slice pa j ca) := (by rw [cell_of_row w3 _ 7 _ _ _ k1]; rfl); have f7 := frozen_of_row w3 _ 7 _ _ k1; have l7 := lt_of_block k1; have HK := Lib.hid k2; clear hown3 hgrow3 hnil3 hat3 k1 k2 HM)
          refine ⟨⟨j + 1, by first | rfl | (congr 1), by omega, p', c', ?_⟩, by simp [intOf]; omega⟩
          rw [HE.out, HX.out]
          exact HK.out
      · have hlt' : ¬ (j : Int) < 8 := by omega
        have e : j = 8 := by omega
        subst e
        have HF : Hid (RNew w wr (newM a c e t cs l) { rq0 b t ao n cap (!checkB t cs) (v1.heap.size) with pa := pa, na := 8, ca := ca } (v1.heap.size + 1) (eight (argF l))) := by
          have := hr
          rw [HBD.out] at this
          exact this
        clear HR hr HCK B0 B1
        go_wp2
        go_ret
        exact ⟨_, rfl, _, _, _, HF.out⟩
  · have HS0 : Hid (RNew w (v1.alloc (rbO (newM a c e t cs l) (rq0 b t ao n cap (ce != 0) (u0.heap.size + 1)))) (newM a c e t cs l) (rq0 b t ao n cap (ce != 0) (u0.heap.size + 1)) (v1.heap.size) []) := start_b (newW_boxes B1.out.1).2.2 ((B1.out.2.block _ (by simp)).trans (heap_new (by simp))) (by have := B0.out.size; have := HNW.out; simp at *; omega)
    go_loopw [10] (fun vi wr => ∃ j : Nat, vi = .int .i64 j ∧ j ≤ 8 ∧ Hid (∃ pa ca, RNew w wr (newM a c e t cs l) { rq0 b t ao n cap (ce != 0) (u0.heap.size + 1) with pa := pa, na := j, ca := ca } (v1.heap.size) ((eight (argF l)).take j))) (fun vi _ => 8 - (intOf vi).toNat)
    case atStart => exact ⟨0, rfl, by omega, none, 0, HS0.out⟩
    case round =>
      obtain ⟨j, rfl, hj, HR⟩ := hrel
      obtain ⟨pa, ca, hr⟩ := HR.out
      by_cases hlt : j < 8
      · have hlt' : (j : Int) < 8 := by omega
        have hl := eight_len (argF l) (j := j) (by omega)
        have HE := Lib.hid (eight_take (argF l) hlt)
        have HBW : Hid (Below w.heap.size w wr) := hr.bl
        have h7 : wr.cell? ⟨v1.heap.size, 7, none⟩ = some (.slice pa j ca) := by rw [cell_of_row wr _ 7 _ _ _ hr.box]; rfl
        have hbr := lt_of_block hr.box
        have HO : Hid (wr.ownsRow 0 71 1 (.slice pa j ca) j (fls ((eight (argF l)).take j))) := by
          have := hr.row.own
          rw [fls_len, hl] at this
          exact this
        have HM : Hid (∀ w3 v o x, w3.ownsRow 0 71 1 v (j + 1) (fls ((eight (argF l)).take j) ++ [.float .f64 x]) → (wr.alloc o).grownBy w3 (Value.slice pa j ca).ownBlock → (v.ownBlock = (Value.slice pa j ca).ownBlock ∨ v.ownBlock = some (wr.alloc o).heap.size) → ∃ p' c', v = .slice p' (j + 1) c' ∧ w3.heap[v1.heap.size]? = some (rbO (newM a c e t cs l) { rq0 b t ao n cap (ce != 0) (u0.heap.size + 1) with pa := pa, na := j, ca := ca }) ∧ RNew w (w3.setCell ⟨v1.heap.size, 7, none⟩ (.slice p' (j + 1) c')) (newM a c e t cs l) { rq0 b t ao n cap (ce != 0) (u0.heap.size + 1) with pa := p', na := j + 1, ca := c' } (v1.heap.size) ((eight (argF l)).take j ++ [x])) := fun w3 v o x q1 q2 q3 => by
          have := hr.more (w3 := w3) (v := v) (x := x) (o := o) (by rw [hl]; exact q1) (by rw [hl]; exact q2) (by rw [hl]; exact q3)
          rw [hl] at this
          exact this
        clear HR hr
        have AP : True := True.intro
        by_cases hjk : j < k
        · have hjk' : (j : Int) < (k : Int) := by omega
          obtain ⟨g, o, hpo, hg, hcell⟩ := (HL.out.1.on HBW.out) j (by omega)
          subst hpo
          have HX : Hid (argF l j = fixB (l.getD j 0)) := rfl
          generalize l.getD j 0 = y at hcell HX
          clear HCK B0 B1
          go_wp2_with (first
            | (go_at_call 78; refine (refFix_any _ _).mono ?_; rintro r u ⟨rfl, hu⟩; subst u)
            | (at_builtin; refine wpList_append_own_at _ rfl _ _ 27 rfl 0 71 i0 (.float .f64 0) 1 8 Tryz.underlying27 HZI.out.1 HZI.out.2.1 HZI.out.2.2.1 HZI.out.2.2.2 rfl (by decide) _ j (fls ((eight (argF l)).take j)) rfl (World.ownsRow.alloc HO.out _) ⟨wr.heap.size, 0, none⟩ 1 1 [.float .f64 (fixB y)] rfl rfl (cell_one_new _ _ _) (fun u hu => by simp at hu; subst hu; rfl) (by unfold maxLen; omega) (by omega) (Nat.zero_le _) ?_; intro v3 w3 hown3 hgrow3 hnil3 hat3; obtain ⟨p', c', hv3, k1, k2⟩ := HM.out _ _ _ _ hown3 hgrow3 hat3; subst hv3; have c7 : w3.cell? ⟨v1.heap.size, 7, none⟩ = some (.slice pa j ca) := (by rw [cell_of_row w3 _ 7 _ _ _ k1]; rfl); have f7 := frozen_of_row w3 _ 7 _ _ k1; have l7 := lt_of_block k1; have HK := Lib.hid k2; clear hown3 hgrow3 hnil3 hat3 k1 k2 HM))
          refine ⟨⟨j + 1, by first | rfl | (congr 1), by omega, p', c', ?_⟩, by simp [intOf]; omega⟩
          rw [HE.out, HX.out]
          exact HK.out
        · have hjk' : ¬ (j : Int) < (k : Int) := by omega
          have HX : Hid (argF l j = 0) := by
            show fixB (l.getD j 0) = 0
            rw [List.getD_eq_getElem?_getD, List.getElem?_eq_none (by omega)]
            exact fix0
          clear HCK B0 B1
          go_wp2_with (at_builtin; refine wpList_append_own_at _ rfl _ _ 27 rfl 0 71 i0 (.float .f64 0) 1 8 Tryz.underlying27 HZI.out.1 HZI.out.2.1 HZI.out.2.2.1 HZI.out.2.2.2 rfl (by decide) _ j (fls ((eight (argF l)).take j)) rfl (World.ownsRow.alloc HO.out _) ⟨wr.heap.size, 0, none⟩ 1 1 [.float .f64 0] rfl rfl (cell_one_new _ _ _) (fun u hu => by simp at hu; subst hu; rfl) (by unfold maxLen; omega) (by omega) (Nat.zero_le _) ?_; intro v3 w3 hown3 hgrow3 hnil3 hat3; obtain ⟨p', c', hv3, k1, k2⟩ := HM.out _ _ _ _ hown3 hgrow3 hat3; subst hv3; have c7 : w3.cell? ⟨v1.heap.size, 7, none⟩ = some (.slice pa j ca) := (by rw [cell_of_row w3 _ 7 _ _ _ k1]; rfl); have f7 := frozen_of_row w3 _ 7 _ _ k1; have l7 := lt_of_block k1; have HK := Lib.hid k2; clear hown3 hgrow3 hnil3 hat3 k1 k2 HM)
          refine ⟨⟨j + 1, by first | rfl | (congr 1), by omega, p', c', ?_⟩, by simp [intOf]; omega⟩
          rw [HE.out, HX.out]
          exact HK.out
      · have hlt' : ¬ (j : Int) < 8 := by omega
        have e : j = 8 := by omega
        subst e
        have HF : Hid (RNew w wr (newM a c e t cs l) { rq0 b t ao n cap (!checkB t cs) (u0.heap.size + 1) with pa := pa, na := 8, ca := ca } (v1.heap.size) (eight (argF l))) := by
          have := hr
          rw [HBD.out] at this
          exact this
        clear HR hr HCK B0 B1
        go_wp2
        go_ret
        exact ⟨_, rfl, _, _, _, HF.out⟩
end
end Go.Proofs.YtninicfnhoediaaGreatDoor
namespace Go.Proofs.YtninicfnhoediaaGreatDoor
open Go.ChangeShapes Go.WideShapes Go.ChangeAt Go.RowKit Num
structure Like (m m' : Mac) : Prop where
  cells : m'.cells = m.cells
  fuel : m'.fuel = m.fuel
  wmax : m'.wmax = m.wmax
  upd : m'.upd = m.upd
  code : m'.code = m.code
def Ends (_m : Mac) (r : Mac × Ask) : Prop := r.2.kind = 4 ∧ r.1.how ≠ 0 ∧ ¬ 0 ≤ r.1.wait
def Waits (m : Mac) (r : Mac × Ask) : Prop := r.2.kind = 1 ∧ r.2.cell = r.1.wait ∧ 0 ≤ r.1.wait ∧ r.1.how = 0 ∧ r.1.used = m.used + 1
def Goes (m : Mac) (r : Mac × Ask) : Prop := (r.2.kind = 0 ∨ r.2.kind = 2 ∨ r.2.kind = 3) ∧ ¬ 0 ≤ r.1.wait ∧ r.1.how = 0 ∧ r.1.used = m.used + 1
def Turns (m : Mac) (r : Mac × Ask) : Prop := Like m r.1 ∧ (Ends m r ∨ Waits m r ∨ Goes m r)
section
variable {m : Mac}
theorem fails_turns (hw : ¬ 0 ≤ m.wait) (e : Int) : Turns m (failM m e) := ⟨⟨rfl, rfl, rfl, rfl, rfl⟩, .inl ⟨rfl, by show (3 : Int) ≠ 0; decide, hw⟩⟩
theorem fails_begun (hw : ¬ 0 ≤ m.wait) (e : Int) : Turns m (failM (begM m) e) := ⟨⟨rfl, rfl, rfl, rfl, rfl⟩, .inl ⟨rfl, by show (3 : Int) ≠ 0; decide, hw⟩⟩
theorem do_turns (hw : ¬ 0 ≤ m.wait) (h0 : m.how = 0) (hcl : m.cells ≤ 256) {k : Nat} {n : Int} {x : Nat} (hk : 1 ≤ k ∧ k < 21) : Turns m (doM (begM m) ⟨k, n, x⟩) := by
  have hkk : k = 1 ∨ k = 2 ∨ k = 3 ∨ k = 4 ∨ k = 5 ∨ k = 6 ∨ k = 7 ∨ k = 8 ∨ k = 9 ∨ k = 10 ∨ k = 11 ∨ k = 12 ∨ k = 13 ∨ k = 14 ∨ k = 15 ∨ k = 16 ∨ k = 17 ∨ k = 18 ∨ k = 19 ∨ k = 20 := by omega
  rcases hkk with rfl | rfl | rfl | rfl | rfl | rfl | rfl | rfl | rfl | rfl | rfl | rfl | rfl | rfl | rfl | rfl | rfl | rfl | rfl | rfl
  · exact ⟨⟨rfl, rfl, rfl, rfl, rfl⟩, .inr (.inr ⟨.inl rfl, hw, h0, rfl⟩)⟩
  · exact ⟨⟨rfl, rfl, rfl, rfl, rfl⟩, .inr (.inr ⟨.inl rfl, hw, h0, rfl⟩)⟩
  · exact ⟨⟨rfl, rfl, rfl, rfl, rfl⟩, .inr (.inr ⟨.inl rfl, hw, h0, rfl⟩)⟩
  · exact ⟨⟨rfl, rfl, rfl, rfl, rfl⟩, .inr (.inr ⟨.inl rfl, hw, h0, rfl⟩)⟩
  · exact ⟨⟨rfl, rfl, rfl, rfl, rfl⟩, .inr (.inr ⟨.inl rfl, hw, h0, rfl⟩)⟩
  · exact ⟨⟨rfl, rfl, rfl, rfl, rfl⟩, .inr (.inr ⟨.inl rfl, hw, h0, rfl⟩)⟩
  · exact ⟨⟨rfl, rfl, rfl, rfl, rfl⟩, .inr (.inr ⟨.inl rfl, hw, h0, rfl⟩)⟩
  · exact ⟨⟨rfl, rfl, rfl, rfl, rfl⟩, .inr (.inr ⟨.inl rfl, hw, h0, rfl⟩)⟩
  · exact ⟨⟨rfl, rfl, rfl, rfl, rfl⟩, .inr (.inr ⟨.inl rfl, hw, h0, rfl⟩)⟩
  · exact ⟨⟨rfl, rfl, rfl, rfl, rfl⟩, .inr (.inr ⟨.inl rfl, hw, h0, rfl⟩)⟩
  · exact ⟨⟨rfl, rfl, rfl, rfl, rfl⟩, .inr (.inr ⟨.inl rfl, hw, h0, rfl⟩)⟩
  · exact ⟨⟨rfl, rfl, rfl, rfl, rfl⟩, .inr (.inr ⟨.inl rfl, hw, h0, rfl⟩)⟩
  · exact ⟨⟨rfl, rfl, rfl, rfl, rfl⟩, .inr (.inr ⟨.inl rfl, hw, h0, rfl⟩)⟩
  · exact ⟨⟨rfl, rfl, rfl, rfl, rfl⟩, .inr (.inr ⟨.inl rfl, hw, h0, rfl⟩)⟩
  · show Turns m (retM (begM m))
    cases hc : (begM m).calls with
    | nil =>
      rw [retM_nil hc]
      exact ⟨⟨rfl, rfl, rfl, rfl, rfl⟩, .inl ⟨rfl, by show (1 : Int) ≠ 0; decide, hw⟩⟩
    | cons c q =>
      rw [retM_cons hc]
      exact ⟨⟨rfl, rfl, rfl, rfl, rfl⟩, .inr (.inr ⟨.inl rfl, hw, h0, rfl⟩)⟩
  · show Turns m (readM (begM m))
    unfold readM
    cases ha : addrB (begM m) with
    | false => exact fails_begun hw 50
    | true =>
      have hid := idx_wf ((begM m).st.getD 0 0) (n := m.cells) hcl ha
      cases hh : hasC (begM m).buf (addrV (begM m)) with
      | false =>
        rw [if_pos rfl, if_neg Bool.false_ne_true]
        exact ⟨⟨rfl, rfl, rfl, rfl, rfl⟩, .inr (.inl ⟨rfl, rfl, hid.1, h0, rfl⟩)⟩
      | true =>
        rw [if_pos rfl, if_pos rfl]
        exact ⟨⟨rfl, rfl, rfl, rfl, rfl⟩, .inr (.inr ⟨.inr (.inl rfl), hw, h0, rfl⟩)⟩
  · show Turns m (writeM (begM m))
    unfold writeM
    cases hu : (begM m).upd with
    | false => exact fails_begun hw 81
    | true =>
      cases ha : addrB (begM m) with
      | false => exact fails_begun hw 50
      | true =>
        cases hp : mayP (begM m).wmax (begM m).buf (addrV (begM m)) with
        | false => exact fails_begun hw 70
        | true =>
          rw [if_pos rfl, if_pos rfl, if_pos rfl]
          exact ⟨⟨rfl, rfl, rfl, hu.symm ▸ rfl, rfl⟩, .inr (.inr ⟨.inr (.inr rfl), hw, h0, rfl⟩)⟩
  · exact ⟨⟨rfl, rfl, rfl, rfl, rfl⟩, .inr (.inr ⟨.inl rfl, hw, h0, rfl⟩)⟩
  · exact ⟨⟨rfl, rfl, rfl, rfl, rfl⟩, .inl ⟨rfl, by show (2 : Int) ≠ 0; decide, hw⟩⟩
  · exact ⟨⟨rfl, rfl, rfl, rfl, rfl⟩, .inl ⟨rfl, by show (1 : Int) ≠ 0; decide, hw⟩⟩
theorem step_turns (h : Inv m) (hw : ¬ 0 ≤ m.wait) (h0 : m.how = 0) : Turns m (stepM m) := by
  unfold stepM
  rw [if_neg hw, if_pos h0]
  by_cases hf : m.used < m.fuel
  · rw [if_pos hf]
    by_cases hp : m.place < (m.code.length : Int)
    · rw [if_pos hp]
      have hk : m.place.toNat < m.code.length := by have := h.place; omega
      have hmay := h.may _ hk
      cases hr : roomB (begM m) (insM m) with
      | false => exact fails_begun hw 82
      | true =>
        rw [if_pos rfl]
        unfold insM
        rcases hci : ci m.code m.place.toNat with ⟨o, n, x⟩
        rw [hci] at hmay
        obtain ⟨q, hq⟩ : ∃ q : Nat, o = q := ⟨o.toNat, by have := hmay.1; unfold mayB knownB at this; simp at this; omega⟩
        subst hq
        exact do_turns hw h0 h.cells.2 (fits_parts hmay.1).1
    · rw [if_neg hp]
      exact fails_turns hw 50
  · rw [if_neg hf]
    exact fails_turns hw 80
theorem give_goes (hw : 0 ≤ m.wait) (x : Nat) : ¬ 0 ≤ (giveM m x).wait ∧ (giveM m x).how = m.how ∧ (giveM m x).used = m.used ∧ Like m (giveM m x) := by
  unfold giveM
  rw [if_pos hw]
  exact ⟨by show ¬ (0 : Int) ≤ -1; decide, rfl, rfl, ⟨rfl, rfl, rfl, rfl, rfl⟩⟩
end
end Go.Proofs.YtninicfnhoediaaGreatDoor
namespace Go.Proofs.YtninicfnhoediaaGreatDoor
open Go.ChangeShapes Go.WideShapes Go.ChangeAt Go.RowKit Num
attribute [local go_sem] run_store_float frombits_run bits_run
end Go.Proofs.YtninicfnhoediaaGreatDoor
namespace Go.Proofs.YtninicfnhoediaaGreatDoor
open Go.ChangeShapes Go.WideShapes Go.ChangeAt Go.RowKit Num
attribute [local go_sem] run_store_float
section
variable {w : World}
theorem mnew_any {a b c e t : Int} {ao : Option Addr} {cs : List Ins} {n cap : Nat} {po : Option Addr} {l : List Nat} {k co : Nat} (hn : cs.length = n) (hk : l.length = k) (hT : Shaped5 w) (hC : CodeAt w ao cs) (hL : FlAt w po l) (hnl : n ≤ 9223372036854775807) (hc : Md.cfgB a b c e = true) (hk8 : k ≤ 8) : Calls Tryz.prog 65 #[cfgV a b c e, .agg #[.int .i64 t, .slice ao n cap], .slice po k co] w fun r w' => ∃ bm K, r = .returned (.pointer (some ⟨bm, 0, none⟩)) ∧ Gm w [] bm K w' (newM a c e t cs l) ∧ Abv w.heap.size K := by
  cases hq : checkB t cs
  · exact mnew_no hc hn hk hk8 hT hC hL hnl hq
  · exact mnew_yes hc hn hk hk8 hT hC hL hnl hq
theorem mnew_nil {a b c e t : Int} {ao : Option Addr} {n cap : Nat} {po : Option Addr} {k co : Nat} (h : (Md.cfgB a b c e && decide (k ≤ 8)) = false) : Calls Tryz.prog 65 #[cfgV a b c e, .agg #[.int .i64 t, .slice ao n cap], .slice po k co] w fun r w' => r = .returned (.pointer none) ∧ Below w.heap.size w w' := by
  cases hc : Md.cfgB a b c e
  · exact mnew_cfg a b c e t ao n cap po k co hc
  · rw [hc] at h
    exact mnew_args a b c e t ao n cap po k co hc (by simpa using h)
theorem rnew_nil {a b c e t : Int} {ao : Option Addr} {n cap : Nat} {po : Option Addr} {k co : Nat} (h : (Md.cfgB a b c e && decide (k ≤ 8)) = false) : Calls Tryz.prog 77 #[cfgV a b c e, .agg #[.int .i64 t, .slice ao n cap], .slice po k co] w fun r w' => r = .returned (.pointer none) ∧ Below w.heap.size w w' := by
  cases hc : Md.cfgB a b c e
  · exact rnew_cfg a b c e t ao n cap po k co hc
  · rw [hc] at h
    exact rnew_args a b c e t ao n cap po k co hc (by simpa using h)
theorem rnew_any {a b c e t : Int} {ao : Option Addr} {cs : List Ins} {n cap : Nat} {po : Option Addr} {l : List Nat} {k co : Nat} (hn : cs.length = n) (hk : l.length = k) (hC : CodeAt w ao cs) (hL : FlAt w po l) (hnl : n ≤ 9223372036854775807) (hc : Md.cfgB a b c e = true) (hk8 : k ≤ 8) : Calls Tryz.prog 77 #[cfgV a b c e, .agg #[.int .i64 t, .slice ao n cap], .slice po k co] w fun r w' => ∃ br : Nat, r = .returned (.pointer (some ⟨br, 0, none⟩)) ∧ Below w.heap.size w w' :=
  (rnew_some hc hn hk hk8 hC hL hnl).mono fun _ _ ⟨br, _, _, _, a1, a2⟩ => ⟨br, a1, a2.bl⟩
end
end Go.Proofs.YtninicfnhoediaaGreatDoor
namespace Go.Proofs.YtninicfnhoediaaGreatDoor
open Go.ChangeShapes Go.WideShapes Go.ChangeAt Go.RowKit Num
end Go.Proofs.YtninicfnhoediaaGreatDoor
namespace Go.Proofs.YtninicfnhoediaaGreatDoor
open Go.ChangeShapes Go.WideShapes Go.ChangeAt Go.RowKit Num
attribute [local go_sem] run_store_float
theorem row_put {E : TypeId} {w : World} {g c : Nat} {xs : List Value} (h : RowAt E w (some ⟨g, 0, none⟩) c xs) (i : Nat) (z : Value) : RowAt E (w.setCell ⟨g, i, none⟩ z) (some ⟨g, 0, none⟩) c (xs.set i z) ∧ Turn [g] [g] w (w.setCell ⟨g, i, none⟩ z) := by
  obtain ⟨hs, _⟩ := h.own.stored i z
  refine ⟨⟨?_⟩, turn_set w g i z⟩
  rw [List.length_set]
  exact hs
theorem row_get {E : TypeId} {w : World} {g c : Nat} {xs : List Value} (h : RowAt E w (some ⟨g, 0, none⟩) c xs) {j : Nat} {v : Value} (hv : xs[j]? = some v) : w.cell? ⟨g, j, none⟩ = some v ∧ w.frozen? ⟨g, j, none⟩ = false ∧ g < w.heap.size := by
  rcases h.own.2 with ⟨q, _⟩ | ⟨g', cap, cur, hq, _, hg, _⟩
  · cases q
  · cases hq
    refine ⟨?_, frozen_of_row w g j _ _ hg, lt_of_block hg⟩
    have := World.ownsRow.cells h.own (g := g) rfl j v hv
    rwa [show (⟨g, 0, none⟩ : Addr).add j = ⟨g, j, none⟩ by unfold Addr.add; split <;> simp_all] at this
end Go.Proofs.YtninicfnhoediaaGreatDoor
namespace Go.Proofs.YtninicfnhoediaaGreatDoor.Md
open Go.ChangeShapes Go.WideShapes Go.ChangeAt Go.RowKit
set_option maxRecDepth 100000 in
set_option maxHeartbeats 1000000 in
theorem loadAct_any (w : World) (pm pa pt b g k n : Nat) (x : Int) (u : Value) (h0 : w.cell? ⟨pm, 0, none⟩ = some (.pointer (some ⟨b, 0, none⟩))) (h1 : w.cell? ⟨pa, 0, none⟩ = some (.int .i64 k)) (h2 : w.cell? ⟨b, 0, none⟩ = some (.slice (some ⟨g, 0, none⟩) n n)) (h3 : w.cell? ⟨g, k, none⟩ = some (.int .u64 x)) (hk : (k : Int) < (n : Int)) (h4 : w.cell? ⟨pt, 0, none⟩ = some u) (h5 : w.frozen? ⟨pt, 0, none⟩ = false) :
    Calls Tryz.prog 55 #[.pointer (some ⟨pm, 0, none⟩), .pointer (some ⟨pa, 0, none⟩), .pointer (some ⟨pt, 0, none⟩)] w fun e w' => e = .returned (.tuple #[]) ∧ w' = (w.setCell ⟨pt, 0, none⟩ (.int .u64 x)).drew := by
  go_enter Tryz.func55, Tryz.ntmps55
  go_wp2
  go_region
  all_goals (try go_wp2)
  all_goals go_end0
  all_goals exact ⟨rfl, rfl⟩
set_option maxRecDepth 100000 in
set_option maxHeartbeats 1000000 in
theorem storeAct_any (w : World) (pm pa pv b g k n : Nat) (x v : Int) (h0 : w.cell? ⟨pm, 0, none⟩ = some (.pointer (some ⟨b, 0, none⟩))) (h1 : w.cell? ⟨pa, 0, none⟩ = some (.int .i64 k)) (h2 : w.cell? ⟨b, 0, none⟩ = some (.slice (some ⟨g, 0, none⟩) n n)) (h3 : w.cell? ⟨g, k, none⟩ = some (.int .u64 x)) (hk : (k : Int) < (n : Int)) (h4 : w.cell? ⟨pv, 0, none⟩ = some (.int .u64 v)) (h5 : w.frozen? ⟨g, k, none⟩ = false) :
    Calls Tryz.prog 147 #[.pointer (some ⟨pv, 0, none⟩), .pointer (some ⟨pm, 0, none⟩), .pointer (some ⟨pa, 0, none⟩)] w fun e w' => e = .returned (.tuple #[]) ∧ w' = (w.setCell ⟨g, k, none⟩ (.int .u64 v)).drew := by
  go_enter Tryz.func147, Tryz.ntmps147
  go_wp2
  go_region
  all_goals (try go_wp2)
  all_goals go_end0
  all_goals exact ⟨rfl, rfl⟩
end Go.Proofs.YtninicfnhoediaaGreatDoor.Md
namespace Go.Proofs.YtninicfnhoediaaGreatDoor.Md
open Go.ChangeShapes Go.WideShapes Go.ChangeAt Go.RowKit
section
variable {w : World} {b g : Nat} {ws : List Int} {o : Bool} {c : Int}
theorem access_none (h : MemAt 123 w b g ws o c) (i : Int) (hi : hasB ws i = false) (f : Fn) (first cap : Array Value) : Calls Tryz.prog 54 #[.pointer (some ⟨b, 0, none⟩), .int .i64 i, .func f first cap] w fun e w' => e = .returned (.int .i64 30) ∧ w' = w := by
  have HM : Hid (MemAt 123 w b g ws o c) := h
  clear h
  go_enter Tryz.func54, Tryz.ntmps54
  go_wp2_with (go_at_call 56; refine (has_any HM.out _).mono ?_; rw [hi]; rintro e w' ⟨rfl, hw⟩; subst w')
  go_ret
  exact ⟨rfl, rfl⟩
theorem access_spent (h : MemAt 123 w b g ws false c) (i : Int) (hi : hasB ws i = true) (f : Fn) (first cap : Array Value) : Calls Tryz.prog 54 #[.pointer (some ⟨b, 0, none⟩), .int .i64 i, .func f first cap] w fun e w' => e = .returned (.int .i64 31) ∧ w' = w := by
  have HM : Hid (MemAt 123 w b g ws false c) := h
  have h1 := h.cell1
  have hb := h.ltB
  clear h
  go_enter Tryz.func54, Tryz.ntmps54
  go_wp2_with (go_at_call 56; refine (has_any HM.out _).mono ?_; rw [hi]; rintro e w' ⟨rfl, hw⟩; subst w')
  go_ret
  exact ⟨rfl, rfl⟩
theorem access_let (h : MemAt 123 w b g ws true c) (i : Int) (hi : hasB ws i = true) (f : FuncId) (cap : Array Value) (Q : World → Prop) (hcall : ∀ (args : Array Value) (w : World), (callFunc f args).run Tryz.prog w = .ok (.enter f args) w)
    (hf : Calls Tryz.prog f cap ((w.setCell ⟨b, 1, none⟩ (.bool false)).setCell ⟨b, 2, none⟩ (.int .i64 (up c))) fun e w' => e = .returned (.tuple #[]) ∧ Q w') : Calls Tryz.prog 54 #[.pointer (some ⟨b, 0, none⟩), .int .i64 i, .func (.func f) #[] cap] w fun e w' => e = .returned (.int .i64 0) ∧ Q w' := by
  have HM : Hid (MemAt 123 w b g ws true c) := h
  have h1 := h.cell1
  have h2 := h.cell2
  have hb := h.ltB
  have hf1 := h.freeB 1
  have hf2 := h.freeB 2
  have HF := Lib.hid hf
  clear h hf
  unfold up at HF
  go_enter Tryz.func54, Tryz.ntmps54
  go_wp2_with (first | (go_at_call 56; refine (has_any HM.out _).mono ?_; rw [hi]; rintro e w' ⟨rfl, hw⟩; subst w') | (refine HF.out.mono ?_; rintro e w' ⟨rfl, hq⟩))
  go_ret
  exact ⟨rfl, hq⟩
end
end Go.Proofs.YtninicfnhoediaaGreatDoor.Md
namespace Go.Proofs.YtninicfnhoediaaGreatDoor.Md
open Go.ChangeShapes Go.WideShapes Go.ChangeAt Go.RowKit
theorem enter_run {f : FuncId} {fn : Func} (hf : Tryz.prog.funcs[f]? = some fn) (hname : (fn.name == "runtime.NumGoroutine") = false) (hb : fn.body.isSome = true) (args : Array Value) (w : World) : (callFunc f args).run Tryz.prog w = .ok (.enter f args) w := by
  obtain ⟨c, hb⟩ := Option.isSome_iff_exists.1 hb
  have h1 : fn.name ≠ "runtime.NumGoroutine" := by simpa using hname
  simp [callFunc, hf, h1, hb, mark]
section
variable {w : World} {b g : Nat} {ws : List Int} {o : Bool} {c : Int}
def poked (ws : List Int) (i v : Int) : List Int := if hasB ws i then ws.set i.toNat v else ws
def stored (ws : List Int) (o : Bool) (i v : Int) : List Int := if hasB ws i && o then ws.set i.toNat v else ws
def spentO (ws : List Int) (o : Bool) (i : Int) : Bool := if hasB ws i then false else o
def spentC (ws : List Int) (o : Bool) (i c : Int) : Int := if hasB ws i && o then up c else c
def toldW (ws : List Int) (o : Bool) (i : Int) : Int := if hasB ws i && o then wordAt ws i else 0
theorem poke_any (h : MemAt 123 w b g ws o c) (i v : Int) : Calls Tryz.prog 36 #[.pointer (some ⟨b, 0, none⟩), .int .i64 i, .int .u64 v] w fun e w' => e = .returned (.int .i64 (errP ws i)) ∧ MemAt 123 w' b g (poked ws i v) o c ∧ Chg b g w w' := by
  have h0 := h.cell0
  have hb := h.ltB
  have hg := h.ltG
  have HM : Hid (MemAt 123 w b g ws o c) := h
  unfold errP poked
  cases hh : hasB ws i
  · clear h
    go_enter Tryz.func36, Tryz.ntmps36
    go_wp2_with (go_at_call 56; refine (has_any HM.out _).mono ?_; rw [hh]; rintro e w' ⟨rfl, hw⟩; subst w')
    go_ret
    exact ⟨rfl, HM.out, Chg.refl _ _ _⟩
  · obtain ⟨k, rfl, hk⟩ := hasB_pos hh
    have hx := h.word hk
    have hf := h.freeG k
    have hk2 : (k : Int) < (ws.length : Int) := by omega
    clear h
    go_enter Tryz.func36, Tryz.ntmps36
    go_wp2_with (go_at_call 56; refine (has_any HM.out _).mono ?_; rw [hh]; rintro e w' ⟨rfl, hw⟩; subst w')
    try go_region
    all_goals (try go_wp2)
    all_goals go_ret
    all_goals exact ⟨rfl, HM.out.setW k v, (Chg.refl _ _ _).setG _ _⟩
set_option maxRecDepth 100000 in
theorem loadAct_at (h : MemAt 123 w b g ws true c) {k : Nat} (hk : k < ws.length) :
    Calls Tryz.prog 55 #[.pointer (some ⟨w.heap.size, 0, none⟩), .pointer (some ⟨w.heap.size + 1, 0, none⟩), .pointer (some ⟨w.heap.size + 1 + 1, 0, none⟩)] (((((w.alloc (.cells #[.pointer (some ⟨b, 0, none⟩)] 37)).alloc (.cells #[.int .i64 k] 3)).alloc (.cells #[.int .u64 0] 53)).setCell ⟨b, 1, none⟩ (.bool false)).setCell ⟨b, 2, none⟩ (.int .i64 (up c))) fun e w' => e = .returned (.tuple #[]) ∧
      (w'.cell? ⟨w.heap.size + 1 + 1, 0, none⟩ = some (.int .u64 (wordAt ws k)) ∧ MemAt 123 w' b g ws false (up c) ∧ Chg b g w w') := by
  have hb := h.ltB
  have hg := h.ltG
  have hv : wordAt ws k = ws[k] := by simp [wordAt, hk]
  have HM0 := (((((h.alloc (.cells #[.pointer (some ⟨b, 0, none⟩)] 37)).alloc (.cells #[.int .i64 k] 3)).alloc (.cells #[.int .u64 0] 53)).setO false).setC (up c))
  have HM := (HM0.other (n := w.heap.size + 1 + 1) (by omega) (by omega) 0 (.int .u64 ws[k])).drew
  have HC := ((((((Chg.refl b g w).alloc (.cells #[.pointer (some ⟨b, 0, none⟩)] 37)).alloc (.cells #[.int .i64 k] 3)).alloc (.cells #[.int .u64 0] 53)).setB 1 (.bool false)).setB 2 (.int .i64 (up c))).setN (n := w.heap.size + 1 + 1) (by omega) 0 (.int .u64 ws[k]) |>.drew
  rw [hv]
  refine (loadAct_any _ w.heap.size (w.heap.size + 1) (w.heap.size + 1 + 1) b g k ws.length ws[k] (.int .u64 0) ?_ ?_ HM0.cell0 (HM0.word hk) (by omega) ?_ ?_).mono ?_
  · simp [go_sem]
  · simp [go_sem]
  · simp [go_sem]
  · simp [go_sem]
  · rintro e w' ⟨he, rfl⟩
    refine ⟨he, ?_, HM, HC⟩
    simp [go_sem]
set_option maxRecDepth 100000 in
theorem storeAct_at (h : MemAt 123 w b g ws true c) (v : Int) {k : Nat} (hk : k < ws.length) :
    Calls Tryz.prog 147 #[.pointer (some ⟨w.heap.size + 1 + 1, 0, none⟩), .pointer (some ⟨w.heap.size, 0, none⟩), .pointer (some ⟨w.heap.size + 1, 0, none⟩)] (((((w.alloc (.cells #[.pointer (some ⟨b, 0, none⟩)] 37)).alloc (.cells #[.int .i64 k] 3)).alloc (.cells #[.int .u64 v] 53)).setCell ⟨b, 1, none⟩ (.bool false)).setCell ⟨b, 2, none⟩ (.int .i64 (up c))) fun e w' => e = .returned (.tuple #[]) ∧
      (MemAt 123 w' b g (ws.set k v) false (up c) ∧ Chg b g w w') := by
  have hb := h.ltB
  have hg := h.ltG
  have HM0 := (((((h.alloc (.cells #[.pointer (some ⟨b, 0, none⟩)] 37)).alloc (.cells #[.int .i64 k] 3)).alloc (.cells #[.int .u64 v] 53)).setO false).setC (up c))
  have HC := ((((((Chg.refl b g w).alloc (.cells #[.pointer (some ⟨b, 0, none⟩)] 37)).alloc (.cells #[.int .i64 k] 3)).alloc (.cells #[.int .u64 v] 53)).setB 1 (.bool false)).setB 2 (.int .i64 (up c))).setG k (.int .u64 v) |>.drew
  refine (storeAct_any _ w.heap.size (w.heap.size + 1) (w.heap.size + 1 + 1) b g k ws.length ws[k] v ?_ ?_ HM0.cell0 (HM0.word hk) (by omega) ?_ (HM0.freeG k)).mono ?_
  · simp [go_sem]
  · simp [go_sem]
  · simp [go_sem]
  · rintro e w' ⟨he, rfl⟩
    exact ⟨he, (HM0.setW k v).drew, HC⟩
set_option maxRecDepth 100000 in
set_option maxHeartbeats 1000000 in
theorem load_any (h : MemAt 123 w b g ws o c) (i : Int) : Calls Tryz.prog 23 #[.pointer (some ⟨b, 0, none⟩), .int .i64 i] w fun e w' => e = .returned (.tuple #[.int .u64 (toldW ws o i), .int .i64 (errA ws o i)]) ∧ MemAt 123 w' b g ws (spentO ws o i) (spentC ws o i c) ∧ Chg b g w w' := by
  have HM : Hid (MemAt 123 w b g ws o c) := h
  clear h
  unfold errA spentO spentC toldW
  cases hh : hasB ws i
  · go_enter Tryz.func23, Tryz.ntmps23
    go_wp2_with (go_at_call 54; refine (access_none (((HM.out.alloc _).alloc _).alloc _) _ hh _ _ _).mono ?_; rintro e w' ⟨rfl, hw⟩; subst w')
    go_ret2
    exact ⟨rfl, ((HM.out.alloc _).alloc _).alloc _, (((Chg.refl _ _ _).alloc _).alloc _).alloc _⟩
  · obtain ⟨k, rfl, hk⟩ := hasB_pos hh
    cases o
    · go_enter Tryz.func23, Tryz.ntmps23
      go_wp2_with (go_at_call 54; refine (access_spent (((HM.out.alloc _).alloc _).alloc _) _ hh _ _ _).mono ?_; rintro e w' ⟨rfl, hw⟩; subst w')
      go_ret2
      exact ⟨rfl, ((HM.out.alloc _).alloc _).alloc _, (((Chg.refl _ _ _).alloc _).alloc _).alloc _⟩
    · have HA := Lib.hid (loadAct_at HM.out hk)
      go_enter Tryz.func23, Tryz.ntmps23
      go_wp2_with (go_at_call 54; refine (access_let (((HM.out.alloc _).alloc _).alloc _) _ hh _ _ _ (enter_run Tryz.func55 (by kernel_rfl) (by kernel_rfl)) HA.out).mono ?_; rintro e w' ⟨rfl, hc, hm, hz⟩; replace hm := Lib.hid hm)
      go_ret2
      exact ⟨rfl, hm.out, hz⟩
set_option maxRecDepth 100000 in
set_option maxHeartbeats 1000000 in
theorem store_any (h : MemAt 123 w b g ws o c) (i v : Int) : Calls Tryz.prog 121 #[.pointer (some ⟨b, 0, none⟩), .int .i64 i, .int .u64 v] w fun e w' => e = .returned (.int .i64 (errA ws o i)) ∧ MemAt 123 w' b g (stored ws o i v) (spentO ws o i) (spentC ws o i c) ∧ Chg b g w w' := by
  have HM : Hid (MemAt 123 w b g ws o c) := h
  clear h
  unfold errA spentO spentC stored
  cases hh : hasB ws i
  · go_enter Tryz.func121, Tryz.ntmps121
    go_wp2_with (go_at_call 54; refine (access_none (((HM.out.alloc _).alloc _).alloc _) _ hh _ _ _).mono ?_; rintro e w' ⟨rfl, hw⟩; subst w')
    go_ret
    exact ⟨rfl, ((HM.out.alloc _).alloc _).alloc _, (((Chg.refl _ _ _).alloc _).alloc _).alloc _⟩
  · obtain ⟨k, rfl, hk⟩ := hasB_pos hh
    cases o
    · go_enter Tryz.func121, Tryz.ntmps121
      go_wp2_with (go_at_call 54; refine (access_spent (((HM.out.alloc _).alloc _).alloc _) _ hh _ _ _).mono ?_; rintro e w' ⟨rfl, hw⟩; subst w')
      go_ret
      exact ⟨rfl, ((HM.out.alloc _).alloc _).alloc _, (((Chg.refl _ _ _).alloc _).alloc _).alloc _⟩
    · have HA := Lib.hid (storeAct_at HM.out v hk)
      go_enter Tryz.func121, Tryz.ntmps121
      go_wp2_with (go_at_call 54; refine (access_let (((HM.out.alloc _).alloc _).alloc _) _ hh _ _ _ (enter_run Tryz.func147 (by kernel_rfl) (by kernel_rfl)) HA.out).mono ?_; rintro e w' ⟨rfl, hm, hz⟩; replace hm := Lib.hid hm)
      go_ret
      exact ⟨rfl, hm.out, hz⟩
end
end Go.Proofs.YtninicfnhoediaaGreatDoor.Md
namespace Go.Proofs.YtninicfnhoediaaGreatDoor.Md
open Go.ChangeShapes Go.WideShapes Go.ChangeAt Go.RowKit
theorem wordInfo : (Tryz.prog.info? 53).map (fun i => (i.zero, i.size, i.bytes)) = some (some (.int .u64 0), 1, 8) := by kernel_rfl
def RowAt (w : World) (g : Nat) (ws : List Int) : Prop := w.heap[g]? = some (.cells (u64s ws).toArray 53 (0, 0))
theorem RowAt.lt {w : World} {g : Nat} {ws : List Int} (h : RowAt w g ws) : g < w.heap.size := lt_of_block h
theorem RowAt.on {w w' : World} {g : Nat} {ws : List Int} (h : RowAt w g ws) (k : Below w.heap.size w w') : RowAt w' g ws := (k.block g h.lt).trans h
theorem RowAt.word {w : World} {g : Nat} {ws : List Int} (h : RowAt w g ws) {i : Nat} (hi : i < ws.length) : w.cell? ⟨g, i, none⟩ = some (.int .u64 ws[i]) := by
  rw [cell_of_row w g i _ _ _ h]
  simp [u64s, hi]
theorem u64s_len (ws : List Int) : (u64s ws).length = ws.length := by unfold u64s; rw [List.length_map]
theorem make_words (n : Nat) (hn : n ≤ 4096) (w : World) : (Instr.makeSlice 28 (.int .i64 (n : Int)) (.int .i64 (n : Int))).run Tryz.prog w = .ok (.slice (some ⟨w.heap.size, 0, none⟩) n n) (w.alloc (.cells (u64s (List.replicate n 0)).toArray 53)) := by
  obtain ⟨i, hi, hz0, hz1, hz2⟩ := info_parts wordInfo
  rw [run_make w 28 53 i (.int .u64 0) Tryz.underlying28 hi hz0 .i64 .i64 n n (by omega) (Int.le_refl _) (by rw [hz2]; omega) (by omega)]
  have e : (madeCells (Value.int .u64 0).cells (((n : Int)).toNat * i.size)) = (u64s (List.replicate n 0)).toArray := by
    rw [hz1, Nat.mul_one, Int.toNat_natCast]
    apply Array.toList_inj.1
    rw [show (Value.int .u64 0).cells = #[.int .u64 0] from rfl, toList_madeCells_one]
    simp [u64s]
  rw [e, Int.toNat_natCast]
theorem copy_words (w : World) (g : Nat) (ws : List Int) (h : RowAt w g ws) (ty : TypeId) : (Builtin.copy_ #[28, 28] ty #[.slice (some ⟨w.heap.size, 0, none⟩) ws.length ws.length, .slice (some ⟨g, 0, none⟩) ws.length ws.length]).run Tryz.prog (w.alloc (.cells (u64s (List.replicate ws.length 0)).toArray 53)) =
    .ok (goInt ws.length) ((w.alloc (.cells (u64s (List.replicate ws.length 0)).toArray 53)).setRow w.heap.size (u64s ws).toArray) := by
  have hr := run_copy_row (P := Tryz.prog) (w.alloc (.cells (u64s (List.replicate ws.length 0)).toArray 53)) 28 28 ty 53 w.heap.size 0 ws.length ws.length ⟨g, 0, none⟩ ws.length ws.length (u64s (List.replicate ws.length 0)).toArray 53 (u64s ws) Tryz.underlying28 (by kernel_rfl) (heap_alloc_new _ _) (by rw [u64s_len]; exact (Nat.min_self _).symm) (fun j v hj => by
      have hj' : j < ws.length := by
        have := (List.getElem?_eq_some_iff.1 hj).1
        rwa [u64s_len] at this
      have e : (⟨g, 0, none⟩ : Addr).add j = ⟨g, j, none⟩ := by unfold Addr.add; split <;> simp_all
      rw [e, World.cell?_alloc_past _ _ _ h.lt, h.word hj']
      rw [← hj]
      simp [u64s, hj']) (by simp [u64s_len]) (fun v hv => by
      unfold u64s at hv
      obtain ⟨x, _, rfl⟩ := List.mem_map.1 hv
      rfl)
  rw [hr]
  have e : (List.take 0 (u64s (List.replicate ws.length 0)).toArray.toList ++ u64s ws ++ List.drop (0 + (u64s ws).length) (u64s (List.replicate ws.length 0)).toArray.toList) = u64s ws := by
    rw [List.drop_of_length_le (by simp [u64s_len])]
    simp
  rw [e, u64s_len]
section
variable {w : World} {b g : Nat} {ws : List Int} {o : Bool} {c : Int}
set_option maxRecDepth 100000 in
theorem all_any (h : MemAt 123 w b g ws o c) : Calls Tryz.prog 49 #[.pointer (some ⟨b, 0, none⟩)] w fun e w' => e = .returned (.slice (some ⟨w.heap.size, 0, none⟩) ws.length ws.length) ∧ RowAt w' w.heap.size ws ∧ Below w.heap.size w w' := by
  have h0 := h.cell0
  have hb := h.ltB
  have hmk := make_words ws.length h.many
  have hcp := copy_words w g ws h.row
  have HF : Hid (RowAt ((w.alloc (.cells (u64s (List.replicate ws.length 0)).toArray 53)).setRow w.heap.size (u64s ws).toArray) w.heap.size ws) := setRow_heap _ _ _ _ _ _ (heap_alloc_new _ _)
  have HB : Hid (Below w.heap.size w ((w.alloc (.cells (u64s (List.replicate ws.length 0)).toArray 53)).setRow w.heap.size (u64s ws).toArray)) :=
    ((Below.refl _ _).alloc (Nat.le_refl _) _).trans ⟨rfl, rfl, rfl, by simp, fun k hk => setRow_other _ _ _ _ (Nat.ne_of_lt hk)⟩
  clear h
  go_enter Tryz.func49, Tryz.ntmps49
  go_wp2
  go_ret
  exact ⟨rfl, HF.out, HB.out⟩
end
set_option maxRecDepth 100000 in
theorem new_some (n : Nat) (h1 : 1 ≤ n) (h2 : n ≤ 4096) (w : World) : Calls Tryz.prog 22 #[.int .i64 n] w fun e w' => e = .returned (.tuple #[.pointer (some ⟨w.heap.size + 1, 0, none⟩), .int .i64 0]) ∧ MemAt 123 w' (w.heap.size + 1) w.heap.size (List.replicate n 0) false 0 ∧ Below w.heap.size w w' := by
  have hh : (decide (1 ≤ (n : Int)) && decide ((n : Int) ≤ 4096)) = true := by simp; omega
  have hmk := make_words n h2
  have HN := Lib.hid (And.intro h1 h2)
  clear h1 h2
  go_enter Tryz.func22, Tryz.ntmps22
  go_wp2_with (go_at_call 53; refine (within_any _ _ _).mono ?_; rw [hh]; rintro e w' ⟨rfl, hw⟩; subst w')
  go_ret2
  refine ⟨rfl, ⟨?_, ?_, by omega, by rw [List.length_replicate]; exact HN.out.1, by rw [List.length_replicate]; exact HN.out.2⟩, ((Below.refl _ _).alloc (Nat.le_refl _) _).alloc (by simp) _⟩
  · rw [List.length_replicate]
    have := heap_alloc_new (w.alloc (.cells (u64s (List.replicate n 0)).toArray 53)) (.cells #[.slice (some ⟨w.heap.size, 0, none⟩) n n, .bool false, .int .i64 0] 123)
    simpa using this
  · rw [Below.heap_alloc _ _ _ (by simp)]
    exact heap_alloc_new _ _
end Go.Proofs.YtninicfnhoediaaGreatDoor.Md
namespace Go.Proofs.YtninicfnhoediaaGreatDoor.Md
open Go.ChangeShapes Go.WideShapes Go.ChangeAt Go.RowKit
theorem cloned {w w1 w2 : World} {b g : Nat} {ws : List Int} {o : Bool} {c : Int} (h : MemAt 123 w b g ws o c) (hr : RowAt w1 w.heap.size ws) (hb : Below w.heap.size w w1) (h2 : w2.heap = (w1.alloc (.cells #[.slice (some ⟨w.heap.size, 0, none⟩) ws.length ws.length, .bool o, .int .i64 c] 123)).heap) (ho : w2.os = w1.os) (ht : w2.tape = w1.tape) (hp : w2.output = w1.output) :
    MemAt 123 w2 w1.heap.size w.heap.size ws o c ∧ Below w.heap.size w w2 := by
  have hlt := hr.lt
  refine ⟨⟨?_, ?_, by omega, h.some', h.many⟩, ⟨ho.trans hb.os, ht.trans hb.tape, hp.trans hb.output, ?_, fun k hk => ?_⟩⟩
  · rw [h2]; exact heap_alloc_new _ _
  · rw [h2, Below.heap_alloc _ _ _ hlt]; exact hr
  · rw [h2]; simp; omega
  · rw [h2, Below.heap_alloc _ _ _ (by omega)]; exact hb.block k hk
section
variable {w : World} {b g : Nat} {ws : List Int} {o : Bool} {c : Int}
set_option maxRecDepth 100000 in
set_option maxHeartbeats 1000000 in
theorem clone_any (h : MemAt 123 w b g ws o c) : Calls Tryz.prog 34 #[.pointer (some ⟨b, 0, none⟩)] w fun e w' => ∃ nb, e = .returned (.pointer (some ⟨nb, 0, none⟩)) ∧ w.heap.size ≤ nb ∧ MemAt 123 w' nb w.heap.size ws o c ∧ Below w.heap.size w w' := by
  have HM : Hid (MemAt 123 w b g ws o c) := h
  have h1 := h.cell1
  have h2 := h.cell2
  have hb := h.ltB
  clear h
  go_enter Tryz.func34, Tryz.ntmps34
  go_wp2
  go_region_with (go_at_call 49; refine (all_any (by first | exact HM.out | exact HM.out.drew)).mono ?_; rintro e w1 ⟨rfl, hr, hbb⟩; have HR := Lib.hid hr; have HB := Lib.hid hbb; have q1 : w1.cell? ⟨b, 1, none⟩ = some (.bool o) := (hbb.cell (p := ⟨b, 1, none⟩) hb).trans h1; have q2 : w1.cell? ⟨b, 2, none⟩ = some (.int .i64 c) := (hbb.cell (p := ⟨b, 2, none⟩) hb).trans h2; clear hr hbb)
  all_goals (try go_wp2)
  all_goals go_ret
  all_goals exact ⟨_, rfl, HB.out.size, cloned HM.out HR.out ⟨HB.out.os, HB.out.tape, HB.out.output, HB.out.size, HB.out.block⟩ rfl rfl rfl rfl⟩
end
end Go.Proofs.YtninicfnhoediaaGreatDoor.Md
namespace Go.Proofs.YtninicfnhoediaaGreatDoor.Md
open Go.ChangeShapes Go.WideShapes Go.ChangeAt Go.RowKit
end Go.Proofs.YtninicfnhoediaaGreatDoor.Md
namespace Go.Proofs.YtninicfnhoediaaGreatDoor.Md.Ce
open Go.ChangeShapes Go.WideShapes Go.ChangeAt Go.RowKit Num
attribute [local go_sem] frombits_run bits_run
theorem run_store_float (a : Addr) (m : Mode) (k : FloatKind) (b : Nat) (w : World) : (store a (.float k b) m).run Tryz.prog w = _root_.Go.stored Tryz.prog w a (.float k b) m := run_store Tryz.prog w a _ m rfl
theorem run_store_func (a : Addr) (m : Mode) (f : Fn) (x y : Array Value) (w : World) : (store a (.func f x y) m).run Tryz.prog w = _root_.Go.stored Tryz.prog w a (.func f x y) m := run_store Tryz.prog w a _ m rfl
theorem run_store_nilFunc (a : Addr) (m : Mode) (w : World) : (store a .nilFunc m).run Tryz.prog w = _root_.Go.stored Tryz.prog w a .nilFunc m := run_store Tryz.prog w a _ m rfl
theorem of_int (n : Int) (w : World) : Calls Tryz.prog 60 #[.int .u64 n] w fun e w' => e = .returned (.float .f64 (fixB n.toNat)) ∧ w' = w := by
  go_enter Tryz.func60, Tryz.ntmps60
  go_wp2_with (first | (go_at_call 63; refine (fix_any _ _).mono ?_; rintro e w' ⟨rfl, rfl⟩) | go_in)
  go_ret
  exact ⟨rfl, rfl⟩
structure Ch (L : List Nat) (w w' : World) : Prop where
  os : w'.os = w.os
  tape : w'.tape = w.tape
  output : w'.output = w.output
  size : w.heap.size ≤ w'.heap.size
  block : ∀ k, k < w.heap.size → k ∉ L → w'.heap[k]? = w.heap[k]?
theorem Ch.refl (L : List Nat) (w : World) : Ch L w w := ⟨rfl, rfl, rfl, Nat.le_refl _, fun _ _ _ => rfl⟩
theorem Ch.trans {L : List Nat} {a w c : World} (h : Ch L a w) (k : Ch L w c) : Ch L a c :=
  ⟨k.os.trans h.os, k.tape.trans h.tape, k.output.trans h.output, Nat.le_trans h.size k.size, fun i hi h1 => (k.block i (Nat.lt_of_lt_of_le hi h.size) h1).trans (h.block i hi h1)⟩
theorem Ch.mono {L M : List Nat} {a w : World} (h : Ch L a w) (s : ∀ k, k ∈ L → k ∈ M) : Ch M a w := ⟨h.os, h.tape, h.output, h.size, fun k hk hn => h.block k hk (fun q => hn (s k q))⟩
theorem Ch.alloc {L : List Nat} {a w : World} (h : Ch L a w) (o : Obj) : Ch L a (w.alloc o) := h.trans ⟨rfl, rfl, rfl, by simp, fun k hk _ => Below.heap_alloc _ _ _ hk⟩
theorem Ch.set {L : List Nat} {a w : World} (h : Ch L a w) {b : Nat} (hb : b ∈ L) (j : Nat) (u : Value) : Ch L a (w.setCell ⟨b, j, none⟩ u) :=
  h.trans ⟨rfl, rfl, rfl, by simp, fun k _ h1 => heap_setCell_other _ _ _ _ (fun (e : k = b) => h1 (e ▸ hb))⟩
theorem _root_.Go.Proofs.YtninicfnhoediaaGreatDoor.Chg.ch {b g : Nat} {L : List Nat} {w w' : World} (h : Chg b g w w') (hb : b ∈ L) (hg : g ∈ L) : Ch L w w' :=
  ⟨h.os, h.tape, h.output, h.size, fun k hk hn => h.block k hk (fun e => hn (e ▸ hb)) (fun e => hn (e ▸ hg))⟩
theorem _root_.Go.Proofs.YtninicfnhoediaaGreatDoor.MemAt.ch {T : TypeId} {w w' : World} {b g : Nat} {ws : List Int} {o : Bool} {c : Int} {L : List Nat} (h : MemAt T w b g ws o c) (k : Ch L w w') (h1 : b ∉ L) (h2 : g ∉ L) : MemAt T w' b g ws o c :=
  h.keep (k.block b h.ltB h1) (k.block g h.ltG h2)
def mayC (c : Int) : Bool := decide (0 ≤ c ∧ c < 256)
def placeI (p c j : Int) : Int := if 0 ≤ p ∧ p ≤ 4096 then p + 3 * c + j else -1
def errC (ws : List Int) (o : Bool) (p c j : Int) : Int := if mayC c then errA ws o (placeI p c j) else 60
def wordC (ws : List Int) (p c j : Int) : Int := wordAt ws (placeI p c j)
theorem mayC_pos {c : Int} (h : mayC c = true) : 0 ≤ c ∧ c < 256 := of_decide_eq_true h
theorem smay_any (p c : Int) (w : World) : Calls Tryz.prog 58 #[.agg #[.int .i64 p, .int .i64 c]] w fun e w' => e = .returned (.bool (mayC c)) ∧ Below w.heap.size w w' := by
  unfold mayC
  by_cases h1 : 0 ≤ c
  · by_cases h2 : c < 256
    · have h1' : ¬ c < 0 := by omega
      go_enter Tryz.func58, Tryz.ntmps58
      go_wp2
      go_ret
      exact ⟨by first | (simp; done) | (simp; omega), (Below.refl _ _).alloc (Nat.le_refl _) _⟩
    · go_enter Tryz.func58, Tryz.ntmps58
      go_wp2
      go_ret
      exact ⟨by first | (simp; done) | (simp; omega), (Below.refl _ _).alloc (Nat.le_refl _) _⟩
  · go_enter Tryz.func58, Tryz.ntmps58
    go_wp2
    go_ret
    exact ⟨by first | (simp; done) | (simp; omega), (Below.refl _ _).alloc (Nat.le_refl _) _⟩
theorem splace_any (p c j : Int) (hc : mayC c = true) (hj : 0 ≤ j ∧ j < 3) (w : World) : Calls Tryz.prog 59 #[.agg #[.int .i64 p, .int .i64 c], .int .i64 j] w fun e w' => e = .returned (.int .i64 (placeI p c j)) ∧ Below w.heap.size w w' := by
  obtain ⟨hc0, hc1⟩ := mayC_pos hc
  obtain ⟨hj0, hj1⟩ := hj
  clear hc
  by_cases h1 : 0 ≤ p
  · by_cases h2 : p ≤ 4096
    · have e : placeI p c j = p + 3 * c + j := by simp [placeI, h1, h2]
      have e1 : wrap64 (3 * c) = 3 * c := Go.IntWalk.wrap64_in _ ⟨by omega, by omega⟩
      have e2 : wrap64 (p + 3 * c) = p + 3 * c := Go.IntWalk.wrap64_in _ ⟨by omega, by omega⟩
      have e3 : wrap64 (p + 3 * c + j) = p + 3 * c + j := Go.IntWalk.wrap64_in _ ⟨by omega, by omega⟩
      have h1' : ¬ p < 0 := by omega
      have h2' : ¬ 4096 < p := by omega
      rw [e]
      clear e hc0 hc1 hj0 hj1
      go_enter Tryz.func59, Tryz.ntmps59
      go_wp2
      go_ret
      exact ⟨rfl, (Below.refl _ _).alloc (Nat.le_refl _) _⟩
    · have e : placeI p c j = -1 := by simp [placeI, h2]
      rw [e]
      clear e hc0 hc1 hj0 hj1
      have h1' : ¬ p < 0 := by omega
      have h2' : 4096 < p := by omega
      go_enter Tryz.func59, Tryz.ntmps59
      go_wp2
      go_ret
      exact ⟨rfl, (Below.refl _ _).alloc (Nat.le_refl _) _⟩
  · have e : placeI p c j = -1 := by simp [placeI, h1]
    rw [e]
    clear e hc0 hc1 hj0 hj1
    have h1' : p < 0 := by omega
    go_enter Tryz.func59, Tryz.ntmps59
    go_wp2
    go_ret
    exact ⟨rfl, (Below.refl _ _).alloc (Nat.le_refl _) _⟩
theorem _root_.Go.Proofs.YtninicfnhoediaaGreatDoor.MemAt.hop {T : TypeId} {w w' : World} {b g : Nat} {ws : List Int} {o : Bool} {c : Int} (h : MemAt T w b g ws o c) (k : Below w.heap.size w w') : MemAt T w' b g ws o c := h.on k
theorem below_step {a w w' : World} (h : Below a.heap.size a w) (k : Below w.heap.size w w') : Below a.heap.size a w' := h.trans (k.mono h.size)
theorem below_alloc_step {a w' : World} {x : Obj} (k : Below (a.alloc x).heap.size (a.alloc x) w') : Below a.heap.size a w' := below_step ((Below.refl _ _).alloc (Nat.le_refl _) x) k
theorem spot_cells {a w' : World} {x y : Value} {T : TypeId} (k : Below (a.alloc (.cells #[x, y] T)).heap.size (a.alloc (.cells #[x, y] T)) w') : w'.cell? ⟨a.heap.size, 0, none⟩ = some x ∧ w'.cell? ⟨a.heap.size, 1, none⟩ = some y ∧ a.heap.size < w'.heap.size :=
  ⟨(k.cell (p := ⟨a.heap.size, 0, none⟩) (by simp)).trans (by simp), (k.cell (p := ⟨a.heap.size, 1, none⟩) (by simp)).trans (by simp), by have := k.size; simp at this; omega⟩
theorem chg_from {a w w' : World} {b g : Nat} (h : Below a.heap.size a w) (k : Chg b g w w') : Chg b g a w' := (Chg.trans ⟨h.os, h.tape, h.output, h.size, fun i hi _ _ => h.block i hi⟩ k)
section
variable {w : World} {b g : Nat} {ws : List Int} {o : Bool} {n : Int}
theorem cload_ok (h : MemAt 123 w b g ws o n) {p c j : Int} (hj : 0 ≤ j ∧ j < 3) (hok : errC ws o p c j = 0) : Calls Tryz.prog 176 #[.agg #[.int .i64 p, .int .i64 c], .pointer (some ⟨b, 0, none⟩), .int .i64 j] w fun e w' => e = .returned (.tuple #[.int .u64 (wordC ws p c j), .int .i64 0]) ∧ MemAt 123 w' b g ws false (up n) ∧ Chg b g w w' := by
  cases hm : mayC c
  · simp [errC, hm] at hok
  · have hA : errA ws o (placeI p c j) = 0 := by simpa [errC, hm] using hok
    have hk : hasB ws (placeI p c j) = true ∧ o = true := by
      unfold errA at hA
      cases q : hasB ws (placeI p c j) <;> cases o <;> simp [q] at hA ⊢
    have H1 := Lib.hid (smay_any p c)
    simp only [hm] at H1
    have H2 := Lib.hid (splace_any p c j hm hj)
    have H3 := Lib.hid (fun (w1 : World) (h1 : Below w.heap.size w w1) => load_any (h.hop h1) (placeI p c j))
    have e1 : toldW ws o (placeI p c j) = wordC ws p c j := by simp [toldW, wordC, hk.1, hk.2]
    have e2 : spentO ws o (placeI p c j) = false := by simp [spentO, hk.1]
    have e3 : spentC ws o (placeI p c j) n = up n := by simp [spentC, hk.1, hk.2]
    simp only [hA, e1, e2, e3] at H3
    generalize wordC ws p c j = x at H3 ⊢
    generalize placeI p c j = i at H2 H3
    clear hA hk e1 e2 e3 hok hm h
    go_enter Tryz.func176, Tryz.ntmps176
    go_wp2_with (first
      | (go_at_call 58; refine (H1.out _).mono ?_; rintro e w1 ⟨rfl, hw⟩; have HB1 := Lib.hid (below_alloc_step hw); obtain ⟨q0, q1, q2⟩ := spot_cells hw; clear hw)
      | (go_at_call 59; refine (H2.out _).mono ?_; rintro e w2 ⟨rfl, hw⟩; have HB2 := Lib.hid (below_step HB1.out hw); clear hw)
      | (go_at_call 23; refine (H3.out _ HB2.out).mono ?_; rintro e w3 ⟨rfl, hm1, hc1⟩; have HM := Lib.hid (And.intro hm1 (chg_from HB2.out hc1)); clear hm1 hc1))
    go_ret2
    exact ⟨rfl, HM.out.1, HM.out.2⟩
theorem errA_told {i : Int} (h : ¬ errA ws o i = 0) : toldW ws o i = 0 ∧ spentO ws o i = o ∧ spentC ws o i n = n := by
  unfold errA at h
  cases q : hasB ws i <;> cases o <;> simp [q] at h <;> simp [toldW, spentO, spentC, q]
theorem cload_no (h : MemAt 123 w b g ws o n) {p c j : Int} (hj : 0 ≤ j ∧ j < 3) (hok : ¬ errC ws o p c j = 0) : Calls Tryz.prog 176 #[.agg #[.int .i64 p, .int .i64 c], .pointer (some ⟨b, 0, none⟩), .int .i64 j] w fun e w' => e = .returned (.tuple #[.int .u64 0, .int .i64 (errC ws o p c j)]) ∧ MemAt 123 w' b g ws o n ∧ Chg b g w w' := by
  have H1 := Lib.hid (smay_any p c)
  cases hm : mayC c
  · have e : errC ws o p c j = 60 := by simp [errC, hm]
    rw [e]
    simp only [hm] at H1
    have HM := Lib.hid h
    clear e hok h hm
    go_enter Tryz.func176, Tryz.ntmps176
    go_wp2_with (go_at_call 58; refine (H1.out _).mono ?_; rintro e w1 ⟨rfl, hw⟩; have HB := Lib.hid (below_alloc_step hw); clear hw)
    go_ret2
    exact ⟨rfl, HM.out.hop HB.out, chg_from HB.out (Chg.refl _ _ _)⟩
  · have e0 : errC ws o p c j = errA ws o (placeI p c j) := by simp [errC, hm]
    rw [e0] at hok ⊢
    simp only [hm] at H1
    obtain ⟨e1, e2, e3⟩ := errA_told (n := n) hok
    have H2 := Lib.hid (splace_any p c j hm hj)
    have H3 := Lib.hid (fun (w1 : World) (h1 : Below w.heap.size w w1) => load_any (h.hop h1) (placeI p c j))
    simp only [e1, e2, e3] at H3
    generalize errA ws o (placeI p c j) = x at H3 ⊢
    generalize placeI p c j = i at H2 H3
    clear e0 e1 e2 e3 hok hm h
    go_enter Tryz.func176, Tryz.ntmps176
    go_wp2_with (first
      | (go_at_call 58; refine (H1.out _).mono ?_; rintro e w1 ⟨rfl, hw⟩; have HB1 := Lib.hid (below_alloc_step hw); obtain ⟨q0, q1, q2⟩ := spot_cells hw; clear hw)
      | (go_at_call 59; refine (H2.out _).mono ?_; rintro e w2 ⟨rfl, hw⟩; have HB2 := Lib.hid (below_step HB1.out hw); clear hw)
      | (go_at_call 23; refine (H3.out _ HB2.out).mono ?_; rintro e w3 ⟨rfl, hm1, hc1⟩; have HM := Lib.hid (And.intro hm1 (chg_from HB2.out hc1)); clear hm1 hc1))
    go_ret2
    exact ⟨rfl, HM.out.1, HM.out.2⟩
end
end Go.Proofs.YtninicfnhoediaaGreatDoor.Md.Ce
namespace Go.Proofs.YtninicfnhoediaaGreatDoor.Md.Ce
open Go.ChangeShapes Go.WideShapes Go.ChangeAt Go.RowKit Num
attribute [local go_sem] run_store_float run_store_func run_store_nilFunc
theorem funcT : ∃ ps rs v, Tryz.prog.underlying 181 = some (.func ps rs v) := ⟨#[104, 37], #[43], false, by kernel_rfl⟩
theorem run_equalIn_func {P : Program} (d : Nat) (t : TypeId) (f : Fn) (x y : Array Value) (w : World) {ps rs : Array TypeId} {v : Bool} (h : P.underlying t = some (.func ps rs v)) : (Op.equalIn (d + 1) t (.func f x y) .nilFunc).run P w = .ok false w := by
  simp [Op.equalIn, run_underlying h]
theorem run_equalIn_nil {P : Program} (d : Nat) (t : TypeId) (w : World) {ps rs : Array TypeId} {v : Bool} (h : P.underlying t = some (.func ps rs v)) : (Op.equalIn (d + 1) t .nilFunc .nilFunc).run P w = .ok true w := by
  simp [Op.equalIn, run_underlying h]
theorem run_equal_func {P : Program} (t : TypeId) (f : Fn) (x y : Array Value) (w : World) {ps rs : Array TypeId} {v : Bool} (h : P.underlying t = some (.func ps rs v)) : (Op.equal t (.func f x y) .nilFunc).run P w = .ok false w := run_equalIn_func 9999 t f x y w h
theorem run_equal_nil {P : Program} (t : TypeId) (w : World) {ps rs : Array TypeId} {v : Bool} (h : P.underlying t = some (.func ps rs v)) : (Op.equal t .nilFunc .nilFunc).run P w = .ok true w := run_equalIn_nil 9999 t w h
theorem run_eql_func (f : Fn) (x y : Array Value) (w : World) : (binOp .eql 181 (.func f x y) .nilFunc).run Tryz.prog w = .ok (.bool false) w := by
  obtain ⟨ps, rs, v, h⟩ := funcT
  simp only [binOp]
  simp [run_equal_func _ f x y w h]
theorem run_eql_nilFunc (w : World) : (binOp .eql 181 .nilFunc .nilFunc).run Tryz.prog w = .ok (.bool true) w := by
  obtain ⟨ps, rs, v, h⟩ := funcT
  simp only [binOp]
  simp [run_equal_nil _ w h]
attribute [local go_sem] run_eql_func run_eql_nilFunc
structure Rd where
  p : Int
  c : Int
  s : Int
  k : Nat
  v : Int
  x : Nat
  y : Nat
  n : Int
  t : Bool
def viewF (k : Nat) : FuncId := if k = 0 then 145 else if k = 1 then 177 else if k = 2 then 202 else 178
def recvV (r : Rd) : Value := .agg #[.int .i64 r.p, .int .i64 r.c, .int .u64 r.s]
def nextV (r : Rd) : Value := if r.k < 4 then .func (.func (viewF r.k)) #[recvV r] #[] else .nilFunc
def rboxV (r : Rd) (f : Value) : Array Value := #[f, .int .u64 r.v, .float .f64 r.x, .float .f64 r.y, .int .i64 r.n, .bool r.t]
def RbAt (w : World) (q : Nat) (r : Rd) (f : Value) : Prop := w.heap[q]? = some (.cells (rboxV r f) 183 (0, 0))
def RdAt (w : World) (q : Nat) (r : Rd) : Prop := RbAt w q r (nextV r)
section
variable {w : World} {q : Nat} {r : Rd} {f : Value}
theorem RbAt.lt (h : RbAt w q r f) : q < w.heap.size := lt_of_block h
theorem RbAt.free (h : RbAt w q r f) (j : Nat) : w.frozen? ⟨q, j, none⟩ = false := frozen_of_row w q j _ _ h
theorem RbAt.cell0 (h : RbAt w q r f) : w.cell? ⟨q, 0, none⟩ = some f := by rw [cell_of_row w q 0 _ _ _ h]; rfl
theorem RbAt.cell1 (h : RbAt w q r f) : w.cell? ⟨q, 1, none⟩ = some (.int .u64 r.v) := by rw [cell_of_row w q 1 _ _ _ h]; rfl
theorem RbAt.cell2 (h : RbAt w q r f) : w.cell? ⟨q, 2, none⟩ = some (.float .f64 r.x) := by rw [cell_of_row w q 2 _ _ _ h]; rfl
theorem RbAt.cell3 (h : RbAt w q r f) : w.cell? ⟨q, 3, none⟩ = some (.float .f64 r.y) := by rw [cell_of_row w q 3 _ _ _ h]; rfl
theorem RbAt.cell4 (h : RbAt w q r f) : w.cell? ⟨q, 4, none⟩ = some (.int .i64 r.n) := by rw [cell_of_row w q 4 _ _ _ h]; rfl
theorem RbAt.cell5 (h : RbAt w q r f) : w.cell? ⟨q, 5, none⟩ = some (.bool r.t) := by rw [cell_of_row w q 5 _ _ _ h]; rfl
theorem RbAt.keep {w' : World} (h : RbAt w q r f) (k : w'.heap[q]? = w.heap[q]?) : RbAt w' q r f := k.trans h
theorem RbAt.setF (h : RbAt w q r f) (f' : Value) : RbAt (w.setCell ⟨q, 0, none⟩ f') q r f' := (heap_setCell_same w q 0 _ _ _ h).trans rfl
theorem RbAt.setV (h : RbAt w q r f) (v : Int) : RbAt (w.setCell ⟨q, 1, none⟩ (.int .u64 v)) q { r with v := v } f := (heap_setCell_same w q 1 _ _ _ h).trans rfl
theorem RbAt.setX (h : RbAt w q r f) (x : Nat) : RbAt (w.setCell ⟨q, 2, none⟩ (.float .f64 x)) q { r with x := x } f := (heap_setCell_same w q 2 _ _ _ h).trans rfl
theorem RbAt.setY (h : RbAt w q r f) (y : Nat) : RbAt (w.setCell ⟨q, 3, none⟩ (.float .f64 y)) q { r with y := y } f := (heap_setCell_same w q 3 _ _ _ h).trans rfl
theorem RbAt.setN (h : RbAt w q r f) (n : Int) : RbAt (w.setCell ⟨q, 4, none⟩ (.int .i64 n)) q { r with n := n } f := (heap_setCell_same w q 4 _ _ _ h).trans rfl
theorem RbAt.setT (h : RbAt w q r f) (t : Bool) : RbAt (w.setCell ⟨q, 5, none⟩ (.bool t)) q { r with t := t } f := (heap_setCell_same w q 5 _ _ _ h).trans rfl
theorem RdAt.lt (h : RdAt w q r) : q < w.heap.size := RbAt.lt h
end
def wrd (k : Nat) : Int := if k = 1 then 1 else if k = 3 then 2 else 0
theorem wrd_in (k : Nat) : 0 ≤ wrd k ∧ wrd k < 3 := by unfold wrd; split <;> (try split) <;> omega
def nx0 (r : Rd) (u : Int) : Rd :=
  if r.k = 0 then { r with v := u, k := if r.s < u then 3 else 1 }
  else if r.k = 1 then { r with x := fixB u.toNat, k := 2 }
  else if r.k = 2 then (if u = r.v then { r with y := r.x, k := 4 } else { r with t := true, k := 3 })
  else { r with y := fixB u.toNat, k := 4 }
def errR (r : Rd) (ws : List Int) (o : Bool) : Int := if r.k < 4 then errC ws o r.p r.c (wrd r.k) else 3
def nxt (r : Rd) (u : Int) : Rd := { nx0 r u with n := up r.n }
def stepR (r : Rd) (ws : List Int) (o : Bool) : Rd := if errR r ws o = 0 then nxt r (wordC ws r.p r.c (wrd r.k)) else r
section
variable {w : World} {b g q : Nat} {ws : List Int} {o : Bool} {n : Int} {r : Rd}
set_option maxRecDepth 100000 in
theorem over_any (h : RdAt w q r) : Calls Tryz.prog 146 #[.pointer (some ⟨q, 0, none⟩)] w fun e w' => e = .returned (.bool (decide (4 ≤ r.k))) ∧ w' = w := by
  have h0 := RbAt.cell0 h
  have hq := RbAt.lt h
  unfold nextV at h0
  by_cases hk : r.k < 4
  · rw [if_pos hk] at h0
    generalize viewF r.k = ff at h0
    generalize recvV r = fr at h0
    have hk' : decide (4 ≤ r.k) = false := decide_eq_false (by omega)
    rw [hk']
    clear h hk hk'
    go_enter Tryz.func146, Tryz.ntmps146
    go_wp2
    go_ret
    exact ⟨rfl, rfl⟩
  · rw [if_neg hk] at h0
    have hk' : decide (4 ≤ r.k) = true := decide_eq_true (by omega)
    rw [hk']
    clear h hk hk'
    go_enter Tryz.func146, Tryz.ntmps146
    go_wp2
    go_ret
    exact ⟨rfl, rfl⟩
set_option maxRecDepth 100000 in
theorem end_any {f : Value} (h : RbAt w q r f) (x : Nat) : Calls Tryz.prog 203 #[.pointer (some ⟨q, 0, none⟩), .float .f64 x] w fun e w' => e = .returned (.tuple #[]) ∧ RbAt w' q { r with y := x } .nilFunc ∧ Ch [q] w w' := by
  have h0 := h.cell0
  have h3 := h.cell3
  have hq := h.lt
  have hf0 := h.free 0
  have hf3 := h.free 3
  have HM := Lib.hid h
  clear h
  go_enter Tryz.func203, Tryz.ntmps203
  go_wp2
  go_end0
  exact ⟨rfl, (HM.out.setY x).setF _, ((Ch.refl _ _).set (by simp) _ _).set (by simp) _ _⟩
end
end Go.Proofs.YtninicfnhoediaaGreatDoor.Md.Ce
namespace Go.Proofs.YtninicfnhoediaaGreatDoor.Md.Ce
open Go.ChangeShapes Go.WideShapes Go.ChangeAt Go.RowKit Num
attribute [local go_sem] run_store_float run_store_func run_store_nilFunc
section
variable {w : World} {b g q : Nat} {ws : List Int} {o : Bool} {n : Int} {r : Rd} {f : Value}
theorem view_aft {w1 : World} {x y z : Value} {T : TypeId} (h : RbAt w q r f) (h1 : q ≠ b) (h2 : q ≠ g) (hb : b < w.heap.size) (hg : g < w.heap.size) (hc : Chg b g (w.alloc (.cells #[x, y, z] T)) w1) :
    w1.cell? ⟨w.heap.size, 0, none⟩ = some x ∧ w1.cell? ⟨w.heap.size, 1, none⟩ = some y ∧ w1.cell? ⟨w.heap.size, 2, none⟩ = some z ∧ w.heap.size < w1.heap.size ∧ RbAt w1 q r f ∧ Ch [b, g, q] w w1 := by
  have hq := h.lt
  have hs := hc.size
  simp at hs
  have hx : w1.heap[w.heap.size]? = some (.cells #[x, y, z] T (0, 0)) := (hc.block w.heap.size (by simp) (by omega) (by omega)).trans (heap_alloc_new _ _)
  refine ⟨?_, ?_, ?_, by omega, h.keep ((hc.block q (by simp; omega) h1 h2).trans (Below.heap_alloc _ _ _ hq)), ?_⟩
  · rw [cell_of_row _ _ _ _ _ _ hx]; rfl
  · rw [cell_of_row _ _ _ _ _ _ hx]; rfl
  · rw [cell_of_row _ _ _ _ _ _ hx]; rfl
  · exact ((Ch.refl _ _).alloc _).trans (hc.ch (by simp) (by simp))
set_option maxRecDepth 100000 in
set_option maxHeartbeats 1000000 in
theorem lv_ok (h : MemAt 123 w b g ws o n) (hr : RbAt w q r f) (h1 : q ≠ b) (h2 : q ≠ g) (hk : r.k = 0) (hok : errC ws o r.p r.c 0 = 0) : Calls Tryz.prog 145 #[recvV r, .pointer (some ⟨q, 0, none⟩), .pointer (some ⟨b, 0, none⟩)] w fun e w' => e = .returned (.int .i64 0) ∧ MemAt 123 w' b g ws false (up n) ∧ RbAt w' q (nx0 r (wordC ws r.p r.c 0)) (nextV (nx0 r (wordC ws r.p r.c 0))) ∧ Ch [b, g, q] w w' := by
  have hb := h.ltB
  have hg := h.ltG
  have hq := hr.lt
  have HL := Lib.hid (cload_ok (h.alloc (.cells #[.int .i64 r.p, .int .i64 r.c, .int .u64 r.s] 208)) (p := r.p) (c := r.c) (j := 0) (by omega) hok)
  have HR := Lib.hid hr
  have HN := Lib.hid (And.intro h1 h2)
  unfold recvV
  generalize wordC ws r.p r.c 0 = u at HL ⊢
  clear h hok
  obtain ⟨p, c, s, k, v, x, y, m, t⟩ := r
  simp only at hk HL
  subst hk
  clear hr
  by_cases hu : s < u
  · have hn : nx0 ⟨p, c, s, 0, v, x, y, m, t⟩ u = ⟨p, c, s, 3, u, x, y, m, t⟩ := by simp [nx0, hu]
    rw [hn]
    clear hn
    go_enter Tryz.func145, Tryz.ntmps145
    go_wp2_with (go_at_call 176; refine HL.out.mono ?_; rintro e w1 ⟨rfl, hm, hc⟩; obtain ⟨c0, c1, c2, c3, hrr, hch⟩ := view_aft HR.out HN.out.1 HN.out.2 hb hg hc; have d0 := hrr.cell0; have d1 := hrr.cell1; have d2 := hrr.cell2; have d3 := hrr.cell3; have d5 := hrr.cell5; have dq := hrr.lt; have f0 := hrr.free 0; have f1 := hrr.free 1; have f2 := hrr.free 2; have f5 := hrr.free 5; have HX := Lib.hid (And.intro hm (And.intro hrr hch)); clear hm hc hrr hch)
    go_ret
    exact ⟨rfl, (((HX.out.1.other (Ne.symm HN.out.1) (Ne.symm HN.out.2) _ _).other (Ne.symm HN.out.1) (Ne.symm HN.out.2) _ _).other (Ne.symm HN.out.1) (Ne.symm HN.out.2) _ _), ((HX.out.2.1.setV u).setF _).setF _, ((HX.out.2.2.set (by simp) _ _).set (by simp) _ _).set (by simp) _ _⟩
  · have hn : nx0 ⟨p, c, s, 0, v, x, y, m, t⟩ u = ⟨p, c, s, 1, u, x, y, m, t⟩ := by simp [nx0, hu]
    rw [hn]
    clear hn
    go_enter Tryz.func145, Tryz.ntmps145
    go_wp2_with (go_at_call 176; refine HL.out.mono ?_; rintro e w1 ⟨rfl, hm, hc⟩; obtain ⟨c0, c1, c2, c3, hrr, hch⟩ := view_aft HR.out HN.out.1 HN.out.2 hb hg hc; have d0 := hrr.cell0; have d1 := hrr.cell1; have d2 := hrr.cell2; have d3 := hrr.cell3; have d5 := hrr.cell5; have dq := hrr.lt; have f0 := hrr.free 0; have f1 := hrr.free 1; have f2 := hrr.free 2; have f5 := hrr.free 5; have HX := Lib.hid (And.intro hm (And.intro hrr hch)); clear hm hc hrr hch)
    go_ret
    exact ⟨rfl, ((HX.out.1.other (Ne.symm HN.out.1) (Ne.symm HN.out.2) _ _).other (Ne.symm HN.out.1) (Ne.symm HN.out.2) _ _), (HX.out.2.1.setV u).setF _, (HX.out.2.2.set (by simp) _ _).set (by simp) _ _⟩
set_option maxRecDepth 100000 in
set_option maxHeartbeats 1000000 in
theorem ln_ok (h : MemAt 123 w b g ws o n) (hr : RbAt w q r f) (h1 : q ≠ b) (h2 : q ≠ g) (hk : r.k = 1) (hok : errC ws o r.p r.c 1 = 0) : Calls Tryz.prog 177 #[recvV r, .pointer (some ⟨q, 0, none⟩), .pointer (some ⟨b, 0, none⟩)] w fun e w' => e = .returned (.int .i64 0) ∧ MemAt 123 w' b g ws false (up n) ∧ RbAt w' q (nx0 r (wordC ws r.p r.c 1)) (nextV (nx0 r (wordC ws r.p r.c 1))) ∧ Ch [b, g, q] w w' := by
  have hb := h.ltB
  have hg := h.ltG
  have hq := hr.lt
  have HL := Lib.hid (cload_ok (h.alloc (.cells #[.int .i64 r.p, .int .i64 r.c, .int .u64 r.s] 208)) (p := r.p) (c := r.c) (j := 1) (by omega) hok)
  have HR := Lib.hid hr
  have HN := Lib.hid (And.intro h1 h2)
  unfold recvV
  generalize wordC ws r.p r.c 1 = u at HL ⊢
  clear h hok
  obtain ⟨p, c, s, k, v, x, y, m, t⟩ := r
  simp only at hk HL
  subst hk
  clear hr
  have hn : nx0 ⟨p, c, s, 1, v, x, y, m, t⟩ u = ⟨p, c, s, 2, v, fixB u.toNat, y, m, t⟩ := by simp [nx0]
  rw [hn]
  clear hn
  go_enter Tryz.func177, Tryz.ntmps177
  go_wp2_with (first
    | (go_at_call 176; refine HL.out.mono ?_; rintro e w1 ⟨rfl, hm, hc⟩; obtain ⟨c0, c1, c2, c3, hrr, hch⟩ := view_aft HR.out HN.out.1 HN.out.2 hb hg hc; have d0 := hrr.cell0; have d1 := hrr.cell1; have d2 := hrr.cell2; have d3 := hrr.cell3; have d5 := hrr.cell5; have dq := hrr.lt; have f0 := hrr.free 0; have f1 := hrr.free 1; have f2 := hrr.free 2; have f5 := hrr.free 5; have HX := Lib.hid (And.intro hm (And.intro hrr hch)); clear hm hc hrr hch)
    | (go_at_call 60; refine (of_int _ _).mono ?_; rintro e w2 ⟨rfl, hw⟩; subst w2))
  go_ret
  exact ⟨rfl, ((HX.out.1.other (Ne.symm HN.out.1) (Ne.symm HN.out.2) _ _).other (Ne.symm HN.out.1) (Ne.symm HN.out.2) _ _), (HX.out.2.1.setX _).setF _, (HX.out.2.2.set (by simp) _ _).set (by simp) _ _⟩
set_option maxRecDepth 100000 in
set_option maxHeartbeats 1000000 in
theorem la_ok (h : MemAt 123 w b g ws o n) (hr : RbAt w q r f) (h1 : q ≠ b) (h2 : q ≠ g) (hk : r.k = 2) (hok : errC ws o r.p r.c 0 = 0) : Calls Tryz.prog 202 #[recvV r, .pointer (some ⟨q, 0, none⟩), .pointer (some ⟨b, 0, none⟩)] w fun e w' => e = .returned (.int .i64 0) ∧ MemAt 123 w' b g ws false (up n) ∧ RbAt w' q (nx0 r (wordC ws r.p r.c 0)) (nextV (nx0 r (wordC ws r.p r.c 0))) ∧ Ch [b, g, q] w w' := by
  have hb := h.ltB
  have hg := h.ltG
  have hq := hr.lt
  have HL := Lib.hid (cload_ok (h.alloc (.cells #[.int .i64 r.p, .int .i64 r.c, .int .u64 r.s] 208)) (p := r.p) (c := r.c) (j := 0) (by omega) hok)
  have HR := Lib.hid hr
  have HN := Lib.hid (And.intro h1 h2)
  unfold recvV
  generalize wordC ws r.p r.c 0 = u at HL ⊢
  clear h hok
  obtain ⟨p, c, s, k, v, x, y, m, t⟩ := r
  simp only at hk HL
  subst hk
  clear hr
  by_cases hu : u = v
  · have hn : nx0 ⟨p, c, s, 2, v, x, y, m, t⟩ u = ⟨p, c, s, 4, v, x, x, m, t⟩ := by simp [nx0, hu]
    rw [hn]
    subst hu
    clear hn
    go_enter Tryz.func202, Tryz.ntmps202
    go_wp2_with (first
      | (go_at_call 176; refine HL.out.mono ?_; rintro e w1 ⟨rfl, hm, hc⟩; obtain ⟨c0, c1, c2, c3, hrr, hch⟩ := view_aft HR.out HN.out.1 HN.out.2 hb hg hc; have d0 := hrr.cell0; have d1 := hrr.cell1; have d2 := hrr.cell2; have d3 := hrr.cell3; have d5 := hrr.cell5; have dq := hrr.lt; have f0 := hrr.free 0; have f1 := hrr.free 1; have f2 := hrr.free 2; have f5 := hrr.free 5; have HX := Lib.hid (And.intro hm (And.intro hrr hch)); clear hm hc hrr hch)
      | (go_at_call 203; refine (end_any HX.out.2.1 _).mono ?_; rintro e w2 ⟨rfl, hr2, hc2⟩; have HY := Lib.hid (And.intro (HX.out.1.ch hc2 (by simp; exact Ne.symm HN.out.1) (by simp; exact Ne.symm HN.out.2)) (And.intro hr2 (HX.out.2.2.trans (hc2.mono (by simp))))); clear hr2 hc2 HX))
    go_ret
    exact ⟨rfl, HY.out⟩
  · have hn : nx0 ⟨p, c, s, 2, v, x, y, m, t⟩ u = ⟨p, c, s, 3, v, x, y, m, true⟩ := by simp [nx0, hu]
    rw [hn]
    clear hn
    go_enter Tryz.func202, Tryz.ntmps202
    go_wp2_with (go_at_call 176; refine HL.out.mono ?_; rintro e w1 ⟨rfl, hm, hc⟩; obtain ⟨c0, c1, c2, c3, hrr, hch⟩ := view_aft HR.out HN.out.1 HN.out.2 hb hg hc; have d0 := hrr.cell0; have d1 := hrr.cell1; have d2 := hrr.cell2; have d3 := hrr.cell3; have d5 := hrr.cell5; have dq := hrr.lt; have f0 := hrr.free 0; have f1 := hrr.free 1; have f2 := hrr.free 2; have f5 := hrr.free 5; have HX := Lib.hid (And.intro hm (And.intro hrr hch)); clear hm hc hrr hch)
    go_ret
    exact ⟨rfl, ((HX.out.1.other (Ne.symm HN.out.1) (Ne.symm HN.out.2) _ _).other (Ne.symm HN.out.1) (Ne.symm HN.out.2) _ _), (HX.out.2.1.setT _).setF _, (HX.out.2.2.set (by simp) _ _).set (by simp) _ _⟩
set_option maxRecDepth 100000 in
set_option maxHeartbeats 1000000 in
theorem lw_ok (h : MemAt 123 w b g ws o n) (hr : RbAt w q r f) (h1 : q ≠ b) (h2 : q ≠ g) (hk : r.k = 3) (hok : errC ws o r.p r.c 2 = 0) : Calls Tryz.prog 178 #[recvV r, .pointer (some ⟨q, 0, none⟩), .pointer (some ⟨b, 0, none⟩)] w fun e w' => e = .returned (.int .i64 0) ∧ MemAt 123 w' b g ws false (up n) ∧ RbAt w' q (nx0 r (wordC ws r.p r.c 2)) (nextV (nx0 r (wordC ws r.p r.c 2))) ∧ Ch [b, g, q] w w' := by
  have hb := h.ltB
  have hg := h.ltG
  have hq := hr.lt
  have HL := Lib.hid (cload_ok (h.alloc (.cells #[.int .i64 r.p, .int .i64 r.c, .int .u64 r.s] 208)) (p := r.p) (c := r.c) (j := 2) (by omega) hok)
  have HR := Lib.hid hr
  have HN := Lib.hid (And.intro h1 h2)
  unfold recvV
  generalize wordC ws r.p r.c 2 = u at HL ⊢
  clear h hok
  obtain ⟨p, c, s, k, v, x, y, m, t⟩ := r
  simp only at hk HL
  subst hk
  clear hr
  have hn : nx0 ⟨p, c, s, 3, v, x, y, m, t⟩ u = ⟨p, c, s, 4, v, x, fixB u.toNat, m, t⟩ := by simp [nx0]
  rw [hn]
  clear hn
  go_enter Tryz.func178, Tryz.ntmps178
  go_wp2_with (first
    | (go_at_call 176; refine HL.out.mono ?_; rintro e w1 ⟨rfl, hm, hc⟩; obtain ⟨c0, c1, c2, c3, hrr, hch⟩ := view_aft HR.out HN.out.1 HN.out.2 hb hg hc; have d0 := hrr.cell0; have d1 := hrr.cell1; have d2 := hrr.cell2; have d3 := hrr.cell3; have d5 := hrr.cell5; have dq := hrr.lt; have f0 := hrr.free 0; have f1 := hrr.free 1; have f2 := hrr.free 2; have f5 := hrr.free 5; have HX := Lib.hid (And.intro hm (And.intro hrr hch)); clear hm hc hrr hch)
    | (go_at_call 60; refine (of_int _ _).mono ?_; rintro e w2 ⟨rfl, hw⟩; subst w2)
    | (go_at_call 203; refine (end_any HX.out.2.1 _).mono ?_; rintro e w2 ⟨rfl, hr2, hc2⟩; have HY := Lib.hid (And.intro (HX.out.1.ch hc2 (by simp; exact Ne.symm HN.out.1) (by simp; exact Ne.symm HN.out.2)) (And.intro hr2 (HX.out.2.2.trans (hc2.mono (by simp))))); clear hr2 hc2 HX))
  go_ret
  exact ⟨rfl, HY.out⟩
set_option maxRecDepth 100000 in
set_option maxHeartbeats 1000000 in
theorem lv_no (h : MemAt 123 w b g ws o n) (hr : RbAt w q r f) (h1 : q ≠ b) (h2 : q ≠ g) (hok : ¬ errC ws o r.p r.c 0 = 0) : Calls Tryz.prog 145 #[recvV r, .pointer (some ⟨q, 0, none⟩), .pointer (some ⟨b, 0, none⟩)] w fun e w' => e = .returned (.int .i64 (errC ws o r.p r.c 0)) ∧ MemAt 123 w' b g ws o n ∧ RbAt w' q r f ∧ Ch [b, g, q] w w' := by
  have hb := h.ltB
  have hg := h.ltG
  have HL := Lib.hid (cload_no (h.alloc (.cells #[.int .i64 r.p, .int .i64 r.c, .int .u64 r.s] 208)) (p := r.p) (c := r.c) (j := 0) (by omega) hok)
  have HR := Lib.hid hr
  have HN := Lib.hid (And.intro h1 h2)
  unfold recvV
  generalize errC ws o r.p r.c 0 = x at HL hok ⊢
  clear h hr
  go_enter Tryz.func145, Tryz.ntmps145
  go_wp2_with (go_at_call 176; refine HL.out.mono ?_; rintro e w1 ⟨rfl, hm, hc⟩; obtain ⟨_, _, _, _, hrr, hch⟩ := view_aft HR.out HN.out.1 HN.out.2 hb hg hc; have HX := Lib.hid (And.intro hm (And.intro hrr hch)); clear hm hc hrr hch)
  go_ret
  exact ⟨rfl, HX.out⟩
set_option maxRecDepth 100000 in
set_option maxHeartbeats 1000000 in
theorem ln_no (h : MemAt 123 w b g ws o n) (hr : RbAt w q r f) (h1 : q ≠ b) (h2 : q ≠ g) (hok : ¬ errC ws o r.p r.c 1 = 0) : Calls Tryz.prog 177 #[recvV r, .pointer (some ⟨q, 0, none⟩), .pointer (some ⟨b, 0, none⟩)] w fun e w' => e = .returned (.int .i64 (errC ws o r.p r.c 1)) ∧ MemAt 123 w' b g ws o n ∧ RbAt w' q r f ∧ Ch [b, g, q] w w' := by
  have hb := h.ltB
  have hg := h.ltG
  have HL := Lib.hid (cload_no (h.alloc (.cells #[.int .i64 r.p, .int .i64 r.c, .int .u64 r.s] 208)) (p := r.p) (c := r.c) (j := 1) (by omega) hok)
  have HR := Lib.hid hr
  have HN := Lib.hid (And.intro h1 h2)
  unfold recvV
  generalize errC ws o r.p r.c 1 = x at HL hok ⊢
  clear h hr
  go_enter Tryz.func177, Tryz.ntmps177
  go_wp2_with (go_at_call 176; refine HL.out.mono ?_; rintro e w1 ⟨rfl, hm, hc⟩; obtain ⟨_, _, _, _, hrr, hch⟩ := view_aft HR.out HN.out.1 HN.out.2 hb hg hc; have HX := Lib.hid (And.intro hm (And.intro hrr hch)); clear hm hc hrr hch)
  go_ret
  exact ⟨rfl, HX.out⟩
set_option maxRecDepth 100000 in
set_option maxHeartbeats 1000000 in
theorem la_no (h : MemAt 123 w b g ws o n) (hr : RbAt w q r f) (h1 : q ≠ b) (h2 : q ≠ g) (hok : ¬ errC ws o r.p r.c 0 = 0) : Calls Tryz.prog 202 #[recvV r, .pointer (some ⟨q, 0, none⟩), .pointer (some ⟨b, 0, none⟩)] w fun e w' => e = .returned (.int .i64 (errC ws o r.p r.c 0)) ∧ MemAt 123 w' b g ws o n ∧ RbAt w' q r f ∧ Ch [b, g, q] w w' := by
  have hb := h.ltB
  have hg := h.ltG
  have HL := Lib.hid (cload_no (h.alloc (.cells #[.int .i64 r.p, .int .i64 r.c, .int .u64 r.s] 208)) (p := r.p) (c := r.c) (j := 0) (by omega) hok)
  have HR := Lib.hid hr
  have HN := Lib.hid (And.intro h1 h2)
  unfold recvV
  generalize errC ws o r.p r.c 0 = x at HL hok ⊢
  clear h hr
  go_enter Tryz.func202, Tryz.ntmps202
  go_wp2_with (go_at_call 176; refine HL.out.mono ?_; rintro e w1 ⟨rfl, hm, hc⟩; obtain ⟨_, _, _, _, hrr, hch⟩ := view_aft HR.out HN.out.1 HN.out.2 hb hg hc; have HX := Lib.hid (And.intro hm (And.intro hrr hch)); clear hm hc hrr hch)
  go_ret
  exact ⟨rfl, HX.out⟩
set_option maxRecDepth 100000 in
set_option maxHeartbeats 1000000 in
theorem lw_no (h : MemAt 123 w b g ws o n) (hr : RbAt w q r f) (h1 : q ≠ b) (h2 : q ≠ g) (hok : ¬ errC ws o r.p r.c 2 = 0) : Calls Tryz.prog 178 #[recvV r, .pointer (some ⟨q, 0, none⟩), .pointer (some ⟨b, 0, none⟩)] w fun e w' => e = .returned (.int .i64 (errC ws o r.p r.c 2)) ∧ MemAt 123 w' b g ws o n ∧ RbAt w' q r f ∧ Ch [b, g, q] w w' := by
  have hb := h.ltB
  have hg := h.ltG
  have HL := Lib.hid (cload_no (h.alloc (.cells #[.int .i64 r.p, .int .i64 r.c, .int .u64 r.s] 208)) (p := r.p) (c := r.c) (j := 2) (by omega) hok)
  have HR := Lib.hid hr
  have HN := Lib.hid (And.intro h1 h2)
  unfold recvV
  generalize errC ws o r.p r.c 2 = x at HL hok ⊢
  clear h hr
  go_enter Tryz.func178, Tryz.ntmps178
  go_wp2_with (go_at_call 176; refine HL.out.mono ?_; rintro e w1 ⟨rfl, hm, hc⟩; obtain ⟨_, _, _, _, hrr, hch⟩ := view_aft HR.out HN.out.1 HN.out.2 hb hg hc; have HX := Lib.hid (And.intro hm (And.intro hrr hch)); clear hm hc hrr hch)
  go_ret
  exact ⟨rfl, HX.out⟩
end
end Go.Proofs.YtninicfnhoediaaGreatDoor.Md.Ce
namespace Go.Proofs.YtninicfnhoediaaGreatDoor.Md.Ce
open Go.ChangeShapes Go.WideShapes Go.ChangeAt Go.RowKit Num
attribute [local go_sem] run_store_float run_store_func run_store_nilFunc
section
variable {w : World} {b g q : Nat} {ws : List Int} {o : Bool} {n : Int} {r : Rd}
theorem view_enter (k : Nat) (args : Array Value) (w : World) : (callFunc (viewF k) args).run Tryz.prog w = .ok (.enter (viewF k) args) w := by
  unfold viewF
  split
  · exact enter_run Tryz.func145 (by kernel_rfl) (by kernel_rfl) args w
  split
  · exact enter_run Tryz.func177 (by kernel_rfl) (by kernel_rfl) args w
  split
  · exact enter_run Tryz.func202 (by kernel_rfl) (by kernel_rfl) args w
  · exact enter_run Tryz.func178 (by kernel_rfl) (by kernel_rfl) args w
set_option maxRecDepth 100000 in
set_option maxHeartbeats 1000000 in
theorem rstep_over (h : RdAt w q r) (hk : ¬ r.k < 4) : Calls Tryz.prog 119 #[.pointer (some ⟨q, 0, none⟩), .pointer (some ⟨b, 0, none⟩)] w fun e w' => e = .returned (.tuple #[.bool false, .int .i64 3]) ∧ w' = w := by
  have H1 := Lib.hid (over_any h)
  rw [decide_eq_true (show 4 ≤ r.k by omega)] at H1
  clear h hk
  go_enter Tryz.func119, Tryz.ntmps119
  go_wp2_with (go_at_call 146; refine H1.out.mono ?_; rintro e w1 ⟨rfl, hw⟩; subst w1)
  go_ret2
  exact ⟨rfl, rfl⟩
set_option maxRecDepth 100000 in
set_option maxHeartbeats 1000000 in
theorem rstep_err (h : RdAt w q r) (hk : r.k < 4) {E : Int} (hE : ¬ E = 0) {Q : World → Prop} (hf : Calls Tryz.prog (viewF r.k) #[recvV r, .pointer (some ⟨q, 0, none⟩), .pointer (some ⟨b, 0, none⟩)] w fun e w' => e = .returned (.int .i64 E) ∧ Q w') :
    Calls Tryz.prog 119 #[.pointer (some ⟨q, 0, none⟩), .pointer (some ⟨b, 0, none⟩)] w fun e w' => e = .returned (.tuple #[.bool false, .int .i64 E]) ∧ Q w' := by
  have H1 := Lib.hid (over_any h)
  rw [decide_eq_false (show ¬ 4 ≤ r.k by omega)] at H1
  have h0 := RbAt.cell0 h
  have hq := RbAt.lt h
  have hcall := view_enter r.k
  unfold nextV at h0
  rw [if_pos hk] at h0
  generalize viewF r.k = ff at h0 hf hcall
  generalize recvV r = fr at h0 hf
  have HF := Lib.hid hf
  clear h hk hf
  go_enter Tryz.func119, Tryz.ntmps119
  go_wp2_with (first
    | (go_at_call 146; refine H1.out.mono ?_; rintro e w1 ⟨rfl, hw⟩; subst w1)
    | (refine HF.out.mono ?_; rintro e w' ⟨rfl, hqq⟩; have HQ := Lib.hid hqq; clear hqq))
  go_ret2
  exact ⟨rfl, HQ.out⟩
set_option maxRecDepth 100000 in
set_option maxHeartbeats 1000000 in
theorem rstep_let (h : RdAt w q r) (hk : r.k < 4) {r' : Rd} {Q : World → Prop} (hf : Calls Tryz.prog (viewF r.k) #[recvV r, .pointer (some ⟨q, 0, none⟩), .pointer (some ⟨b, 0, none⟩)] w fun e w' => e = .returned (.int .i64 0) ∧ Q w' ∧ RdAt w' q r') :
    Calls Tryz.prog 119 #[.pointer (some ⟨q, 0, none⟩), .pointer (some ⟨b, 0, none⟩)] w fun e w' => e = .returned (.tuple #[.bool (decide (4 ≤ r'.k)), .int .i64 0]) ∧ ∃ w1, Q w1 ∧ RdAt w1 q r' ∧ w' = w1.setCell ⟨q, 4, none⟩ (.int .i64 (up r'.n)) := by
  have H1 := Lib.hid (over_any h)
  rw [decide_eq_false (show ¬ 4 ≤ r.k by omega)] at H1
  have h0 := RbAt.cell0 h
  have hq := RbAt.lt h
  have hcall := view_enter r.k
  unfold nextV at h0
  rw [if_pos hk] at h0
  generalize viewF r.k = ff at h0 hf hcall
  generalize recvV r = fr at h0 hf
  have HF := Lib.hid hf
  have HO := Lib.hid (fun (w1 : World) (h1 : RdAt w1 q r') => over_any (show RdAt (w1.setCell ⟨q, 4, none⟩ (.int .i64 (up r'.n))) q { r' with n := up r'.n } from RbAt.setN h1 _))
  simp only at HO
  generalize hdd : decide (4 ≤ r'.k) = dd at HO ⊢
  clear h hk hf hdd
  unfold up at HO ⊢
  go_enter Tryz.func119, Tryz.ntmps119
  go_wp2_with (first
    | (go_at_call 146; refine H1.out.mono ?_; rintro e w1 ⟨rfl, hw⟩; subst w1; clear H1)
    | (go_at_call 146; refine (HO.out _ HQ.out.2).mono ?_; rintro e w1 ⟨rfl, hw⟩; subst w1; clear HO)
    | (refine HF.out.mono ?_; rintro e w2 ⟨rfl, hqq, hr2⟩; have d4 := RbAt.cell4 hr2; have f4 := RbAt.free hr2 4; have l4 := RbAt.lt hr2; have HQ := Lib.hid (And.intro hqq hr2); clear hqq hr2 HF))
  go_ret2
  exact ⟨rfl, w2, HQ.out.1, HQ.out.2, rfl⟩
theorem view_let (h : MemAt 123 w b g ws o n) (hr : RdAt w q r) (h1 : q ≠ b) (h2 : q ≠ g) (hk : r.k < 4) (hok : errC ws o r.p r.c (wrd r.k) = 0) : Calls Tryz.prog (viewF r.k) #[recvV r, .pointer (some ⟨q, 0, none⟩), .pointer (some ⟨b, 0, none⟩)] w fun e w' => e = .returned (.int .i64 0) ∧ (MemAt 123 w' b g ws false (up n) ∧ Ch [b, g, q] w w') ∧ RdAt w' q (nx0 r (wordC ws r.p r.c (wrd r.k))) := by
  have hc : r.k = 0 ∨ r.k = 1 ∨ r.k = 2 ∨ r.k = 3 := by omega
  rcases hc with hc | hc | hc | hc
  · rw [show viewF r.k = 145 by simp [viewF, hc], show wrd r.k = 0 by simp [wrd, hc]]
    refine (lv_ok h hr h1 h2 hc (by rw [hc] at hok; exact hok)).mono fun e w' ⟨k1, k2, k3, k4⟩ => ⟨k1, ⟨k2, k4⟩, k3⟩
  · rw [show viewF r.k = 177 by simp [viewF, hc], show wrd r.k = 1 by simp [wrd, hc]]
    refine (ln_ok h hr h1 h2 hc (by rw [hc] at hok; exact hok)).mono fun e w' ⟨k1, k2, k3, k4⟩ => ⟨k1, ⟨k2, k4⟩, k3⟩
  · rw [show viewF r.k = 202 by simp [viewF, hc], show wrd r.k = 0 by simp [wrd, hc]]
    refine (la_ok h hr h1 h2 hc (by rw [hc] at hok; exact hok)).mono fun e w' ⟨k1, k2, k3, k4⟩ => ⟨k1, ⟨k2, k4⟩, k3⟩
  · rw [show viewF r.k = 178 by simp [viewF, hc], show wrd r.k = 2 by simp [wrd, hc]]
    refine (lw_ok h hr h1 h2 hc (by rw [hc] at hok; exact hok)).mono fun e w' ⟨k1, k2, k3, k4⟩ => ⟨k1, ⟨k2, k4⟩, k3⟩
theorem view_no (h : MemAt 123 w b g ws o n) (hr : RdAt w q r) (h1 : q ≠ b) (h2 : q ≠ g) (hk : r.k < 4) (hok : ¬ errC ws o r.p r.c (wrd r.k) = 0) : Calls Tryz.prog (viewF r.k) #[recvV r, .pointer (some ⟨q, 0, none⟩), .pointer (some ⟨b, 0, none⟩)] w fun e w' => e = .returned (.int .i64 (errC ws o r.p r.c (wrd r.k))) ∧ MemAt 123 w' b g ws o n ∧ RdAt w' q r ∧ Ch [b, g, q] w w' := by
  have hc : r.k = 0 ∨ r.k = 1 ∨ r.k = 2 ∨ r.k = 3 := by omega
  rcases hc with hc | hc | hc | hc
  · rw [show viewF r.k = 145 by simp [viewF, hc], show wrd r.k = 0 by simp [wrd, hc]]
    exact lv_no h hr h1 h2 (by rw [hc] at hok; exact hok)
  · rw [show viewF r.k = 177 by simp [viewF, hc], show wrd r.k = 1 by simp [wrd, hc]]
    exact ln_no h hr h1 h2 (by rw [hc] at hok; exact hok)
  · rw [show viewF r.k = 202 by simp [viewF, hc], show wrd r.k = 0 by simp [wrd, hc]]
    exact la_no h hr h1 h2 (by rw [hc] at hok; exact hok)
  · rw [show viewF r.k = 178 by simp [viewF, hc], show wrd r.k = 2 by simp [wrd, hc]]
    exact lw_no h hr h1 h2 (by rw [hc] at hok; exact hok)
def endR (r : Rd) (ws : List Int) (o : Bool) : Bool := decide (errR r ws o = 0) && decide (4 ≤ (stepR r ws o).k)
def aftO (e : Int) (o : Bool) : Bool := if e = 0 then false else o
def aftN (e n : Int) : Int := if e = 0 then up n else n
theorem nx0_n (r : Rd) (u : Int) : (nx0 r u).n = r.n := by unfold nx0; split <;> (try split) <;> (try split) <;> (try split) <;> rfl
theorem rstep_any (h : MemAt 123 w b g ws o n) (hr : RdAt w q r) (h1 : q ≠ b) (h2 : q ≠ g) : Calls Tryz.prog 119 #[.pointer (some ⟨q, 0, none⟩), .pointer (some ⟨b, 0, none⟩)] w fun e w' => e = .returned (.tuple #[.bool (endR r ws o), .int .i64 (errR r ws o)]) ∧ MemAt 123 w' b g ws (aftO (errR r ws o) o) (aftN (errR r ws o) n) ∧ RdAt w' q (stepR r ws o) ∧ Ch [b, g, q] w w' := by
  by_cases hk : r.k < 4
  · have eE : errR r ws o = errC ws o r.p r.c (wrd r.k) := by simp [errR, hk]
    by_cases hok : errC ws o r.p r.c (wrd r.k) = 0
    · refine (rstep_let hr hk (view_let h hr h1 h2 hk hok)).mono fun e w' ⟨he, w1, ⟨hm, hch⟩, hr1, hw⟩ => ?_
      have e1 : errR r ws o = 0 := by rw [eE]; exact hok
      have e2 : stepR r ws o = nxt r (wordC ws r.p r.c (wrd r.k)) := by simp [stepR, e1]
      have e3 : endR r ws o = decide (4 ≤ (nx0 r (wordC ws r.p r.c (wrd r.k))).k) := by simp [endR, e1, e2, nxt]
      rw [e3, e2, e1]
      subst hw
      refine ⟨he, ?_, ?_, hch.set (by simp) _ _⟩
      · exact hm.other (Ne.symm h1) (Ne.symm h2) _ _
      · have := RbAt.setN hr1 (up r.n)
        rw [nx0_n]
        exact this
    · refine (rstep_err hr hk hok (view_no h hr h1 h2 hk hok)).mono fun e w' ⟨he, hm, hr1, hch⟩ => ?_
      have e1 : ¬ errR r ws o = 0 := by rw [eE]; exact hok
      have e2 : stepR r ws o = r := by simp [stepR, e1]
      have e3 : endR r ws o = false := by simp [endR, e1]
      rw [e3, e2, aftO, aftN, if_neg e1, if_neg e1, eE]
      exact ⟨he, hm, hr1, hch⟩
  · refine (rstep_over hr hk).mono fun e w' ⟨he, hw⟩ => ?_
    subst hw
    have e1 : errR r ws o = 3 := by simp [errR, hk]
    have e2 : stepR r ws o = r := by simp [stepR, e1]
    have e3 : endR r ws o = false := by simp [endR, e1]
    rw [e3, e2, e1]
    exact ⟨he, h, hr, Ch.refl _ _⟩
theorem value_any (h : RdAt w q r) : Calls Tryz.prog 120 #[.pointer (some ⟨q, 0, none⟩)] w fun e w' => e = .returned (.float .f64 r.y) ∧ w' = w := by
  have h0 := RbAt.cell3 h
  have hb := RbAt.lt h
  clear h
  go_enter Tryz.func120, Tryz.ntmps120
  go_wp2
  go_ret
  exact ⟨rfl, rfl⟩
end
theorem alloc_at {w : World} {x : Obj} {k : Nat} (hk : w.heap.size = k) : (w.alloc x).heap[k]? = some x := by subst hk; exact heap_alloc_new _ _
def planV (a b c d p f : Int) : Value := .agg #[.int .i64 a, .int .i64 b, .int .i64 c, .int .i64 d, .int .i64 p, .int .i64 f]
def newR (p c s : Int) : Rd := ⟨p, c, s, 0, 0, 0, 0, 0, false⟩
set_option maxRecDepth 100000 in
set_option maxHeartbeats 1000000 in
theorem read_any (w : World) (a1 a2 a3 a4 p a6 c s : Int) : Calls Tryz.prog 118 #[planV a1 a2 a3 a4 p a6, .int .i64 c, .int .u64 s] w fun e w' => ∃ q, e = .returned (.pointer (some ⟨q, 0, none⟩)) ∧ w.heap.size ≤ q ∧ RdAt w' q (newR p c s) ∧ Below w.heap.size w w' := by
  unfold planV
  go_enter Tryz.func118, Tryz.ntmps118
  go_wp2
  go_ret
  refine ⟨_, rfl, by omega, ?_, (((Below.refl _ _).alloc (Nat.le_refl _) _).alloc (by simp) _).alloc (by simp; omega) _⟩
  exact alloc_at (by simp)
theorem rbox_one (r : Rd) : (rboxV r (nextV r)).all (·.oneCell') = true := by
  unfold rboxV nextV
  split <;> simp [Value.oneCell']
theorem readingInfo : (Tryz.prog.info? 183).map (·.size) = some 6 := by kernel_rfl
set_option maxRecDepth 100000 in
theorem rclone_any {w : World} {q : Nat} {r : Rd} (h : RdAt w q r) : Calls Tryz.prog 74 #[.pointer (some ⟨q, 0, none⟩)] w fun e w' => ∃ c, e = .returned (.pointer (some ⟨c, 0, none⟩)) ∧ w.heap.size ≤ c ∧ RdAt w' c r ∧ Below w.heap.size w w' := by
  have hb := RdAt.lt h
  have hbox : w.heap[q]? = some (.cells (rboxV r (nextV r)) 183 (0, 0)) := h
  have HB : Hid (∀ o, Below w.heap.size w (w.alloc o)) := fun o => (Below.refl w.heap.size w).alloc (Nat.le_refl _) o
  clear h
  go_enter Tryz.func74, Tryz.ntmps74
  go_wp2_with (first
    | (refine wpList_load_row rfl 183 _ rfl q rfl _ (rboxV r (nextV r)) _ _ hbox Tryz.underlying183 rfl readingInfo ?_)
    | (refine wpList_store_row rfl 183 _ _ rfl w.heap.size (rboxV r (nextV r)) rfl rfl _ _ (heap_alloc_new _ _) readingInfo rfl (rbox_one r) ?_; rw [World.setRow_alloc_new]))
  go_ret
  exact ⟨_, rfl, Nat.le_refl _, heap_alloc_new _ _, HB.out _⟩
end Go.Proofs.YtninicfnhoediaaGreatDoor.Md.Ce
namespace Go.Proofs.YtninicfnhoediaaGreatDoor.Md.Ce
open Go.ChangeShapes Go.WideShapes Go.ChangeAt Go.RowKit Num
theorem bl_alloc {a w : World} (h : Below a.heap.size a w) (x : Obj) : Below a.heap.size a (w.alloc x) := h.alloc h.size x
theorem bl_setRow {a w : World} {k : Nat} (h : Below a.heap.size a w) (hk : a.heap.size ≤ k) (x : Array Value) : Below a.heap.size a (w.setRow k x) :=
  ⟨h.os, h.tape, h.output, by simpa using h.size, fun i hi => (setRow_other _ _ _ _ (by omega)).trans (h.block i hi)⟩
end Go.Proofs.YtninicfnhoediaaGreatDoor.Md.Ce
namespace Go.Proofs.YtninicfnhoediaaGreatDoor.Md.Ce
open Go.ChangeShapes Go.WideShapes Go.ChangeAt Go.RowKit Num
attribute [local go_sem] run_store_float run_store_func run_store_nilFunc
def tripV (v x y : Int) : Value := .agg #[.int .u64 v, .int .u64 x, .int .u64 y]
def atV (v x y s : Int) : Nat := if s < v then fixB y.toNat else fixB x.toNat
set_option maxRecDepth 100000 in
theorem cat_any (v x y s : Int) (w : World) : Calls Tryz.prog 29 #[tripV v x y, .int .u64 s] w fun e w' => e = .returned (.float .f64 (atV v x y s)) ∧ Below w.heap.size w w' := by
  unfold tripV atV
  by_cases h : s < v
  · rw [if_pos h]
    go_enter Tryz.func29, Tryz.ntmps29
    go_wp2_with (go_at_call 60; refine (of_int _ _).mono ?_; rintro e w2 ⟨rfl, hw⟩; subst w2)
    go_ret
    exact ⟨rfl, (by repeat (first | exact Below.refl _ _ | refine bl_drew ?_ | refine bl_drewN _ ?_ | refine bl_alloc ?_ _ | refine bl_setCell ?_ (by simp) _ _ | refine bl_setRow ?_ (by simp) _))⟩
  · rw [if_neg h]
    go_enter Tryz.func29, Tryz.ntmps29
    go_wp2_with (go_at_call 60; refine (of_int _ _).mono ?_; rintro e w2 ⟨rfl, hw⟩; subst w2)
    go_ret
    exact ⟨rfl, (by repeat (first | exact Below.refl _ _ | refine bl_drew ?_ | refine bl_drewN _ ?_ | refine bl_alloc ?_ _ | refine bl_setCell ?_ (by simp) _ _ | refine bl_setRow ?_ (by simp) _))⟩
end Go.Proofs.YtninicfnhoediaaGreatDoor.Md.Ce
namespace Go.Proofs.YtninicfnhoediaaGreatDoor.Md.Cv
open Go.ChangeShapes Go.WideShapes Go.ChangeAt Go.RowKit
theorem follows13 : Tryz.prog.follows .mixedOrders = true := by kernel_rfl
def plnV (a b c d e f : Int) : Value := .agg #[.int .i64 a, .int .i64 b, .int .i64 c, .int .i64 d, .int .i64 e, .int .i64 f]
def passV (t : Int) : Int := IntKind.u64.wrap (t + 1)
theorem cell_kept {w w' : World} {b : Nat} (e : w'.heap[b]? = w.heap[b]?) (o : Nat) : w'.cell? ⟨b, o, none⟩ = w.cell? ⟨b, o, none⟩ := by simp [World.cell?, e]
theorem tb_drew {B : Nat} {a w : World} (h : Below B a w) : Below B a w.drew := ⟨h.os, h.tape, h.output, h.size, h.block⟩
theorem tb_alloc {a w : World} (h : Below a.heap.size a w) (x : Obj) : Below a.heap.size a (w.alloc x) := h.alloc h.size x
theorem alloc_at {w : World} {x : Obj} {k : Nat} (hk : w.heap.size = k) : (w.alloc x).heap[k]? = some x := by subst hk; exact heap_alloc_new _ _
theorem ne_ty {w : World} {a b : Nat} {c d : Array Value} {S T : TypeId} {x y : Nat × Nat} (h : w.heap[a]? = some (.cells c S x)) (k : w.heap[b]? = some (.cells d T y)) (hne : (S == T) = false) : a ≠ b := by
  rintro rfl
  rw [h] at k
  cases k
  simp at hne
structure Ch3 (b g l : Nat) (w w' : World) : Prop where
  os : w'.os = w.os
  tape : w'.tape = w.tape
  output : w'.output = w.output
  size : w.heap.size ≤ w'.heap.size
  block : ∀ k, k < w.heap.size → k ≠ b → k ≠ g → k ≠ l → w'.heap[k]? = w.heap[k]?
section
variable {b g l : Nat} {a w c : World}
theorem Ch3.refl (b g l : Nat) (w : World) : Ch3 b g l w w := ⟨rfl, rfl, rfl, Nat.le_refl _, fun _ _ _ _ _ => rfl⟩
theorem Ch3.trans (h : Ch3 b g l a w) (k : Ch3 b g l w c) : Ch3 b g l a c :=
  ⟨k.os.trans h.os, k.tape.trans h.tape, k.output.trans h.output, Nat.le_trans h.size k.size, fun i hi h1 h2 h3 => (k.block i (Nat.lt_of_lt_of_le hi h.size) h1 h2 h3).trans (h.block i hi h1 h2 h3)⟩
theorem Ch3.chg (h : Ch3 b g l a w) (k : Chg b g w c) : Ch3 b g l a c := h.trans ⟨k.os, k.tape, k.output, k.size, fun i hi h1 h2 _ => k.block i hi h1 h2⟩
theorem Ch3.on (h : Ch3 b g l a w) (k : Below w.heap.size w c) : Ch3 b g l a c := h.trans ⟨k.os, k.tape, k.output, k.size, fun i hi _ _ _ => k.block i hi⟩
theorem Ch3.set (h : Ch3 b g l a w) (j : Nat) (u : Value) : Ch3 b g l a (w.setCell ⟨l, j, none⟩ u) := h.trans ⟨rfl, rfl, rfl, by simp, fun k _ _ _ h3 => heap_setCell_other _ _ _ _ h3⟩
end
theorem chg_from {a w w' : World} {b g : Nat} (h : Below a.heap.size a w) (k : Chg b g w w') : Chg b g a w' := (Chg.trans ⟨h.os, h.tape, h.output, h.size, fun i hi _ _ => h.block i hi⟩ k)
theorem below_step {a w w' : World} (h : Below a.heap.size a w) (k : Below w.heap.size w w') : Below a.heap.size a w' := h.trans (k.mono h.size)
def may8 (t : Int) : Bool := decide (0 ≤ t ∧ t < 8)
def plc (p t : Int) : Int := if 0 ≤ p ∧ p ≤ 4096 then p + t else -1
theorem may8_pos {t : Int} (h : may8 t = true) : 0 ≤ t ∧ t < 8 := of_decide_eq_true h
theorem smay_any (p t : Int) (w : World) : Calls Tryz.prog 116 #[.agg #[.int .i64 p, .int .i64 t]] w fun e w' => e = .returned (.bool (may8 t)) ∧ Below w.heap.size w w' := by
  unfold may8
  by_cases h1 : 0 ≤ t
  · by_cases h2 : t < 8
    · go_enter Tryz.func116, Tryz.ntmps116
      go_wp2
      go_ret
      exact ⟨by first | (simp; done) | (simp; omega), (Below.refl _ _).alloc (Nat.le_refl _) _⟩
    · go_enter Tryz.func116, Tryz.ntmps116
      go_wp2
      go_ret
      exact ⟨by first | (simp; done) | (simp; omega), (Below.refl _ _).alloc (Nat.le_refl _) _⟩
  · go_enter Tryz.func116, Tryz.ntmps116
    go_wp2
    go_ret
    exact ⟨by first | (simp; done) | (simp; omega), (Below.refl _ _).alloc (Nat.le_refl _) _⟩
theorem splace_any (p t : Int) (ht : may8 t = true) (w : World) : Calls Tryz.prog 122 #[.agg #[.int .i64 p, .int .i64 t]] w fun e w' => e = .returned (.int .i64 (plc p t)) ∧ Below w.heap.size w w' := by
  obtain ⟨ht0, ht1⟩ := may8_pos ht
  clear ht
  by_cases h1 : 0 ≤ p
  · by_cases h2 : p ≤ 4096
    · have e : plc p t = p + t := by simp [plc, h1, h2]
      have e1 : wrap64 (p + t) = p + t := Go.IntWalk.wrap64_in _ ⟨by omega, by omega⟩
      have h1' : ¬ p < 0 := by omega
      have h2' : ¬ 4096 < p := by omega
      rw [e]
      clear e ht0 ht1
      go_enter Tryz.func122, Tryz.ntmps122
      go_wp2
      go_ret
      exact ⟨rfl, (Below.refl _ _).alloc (Nat.le_refl _) _⟩
    · have e : plc p t = -1 := by simp [plc, h2]
      rw [e]
      clear e ht0 ht1
      have h1' : ¬ p < 0 := by omega
      have h2' : 4096 < p := by omega
      go_enter Tryz.func122, Tryz.ntmps122
      go_wp2
      go_ret
      exact ⟨rfl, (Below.refl _ _).alloc (Nat.le_refl _) _⟩
  · have e : plc p t = -1 := by simp [plc, h1]
    rw [e]
    clear e ht0 ht1
    have h1' : p < 0 := by omega
    go_enter Tryz.func122, Tryz.ntmps122
    go_wp2
    go_ret
    exact ⟨rfl, (Below.refl _ _).alloc (Nat.le_refl _) _⟩
theorem wordOf_any (k : Int) (w : World) : Calls Tryz.prog 144 #[.int .u64 k] w fun e w' => e = .returned (.int .u64 (passV k)) ∧ w' = w := by
  unfold passV
  go_enter Tryz.func144, Tryz.ntmps144
  go_wp2
  go_ret
  exact ⟨rfl, rfl⟩
structure Cs where
  A : Int
  B : Int
  T : Int
  N : Int
  K : Int
  S : Int
def CmAt (w : World) (x : Nat) (c : Cs) : Prop := w.heap[x]? = some (.cells #[.int .i64 c.A, .int .i64 c.B, .int .i64 c.T, .int .i64 c.N, .int .u64 c.K, .int .u64 c.S] 180 (0, 0))
section
variable {w w' : World} {x : Nat} {c : Cs}
theorem CmAt.lt (h : CmAt w x c) : x < w.heap.size := lt_of_block h
theorem CmAt.keep (h : CmAt w x c) (e : w'.heap[x]? = w.heap[x]?) : CmAt w' x c := e.trans h
theorem CmAt.on (h : CmAt w x c) (k : Below w.heap.size w w') : CmAt w' x c := h.keep (k.block x h.lt)
theorem CmAt.cells (h : CmAt w x c) : w.cell? ⟨x, 0, none⟩ = some (.int .i64 c.A) ∧ w.cell? ⟨x, 1, none⟩ = some (.int .i64 c.B) ∧ w.cell? ⟨x, 2, none⟩ = some (.int .i64 c.T) ∧ w.cell? ⟨x, 3, none⟩ = some (.int .i64 c.N) ∧ w.cell? ⟨x, 4, none⟩ = some (.int .u64 c.K) ∧ w.cell? ⟨x, 5, none⟩ = some (.int .u64 c.S) ∧ x < w.heap.size ∧ w.frozen? ⟨x, 3, none⟩ = false ∧ w.frozen? ⟨x, 4, none⟩ = false ∧ w.frozen? ⟨x, 5, none⟩ = false :=
  ⟨by rw [cell_of_row w x 0 _ _ _ h]; rfl, by rw [cell_of_row w x 1 _ _ _ h]; rfl, by rw [cell_of_row w x 2 _ _ _ h]; rfl, by rw [cell_of_row w x 3 _ _ _ h]; rfl, by rw [cell_of_row w x 4 _ _ _ h]; rfl, by rw [cell_of_row w x 5 _ _ _ h]; rfl, lt_of_block h, frozen_of_row w x 3 _ _ h, frozen_of_row w x 4 _ _ h, frozen_of_row w x 5 _ _ h⟩
theorem CmAt.setN (h : CmAt w x c) (v : Int) : CmAt (w.setCell ⟨x, 3, none⟩ (.int .i64 v)) x { c with N := v } := (heap_setCell_same w x 3 _ _ _ h).trans rfl
theorem CmAt.setK (h : CmAt w x c) (v : Int) : CmAt (w.setCell ⟨x, 4, none⟩ (.int .u64 v)) x { c with K := v } := (heap_setCell_same w x 4 _ _ _ h).trans rfl
theorem CmAt.setS (h : CmAt w x c) (v : Int) : CmAt (w.setCell ⟨x, 5, none⟩ (.int .u64 v)) x { c with S := v } := (heap_setCell_same w x 5 _ _ _ h).trans rfl
theorem stampC_any (h : CmAt w x c) : Calls Tryz.prog 94 #[.pointer (some ⟨x, 0, none⟩)] w fun e w' => e = .returned (.int .u64 c.S) ∧ w' = w := by
  obtain ⟨h0, h1, h2, h3, h4, h5, h6, _⟩ := h.cells
  clear h
  go_enter Tryz.func94, Tryz.ntmps94
  go_wp2
  go_ret
  exact ⟨rfl, rfl⟩
theorem overC_any (h : CmAt w x c) : Calls Tryz.prog 115 #[.pointer (some ⟨x, 0, none⟩)] w fun e w' => e = .returned (.bool (decide (c.N = 3))) ∧ w' = w := by
  obtain ⟨h0, h1, h2, h3, h4, h5, h6, _⟩ := h.cells
  clear h
  go_enter Tryz.func115, Tryz.ntmps115
  go_wp2
  go_ret
  exact ⟨rfl, rfl⟩
theorem come_any (a0 a1 a2 a3 a4 a5 t : Int) (w : World) : Calls Tryz.prog 76 #[plnV a0 a1 a2 a3 a4 a5, .int .i64 t] w fun e w' => ∃ x, e = .returned (.pointer (some ⟨x, 0, none⟩)) ∧ w.heap.size ≤ x ∧ CmAt w' x ⟨a2, a3, t, 0, 0, 0⟩ ∧ Below w.heap.size w w' := by
  unfold plnV
  go_enter Tryz.func76, Tryz.ntmps76
  go_wp2
  go_ret
  exact ⟨_, rfl, by simp, alloc_at (by simp), tb_alloc (tb_alloc (Below.refl _ _) _) _⟩
theorem cclone_any (h : CmAt w x c) : Calls Tryz.prog 73 #[.pointer (some ⟨x, 0, none⟩)] w fun e w' => ∃ y, e = .returned (.pointer (some ⟨y, 0, none⟩)) ∧ w.heap.size ≤ y ∧ CmAt w' y c ∧ Below w.heap.size w w' := by
  obtain ⟨h0, h1, h2, h3, h4, h5, h6, _⟩ := h.cells
  clear h
  go_enter Tryz.func73, Tryz.ntmps73
  go_wp2
  go_ret
  exact ⟨_, rfl, by simp, heap_alloc_new _ _, tb_alloc (Below.refl _ _) _⟩
end
end Go.Proofs.YtninicfnhoediaaGreatDoor.Md.Cv
namespace Go.Proofs.YtninicfnhoediaaGreatDoor.Md.Cv
open Go.ChangeShapes Go.WideShapes Go.ChangeAt Go.RowKit
theorem ok_facts {ws : List Int} {o : Bool} {i : Int} (h : errA ws o i = 0) : (∀ v, stored ws o i v = ws.set i.toNat v) ∧ spentO ws o i = false ∧ (∀ n, spentC ws o i n = up n) ∧ toldW ws o i = wordAt ws i ∧ hasB ws i = true ∧ o = true := by
  have hk : hasB ws i = true ∧ o = true := by
    unfold errA at h
    cases q : hasB ws i <;> cases o <;> simp [q] at h ⊢
  obtain ⟨h1, rfl⟩ := hk
  exact ⟨fun v => by simp [stored, h1], by simp [spentO, h1], fun n => by simp [spentC, h1], by simp [toldW, h1], h1, rfl⟩
theorem no_facts {ws : List Int} {o : Bool} {i : Int} (h : ¬ errA ws o i = 0) : (∀ v, stored ws o i v = ws) ∧ spentO ws o i = o ∧ (∀ n, spentC ws o i n = n) ∧ toldW ws o i = 0 := by
  have hk : (hasB ws i && o) = false := by
    unfold errA at h
    cases q : hasB ws i <;> cases o <;> simp [q] at h ⊢
  refine ⟨fun v => by simp [stored, hk], ?_, fun n => by simp [spentC, hk], by simp [toldW, hk]⟩
  unfold spentO
  cases q : hasB ws i <;> cases o <;> simp_all
def cI (c : Cs) : Int := if c.N = 1 then plc c.B c.T else c.A
def aW (c : Cs) (ws : List Int) (o : Bool) : List Int := if c.N = 1 then stored ws o (plc c.B c.T) (passV c.K) else ws
def aC (c : Cs) (ws : List Int) (o : Bool) : Cs := ⟨c.A, c.B, c.T, c.N, if c.N = 0 then toldW ws o c.A else c.K, if c.N = 2 then toldW ws o c.A else c.S⟩
section
variable {w : World} {b g x : Nat} {ws : List Int} {o : Bool} {n : Int} {c : Cs}
theorem CmAt.ne (h : CmAt w x c) (m : MemAt 123 w b g ws o n) : x ≠ b ∧ x ≠ g := ⟨ne_ty h m.box rfl, ne_ty h m.row rfl⟩
set_option maxRecDepth 100000 in
set_option maxHeartbeats 1000000 in
theorem acc0_any (h : MemAt 123 w b g ws o n) {A B T K S : Int} (hx : CmAt w x ⟨A, B, T, 0, K, S⟩) : Calls Tryz.prog 117 #[.pointer (some ⟨x, 0, none⟩), .pointer (some ⟨b, 0, none⟩)] w fun e w' => e = .returned (.int .i64 (errA ws o A)) ∧ MemAt 123 w' b g ws (spentO ws o A) (spentC ws o A n) ∧ CmAt w' x ⟨A, B, T, 0, toldW ws o A, S⟩ ∧ Ch3 b g x w w' := by
  have HN := Lib.hid (hx.ne h)
  have HM := Lib.hid h
  have HX := Lib.hid hx
  obtain ⟨h0, h1, h2, h3, h4, h5, h6, h7, h8, h9⟩ := hx.cells
  clear h hx
  dsimp only at h0 h1 h2 h3 h4 h5
  go_enter Tryz.func117, Tryz.ntmps117
  go_wp2_with (go_at_call 23; refine (load_any HM.out _).mono ?_; rintro e w1 ⟨rfl, hm, hc⟩; have HM1 := Lib.hid hm; have HC1 := Lib.hid hc; have HX1 := Lib.hid (HX.out.keep (hc.block x h6 HN.out.1 HN.out.2)); obtain ⟨k0, k1, k2, k3, k4, k5, k6, k7, k8, k9⟩ := HX1.out.cells; clear hm hc)
  go_ret
  exact ⟨rfl, HM1.out.other HN.out.1.symm HN.out.2.symm _ _, HX1.out.setK _, ((Ch3.refl _ _ _ _).chg HC1.out).set _ _⟩
set_option maxRecDepth 100000 in
set_option maxHeartbeats 1000000 in
theorem acc2_any (h : MemAt 123 w b g ws o n) {A B T K S : Int} (hx : CmAt w x ⟨A, B, T, 2, K, S⟩) : Calls Tryz.prog 117 #[.pointer (some ⟨x, 0, none⟩), .pointer (some ⟨b, 0, none⟩)] w fun e w' => e = .returned (.int .i64 (errA ws o A)) ∧ MemAt 123 w' b g ws (spentO ws o A) (spentC ws o A n) ∧ CmAt w' x ⟨A, B, T, 2, K, toldW ws o A⟩ ∧ Ch3 b g x w w' := by
  have HN := Lib.hid (hx.ne h)
  have HM := Lib.hid h
  have HX := Lib.hid hx
  obtain ⟨h0, h1, h2, h3, h4, h5, h6, h7, h8, h9⟩ := hx.cells
  clear h hx
  dsimp only at h0 h1 h2 h3 h4 h5
  go_enter Tryz.func117, Tryz.ntmps117
  go_wp2_with (go_at_call 23; refine (load_any HM.out _).mono ?_; rintro e w1 ⟨rfl, hm, hc⟩; have HM1 := Lib.hid hm; have HC1 := Lib.hid hc; have HX1 := Lib.hid (HX.out.keep (hc.block x h6 HN.out.1 HN.out.2)); obtain ⟨k0, k1, k2, k3, k4, k5, k6, k7, k8, k9⟩ := HX1.out.cells; clear hm hc)
  go_ret
  exact ⟨rfl, HM1.out.other HN.out.1.symm HN.out.2.symm _ _, HX1.out.setS _, ((Ch3.refl _ _ _ _).chg HC1.out).set _ _⟩
set_option maxRecDepth 100000 in
set_option maxHeartbeats 2000000 in
theorem acc1_any (h : MemAt 123 w b g ws o n) {A B T K S : Int} (hx : CmAt w x ⟨A, B, T, 1, K, S⟩) (hmay : may8 T = true) : Calls Tryz.prog 117 #[.pointer (some ⟨x, 0, none⟩), .pointer (some ⟨b, 0, none⟩)] w fun e w' => e = .returned (.int .i64 (errA ws o (plc B T))) ∧ MemAt 123 w' b g (stored ws o (plc B T) (passV K)) (spentO ws o (plc B T)) (spentC ws o (plc B T) n) ∧ CmAt w' x ⟨A, B, T, 1, K, S⟩ ∧ Ch3 b g x w w' := by
  have HN := Lib.hid (hx.ne h)
  have HM := Lib.hid h
  have HX := Lib.hid hx
  have HY := Lib.hid hmay
  obtain ⟨h0, h1, h2, h3, h4, h5, h6, h7, h8, h9⟩ := hx.cells
  clear h hx hmay
  dsimp only at h0 h1 h2 h3 h4 h5
  go_enter Tryz.func117, Tryz.ntmps117
  go_wp2
  refine wp_region_seq (fun w' => w'.cell? ⟨x, 1, none⟩ = some (.int .i64 B) ∧ w'.cell? ⟨x, 2, none⟩ = some (.int .i64 T) ∧ w'.cell? ⟨x, 4, none⟩ = some (.int .u64 K)) ((0, true) :: (1, true) :: (2, true) :: (3, true) :: (4, true) :: (6, true) :: (7, true) :: (8, true) :: (9, true) :: (5, false) :: (10, false) :: (11, false) :: (12, true) :: []) follows13 (by kernel_rfl) (fun _ _ _ _ _ h => h) ⟨h1, h2, h4⟩ ?_
  repeat (refine wpSeq_take (v := ?_) rfl (by rfl) (fun wq hSq => ?_) ?_; rotate_left; (focus ((try dsimp only at hSq); go_simp; try with_reducible rfl)); simp only [Act.put, List.setIfInBounds_toArray, List.set_cons_zero, List.set_cons_succ])
  refine wpSeq_do rfl (by rfl) (fun KK hK => ?_)
  go_simp
  refine (splace_any B T HY.out _).mono ?_
  rintro e w1 ⟨rfl, hb⟩
  have HB1 : Hid (Below w.heap.size w w1) := below_step (tb_drew (Below.refl _ _)) hb
  have HX1 := Lib.hid (HX.out.on HB1.out)
  obtain ⟨k0, k1, k2, k3, k4, k5, k6, _⟩ := HX1.out.cells
  refine hK.out _ _ ⟨k1, k2, k4⟩ ?_
  clear hK KK hb
  try simp only [Act.put, List.setIfInBounds_toArray, List.set_cons_zero, List.set_cons_succ]
  refine wpSeq_do rfl (by rfl) (fun KK hK => ?_)
  go_simp
  refine (wordOf_any K _).mono ?_
  rintro e w2 ⟨rfl, hw⟩
  subst w2
  refine hK.out _ _ ⟨k1, k2, k4⟩ ?_
  clear hK KK
  try simp only [Act.put, List.setIfInBounds_toArray, List.set_cons_zero, List.set_cons_succ]
  refine wpSeq_do rfl (by rfl) (fun KK hK => ?_)
  go_simp
  refine (store_any (HM.out.on HB1.out) _ _).mono ?_
  rintro e w2 ⟨rfl, hm, hc⟩
  have HM2 := Lib.hid hm
  have HC2 := Lib.hid hc
  have HX2 := Lib.hid (HX1.out.keep (hc.block x k6 HN.out.1 HN.out.2))
  clear hm hc
  obtain ⟨j0, j1, j2, j3, j4, j5, j6, _⟩ := HX2.out.cells
  refine hK.out _ _ ⟨j1, j2, j4⟩ ?_
  clear hK KK
  try simp only [Act.put, List.setIfInBounds_toArray, List.set_cons_zero, List.set_cons_succ]
  repeat (refine wpSeq_take (v := ?_) rfl (by rfl) (fun wq hSq => ?_) ?_; rotate_left; (focus ((try dsimp only at hSq); go_simp; try with_reducible rfl)); simp only [Act.put, List.setIfInBounds_toArray, List.set_cons_zero, List.set_cons_succ])
  refine wpSeq_nil ?_
  go_wp2
  go_ret
  exact ⟨rfl, HM2.out, HX2.out, ((Ch3.refl _ _ _ _).on HB1.out).chg HC2.out⟩
theorem access_any (h : MemAt 123 w b g ws o n) (hx : CmAt w x c) (hN : c.N = 0 ∨ c.N = 1 ∨ c.N = 2) (hmay : may8 c.T = true) : Calls Tryz.prog 117 #[.pointer (some ⟨x, 0, none⟩), .pointer (some ⟨b, 0, none⟩)] w fun e w' => e = .returned (.int .i64 (errA ws o (cI c))) ∧ MemAt 123 w' b g (aW c ws o) (spentO ws o (cI c)) (spentC ws o (cI c) n) ∧ CmAt w' x (aC c ws o) ∧ Ch3 b g x w w' := by
  obtain ⟨A, B, T, N, K, S⟩ := c
  dsimp only at hN hmay
  rcases hN with rfl | rfl | rfl
  · exact acc0_any h hx
  · exact acc1_any h hx hmay
  · exact acc2_any h hx
end
end Go.Proofs.YtninicfnhoediaaGreatDoor.Md.Cv
namespace Go.Proofs.YtninicfnhoediaaGreatDoor.Md.Cv
open Go.ChangeShapes Go.WideShapes Go.ChangeAt Go.RowKit
def cE (c : Cs) (ws : List Int) (o : Bool) : Int := if c.N = 3 then 3 else if may8 c.T then errA ws o (cI c) else 100
def cO (c : Cs) (ws : List Int) (o : Bool) : Bool := decide (cE c ws o = 0) && decide (c.N = 2)
def cW (c : Cs) (ws : List Int) (o : Bool) : List Int := if cE c ws o = 0 then (if c.N = 1 then ws.set (plc c.B c.T).toNat (passV c.K) else ws) else ws
def cP (c : Cs) (ws : List Int) (o : Bool) : Bool := if cE c ws o = 0 then false else o
def cQ (c : Cs) (ws : List Int) (o : Bool) (n : Int) : Int := if cE c ws o = 0 then up n else n
def cC (c : Cs) (ws : List Int) (o : Bool) : Cs := if cE c ws o = 0 then ⟨c.A, c.B, c.T, c.N + 1, if c.N = 0 then wordAt ws c.A else c.K, if c.N = 2 then wordAt ws c.A else c.S⟩ else c
structure COk (c : Cs) : Prop where
  n : c.N = 0 ∨ c.N = 1 ∨ c.N = 2 ∨ c.N = 3
  k : c.N = 0 → c.K = 0
  s : c.N ≠ 3 → c.S = 0
theorem aW_ok {c : Cs} {ws : List Int} {o : Bool} (h : errA ws o (cI c) = 0) : aW c ws o = if c.N = 1 then ws.set (plc c.B c.T).toNat (passV c.K) else ws := by
  unfold aW cI at *
  by_cases q : c.N = 1
  · rw [if_pos q] at h ⊢
    rw [if_pos q, (ok_facts h).1]
  · rw [if_neg q, if_neg q]
theorem aW_no {c : Cs} {ws : List Int} {o : Bool} (h : ¬ errA ws o (cI c) = 0) : aW c ws o = ws := by
  unfold aW cI at *
  by_cases q : c.N = 1
  · rw [if_pos q] at h ⊢
    exact (no_facts h).1 _
  · rw [if_neg q]
theorem aC_ok {c : Cs} {ws : List Int} {o : Bool} (h : errA ws o (cI c) = 0) : aC c ws o = ⟨c.A, c.B, c.T, c.N, if c.N = 0 then wordAt ws c.A else c.K, if c.N = 2 then wordAt ws c.A else c.S⟩ := by
  unfold aC cI at *
  by_cases q : c.N = 1
  · rw [if_neg (by omega), if_neg (by omega), if_neg (by omega), if_neg (by omega)]
  · rw [if_neg q] at h
    rw [(ok_facts h).2.2.2.1]
theorem aC_no {c : Cs} {ws : List Int} {o : Bool} (hc : COk c) (h : ¬ errA ws o (cI c) = 0) : aC c ws o = c := by
  have hn := hc.n
  have hk := hc.k
  have hs := hc.s
  obtain ⟨A, B, T, N, K, S⟩ := c
  unfold aC cI at *
  dsimp only at *
  by_cases q : N = 1
  · rw [if_neg (by omega), if_neg (by omega)]
  · rw [if_neg q] at h
    rw [(no_facts h).2.2.2]
    by_cases q0 : N = 0
    · rw [if_pos q0, if_neg (by omega), hk q0]
    · rw [if_neg q0]
      by_cases q2 : N = 2
      · rw [if_pos q2, hs (by omega)]
      · rw [if_neg q2]
section
variable {w : World} {b g x : Nat} {ws : List Int} {o : Bool} {n : Int} {c : Cs}
set_option maxRecDepth 100000 in
theorem cstep_over (hx : CmAt w x c) (hN : c.N = 3) (b : Nat) : Calls Tryz.prog 82 #[.pointer (some ⟨x, 0, none⟩), .pointer (some ⟨b, 0, none⟩)] w fun e w' => e = .returned (.tuple #[.bool false, .int .i64 3]) ∧ w' = w := by
  have HO := Lib.hid (overC_any hx)
  simp only [hN, decide_true] at HO
  clear hx hN
  go_enter Tryz.func82, Tryz.ntmps82
  go_wp2_with (go_at_call 115; refine HO.out.mono ?_; rintro e w1 ⟨rfl, hw⟩; subst w1)
  go_ret2
  exact ⟨rfl, rfl⟩
set_option maxRecDepth 100000 in
theorem cstep_may (hx : CmAt w x c) (hN : c.N ≠ 3) (hm : may8 c.T = false) (b : Nat) : Calls Tryz.prog 82 #[.pointer (some ⟨x, 0, none⟩), .pointer (some ⟨b, 0, none⟩)] w fun e w' => e = .returned (.tuple #[.bool false, .int .i64 100]) ∧ Below w.heap.size w w' := by
  have HO := Lib.hid (overC_any hx)
  simp only [decide_eq_false hN] at HO
  have HY := Lib.hid (smay_any c.B c.T)
  simp only [hm] at HY
  obtain ⟨h0, h1, h2, h3, h4, h5, h6, h7, h8, h9⟩ := hx.cells
  clear hx hN hm
  go_enter Tryz.func82, Tryz.ntmps82
  go_wp2_with (first
    | (go_at_call 115; refine HO.out.mono ?_; rintro e w1 ⟨rfl, hw⟩; subst w1)
    | (go_at_call 116; refine (HY.out _).mono ?_; rintro e w1 ⟨rfl, hb⟩; have HB := Lib.hid hb; clear hb))
  go_ret2
  exact ⟨rfl, HB.out⟩
set_option maxRecDepth 100000 in
set_option maxHeartbeats 1000000 in
theorem cstep_go (h : MemAt 123 w b g ws o n) (hx : CmAt w x c) (hN : c.N = 0 ∨ c.N = 1 ∨ c.N = 2) (hm : may8 c.T = true) {er : Int} (her : errA ws o (cI c) = er) : Calls Tryz.prog 82 #[.pointer (some ⟨x, 0, none⟩), .pointer (some ⟨b, 0, none⟩)] w fun e w' => e = .returned (.tuple #[.bool (decide (er = 0) && decide (c.N = 2)), .int .i64 er]) ∧ MemAt 123 w' b g (aW c ws o) (spentO ws o (cI c)) (spentC ws o (cI c) n) ∧ CmAt w' x (if er = 0 then ⟨c.A, c.B, c.T, c.N + 1, (aC c ws o).K, (aC c ws o).S⟩ else aC c ws o) ∧ Ch3 b g x w w' := by
  have HO := Lib.hid (overC_any hx)
  rw [decide_eq_false (show ¬ c.N = 3 by omega)] at HO
  have HY := Lib.hid (smay_any c.B c.T)
  simp only [hm] at HY
  have HA := Lib.hid (fun w1 (hb : Below w.heap.size w w1) => access_any (h.on hb) (hx.on hb) hN hm)
  rw [her] at HA
  obtain ⟨h0, h1, h2, h3, h4, h5, h6, h7, h8, h9⟩ := hx.cells
  have HQ := Lib.hid (hx.ne h)
  clear h hx hm her
  by_cases q : er = 0
  · subst q
    rw [if_pos rfl, decide_eq_true rfl, Bool.true_and]
    have hN' : wrap64 (c.N + 1) = c.N + 1 := Go.IntWalk.wrap64_in _ ⟨by omega, by omega⟩
    have hN2 : decide (c.N + 1 = 3) = decide (c.N = 2) := by rw [decide_eq_decide]; omega
    have HN2 := Lib.hid hN2
    clear hN hN2
    go_enter Tryz.func82, Tryz.ntmps82
    go_wp2_with (first
      | (go_at_call 115; refine HO.out.mono ?_; rintro e w1 ⟨rfl, hw⟩; subst w1; clear HO)
      | (go_at_call 116; refine (HY.out _).mono ?_; rintro e w1 ⟨rfl, hb⟩; have HB := Lib.hid hb; clear hb)
      | (go_at_call 117; refine (HA.out _ HB.out).mono ?_; rintro e w2 ⟨rfl, hm, hx, hc⟩; have HM2 := Lib.hid hm; have HX2 := Lib.hid hx; have HC2 := Lib.hid ((Ch3.refl _ _ _ _).on HB.out |>.trans hc); have k3 : w2.cell? ⟨x, 3, none⟩ = some (.int .i64 c.N) := hx.cells.2.2.2.1; have k6 : x < w2.heap.size := hx.lt; have k7 : w2.frozen? ⟨x, 3, none⟩ = false := hx.cells.2.2.2.2.2.2.2.1; clear hm hx hc)
      | (go_at_call 115; refine (overC_any (HX2.out.setN (c.N + 1))).mono ?_; dsimp only; rw [HN2.out]; rintro e w3 ⟨rfl, hw⟩; subst w3))
    go_ret2
    exact ⟨rfl, HM2.out.other HQ.out.1.symm HQ.out.2.symm _ _, HX2.out.setN _, HC2.out.set _ _⟩
  · rw [if_neg q, decide_eq_false q, Bool.false_and]
    clear hN
    go_enter Tryz.func82, Tryz.ntmps82
    go_wp2_with (first
      | (go_at_call 115; refine HO.out.mono ?_; rintro e w1 ⟨rfl, hw⟩; subst w1; clear HO)
      | (go_at_call 116; refine (HY.out _).mono ?_; rintro e w1 ⟨rfl, hb⟩; have HB := Lib.hid hb; clear hb)
      | (go_at_call 117; refine (HA.out _ HB.out).mono ?_; rintro e w2 ⟨rfl, hm, hx, hc⟩; have HM2 := Lib.hid hm; have HX2 := Lib.hid hx; have HC2 := Lib.hid ((Ch3.refl _ _ _ _).on HB.out |>.trans hc); clear hm hx hc))
    go_ret2
    exact ⟨rfl, HM2.out, HX2.out, HC2.out⟩
theorem cstep_any (h : MemAt 123 w b g ws o n) (hx : CmAt w x c) (hc : COk c) : Calls Tryz.prog 82 #[.pointer (some ⟨x, 0, none⟩), .pointer (some ⟨b, 0, none⟩)] w fun e w' => e = .returned (.tuple #[.bool (cO c ws o), .int .i64 (cE c ws o)]) ∧ MemAt 123 w' b g (cW c ws o) (cP c ws o) (cQ c ws o n) ∧ CmAt w' x (cC c ws o) ∧ Ch3 b g x w w' := by
  by_cases h3 : c.N = 3
  · have e : cE c ws o = 3 := by simp [cE, h3]
    unfold cO cW cP cQ cC
    rw [e]
    refine (cstep_over hx h3 b).mono ?_
    rintro r w' ⟨rfl, rfl⟩
    exact ⟨by simp, by simpa using h, by simpa using hx, Ch3.refl _ _ _ _⟩
  · cases hm : may8 c.T
    · have e : cE c ws o = 100 := by simp [cE, h3, hm]
      unfold cO cW cP cQ cC
      rw [e]
      refine (cstep_may hx h3 hm b).mono ?_
      rintro r w' ⟨rfl, hb⟩
      exact ⟨by simp, by simpa using h.on hb, by simpa using hx.on hb, (Ch3.refl _ _ _ _).on hb⟩
    · have e : cE c ws o = errA ws o (cI c) := by simp [cE, h3, hm]
      have hN : c.N = 0 ∨ c.N = 1 ∨ c.N = 2 := by have := hc.n; omega
      unfold cO cW cP cQ cC
      rw [e]
      refine (cstep_go h hx hN hm rfl).mono ?_
      rintro r w' ⟨rfl, hm', hx', hch⟩
      refine ⟨rfl, ?_, ?_, hch⟩
      · by_cases q : errA ws o (cI c) = 0
        · rw [if_pos q, if_pos q, if_pos q]
          have f := ok_facts q
          rw [aW_ok q, f.2.1, f.2.2.1] at hm'
          exact hm'
        · rw [if_neg q, if_neg q, if_neg q]
          have f := no_facts q
          rw [aW_no q, f.2.1, f.2.2.1] at hm'
          exact hm'
      · by_cases q : errA ws o (cI c) = 0
        · rw [if_pos q] at hx' ⊢
          rw [aC_ok q] at hx'
          exact hx'
        · rw [if_neg q] at hx' ⊢
          rw [aC_no hc q] at hx'
          exact hx'
end
end Go.Proofs.YtninicfnhoediaaGreatDoor.Md.Cv
namespace Go.Proofs.YtninicfnhoediaaGreatDoor.Md.Cv
open Go.ChangeShapes Go.WideShapes Go.ChangeAt Go.RowKit
section
variable {w : World} {b g x : Nat} {ws : List Int} {o : Bool} {n : Int}
def lE (ws : List Int) (o : Bool) (p t : Int) : Int := if may8 t then errA ws o (plc p t) else 100
def lW (ws : List Int) (o : Bool) (p t : Int) : List Int := if may8 t then stored ws o (plc p t) 0 else ws
def lO (ws : List Int) (o : Bool) (p t : Int) : Bool := if may8 t then spentO ws o (plc p t) else o
def lC (ws : List Int) (o : Bool) (p t n : Int) : Int := if may8 t then spentC ws o (plc p t) n else n
set_option maxRecDepth 100000 in
set_option maxHeartbeats 1000000 in
theorem leave_any (h : MemAt 123 w b g ws o n) (a0 a1 a2 a3 a4 a5 t : Int) : Calls Tryz.prog 85 #[.pointer (some ⟨b, 0, none⟩), plnV a0 a1 a2 a3 a4 a5, .int .i64 t] w fun e w' => e = .returned (.int .i64 (lE ws o a3 t)) ∧ MemAt 123 w' b g (lW ws o a3 t) (lO ws o a3 t) (lC ws o a3 t n) ∧ Chg b g w w' := by
  unfold plnV lE lW lO lC
  have HM := Lib.hid h
  clear h
  have HY := Lib.hid (smay_any a3 t)
  cases hm : may8 t
  · simp only [hm] at HY
    go_enter Tryz.func85, Tryz.ntmps85
    go_wp2_with (go_at_call 116; refine (HY.out _).mono ?_; rintro e w1 ⟨rfl, hb⟩; have HB := Lib.hid (below_step (tb_alloc (tb_alloc (Below.refl w.heap.size w) _) _) hb); clear hb)
    go_ret
    exact ⟨rfl, HM.out.on HB.out, chg_from HB.out (Chg.refl _ _ _)⟩
  · simp only [hm] at HY
    have HPL := Lib.hid (splace_any a3 t hm)
    go_enter Tryz.func85, Tryz.ntmps85
    go_wp2_with (first
      | (go_at_call 116; refine (HY.out _).mono ?_; rintro e w1 ⟨rfl, hb⟩; have HB := Lib.hid (below_step (tb_alloc (tb_alloc (Below.refl w.heap.size w) _) _) hb); obtain ⟨z0, z1⟩ : w1.cell? ⟨w.heap.size + 1, 0, none⟩ = some (.int .i64 a3) ∧ w1.cell? ⟨w.heap.size + 1, 1, none⟩ = some (.int .i64 t) := ⟨(hb.cell (p := ⟨w.heap.size + 1, 0, none⟩) (by simp)).trans (by simp [go_sem]), (hb.cell (p := ⟨w.heap.size + 1, 1, none⟩) (by simp)).trans (by simp [go_sem])⟩; clear hb)
      | (go_at_call 122; refine (HPL.out _).mono ?_; rintro e w2 ⟨rfl, hb⟩; have HB2 := Lib.hid (below_step HB.out hb); clear hb)
      | (go_at_call 121; refine (store_any (HM.out.on HB2.out) _ _).mono ?_; rintro e w3 ⟨rfl, hm3, hc⟩; have HX := Lib.hid (And.intro hm3 (chg_from HB2.out hc)); clear hm3 hc))
    go_ret
    exact ⟨rfl, HX.out⟩
end
end Go.Proofs.YtninicfnhoediaaGreatDoor.Md.Cv
namespace Go.Proofs.YtninicfnhoediaaGreatDoor.Rr
open Go.ChangeShapes Go.WideShapes Go.ChangeAt Go.RowKit Num
structure Rx where
  a : Int
  b : Int
  th : Int
  tag : Int
  args : List Nat
  m : Mac
  steps : Int
  part : Nat
  sub : Nat
  claim : Int
  stamp : Int
  cell : Int
  ver : Int
  now : Int
def u64B (v : Int) : Prop := 0 ≤ v ∧ v < 18446744073709551616
def okW (ws : List Int) : Prop := ∀ v ∈ ws, u64B v
theorem okW.at {ws : List Int} (h : okW ws) (i : Int) : u64B (wordAt ws i) := by
  unfold wordAt
  rw [List.getD_eq_getElem?_getD]
  cases e : ws[i.toNat]? with
  | none => exact ⟨by decide, by decide⟩
  | some v => exact h v (List.mem_of_getElem? e)
theorem okW.set {ws : List Int} (h : okW ws) (i : Nat) {v : Int} (hv : u64B v) : okW (ws.set i v) := fun u hu => (List.mem_or_eq_of_mem_set hu).elim (h u) (fun e => e ▸ hv)
theorem pass_in (v : Int) : u64B (Md.Cv.passV v) := by
  unfold Md.Cv.passV u64B
  rw [IntKind.wrap_u64]
  omega
def plW (x : Rx) : Int := 3 + x.b + 3 * x.a
def atW (x : Rx) (j : Int) : Int := 3 + x.b + 3 * x.cell + j
def readX (x : Rx) (ws : List Int) : Rx :=
  if x.sub = 0 then { x with ver := wordAt ws (atW x 0), sub := if x.stamp < wordAt ws (atW x 0) then 3 else 1 }
  else if x.sub = 1 then { x with now := wordAt ws (atW x 1), sub := 2 }
  else if x.sub = 2 then (if wordAt ws (atW x 0) = x.ver then { x with m := giveM x.m (fixB x.now.toNat), cell := -1, sub := 3 } else { x with sub := 3 })
  else { x with m := giveM x.m (fixB (wordAt ws (atW x 2)).toNat), cell := -1 }
def begX (x : Rx) : Rx := { x with m := (stepM x.m).1, cell := (stepM x.m).2.cell, sub := 0 }
def runX (x : Rx) (ws : List Int) : Rx × Bool :=
  if 0 ≤ x.cell then (readX x ws, true)
  else if (stepM x.m).2.kind = 1 then (readX (begX x) ws, true)
  else ({ x with m := (stepM x.m).1, part := if (stepM x.m).2.kind = 4 then 3 else 2 }, false)
def tickX (x : Rx) : Rx := { x with steps := x.steps + 1 }
def comeX (x : Rx) (ws : List Int) : Rx × List Int :=
  if x.sub = 0 then ({ x with claim := wordAt ws 2, sub := 1 }, ws)
  else if x.sub = 1 then ({ x with sub := 2 }, ws.set (3 + x.th).toNat (Md.Cv.passV x.claim))
  else ({ x with stamp := wordAt ws 2, part := 2 }, ws)
def leaveX (x : Rx) : Rx := { x with part := 4 }
def stepX (x : Rx) (ws : List Int) : Rx × List Int × Bool :=
  if x.part = 1 then ((comeX (tickX x) ws).1, (comeX (tickX x) ws).2, true)
  else if x.part = 3 then (leaveX (tickX x), ws.set (3 + x.th).toNat 0, true)
  else ((runX (tickX x) ws).1, ws, (runX (tickX x) ws).2)
structure Alike (x y : Rx) : Prop where
  a : y.a = x.a
  b : y.b = x.b
  th : y.th = x.th
  tag : y.tag = x.tag
  args : y.args = x.args
  fuel : y.m.fuel = x.m.fuel
theorem Alike.refl (x : Rx) : Alike x x := ⟨rfl, rfl, rfl, rfl, rfl, rfl⟩
theorem Alike.trans {x y z : Rx} (h : Alike x y) (k : Alike y z) : Alike x z := ⟨k.a.trans h.a, k.b.trans h.b, k.th.trans h.th, k.tag.trans h.tag, k.args.trans h.args, k.fuel.trans h.fuel⟩
structure In0 (x : Rx) : Prop where
  ca : 1 ≤ x.a ∧ x.a ≤ 256
  cb : 1 ≤ x.b ∧ x.b ≤ 8
  cel : x.m.cells = x.a
  th : 0 ≤ x.th ∧ x.th < x.b
  inv : Inv x.m
  few : x.args.length ≤ 8
  part : 1 ≤ x.part ∧ x.part ≤ 4
  p1 : x.part = 1 → x.sub ≤ 2 ∧ x.cell = -1 ∧ x.stamp = 0 ∧ (x.sub = 0 → x.claim = 0) ∧ x.m.how = 0 ∧ ¬ 0 ≤ x.m.wait
  p2 : x.part = 2 → x.m.how = 0 ∧ ((x.cell = -1 ∧ ¬ 0 ≤ x.m.wait) ∨ (0 ≤ x.cell ∧ x.m.wait = x.cell ∧ 1 ≤ x.sub ∧ x.sub ≤ 3))
  p3 : x.part = 3 ∨ x.part = 4 → x.m.how ≠ 0 ∧ x.cell = -1 ∧ ¬ 0 ≤ x.m.wait
  k : u64B x.claim
  s : u64B x.stamp
  v : u64B x.ver
  n : u64B x.now
structure InX (x : Rx) : Prop extends In0 x where
  pos : 0 ≤ x.steps
  s1 : x.part = 1 → x.steps = x.sub
  s2 : x.part = 2 → (x.cell = -1 → x.steps ≤ 3 + 4 * x.m.used) ∧ (0 ≤ x.cell → x.steps ≤ 4 * x.m.used - 1 + x.sub)
  s3 : x.part = 3 → x.steps ≤ 4 * x.m.fuel + 4
  s4 : x.part = 4 → x.steps ≤ 4 * x.m.fuel + 5
theorem In0.tick {x : Rx} (h : In0 x) : In0 (tickX x) := ⟨h.ca, h.cb, h.cel, h.th, h.inv, h.few, h.part, h.p1, h.p2, h.p3, h.k, h.s, h.v, h.n⟩
section
variable {x : Rx} {ws : List Int}
theorem In0.celB (h : In0 x) : -1 ≤ x.cell ∧ x.cell < x.a := by
  have h1 := h.ca
  have hp := h.part
  rcases (by omega : x.part = 1 ∨ x.part = 2 ∨ x.part = 3 ∨ x.part = 4) with e | e | e | e
  · have := (h.p1 e).2.1; omega
  · rcases (h.p2 e).2 with q | q
    · omega
    · have := h.inv.wait
      have := h.cel
      omega
  · have := (h.p3 (.inl e)).2.1; omega
  · have := (h.p3 (.inr e)).2.1; omega
theorem fix_lt (v : Int) (h : u64B v) : fixB v.toNat < 18446744073709551616 := fixB_lt (by have := h.2; have := h.1; omega)
theorem read_in (hI : Inv x.m) (hc : 0 ≤ x.cell) (hw : x.m.wait = x.cell) (hs : x.sub ≤ 3) (h0 : x.m.how = 0) (hn : u64B x.now) (hv : u64B x.ver) (hW : okW ws) :
    Alike x (readX x ws) ∧ Inv (readX x ws).m ∧ (readX x ws).m.cells = x.m.cells ∧ (readX x ws).m.how = 0 ∧ (readX x ws).m.used = x.m.used ∧ (readX x ws).part = x.part ∧ (readX x ws).steps = x.steps ∧ (readX x ws).stamp = x.stamp ∧ (readX x ws).claim = x.claim ∧ u64B (readX x ws).now ∧ u64B (readX x ws).ver ∧
      (((readX x ws).cell = -1 ∧ ¬ 0 ≤ (readX x ws).m.wait ∧ x.sub ≥ 2) ∨ ((readX x ws).cell = x.cell ∧ (readX x ws).m = x.m ∧ x.sub + 1 ≤ (readX x ws).sub ∧ (readX x ws).sub ≤ 3)) := by
  have hw0 : 0 ≤ x.m.wait := by omega
  have G : ∀ y : Int, u64B y → Inv (giveM x.m (fixB y.toNat)) ∧ (giveM x.m (fixB y.toNat)).cells = x.m.cells ∧ (giveM x.m (fixB y.toNat)).how = 0 ∧ (giveM x.m (fixB y.toNat)).used = x.m.used ∧ ¬ 0 ≤ (giveM x.m (fixB y.toNat)).wait ∧ (giveM x.m (fixB y.toNat)).fuel = x.m.fuel := fun y hy => by
    obtain ⟨q1, q2, q3, q4⟩ := give_goes hw0 (fixB y.toNat)
    exact ⟨inv_give hI (fix_lt y hy), q4.cells, q2.trans h0, q3, q1, q4.fuel⟩
  unfold readX
  split
  · refine ⟨⟨rfl, rfl, rfl, rfl, rfl, rfl⟩, hI, rfl, h0, rfl, rfl, rfl, rfl, rfl, hn, hW.at _, .inr ⟨rfl, rfl, ?_, ?_⟩⟩
    · dsimp only; split <;> omega
    · dsimp only; split <;> omega
  · split
    · exact ⟨⟨rfl, rfl, rfl, rfl, rfl, rfl⟩, hI, rfl, h0, rfl, rfl, rfl, rfl, rfl, hW.at _, hv, .inr ⟨rfl, rfl, by dsimp only; omega, by dsimp only; omega⟩⟩
    · split
      · split
        · obtain ⟨q1, q2, q3, q4, q5, q6⟩ := G _ hn
          exact ⟨⟨rfl, rfl, rfl, rfl, rfl, q6⟩, q1, q2, q3, q4, rfl, rfl, rfl, rfl, hn, hv, .inl ⟨rfl, q5, by omega⟩⟩
        · exact ⟨⟨rfl, rfl, rfl, rfl, rfl, rfl⟩, hI, rfl, h0, rfl, rfl, rfl, rfl, rfl, hn, hv, .inr ⟨rfl, rfl, by dsimp only; omega, by dsimp only; omega⟩⟩
      · obtain ⟨q1, q2, q3, q4, q5, q6⟩ := G (wordAt ws (atW x 2)) (hW.at _)
        exact ⟨⟨rfl, rfl, rfl, rfl, rfl, q6⟩, q1, q2, q3, q4, rfl, rfl, rfl, rfl, hn, hv, .inl ⟨rfl, q5, by omega⟩⟩
theorem run_in (h : InX x) (hp : x.part = 2) (hW : okW ws) : InX (runX (tickX x) ws).1 ∧ Alike x (runX (tickX x) ws).1 ∧ (runX (tickX x) ws).1.steps = x.steps + 1 ∧ ((runX (tickX x) ws).1.part = 2 ∨ (runX (tickX x) ws).1.part = 3) := by
  obtain ⟨h0, hq⟩ := h.p2 hp
  obtain ⟨hs1, hs2⟩ := h.s2 hp
  have hu := h.inv.used
  have hf := h.inv.fuel
  have hpos := h.pos
  rcases hq with ⟨hc, hw⟩ | ⟨hc, hw, hs1', hs3⟩
  · have nc : ¬ 0 ≤ x.cell := by omega
    have hst := hs1 hc
    obtain ⟨lk, tr⟩ := step_turns h.inv hw h0
    have hI := inv_step h.inv
    rcases tr with ⟨k4, e1, e2⟩ | ⟨k1, e1, e2, e3, e4⟩ | ⟨k0, e1, e2, e3⟩
    · have k1 : ¬ (stepM x.m).2.kind = 1 := by omega
      have E : runX (tickX x) ws = ({ tickX x with m := (stepM x.m).1, part := 3 }, false) := by
        unfold runX; rw [if_neg (show ¬ 0 ≤ (tickX x).cell from nc), if_neg (show ¬ (stepM (tickX x).m).2.kind = 1 from k1), if_pos (show (stepM (tickX x).m).2.kind = 4 from k4)]; rfl
      rw [E]
      exact ⟨⟨⟨h.ca, h.cb, lk.cells.trans h.cel, h.th, hI, h.few, by dsimp only; omega, (fun e => by cases e), (fun e => by cases e), fun _ => ⟨e1, hc, e2⟩, h.k, h.s, h.v, h.n⟩, by show 0 ≤ x.steps + 1; omega, (fun e => by cases e), (fun e => by cases e), (fun _ => by show x.steps + 1 ≤ 4 * (stepM x.m).1.fuel + 4; rw [lk.fuel]; omega), (fun e => by cases e)⟩, ⟨rfl, rfl, rfl, rfl, rfl, lk.fuel⟩, rfl, .inr rfl⟩
    · have E : runX (tickX x) ws = (readX (begX (tickX x)) ws, true) := by
        unfold runX; rw [if_neg (show ¬ 0 ≤ (tickX x).cell from nc), if_pos (show (stepM (tickX x).m).2.kind = 1 from k1)]
      obtain ⟨q1, q2, q3, q4, q5, q6, q7, q8, q9, q10, q11, q12⟩ := read_in (x := begX (tickX x)) (ws := ws) hI (by show 0 ≤ (stepM x.m).2.cell; omega) (by show (stepM x.m).1.wait = (stepM x.m).2.cell; omega) (by show (0 : Nat) ≤ 3; omega) e3 h.n h.v hW
      rw [E]
      have s7 : (readX (begX (tickX x)) ws).steps = x.steps + 1 := q7
      have s5 : (readX (begX (tickX x)) ws).m.used = x.m.used + 1 := q5.trans e4
      have s6 : (readX (begX (tickX x)) ws).part = 2 := q6.trans hp
      obtain ⟨z1, z2, z3, z4⟩ : (readX (begX (tickX x)) ws).cell = (stepM x.m).2.cell ∧ (readX (begX (tickX x)) ws).m = (stepM x.m).1 ∧ 1 ≤ (readX (begX (tickX x)) ws).sub ∧ (readX (begX (tickX x)) ws).sub ≤ 3 := by
        rcases q12 with ⟨_, _, z⟩ | ⟨z1, z2, z3, z4⟩
        · exact absurd z (by show ¬ (0 : Nat) ≥ 2; omega)
        · exact ⟨z1, z2, z3, z4⟩
      refine ⟨⟨⟨by rw [q1.a]; exact h.ca, by rw [q1.b]; exact h.cb, by rw [q3, q1.a]; exact lk.cells.trans h.cel, by rw [q1.th, q1.b]; exact h.th, q2, by rw [q1.args]; exact h.few, by dsimp only; omega, (fun e => by dsimp only at e; omega), fun _ => ⟨q4, .inr ⟨by dsimp only; omega, by dsimp only; rw [z1, z2]; omega, z3, z4⟩⟩, (fun e => by dsimp only at e; omega), by rw [q9]; exact h.k, by rw [q8]; exact h.s, q11, q10⟩, by dsimp only; omega, (fun e => by dsimp only at e; omega), fun _ => ⟨fun e => by dsimp only at e; omega, fun _ => by dsimp only; omega⟩, (fun e => by dsimp only at e; omega), (fun e => by dsimp only at e; omega)⟩, ⟨q1.a, q1.b, q1.th, q1.tag, q1.args, q1.fuel.trans lk.fuel⟩, s7, .inl s6⟩
    · have k1 : ¬ (stepM x.m).2.kind = 1 := by omega
      have k4 : ¬ (stepM x.m).2.kind = 4 := by omega
      have E : runX (tickX x) ws = ({ tickX x with m := (stepM x.m).1, part := 2 }, false) := by
        unfold runX; rw [if_neg (show ¬ 0 ≤ (tickX x).cell from nc), if_neg (show ¬ (stepM (tickX x).m).2.kind = 1 from k1), if_neg (show ¬ (stepM (tickX x).m).2.kind = 4 from k4)]; rfl
      rw [E]
      exact ⟨⟨⟨h.ca, h.cb, lk.cells.trans h.cel, h.th, hI, h.few, by dsimp only; omega, (fun e => by cases e), fun _ => ⟨e2, .inl ⟨hc, e1⟩⟩, (fun e => by rcases e with e | e <;> cases e), h.k, h.s, h.v, h.n⟩, by show 0 ≤ x.steps + 1; omega, (fun e => by cases e), fun _ => ⟨fun _ => by show x.steps + 1 ≤ 3 + 4 * (stepM x.m).1.used; omega, fun e => absurd e nc⟩, (fun e => by cases e), (fun e => by cases e)⟩, ⟨rfl, rfl, rfl, rfl, rfl, lk.fuel⟩, rfl, .inl rfl⟩
  · have hst := hs2 hc
    have E : runX (tickX x) ws = (readX (tickX x) ws, true) := by
      unfold runX; rw [if_pos (show 0 ≤ (tickX x).cell from hc)]
    obtain ⟨q1, q2, q3, q4, q5, q6, q7, q8, q9, q10, q11, q12⟩ := read_in (x := tickX x) (ws := ws) h.inv hc hw hs3 h0 h.n h.v hW
    rw [E]
    have s7 : (readX (tickX x) ws).steps = x.steps + 1 := q7
    have s5 : (readX (tickX x) ws).m.used = x.m.used := q5
    have s6 : (readX (tickX x) ws).part = 2 := q6.trans hp
    have Z : ((readX (tickX x) ws).cell = -1 ∧ ¬ 0 ≤ (readX (tickX x) ws).m.wait ∧ 2 ≤ x.sub) ∨ ((readX (tickX x) ws).cell = x.cell ∧ (readX (tickX x) ws).m = x.m ∧ x.sub + 1 ≤ (readX (tickX x) ws).sub ∧ (readX (tickX x) ws).sub ≤ 3) := q12
    refine ⟨⟨⟨by rw [q1.a]; exact h.ca, by rw [q1.b]; exact h.cb, by rw [q3, q1.a]; exact h.cel, by rw [q1.th, q1.b]; exact h.th, q2, by rw [q1.args]; exact h.few, by dsimp only; omega, (fun e => by dsimp only at e; omega), fun _ => ⟨q4, ?_⟩, (fun e => by dsimp only at e; omega), by rw [q9]; exact h.k, by rw [q8]; exact h.s, q11, q10⟩, by dsimp only; omega, (fun e => by dsimp only at e; omega), fun _ => ⟨fun e => ?_, fun e => ?_⟩, (fun e => by dsimp only at e; omega), (fun e => by dsimp only at e; omega)⟩, ⟨q1.a, q1.b, q1.th, q1.tag, q1.args, q1.fuel⟩, s7, .inl s6⟩
    · rcases Z with ⟨z1, z2, _⟩ | ⟨z1, z2, z3, z4⟩
      · exact .inl ⟨z1, z2⟩
      · exact .inr ⟨by dsimp only; rw [z1]; exact hc, by dsimp only; rw [z1, z2]; exact hw, by dsimp only; omega, z4⟩
    · dsimp only at e ⊢
      rcases Z with ⟨z1, z2, _⟩ | ⟨z1, z2, z3, z4⟩
      · omega
      · omega
    · dsimp only at e ⊢
      rcases Z with ⟨z1, z2, _⟩ | ⟨z1, z2, z3, z4⟩
      · omega
      · omega
theorem step_in (h : InX x) (hp : x.part ≠ 4) (hW : okW ws) : InX (stepX x ws).1 ∧ Alike x (stepX x ws).1 ∧ (stepX x ws).1.steps = x.steps + 1 ∧ okW (stepX x ws).2.1 ∧ (stepX x ws).2.1.length = ws.length := by
  have hP := h.part
  have hpos := h.pos
  rcases (by omega : x.part = 1 ∨ x.part = 2 ∨ x.part = 3) with e | e | e
  · obtain ⟨c1, c2, c3, c4, c6, c7⟩ := h.p1 e
    have c5 := h.s1 e
    rcases (by omega : x.sub = 0 ∨ x.sub = 1 ∨ x.sub = 2) with d | d | d
    · have E : stepX x ws = ({ tickX x with claim := wordAt ws 2, sub := 1 }, ws, true) := by unfold stepX comeX; rw [if_pos e, if_pos (show (tickX x).sub = 0 from d)]
      rw [E]
      exact ⟨⟨⟨h.ca, h.cb, h.cel, h.th, h.inv, h.few, hP, fun _ => ⟨by show (1 : Nat) ≤ 2; omega, c2, c3, (fun q => by cases q), c6, c7⟩, (fun q => by have q' : x.part = 2 := q; omega), h.p3, hW.at _, h.s, h.v, h.n⟩, by show 0 ≤ x.steps + 1; omega, (fun _ => by show x.steps + 1 = 1; omega), (fun q => by have q' : x.part = 2 := q; omega), (fun q => by have q' : x.part = 3 := q; omega), (fun q => by have q' : x.part = 4 := q; omega)⟩, ⟨rfl, rfl, rfl, rfl, rfl, rfl⟩, rfl, hW, rfl⟩
    · have E : stepX x ws = ({ tickX x with sub := 2 }, ws.set (3 + x.th).toNat (Md.Cv.passV x.claim), true) := by unfold stepX comeX; rw [if_pos e, if_neg (show ¬ (tickX x).sub = 0 by show ¬ x.sub = 0; omega), if_pos (show (tickX x).sub = 1 from d)]; rfl
      rw [E]
      exact ⟨⟨⟨h.ca, h.cb, h.cel, h.th, h.inv, h.few, hP, fun _ => ⟨by show (2 : Nat) ≤ 2; omega, c2, c3, (fun q => by cases q), c6, c7⟩, (fun q => by have q' : x.part = 2 := q; omega), h.p3, h.k, h.s, h.v, h.n⟩, by show 0 ≤ x.steps + 1; omega, (fun _ => by show x.steps + 1 = 2; omega), (fun q => by have q' : x.part = 2 := q; omega), (fun q => by have q' : x.part = 3 := q; omega), (fun q => by have q' : x.part = 4 := q; omega)⟩, ⟨rfl, rfl, rfl, rfl, rfl, rfl⟩, rfl, hW.set _ (pass_in _), by simp⟩
    · have E : stepX x ws = ({ tickX x with stamp := wordAt ws 2, part := 2 }, ws, true) := by unfold stepX comeX; rw [if_pos e, if_neg (show ¬ (tickX x).sub = 0 by show ¬ x.sub = 0; omega), if_neg (show ¬ (tickX x).sub = 1 by show ¬ x.sub = 1; omega)]
      rw [E]
      have hu := h.inv.used
      exact ⟨⟨⟨h.ca, h.cb, h.cel, h.th, h.inv, h.few, by dsimp only; omega, (fun q => by cases q), fun _ => ⟨c6, .inl ⟨c2, c7⟩⟩, (fun q => by rcases q with q | q <;> cases q), h.k, hW.at _, h.v, h.n⟩, by show 0 ≤ x.steps + 1; omega, (fun q => by cases q), fun _ => ⟨fun _ => by show x.steps + 1 ≤ 3 + 4 * x.m.used; omega, fun q => by have q' : 0 ≤ x.cell := q; omega⟩, (fun q => by cases q), (fun q => by cases q)⟩, ⟨rfl, rfl, rfl, rfl, rfl, rfl⟩, rfl, hW, rfl⟩
  · have E : stepX x ws = ((runX (tickX x) ws).1, ws, (runX (tickX x) ws).2) := by unfold stepX; rw [if_neg (by omega), if_neg (by omega)]
    obtain ⟨q1, q2, q3, _⟩ := run_in h e hW
    rw [E]
    exact ⟨q1, q2, q3, hW, rfl⟩
  · have E : stepX x ws = (leaveX (tickX x), ws.set (3 + x.th).toNat 0, true) := by unfold stepX; rw [if_neg (by omega), if_pos e]
    obtain ⟨c1, c2, c3⟩ := h.p3 (.inl e)
    have c4 := h.s3 e
    rw [E]
    exact ⟨⟨⟨h.ca, h.cb, h.cel, h.th, h.inv, h.few, ⟨by show 1 ≤ 4; omega, by show 4 ≤ 4; omega⟩, (fun q => by cases q), (fun q => by cases q), fun _ => ⟨c1, c2, c3⟩, h.k, h.s, h.v, h.n⟩, by show 0 ≤ x.steps + 1; omega, (fun q => by cases q), (fun q => by cases q), (fun q => by cases q), (fun _ => by show x.steps + 1 ≤ 4 * x.m.fuel + 5; omega)⟩, ⟨rfl, rfl, rfl, rfl, rfl, rfl⟩, rfl, hW.set _ ⟨by decide, by decide⟩, by simp⟩
theorem InX.few_steps (h : InX x) : x.steps ≤ 4 * x.m.fuel + 5 ∧ (x.part ≠ 4 → x.steps ≤ 4 * x.m.fuel + 4) := by
  have hP := h.part
  have hu := h.inv.used
  have hf := h.inv.fuel
  rcases (by omega : x.part = 1 ∨ x.part = 2 ∨ x.part = 3 ∨ x.part = 4) with e | e | e | e
  · have := h.s1 e; have := h.p1 e; omega
  · have := h.s2 e; have := h.p2 e; omega
  · have := h.s3 e; omega
  · have := h.s4 e; omega
end
end Go.Proofs.YtninicfnhoediaaGreatDoor.Rr
namespace Go.Proofs.YtninicfnhoediaaGreatDoor.Rr
open Go.ChangeShapes Go.WideShapes Go.ChangeAt Go.RowKit Num
structure Rz where
  bm : Nat
  K : List Nat
  xc : Nat
  pa : Option Addr
  ca : Nat
def Rz.KK (z : Rz) : List Nat := z.K ++ fpR z.pa
def ptrV (q : Option Nat) : Value := .pointer (q.map fun n => ⟨n, 0, none⟩)
def gX (b : Nat) (z : Rz) (q : Option Nat) (F : List Nat) : List Nat := b :: z.xc :: (q.toList ++ F)
def xboxV (x : Rx) (z : Rz) (q : Option Nat) : Array Value := #[.int .i64 0, .int .i64 1, .int .i64 2, .int .i64 3, .int .i64 (3 + x.b), .int .i64 (3 + x.b + 3 * x.a), .pointer (some ⟨z.bm, 0, none⟩), .int .i64 x.steps, .int .i64 x.tag, .slice z.pa x.args.length z.ca, .int .i64 x.th, .int .i64 (x.part : Int), .pointer (some ⟨z.xc, 0, none⟩), ptrV q]
structure RawAt (w : World) (b : Nat) (x : Rx) (z : Rz) (q : Option Nat) (F : List Nat) (c : Md.Cv.Cs) (r : Md.Ce.Rd) : Prop where
  box : w.heap[b]? = some (.cells (xboxV x z q) 106 (0, 0))
  mac : Mc w z.bm F z.K x.m
  com : Md.Cv.CmAt w z.xc c
  rd : ∀ n, q = some n → Md.Ce.RdAt w n r
  arg : RowAt 71 w z.pa z.ca (fls x.args)
  sf : Sep (b :: z.xc :: q.toList) F
  sk : Sep (b :: z.xc :: q.toList) z.KK
  fa : Sep (fpR z.pa) F
theorem rdAt_keep {w w' : World} {n : Nat} {r : Md.Ce.Rd} (h : Md.Ce.RdAt w n r) (k : w'.heap[n]? = w.heap[n]?) : Md.Ce.RdAt w' n r := Md.Ce.RbAt.keep h k
theorem turn_wide {F F' : List Nat} {w w' : World} (t : Turn F F' w w') (A : List Nat) : Turn (A ++ F) (A ++ F') w w' :=
  ⟨t.os, t.tape, t.output, t.size, fun k hk hn => t.block k hk (fun q => hn (List.mem_append.2 (.inr q))), fun k hk => (List.mem_append.1 hk).elim (fun q => .inl (List.mem_append.2 (.inl q))) (fun q => (t.own k q).imp (fun y => List.mem_append.2 (.inr y)) id)⟩
theorem turn_of {L F : List Nat} {w w' : World} (o1 : w'.os = w.os) (o2 : w'.tape = w.tape) (o3 : w'.output = w.output) (hs : w.heap.size ≤ w'.heap.size) (hL : ∀ k, k ∈ L → k ∈ F) (hb : ∀ k, k < w.heap.size → k ∉ L → w'.heap[k]? = w.heap[k]?) : Turn F F w w' :=
  ⟨o1, o2, o3, hs, fun k hk hn => hb k hk (fun q => hn (hL k q)), fun _ h => .inl h⟩
section
variable {w w' : World} {b : Nat} {x : Rx} {z : Rz} {q : Option Nat} {F : List Nat} {c : Md.Cv.Cs} {r : Md.Ce.Rd}
theorem RawAt.ltB (h : RawAt w b x z q F c r) : b < w.heap.size := lt_of_block h.box
theorem RawAt.blw (h : RawAt w b x z q F c r) : Blw w (gX b z q F) := fun k hk => by
  simp only [gX, List.mem_cons, List.mem_append, Option.mem_toList] at hk
  rcases hk with rfl | rfl | hk | hk
  · exact h.ltB
  · exact h.com.lt
  · exact Md.Ce.RdAt.lt (h.rd k hk)
  · exact h.mac.blw k hk
theorem RawAt.blwK (h : RawAt w b x z q F c r) : Blw w z.KK := fun k hk => by
  rcases List.mem_append.1 hk with hk | hk
  · exact h.mac.blwK k hk
  · exact h.arg.blw k hk
theorem RawAt.sep (h : RawAt w b x z q F c r) : Sep z.KK (gX b z q F) := fun k hk hq => by
  have hX := h.sk.symm k hk
  have hF : k ∉ F := fun q => by
    rcases List.mem_append.1 hk with hk | hk
    · exact h.mac.sepK k hk q
    · exact h.fa k hk q
  simp only [gX, List.mem_cons, List.mem_append] at hq hX
  rcases hq with rfl | rfl | hq | hq
  · exact hX (.inl rfl)
  · exact hX (.inr (.inl rfl))
  · exact hX (.inr (.inr hq))
  · exact hF hq
theorem in_b {b : Nat} {z : Rz} {q : Option Nat} {F : List Nat} : b ∈ gX b z q F := by simp [gX]
theorem in_c {b : Nat} {z : Rz} {q : Option Nat} {F : List Nat} : z.xc ∈ gX b z q F := by simp [gX]
theorem in_q {b n : Nat} {z : Rz} {q : Option Nat} {F : List Nat} (h : q = some n) : n ∈ gX b z q F := by simp [gX, h]
theorem in_F {b k : Nat} {z : Rz} {q : Option Nat} {F : List Nat} (h : k ∈ F) : k ∈ gX b z q F := by simp [gX, h]
theorem RawAt.keep (h : RawAt w b x z q F c r) (k : Kept (gX b z q F) w w') (k2 : Kept z.KK w w') : RawAt w' b x z q F c r :=
  ⟨(k.2 b in_b).trans h.box, h.mac.keep ⟨k.1, fun i hi => k.2 i (in_F hi)⟩ ⟨k.1, fun i hi => k2.2 i (List.mem_append.2 (.inl hi))⟩, h.com.keep (k.2 _ in_c), fun n hn => rdAt_keep (h.rd n hn) (k.2 n (in_q hn)), h.arg.keep ⟨k.1, fun i hi => k2.2 i (List.mem_append.2 (.inr hi))⟩, h.sf, h.sk, h.fa⟩
theorem RawAt.on (h : RawAt w b x z q F c r) (k : Below w.heap.size w w') : RawAt w' b x z q F c r := h.keep (kept_below k h.blw) (kept_below k h.blwK)
theorem RawAt.cell (h : RawAt w b x z q F c r) (j : Nat) : w.cell? ⟨b, j, none⟩ = (xboxV x z q)[j]? := cell_of_row w b j _ _ _ h.box
theorem RawAt.free (h : RawAt w b x z q F c r) (j : Nat) : w.frozen? ⟨b, j, none⟩ = false := frozen_of_row w b j _ _ h.box
theorem RawAt.bc (h : RawAt w b x z q F c r) : b ≠ z.xc := Md.Cv.ne_ty h.box h.com (by decide)
theorem RawAt.bq (h : RawAt w b x z q F c r) {n : Nat} (hn : q = some n) : b ≠ n := Md.Cv.ne_ty h.box (h.rd n hn) (by decide)
theorem RawAt.cq (h : RawAt w b x z q F c r) {n : Nat} (hn : q = some n) : z.xc ≠ n := Md.Cv.ne_ty h.com (h.rd n hn) (by decide)
theorem RawAt.nF (h : RawAt w b x z q F c r) {k : Nat} (hk : k = b ∨ k = z.xc ∨ q = some k) : k ∉ F := h.sf k (by simpa using hk)
theorem RawAt.nK (h : RawAt w b x z q F c r) {k : Nat} (hk : k = b ∨ k = z.xc ∨ q = some k) : k ∉ z.KK := h.sk k (by simpa using hk)
theorem keptB {F : List Nat} {w : World} {b j : Nat} {v : Value} (h : b ∉ F) : Kept F w (w.setCell ⟨b, j, none⟩ v) := ⟨by simp, fun i hi => heap_setCell_other _ _ _ _ (fun (e : i = b) => h (e ▸ hi))⟩
theorem RawAt.put (h : RawAt w b x z q F c r) (j : Nat) (v : Value) (x' : Rx) (e : (xboxV x z q).setIfInBounds j v = xboxV x' z q) (hm : x'.m = x.m) (ha : x'.args = x.args) : RawAt (w.setCell ⟨b, j, none⟩ v) b x' z q F c r := by
  have kF : Kept F w (w.setCell ⟨b, j, none⟩ v) := keptB (h.nF (.inl rfl))
  have kK : Kept z.KK w (w.setCell ⟨b, j, none⟩ v) := keptB (h.nK (.inl rfl))
  refine ⟨?_, by rw [hm]; exact h.mac.keep kF ⟨kK.1, fun i hi => kK.2 i (List.mem_append.2 (.inl hi))⟩, h.com.keep (heap_setCell_other _ _ _ _ (fun (e : z.xc = b) => h.bc e.symm)), fun n hn => rdAt_keep (h.rd n hn) (heap_setCell_other _ _ _ _ (fun (e : n = b) => h.bq hn e.symm)), by rw [ha]; exact h.arg.keep ⟨kK.1, fun i hi => kK.2 i (List.mem_append.2 (.inr hi))⟩, h.sf, h.sk, h.fa⟩
  rw [← e]
  exact heap_setCell_same w b j _ _ v h.box
theorem RawAt.putQ (h : RawAt w b x z q F c r) (q' : Option Nat) (r' : Md.Ce.Rd) (hq : ∀ n, q' = some n → Md.Ce.RdAt w n r' ∧ n ∉ F ∧ n ∉ z.KK) : RawAt (w.setCell ⟨b, 13, none⟩ (ptrV q')) b x z q' F c r' := by
  have kF : Kept F w (w.setCell ⟨b, 13, none⟩ (ptrV q')) := keptB (h.nF (.inl rfl))
  have kK : Kept z.KK w (w.setCell ⟨b, 13, none⟩ (ptrV q')) := keptB (h.nK (.inl rfl))
  have nq : ∀ n, q' = some n → b ≠ n := fun n hn => Md.Cv.ne_ty h.box (hq n hn).1 (by decide)
  refine ⟨?_, h.mac.keep kF ⟨kK.1, fun i hi => kK.2 i (List.mem_append.2 (.inl hi))⟩, h.com.keep (heap_setCell_other _ _ _ _ (fun (e : z.xc = b) => h.bc e.symm)), fun n hn => rdAt_keep (hq n hn).1 (heap_setCell_other _ _ _ _ (fun (e : n = b) => nq n hn e.symm)), h.arg.keep ⟨kK.1, fun i hi => kK.2 i (List.mem_append.2 (.inr hi))⟩, fun k hk => ?_, fun k hk => ?_, h.fa⟩
  · exact heap_setCell_same w b 13 _ _ _ h.box
  · simp only [List.mem_cons, Option.mem_toList] at hk
    rcases hk with hk | hk | hk
    · exact h.nF (.inl hk)
    · exact h.nF (.inr (.inl hk))
    · exact (hq k hk).2.1
  · simp only [List.mem_cons, Option.mem_toList] at hk
    rcases hk with hk | hk | hk
    · exact h.nK (.inl hk)
    · exact h.nK (.inr (.inl hk))
    · exact (hq k hk).2.2
theorem RawAt.mach (h : RawAt w b x z q F c r) {m' : Mac} (g : Gm w F z.bm z.K w' m') : ∃ F', RawAt w' b { x with m := m' } z q F' c r ∧ Turn F F' w w' := by
  obtain ⟨F', hM, t⟩ := g.mc
  have lX : Blw w (b :: z.xc :: q.toList) := fun k hk => h.blw k (by simp only [gX, List.mem_cons, List.mem_append] at hk ⊢; rcases hk with hk | hk | hk <;> simp [hk])
  have kX : Kept (b :: z.xc :: q.toList) w w' := t.kept h.sf lX
  have kA : Kept (fpR z.pa) w w' := t.kept h.fa h.arg.blw
  exact ⟨F', ⟨(kX.2 b (by simp)).trans h.box, hM, h.com.keep (kX.2 _ (by simp)), fun n hn => rdAt_keep (h.rd n hn) (kX.2 n (by simp [hn])), h.arg.keep kA, h.sf.turn lX t, h.sk, h.fa.turn h.arg.blw t⟩, t⟩
end
def Mid (W : World) (G0 : List Nat) (b : Nat) (z : Rz) (mb mg : Nat) (w : World) (x : Rx) (q : Option Nat) (c : Md.Cv.Cs) (r : Md.Ce.Rd) (ws : List Int) (o : Bool) (n : Int) : Prop :=
  ∃ F, RawAt w b x z q F c r ∧ MemAt 123 w mb mg ws o n ∧ Sep [mb, mg] (gX b z q F) ∧ Sep [mb, mg] z.KK ∧ Turn G0 (mb :: mg :: gX b z q F) W w
section
variable {W w w' : World} {G0 : List Nat} {b mb mg : Nat} {x : Rx} {z : Rz} {q : Option Nat} {c : Md.Cv.Cs} {r : Md.Ce.Rd} {ws : List Int} {o : Bool} {n : Int}
theorem Mid.mem (h : Mid W G0 b z mb mg w x q c r ws o n) : MemAt 123 w mb mg ws o n := by obtain ⟨F, _, h2, _⟩ := h; exact h2
theorem Mid.com (h : Mid W G0 b z mb mg w x q c r ws o n) : Md.Cv.CmAt w z.xc c := by obtain ⟨F, h1, _⟩ := h; exact h1.com
theorem Mid.rd (h : Mid W G0 b z mb mg w x q c r ws o n) {k : Nat} (hk : q = some k) : Md.Ce.RdAt w k r := by obtain ⟨F, h1, _⟩ := h; exact h1.rd k hk
theorem Mid.cell (h : Mid W G0 b z mb mg w x q c r ws o n) (j : Nat) : w.cell? ⟨b, j, none⟩ = (xboxV x z q)[j]? := by obtain ⟨F, h1, _⟩ := h; exact h1.cell j
theorem Mid.free (h : Mid W G0 b z mb mg w x q c r ws o n) (j : Nat) : w.frozen? ⟨b, j, none⟩ = false := by obtain ⟨F, h1, _⟩ := h; exact h1.free j
theorem Mid.ltB (h : Mid W G0 b z mb mg w x q c r ws o n) : b < w.heap.size := by obtain ⟨F, h1, _⟩ := h; exact h1.ltB
theorem Mid.size (h : Mid W G0 b z mb mg w x q c r ws o n) : W.heap.size ≤ w.heap.size := by obtain ⟨F, _, _, _, _, t⟩ := h; exact t.size
theorem Mid.on (h : Mid W G0 b z mb mg w x q c r ws o n) (k : Below w.heap.size w w') : Mid W G0 b z mb mg w' x q c r ws o n := by
  obtain ⟨F, h1, h2, h3, h4, t⟩ := h
  exact ⟨F, h1.on k, h2.on k, h3, h4, t.trans (Below.turn k _)⟩
theorem Mid.alloc (h : Mid W G0 b z mb mg w x q c r ws o n) (y : Obj) : Mid W G0 b z mb mg (w.alloc y) x q c r ws o n := h.on (below_alloc _ y)
theorem Mid.same (h : Mid W G0 b z mb mg w x q c r ws o n) (k : Same w w') : Mid W G0 b z mb mg w' x q c r ws o n := h.on (k.below _)
theorem Mid.drew (h : Mid W G0 b z mb mg w x q c r ws o n) : Mid W G0 b z mb mg w.drew x q c r ws o n := h.same (Same.drew w)
theorem Mid.put (h : Mid W G0 b z mb mg w x q c r ws o n) (j : Nat) (v : Value) (x' : Rx) (e : (xboxV x z q).setIfInBounds j v = xboxV x' z q) (hm : x'.m = x.m) (ha : x'.args = x.args) : Mid W G0 b z mb mg (w.setCell ⟨b, j, none⟩ v) x' q c r ws o n := by
  obtain ⟨F, h1, h2, h3, h4, t⟩ := h
  refine ⟨F, h1.put j v x' e hm ha, h2.other (fun e => h3 mb (by simp) (e ▸ in_b)) (fun e => h3 mg (by simp) (e ▸ in_b)) j v, h3, h4, t.trans (turn_of (L := [b]) rfl rfl rfl (by simp) (fun k hk => ?_) fun k _ hn => heap_setCell_other _ _ _ _ (by simpa using hn))⟩
  simp at hk
  subst hk
  simp [gX]
theorem Mid.memb {ws' : List Int} {o' : Bool} {n' : Int} (h : Mid W G0 b z mb mg w x q c r ws o n) (k : Chg mb mg w w') (hm : MemAt 123 w' mb mg ws' o' n') : Mid W G0 b z mb mg w' x q c r ws' o' n' := by
  obtain ⟨F, h1, h2, h3, h4, t⟩ := h
  refine ⟨F, h1.keep ⟨k.size, fun i hi => k.block i (h1.blw i hi) (fun e => h3 mb (by simp) (e ▸ hi)) (fun e => h3 mg (by simp) (e ▸ hi))⟩ ⟨k.size, fun i hi => k.block i (h1.blwK i hi) (fun e => h4 mb (by simp) (e ▸ hi)) (fun e => h4 mg (by simp) (e ▸ hi))⟩, hm, h3, h4, t.trans (turn_of (L := [mb, mg]) k.os k.tape k.output k.size (fun i hi => ?_) fun i hi hn => k.block i hi (fun e => hn (by simp [e])) (fun e => hn (by simp [e])))⟩
  simp only [List.mem_cons, List.not_mem_nil, or_false] at hi
  rcases hi with rfl | rfl <;> simp
theorem Mid.comes {ws' : List Int} {o' : Bool} {n' : Int} {c' : Md.Cv.Cs} (h : Mid W G0 b z mb mg w x q c r ws o n) (k : Md.Cv.Ch3 mb mg z.xc w w') (hm : MemAt 123 w' mb mg ws' o' n') (hc : Md.Cv.CmAt w' z.xc c') : Mid W G0 b z mb mg w' x q c' r ws' o' n' := by
  obtain ⟨F, h1, h2, h3, h4, t⟩ := h
  have G : ∀ i, i ∈ gX b z q F → i ≠ z.xc → w'.heap[i]? = w.heap[i]? := fun i hi hn => k.block i (h1.blw i hi) (fun e => h3 mb (by simp) (e ▸ hi)) (fun e => h3 mg (by simp) (e ▸ hi)) hn
  have G2 : ∀ i, i ∈ z.KK → w'.heap[i]? = w.heap[i]? := fun i hi => k.block i (h1.blwK i hi) (fun e => h4 mb (by simp) (e ▸ hi)) (fun e => h4 mg (by simp) (e ▸ hi)) (fun e => h1.nK (.inr (.inl rfl)) (e ▸ hi))
  refine ⟨F, ⟨(G b in_b h1.bc).trans h1.box, h1.mac.keep ⟨k.size, fun i hi => G i (in_F hi) (fun e => h1.nF (.inr (.inl rfl)) (e ▸ hi))⟩ ⟨k.size, fun i hi => G2 i (List.mem_append.2 (.inl hi))⟩, hc, fun i hi => rdAt_keep (h1.rd i hi) (G i (in_q hi) (fun e => h1.cq hi e.symm)), h1.arg.keep ⟨k.size, fun i hi => G2 i (List.mem_append.2 (.inr hi))⟩, h1.sf, h1.sk, h1.fa⟩, hm, h3, h4, t.trans (turn_of (L := [mb, mg, z.xc]) k.os k.tape k.output k.size (fun i hi => ?_) fun i hi hn => k.block i hi (fun e => hn (by simp [e])) (fun e => hn (by simp [e])) (fun e => hn (by simp [e])))⟩
  simp only [List.mem_cons, List.not_mem_nil, or_false] at hi
  rcases hi with rfl | rfl | rfl <;> simp [gX]
theorem Mid.reads {ws' : List Int} {o' : Bool} {n' : Int} {r' : Md.Ce.Rd} {i0 : Nat} (h : Mid W G0 b z mb mg w x q c r ws o n) (hq : q = some i0) (k : Md.Ce.Ch [mb, mg, i0] w w') (hm : MemAt 123 w' mb mg ws' o' n') (hr : Md.Ce.RdAt w' i0 r') : Mid W G0 b z mb mg w' x q c r' ws' o' n' := by
  obtain ⟨F, h1, h2, h3, h4, t⟩ := h
  have G : ∀ i, i ∈ gX b z q F → i ≠ i0 → w'.heap[i]? = w.heap[i]? := fun i hi hn => k.block i (h1.blw i hi) (fun e => by
    simp only [List.mem_cons, List.not_mem_nil, or_false] at e
    rcases e with e | e | e
    · exact h3 mb (by simp) (e ▸ hi)
    · exact h3 mg (by simp) (e ▸ hi)
    · exact hn e)
  have G2 : ∀ i, i ∈ z.KK → w'.heap[i]? = w.heap[i]? := fun i hi => k.block i (h1.blwK i hi) (fun e => by
    simp only [List.mem_cons, List.not_mem_nil, or_false] at e
    rcases e with e | e | e
    · exact h4 mb (by simp) (e ▸ hi)
    · exact h4 mg (by simp) (e ▸ hi)
    · exact h1.nK (k := i0) (.inr (.inr hq)) (e ▸ hi))
  refine ⟨F, ⟨(G b in_b (h1.bq hq)).trans h1.box, h1.mac.keep ⟨k.size, fun i hi => G i (in_F hi) (fun e => h1.nF (k := i0) (.inr (.inr hq)) (e ▸ hi))⟩ ⟨k.size, fun i hi => G2 i (List.mem_append.2 (.inl hi))⟩, h1.com.keep (G _ in_c (h1.cq hq)), fun i hi => ?_, h1.arg.keep ⟨k.size, fun i hi => G2 i (List.mem_append.2 (.inr hi))⟩, h1.sf, h1.sk, h1.fa⟩, hm, h3, h4, t.trans (turn_of (L := [mb, mg, i0]) k.os k.tape k.output k.size (fun i hi => ?_) fun i hi hn => k.block i hi hn)⟩
  · obtain rfl : i0 = i := by rw [hq] at hi; exact Option.some.inj hi
    exact hr
  · simp only [List.mem_cons, List.not_mem_nil, or_false] at hi
    rcases hi with rfl | rfl | rfl <;> simp [gX, hq]
theorem Mid.readNew {w1 : World} {r' : Md.Ce.Rd} {i0 : Nat} (h : Mid W G0 b z mb mg w x q c r ws o n) (k : Below w.heap.size w w1) (hi : w.heap.size ≤ i0) (hr : Md.Ce.RdAt w1 i0 r') : Mid W G0 b z mb mg (w1.setCell ⟨b, 13, none⟩ (.pointer (some ⟨i0, 0, none⟩))) x (some i0) c r' ws o n := by
  have hs := h.size
  obtain ⟨F, h1, h2, h3, h4, t⟩ := h
  have nG : i0 ∉ gX b z q F := fun y => absurd (h1.blw i0 y) (Nat.not_lt.2 hi)
  have nK : i0 ∉ z.KK := fun y => absurd (h1.blwK i0 y) (Nat.not_lt.2 hi)
  have g1 := (h1.on k).putQ (some i0) r' (fun n hn => by cases hn; exact ⟨hr, fun y => nG (in_F y), nK⟩)
  have m1 := h2.on k
  have tt : Turn (mb :: mg :: gX b z q F) (mb :: mg :: gX b z q F) w1 (w1.setCell ⟨b, 13, none⟩ (.pointer (some ⟨i0, 0, none⟩))) := ⟨rfl, rfl, rfl, by simp, fun i _ hn => heap_setCell_other _ _ _ _ (fun (e : i = b) => hn (by simp [e, gX])), fun i hy => .inl hy⟩
  refine ⟨F, g1, m1.other (fun e => h3 mb (by simp) (e ▸ in_b)) (fun e => h3 mg (by simp) (e ▸ in_b)) 13 _, fun i hi2 hy => ?_, h4, ((t.trans (Below.turn k _)).trans tt).mono fun i hy => ?_⟩
  · simp only [gX, List.mem_cons, List.mem_append, Option.mem_toList] at hy
    rcases hy with hy | hy | hy | hy
    · exact h3 i hi2 (by simp [gX, hy])
    · exact h3 i hi2 (by simp [gX, hy])
    · have e : i0 = i := by simpa using hy
      have l : i < w.heap.size := by
        simp only [List.mem_cons, List.not_mem_nil, or_false] at hi2
        rcases hi2 with rfl | rfl
        · exact h2.ltB
        · exact h2.ltG
      omega
    · exact h3 i hi2 (by simp [gX, hy])
  · by_cases e : i = i0
    · subst e
      exact .inr (Nat.le_trans hs hi)
    · refine (t.own i ?_)
      simp only [gX, List.mem_cons, List.mem_append, Option.mem_toList] at hy ⊢
      rcases hy with hy | hy | hy | hy | hy | hy
      · simp [hy]
      · simp [hy]
      · simp [hy]
      · simp [hy]
      · exact absurd (by simpa using hy : i0 = i) (fun y => e y.symm)
      · simp [hy]
theorem Mid.readOver (h : Mid W G0 b z mb mg w x q c r ws o n) : Mid W G0 b z mb mg (w.setCell ⟨b, 13, none⟩ (.pointer none)) x none c r ws o n := by
  obtain ⟨F, h1, h2, h3, h4, t⟩ := h
  have sub : ∀ i, i ∈ gX b z none F → i ∈ gX b z q F := fun i hy => by
    simp only [gX, List.mem_cons, List.mem_append, Option.toList_none, List.not_mem_nil, false_or] at hy ⊢
    rcases hy with hy | hy | hy <;> simp [hy]
  have tt : Turn (mb :: mg :: gX b z q F) (mb :: mg :: gX b z q F) w (w.setCell ⟨b, 13, none⟩ (.pointer none)) := ⟨rfl, rfl, rfl, by simp, fun i _ hn => heap_setCell_other _ _ _ _ (fun (e : i = b) => hn (by simp [e, gX])), fun i hy => .inl hy⟩
  refine ⟨F, h1.putQ none r (fun n hn => by cases hn), h2.other (fun e => h3 mb (by simp) (e ▸ in_b)) (fun e => h3 mg (by simp) (e ▸ in_b)) 13 _, fun i hi hy => h3 i hi (sub i hy), h4, (t.trans tt).mono fun i hy => t.own i ?_⟩
  simp only [List.mem_cons] at hy ⊢
  exact hy.imp id (Or.imp id (sub i))
theorem Mid.mach (h : Mid W G0 b z mb mg w x q c r ws o n) : ∃ F, Gm w F z.bm z.K w x.m ∧ (TabAt W G0 → TabAt w F) ∧ ∀ w' m', Gm w F z.bm z.K w' m' → Mid W G0 b z mb mg w' { x with m := m' } q c r ws o n := by
  obtain ⟨F, h1, h2, h3, h4, t⟩ := h
  refine ⟨F, h1.mac.gm, fun hT => ?_, fun w' m' g => ?_⟩
  · have := hT.turn t
    exact ⟨this.1, fun y => this.2 (by simp [gX, y])⟩
  · obtain ⟨F', g1, tF⟩ := h1.mach g
    have nm : ∀ i, i ∈ [mb, mg] → i ∉ F := fun i hi y => h3 i hi (in_F y)
    have lX : Blw w (mb :: mg :: b :: z.xc :: q.toList) := fun k hk => by
      simp only [List.mem_cons, Option.mem_toList] at hk
      rcases hk with rfl | rfl | hk | hk | hk
      · exact h2.ltB
      · exact h2.ltG
      · exact h1.blw k (by simp [gX, hk])
      · exact h1.blw k (by simp [gX, hk])
      · exact h1.blw k (in_q hk)
    have sp : Sep [mb, mg] F' := Sep.turn (fun i hi y => nm i hi y) (fun k hk => lX k (by simp only [List.mem_cons, List.not_mem_nil, or_false] at hk; rcases hk with hk | hk <;> simp [hk])) tF
    refine ⟨F', g1, h2.keep (tF.block mb h2.ltB (nm mb (by simp))) (tF.block mg h2.ltG (nm mg (by simp))), fun i hi hy => ?_, h4, t.trans ?_⟩
    · simp only [gX, List.mem_cons, List.mem_append] at hy
      rcases hy with hy | hy | hy | hy
      · exact h3 i hi (by simp [gX, hy])
      · exact h3 i hi (by simp [gX, hy])
      · exact h3 i hi (by simp [gX]; simp at hy; simp [hy])
      · exact sp i hi hy
    · have := turn_wide tF (mb :: mg :: b :: z.xc :: q.toList)
      simpa [gX] using this
end
end Go.Proofs.YtninicfnhoediaaGreatDoor.Rr
