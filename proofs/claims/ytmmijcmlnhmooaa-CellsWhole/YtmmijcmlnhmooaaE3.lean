import Derived.Test.YtmmijcmlnhmooaaE2
namespace Go.Proofs.Ytmmijcmlnhmooaa
open Go.ChangeShapes Go.WideShapes Go.ChangeAt Go.RowKit Num
attribute [local go_sem] run_store_float run_store_func run_store_nilFunc

section
variable {w : World} {b g q : Nat} {ws : List Int} {o : Bool} {n : Int} {r : Rd} {f : Value}
/-- what a call of load leaves, with the view's own block ahead of it -/
theorem view_aft {w1 : World} {x y z : Value} {T : TypeId} (h : RbAt w q r f) (h1 : q ≠ b) (h2 : q ≠ g) (hb : b < w.heap.size) (hg : g < w.heap.size) (hc : Chg b g (w.alloc (.cells #[x, y, z] T)) w1) :
    w1.cell? ⟨w.heap.size, 0, none⟩ = some x ∧ w1.cell? ⟨w.heap.size, 1, none⟩ = some y ∧ w1.cell? ⟨w.heap.size, 2, none⟩ = some z ∧ w.heap.size < w1.heap.size ∧ RbAt w1 q r f ∧ Ch [b, g, q] w w1 := by
  have hq := h.lt
  have hs := hc.size
  simp at hs
  have hx : w1.heap[w.heap.size]? = some (.cells #[x, y, z] T (0, 0)) := (hc.block w.heap.size (by simp) (by omega) (by omega)).trans (heap_alloc_new _ _)
  refine ⟨?_, ?_, ?_, by omega, h.keep ((hc.block q (by simp; omega) h1 h2).trans (Below.heap_alloc _ _ _ hq)), ?_⟩
  · rw [cell_of_row _ _ _ _ _ _ hx]; rfl
  · rw [cell_of_row _ _ _ _ _ _ hx]; rfl
  · rw [cell_of_row _ _ _ _ _ _ hx]; rfl
  · exact ((Ch.refl _ _).alloc _).trans (hc.ch (by simp) (by simp))
set_option maxRecDepth 100000 in
set_option maxHeartbeats 1000000 in
theorem lv_ok (h : MemAt 90 w b g ws o n) (hr : RbAt w q r f) (h1 : q ≠ b) (h2 : q ≠ g) (hk : r.k = 0) (hok : errC ws o r.p r.c 0 = 0) : Calls Try.prog 57 #[recvV r, .pointer (some ⟨q, 0, none⟩), .pointer (some ⟨b, 0, none⟩)] w fun e w' => e = .returned (.int .i64 0) ∧ MemAt 90 w' b g ws false (up n) ∧ RbAt w' q (nx0 r (wordC ws r.p r.c 0)) (nextV (nx0 r (wordC ws r.p r.c 0))) ∧ Ch [b, g, q] w w' := by
  have hb := h.ltB
  have hg := h.ltG
  have hq := hr.lt
  have HL := Lib.hid (cload_ok (h.alloc (.cells #[.int .i64 r.p, .int .i64 r.c, .int .u64 r.s] 100)) (p := r.p) (c := r.c) (j := 0) (by omega) hok)
  have HR := Lib.hid hr
  have HN := Lib.hid (And.intro h1 h2)
  unfold recvV
  generalize wordC ws r.p r.c 0 = u at HL ⊢
  clear h hok
  obtain ⟨p, c, s, k, v, x, y, m, t⟩ := r
  simp only at hk HL
  subst hk
  clear hr
  by_cases hu : s < u
  · have hn : nx0 ⟨p, c, s, 0, v, x, y, m, t⟩ u = ⟨p, c, s, 3, u, x, y, m, t⟩ := by simp [nx0, hu]
    rw [hn]
    clear hn
    go_enter Try.func57, Try.ntmps57
    go_wp2_with (go_at_call 61; refine HL.out.mono ?_; rintro e w1 ⟨rfl, hm, hc⟩; obtain ⟨c0, c1, c2, c3, hrr, hch⟩ := view_aft HR.out HN.out.1 HN.out.2 hb hg hc; have d0 := hrr.cell0; have d1 := hrr.cell1; have d2 := hrr.cell2; have d3 := hrr.cell3; have d5 := hrr.cell5; have dq := hrr.lt; have f0 := hrr.free 0; have f1 := hrr.free 1; have f2 := hrr.free 2; have f5 := hrr.free 5; have HX := Lib.hid (And.intro hm (And.intro hrr hch)); clear hm hc hrr hch)
    go_ret
    exact ⟨rfl, (((HX.out.1.other (Ne.symm HN.out.1) (Ne.symm HN.out.2) _ _).other (Ne.symm HN.out.1) (Ne.symm HN.out.2) _ _).other (Ne.symm HN.out.1) (Ne.symm HN.out.2) _ _), ((HX.out.2.1.setV u).setF _).setF _, ((HX.out.2.2.set (by simp) _ _).set (by simp) _ _).set (by simp) _ _⟩
  · have hn : nx0 ⟨p, c, s, 0, v, x, y, m, t⟩ u = ⟨p, c, s, 1, u, x, y, m, t⟩ := by simp [nx0, hu]
    rw [hn]
    clear hn
    go_enter Try.func57, Try.ntmps57
    go_wp2_with (go_at_call 61; refine HL.out.mono ?_; rintro e w1 ⟨rfl, hm, hc⟩; obtain ⟨c0, c1, c2, c3, hrr, hch⟩ := view_aft HR.out HN.out.1 HN.out.2 hb hg hc; have d0 := hrr.cell0; have d1 := hrr.cell1; have d2 := hrr.cell2; have d3 := hrr.cell3; have d5 := hrr.cell5; have dq := hrr.lt; have f0 := hrr.free 0; have f1 := hrr.free 1; have f2 := hrr.free 2; have f5 := hrr.free 5; have HX := Lib.hid (And.intro hm (And.intro hrr hch)); clear hm hc hrr hch)
    go_ret
    exact ⟨rfl, ((HX.out.1.other (Ne.symm HN.out.1) (Ne.symm HN.out.2) _ _).other (Ne.symm HN.out.1) (Ne.symm HN.out.2) _ _), (HX.out.2.1.setV u).setF _, (HX.out.2.2.set (by simp) _ _).set (by simp) _ _⟩
set_option maxRecDepth 100000 in
set_option maxHeartbeats 1000000 in
theorem ln_ok (h : MemAt 90 w b g ws o n) (hr : RbAt w q r f) (h1 : q ≠ b) (h2 : q ≠ g) (hk : r.k = 1) (hok : errC ws o r.p r.c 1 = 0) : Calls Try.prog 77 #[recvV r, .pointer (some ⟨q, 0, none⟩), .pointer (some ⟨b, 0, none⟩)] w fun e w' => e = .returned (.int .i64 0) ∧ MemAt 90 w' b g ws false (up n) ∧ RbAt w' q (nx0 r (wordC ws r.p r.c 1)) (nextV (nx0 r (wordC ws r.p r.c 1))) ∧ Ch [b, g, q] w w' := by
  have hb := h.ltB
  have hg := h.ltG
  have hq := hr.lt
  have HL := Lib.hid (cload_ok (h.alloc (.cells #[.int .i64 r.p, .int .i64 r.c, .int .u64 r.s] 100)) (p := r.p) (c := r.c) (j := 1) (by omega) hok)
  have HR := Lib.hid hr
  have HN := Lib.hid (And.intro h1 h2)
  unfold recvV
  generalize wordC ws r.p r.c 1 = u at HL ⊢
  clear h hok
  obtain ⟨p, c, s, k, v, x, y, m, t⟩ := r
  simp only at hk HL
  subst hk
  clear hr
  have hn : nx0 ⟨p, c, s, 1, v, x, y, m, t⟩ u = ⟨p, c, s, 2, v, fixB u.toNat, y, m, t⟩ := by simp [nx0]
  rw [hn]
  clear hn
  go_enter Try.func77, Try.ntmps77
  go_wp2_with (first
    | (go_at_call 61; refine HL.out.mono ?_; rintro e w1 ⟨rfl, hm, hc⟩; obtain ⟨c0, c1, c2, c3, hrr, hch⟩ := view_aft HR.out HN.out.1 HN.out.2 hb hg hc; have d0 := hrr.cell0; have d1 := hrr.cell1; have d2 := hrr.cell2; have d3 := hrr.cell3; have d5 := hrr.cell5; have dq := hrr.lt; have f0 := hrr.free 0; have f1 := hrr.free 1; have f2 := hrr.free 2; have f5 := hrr.free 5; have HX := Lib.hid (And.intro hm (And.intro hrr hch)); clear hm hc hrr hch)
    | (go_at_call 53; refine (of_int _ _).mono ?_; rintro e w2 ⟨rfl, hw⟩; subst w2))
  go_ret
  exact ⟨rfl, ((HX.out.1.other (Ne.symm HN.out.1) (Ne.symm HN.out.2) _ _).other (Ne.symm HN.out.1) (Ne.symm HN.out.2) _ _), (HX.out.2.1.setX _).setF _, (HX.out.2.2.set (by simp) _ _).set (by simp) _ _⟩
set_option maxRecDepth 100000 in
set_option maxHeartbeats 1000000 in
theorem la_ok (h : MemAt 90 w b g ws o n) (hr : RbAt w q r f) (h1 : q ≠ b) (h2 : q ≠ g) (hk : r.k = 2) (hok : errC ws o r.p r.c 0 = 0) : Calls Try.prog 87 #[recvV r, .pointer (some ⟨q, 0, none⟩), .pointer (some ⟨b, 0, none⟩)] w fun e w' => e = .returned (.int .i64 0) ∧ MemAt 90 w' b g ws false (up n) ∧ RbAt w' q (nx0 r (wordC ws r.p r.c 0)) (nextV (nx0 r (wordC ws r.p r.c 0))) ∧ Ch [b, g, q] w w' := by
  have hb := h.ltB
  have hg := h.ltG
  have hq := hr.lt
  have HL := Lib.hid (cload_ok (h.alloc (.cells #[.int .i64 r.p, .int .i64 r.c, .int .u64 r.s] 100)) (p := r.p) (c := r.c) (j := 0) (by omega) hok)
  have HR := Lib.hid hr
  have HN := Lib.hid (And.intro h1 h2)
  unfold recvV
  generalize wordC ws r.p r.c 0 = u at HL ⊢
  clear h hok
  obtain ⟨p, c, s, k, v, x, y, m, t⟩ := r
  simp only at hk HL
  subst hk
  clear hr
  by_cases hu : u = v
  · have hn : nx0 ⟨p, c, s, 2, v, x, y, m, t⟩ u = ⟨p, c, s, 4, v, x, x, m, t⟩ := by simp [nx0, hu]
    rw [hn]
    subst hu
    clear hn
    go_enter Try.func87, Try.ntmps87
    go_wp2_with (first
      | (go_at_call 61; refine HL.out.mono ?_; rintro e w1 ⟨rfl, hm, hc⟩; obtain ⟨c0, c1, c2, c3, hrr, hch⟩ := view_aft HR.out HN.out.1 HN.out.2 hb hg hc; have d0 := hrr.cell0; have d1 := hrr.cell1; have d2 := hrr.cell2; have d3 := hrr.cell3; have d5 := hrr.cell5; have dq := hrr.lt; have f0 := hrr.free 0; have f1 := hrr.free 1; have f2 := hrr.free 2; have f5 := hrr.free 5; have HX := Lib.hid (And.intro hm (And.intro hrr hch)); clear hm hc hrr hch)
      | (go_at_call 88; refine (end_any HX.out.2.1 _).mono ?_; rintro e w2 ⟨rfl, hr2, hc2⟩; have HY := Lib.hid (And.intro (HX.out.1.ch hc2 (by simp; exact Ne.symm HN.out.1) (by simp; exact Ne.symm HN.out.2)) (And.intro hr2 (HX.out.2.2.trans (hc2.mono (by simp))))); clear hr2 hc2 HX))
    go_ret
    exact ⟨rfl, HY.out⟩
  · have hn : nx0 ⟨p, c, s, 2, v, x, y, m, t⟩ u = ⟨p, c, s, 3, v, x, y, m, true⟩ := by simp [nx0, hu]
    rw [hn]
    clear hn
    go_enter Try.func87, Try.ntmps87
    go_wp2_with (go_at_call 61; refine HL.out.mono ?_; rintro e w1 ⟨rfl, hm, hc⟩; obtain ⟨c0, c1, c2, c3, hrr, hch⟩ := view_aft HR.out HN.out.1 HN.out.2 hb hg hc; have d0 := hrr.cell0; have d1 := hrr.cell1; have d2 := hrr.cell2; have d3 := hrr.cell3; have d5 := hrr.cell5; have dq := hrr.lt; have f0 := hrr.free 0; have f1 := hrr.free 1; have f2 := hrr.free 2; have f5 := hrr.free 5; have HX := Lib.hid (And.intro hm (And.intro hrr hch)); clear hm hc hrr hch)
    go_ret
    exact ⟨rfl, ((HX.out.1.other (Ne.symm HN.out.1) (Ne.symm HN.out.2) _ _).other (Ne.symm HN.out.1) (Ne.symm HN.out.2) _ _), (HX.out.2.1.setT _).setF _, (HX.out.2.2.set (by simp) _ _).set (by simp) _ _⟩
set_option maxRecDepth 100000 in
set_option maxHeartbeats 1000000 in
theorem lw_ok (h : MemAt 90 w b g ws o n) (hr : RbAt w q r f) (h1 : q ≠ b) (h2 : q ≠ g) (hk : r.k = 3) (hok : errC ws o r.p r.c 2 = 0) : Calls Try.prog 78 #[recvV r, .pointer (some ⟨q, 0, none⟩), .pointer (some ⟨b, 0, none⟩)] w fun e w' => e = .returned (.int .i64 0) ∧ MemAt 90 w' b g ws false (up n) ∧ RbAt w' q (nx0 r (wordC ws r.p r.c 2)) (nextV (nx0 r (wordC ws r.p r.c 2))) ∧ Ch [b, g, q] w w' := by
  have hb := h.ltB
  have hg := h.ltG
  have hq := hr.lt
  have HL := Lib.hid (cload_ok (h.alloc (.cells #[.int .i64 r.p, .int .i64 r.c, .int .u64 r.s] 100)) (p := r.p) (c := r.c) (j := 2) (by omega) hok)
  have HR := Lib.hid hr
  have HN := Lib.hid (And.intro h1 h2)
  unfold recvV
  generalize wordC ws r.p r.c 2 = u at HL ⊢
  clear h hok
  obtain ⟨p, c, s, k, v, x, y, m, t⟩ := r
  simp only at hk HL
  subst hk
  clear hr
  have hn : nx0 ⟨p, c, s, 3, v, x, y, m, t⟩ u = ⟨p, c, s, 4, v, x, fixB u.toNat, m, t⟩ := by simp [nx0]
  rw [hn]
  clear hn
  go_enter Try.func78, Try.ntmps78
  go_wp2_with (first
    | (go_at_call 61; refine HL.out.mono ?_; rintro e w1 ⟨rfl, hm, hc⟩; obtain ⟨c0, c1, c2, c3, hrr, hch⟩ := view_aft HR.out HN.out.1 HN.out.2 hb hg hc; have d0 := hrr.cell0; have d1 := hrr.cell1; have d2 := hrr.cell2; have d3 := hrr.cell3; have d5 := hrr.cell5; have dq := hrr.lt; have f0 := hrr.free 0; have f1 := hrr.free 1; have f2 := hrr.free 2; have f5 := hrr.free 5; have HX := Lib.hid (And.intro hm (And.intro hrr hch)); clear hm hc hrr hch)
    | (go_at_call 53; refine (of_int _ _).mono ?_; rintro e w2 ⟨rfl, hw⟩; subst w2)
    | (go_at_call 88; refine (end_any HX.out.2.1 _).mono ?_; rintro e w2 ⟨rfl, hr2, hc2⟩; have HY := Lib.hid (And.intro (HX.out.1.ch hc2 (by simp; exact Ne.symm HN.out.1) (by simp; exact Ne.symm HN.out.2)) (And.intro hr2 (HX.out.2.2.trans (hc2.mono (by simp))))); clear hr2 hc2 HX))
  go_ret
  exact ⟨rfl, HY.out⟩
set_option maxRecDepth 100000 in
set_option maxHeartbeats 1000000 in
theorem lv_no (h : MemAt 90 w b g ws o n) (hr : RbAt w q r f) (h1 : q ≠ b) (h2 : q ≠ g) (hok : ¬ errC ws o r.p r.c 0 = 0) : Calls Try.prog 57 #[recvV r, .pointer (some ⟨q, 0, none⟩), .pointer (some ⟨b, 0, none⟩)] w fun e w' => e = .returned (.int .i64 (errC ws o r.p r.c 0)) ∧ MemAt 90 w' b g ws o n ∧ RbAt w' q r f ∧ Ch [b, g, q] w w' := by
  have hb := h.ltB
  have hg := h.ltG
  have HL := Lib.hid (cload_no (h.alloc (.cells #[.int .i64 r.p, .int .i64 r.c, .int .u64 r.s] 100)) (p := r.p) (c := r.c) (j := 0) (by omega) hok)
  have HR := Lib.hid hr
  have HN := Lib.hid (And.intro h1 h2)
  unfold recvV
  generalize errC ws o r.p r.c 0 = x at HL hok ⊢
  clear h hr
  go_enter Try.func57, Try.ntmps57
  go_wp2_with (go_at_call 61; refine HL.out.mono ?_; rintro e w1 ⟨rfl, hm, hc⟩; obtain ⟨_, _, _, _, hrr, hch⟩ := view_aft HR.out HN.out.1 HN.out.2 hb hg hc; have HX := Lib.hid (And.intro hm (And.intro hrr hch)); clear hm hc hrr hch)
  go_ret
  exact ⟨rfl, HX.out⟩
set_option maxRecDepth 100000 in
set_option maxHeartbeats 1000000 in
theorem ln_no (h : MemAt 90 w b g ws o n) (hr : RbAt w q r f) (h1 : q ≠ b) (h2 : q ≠ g) (hok : ¬ errC ws o r.p r.c 1 = 0) : Calls Try.prog 77 #[recvV r, .pointer (some ⟨q, 0, none⟩), .pointer (some ⟨b, 0, none⟩)] w fun e w' => e = .returned (.int .i64 (errC ws o r.p r.c 1)) ∧ MemAt 90 w' b g ws o n ∧ RbAt w' q r f ∧ Ch [b, g, q] w w' := by
  have hb := h.ltB
  have hg := h.ltG
  have HL := Lib.hid (cload_no (h.alloc (.cells #[.int .i64 r.p, .int .i64 r.c, .int .u64 r.s] 100)) (p := r.p) (c := r.c) (j := 1) (by omega) hok)
  have HR := Lib.hid hr
  have HN := Lib.hid (And.intro h1 h2)
  unfold recvV
  generalize errC ws o r.p r.c 1 = x at HL hok ⊢
  clear h hr
  go_enter Try.func77, Try.ntmps77
  go_wp2_with (go_at_call 61; refine HL.out.mono ?_; rintro e w1 ⟨rfl, hm, hc⟩; obtain ⟨_, _, _, _, hrr, hch⟩ := view_aft HR.out HN.out.1 HN.out.2 hb hg hc; have HX := Lib.hid (And.intro hm (And.intro hrr hch)); clear hm hc hrr hch)
  go_ret
  exact ⟨rfl, HX.out⟩
set_option maxRecDepth 100000 in
set_option maxHeartbeats 1000000 in
theorem la_no (h : MemAt 90 w b g ws o n) (hr : RbAt w q r f) (h1 : q ≠ b) (h2 : q ≠ g) (hok : ¬ errC ws o r.p r.c 0 = 0) : Calls Try.prog 87 #[recvV r, .pointer (some ⟨q, 0, none⟩), .pointer (some ⟨b, 0, none⟩)] w fun e w' => e = .returned (.int .i64 (errC ws o r.p r.c 0)) ∧ MemAt 90 w' b g ws o n ∧ RbAt w' q r f ∧ Ch [b, g, q] w w' := by
  have hb := h.ltB
  have hg := h.ltG
  have HL := Lib.hid (cload_no (h.alloc (.cells #[.int .i64 r.p, .int .i64 r.c, .int .u64 r.s] 100)) (p := r.p) (c := r.c) (j := 0) (by omega) hok)
  have HR := Lib.hid hr
  have HN := Lib.hid (And.intro h1 h2)
  unfold recvV
  generalize errC ws o r.p r.c 0 = x at HL hok ⊢
  clear h hr
  go_enter Try.func87, Try.ntmps87
  go_wp2_with (go_at_call 61; refine HL.out.mono ?_; rintro e w1 ⟨rfl, hm, hc⟩; obtain ⟨_, _, _, _, hrr, hch⟩ := view_aft HR.out HN.out.1 HN.out.2 hb hg hc; have HX := Lib.hid (And.intro hm (And.intro hrr hch)); clear hm hc hrr hch)
  go_ret
  exact ⟨rfl, HX.out⟩
set_option maxRecDepth 100000 in
set_option maxHeartbeats 1000000 in
theorem lw_no (h : MemAt 90 w b g ws o n) (hr : RbAt w q r f) (h1 : q ≠ b) (h2 : q ≠ g) (hok : ¬ errC ws o r.p r.c 2 = 0) : Calls Try.prog 78 #[recvV r, .pointer (some ⟨q, 0, none⟩), .pointer (some ⟨b, 0, none⟩)] w fun e w' => e = .returned (.int .i64 (errC ws o r.p r.c 2)) ∧ MemAt 90 w' b g ws o n ∧ RbAt w' q r f ∧ Ch [b, g, q] w w' := by
  have hb := h.ltB
  have hg := h.ltG
  have HL := Lib.hid (cload_no (h.alloc (.cells #[.int .i64 r.p, .int .i64 r.c, .int .u64 r.s] 100)) (p := r.p) (c := r.c) (j := 2) (by omega) hok)
  have HR := Lib.hid hr
  have HN := Lib.hid (And.intro h1 h2)
  unfold recvV
  generalize errC ws o r.p r.c 2 = x at HL hok ⊢
  clear h hr
  go_enter Try.func78, Try.ntmps78
  go_wp2_with (go_at_call 61; refine HL.out.mono ?_; rintro e w1 ⟨rfl, hm, hc⟩; obtain ⟨_, _, _, _, hrr, hch⟩ := view_aft HR.out HN.out.1 HN.out.2 hb hg hc; have HX := Lib.hid (And.intro hm (And.intro hrr hch)); clear hm hc hrr hch)
  go_ret
  exact ⟨rfl, HX.out⟩
end
end Go.Proofs.Ytmmijcmlnhmooaa
