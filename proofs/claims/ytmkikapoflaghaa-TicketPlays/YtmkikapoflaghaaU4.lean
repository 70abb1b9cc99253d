import Derived.Test.YtmkikapoflaghaaM11
import Derived.Test.YtmkikapoflaghaaU3
namespace Go.Proofs.Ytmkikapoflaghaa
open Go.ChangeShapes Go.WideShapes Go.ChangeAt Go.RowKit

theorem cells4t {w : World} {x : Nat} {v0 v1 v2 v3 : Value} {T : TypeId} (h : w.heap[x]? = some (.cells #[v0, v1, v2, v3] T (0, 0))) :
    w.cell? ⟨x, 0, none⟩ = some v0 ∧ w.cell? ⟨x, 1, none⟩ = some v1 ∧ w.cell? ⟨x, 2, none⟩ = some v2 ∧ w.cell? ⟨x, 3, none⟩ = some v3 ∧ x < w.heap.size :=
  ⟨by rw [cell_of_row w x 0 _ _ _ h]; rfl, by rw [cell_of_row w x 1 _ _ _ h]; rfl, by rw [cell_of_row w x 2 _ _ _ h]; rfl, by rw [cell_of_row w x 3 _ _ _ h]; rfl, lt_of_block h⟩
/-- both memories, a step and its plan beside them -/
structure Lay (W w : World) (bm gm br gr qo qp : Nat) (K A B T : Int) (ws : List Int) (o : Bool) (c : Int) (vs : List Int) (p : Bool) (d : Int) : Prop where
  y : Play W w bm gm br gr ws o c vs p d
  op : w.heap[qo]? = some (.cells #[.int .i64 K, .int .i64 A, .int .i64 B, .int .u64 T] 43 (0, 0))
  pl : PlnAt w qp A B 0 0 0 0
  ao : qo ≠ bm ∧ qo ≠ gm ∧ qo ≠ br ∧ qo ≠ gr
  ap : qp ≠ bm ∧ qp ≠ gm ∧ qp ≠ br ∧ qp ≠ gr
section
variable {W w : World} {bm gm br gr qo qp : Nat} {K A B T : Int} {ws vs : List Int} {o p : Bool} {c d : Int}
theorem Lay.onM {w' : World} {ws' : List Int} {o' : Bool} {c' : Int} (h : Lay W w bm gm br gr qo qp K A B T ws o c vs p d) (hm : MemAt 59 w' bm gm ws' o' c') (hc : Chg bm gm w w') : Lay W w' bm gm br gr qo qp K A B T ws' o' c' vs p d :=
  ⟨h.y.onM hm hc, (hc.block qo (lt_of_block h.op) h.ao.1 h.ao.2.1).trans h.op, (hc.block qp (lt_of_block h.pl) h.ap.1 h.ap.2.1).trans h.pl, h.ao, h.ap⟩
theorem Lay.onR {w' : World} {vs' : List Int} {p' : Bool} {d' : Int} (h : Lay W w bm gm br gr qo qp K A B T ws o c vs p d) (hm : MemAt 72 w' br gr vs' p' d') (hc : Chg br gr w w') : Lay W w' bm gm br gr qo qp K A B T ws o c vs' p' d' :=
  ⟨h.y.onR hm hc, (hc.block qo (lt_of_block h.op) h.ao.2.2.1 h.ao.2.2.2).trans h.op, (hc.block qp (lt_of_block h.pl) h.ap.2.2.1 h.ap.2.2.2).trans h.pl, h.ao, h.ap⟩
theorem Lay.on {w' : World} (h : Lay W w bm gm br gr qo qp K A B T ws o c vs p d) (k : Below w.heap.size w w') : Lay W w' bm gm br gr qo qp K A B T ws o c vs p d :=
  ⟨h.y.on k, (k.block qo (lt_of_block h.op)).trans h.op, (k.block qp (lt_of_block h.pl)).trans h.pl, h.ao, h.ap⟩
theorem Lay.cells (h : Lay W w bm gm br gr qo qp K A B T ws o c vs p d) : (w.cell? ⟨qo, 0, none⟩ = some (.int .i64 K) ∧ w.cell? ⟨qo, 1, none⟩ = some (.int .i64 A) ∧ w.cell? ⟨qo, 2, none⟩ = some (.int .i64 B) ∧ w.cell? ⟨qo, 3, none⟩ = some (.int .u64 T) ∧ qo < w.heap.size) ∧ w.cell? ⟨qp, 0, none⟩ = some (.int .i64 A) ∧ w.cell? ⟨qp, 1, none⟩ = some (.int .i64 B) ∧ w.cell? ⟨qp, 2, none⟩ = some (.int .i64 0) ∧ w.cell? ⟨qp, 3, none⟩ = some (.int .i64 0) ∧ w.cell? ⟨qp, 4, none⟩ = some (.int .i64 0) ∧ w.cell? ⟨qp, 5, none⟩ = some (.int .i64 0) ∧ qp < w.heap.size := ⟨cells4t h.op, h.pl.cells⟩
theorem lay_new (h : Play W w bm gm br gr ws o c vs p d) (K A B T : Int) : Lay W ((w.alloc (.cells #[.int .i64 K, .int .i64 A, .int .i64 B, .int .u64 T] 43)).alloc (.cells #[.int .i64 A, .int .i64 B, .int .i64 0, .int .i64 0, .int .i64 0, .int .i64 0] 25)) bm gm br gr w.heap.size (w.heap.size + 1) K A B T ws o c vs p d := by
  have h1 := h.m.ltB
  have h2 := h.m.ltG
  have h3 := h.r.ltB
  have h4 := h.r.ltG
  refine ⟨(h.alloc _).alloc _, ?_, ?_, ⟨by omega, by omega, by omega, by omega⟩, ⟨by omega, by omega, by omega, by omega⟩⟩
  · rw [Below.heap_alloc _ _ _ (by simp)]
    exact heap_alloc_new _ _
  · have := heap_alloc_new (w.alloc (.cells #[.int .i64 K, .int .i64 A, .int .i64 B, .int .u64 T] 43)) (.cells #[.int .i64 A, .int .i64 B, .int .i64 0, .int .i64 0, .int .i64 0, .int .i64 0] 25)
    simpa [PlnAt] using this

set_option maxHeartbeats 4000000 in
set_option maxRecDepth 100000 in
theorem tstep_open (h : Play W w bm gm br gr ws o c ws o c) (A B T : Int) : Calls Try.prog 15 #[.pointer (some ⟨bm, 0, none⟩), .pointer (some ⟨br, 0, none⟩), .agg #[.int .i64 1, .int .i64 A, .int .i64 B, .int .u64 T]] w fun e w' => e = .returned (.bool true) ∧ Goes W w' bm gm br gr := by
  have HL0 := Lib.hid (lay_new h 1 A B T)
  clear h
  go_enter Try.func15, Try.ntmps15
  go_wp2_with (first
    | (go_at_call 7; refine (open_any HL0.out.y.m).mono ?_; rintro e w1 ⟨rfl, hm, hc⟩; have HL1 := Lib.hid (HL0.out.onM hm hc); obtain ⟨⟨p10, p11, p12, p13, p14⟩, q10, q11, q12, q13, q14, q15, q16⟩ := HL1.out.cells; clear hm hc HL0)
    | (go_at_call 35; refine (refOpen_any HL1.out.y.r).mono ?_; rintro e w2 ⟨rfl, hm, hc⟩; have HL2 := Lib.hid (HL1.out.onR hm hc); clear hm hc HL1))
  go_ret
  exact ⟨by simp, Goes.mk HL2.out.y⟩
set_option maxHeartbeats 4000000 in
set_option maxRecDepth 100000 in
theorem tstep_poke (h : Play W w bm gm br gr ws o c ws o c) (A B T : Int) : Calls Try.prog 15 #[.pointer (some ⟨bm, 0, none⟩), .pointer (some ⟨br, 0, none⟩), .agg #[.int .i64 6, .int .i64 A, .int .i64 B, .int .u64 T]] w fun e w' => e = .returned (.bool true) ∧ Goes W w' bm gm br gr := by
  have HL0 := Lib.hid (lay_new h 6 A B T)
  clear h
  go_enter Try.func15, Try.ntmps15
  go_wp2_with (first
    | (go_at_call 40; refine (poke_any HL0.out.y.m A T).mono ?_; rintro e w1 ⟨rfl, hm, hc⟩; have HL1 := Lib.hid (HL0.out.onM hm hc); obtain ⟨⟨p10, p11, p12, p13, p14⟩, q10, q11, q12, q13, q14, q15, q16⟩ := HL1.out.cells; clear hm hc HL0)
    | (go_at_call 41; refine (refPoke_any HL1.out.y.r A T).mono ?_; rintro e w2 ⟨rfl, hm, hc⟩; have HL2 := Lib.hid (HL1.out.onR hm hc); clear hm hc HL1))
  go_ret
  exact ⟨by simp, Goes.mk HL2.out.y⟩
set_option maxHeartbeats 4000000 in
set_option maxRecDepth 100000 in
theorem tstep_draw (h : Play W w bm gm br gr ws o c ws o c) (A B T : Int) : Calls Try.prog 15 #[.pointer (some ⟨bm, 0, none⟩), .pointer (some ⟨br, 0, none⟩), .agg #[.int .i64 2, .int .i64 A, .int .i64 B, .int .u64 T]] w fun e w' => e = .returned (.bool true) ∧ Goes W w' bm gm br gr := by
  have HL0 := Lib.hid (lay_new h 2 A B T)
  clear h
  go_enter Try.func15, Try.ntmps15
  go_wp2_with (first
    | (go_at_call 10; refine (draw_any HL0.out.y.m A B 0 0 0 0).mono ?_; rintro e w1 ⟨rfl, hm, hc⟩; have HL1 := Lib.hid (HL0.out.onM hm hc); obtain ⟨⟨p10, p11, p12, p13, p14⟩, q10, q11, q12, q13, q14, q15, q16⟩ := HL1.out.cells; clear hm hc HL0)
    | (go_at_call 36; refine (refDraw_any HL1.out.y.r A B 0 0 0 0).mono ?_; rintro e w2 ⟨rfl, hm, hc⟩; have HL2 := Lib.hid (HL1.out.onR hm hc); clear hm hc HL1))
  go_ret
  exact ⟨by simp, Goes.mk HL2.out.y⟩
set_option maxHeartbeats 4000000 in
set_option maxRecDepth 100000 in
theorem tstep_look (h : Play W w bm gm br gr ws o c ws o c) (A B T : Int) : Calls Try.prog 15 #[.pointer (some ⟨bm, 0, none⟩), .pointer (some ⟨br, 0, none⟩), .agg #[.int .i64 3, .int .i64 A, .int .i64 B, .int .u64 T]] w fun e w' => e = .returned (.bool true) ∧ Goes W w' bm gm br gr := by
  have HL0 := Lib.hid (lay_new h 3 A B T)
  clear h
  go_enter Try.func15, Try.ntmps15
  go_wp2_with (first
    | (go_at_call 9; refine (look_any HL0.out.y.m A B 0 0 0 0 T).mono ?_; rintro e w1 ⟨rfl, hm, hc⟩; have HL1 := Lib.hid (HL0.out.onM hm hc); obtain ⟨⟨p10, p11, p12, p13, p14⟩, q10, q11, q12, q13, q14, q15, q16⟩ := HL1.out.cells; clear hm hc HL0)
    | (go_at_call 37; refine (refLook_any HL1.out.y.r A B 0 0 0 0 T).mono ?_; rintro e w2 ⟨rfl, hm, hc⟩; have HL2 := Lib.hid (HL1.out.onR hm hc); clear hm hc HL1))
  go_ret
  exact ⟨by simp, Goes.mk HL2.out.y⟩
set_option maxHeartbeats 4000000 in
set_option maxRecDepth 100000 in
theorem tstep_pass (h : Play W w bm gm br gr ws o c ws o c) (A B T : Int) : Calls Try.prog 15 #[.pointer (some ⟨bm, 0, none⟩), .pointer (some ⟨br, 0, none⟩), .agg #[.int .i64 4, .int .i64 A, .int .i64 B, .int .u64 T]] w fun e w' => e = .returned (.bool true) ∧ Goes W w' bm gm br gr := by
  have HL0 := Lib.hid (lay_new h 4 A B T)
  clear h
  go_enter Try.func15, Try.ntmps15
  go_wp2_with (first
    | (go_at_call 8; refine (pass_any HL0.out.y.m A B 0 0 0 0 T).mono ?_; rintro e w1 ⟨rfl, hm, hc⟩; have HL1 := Lib.hid (HL0.out.onM hm hc); obtain ⟨⟨p10, p11, p12, p13, p14⟩, q10, q11, q12, q13, q14, q15, q16⟩ := HL1.out.cells; clear hm hc HL0)
    | (go_at_call 38; refine (refPass_any HL1.out.y.r A B 0 0 0 0 T).mono ?_; rintro e w2 ⟨rfl, hm, hc⟩; have HL2 := Lib.hid (HL1.out.onR hm hc); clear hm hc HL1))
  go_ret
  exact ⟨by simp, Goes.mk HL2.out.y⟩
set_option maxHeartbeats 4000000 in
set_option maxRecDepth 100000 in
theorem tstep_ahead (h : Play W w bm gm br gr ws o c ws o c) (A B T : Int) : Calls Try.prog 15 #[.pointer (some ⟨bm, 0, none⟩), .pointer (some ⟨br, 0, none⟩), .agg #[.int .i64 5, .int .i64 A, .int .i64 B, .int .u64 T]] w fun e w' => e = .returned (.bool true) ∧ Goes W w' bm gm br gr := by
  have HL0 := Lib.hid (lay_new h 5 A B T)
  clear h
  go_enter Try.func15, Try.ntmps15
  go_wp2_with (first
    | (go_at_call 11; refine (ahead_any HL0.out.y.m A B 0 0 0 0 T).mono ?_; rintro e w1 ⟨rfl, hm, hb⟩; have HL1 := Lib.hid (HL0.out.on hb); obtain ⟨⟨p10, p11, p12, p13, p14⟩, q10, q11, q12, q13, q14, q15, q16⟩ := HL1.out.cells; clear hm hb HL0)
    | (go_at_call 39; refine (refAhead_any HL1.out.y.r A B 0 0 0 0 T).mono ?_; rintro e w2 ⟨rfl, hm, hb⟩; have HL2 := Lib.hid (HL1.out.on hb); clear hm hb HL1))
  go_ret
  exact ⟨by simp, Goes.mk HL2.out.y⟩
set_option maxHeartbeats 4000000 in
set_option maxRecDepth 100000 in
theorem tstep_none (h : Play W w bm gm br gr ws o c ws o c) (K A B T : Int) (h1 : ¬ K = 1) (h2 : ¬ K = 2) (h3 : ¬ K = 3) (h4 : ¬ K = 4) (h5 : ¬ K = 5) (h6 : ¬ K = 6) : Calls Try.prog 15 #[.pointer (some ⟨bm, 0, none⟩), .pointer (some ⟨br, 0, none⟩), .agg #[.int .i64 K, .int .i64 A, .int .i64 B, .int .u64 T]] w fun e w' => e = .returned (.bool true) ∧ Goes W w' bm gm br gr := by
  have HL0 := Lib.hid (lay_new h K A B T)
  clear h
  go_enter Try.func15, Try.ntmps15
  go_wp2
  go_ret
  exact ⟨rfl, Goes.mk HL0.out.y⟩
theorem tstep_any (h : Play W w bm gm br gr ws o c ws o c) (K A B T : Int) : Calls Try.prog 15 #[.pointer (some ⟨bm, 0, none⟩), .pointer (some ⟨br, 0, none⟩), .agg #[.int .i64 K, .int .i64 A, .int .i64 B, .int .u64 T]] w fun e w' => e = .returned (.bool true) ∧ Goes W w' bm gm br gr := by
  by_cases h1 : K = 1
  · subst h1; exact tstep_open h A B T
  by_cases h2 : K = 2
  · subst h2; exact tstep_draw h A B T
  by_cases h3 : K = 3
  · subst h3; exact tstep_look h A B T
  by_cases h4 : K = 4
  · subst h4; exact tstep_pass h A B T
  by_cases h5 : K = 5
  · subst h5; exact tstep_ahead h A B T
  by_cases h6 : K = 6
  · subst h6; exact tstep_poke h A B T
  exact tstep_none h K A B T h1 h2 h3 h4 h5 h6
end
end Go.Proofs.Ytmkikapoflaghaa
