import Derived.Test.YtlnobfmbnnfbdaaGreatDoorCZ
import Derived.Recover
import Derived.Defers
namespace Go.Proofs.YtlnobfmbnnfbdaaGreatDoor
open Go.ChangeShapes Go.WideShapes Go.ChangeAt Go.RowKit Num
attribute [local go_sem] run_store_float

set_option maxHeartbeats 2000000 in
set_option maxRecDepth 100000 in
theorem catch_panicking (p1 p2 p3 : Nat) (t0 e0 l0 e line : Int) (v0 : Value) (w : World) (h12 : p1 ≠ p2) (h13 : p1 ≠ p3) (h23 : p2 ≠ p3)
    (b1 : w.heap[p1]? = some (.cells #[.int .i64 t0, v0] 24 (0, 0))) (b2 : w.heap[p2]? = some (.cells #[.int .i64 e0] 27 (0, 0))) (b3 : w.heap[p3]? = some (.cells #[.int .i64 l0] 3 (0, 0))) :
    CallsD Tryz.prog 34 #[.pointer (some ⟨p1, 0, none⟩), .pointer (some ⟨p2, 0, none⟩), .pointer (some ⟨p3, 0, none⟩)] (.panicking [{ v := .iface 67 (.agg #[.int .i64 e, .int .i64 line]), recovered := false }]) w fun r u' w' =>
      r = .returned (.tuple #[]) ∧ u' = .panicking [{ v := .iface 67 (.agg #[.int .i64 e, .int .i64 line]), recovered := true }] ∧
      w'.heap[p1]? = some (.cells #[.int .i64 0, .slice none 0 0] 24 (0, 0)) ∧ w'.heap[p2]? = some (.cells #[.int .i64 e] 27 (0, 0)) ∧ w'.heap[p3]? = some (.cells #[.int .i64 line] 3 (0, 0)) ∧
      ∀ B, B ≤ p1 → B ≤ p2 → B ≤ p3 → Below B w w' := by
  refine callsD_of_wpS Tryz.func34 rfl fun c₀ cs hu => ?_
  obtain ⟨q0, q1, q2⟩ := cells2_of b1
  have f0 := frozen_of_row w p1 0 _ _ b1
  have f1 := frozen_of_row w p1 1 _ _ b1
  have g0 := frozen_of_row w p2 0 _ _ b2
  have g1 := frozen_of_row w p3 0 _ _ b3
  have r0 : w.cell? ⟨p2, 0, none⟩ = some (.int .i64 e0) := by rw [cell_of_row w p2 0 _ _ _ b2]; rfl
  have r1 : w.cell? ⟨p3, 0, none⟩ = some (.int .i64 l0) := by rw [cell_of_row w p3 0 _ _ _ b3]; rfl
  have l2 := lt_of_block b2
  have l3 := lt_of_block b3
  have HB1 := Lib.hid b1
  have HB2 := Lib.hid b2
  have HB3 := Lib.hid b3
  clear b1 b2 b3
  apply wpS_seq
  apply wpS_region
  simp [wpOpsS, go_sem, recoverD, hu, Tryz.ntmps34, Exit.thenS]
  refine wpS_of_wp ?_
  have hta : ∀ u : World, (Instr.typeAssert (.iface 67 (.agg #[.int .i64 e, .int .i64 line])) 20 67 false).run Tryz.prog u = .ok (.agg #[.int .i64 e, .int .i64 line]) u := fun u => by kernel_rfl
  generalize hF : (Value.iface 67 (.agg #[.int .i64 e, .int .i64 line])) = F at hta ⊢
  rw [show (#[Value.pointer (some ⟨p1, 0, none⟩), Value.pointer (some ⟨p2, 0, none⟩), Value.pointer (some ⟨p3, 0, none⟩)] ++ ((Array.replicate 12 undef).setIfInBounds 2 F).setIfInBounds 0 F) = #[Value.pointer (some ⟨p1, 0, none⟩), Value.pointer (some ⟨p2, 0, none⟩), Value.pointer (some ⟨p3, 0, none⟩), F, undef, F, undef, undef, undef, undef, undef, undef, undef, undef, undef] from rfl]
  subst hF
  go_wp2
  go_region
  refine ⟨rfl, _, rfl, _, results_none rfl _ _ _, rfl, rfl, ?_, ?_, ?_, ?_⟩
  · have e1 := heap_setCell_same w p1 0 _ _ (.int .i64 0) HB1.out
    have e2 := heap_setCell_same (w.setCell ⟨p1, 0, none⟩ (.int .i64 0)) p1 1 _ _ (.slice none 0 0) e1
    have e3 := (heap_setCell_other ((w.setCell ⟨p1, 0, none⟩ (.int .i64 0)).setCell ⟨p1, 1, none⟩ (.slice none 0 0)) ⟨p2, 0, none⟩ p1 (.int .i64 e) (by simpa using h12)).trans e2
    have e4 := (heap_setCell_other (((w.setCell ⟨p1, 0, none⟩ (.int .i64 0)).setCell ⟨p1, 1, none⟩ (.slice none 0 0)).setCell ⟨p2, 0, none⟩ (.int .i64 e)) ⟨p3, 0, none⟩ p1 (.int .i64 line) (by simpa using h13)).trans e3
    exact (heap_alloc_old _ _ (lt_of_block e4)).trans e4
  · have e1 : ((w.setCell ⟨p1, 0, none⟩ (.int .i64 0)).setCell ⟨p1, 1, none⟩ (.slice none 0 0)).heap[p2]? = _ := (heap_setCell_other _ _ _ _ (by simpa using fun q => h12 q.symm)).trans ((heap_setCell_other _ _ _ _ (by simpa using fun q => h12 q.symm)).trans HB2.out)
    have e2 := heap_setCell_same _ p2 0 _ _ (.int .i64 e) e1
    have e3 := (heap_setCell_other (((w.setCell ⟨p1, 0, none⟩ (.int .i64 0)).setCell ⟨p1, 1, none⟩ (.slice none 0 0)).setCell ⟨p2, 0, none⟩ (.int .i64 e)) ⟨p3, 0, none⟩ p2 (.int .i64 line) (by simpa using h23)).trans e2
    exact (heap_alloc_old _ _ (lt_of_block e3)).trans e3
  · have e1 : (((w.setCell ⟨p1, 0, none⟩ (.int .i64 0)).setCell ⟨p1, 1, none⟩ (.slice none 0 0)).setCell ⟨p2, 0, none⟩ (.int .i64 e)).heap[p3]? = _ := (heap_setCell_other _ _ _ _ (by simpa using fun q => h23 q.symm)).trans ((heap_setCell_other _ _ _ _ (by simpa using fun q => h13 q.symm)).trans ((heap_setCell_other _ _ _ _ (by simpa using fun q => h13 q.symm)).trans HB3.out))
    have e2 := heap_setCell_same _ p3 0 _ _ (.int .i64 line) e1
    exact (heap_alloc_old _ _ (lt_of_block e2)).trans e2
  · intro B k1 k2 k3
    exact ((((((Below.refl B w).setCell (p := ⟨p1, 0, none⟩) k1 _).setCell (p := ⟨p1, 1, none⟩) k1 _).setCell (p := ⟨p2, 0, none⟩) k2 _).setCell (p := ⟨p3, 0, none⟩) k3 _).alloc (by simp; omega) _).trans ((Same.drew _).below _)
theorem catch_idle (p1 p2 p3 : Nat) (w : World) :
    CallsD Tryz.prog 34 #[.pointer (some ⟨p1, 0, none⟩), .pointer (some ⟨p2, 0, none⟩), .pointer (some ⟨p3, 0, none⟩)] .returning w fun r u' w' => r = .returned (.tuple #[]) ∧ u' = .returning ∧ w' = w := by
  refine callsD_of_wpS Tryz.func34 rfl fun c₀ cs hu => ?_
  apply wpS_seq
  apply wpS_region
  simp [wpOpsS, go_sem, recoverD, hu, Tryz.ntmps34, Exit.thenS]
  refine wpS_of_wp ?_
  rw [show (#[Value.pointer (some ⟨p1, 0, none⟩), Value.pointer (some ⟨p2, 0, none⟩), Value.pointer (some ⟨p3, 0, none⟩)] ++ ((Array.replicate 12 undef).setIfInBounds 2 .nilIface).setIfInBounds 0 .nilIface) = #[Value.pointer (some ⟨p1, 0, none⟩), Value.pointer (some ⟨p2, 0, none⟩), Value.pointer (some ⟨p3, 0, none⟩), .nilIface, undef, .nilIface, undef, undef, undef, undef, undef, undef, undef, undef, undef] from rfl]
  go_wp2
  cases c₀
  simp_all [bodyPostS, results, Tryz.results34]
end Go.Proofs.YtlnobfmbnnfbdaaGreatDoor
namespace Go.Proofs.YtlnobfmbnnfbdaaGreatDoor
open Go.ChangeShapes Go.WideShapes Go.ChangeAt Go.RowKit Num
attribute [local go_sem] run_store_float

theorem cells1_of {w : World} {x : Nat} {v0 : Value} {T : TypeId} (h : w.heap[x]? = some (.cells #[v0] T (0, 0))) : w.cell? ⟨x, 0, none⟩ = some v0 ∧ x < w.heap.size := ⟨by rw [cell_of_row w x 0 _ _ _ h]; rfl, lt_of_block h⟩
/-- the world at the reader's making -/
abbrev openW (w : World) (s : ByteArray) : World := (((w.alloc (.cells #[.int .i64 0, .slice none 0 0] 24)).alloc (.cells #[.int .i64 0] 27)).alloc (.cells #[.int .i64 0] 3)).alloc (.cells #[.string s, .int .i64 0] 69)
theorem open_box1 (w : World) (s : ByteArray) : (openW w s).heap[w.heap.size]? = some (.cells #[.int .i64 0, .slice none 0 0] 24 (0, 0)) :=
  (heap_alloc_old _ _ (by first | (simp; done) | (simp; omega))).trans ((heap_alloc_old _ _ (by first | (simp; done) | (simp; omega))).trans ((heap_alloc_old _ _ (by first | (simp; done) | (simp; omega))).trans (heap_alloc_new w _)))
theorem open_box2 (w : World) (s : ByteArray) : (openW w s).heap[w.heap.size + 1]? = some (.cells #[.int .i64 0] 27 (0, 0)) := by
  have h := heap_alloc_new (w.alloc (.cells #[.int .i64 0, .slice none 0 0] 24)) (.cells #[.int .i64 0] 27)
  rw [show (w.alloc (.cells #[.int .i64 0, .slice none 0 0] 24)).heap.size = w.heap.size + 1 by simp] at h
  exact (heap_alloc_old _ _ (by first | (simp; done) | (simp; omega))).trans ((heap_alloc_old _ _ (by first | (simp; done) | (simp; omega))).trans h)
theorem open_box3 (w : World) (s : ByteArray) : (openW w s).heap[w.heap.size + 1 + 1]? = some (.cells #[.int .i64 0] 3 (0, 0)) := by
  have h := heap_alloc_new ((w.alloc (.cells #[.int .i64 0, .slice none 0 0] 24)).alloc (.cells #[.int .i64 0] 27)) (.cells #[.int .i64 0] 3)
  rw [show ((w.alloc (.cells #[.int .i64 0, .slice none 0 0] 24)).alloc (.cells #[.int .i64 0] 27)).heap.size = w.heap.size + 1 + 1 by simp] at h
  exact (heap_alloc_old _ _ (by first | (simp; done) | (simp; omega))).trans h
theorem open_rd (w : World) (s : ByteArray) : RdAt (openW w s) (w.heap.size + 1 + 1 + 1) s.data.toList 0 := by
  have h := heap_alloc_new (((w.alloc (.cells #[.int .i64 0, .slice none 0 0] 24)).alloc (.cells #[.int .i64 0] 27)).alloc (.cells #[.int .i64 0] 3)) (.cells #[.string s, .int .i64 0] 69)
  rw [show (((w.alloc (.cells #[.int .i64 0, .slice none 0 0] 24)).alloc (.cells #[.int .i64 0] 27)).alloc (.cells #[.int .i64 0] 3)).heap.size = w.heap.size + 1 + 1 + 1 by simp] at h
  exact h
theorem open_below (w : World) (s : ByteArray) : Below w.heap.size w (openW w s) := bl_alloc _ (bl_alloc _ (bl_alloc _ (box5 _ _)))
set_option maxHeartbeats 2000000 in
set_option maxRecDepth 100000 in
theorem parse_long (s : ByteArray) (w : World) (h : 65536 < s.size) : Calls Tryz.prog 20 #[.string s] w fun e w' => e = .returned (.tuple #[progV 0 none 0 0, .int .i64 2, .int .i64 0]) ∧ Below w.heap.size w w' := by
  have hmf : ∀ (fn : Fn) (first cap : Array Value) (w : World), (Instr.makeFunc fn first cap).run Tryz.prog w = .ok (.func fn first cap) w := fun _ _ _ _ => rfl
  have h' : (65536 : Int) < (s.size : Int) := by omega
  go_enter_defers Tryz.func20, Tryz.ntmps20
  go_wp2
  have hb : Below w.heap.size w (((w.alloc (.cells #[.int .i64 0, .slice none 0 0] 24)).alloc (.cells #[.int .i64 2] 27)).alloc (.cells #[.int .i64 0] 3)) := bl_alloc _ (bl_alloc _ (box5 _ _))
  simp [bodyPostD, Leaves, results, Tryz.results20, go_sem, progV, hb]
set_option maxHeartbeats 2000000 in
set_option maxRecDepth 100000 in
theorem parse_err (s : ByteArray) (w : World) (h : ¬ 65536 < s.size) {x l : Int}
    (HPR : Hid (Calls Tryz.prog 35 #[.pointer (some ⟨w.heap.size + 1 + 1 + 1, 0, none⟩)] (openW w s) fun e w' => e = gaveUp x l ∧ Turn [w.heap.size + 1 + 1 + 1] [w.heap.size + 1 + 1 + 1] (openW w s) w')) :
    Calls Tryz.prog 20 #[.string s] w fun e w' => e = .returned (.tuple #[progV 0 none 0 0, .int .i64 x, .int .i64 l]) ∧ Below w.heap.size w w' := by
  have hmf : ∀ (fn : Fn) (first cap : Array Value) (w : World), (Instr.makeFunc fn first cap).run Tryz.prog w = .ok (.func fn first cap) w := fun _ _ _ _ => rfl
  have h' : ¬ (65536 : Int) < (s.size : Int) := by omega
  go_enter_defers Tryz.func20, Tryz.ntmps20
  go_wp2_with (first | (go_at_call 35; refine HPR.out.mono ?_; rintro e w4 ⟨rfl, hu⟩; have HU := Lib.hid hu; clear hu))
  refine leaves_cons (f := 34) (args := #[.pointer (some ⟨w.heap.size, 0, none⟩), .pointer (some ⟨w.heap.size + 1, 0, none⟩), .pointer (some ⟨w.heap.size + 1 + 1, 0, none⟩)]) (by simp) (by simp [go_sem]) ?_
  refine (catch_panicking w.heap.size (w.heap.size + 1) (w.heap.size + 1 + 1) 0 0 0 x l (.slice none 0 0) _ (by omega) (by omega) (by omega) ((HU.out.block _ (lt_of_block (open_box1 w s)) (by simp; omega)).trans (open_box1 w s)) ((HU.out.block _ (lt_of_block (open_box2 w s)) (by simp)).trans (open_box2 w s)) ((HU.out.block _ (lt_of_block (open_box3 w s)) (by simp)).trans (open_box3 w s))).mono ?_
  rintro e u' w5 ⟨rfl, rfl, c1, c2, c3, hB⟩
  obtain ⟨d0, d1, d2⟩ := cells2_of c1
  obtain ⟨d3, d4⟩ := cells1_of c2
  obtain ⟨d5, d6⟩ := cells1_of c3
  have hb : Below w.heap.size w w5 := ((open_below w s).trans (HU.out.below (fun k hk => by simp at hk; omega) (open_below w s).size)).trans (hB w.heap.size (by omega) (by omega) (by omega))
  simp [Leaves, settle, results, Tryz.results20, go_sem, d0, d1, d3, d5, progV, hb]
set_option maxHeartbeats 2000000 in
set_option maxRecDepth 100000 in
theorem parse_ok (s : ByteArray) (w : World) (h : ¬ 65536 < s.size) {t : Int} {c : List Ins}
    (R : Option Addr → Nat → World → Prop) (hR : ∀ ao cap w4 o1 o2 o3 o4 v1 v2 v3 v4, R ao cap w4 → R ao cap ((((w4.setCell ⟨w.heap.size, o1, none⟩ v1).setCell ⟨w.heap.size, o2, none⟩ v2).setCell ⟨w.heap.size + 1, o3, none⟩ v3).setCell ⟨w.heap.size + 1 + 1, o4, none⟩ v4))
    (HPR : Hid (Calls Tryz.prog 35 #[.pointer (some ⟨w.heap.size + 1 + 1 + 1, 0, none⟩)] (openW w s) fun e w' => (∃ ao cap, e = .returned (progV t ao c.length cap) ∧ R ao cap w') ∧ Turn [w.heap.size + 1 + 1 + 1] [w.heap.size + 1 + 1 + 1] (openW w s) w')) :
    Calls Tryz.prog 20 #[.string s] w fun e w' => (∃ ao cap, e = .returned (.tuple #[progV t ao c.length cap, .int .i64 0, .int .i64 0]) ∧ R ao cap w') ∧ Below w.heap.size w w' := by
  have hmf : ∀ (fn : Fn) (first cap : Array Value) (w : World), (Instr.makeFunc fn first cap).run Tryz.prog w = .ok (.func fn first cap) w := fun _ _ _ _ => rfl
  have h' : ¬ (65536 : Int) < (s.size : Int) := by omega
  have HRR := Lib.hid hR
  clear hR
  unfold progV at HPR
  go_enter_defers Tryz.func20, Tryz.ntmps20
  go_wp2_with (first | (go_at_call 35; refine HPR.out.mono ?_; rintro e w4 ⟨⟨ao, cap, rfl, hr⟩, hu⟩; have hx1 := (hu.block _ (lt_of_block (open_box1 w s)) (by simp; omega)).trans (open_box1 w s); have hx2 := (hu.block _ (lt_of_block (open_box2 w s)) (by simp)).trans (open_box2 w s); have hx3 := (hu.block _ (lt_of_block (open_box3 w s)) (by simp)).trans (open_box3 w s); obtain ⟨d0, d1, d2⟩ := cells2_of hx1; obtain ⟨d3, d4⟩ := cells1_of hx2; obtain ⟨d5, d6⟩ := cells1_of hx3; have f0 := frozen_of_row _ _ 0 _ _ hx1; have f1 := frozen_of_row _ _ 1 _ _ hx1; have f2 := frozen_of_row _ _ 0 _ _ hx2; have f3 := frozen_of_row _ _ 0 _ _ hx3; have HR := Lib.hid hr; have HU := Lib.hid hu; clear hu hr hx1 hx2 hx3))
  refine leaves_cons (f := 34) (args := #[.pointer (some ⟨w.heap.size, 0, none⟩), .pointer (some ⟨w.heap.size + 1, 0, none⟩), .pointer (some ⟨w.heap.size + 1 + 1, 0, none⟩)]) (by simp) (by simp [go_sem]) ?_
  refine (catch_idle w.heap.size (w.heap.size + 1) (w.heap.size + 1 + 1) _).mono ?_
  rintro e u' w5 ⟨rfl, rfl, rfl⟩
  have hb : Below w.heap.size w w4 := (open_below w s).trans (HU.out.below (fun k hk => by simp at hk; omega) (open_below w s).size)
  refine ⟨.tuple #[.agg #[.int .i64 t, .slice ao c.length cap], .int .i64 0, .int .i64 0], by simp [results, Tryz.results20, go_sem, d0, d1, d3, d5], ⟨ao, cap, rfl, HRR.out ao cap w4 _ _ _ _ _ _ _ _ HR.out⟩, bl_set _ _ _ (by omega) (bl_set _ _ _ (by omega) (bl_set _ _ _ (by omega) (bl_set _ _ _ (by omega) hb)))⟩
/-- what Parse answers -/
def ParseR (w w' : World) (l : List UInt8) (e : Ending) : Prop := match parseP l with
  | .error (x, ln) => e = .returned (.tuple #[progV 0 none 0 0, .int .i64 x, .int .i64 ln])
  | .ok (t, c) => ∃ ao cap, e = .returned (.tuple #[progV t ao c.length cap, .int .i64 0, .int .i64 0]) ∧ CodeRow w.heap.size w' (.slice ao c.length cap) c
theorem row_base {B B' : Nat} {w : World} {v : Value} {c : List Ins} (h : CodeRow B w v c) (hb : B' ≤ B) : CodeRow B' w v c := by
  refine ⟨h.1, ?_⟩
  rcases h.2 with q | ⟨g, cap, cur, hv, hB, rest⟩
  · exact .inl q
  · exact .inr ⟨g, cap, cur, hv, Nat.le_trans hb hB, rest⟩
theorem parseR_err {w w' : World} {l : List UInt8} {e : Ending} {x ln : Int} (hp : parseP l = .error (x, ln)) (h : e = .returned (.tuple #[progV 0 none 0 0, .int .i64 x, .int .i64 ln])) : ParseR w w' l e := by
  unfold ParseR
  rw [hp]
  exact h
theorem parseR_ok5 {w w' : World} {l : List UInt8} {e : Ending} {t : Int} {c : List Ins} (hp : parseP l = .ok (t, c)) (h : ∃ ao cap, e = .returned (.tuple #[progV t ao c.length cap, .int .i64 0, .int .i64 0]) ∧ CodeRow w.heap.size w' (.slice ao c.length cap) c) : ParseR w w' l e := by
  unfold ParseR
  rw [hp]
  exact h
/-- the program's Parse, of any text -/
theorem code_parse (s : ByteArray) (w : World) (hT : Tabs5 w) : Calls Tryz.prog 20 #[.string s] w fun e w' => ParseR w w' s.data.toList e ∧ Below w.heap.size w w' := by
  have hsz := size_list s
  by_cases hl : 65536 < s.size
  · exact (parse_long s w hl).mono fun e w' ⟨he, hb⟩ => ⟨parseR_err (by unfold parseP; rw [if_pos (by omega)]) he, hb⟩
  have hl' : ¬ 65536 < s.data.toList.length := by omega
  have hob := open_below w s
  have hbe : w.heap.size ≤ w.heap.size + 1 + 1 + 1 := by omega
  have hzo : (openW w s).heap.size = w.heap.size + 1 + 1 + 1 + 1 := by simp
  rcases cutB_cases 10 s.data.toList with ⟨x, y, ex, hx, hc⟩ | ⟨hx, hc⟩
  · have hylen : y.length ≤ 65536 := by
      have h2 := (cut_len (c := 10) s.data.toList).2
      rw [hc] at h2
      simp only at h2
      omega
    cases ht : tagOf x with
    | none =>
      have hp : parseP s.data.toList = .error (20, 1) := by
        unfold parseP
        rw [if_neg hl', hc]
        simp only [ht]
        rw [if_neg (by decide)]
      refine (parse_err s w hl (x := 20) (l := 1) (prog_tagbad fun w1 h1 => ?_)).mono fun e w' ⟨he, hb⟩ => ⟨parseR_err hp he, hb⟩
      exact tag_no hT (hob.trans (h1.mono hob.size)) hbe ((open_rd w s).on h1) (by decide) (by decide) (by omega) hc ht
    | some t =>
      have HTG : Hid (∀ w1, Below (openW w s).heap.size (openW w s) w1 → Calls Tryz.prog 48 #[.pointer (some ⟨w.heap.size + 1 + 1 + 1, 0, none⟩)] w1 fun e w' => e = .returned (.int .i64 t) ∧ RdAt w' (w.heap.size + 1 + 1 + 1) y 1 ∧ Turn [w.heap.size + 1 + 1 + 1] [w.heap.size + 1 + 1 + 1] w1 w') := fun w1 h1 => tag_ok hT (hob.trans (h1.mono hob.size)) hbe ((open_rd w s).on h1) (by decide) (by decide) (by omega) hc ht
      have hp : parseP s.data.toList = ended t (instrsF 1024 y []) := by
        unfold parseP
        rw [if_neg hl', hc]
        simp only [ht]
        rw [if_neg (by decide)]
      cases hst : stepI y 1 with
      | error x1 =>
        have hG : instrsF 1024 y [] = .error (x1, 2) := step_bad (k := 1024) (by decide) (by simp) hst
        rw [hG] at hp
        refine (parse_err s w hl (x := x1) (l := 2) (prog_first_bad HTG fun w0 w1 hr0 hu0 h1 => ?_)).mono fun e w' ⟨he, hb⟩ => ⟨parseR_err hp he, hb⟩
        exact instr_fail hT ((turn_base hob hbe hu0).trans (h1.mono (turn_base hob hbe hu0).size)) hbe (hr0.on h1) (by decide) (by decide) hylen hst
      | ok q5 =>
        obtain ⟨i1, r1⟩ := q5
        have hpo := prog_ok (by omega) hT hob hbe HTG hst rfl hylen
        cases hE : ended t (instrsF 1024 y []) with
        | error q5 =>
          obtain ⟨x1, l1⟩ := q5
          rw [hE] at hp
          refine (parse_err s w hl (x := x1) (l := l1) (hpo.mono fun e w' ⟨he, hu⟩ => ⟨?_, hu⟩)).mono fun e w' ⟨he, hb⟩ => ⟨parseR_err hp he, hb⟩
          unfold ProgR at he
          rw [hE] at he
          exact he
        | ok q5 =>
          obtain ⟨t', c⟩ := q5
          rw [hE] at hp
          refine (parse_ok s w hl (t := t') (c := c) (fun ao cap w' => CodeRow (openW w s).heap.size w' (.slice ao c.length cap) c) (fun ao cap w4 o1 o2 o3 o4 v1 v2 v3 v4 hrow => ?_) (hpo.mono fun e w' ⟨he, hu⟩ => ⟨?_, hu⟩)).mono fun e w' ⟨⟨ao, cap, he, hr⟩, hb⟩ => ⟨parseR_ok5 hp ⟨ao, cap, he, row_base hr hob.size⟩, hb⟩
          · have hn : ∀ p, p < w.heap.size + 1 + 1 + 1 + 1 → (Value.slice ao c.length cap).ownBlock ≠ some p := fun p hp q => by
              have := hrow.lt p q
              omega
            exact row_put (row_put (row_put (row_put hrow (hn _ (by omega))) (hn _ (by omega))) (hn _ (by omega))) (hn _ (by omega))
          · unfold ProgR at he
            rw [hE] at he
            exact he
  · have hp : parseP s.data.toList = .error (20, 1) := by
      unfold parseP
      rw [if_neg hl', hc]
      simp
    refine (parse_err s w hl (x := 20) (l := 1) (prog_tagbad fun w1 h1 => ?_)).mono fun e w' ⟨he, hb⟩ => ⟨parseR_err hp he, hb⟩
    exact tag_bad (next_end hT (hob.trans (h1.mono hob.size)) hbe ((open_rd w s).on h1) (by decide) (by decide) (by omega) (by rw [hc]))
end Go.Proofs.YtlnobfmbnnfbdaaGreatDoor
