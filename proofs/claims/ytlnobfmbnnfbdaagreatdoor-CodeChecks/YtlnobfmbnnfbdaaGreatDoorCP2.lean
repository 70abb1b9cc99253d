import Derived.Test.YtlnobfmbnnfbdaaGreatDoorCY
import Derived.Recover
import Derived.Defers
namespace Go.Proofs.YtlnobfmbnnfbdaaGreatDoor
open Go.ChangeShapes Go.WideShapes Go.ChangeAt Go.RowKit Num
attribute [local go_sem] run_store_float

set_option maxHeartbeats 2000000 in
set_option maxRecDepth 100000 in
theorem catch_panicking (p1 p2 p3 : Nat) (t0 e0 l0 e line : Int) (v0 : Value) (w : World) (h12 : p1 ≠ p2) (h13 : p1 ≠ p3) (h23 : p2 ≠ p3)
    (b1 : w.heap[p1]? = some (.cells #[.int .i64 t0, v0] 24 (0, 0))) (b2 : w.heap[p2]? = some (.cells #[.int .i64 e0] 27 (0, 0))) (b3 : w.heap[p3]? = some (.cells #[.int .i64 l0] 3 (0, 0))) :
    CallsD Tryz.prog 34 #[.pointer (some ⟨p1, 0, none⟩), .pointer (some ⟨p2, 0, none⟩), .pointer (some ⟨p3, 0, none⟩)] (.panicking [{ v := .iface 67 (.agg #[.int .i64 e, .int .i64 line]), recovered := false }]) w fun r u' w' =>
      r = .returned (.tuple #[]) ∧ u' = .panicking [{ v := .iface 67 (.agg #[.int .i64 e, .int .i64 line]), recovered := true }] ∧
      w'.heap[p1]? = some (.cells #[.int .i64 0, .slice none 0 0] 24 (0, 0)) ∧ w'.heap[p2]? = some (.cells #[.int .i64 e] 27 (0, 0)) ∧ w'.heap[p3]? = some (.cells #[.int .i64 line] 3 (0, 0)) ∧
      ∀ B, B ≤ p1 → B ≤ p2 → B ≤ p3 → Below B w w' := by
  refine callsD_of_wpS Tryz.func34 rfl fun c₀ cs hu => ?_
  obtain ⟨q0, q1, q2⟩ := cells2_of b1
  have f0 := frozen_of_row w p1 0 _ _ b1
  have f1 := frozen_of_row w p1 1 _ _ b1
  have g0 := frozen_of_row w p2 0 _ _ b2
  have g1 := frozen_of_row w p3 0 _ _ b3
  have r0 : w.cell? ⟨p2, 0, none⟩ = some (.int .i64 e0) := by rw [cell_of_row w p2 0 _ _ _ b2]; rfl
  have r1 : w.cell? ⟨p3, 0, none⟩ = some (.int .i64 l0) := by rw [cell_of_row w p3 0 _ _ _ b3]; rfl
  have l2 := lt_of_block b2
  have l3 := lt_of_block b3
  have HB1 := Lib.hid b1
  have HB2 := Lib.hid b2
  have HB3 := Lib.hid b3
  clear b1 b2 b3
  apply wpS_seq
  apply wpS_region
  simp [wpOpsS, go_sem, recoverD, hu, Tryz.ntmps34, Exit.thenS]
  refine wpS_of_wp ?_
  have hta : ∀ u : World, (Instr.typeAssert (.iface 67 (.agg #[.int .i64 e, .int .i64 line])) 20 67 false).run Tryz.prog u = .ok (.agg #[.int .i64 e, .int .i64 line]) u := fun u => by kernel_rfl
  generalize hF : (Value.iface 67 (.agg #[.int .i64 e, .int .i64 line])) = F at hta ⊢
  rw [show (#[Value.pointer (some ⟨p1, 0, none⟩), Value.pointer (some ⟨p2, 0, none⟩), Value.pointer (some ⟨p3, 0, none⟩)] ++ ((Array.replicate 12 undef).setIfInBounds 2 F).setIfInBounds 0 F) = #[Value.pointer (some ⟨p1, 0, none⟩), Value.pointer (some ⟨p2, 0, none⟩), Value.pointer (some ⟨p3, 0, none⟩), F, undef, F, undef, undef, undef, undef, undef, undef, undef, undef, undef] from rfl]
  subst hF
  go_wp2
  go_region
  refine ⟨rfl, _, rfl, _, results_none rfl _ _ _, rfl, rfl, ?_, ?_, ?_, ?_⟩
  · have e1 := heap_setCell_same w p1 0 _ _ (.int .i64 0) HB1.out
    have e2 := heap_setCell_same (w.setCell ⟨p1, 0, none⟩ (.int .i64 0)) p1 1 _ _ (.slice none 0 0) e1
    have e3 := (heap_setCell_other ((w.setCell ⟨p1, 0, none⟩ (.int .i64 0)).setCell ⟨p1, 1, none⟩ (.slice none 0 0)) ⟨p2, 0, none⟩ p1 (.int .i64 e) (by simpa using h12)).trans e2
    have e4 := (heap_setCell_other (((w.setCell ⟨p1, 0, none⟩ (.int .i64 0)).setCell ⟨p1, 1, none⟩ (.slice none 0 0)).setCell ⟨p2, 0, none⟩ (.int .i64 e)) ⟨p3, 0, none⟩ p1 (.int .i64 line) (by simpa using h13)).trans e3
    exact (heap_alloc_old _ _ (lt_of_block e4)).trans e4
  · have e1 : ((w.setCell ⟨p1, 0, none⟩ (.int .i64 0)).setCell ⟨p1, 1, none⟩ (.slice none 0 0)).heap[p2]? = _ := (heap_setCell_other _ _ _ _ (by simpa using fun q => h12 q.symm)).trans ((heap_setCell_other _ _ _ _ (by simpa using fun q => h12 q.symm)).trans HB2.out)
    have e2 := heap_setCell_same _ p2 0 _ _ (.int .i64 e) e1
    have e3 := (heap_setCell_other (((w.setCell ⟨p1, 0, none⟩ (.int .i64 0)).setCell ⟨p1, 1, none⟩ (.slice none 0 0)).setCell ⟨p2, 0, none⟩ (.int .i64 e)) ⟨p3, 0, none⟩ p2 (.int .i64 line) (by simpa using h23)).trans e2
    exact (heap_alloc_old _ _ (lt_of_block e3)).trans e3
  · have e1 : (((w.setCell ⟨p1, 0, none⟩ (.int .i64 0)).setCell ⟨p1, 1, none⟩ (.slice none 0 0)).setCell ⟨p2, 0, none⟩ (.int .i64 e)).heap[p3]? = _ := (heap_setCell_other _ _ _ _ (by simpa using fun q => h23 q.symm)).trans ((heap_setCell_other _ _ _ _ (by simpa using fun q => h13 q.symm)).trans ((heap_setCell_other _ _ _ _ (by simpa using fun q => h13 q.symm)).trans HB3.out))
    have e2 := heap_setCell_same _ p3 0 _ _ (.int .i64 line) e1
    exact (heap_alloc_old _ _ (lt_of_block e2)).trans e2
  · intro B k1 k2 k3
    exact ((((((Below.refl B w).setCell (p := ⟨p1, 0, none⟩) k1 _).setCell (p := ⟨p1, 1, none⟩) k1 _).setCell (p := ⟨p2, 0, none⟩) k2 _).setCell (p := ⟨p3, 0, none⟩) k3 _).alloc (by simp; omega) _).trans ((Same.drew _).below _)
theorem catch_idle (p1 p2 p3 : Nat) (w : World) :
    CallsD Tryz.prog 34 #[.pointer (some ⟨p1, 0, none⟩), .pointer (some ⟨p2, 0, none⟩), .pointer (some ⟨p3, 0, none⟩)] .returning w fun r u' w' => r = .returned (.tuple #[]) ∧ u' = .returning ∧ w' = w := by
  refine callsD_of_wpS Tryz.func34 rfl fun c₀ cs hu => ?_
  apply wpS_seq
  apply wpS_region
  simp [wpOpsS, go_sem, recoverD, hu, Tryz.ntmps34, Exit.thenS]
  refine wpS_of_wp ?_
  rw [show (#[Value.pointer (some ⟨p1, 0, none⟩), Value.pointer (some ⟨p2, 0, none⟩), Value.pointer (some ⟨p3, 0, none⟩)] ++ ((Array.replicate 12 undef).setIfInBounds 2 .nilIface).setIfInBounds 0 .nilIface) = #[Value.pointer (some ⟨p1, 0, none⟩), Value.pointer (some ⟨p2, 0, none⟩), Value.pointer (some ⟨p3, 0, none⟩), .nilIface, undef, .nilIface, undef, undef, undef, undef, undef, undef, undef, undef, undef] from rfl]
  go_wp2
  cases c₀
  simp_all [bodyPostS, results, Tryz.results34]
end Go.Proofs.YtlnobfmbnnfbdaaGreatDoor
