import Derived.Test.YtdfmmolhfacahaaM3
import Derived.Laws.CopyRow
namespace Go.Proofs.Ytdfmmolhfacahaa
open Go.ChangeShapes Go.WideShapes Go.ChangeAt Go.RowKit

theorem wordInfo : (Try.prog.info? 30).map (fun i => (i.zero, i.size, i.bytes)) = some (some (.int .u64 0), 1, 8) := by kernel_rfl
def RowAt (w : World) (g : Nat) (ws : List Int) : Prop := w.heap[g]? = some (.cells (u64s ws).toArray 30 (0, 0))
theorem RowAt.lt {w : World} {g : Nat} {ws : List Int} (h : RowAt w g ws) : g < w.heap.size := lt_of_block h
theorem RowAt.on {w w' : World} {g : Nat} {ws : List Int} (h : RowAt w g ws) (k : Below w.heap.size w w') : RowAt w' g ws := (k.block g h.lt).trans h
theorem RowAt.word {w : World} {g : Nat} {ws : List Int} (h : RowAt w g ws) {i : Nat} (hi : i < ws.length) : w.cell? ⟨g, i, none⟩ = some (.int .u64 ws[i]) := by
  rw [cell_of_row w g i _ _ _ h]
  simp [u64s, hi]
theorem RowAt.free {w : World} {g : Nat} {ws : List Int} (h : RowAt w g ws) (i : Nat) : w.frozen? ⟨g, i, none⟩ = false := frozen_of_row w g i _ _ h
theorem RowAt.set {w : World} {g : Nat} {ws : List Int} (h : RowAt w g ws) (i : Nat) (v : Int) : RowAt (w.setCell ⟨g, i, none⟩ (.int .u64 v)) g (ws.set i v) := by
  unfold RowAt
  rw [heap_setCell_same w g i _ _ _ h, ← u64s_set, List.setIfInBounds_toArray]
theorem RowAt.keep {w w' : World} {g : Nat} {ws : List Int} (h : RowAt w g ws) (k : w'.heap[g]? = w.heap[g]?) : RowAt w' g ws := k.trans h
theorem u64s_len (ws : List Int) : (u64s ws).length = ws.length := by unfold u64s; rw [List.length_map]
theorem make_words (n : Nat) (hn : n ≤ 4096) (w : World) : (Instr.makeSlice 53 (.int .i64 (n : Int)) (.int .i64 (n : Int))).run Try.prog w = .ok (.slice (some ⟨w.heap.size, 0, none⟩) n n) (w.alloc (.cells (u64s (List.replicate n 0)).toArray 30)) := by
  obtain ⟨i, hi, hz0, hz1, hz2⟩ := info_parts wordInfo
  rw [run_make w 53 30 i (.int .u64 0) Try.underlying53 hi hz0 .i64 .i64 n n (by omega) (Int.le_refl _) (by rw [hz2]; omega) (by omega)]
  have e : (madeCells (Value.int .u64 0).cells (((n : Int)).toNat * i.size)) = (u64s (List.replicate n 0)).toArray := by
    rw [hz1, Nat.mul_one, Int.toNat_natCast]
    apply Array.toList_inj.1
    rw [show (Value.int .u64 0).cells = #[.int .u64 0] from rfl, toList_madeCells_one]
    simp [u64s]
  rw [e, Int.toNat_natCast]
theorem copy_words (w : World) (g : Nat) (ws : List Int) (h : RowAt w g ws) (ty : TypeId) : (Builtin.copy_ #[53, 53] ty #[.slice (some ⟨w.heap.size, 0, none⟩) ws.length ws.length, .slice (some ⟨g, 0, none⟩) ws.length ws.length]).run Try.prog (w.alloc (.cells (u64s (List.replicate ws.length 0)).toArray 30)) =
    .ok (goInt ws.length) ((w.alloc (.cells (u64s (List.replicate ws.length 0)).toArray 30)).setRow w.heap.size (u64s ws).toArray) := by
  have hr := run_copy_row (P := Try.prog) (w.alloc (.cells (u64s (List.replicate ws.length 0)).toArray 30)) 53 53 ty 30 w.heap.size 0 ws.length ws.length ⟨g, 0, none⟩ ws.length ws.length (u64s (List.replicate ws.length 0)).toArray 30 (u64s ws) Try.underlying53 (by kernel_rfl) (heap_alloc_new _ _) (by rw [u64s_len]; exact (Nat.min_self _).symm) (fun j v hj => by
      have hj' : j < ws.length := by
        have := (List.getElem?_eq_some_iff.1 hj).1
        rwa [u64s_len] at this
      have e : (⟨g, 0, none⟩ : Addr).add j = ⟨g, j, none⟩ := by unfold Addr.add; split <;> simp_all
      rw [e, World.cell?_alloc_past _ _ _ h.lt, h.word hj']
      rw [← hj]
      simp [u64s, hj']) (by simp [u64s_len]) (fun v hv => by
      unfold u64s at hv
      obtain ⟨x, _, rfl⟩ := List.mem_map.1 hv
      rfl)
  rw [hr]
  have e : (List.take 0 (u64s (List.replicate ws.length 0)).toArray.toList ++ u64s ws ++ List.drop (0 + (u64s ws).length) (u64s (List.replicate ws.length 0)).toArray.toList) = u64s ws := by
    rw [List.drop_of_length_le (by simp [u64s_len])]
    simp
  rw [e, u64s_len]

section
variable {w : World} {b g : Nat} {ws : List Int} {o : Bool} {c : Int}
set_option maxRecDepth 100000 in
theorem all_any (h : MemAt 79 w b g ws o c) : Calls Try.prog 24 #[.pointer (some ⟨b, 0, none⟩)] w fun e w' => e = .returned (.slice (some ⟨w.heap.size, 0, none⟩) ws.length ws.length) ∧ RowAt w' w.heap.size ws ∧ Below w.heap.size w w' := by
  have h0 := h.cell0
  have hb := h.ltB
  have hmk := make_words ws.length h.many
  have hcp := copy_words w g ws h.row
  have HF : Hid (RowAt ((w.alloc (.cells (u64s (List.replicate ws.length 0)).toArray 30)).setRow w.heap.size (u64s ws).toArray) w.heap.size ws) := setRow_heap _ _ _ _ _ _ (heap_alloc_new _ _)
  have HB : Hid (Below w.heap.size w ((w.alloc (.cells (u64s (List.replicate ws.length 0)).toArray 30)).setRow w.heap.size (u64s ws).toArray)) :=
    ((Below.refl _ _).alloc (Nat.le_refl _) _).trans ⟨rfl, rfl, rfl, by simp, fun k hk => setRow_other _ _ _ _ (Nat.ne_of_lt hk)⟩
  clear h
  go_enter Try.func24, Try.ntmps24
  go_wp2
  go_ret
  exact ⟨rfl, HF.out, HB.out⟩
end
theorem new_none (n : Int) (hn : ¬ (1 ≤ n ∧ n ≤ 4096)) (w : World) : Calls Try.prog 17 #[.int .i64 n] w fun e w' => e = .returned (.tuple #[.pointer none, .int .i64 1]) ∧ w' = w := by
  have hh : (decide (1 ≤ n) && decide (n ≤ 4096)) = false := by simp; omega
  clear hn
  go_enter Try.func17, Try.ntmps17
  go_wp2_with (go_at_call 45; refine (within_any _ _ _).mono ?_; rw [hh]; rintro e w' ⟨rfl, hw⟩; subst w')
  go_ret2
  exact ⟨rfl, rfl⟩
set_option maxRecDepth 100000 in
theorem new_some (n : Nat) (h1 : 1 ≤ n) (h2 : n ≤ 4096) (w : World) : Calls Try.prog 17 #[.int .i64 n] w fun e w' => e = .returned (.tuple #[.pointer (some ⟨w.heap.size + 1, 0, none⟩), .int .i64 0]) ∧ MemAt 79 w' (w.heap.size + 1) w.heap.size (List.replicate n 0) false 0 ∧ Below w.heap.size w w' := by
  have hh : (decide (1 ≤ (n : Int)) && decide ((n : Int) ≤ 4096)) = true := by simp; omega
  have hmk := make_words n h2
  have HN := Lib.hid (And.intro h1 h2)
  clear h1 h2
  go_enter Try.func17, Try.ntmps17
  go_wp2_with (go_at_call 45; refine (within_any _ _ _).mono ?_; rw [hh]; rintro e w' ⟨rfl, hw⟩; subst w')
  go_ret2
  refine ⟨rfl, ⟨?_, ?_, by omega, by rw [List.length_replicate]; exact HN.out.1, by rw [List.length_replicate]; exact HN.out.2⟩, ((Below.refl _ _).alloc (Nat.le_refl _) _).alloc (by simp) _⟩
  · rw [List.length_replicate]
    have := heap_alloc_new (w.alloc (.cells (u64s (List.replicate n 0)).toArray 30)) (.cells #[.slice (some ⟨w.heap.size, 0, none⟩) n n, .bool false, .int .i64 0] 79)
    simpa using this
  · rw [Below.heap_alloc _ _ _ (by simp)]
    exact heap_alloc_new _ _
end Go.Proofs.Ytdfmmolhfacahaa
