import Derived.Test.YtlkldgopliablaaGreatDoorD2
namespace Go.Proofs.YtlkldgopliablaaGreatDoor.Sd
open Go.ChangeShapes Go.WideShapes Go.ChangeAt Go.RowKit

/-- a new one -/
def newR (n : Nat) : Rd := { n := n, g := fun k => decide (k < n), s := noneF, o := 0 }
def newI (n i : Nat) : Rd := { n := n, g := fun k => decide (k < i), s := noneF, o := 0 }
theorem newI_put (n i : Nat) : { newI n i with g := putF (newI n i).g i true } = newI n (i + 1) := by
  show Rd.mk n (putF (fun k => decide (k < i)) i true) noneF 0 = Rd.mk n (fun k => decide (k < i + 1)) noneF 0
  congr 1
  funext k
  show (if k = i then true else decide (k < i)) = decide (k < i + 1)
  by_cases h : k = i
  · simp [h]
  · have e : (k < i + 1) = (k < i) := by simp; omega
    simp [h, e]
set_option maxRecDepth 100000 in
set_option maxHeartbeats 1000000 in
theorem new_no (t : Int) (ht : mayT t = false) (w : World) : Calls Tryz.prog 67 #[.int .i64 t] w fun e w' => e = .returned (.tuple #[.pointer none, .int .i64 1]) ∧ w' = w := by
  have H1 := Lib.hid (mayBe_any t)
  rw [ht] at H1
  clear ht
  go_enter Tryz.func67, Tryz.ntmps67
  go_wp2_with (go_at_call 78; refine (H1.out _).mono ?_; rintro e w1 ⟨rfl, hw⟩; subst w1)
  go_ret2
  exact ⟨rfl, rfl⟩
set_option maxRecDepth 100000 in
set_option maxHeartbeats 1000000 in
theorem new_yes (n : Nat) (h1 : 1 ≤ n) (h8 : n ≤ 8) (w : World) : Calls Tryz.prog 67 #[.int .i64 (n : Int)] w fun e w' => e = .returned (.tuple #[.pointer (some ⟨w.heap.size, 0, none⟩), .int .i64 0]) ∧ RdAt w' w.heap.size (newR n) ∧ Below w.heap.size w w' := by
  have e : mayT (n : Int) = true := decide_eq_true ⟨by omega, by omega⟩
  have H1 := Lib.hid (mayBe_any (n : Int))
  rw [e] at H1
  clear e
  have HB : Hid (∀ o, Below w.heap.size w (w.alloc o)) := fun o => (Below.refl w.heap.size w).alloc (Nat.le_refl _) o
  have HA := Lib.hid (show RdAt (w.alloc (.cells #[.int .i64 (n : Int), .bool false, .bool false, .bool false, .bool false, .bool false, .bool false, .bool false, .bool false, .bool false, .bool false, .bool false, .bool false, .bool false, .bool false, .bool false, .bool false, .int .i64 0] 170)) w.heap.size (newI n 0) from ⟨heap_alloc_new _ _⟩)
  go_enter Tryz.func67, Tryz.ntmps67
  go_wp2_with (go_at_call 78; refine (H1.out _).mono ?_; rintro e w1 ⟨rfl, hw⟩; subst w1)
  go_loopw [13] (fun vi wr => ∃ i : Nat, vi = .int .i64 i ∧ i ≤ n ∧ Hid (RdAt wr w.heap.size (newI n i) ∧ Below w.heap.size w wr)) (fun vi _ => n - (intOf vi).toNat)
  case atStart => exact ⟨0, rfl, Nat.zero_le _, HA.out, HB.out _⟩
  case round =>
    obtain ⟨i, rfl, hi, HQ⟩ := hrel
    by_cases hlt : i < n
    · have hlt' : (i : Int) < (n : Int) := by omega
      have k8 : (i : Int) < 8 := by omega
      have hc := HQ.out.1.cellG i (by omega)
      have hb := HQ.out.1.lt
      have hf := HQ.out.1.free (1 + i)
      have HN : Hid (RdAt (wr.setCell ⟨w.heap.size, 1 + i, none⟩ (.bool true)) w.heap.size (newI n (i + 1)) ∧ Below w.heap.size w (wr.setCell ⟨w.heap.size, 1 + i, none⟩ (.bool true))) := by
        have q := HQ.out.1.setG i (by omega) true
        rw [newI_put] at q
        exact ⟨q, HQ.out.2.trans ((turn_set _ _ _ _).below (fun k hk => by simp at hk; omega) HQ.out.2.size)⟩
      clear HQ HA HB
      go_wp2
      exact ⟨⟨i + 1, by first | rfl | (congr 1), by omega, HN⟩, by simp [intOf]; omega⟩
    · have hlt' : ¬ (i : Int) < (n : Int) := by omega
      obtain rfl : i = n := by omega
      go_wp2
      go_ret2
      exact ⟨rfl, HQ.out.1, HQ.out.2⟩
theorem box_one (m : Rd) : (boxV m).all (·.oneCell') = true := by simp [boxV, Value.oneCell']
theorem rdInfo : (Tryz.prog.info? 170).map (·.size) = some 18 := by kernel_rfl
set_option maxRecDepth 100000 in
theorem clone_any {w : World} {b : Nat} {m : Rd} (h : RdAt w b m) : Calls Tryz.prog 53 #[.pointer (some ⟨b, 0, none⟩)] w fun e w' => ∃ nb, e = .returned (.pointer (some ⟨nb, 0, none⟩)) ∧ RdAt w' nb m ∧ w.heap.size ≤ nb ∧ Below w.heap.size w w' := by
  have hb := h.lt
  have hbox := h.box
  have HB : Hid (∀ o, Below w.heap.size w (w.alloc o)) := fun o => (Below.refl w.heap.size w).alloc (Nat.le_refl _) o
  clear h
  go_enter Tryz.func53, Tryz.ntmps53
  go_wp2_with (first
    | (refine wpList_load_row rfl 170 _ rfl b rfl _ (boxV m) _ _ hbox Tryz.underlying170 rfl rdInfo ?_)
    | (refine wpList_store_row rfl 170 _ _ rfl w.heap.size (boxV m) rfl rfl _ _ (heap_alloc_new _ _) rdInfo rfl (box_one m) ?_; rw [World.setRow_alloc_new]))
  go_ret
  exact ⟨_, rfl, ⟨heap_alloc_new _ _⟩, Nat.le_refl _, HB.out _⟩
end Go.Proofs.YtlkldgopliablaaGreatDoor.Sd
