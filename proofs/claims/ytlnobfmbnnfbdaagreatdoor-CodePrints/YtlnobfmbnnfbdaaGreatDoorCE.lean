import Derived.Test.YtlnobfmbnnfbdaaGreatDoorCD
import Derived.Test.YtlnobfmbnnfbdaaGreatDoorT7
namespace Go.Proofs.YtlnobfmbnnfbdaaGreatDoor
open Go.ChangeShapes Go.WideShapes Go.ChangeAt Go.RowKit Num
attribute [local go_sem] run_store_float

set_option maxHeartbeats 4000000 in
set_option maxRecDepth 100000 in
theorem line_word (k : Nat) (n : Int) (x : Nat) (w : World) (hk : k < 21) (hk1 : ¬ k = 1) (hk9 : ¬ k = 9) (hk10 : ¬ k = 10) (hh : rhi k = 0) : Calls Tryz.prog 33 #[.agg #[.int .i64 k, .int .i64 n, .float .f64 x]] w fun e w' => e = .returned (.string ⟨(shp k).word.toArray⟩) ∧ Below w.heap.size w w' := by
  have c0 := fun u b hb => (rows_cells k hk u b hb).1
  have c1 := fun u b hb => (rows_cells k hk u b hb).2.1
  have c2 := fun u b hb => (rows_cells k hk u b hb).2.2.1
  have c3 := fun u b hb => (rows_cells k hk u b hb).2.2.2.1
  have c4 := fun u b hb => (rows_cells k hk u b hb).2.2.2.2
  rw [hh] at c2
  have a1 : ((k : Int) == 1) = false := by simp; omega
  have a2 : ((k : Int) == 9) = false := by simp; omega
  have a3 : ((k : Int) == 10) = false := by simp; omega
  have hk3 : (k : Int) < 21 := by omega
  unfold strB at c0
  generalize (shp k).takes = t at *
  generalize (shp k).lays = l at *
  generalize (shp k).word = wd at *
  generalize rlo k = lo at *
  clear hh hk1 hk9 hk10
  go_enter Tryz.func33, Tryz.ntmps33
  go_wp2
  go_region_with (go_at_call 27; refine (rows_any _).mono ?_; rintro e w' ⟨rfl, hw⟩; subst w')
  clear c0 c1 c2 c3 c4
  all_goals go_wp2
  all_goals go_ret
  all_goals exact ⟨rfl, by repeat (first | exact Below.refl _ _ | apply bl_alloc | apply bl_drewN | apply bl_drew)⟩
end Go.Proofs.YtlnobfmbnnfbdaaGreatDoor
namespace Go.Proofs.YtlnobfmbnnfbdaaGreatDoor
open Go.ChangeShapes Go.WideShapes Go.ChangeAt Go.RowKit Num
attribute [local go_sem] run_store_float

set_option maxHeartbeats 8000000 in
set_option maxRecDepth 100000 in
theorem line_num (k : Nat) (n : Int) (x : Nat) (w : World) (hk : k < 21) (hk1 : ¬ k = 1) (hk9 : ¬ k = 9) (hk10 : ¬ k = 10) (hh : ¬ rhi k = 0) (hn0 : 0 ≤ n) (hn1 : n ≤ 1023) : Calls Tryz.prog 33 #[.agg #[.int .i64 k, .int .i64 n, .float .f64 x]] w fun e w' => e = .returned (.string ⟨((shp k).word ++ 32 :: Lib.decDigits n.toNat).toArray⟩) ∧ Below w.heap.size w w' := by
  have a1 : ((k : Int) == 1) = false := by simp; omega
  have a2 : ((k : Int) == 9) = false := by simp; omega
  have a3 : ((k : Int) == 10) = false := by simp; omega
  have hwl := word_len k hk
  have hdl := dec_len hn1
  have z1 : ¬ 9223372036854775807 < (shp k).word.length + 1 := by omega
  have z2 : ¬ 9223372036854775807 < (shp k).word.length + 1 + (Lib.decDigits n.toNat).length := by omega
  have HD : Hid (∀ w : World, Calls Tryz.prog 47 #[.int .i64 n] w fun e w' => e = .returned (.string ⟨(Lib.decDigits n.toNat).toArray⟩) ∧ Below w.heap.size w w') := fun w => by
    have := digits_any 3 n.toNat (by omega) (by decide) w
    rw [show ((n.toNat : Nat) : Int) = n by omega] at this
    exact this
  have c0 := fun u b hb => (rows_cells k hk u b hb).1
  have c1 := fun u b hb => (rows_cells k hk u b hb).2.1
  have c2 := fun u b hb => (rows_cells k hk u b hb).2.2.1
  have c3 := fun u b hb => (rows_cells k hk u b hb).2.2.2.1
  have c4 := fun u b hb => (rows_cells k hk u b hb).2.2.2.2
  have hk3 : (k : Int) < 21 := by omega
  unfold strB at c0
  generalize (shp k).takes = t at *
  generalize (shp k).lays = l at *
  have ah : (rhi k != 0) = true := by simpa using hh
  generalize (shp k).word = wd at *
  generalize rlo k = lo at *
  generalize rhi k = hi at *
  generalize Lib.decDigits n.toNat = dl at *
  clear hh hk1 hk9 hk10 hwl hdl hn0 hn1
  go_enter Tryz.func33, Tryz.ntmps33
  go_wp2
  go_region_with (go_at_call 27; refine (rows_any _).mono ?_; rintro e w' ⟨rfl, hw⟩; subst w')
  clear c0 c1 c2 c3 c4
  all_goals go_wp2
  all_goals (go_region_with (go_at_call 47; refine (HD.out _).mono ?_; rintro e w' ⟨rfl, hb⟩; have hcl := fun p h => hb.cell (p := p) h; have HB : Hid (Below w.heap.size w w') := (by first | exact chain5 (by repeat (first | exact Below.refl _ _ | apply bl_alloc | apply bl_drewN | apply bl_drew)) hb); clear hb))
  all_goals go_wp2
  all_goals go_ret
  all_goals exact ⟨congrArg (fun s => Ending.returned (.string s)) (join3 wd dl), chain5 HB.out (by repeat (first | exact Below.refl _ _ | apply bl_alloc | apply bl_drewN | apply bl_drew))⟩
end Go.Proofs.YtlnobfmbnnfbdaaGreatDoor
namespace Go.Proofs.YtlnobfmbnnfbdaaGreatDoor
open Go.ChangeShapes Go.WideShapes Go.ChangeAt Go.RowKit Num
attribute [local go_sem] run_store_float

set_option maxHeartbeats 8000000 in
set_option maxRecDepth 100000 in
theorem line_push (n : Int) (x : Nat) (w : World) (hx : x < 18446744073709551616) : Calls Tryz.prog 33 #[.agg #[.int .i64 1, .int .i64 n, .float .f64 x]] w fun e w' => e = .returned (.string ⟨((shp 1).word ++ 32 :: printT x).toArray⟩) ∧ Below w.heap.size w w' := by
  obtain ⟨k, hk1⟩ : ∃ k : Nat, (k : Int) = 1 := ⟨1, rfl⟩
  have hk : k < 21 := by omega
  have a1 : ((k : Int) == 1) = true := by simpa using hk1
  rw [← hk1]
  have hwd : (shp 1).word = [112, 117, 115, 104] := by decide +kernel
  rw [hwd]
  have hpl := printT_length (b := x)
  have z1 : ¬ 9223372036854775807 < 5 + (printT x).length := by omega
  have HX := Lib.hid hx
  have c0 := fun u b hb => (rows_cells k hk u b hb).1
  have c1 := fun u b hb => (rows_cells k hk u b hb).2.1
  have c2 := fun u b hb => (rows_cells k hk u b hb).2.2.1
  have c3 := fun u b hb => (rows_cells k hk u b hb).2.2.2.1
  have c4 := fun u b hb => (rows_cells k hk u b hb).2.2.2.2
  have hk3 : (k : Int) < 21 := by omega
  unfold strB at c0
  generalize (shp k).takes = t at *
  generalize (shp k).lays = l at *
  generalize (shp k).word = wd at *
  generalize rlo k = lo at *
  generalize rhi k = hi at *
  have hj : (⟨#[112, 117, 115, 104, 32]⟩ : ByteArray) ++ ⟨(printT x).toArray⟩ = ⟨([112, 117, 115, 104] ++ 32 :: printT x).toArray⟩ := join2 [112, 117, 115, 104, 32] (printT x)
  have HJ := Lib.hid hj
  clear hk1 hwd hx hpl hj
  go_enter Tryz.func33, Tryz.ntmps33
  go_wp2
  go_region_with (go_at_call 27; refine (rows_any _).mono ?_; rintro e w' ⟨rfl, hw⟩; subst w')
  clear c0 c1 c2 c3 c4
  all_goals (go_wp2_with (go_at_call 44; refine (refPrint_any x _ HX.out).mono ?_; rintro e w' ⟨rfl, hw⟩; subst w'))
  all_goals go_ret
  all_goals exact ⟨congrArg (fun s => Ending.returned (.string s)) HJ.out, (by repeat (first | exact Below.refl _ _ | apply bl_alloc | apply bl_drewN | apply bl_drew))⟩
end Go.Proofs.YtlnobfmbnnfbdaaGreatDoor
namespace Go.Proofs.YtlnobfmbnnfbdaaGreatDoor
open Go.ChangeShapes Go.WideShapes Go.ChangeAt Go.RowKit Num
attribute [local go_sem] run_store_float

theorem ones_cells (k : Nat) (hk : k < 9) (u : World) (b : Nat) (hb : b = u.heap.size) : (u.alloc onesO).cell? ⟨b, k, none⟩ = some (strB (oneW k)) := by
  subst hb
  exact onesO_at u k hk
set_option maxHeartbeats 8000000 in
set_option maxRecDepth 100000 in
theorem line_one (j : Nat) (x : Nat) (w : World) (hj : j < 9) : Calls Tryz.prog 33 #[.agg #[.int .i64 9, .int .i64 j, .float .f64 x]] w fun e w' => e = .returned (.string ⟨(oneW j).toArray⟩) ∧ Below w.heap.size w w' := by
  obtain ⟨k, hk1⟩ : ∃ k : Nat, (k : Int) = 9 := ⟨9, rfl⟩
  have hk : k < 21 := by omega
  have a0 : ((k : Int) == 1) = false := by simp; omega
  have a1 : ((k : Int) == 9) = true := by simpa using hk1
  rw [← hk1]
  have hj' : (j : Int) < 9 := by omega
  have d0 := fun u b hb => ones_cells j hj u b hb
  have c0 := fun u b hb => (rows_cells k hk u b hb).1
  have c1 := fun u b hb => (rows_cells k hk u b hb).2.1
  have c2 := fun u b hb => (rows_cells k hk u b hb).2.2.1
  have c3 := fun u b hb => (rows_cells k hk u b hb).2.2.2.1
  have c4 := fun u b hb => (rows_cells k hk u b hb).2.2.2.2
  have hk3 : (k : Int) < 21 := by omega
  unfold strB at c0
  generalize (shp k).takes = t at *
  generalize (shp k).lays = l at *
  unfold strB at d0
  generalize oneW j = w1 at *
  generalize (shp k).word = wd at *
  generalize rlo k = lo at *
  generalize rhi k = hi at *
  clear hk1 hj
  go_enter Tryz.func33, Tryz.ntmps33
  go_wp2
  go_region_with (go_at_call 27; refine (rows_any _).mono ?_; rintro e w' ⟨rfl, hw⟩; subst w')
  clear c0 c1 c2 c3 c4
  all_goals (go_wp2_with (go_at_call 45; refine (ones_any _).mono ?_; rintro e w' ⟨rfl, hw⟩; subst w'))
  all_goals (try (go_region_with (go_at_call 45; refine (ones_any _).mono ?_; rintro e w' ⟨rfl, hw⟩; subst w')))
  all_goals (try go_wp2)
  all_goals go_ret
  all_goals exact ⟨rfl, (by repeat (first | exact Below.refl _ _ | apply bl_alloc | apply bl_drewN | apply bl_drew))⟩
end Go.Proofs.YtlnobfmbnnfbdaaGreatDoor
namespace Go.Proofs.YtlnobfmbnnfbdaaGreatDoor
open Go.ChangeShapes Go.WideShapes Go.ChangeAt Go.RowKit Num
attribute [local go_sem] run_store_float

theorem twos_cells (k : Nat) (hk : k < 13) (u : World) (b : Nat) (hb : b = u.heap.size) : (u.alloc twosO).cell? ⟨b, k, none⟩ = some (strB (twoW k)) := by
  subst hb
  exact twosO_at u k hk
set_option maxHeartbeats 8000000 in
set_option maxRecDepth 100000 in
theorem line_two (j : Nat) (x : Nat) (w : World) (hj : j < 13) : Calls Tryz.prog 33 #[.agg #[.int .i64 10, .int .i64 j, .float .f64 x]] w fun e w' => e = .returned (.string ⟨(twoW j).toArray⟩) ∧ Below w.heap.size w w' := by
  obtain ⟨k, hk1⟩ : ∃ k : Nat, (k : Int) = 10 := ⟨10, rfl⟩
  have hk : k < 21 := by omega
  have a0 : ((k : Int) == 1) = false := by simp; omega
  have a2 : ((k : Int) == 9) = false := by simp; omega
  have a1 : ((k : Int) == 10) = true := by simpa using hk1
  rw [← hk1]
  have hj' : (j : Int) < 13 := by omega
  have d0 := fun u b hb => twos_cells j hj u b hb
  have c0 := fun u b hb => (rows_cells k hk u b hb).1
  have c1 := fun u b hb => (rows_cells k hk u b hb).2.1
  have c2 := fun u b hb => (rows_cells k hk u b hb).2.2.1
  have c3 := fun u b hb => (rows_cells k hk u b hb).2.2.2.1
  have c4 := fun u b hb => (rows_cells k hk u b hb).2.2.2.2
  have hk3 : (k : Int) < 21 := by omega
  unfold strB at c0
  generalize (shp k).takes = t at *
  generalize (shp k).lays = l at *
  unfold strB at d0
  generalize twoW j = w1 at *
  generalize (shp k).word = wd at *
  generalize rlo k = lo at *
  generalize rhi k = hi at *
  clear hk1 hj
  go_enter Tryz.func33, Tryz.ntmps33
  go_wp2
  go_region_with (go_at_call 27; refine (rows_any _).mono ?_; rintro e w' ⟨rfl, hw⟩; subst w')
  clear c0 c1 c2 c3 c4
  all_goals (go_wp2_with (go_at_call 46; refine (twos_any _).mono ?_; rintro e w' ⟨rfl, hw⟩; subst w'))
  all_goals (try (go_region_with (go_at_call 46; refine (twos_any _).mono ?_; rintro e w' ⟨rfl, hw⟩; subst w')))
  all_goals (try go_wp2)
  all_goals go_ret
  all_goals exact ⟨rfl, (by repeat (first | exact Below.refl _ _ | apply bl_alloc | apply bl_drewN | apply bl_drew))⟩
end Go.Proofs.YtlnobfmbnnfbdaaGreatDoor
