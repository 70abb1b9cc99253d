import Derived.Test.YtpimfhkigbcniaaW6
namespace Go.Proofs.Ytpimfhkigbcniaa.Bo
open Go.ChangeShapes Go.WideShapes Go.ChangeAt Go.RowKit Go.Shelf Md En

def lv0 : Array Value := #[.int .i64 0, .int .i64 0, .int .i64 0, .int .i64 1, .slice none 0 0, .int .i64 0, .int .i64 0, .slice none 0 0, .slice none 0 0, .slice none 0 0, .int .i64 0, .int .i64 0, .int .i64 0, .int .i64 0, .int .i64 0, .int .i64 86, .int .i64 0, .int .i64 0, .int .i64 0]
def lv1 (t : Int) : Array Value := #[.int .i64 0, .int .i64 0, .int .i64 0, .int .i64 2, .slice none 0 0, .int .i64 0, .int .i64 0, .slice none 0 0, .slice none 0 0, .slice none 0 0, .int .i64 0, .int .i64 0, .int .i64 0, .int .i64 0, .int .i64 0, .int .i64 0, .int .i64 1, .int .i64 10, .int .i64 t]
abbrev lvC (t : Int) : Array Value := #[.int .i64 0, .int .i64 0, .int .i64 0, .int .i64 1, .slice none 0 0, .int .i64 0, .int .i64 0, .slice none 0 0, .slice none 0 0, .slice none 0 0, .int .i64 0, .int .i64 0, .int .i64 0, .int .i64 0, .int .i64 0, .int .i64 86, .int .i64 0, .int .i64 0, .int .i64 0, .int .i64 0, .int .i64 0, .int .i64 0, .int .i64 2, .slice none 0 0, .int .i64 0, .int .i64 0, .slice none 0 0, .slice none 0 0, .slice none 0 0, .int .i64 0, .int .i64 0, .int .i64 0, .int .i64 0, .int .i64 0, .int .i64 0, .int .i64 1, .int .i64 10, .int .i64 t]
def lvD (t : Int) : List Dn := [⟨1, 0, 86, 0, 0, 0⟩, ⟨2, 0, 0, 1, 10, t⟩]
theorem lv_cells (t : Int) : lvC t = lv0 ++ lv1 t := by simp [lv0, lv1]
theorem lv_get (t : Int) (k j : Nat) (hk : k < 2) (hj : j < 19) : (lvC t)[k * 19 + j]? = (if k = 0 then lv0 else lv1 t)[j]? := by
  rw [lv_cells]
  match k, hk with
  | 0, _ => rw [if_pos rfl, Nat.zero_mul, Nat.zero_add, Array.getElem?_append_left (by simpa [lv0] using hj)]
  | 1, _ => rw [if_neg (by decide), Array.getElem?_append_right (by simp [lv0])]; simp [lv0]
theorem lv_at (t : Int) (w : World) : DnL (w.alloc (.cells (lvC t) 38)).heap.size (w.alloc (.cells (lvC t) 38)) (.slice (some ⟨w.heap.size, 0, none⟩) 2 2) (lvD t) := by
  refine .inr ⟨w.heap.size, 0, 2, rfl, by simp, fun k d hk => ?_⟩
  have hlt : k < 2 := (List.getElem?_eq_some_iff.1 hk).1
  refine ⟨if k = 0 then lv0 else lv1 t, fun j hj => ?_, ?_⟩
  · rw [cell_of_row _ _ _ _ _ _ (heap_alloc_new w (.cells (lvC t) 38)), Nat.zero_add, lv_get t k j hlt hj]
  · match k, hlt with
    | 0, _ => obtain rfl : _ = d := Option.some.inj hk; exact ⟨rfl, by simp [lv0, Value.oneCell'], rfl, rfl, rfl, rfl, rfl, rfl⟩
    | 1, _ => obtain rfl : _ = d := Option.some.inj hk; exact ⟨rfl, by simp [lv1, Value.oneCell'], rfl, rfl, rfl, rfl, rfl, rfl⟩
theorem lv_late {t k : Int} (h1 : allD (cnL (lvD t)) = true) (h2 : fst0 (exF (rdN 20) (wrN 2 20 1) 0 (lvD t)) = k) (w : World) :
    Calls Try.prog 11 #[cfgV 1 2 20 1, .slice (some ⟨w.heap.size, 0, none⟩) 2 2] (w.alloc (.cells (lvC t) 38)) fun r w' => r = .returned (okV k) ∧ Below w.heap.size w w' := by
  refine (late_ok 1 2 20 1 _ 2 2 _ rfl (lvD t) (show 2 ≤ 9223372036854775807 by decide) (lv_at t w) h1).mono ?_
  rintro r w' ⟨rfl, hb⟩
  exact ⟨by rw [h2], below_chain ((Below.refl _ w).alloc (Nat.le_refl _) _) hb⟩
set_option maxRecDepth 100000 in
set_option maxHeartbeats 4000000 in
theorem live18_any (w : World) : Calls Try.prog 6 #[] w fun e w' => e = .returned (.bool true) ∧ Below w.heap.size w w' := by
  have HR := Lib.hid (fun W => reader_yes 1 2 20 1 W rfl)
  have HW := Lib.hid (fun W => writer_yes 1 2 20 1 W rfl)
  have HL1 := Lib.hid (fun W => lv_late (t := 248) (k := -1) rfl (by kernel_rfl) W)
  have HL2 := Lib.hid (fun W => lv_late (t := 249) (k := 1) rfl (by kernel_rfl) W)
  have hr : rdN 20 = 86 := rfl
  have hw : wrN 2 20 1 = 119 := rfl
  rw [hr] at HR
  rw [hw] at HW
  go_enter Try.func6, Try.ntmps6
  go_wp2_with (first
    | (go_at_call 7; refine (HR.out _).mono ?_; rintro r w1 ⟨rfl, hb⟩; have HB1 := Lib.hid hb; have HX1 := Lib.hid (bcells4 hb (heap_alloc_new w _)); obtain ⟨q0, q1, q2, q3, q4⟩ := cells4 HX1.out; clear hb)
    | (go_at_call 9; refine (HW.out _).mono ?_; rintro r w2 ⟨rfl, hb⟩; have HB2 := Lib.hid hb; have HX2 := Lib.hid (bcells4 hb HX1.out); obtain ⟨s0, s1, s2, s3, s4⟩ := cells4 HX2.out; clear hb q0 q1 q2 q3)
    | (go_at_call 11; refine (HL1.out _).mono ?_; rintro r w3 ⟨rfl, hb⟩; have HB3 := Lib.hid hb; have HX3 := Lib.hid (bcells4 hb HX2.out); obtain ⟨t0, t1, t2, t3, t4⟩ := cells4 HX3.out; clear hb s0 s1 s2 s3 HL1)
    | (go_at_call 11; refine (HL2.out _).mono ?_; rintro r w4 ⟨rfl, hb⟩; have HB4 := Lib.hid hb; clear hb))
  go_ret
  exact ⟨rfl, below_chain (below_chain (below_chain (below_chain ((Below.refl _ w).alloc (Nat.le_refl _) _) HB1.out) HB2.out) HB3.out) HB4.out⟩
end Go.Proofs.Ytpimfhkigbcniaa.Bo
