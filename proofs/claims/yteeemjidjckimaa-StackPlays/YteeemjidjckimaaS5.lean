import Derived.Test.YteeemjidjckimaaS4
namespace Go.Proofs.Yteeemjidjckimaa
open Go.ChangeShapes Go.WideShapes Go.ChangeAt Go.RowKit

section
variable {W w : World} {bm br b : Nat} {Fm Fr F : List Nat} {l : List Int} {r : Int}
set_option maxHeartbeats 2000000 in
set_option maxRecDepth 100000 in
theorem step_push (h : Play 57 3 W w bm Fm br Fr (i64s l) l r) (A : Int) (V : ByteArray) : Calls Try.prog 16 #[.pointer (some ⟨bm, 0, none⟩), .pointer (some ⟨br, 0, none⟩), .agg #[.int .i64 1, .int .i64 A, .string V]] w fun e w' => e = .returned (.bool true) ∧ Goes W w' bm br r := by
  have HP := Lib.hid (h.alloc (.cells #[.int .i64 1, .int .i64 A, .string V] 32))
  have HX := Lib.hid (heap_alloc_new w (.cells #[.int .i64 1, .int .i64 A, .string V] 32))
  have HBL := Lib.hid h.m.blw
  obtain ⟨x, hx⟩ : ∃ x, pushE l r = x := ⟨_, rfl⟩
  have HE := Lib.hid hx
  clear hx
  clear h
  go_enter Try.func16, Try.ntmps16
  go_wp2_with (first
    | (go_at_call 30; refine (iPush_any HP.out.m A).mono ?_; rw [HE.out]; rintro e w1 ⟨F1, rfl, hm, hc⟩; have HP1 := Lib.hid (HP.out.onM hm hc); have hx := (hc.new HBL.out).trans HX.out; obtain ⟨q0, q1, q2, q3⟩ := cells3 hx; clear hm hc hx)
    | (go_at_call 33; refine (rPush_any HP1.out.r A).mono ?_; rw [HE.out]; rintro e w2 ⟨F2, rfl, hm, hc⟩; have HP2 := Lib.hid (HP1.out.onR hm hc); clear hm hc))
  go_ret
  exact ⟨by simp, Goes.mk HP2.out⟩
set_option maxHeartbeats 2000000 in
set_option maxRecDepth 100000 in
theorem step_pop (h : Play 57 3 W w bm Fm br Fr (i64s l) l r) (A : Int) (V : ByteArray) : Calls Try.prog 16 #[.pointer (some ⟨bm, 0, none⟩), .pointer (some ⟨br, 0, none⟩), .agg #[.int .i64 2, .int .i64 A, .string V]] w fun e w' => e = .returned (.bool true) ∧ Goes W w' bm br r := by
  have HP := Lib.hid (h.alloc (.cells #[.int .i64 2, .int .i64 A, .string V] 32))
  have HX := Lib.hid (heap_alloc_new w (.cells #[.int .i64 2, .int .i64 A, .string V] 32))
  have HBL := Lib.hid h.m.blw
  obtain ⟨x, hx⟩ : ∃ x, pickV 0 l 0 = x := ⟨_, rfl⟩
  obtain ⟨y, hy⟩ : ∃ y, pickE l 0 = y := ⟨_, rfl⟩
  have HV := Lib.hid hx
  have HE := Lib.hid hy
  clear hx hy
  clear h
  go_enter Try.func16, Try.ntmps16
  go_wp2_with (first
    | (go_at_call 32; refine (iPop_any HP.out.m).mono ?_; rw [HV.out, HE.out]; rintro e w1 ⟨F1, rfl, hm, hc⟩; have HP1 := Lib.hid (HP.out.onM hm hc); have hx := (hc.new HBL.out).trans HX.out; obtain ⟨q0, q1, q2, q3⟩ := cells3 hx; clear hm hc hx)
    | (go_at_call 34; refine (rPop_any HP1.out.r).mono ?_; rw [HV.out, HE.out]; rintro e w2 ⟨F2, rfl, hm, hc⟩; have HP2 := Lib.hid (HP1.out.onR hm hc); clear hm hc))
  go_ret
  exact ⟨by simp, Goes.mk HP2.out⟩
set_option maxHeartbeats 2000000 in
set_option maxRecDepth 100000 in
theorem step_pick (h : Play 57 3 W w bm Fm br Fr (i64s l) l r) (A : Int) (V : ByteArray) : Calls Try.prog 16 #[.pointer (some ⟨bm, 0, none⟩), .pointer (some ⟨br, 0, none⟩), .agg #[.int .i64 3, .int .i64 A, .string V]] w fun e w' => e = .returned (.bool true) ∧ Goes W w' bm br r := by
  have HP := Lib.hid (h.alloc (.cells #[.int .i64 3, .int .i64 A, .string V] 32))
  have HX := Lib.hid (heap_alloc_new w (.cells #[.int .i64 3, .int .i64 A, .string V] 32))
  have HBL := Lib.hid h.m.blw
  obtain ⟨x, hx⟩ : ∃ x, pickV 0 l A = x := ⟨_, rfl⟩
  obtain ⟨y, hy⟩ : ∃ y, pickE l A = y := ⟨_, rfl⟩
  have HV := Lib.hid hx
  have HE := Lib.hid hy
  clear hx hy
  clear h
  go_enter Try.func16, Try.ntmps16
  go_wp2_with (first
    | (go_at_call 31; refine (iPick_any HP.out.m A).mono ?_; rw [HV.out, HE.out]; rintro e w1 ⟨rfl, hw⟩; have HP1 := Lib.hid (HP.out.same hw); have hx := ((hw.turn Fm).new HBL.out).trans HX.out; obtain ⟨q0, q1, q2, q3⟩ := cells3 hx; clear hw hx)
    | (go_at_call 35; refine (rPick_any HP1.out.r A).mono ?_; rw [HV.out, HE.out]; rintro e w2 ⟨rfl, hw⟩; have HP2 := Lib.hid (HP1.out.same hw); clear hw))
  go_ret
  exact ⟨by simp, Goes.mk HP2.out⟩
set_option maxHeartbeats 2000000 in
set_option maxRecDepth 100000 in
theorem step_all (h : Play 57 3 W w bm Fm br Fr (i64s l) l r) (A : Int) (V : ByteArray) : Calls Try.prog 16 #[.pointer (some ⟨bm, 0, none⟩), .pointer (some ⟨br, 0, none⟩), .agg #[.int .i64 4, .int .i64 A, .string V]] w fun e w' => e = .returned (.bool true) ∧ Goes W w' bm br r := by
  have HP := Lib.hid (h.alloc (.cells #[.int .i64 4, .int .i64 A, .string V] 32))
  have HL : Hid (l.length ≤ 9223372036854775807) := by
    have := h.m.fits
    rw [i64s_len] at this
    show l.length ≤ 9223372036854775807
    omega
  clear h
  go_enter Try.func16, Try.ntmps16
  go_wp2_with (first
    | (go_at_call 17; refine (rAll_any HP.out.r).mono ?_; rintro e w1 ⟨p, c, rfl, hr, _, hb⟩; have HR1 := Lib.hid hr.ints; have HP1 := Lib.hid (HP.out.on hb); clear hr hb)
    | (go_at_call 18; refine (iLen_any HP1.out.m).mono ?_; rintro e w2 ⟨rfl, hw⟩; subst w2)
    | (go_at_call 19; refine (rLen_any HP1.out.r).mono ?_; rintro e w2 ⟨rfl, hw⟩; subst w2)
    | (go_at_call 11; refine (iRoom_any HP1.out.m).mono ?_; rintro e w2 ⟨rfl, hw⟩; subst w2)
    | (go_at_call 20; refine (rRoom_any HP1.out.r).mono ?_; rintro e w2 ⟨rfl, hw⟩; subst w2)
    | (go_at_call 22; refine (iAll_any HP1.out.m).mono ?_; rintro e w2 ⟨rfl, hr, hb⟩; have HR2 := Lib.hid hr.ints; have HR3 := Lib.hid (HR1.out.on hb); have HP2 := Lib.hid (HP1.out.on hb); clear hr hb HR1)
    | (go_at_call 21; refine (same_any _ _ HL.out HR2.out HR3.out).mono ?_; rintro e w3 ⟨rfl, hw⟩; have HP3 := Lib.hid (HP2.out.same hw); clear hw))
  go_ret
  exact ⟨by simp, Goes.mk HP3.out⟩
set_option maxHeartbeats 2000000 in
set_option maxRecDepth 100000 in
theorem step_clear (h : Play 57 3 W w bm Fm br Fr (i64s l) l r) (A : Int) (V : ByteArray) : Calls Try.prog 16 #[.pointer (some ⟨bm, 0, none⟩), .pointer (some ⟨br, 0, none⟩), .agg #[.int .i64 5, .int .i64 A, .string V]] w fun e w' => e = .returned (.bool true) ∧ Goes W w' bm br r := by
  have HP := Lib.hid (h.alloc (.cells #[.int .i64 5, .int .i64 A, .string V] 32))
  have HX := Lib.hid (heap_alloc_new w (.cells #[.int .i64 5, .int .i64 A, .string V] 32))
  have HBL := Lib.hid h.m.blw
  clear h
  go_enter Try.func16, Try.ntmps16
  go_wp2_with (first
    | (go_at_call 36; refine (iClear_any HP.out.m).mono ?_; rintro e w1 ⟨F1, rfl, hm, hc⟩; have HP1 := Lib.hid (HP.out.onM hm hc); have hx := (hc.new HBL.out).trans HX.out; obtain ⟨q0, q1, q2, q3⟩ := cells3 hx; clear hm hc hx)
    | (go_at_call 37; refine (rClear_any HP1.out.r).mono ?_; rintro e w2 ⟨F2, rfl, hm, hc⟩; have HP2 := Lib.hid (HP1.out.onR hm hc); clear hm hc))
  go_ret
  exact ⟨by simp, Goes.mk (l := []) HP2.out⟩
set_option maxHeartbeats 2000000 in
set_option maxRecDepth 100000 in
theorem step_other (h : Play 57 3 W w bm Fm br Fr (i64s l) l r) (K : Int) (h1 : K ≠ 1) (h2 : K ≠ 2) (h3 : K ≠ 3) (h4 : K ≠ 4) (h5 : K ≠ 5) (A : Int) (V : ByteArray) : Calls Try.prog 16 #[.pointer (some ⟨bm, 0, none⟩), .pointer (some ⟨br, 0, none⟩), .agg #[.int .i64 K, .int .i64 A, .string V]] w fun e w' => e = .returned (.bool true) ∧ Goes W w' bm br r := by
  have HP := Lib.hid (h.alloc (.cells #[.int .i64 K, .int .i64 A, .string V] 32))
  clear h
  go_enter Try.func16, Try.ntmps16
  go_wp2
  go_ret
  exact ⟨rfl, Goes.mk HP.out⟩
theorem step_any (h : Goes W w bm br r) (K A : Int) (V : ByteArray) : Calls Try.prog 16 #[.pointer (some ⟨bm, 0, none⟩), .pointer (some ⟨br, 0, none⟩), .agg #[.int .i64 K, .int .i64 A, .string V]] w fun e w' => e = .returned (.bool true) ∧ Goes W w' bm br r := by
  obtain ⟨Fm, Fr, l, h⟩ := h
  by_cases h1 : K = 1
  · subst h1; exact step_push h A V
  by_cases h2 : K = 2
  · subst h2; exact step_pop h A V
  by_cases h3 : K = 3
  · subst h3; exact step_pick h A V
  by_cases h4 : K = 4
  · subst h4; exact step_all h A V
  by_cases h5 : K = 5
  · subst h5; exact step_clear h A V
  exact step_other h K h1 h2 h3 h4 h5 A V
end
end Go.Proofs.Yteeemjidjckimaa
