import Derived.Test.YteeemjidjckimaaS6
namespace Go.Proofs.Yteeemjidjckimaa
open Go.ChangeShapes Go.WideShapes Go.ChangeAt Go.RowKit

section
variable {W w : World} {bm br : Nat} {Fm Fr : List Nat} {p : Option Addr} {c : Nat} {ns ls : List ByteArray} {l : List Int} {r : Int}
set_option maxHeartbeats 2000000 in
set_option maxRecDepth 100000 in
theorem text_push (h : Txt W w bm Fm br Fr p c ns ls l r) (hl : Lab ns ls l) (m : List ByteArray) (hm : m.length ≤ 9223372036854775806) (A : Int) (V : ByteArray) (hns : ns = m ++ [V]) : Calls Try.prog 26 #[.pointer (some ⟨bm, 0, none⟩), .pointer (some ⟨br, 0, none⟩), .agg #[.int .i64 1, .int .i64 A, .string V], .slice p ns.length c] w fun e w' => e = .returned (.bool true) ∧ Told W w' bm br p c ns r := by
  have HP := Lib.hid (h.alloc (.cells #[.int .i64 1, .int .i64 A, .string V] 32))
  have HL := Lib.hid hl
  have HX := Lib.hid (heap_alloc_new w (.cells #[.int .i64 1, .int .i64 A, .string V] 32))
  have HBL := Lib.hid h.play.m.blw
  obtain ⟨x, hx⟩ : ∃ x, pushE l r = x := ⟨_, rfl⟩
  have HE := Lib.hid hx
  have HE2 : Hid (pushE ls r = x) := by
    show pushE ls r = x
    rw [← hx]
    unfold pushE
    rw [hl.len]
  have hn : ns.length = m.length + 1 := by rw [hns]; simp
  rw [hn]
  have e1 : ((m.length + 1 : Nat) : Int) - 1 = (m.length : Int) := by omega
  have HNS := Lib.hid hns
  clear hx hns hn
  clear h hl
  go_enter Try.func26, Try.ntmps26
  go_wp2_with (first
    | (go_at_call 25; refine (sPush_any HP.out.play.m V).mono ?_; rw [HE2.out]; rintro e w1 ⟨F1, rfl, hm, hc⟩; have HP1 := Lib.hid (HP.out.onM hm hc); have hx := (hc.new HBL.out).trans HX.out; obtain ⟨q0, q1, q2, q3⟩ := cells3 hx; clear hm hc hx)
    | (go_at_call 33; refine (rPush_any HP1.out.play.r m.length).mono ?_; rw [HE.out]; rintro e w2 ⟨F2, rfl, hm, hc⟩; have HP2 := Lib.hid (HP1.out.onR hm hc); clear hm hc))
  go_ret
  refine ⟨by simp, Told.mk HP2.out ?_⟩
  have := HL.out
  rw [HNS.out] at this ⊢
  exact this.push r
set_option maxHeartbeats 2000000 in
set_option maxRecDepth 100000 in
theorem text_pop (h : Txt W w bm Fm br Fr p c ns ls l r) (hl : Lab ns ls l) (h0 : ns[0]? = some ⟨#[]⟩) (A : Int) (V : ByteArray) : Calls Try.prog 26 #[.pointer (some ⟨bm, 0, none⟩), .pointer (some ⟨br, 0, none⟩), .agg #[.int .i64 2, .int .i64 A, .string V], .slice p ns.length c] w fun e w' => e = .returned (.bool true) ∧ Told W w' bm br p c ns r := by
  have HP := Lib.hid (h.alloc (.cells #[.int .i64 2, .int .i64 A, .string V] 32))
  have HL := Lib.hid hl
  have HX := Lib.hid (heap_alloc_new w (.cells #[.int .i64 2, .int .i64 A, .string V] 32))
  have HBL := Lib.hid h.play.m.blw
  obtain ⟨k, hk, hv, hx, he⟩ := hl.pick h0 0
  obtain ⟨y, hy⟩ : ∃ y, pickE l 0 = y := ⟨_, rfl⟩
  rw [hy] at he
  have HE := Lib.hid hy
  have HE2 := Lib.hid he
  have HV := Lib.hid hv
  have HV2 := Lib.hid hx
  have hk' : (k : Int) < (ns.length : Int) := by omega
  have HK := Lib.hid hk
  clear hy he hv hx hk h0
  clear h hl
  go_enter Try.func26, Try.ntmps26
  go_wp2_with (first
    | (go_at_call 24; refine (sPop_any HP.out.play.m).mono ?_; rw [HV2.out, HE2.out]; rintro e w1 ⟨F1, rfl, hm, hc⟩; have HP1 := Lib.hid (HP.out.onM hm hc); have hx := (hc.new HBL.out).trans HX.out; obtain ⟨q0, q1, q2, q3⟩ := cells3 hx; clear hm hc hx)
    | (go_at_call 34; refine (rPop_any HP1.out.play.r).mono ?_; rw [HV.out, HE.out]; rintro e w2 ⟨F2, rfl, hm, hc⟩; have HP2 := Lib.hid (HP1.out.onR hm hc); obtain ⟨gn, on, hpn, gn1, hcn⟩ := HP2.out.row.strs k HK.out; subst hpn; generalize ns.getD k ⟨#[]⟩ = yy at hcn ⊢; clear hm hc))
  go_ret
  exact ⟨by simp, Told.mk HP2.out HL.out.pop⟩
set_option maxHeartbeats 2000000 in
set_option maxRecDepth 100000 in
theorem text_pick (h : Txt W w bm Fm br Fr p c ns ls l r) (hl : Lab ns ls l) (h0 : ns[0]? = some ⟨#[]⟩) (A : Int) (V : ByteArray) : Calls Try.prog 26 #[.pointer (some ⟨bm, 0, none⟩), .pointer (some ⟨br, 0, none⟩), .agg #[.int .i64 3, .int .i64 A, .string V], .slice p ns.length c] w fun e w' => e = .returned (.bool true) ∧ Told W w' bm br p c ns r := by
  have HP := Lib.hid (h.alloc (.cells #[.int .i64 3, .int .i64 A, .string V] 32))
  have HL := Lib.hid hl
  have HX := Lib.hid (heap_alloc_new w (.cells #[.int .i64 3, .int .i64 A, .string V] 32))
  have HBL := Lib.hid h.play.m.blw
  obtain ⟨k, hk, hv, hx, he⟩ := hl.pick h0 A
  obtain ⟨y, hy⟩ : ∃ y, pickE l A = y := ⟨_, rfl⟩
  rw [hy] at he
  have HE := Lib.hid hy
  have HE2 := Lib.hid he
  have HV := Lib.hid hv
  have HV2 := Lib.hid hx
  have hk' : (k : Int) < (ns.length : Int) := by omega
  have HK := Lib.hid hk
  clear hy he hv hx hk h0
  clear h hl
  go_enter Try.func26, Try.ntmps26
  go_wp2_with (first
    | (go_at_call 38; refine (sPick_any HP.out.play.m A).mono ?_; rw [HV2.out, HE2.out]; rintro e w1 ⟨rfl, hw⟩; have HP1 := Lib.hid (HP.out.same hw); have hx := ((hw.turn Fm).new HBL.out).trans HX.out; obtain ⟨q0, q1, q2, q3⟩ := cells3 hx; clear hw hx)
    | (go_at_call 35; refine (rPick_any HP1.out.play.r A).mono ?_; rw [HV.out, HE.out]; rintro e w2 ⟨rfl, hw⟩; have HP2 := Lib.hid (HP1.out.same hw); obtain ⟨gn, on, hpn, gn1, hcn⟩ := HP2.out.row.strs k HK.out; subst hpn; generalize ns.getD k ⟨#[]⟩ = yy at hcn ⊢; clear hw))
  go_ret
  exact ⟨by simp, Told.mk HP2.out HL.out⟩
set_option maxHeartbeats 2000000 in
set_option maxRecDepth 100000 in
theorem text_all (h : Txt W w bm Fm br Fr p c ns ls l r) (hl : Lab ns ls l) (A : Int) (V : ByteArray) : Calls Try.prog 26 #[.pointer (some ⟨bm, 0, none⟩), .pointer (some ⟨br, 0, none⟩), .agg #[.int .i64 4, .int .i64 A, .string V], .slice p ns.length c] w fun e w' => e = .returned (.bool true) ∧ Told W w' bm br p c ns r := by
  have HP := Lib.hid (h.alloc (.cells #[.int .i64 4, .int .i64 A, .string V] 32))
  have HL := Lib.hid hl
  have HN : Hid (l.length ≤ 9223372036854775807) := by
    have := h.play.r.fits
    rw [i64s_len] at this
    show l.length ≤ 9223372036854775807
    omega
  have HLN := Lib.hid (fun w F (h : Stk 55 9 w bm F (strs ls) r) => sLen_any h)
  have HAL := Lib.hid (fun w F (h : Stk 55 9 w bm F (strs ls) r) => sAll_any h)
  have HST : Hid (∀ (w : World) p c, RowAt 9 w p c (strs ls) → StrsAt w p l.length (fun i => ls.getD i ⟨#[]⟩)) := fun w p c h => by
    have := h.strs
    rw [hl.len] at this
    exact this
  rw [hl.len] at HLN HAL
  clear h hl
  go_enter Try.func26, Try.ntmps26
  go_wp2_with (first
    | (go_at_call 17; refine (rAll_any HP.out.play.r).mono ?_; rintro e w1 ⟨p1, c1, rfl, hr, _, hb⟩; have HR1 := Lib.hid hr.ints; have HP1 := Lib.hid (HP.out.on hb); clear hr hb)
    | (go_at_call 27; refine (HLN.out _ _ HP1.out.play.m).mono ?_; rintro e w2 ⟨rfl, hw⟩; subst w2)
    | (go_at_call 19; refine (rLen_any HP1.out.play.r).mono ?_; rintro e w2 ⟨rfl, hw⟩; subst w2)
    | (go_at_call 10; refine (sRoom_any HP1.out.play.m).mono ?_; rintro e w2 ⟨rfl, hw⟩; subst w2)
    | (go_at_call 20; refine (rRoom_any HP1.out.play.r).mono ?_; rintro e w2 ⟨rfl, hw⟩; subst w2)
    | (go_at_call 29; refine (HAL.out _ _ HP1.out.play.m).mono ?_; rintro e w2 ⟨rfl, hr, hb⟩; have HR2 := Lib.hid (HST.out _ _ _ hr); have HR3 := Lib.hid (HR1.out.on hb); have HP2 := Lib.hid (HP1.out.on hb); clear hr hb HR1)
    | (go_at_call 28; refine (named_any _ _ _ HN.out HR2.out HR3.out HP2.out.row.strs (fun i hi => HL.out.each i hi)).mono ?_; rintro e w3 ⟨rfl, hw⟩; have HP3 := Lib.hid (HP2.out.same hw); clear hw))
  go_ret
  exact ⟨by simp, Told.mk HP3.out HL.out⟩
set_option maxHeartbeats 2000000 in
set_option maxRecDepth 100000 in
theorem text_clear (h : Txt W w bm Fm br Fr p c ns ls l r) (hl : Lab ns ls l) (A : Int) (V : ByteArray) : Calls Try.prog 26 #[.pointer (some ⟨bm, 0, none⟩), .pointer (some ⟨br, 0, none⟩), .agg #[.int .i64 5, .int .i64 A, .string V], .slice p ns.length c] w fun e w' => e = .returned (.bool true) ∧ Told W w' bm br p c ns r := by
  have HP := Lib.hid (h.alloc (.cells #[.int .i64 5, .int .i64 A, .string V] 32))
  have HL := Lib.hid hl
  have HX := Lib.hid (heap_alloc_new w (.cells #[.int .i64 5, .int .i64 A, .string V] 32))
  have HBL := Lib.hid h.play.m.blw
  clear h hl
  go_enter Try.func26, Try.ntmps26
  go_wp2_with (first
    | (go_at_call 39; refine (sClear_any HP.out.play.m).mono ?_; rintro e w1 ⟨F1, rfl, hm, hc⟩; have HP1 := Lib.hid (HP.out.onM hm hc); have hx := (hc.new HBL.out).trans HX.out; obtain ⟨q0, q1, q2, q3⟩ := cells3 hx; clear hm hc hx)
    | (go_at_call 37; refine (rClear_any HP1.out.play.r).mono ?_; rintro e w2 ⟨F2, rfl, hm, hc⟩; have HP2 := Lib.hid (HP1.out.onR hm hc); clear hm hc))
  go_ret
  exact ⟨by simp, Told.mk HP2.out (Lab.nil _)⟩
set_option maxHeartbeats 2000000 in
set_option maxRecDepth 100000 in
theorem text_other (h : Txt W w bm Fm br Fr p c ns ls l r) (hl : Lab ns ls l) (K : Int) (h1 : K ≠ 1) (h2 : K ≠ 2) (h3 : K ≠ 3) (h4 : K ≠ 4) (h5 : K ≠ 5) (A : Int) (V : ByteArray) : Calls Try.prog 26 #[.pointer (some ⟨bm, 0, none⟩), .pointer (some ⟨br, 0, none⟩), .agg #[.int .i64 K, .int .i64 A, .string V], .slice p ns.length c] w fun e w' => e = .returned (.bool true) ∧ Told W w' bm br p c ns r := by
  have HP := Lib.hid (h.alloc (.cells #[.int .i64 K, .int .i64 A, .string V] 32))
  have HL := Lib.hid hl
  clear h hl
  go_enter Try.func26, Try.ntmps26
  go_wp2
  go_ret
  exact ⟨rfl, Told.mk HP.out HL.out⟩
theorem text_any {m : List ByteArray} (h : Told W w bm br p c ns r) (K A : Int) (V : ByteArray) (hns : ns = m ++ [V]) (hm : m.length ≤ 9223372036854775806) (h0 : ns[0]? = some ⟨#[]⟩) : Calls Try.prog 26 #[.pointer (some ⟨bm, 0, none⟩), .pointer (some ⟨br, 0, none⟩), .agg #[.int .i64 K, .int .i64 A, .string V], .slice p ns.length c] w fun e w' => e = .returned (.bool true) ∧ Told W w' bm br p c ns r := by
  obtain ⟨Fm, Fr, ls, l, h, hl⟩ := h
  by_cases h1 : K = 1
  · subst h1; exact text_push h hl m hm A V hns
  by_cases h2 : K = 2
  · subst h2; exact text_pop h hl h0 A V
  by_cases h3 : K = 3
  · subst h3; exact text_pick h hl h0 A V
  by_cases h4 : K = 4
  · subst h4; exact text_all h hl A V
  by_cases h5 : K = 5
  · subst h5; exact text_clear h hl A V
  exact text_other h hl K h1 h2 h3 h4 h5 A V
end
end Go.Proofs.Yteeemjidjckimaa
