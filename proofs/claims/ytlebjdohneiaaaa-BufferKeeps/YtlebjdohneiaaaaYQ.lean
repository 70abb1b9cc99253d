import Derived.Test.YtlebjdohneiaaaaYP
namespace Go.Proofs.Ytlebjdohneiaaaa
open Go.ChangeShapes Go.WideShapes Go.ChangeAt Go.RowKit Num Go.Maps
attribute [local go_sem] run_store_float frombits_run bits_run

section
variable {W w : World} {bm br : Nat} {Fm Fr : List Nat} {m : Int} {l : Wr}
set_option maxHeartbeats 2000000 in
set_option maxRecDepth 100000 in
theorem step_get (h : Play W w bm Fm br Fr m l l) {C : Int} (hC : (Lit.int .i64 C).wf = true) (X : Nat) : Calls Try.prog 13 #[.pointer (some ⟨bm, 0, none⟩), .pointer (some ⟨br, 0, none⟩), .agg #[.int .i64 2, .int .i64 C, .int .u64 X]] w fun e w' => e = .returned (.bool true) ∧ Goes W w' bm br m := by
  have HP := Lib.hid (h.alloc (.cells #[.int .i64 2, .int .i64 C, .int .u64 X] 34))
  have HG := Lib.hid (get_any HP.out.m hC)
  have HR := Lib.hid (refGet_any HP.out.r C)
  generalize getC l C = x at HG HR
  generalize hasC l C = y at HG HR
  clear h hC
  go_enter Try.func13, Try.ntmps13
  go_wp2_with (first
    | (go_at_call 20; refine HG.out.mono ?_; rintro e w1 ⟨rfl, hw⟩; subst w1)
    | (go_at_call 26; refine HR.out.mono ?_; rintro e w2 ⟨rfl, hw⟩; subst w2))
  go_ret
  exact ⟨by simp, Goes.mk HP.out⟩
set_option maxHeartbeats 2000000 in
set_option maxRecDepth 100000 in
theorem step_all (h : Play W w bm Fm br Fr m l l) (C : Int) (X : Nat) : Calls Try.prog 13 #[.pointer (some ⟨bm, 0, none⟩), .pointer (some ⟨br, 0, none⟩), .agg #[.int .i64 3, .int .i64 C, .int .u64 X]] w fun e w' => e = .returned (.bool true) ∧ Goes W w' bm br m := by
  have HP := Lib.hid (h.alloc (.cells #[.int .i64 3, .int .i64 C, .int .u64 X] 34))
  have HL : Hid (l.length ≤ 9223372036854775807) := by have := h.m.few; show l.length ≤ 9223372036854775807; omega
  clear h
  go_enter Try.func13, Try.ntmps13
  go_wp2_with (first
    | (go_at_call 14; refine (refAll_any HP.out.r).mono ?_; rintro e w1 ⟨p, c, rfl, hr, _, hb⟩; have HR1 := Lib.hid hr; have HP1 := Lib.hid (HP.out.on hb); clear hr hb)
    | (go_at_call 8; refine (len_any HP1.out.m).mono ?_; rintro e w2 ⟨rfl, hw⟩; subst w2)
    | (go_at_call 15; refine (refLen_any HP1.out.r).mono ?_; rintro e w2 ⟨rfl, hw⟩; subst w2)
    | (go_at_call 17; refine (all_any HP1.out.m).mono ?_; rintro e w2 ⟨rfl, hr, hb⟩; have HR2 := Lib.hid hr; have HR3 := Lib.hid (HR1.out.on hb); have HP2 := Lib.hid (HP1.out.on hb); clear hr hb HR1)
    | (go_at_call 16; refine (exact_same rfl HL.out HR2.out HR3.out).mono ?_; rintro e w3 ⟨rfl, hw⟩; have HP3 := Lib.hid (HP2.out.same hw); clear hw))
  go_ret
  exact ⟨by simp, Goes.mk HP3.out⟩
set_option maxHeartbeats 2000000 in
set_option maxRecDepth 100000 in
theorem step_clear (h : Play W w bm Fm br Fr m l l) (C : Int) (X : Nat) : Calls Try.prog 13 #[.pointer (some ⟨bm, 0, none⟩), .pointer (some ⟨br, 0, none⟩), .agg #[.int .i64 4, .int .i64 C, .int .u64 X]] w fun e w' => e = .returned (.bool true) ∧ Goes W w' bm br m := by
  have HP := Lib.hid (h.alloc (.cells #[.int .i64 4, .int .i64 C, .int .u64 X] 34))
  clear h
  go_enter Try.func13, Try.ntmps13
  go_wp2_with (first
    | (go_at_call 25; refine (clear_any HP.out.m).mono ?_; rintro e w1 ⟨F1, rfl, hc, ht⟩; have HP1 := Lib.hid (HP.out.onM hc ht); clear hc ht)
    | (go_at_call 27; refine (refClear_any HP1.out.r).mono ?_; rintro e w2 ⟨F2, rfl, hc, ht⟩; have HP2 := Lib.hid (HP1.out.onR hc ht); clear hc ht))
  go_ret
  exact ⟨rfl, Goes.mk HP2.out⟩
set_option maxHeartbeats 2000000 in
set_option maxRecDepth 100000 in
theorem step_other (h : Play W w bm Fm br Fr m l l) (K : Int) (h1 : K ≠ 1) (h2 : K ≠ 2) (h3 : K ≠ 3) (h4 : K ≠ 4) (C : Int) (X : Nat) : Calls Try.prog 13 #[.pointer (some ⟨bm, 0, none⟩), .pointer (some ⟨br, 0, none⟩), .agg #[.int .i64 K, .int .i64 C, .int .u64 X]] w fun e w' => e = .returned (.bool true) ∧ Goes W w' bm br m := by
  have HP := Lib.hid (h.alloc (.cells #[.int .i64 K, .int .i64 C, .int .u64 X] 34))
  clear h
  go_enter Try.func13, Try.ntmps13
  go_wp2
  go_ret
  exact ⟨rfl, Goes.mk HP.out⟩
theorem step_any (h : Goes W w bm br m) (K : Int) {C : Int} (hC : (Lit.int .i64 C).wf = true) (X : Nat) : Calls Try.prog 13 #[.pointer (some ⟨bm, 0, none⟩), .pointer (some ⟨br, 0, none⟩), .agg #[.int .i64 K, .int .i64 C, .int .u64 X]] w fun e w' => e = .returned (.bool true) ∧ Goes W w' bm br m := by
  obtain ⟨Fm, Fr, l, hp⟩ := h
  by_cases h1 : K = 1
  · subst h1; exact step_put hp hC X
  by_cases h2 : K = 2
  · subst h2; exact step_get hp hC X
  by_cases h3 : K = 3
  · subst h3; exact step_all hp C X
  by_cases h4 : K = 4
  · subst h4; exact step_clear hp C X
  exact step_other hp K h1 h2 h3 h4 C X
theorem goes_new {W w1 w2 w3 : World} {b br : Nat} {F G : List Nat} {m : Int} {l : Wr} (hb : Below W.heap.size W w1) (hm : Buf w2 b F m l) (ha : Abv w1.heap.size F) (hb2 : Below w1.heap.size w1 w2) (hr : Ref w3 br G m l) (ha3 : Abv w2.heap.size G) (hb3 : Below w2.heap.size w2 w3) : Goes W w3 b br m :=
  Goes.mk ⟨hm.on hb3, hr, below_chain (below_chain hb hb2) hb3, ha.mono hb.size, ha3.mono (Nat.le_trans hb.size hb2.size), (ha3.sep hm.blw).symm⟩
end
end Go.Proofs.Ytlebjdohneiaaaa
