import Derived.Test.YtahcppoeooadhaaXP
namespace Go.Proofs.Ytahcppoeooadhaa
open Go.ChangeShapes Go.WideShapes Go.ChangeAt Go.RowKit Num
attribute [local go_sem] run_store_float frombits_run bits_run

section
variable {W w : World} {bm br : Nat} {Fm Fr : List Nat} {l : List Nat}
set_option maxHeartbeats 2000000 in
set_option maxRecDepth 100000 in
theorem step_apply (h : Play W w bm Fm br Fr l) (C : Int) (X : Nat) {p : Option Addr} {cap : Nat} {ts : List (Int × Nat)} (hp : PutsAt W p ts) (hz : ts.length * 16 ≤ reachBytes) : Calls Try.prog 27 #[.pointer (some ⟨bm, 0, none⟩), .pointer (some ⟨br, 0, none⟩), .agg #[.int .i64 3, .int .i64 C, .int .u64 X, .slice p ts.length cap]] w fun e w' => e = .returned (.bool true) ∧ Goes W w' bm br := by
  have HP := Lib.hid (h.alloc (.cells #[.int .i64 3, .int .i64 C, .int .u64 X, .slice p ts.length cap] 59))
  have HX := Lib.hid (heap_alloc_new w (.cells #[.int .i64 3, .int .i64 C, .int .u64 X, .slice p ts.length cap] 59))
  have HBL := Lib.hid h.m.blw
  have HT : Hid (∀ w1, Below W.heap.size W w1 → Calls Try.prog 39 #[.slice p ts.length cap] w1 fun e w' => ∃ q c, e = .returned (.slice q ts.length c) ∧ TchAt w' q ts ∧ Abv w1.heap.size (fpR q) ∧ Below w1.heap.size w1 w') := fun w1 k => touches_any (hp.on k) hz
  have hm : ts.length ≤ 9223372036854775807 := by unfold reachBytes at hz; omega
  have HA : Hid (∀ w1 q c, Cel 54 w1 bm Fm l → TchAt w1 q ts → Sep (fpR q) Fm → Calls Try.prog 38 #[.pointer (some ⟨bm, 0, none⟩), .slice q ts.length c] w1 fun e w' => e = .returned (.int .i64 (applyE l.length ts)) ∧ Cel 54 w' bm Fm (applyL l ts) ∧ Turn Fm Fm w1 w') := fun w1 q c a b d => apply_any a b d hm
  have HR : Hid (∀ w1 q c, Cel 56 w1 br Fr l → TchAt w1 q ts → Sep (fpR q) Fr → Calls Try.prog 40 #[.pointer (some ⟨br, 0, none⟩), .slice q ts.length c] w1 fun e w' => e = .returned (.int .i64 (applyE l.length ts)) ∧ Cel 56 w' br Fr (applyL l ts) ∧ Turn Fr Fr w1 w') := fun w1 q c a b d => refApply_any a b d hm
  generalize applyL l ts = l2 at HA HR
  generalize applyE l.length ts = y at HA HR
  have HN := Lib.hid (And.intro hp hz)
  clear h hp hz
  go_enter Try.func27, Try.ntmps27
  go_wp2_with (first
    | (go_at_call 40; refine (HR.out _ _ _ HR3.out HQ3.out HSP3.out).mono ?_; rintro e w4 ⟨rfl, hc, ht⟩; have HP4 := Lib.hid (Goes.mk (⟨((HC2.out.on HB3.out).turn ht HP1.out.ap), hc, turn_chain (below_chain HBW2.out HB3.out) ht HP1.out.ar, HP1.out.am, HP1.out.ar, HP1.out.ap⟩ : Play W w4 bm Fm br Fr l2)); clear hc ht)
    | (go_at_call 39; refine (HT.out _ HBW2.out).mono ?_; rintro e w3 ⟨q', c', rfl, hq, ha, hb⟩; have HQ3 := Lib.hid hq; have HB3 := Lib.hid hb; have HSP3 := Lib.hid (ha.sep HRR2.out.blw); have HR3 := Lib.hid (HRR2.out.on hb); clear hq ha hb)
    | (go_at_call 38; refine (HA.out _ _ _ HP1.out.m HQ1.out HSP1.out).mono ?_; rintro e w2 ⟨rfl, hc, ht⟩; have HC2 := Lib.hid hc; have HRR2 := Lib.hid (HP1.out.r.turn ht HP1.out.ap.symm); have HBW2 := Lib.hid (turn_chain HP1.out.below ht HP1.out.am); have hx := (box_old ht HBL.out HB1.out).trans HX.out; obtain ⟨q0, q1, q2, q3, q4⟩ := cells4 hx; clear hc ht hx)
    | (go_at_call 39; refine (HT.out _ HP.out.below).mono ?_; rintro e w1 ⟨q, c, rfl, hq, ha, hb⟩; have HQ1 := Lib.hid hq; have HSP1 := Lib.hid (ha.sep HP.out.m.blw); have HB1 := Lib.hid hb; have HP1 := Lib.hid (HP.out.on hb); clear hq ha hb))
  go_ret
  exact ⟨by simp, HP4.out⟩
set_option maxHeartbeats 2000000 in
set_option maxRecDepth 100000 in
theorem step_all (h : Play W w bm Fm br Fr l) (C : Int) (X : Nat) (P : Value) : Calls Try.prog 27 #[.pointer (some ⟨bm, 0, none⟩), .pointer (some ⟨br, 0, none⟩), .agg #[.int .i64 4, .int .i64 C, .int .u64 X, P]] w fun e w' => e = .returned (.bool true) ∧ Goes W w' bm br := by
  have HP := Lib.hid (h.alloc (.cells #[.int .i64 4, .int .i64 C, .int .u64 X, P] 59))
  have HL : Hid (l.length ≤ 9223372036854775807) := by have := h.m.many; show l.length ≤ 9223372036854775807; omega
  clear h
  go_enter Try.func27, Try.ntmps27
  go_wp2_with (first
    | (go_at_call 23; refine (refAll_any HP.out.r).mono ?_; rintro e w1 ⟨p, c, rfl, hr, _, hb⟩; have HR1 := Lib.hid hr; have HP1 := Lib.hid (HP.out.on hb); clear hr hb)
    | (go_at_call 9; refine (len_any HP1.out.m).mono ?_; rintro e w2 ⟨rfl, hw⟩; subst w2)
    | (go_at_call 28; refine (refLen_any HP1.out.r).mono ?_; rintro e w2 ⟨rfl, hw⟩; subst w2)
    | (go_at_call 16; refine (all_any HP1.out.m).mono ?_; rintro e w2 ⟨rfl, hr, hb⟩; have HR2 := Lib.hid hr; have HR3 := Lib.hid (HR1.out.on hb); have HP2 := Lib.hid (HP1.out.on hb); clear hr hb HR1)
    | (go_at_call 22; refine (exact_same rfl HL.out HR2.out HR3.out).mono ?_; rintro e w3 ⟨rfl, hw⟩; have HP3 := Lib.hid (HP2.out.same hw); clear hw))
  go_ret
  exact ⟨by simp, Goes.mk HP3.out⟩
set_option maxHeartbeats 2000000 in
set_option maxRecDepth 100000 in
theorem step_same_no (h : Play W w bm Fm br Fr l) (C : Int) (X : Nat) {p : Option Addr} {cap : Nat} {ts : List (Int × Nat)} (hp : PutsAt W p ts) (hz : ts.length * 16 ≤ reachBytes) (hn : mayN ((nums ts).length : Int) = false) : Calls Try.prog 27 #[.pointer (some ⟨bm, 0, none⟩), .pointer (some ⟨br, 0, none⟩), .agg #[.int .i64 5, .int .i64 C, .int .u64 X, .slice p ts.length cap]] w fun e w' => e = .returned (.bool true) ∧ Goes W w' bm br := by
  have HP := Lib.hid (h.alloc (.cells #[.int .i64 5, .int .i64 C, .int .u64 X, .slice p ts.length cap] 59))
  have HT : Hid (∀ w1, Below W.heap.size W w1 → Calls Try.prog 41 #[.slice p ts.length cap] w1 fun e w' => ∃ q c, e = .returned (.slice q (nums ts).length c) ∧ RowAt 44 w' q c (fls (nums ts)) ∧ Abv w1.heap.size (fpR q) ∧ Below w1.heap.size w1 w') := fun w1 k => numbers_any (hp.on k) hz
  have HO : Hid (∀ w1 q c, Calls Try.prog 13 #[.slice q (nums ts).length c] w1 fun e w' => e = .returned (.tuple #[.pointer none, .int .i64 1]) ∧ w' = w1) := fun w1 q c => of_none hn w1
  have HR : Hid (∀ w1 q c, Calls Try.prog 15 #[.slice q (nums ts).length c] w1 fun e w' => e = .returned (.tuple #[.pointer none, .int .i64 1]) ∧ w' = w1) := fun w1 q c => refOf_none hn w1
  generalize nums ts = m at HT HO HR
  clear h hp hz hn
  go_enter Try.func27, Try.ntmps27
  go_wp2_with (first
    | (go_at_call 41; refine (HT.out _ HP.out.below).mono ?_; rintro e w1 ⟨q, c, rfl, hq, ha, hb⟩; have HP1 := Lib.hid (HP.out.on hb); clear hq ha hb)
    | (go_at_call 13; refine (HO.out _ _ _).mono ?_; rintro e w2 ⟨rfl, hw⟩; subst w2)
    | (go_at_call 15; refine (HR.out _ _ _).mono ?_; rintro e w2 ⟨rfl, hw⟩; subst w2))
  go_ret
  exact ⟨by simp, Goes.mk HP1.out⟩
set_option maxHeartbeats 2000000 in
set_option maxRecDepth 100000 in
theorem step_same_yes (h : Play W w bm Fm br Fr l) (C : Int) (X : Nat) {p : Option Addr} {cap : Nat} {ts : List (Int × Nat)} (hp : PutsAt W p ts) (hz : ts.length * 16 ≤ reachBytes) (hn : mayN ((nums ts).length : Int) = true) : Calls Try.prog 27 #[.pointer (some ⟨bm, 0, none⟩), .pointer (some ⟨br, 0, none⟩), .agg #[.int .i64 5, .int .i64 C, .int .u64 X, .slice p ts.length cap]] w fun e w' => e = .returned (.bool true) ∧ Goes W w' bm br := by
  have HP := Lib.hid (h.alloc (.cells #[.int .i64 5, .int .i64 C, .int .u64 X, .slice p ts.length cap] 59))
  have HT : Hid (∀ w1, Below W.heap.size W w1 → Calls Try.prog 41 #[.slice p ts.length cap] w1 fun e w' => ∃ q c, e = .returned (.slice q (nums ts).length c) ∧ RowAt 44 w' q c (fls (nums ts)) ∧ Abv w1.heap.size (fpR q) ∧ Below w1.heap.size w1 w') := fun w1 k => numbers_any (hp.on k) hz
  have HO : Hid (∀ w1 q c, RowAt 44 w1 q c (fls (nums ts)) → Calls Try.prog 13 #[.slice q (nums ts).length c] w1 fun e w' => ∃ b F, e = .returned (.tuple #[.pointer (some ⟨b, 0, none⟩), .int .i64 0]) ∧ Cel 54 w' b F ((nums ts).map fixB) ∧ Abv w1.heap.size F ∧ Below w1.heap.size w1 w') := fun w1 q c k => of_some k hn
  have HR : Hid (∀ w1 q c, RowAt 44 w1 q c (fls (nums ts)) → Calls Try.prog 15 #[.slice q (nums ts).length c] w1 fun e w' => ∃ b F, e = .returned (.tuple #[.pointer (some ⟨b, 0, none⟩), .int .i64 0]) ∧ Cel 56 w' b F ((nums ts).map fixB) ∧ Abv w1.heap.size F ∧ Below w1.heap.size w1 w') := fun w1 q c k => refOf_some k hn
  have HS0 := Lib.hid (fun w1 b d F G (a : Cel 56 w1 b F l) (k : Cel 56 w1 d G ((nums ts).map fixB)) => refSameState_any a k)
  have HS1 := Lib.hid (fun w1 b d F G (a : Cel 54 w1 b F l) (k : Cel 54 w1 d G ((nums ts).map fixB)) => sameState_any a k)
  have HS2 := Lib.hid (fun w1 b d F G (a : Cel 54 w1 b F ((nums ts).map fixB)) (k : Cel 54 w1 d G l) => sameState_any a k)
  rw [sameB_comm] at HS2
  generalize sameB l ((nums ts).map fixB) = y at HS0 HS1 HS2
  generalize (nums ts).map fixB = m2 at HO HR HS0 HS1 HS2
  generalize nums ts = m at HT HO HR
  clear h hp hz hn
  go_enter Try.func27, Try.ntmps27
  go_wp2_with (first
    | (go_at_call 41; refine (HT.out _ HP.out.below).mono ?_; rintro e w1 ⟨q, c, rfl, hq, ha, hb⟩; have HQ1 := Lib.hid hq; have HP1 := Lib.hid (HP.out.on hb); clear hq ha hb)
    | (go_at_call 13; refine (HO.out _ _ _ HQ1.out).mono ?_; rintro e w2 ⟨t, G, rfl, hc, _, hb⟩; have HT2 := Lib.hid hc; have HQ2 := Lib.hid (HQ1.out.on hb); have HP2 := Lib.hid (HP1.out.on hb); clear hc hb)
    | (go_at_call 15; refine (HR.out _ _ _ HQ2.out).mono ?_; rintro e w3 ⟨u, G2, rfl, hc, _, hb⟩; have HU3 := Lib.hid hc; have HT3 := Lib.hid (HT2.out.on hb); have HP3 := Lib.hid (HP2.out.on hb); clear hc hb)
    | (go_at_call 42; refine (HS0.out _ _ _ _ _ HP3.out.r HU3.out).mono ?_; rintro e w4 ⟨rfl, hw⟩; have HT4 := Lib.hid (HT3.out.same hw); have HP4 := Lib.hid (HP3.out.same hw); clear hw)
    | (go_at_call 17; refine (HS2.out _ _ _ _ _ HT5.out HP5.out.m).mono ?_; rintro e w6 ⟨rfl, hw⟩; have HP6 := Lib.hid (HP5.out.same hw); clear hw)
    | (go_at_call 17; refine (HS1.out _ _ _ _ _ HP4.out.m HT4.out).mono ?_; rintro e w5 ⟨rfl, hw⟩; have HT5 := Lib.hid (HT4.out.same hw); have HP5 := Lib.hid (HP4.out.same hw); clear hw))
  go_ret
  exact ⟨by simp, Goes.mk HP6.out⟩
theorem step_any (h : Goes W w bm br) (K C : Int) (X : Nat) {p : Option Addr} {cap : Nat} {ts : List (Int × Nat)} (hp : PutsAt W p ts) (hz : ts.length * 16 ≤ reachBytes) : Calls Try.prog 27 #[.pointer (some ⟨bm, 0, none⟩), .pointer (some ⟨br, 0, none⟩), .agg #[.int .i64 K, .int .i64 C, .int .u64 X, .slice p ts.length cap]] w fun e w' => e = .returned (.bool true) ∧ Goes W w' bm br := by
  obtain ⟨Fm, Fr, l, h⟩ := h
  by_cases h1 : K = 1
  · subst h1; exact step_get h C X _
  by_cases h2 : K = 2
  · subst h2; exact step_set h C X _
  by_cases h3 : K = 3
  · subst h3; exact step_apply h C X hp hz
  by_cases h4 : K = 4
  · subst h4; exact step_all h C X _
  by_cases h5 : K = 5
  · subst h5
    cases hn : mayN ((nums ts).length : Int)
    · exact step_same_no h C X hp hz hn
    · exact step_same_yes h C X hp hz hn
  exact step_other h K h1 h2 h3 h4 h5 C X _
end
end Go.Proofs.Ytahcppoeooadhaa
