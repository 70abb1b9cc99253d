import Derived.Test.YtlkldgopliablaaGreatDoorGr
import Derived.Test.YtlkldgopliablaaGreatDoorWalkB
import Derived.Test.YtlkldgopliablaaGreatDoorWalkF
import Derived.WalkKit
import Derived.ProofKit
import Derived.OpenShut
import Derived.WalkLawsBesides
import Derived.Laws.EntriesVeiled
namespace Go.Proofs.YtlkldgopliablaaGreatDoor
open Go.ChangeShapes Go.WideShapes Go.ChangeAt Go.RowKit Num
attribute [local go_sem] frombits_run bits_run

theorem refYes_any (c : Bool) (w : World) : Calls Tryz.prog 173 #[.bool c] w fun e w' => e = .returned (.float .f64 (yesB c)) ∧ w' = w := by
  cases c
  all_goals
    go_enter Tryz.func173, Tryz.ntmps173
    go_wp2
    go_ret
    exact ⟨rfl, rfl⟩
theorem refTrue_any (b : Nat) (w : World) : Calls Tryz.prog 149 #[.float .f64 b] w fun e w' => e = .returned (.bool (trueB b)) ∧ w' = w := by
  have k0 := key_zero
  have n0 := nan_zero
  rcases order_cases b 0 with ⟨o, n | n⟩ | ⟨n, _, ⟨o, hk⟩ | ⟨o, hk⟩ | ⟨o, hk⟩⟩
  · have e : trueB b = false := by unfold trueB; rw [n]; rfl
    rw [e]
    clear e k0 n0 n
    go_enter Tryz.func149, Tryz.ntmps149
    go_wp2
    go_ret
    exact ⟨rfl, rfl⟩
  · rw [n0] at n; cases n
  · have e : trueB b = true := by unfold trueB; rw [n, k0] at *; simp; omega
    rw [e]
    clear e k0 n0 hk n
    go_enter Tryz.func149, Tryz.ntmps149
    go_wp2
    go_ret
    exact ⟨rfl, rfl⟩
  · have e : trueB b = false := by unfold trueB; rw [n, hk, k0]; rfl
    rw [e]
    clear e k0 n0 hk n
    go_enter Tryz.func149, Tryz.ntmps149
    go_wp2
    go_ret
    exact ⟨rfl, rfl⟩
  · have e : trueB b = true := by unfold trueB; rw [n, k0] at *; simp; omega
    rw [e]
    clear e k0 n0 hk n
    go_enter Tryz.func149, Tryz.ntmps149
    go_wp2
    go_ret
    exact ⟨rfl, rfl⟩
theorem ret_int {k : IntKind} {a b : Int} (h : a = b) : Ending.returned (.int k a) = .returned (.int k b) := by rw [h]
theorem hash_forms (X : Int) (h : 0 ≤ X) : wrap64 (IntKind.u64.wrap (((IntKind.u64.wrap ((X.tmod 4294967296) * 2654435769)).tmod 4294967296).tdiv 65536)) = X % 4294967296 * 2654435769 % 4294967296 / 65536 := by
  rw [IntKind.wrap_u64, IntKind.wrap_u64, Int.tmod_eq_emod_of_nonneg h]
  have e : X % 4294967296 * 2654435769 % 18446744073709551616 = X % 4294967296 * 2654435769 := by omega
  rw [e, Int.tmod_eq_emod_of_nonneg (by omega), Int.tdiv_eq_ediv_of_nonneg (by omega)]
  have e2 : X % 4294967296 * 2654435769 % 4294967296 / 65536 % 18446744073709551616 = X % 4294967296 * 2654435769 % 4294967296 / 65536 := by omega
  rw [e2]
  unfold wrap64
  omega
theorem refHash_any (b : Nat) (w : World) (hb : b < 18446744073709551616) : Calls Tryz.prog 174 #[.float .f64 b] w fun e w' => e = .returned (.int .i64 (hashI (fixB b))) ∧ w' = w := by
  have hf := fixB_lt hb
  have hx := xorShift_u64 (fixB b) 4294967296 hf
  have h0 : 0 ≤ bits .xor .u64 (fixB b : Int) ((fixB b : Int) / 4294967296) := by
    have e : bits .xor .u64 (fixB b : Int) ((fixB b : Int) / 4294967296) = _ := hx
    rw [e]; exact Int.natCast_nonneg _
  have HE := hash_forms _ h0
  have HH : Hid (_ = _) := HE
  clear hx h0 HE
  unfold hashI
  go_enter Tryz.func174, Tryz.ntmps174
  go_wp2_with (go_at_call 73; refine (refBits_any _ _).mono ?_; rintro e w' ⟨rfl, rfl⟩)
  go_ret
  exact ⟨ret_int HH.out, rfl⟩

/-! the document's Index -/
theorem rindex_no (b : Nat) (n : Int) (w : World) (h : FloatKind.f64.format.order b 0 = none ∨ FloatKind.f64.format.order b 0 = some .lt) : Calls Tryz.prog 179 #[.float .f64 b, .int .i64 n] w fun e w' => e = .returned (.tuple #[.int .i64 0, .int .i64 10]) ∧ w' = w := by
  rcases h with o | o
  all_goals
    go_enter Tryz.func179, Tryz.ntmps179
    go_wp2
    go_ret2
    exact ⟨rfl, rfl⟩
theorem rindex_big (b : Nat) (n : Int) (w : World) (o : FloatKind.f64.format.order b 0 = some .gt ∨ FloatKind.f64.format.order b 0 = some .eq) (p : FloatKind.f64.format.order b 4890909195324358656 = some .gt ∨ FloatKind.f64.format.order b 4890909195324358656 = some .eq) : Calls Tryz.prog 179 #[.float .f64 b, .int .i64 n] w fun e w' => e = .returned (.tuple #[.int .i64 0, .int .i64 10]) ∧ w' = w := by
  rcases o with o | o <;> rcases p with p | p
  all_goals
    go_enter Tryz.func179, Tryz.ntmps179
    go_wp2
    go_ret2
    exact ⟨rfl, rfl⟩
theorem rindex_frac (b : Nat) (n : Int) (w : World) (nn : nan b = false) (o : FloatKind.f64.format.order b 0 = some .gt ∨ FloatKind.f64.format.order b 0 = some .eq) (p : FloatKind.f64.format.order b 4890909195324358656 = some .lt)
    (q : (FloatKind.f64.format.order b (floorB b) == some .eq) = false) : Calls Tryz.prog 179 #[.float .f64 b, .int .i64 n] w fun e w' => e = .returned (.tuple #[.int .i64 0, .int .i64 10]) ∧ w' = w := by
  have q' : (FloatKind.f64.format.order b (floorB b) != some .eq) = true := by unfold bne; rw [q]; rfl
  rcases o with o | o
  all_goals
    go_enter Tryz.func179, Tryz.ntmps179
    go_wp2_with (go_at_call 171; refine (mathFloor_num _ _ nn).mono ?_; rintro e w' ⟨rfl, rfl⟩)
    go_ret2
    exact ⟨rfl, rfl⟩
theorem rindex_whole (b t : Nat) (n : Int) (w : World) (nn : nan b = false) (o : FloatKind.f64.format.order b 0 = some .gt ∨ FloatKind.f64.format.order b 0 = some .eq) (p : FloatKind.f64.format.order b 4890909195324358656 = some .lt)
    (u : ∀ w : World, (convert 71 3 (.float .f64 b)).run Tryz.prog w = .ok (.int .i64 t) w) (q : (FloatKind.f64.format.order b (floorB b) == some .eq) = true) : Calls Tryz.prog 179 #[.float .f64 b, .int .i64 n] w fun e w' => e = .returned (.tuple #[.int .i64 (if (t : Int) < n then t else 0), .int .i64 (if (t : Int) < n then 0 else 10)]) ∧ w' = w := by
  have q' : (FloatKind.f64.format.order b (floorB b) != some .eq) = false := by unfold bne; rw [q]; rfl
  by_cases h : (t : Int) < n
  · rw [if_pos h, if_pos h]
    rcases o with o | o
    all_goals
      go_enter Tryz.func179, Tryz.ntmps179
      go_wp2_with (go_at_call 171; refine (mathFloor_num _ _ nn).mono ?_; rintro e w' ⟨rfl, rfl⟩)
      go_ret2
      exact ⟨rfl, rfl⟩
  · rw [if_neg h, if_neg h]
    rcases o with o | o
    all_goals
      go_enter Tryz.func179, Tryz.ntmps179
      go_wp2_with (go_at_call 171; refine (mathFloor_num _ _ nn).mono ?_; rintro e w' ⟨rfl, rfl⟩)
      go_ret2
      exact ⟨rfl, rfl⟩
theorem refIndex_any (b : Nat) (n : Int) (w : World) (hb : b < 18446744073709551616) : Calls Tryz.prog 179 #[.float .f64 b, .int .i64 n] w fun e w' => e = .returned (.tuple #[.int .i64 (idxV b n), .int .i64 (idxE b n)]) ∧ w' = w := by
  rcases ways63 b with ⟨nn, o⟩ | ⟨nn, o, k⟩ | ⟨nn, k, o, l, p⟩ | ⟨nn, o, l, p⟩
  · obtain ⟨e1, e2⟩ := idx_no (b := b) (n := n) (by unfold idxB; rw [nn]; rfl)
    rw [e1, e2]; exact rindex_no b n w (.inl o)
  · obtain ⟨e1, e2⟩ := idx_no (b := b) (n := n) (by unfold idxB; rw [decide_eq_false (by omega : ¬ 0 ≤ key b), Bool.and_false, Bool.false_and, Bool.false_and, Bool.false_and])
    rw [e1, e2]; exact rindex_no b n w (.inr o)
  · have u := fun (w : World) => run_convert_float_int (P := Tryz.prog) w 71 3 .f64 .i64 b _ (by rw [Tryz.underlying71]; rfl) Tryz.underlying3 (conv63 k l)
    have w2 := whole_two hb (by have := key_pos k; omega) k
    cases q : (FloatKind.f64.format.order (floatOfInt .f64 (truncN b)) b == some .eq)
    · obtain ⟨e1, e2⟩ := idx_no (b := b) (n := n) (by unfold idxB; rw [q, Bool.and_false, Bool.false_and])
      rw [e1, e2]; exact rindex_frac b n w nn o p (by rw [← w2]; exact q)
    · have h := rindex_whole b _ n w nn o p u (by rw [← w2]; exact q)
      by_cases g : (truncN b : Int) < n
      · obtain ⟨e1, e2⟩ := idx_yes (b := b) (n := n) (by unfold idxB; rw [nn, q, decide_eq_true k, decide_eq_true l, decide_eq_true g]; rfl)
        rw [if_pos g, if_pos g] at h
        rw [e1, e2]; exact h
      · obtain ⟨e1, e2⟩ := idx_no (b := b) (n := n) (by unfold idxB; rw [decide_eq_false g, Bool.and_false])
        rw [if_neg g, if_neg g] at h
        rw [e1, e2]; exact h
  · obtain ⟨e1, e2⟩ := idx_no (b := b) (n := n) (by unfold idxB; rw [decide_eq_false l, Bool.and_false, Bool.false_and, Bool.false_and])
    rw [e1, e2]; exact rindex_big b n w o p

/-! the document's One -/
theorem rone_none (op : Int) (b : Nat) (w : World) (h : op ≤ 0 ∨ 9 ≤ op) : Calls Tryz.prog 147 #[.int .i64 op, .float .f64 b] w fun e w' => e = .returned (.tuple #[.float .f64 0, .int .i64 1]) ∧ Grw w w' := by
  have h1 : (op == 1) = false := by rw [beq_eq_false_iff_ne]; omega
  have h2 : (op == 2) = false := by rw [beq_eq_false_iff_ne]; omega
  have h3 : (op == 3) = false := by rw [beq_eq_false_iff_ne]; omega
  have h4 : (op == 4) = false := by rw [beq_eq_false_iff_ne]; omega
  have h5 : (op == 5) = false := by rw [beq_eq_false_iff_ne]; omega
  have h6 : (op == 6) = false := by rw [beq_eq_false_iff_ne]; omega
  have h7 : (op == 7) = false := by rw [beq_eq_false_iff_ne]; omega
  have h8 : (op == 8) = false := by rw [beq_eq_false_iff_ne]; omega
  clear h
  go_enter Tryz.func147, Tryz.ntmps147
  go_wp2
  go_ret2
  exact ⟨rfl, Grw.refl _⟩
theorem rone_1 (b : Nat) (w : World) (hb : b < 18446744073709551616) : Calls Tryz.prog 147 #[.int .i64 1, .float .f64 b] w fun e w' => e = .returned (.tuple #[.float .f64 (fixB (fixB b ^^^ 9223372036854775808)), .int .i64 0]) ∧ Grw w w' := by
  have hx := xor_sign (fixB_lt hb)
  have hi := fixB_fixB (fixB b ^^^ 9223372036854775808)
  go_enter Tryz.func147, Tryz.ntmps147
  go_wp2_with (first | (go_at_call 73; refine (refBits_any _ _).mono ?_; rintro e w' ⟨rfl, rfl⟩) | (go_at_call 170; refine (refOf_any _ _).mono ?_; rintro e w' ⟨rfl, rfl⟩) | (go_at_call 74; refine (refFix_any _ _).mono ?_; rintro e w' ⟨rfl, rfl⟩))
  go_ret2
  exact ⟨rfl, Grw.refl _⟩
theorem rone_2 (b : Nat) (w : World) (hb : b < 18446744073709551616) : Calls Tryz.prog 147 #[.int .i64 2, .float .f64 b] w fun e w' => e = .returned (.tuple #[.float .f64 (fixB (fixB b &&& 9223372036854775807)), .int .i64 0]) ∧ Grw w w' := by
  have hx := andNot_sign (fixB_lt hb)
  have hi := fixB_fixB (fixB b &&& 9223372036854775807)
  go_enter Tryz.func147, Tryz.ntmps147
  go_wp2_with (first | (go_at_call 73; refine (refBits_any _ _).mono ?_; rintro e w' ⟨rfl, rfl⟩) | (go_at_call 170; refine (refOf_any _ _).mono ?_; rintro e w' ⟨rfl, rfl⟩) | (go_at_call 74; refine (refFix_any _ _).mono ?_; rintro e w' ⟨rfl, rfl⟩))
  go_ret2
  exact ⟨rfl, Grw.refl _⟩
theorem rone_3 (b : Nat) (w : World) : Calls Tryz.prog 147 #[.int .i64 3, .float .f64 b] w fun e w' => e = .returned (.tuple #[.float .f64 (floorV b), .int .i64 0]) ∧ Grw w w' := by
  go_enter Tryz.func147, Tryz.ntmps147
  go_wp2_with (first | (go_at_call 171; refine (mathFloor_any _ _).mono ?_; rintro e w' ⟨r, n, rfl, hr, rfl⟩) | (go_at_call 74; refine (refFix_any _ _).mono ?_; rintro e w' ⟨rfl, rfl⟩))
  go_ret2
  exact ⟨rfl, grown_drewN (Grw.refl _) _⟩
theorem rone_4 (b : Nat) (w : World) : Calls Tryz.prog 147 #[.int .i64 4, .float .f64 b] w fun e w' => e = .returned (.tuple #[.float .f64 (rootV b), .int .i64 0]) ∧ Grw w w' := by
  go_enter Tryz.func147, Tryz.ntmps147
  go_wp2_with (first | (go_at_call 172; refine (mathSqrt_any _ _).mono ?_; rintro e w' ⟨r, n, rfl, hr, rfl⟩) | (go_at_call 74; refine (refFix_any _ _).mono ?_; rintro e w' ⟨rfl, rfl⟩))
  go_ret2
  exact ⟨rfl, grown_drewN (Grw.refl _) _⟩
theorem rone_5 (b : Nat) (w : World) : Calls Tryz.prog 147 #[.int .i64 5, .float .f64 b] w fun e w' => e = .returned (.tuple #[.float .f64 (yesB (!trueB b)), .int .i64 0]) ∧ Grw w w' := by
  have hi := fixB_yes (!trueB b)
  go_enter Tryz.func147, Tryz.ntmps147
  go_wp2_with (first | (go_at_call 149; refine (refTrue_any _ _).mono ?_; rintro e w' ⟨rfl, rfl⟩) | (go_at_call 173; refine (refYes_any _ _).mono ?_; rintro e w' ⟨rfl, rfl⟩) | (go_at_call 74; refine (refFix_any _ _).mono ?_; rintro e w' ⟨rfl, rfl⟩))
  go_ret2
  exact ⟨rfl, Grw.refl _⟩
theorem rone_6 (b : Nat) (w : World) : Calls Tryz.prog 147 #[.int .i64 6, .float .f64 b] w fun e w' => e = .returned (.tuple #[.float .f64 (yesB (nan b)), .int .i64 0]) ∧ Grw w w' := by
  have hn : (FloatKind.f64.format.order b b != some .eq) = nan b := by
    cases h : nan b
    · rw [self_num h]; rfl
    · rw [self_nan h]; rfl
  have hi := fixB_yes (nan b)
  go_enter Tryz.func147, Tryz.ntmps147
  go_wp2_with (first | (go_at_call 173; refine (refYes_any _ _).mono ?_; rintro e w' ⟨rfl, rfl⟩) | (go_at_call 74; refine (refFix_any _ _).mono ?_; rintro e w' ⟨rfl, rfl⟩))
  go_ret2
  exact ⟨rfl, Grw.refl _⟩
theorem rone_7 (b : Nat) (w : World) : Calls Tryz.prog 147 #[.int .i64 7, .float .f64 b] w fun e w' => e = .returned (.tuple #[.float .f64 (signB b), .int .i64 0]) ∧ Grw w w' := by
  have k0 := key_zero
  have n0 := nan_zero
  have hs := fixB_sign b
  rcases order_cases b 0 with ⟨o, n | n⟩ | ⟨n, _, ⟨o, hk⟩ | ⟨o, hk⟩ | ⟨o, hk⟩⟩
  · have e : signB b = 9221120237041090560 := by unfold signB; rw [n]; rfl
    rw [e]
    have hn := fixB_nan n
    clear e k0 n0 hs n
    go_enter Tryz.func147, Tryz.ntmps147
    go_wp2_with (go_at_call 74; refine (refFix_any _ _).mono ?_; rintro e w' ⟨rfl, rfl⟩)
    go_ret2
    exact ⟨rfl, Grw.refl _⟩
  · rw [n0] at n; cases n
  · have e : signB b = 13830554455654793216 := by unfold signB; rw [n, if_neg (by simp), if_neg (by omega), if_pos (by omega)]
    rw [e] at hs ⊢
    clear e k0 n0 hk n
    go_enter Tryz.func147, Tryz.ntmps147
    go_wp2_with (go_at_call 74; refine (refFix_any _ _).mono ?_; rintro e w' ⟨rfl, rfl⟩)
    go_ret2
    exact ⟨rfl, Grw.refl _⟩
  · have e : signB b = b := by unfold signB; rw [n, if_neg (by simp), if_neg (by omega), if_neg (by omega)]
    rw [e] at hs ⊢
    clear e k0 n0 hk n
    go_enter Tryz.func147, Tryz.ntmps147
    go_wp2_with (go_at_call 74; refine (refFix_any _ _).mono ?_; rintro e w' ⟨rfl, rfl⟩)
    go_ret2
    exact ⟨rfl, Grw.refl _⟩
  · have e : signB b = 4607182418800017408 := by unfold signB; rw [n, if_neg (by simp), if_pos (by omega)]
    rw [e] at hs ⊢
    clear e k0 n0 hk n
    go_enter Tryz.func147, Tryz.ntmps147
    go_wp2_with (go_at_call 74; refine (refFix_any _ _).mono ?_; rintro e w' ⟨rfl, rfl⟩)
    go_ret2
    exact ⟨rfl, Grw.refl _⟩
theorem rone_8 (b : Nat) (w : World) (hb : b < 18446744073709551616) : Calls Tryz.prog 147 #[.int .i64 8, .float .f64 b] w fun e w' => e = .returned (.tuple #[.float .f64 (fixB (floatOfInt .f64 (hashI (fixB b)))), .int .i64 0]) ∧ Grw w w' := by
  go_enter Tryz.func147, Tryz.ntmps147
  go_wp2_with (first | (go_at_call 174; refine (refHash_any _ _ hb).mono ?_; rintro e w' ⟨rfl, rfl⟩) | (go_at_call 74; refine (refFix_any _ _).mono ?_; rintro e w' ⟨rfl, rfl⟩))
  go_ret2
  exact ⟨rfl, Grw.refl _⟩
end Go.Proofs.YtlkldgopliablaaGreatDoor
