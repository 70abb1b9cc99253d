/- PROVED HERE: 'Rows.NumberNumbersSaid': the law NumberNumbers (the numbers of errors and operations, and some examples of the chapter) returns true; it has no argument and no condition. -/
import Derived.Test.YtfomenkepdeajaaWalkG
import Derived.WalkLawsBesides
import Derived.Test.YtfomenkepdeajaaRows
import Derived.WalkKit
import Derived.ProofKit
import Derived.OpenShut
namespace Go.Proofs.Ytfomenkepdeajaa.numberNumbers
open Go.ChangeShapes Go.WideShapes Go.ChangeAt Go.RowKit Num
set_option linter.unusedVariables false      -- a walk need not use every 'w<i>' (that an integer argument fits its kind)

theorem hash_negzero (w : World) : Calls Try.prog 9 #[.int .i64 8, .float .f64 9223372036854775808] w fun e w' => e = .returned (.tuple #[.float .f64 4674736413210574848, .int .i64 0]) ∧ Grown w w' := by
  have h := one_8 9223372036854775808 w (by decide)
  have e : fixB (floatOfInt .f64 (hashI (fixB 9223372036854775808))) = 4674736413210574848 := by decide +kernel
  rw [e] at h
  exact h
theorem hash_one (w : World) : Calls Try.prog 9 #[.int .i64 8, .float .f64 4607182418800017408] w fun e w' => e = .returned (.tuple #[.float .f64 4676018443768561664, .int .i64 0]) ∧ Grown w w' := by
  have h := one_8 4607182418800017408 w (by decide)
  have e : fixB (floatOfInt .f64 (hashI (fixB 4607182418800017408))) = 4676018443768561664 := by decide +kernel
  rw [e] at h
  exact h
theorem div_negzero (w : World) : Calls Try.prog 11 #[.int .i64 4, .float .f64 4607182418800017408, .float .f64 9223372036854775808] w fun e w' => e = .returned (.tuple #[.float .f64 18442240474082181120, .int .i64 0]) ∧ Grown w w' := by
  have h := two_4 4607182418800017408 9223372036854775808 w (by decide) (by decide)
  have e : resV (floatBits .quo .f64 4607182418800017408 9223372036854775808) = 18442240474082181120 := by decide +kernel
  rw [e] at h
  exact h
theorem index_negzero (w : World) : Calls Try.prog 12 #[.float .f64 9223372036854775808, .int .i64 1] w fun e w' => e = .returned (.tuple #[.int .i64 0, .int .i64 0]) ∧ w' = w := by
  have h := index_any 9223372036854775808 1 w
  have e1 : idxV 9223372036854775808 1 = 0 := by decide +kernel
  have e2 : idxE 9223372036854775808 1 = 0 := by decide +kernel
  rw [e1, e2] at h
  exact h
theorem index_none (w : World) : Calls Try.prog 12 #[.float .f64 0, .int .i64 0] w fun e w' => e = .returned (.tuple #[.int .i64 0, .int .i64 10]) ∧ w' = w := by
  have h := index_any 0 0 w
  have e1 : idxV 0 0 = 0 := by decide +kernel
  have e2 : idxE 0 0 = 10 := by decide +kernel
  rw [e1, e2] at h
  exact h
theorem compare_zeros (w : World) : Calls Try.prog 15 #[.float .f64 0, .float .f64 9223372036854775808] w fun e w' => e = .returned (.int .i64 1) ∧ w' = w := by
  have h := compare_any 0 9223372036854775808 w (by decide) (by decide)
  have e : cmpB 0 9223372036854775808 = 1 := by decide +kernel
  rw [e] at h
  exact h
theorem inf_neg (w : World) : Calls Try.prog 14 #[.int .i64 (-1)] w fun e w' => e = .returned (.float .f64 18442240474082181120) ∧ w' = w := by
  have hf := frombits_run
  go_enter Try.func14, Try.ntmps14
  go_wp2
  go_ret
  exact ⟨rfl, rfl⟩

theorem own : ownKnob Try.prog.godebug = none := by kernel_rfl

/-! ### STEP 1: THE WALK: the Go text returns true. 'Grown w w'': the world has at most new blocks (Derived/RowKit3.lean). Part the cases AHEAD of 'go_enter' where a test parts the walk; take each callee by a contract of your own. -/
theorem walk  (w : World) :
    Calls Try.prog 3 #[] w fun e w' => e = .returned (.bool true) ∧ Grown w w' := by
  have o1 : FloatKind.f64.format.order 4674736413210574848 4674736413210574848 = some .eq := self_num (by decide)
  have o2 : FloatKind.f64.format.order 4676018443768561664 4676018443768561664 = some .eq := self_num (by decide)
  have raw0 : ∀ w, Calls Try.prog 10 #[.int .u64 9223372036854775808] w fun e w' => e = .returned (.float .f64 9223372036854775808) ∧ w' = w := fun w => raw_any 9223372036854775808 w
  have R : Hid (∀ w, Calls Try.prog 10 #[.int .u64 9223372036854775808] w fun e w' => e = .returned (.float .f64 9223372036854775808) ∧ w' = w) := raw0
  clear raw0
  go_enter Try.func3, Try.ntmps3
  go_wp2_with fail
  refine (R.out _).mono ?_
  rintro e w' ⟨rfl, rfl⟩
  go_wp2_with fail
  refine (hash_negzero _).mono ?_
  rintro e w1 ⟨rfl, g1⟩
  go_wp2_with fail
  refine (from_grown g1 (hash_one _)).mono ?_
  rintro e w2 ⟨rfl, g2⟩
  go_wp2_with fail
  refine (R.out _).mono ?_
  rintro e w' ⟨rfl, rfl⟩
  go_wp2_with fail
  refine (from_grown g2 (div_negzero _)).mono ?_
  rintro e w3 ⟨rfl, g3⟩
  go_wp2_with fail
  refine (R.out _).mono ?_
  rintro e w' ⟨rfl, rfl⟩
  go_wp2_with fail
  refine (index_negzero _).mono ?_
  rintro e w' ⟨rfl, rfl⟩
  go_wp2_with fail
  refine (index_none _).mono ?_
  rintro e w' ⟨rfl, rfl⟩
  go_wp2_with fail
  refine (inf_neg _).mono ?_
  rintro e w' ⟨rfl, rfl⟩
  go_wp2_with fail
  refine (exact_any _ _ _).mono ?_
  rintro e w' ⟨rfl, rfl⟩
  go_wp2_with fail
  refine (R.out _).mono ?_
  rintro e w' ⟨rfl, rfl⟩
  go_wp2_with fail
  refine (compare_zeros _).mono ?_
  rintro e w' ⟨rfl, rfl⟩
  go_wp2_with fail
  go_ret
  exact ⟨rfl, g3⟩

/-! ### THE ROW's STEP: WRITTEN OUT: LEAVE IT -/
set_option maxRecDepth 100000 in
theorem lifted (os : Os) (started : os.Started) (H : Type) (enc : TypeId × Value → H) :
    ReturnsInHanded {} Try.checked os 3 .any (Rows.numberNumbersSpec.pre6 enc Try.prog Try.f3 Rows.numberNumbersRow.domain false) (Rows.numberNumbersSpec.post enc Try.prog Try.f3 false true false false) := by
  refine returnsInHanded_of_change (C := Try.checked) own started (by kernel_rfl) Try.func3
    (ChangeSpec.witness6 (enc := enc) (C := Try.checked) false ⟨#[], #[], []⟩ 8 (by kernel_rfl) (by kernel_rfl) (by kernel_rfl) (by kernel_rfl)) ?_
  intro W base args ds gs before hval0 hW hcnd _
  have hval : ∀ (j : Nat) t v, Try.f3.params[j]? = some t → args[j]? = some v → Value.okWide Try.prog W .any base t v := hval0
  have hW' := hW
  obtain ⟨p, q, hA0, hV, rfl, hfz, hnd⟩ := hW
  have hA : DataW.TrodAll enc Try.prog W 0 (fun _ => true) true Try.f3.params.toList args.toList ds p := hA0
  rw [Try.params3] at hA hval
  obtain ⟨rfl, rfl, rfl⟩ := trodAll_none hA
  obtain ⟨rfl, rfl⟩ := trodVars_none hV
  clear hA0 hval0
  simp only [List.append_nil] at hW'
  refine (walk  W).mono fun e W' ⟨he, hg⟩ => ?_
  subst he
  exact ⟨_, rfl, post_of_same (pa := []) (pv := []) hW' (fun _ _ _ => (trodAll_cons_mk (shut_bool Try.underlying4 _) trodAll_mk0)) (fun sp _ => rfl) (fun _ _ => rfl) rfl
    (hg.frame _) hg.2.1 (ok_one (by kernel_rfl) rfl (okWide_bool_mk Try.underlying4 _))⟩

theorem over : Rows.numberNumbersRow.holds Try.pinned (OpenSpec.ofChange Rows.numberNumbersSpec) :=
  OpenClaim.holds_of_wide 3 Try.f3 rfl rfl rfl rfl rfl rfl rfl ⟨rfl, rfl, rfl, rfl, rfl⟩ rfl rfl rfl rfl rfl (by kernel_rfl) Try.func3 (by kernel_rfl)
    (of_decide_eq_true (by kernel_rfl)) (by unfold Func.isWrapper; first | (rw [if_pos (by decide +kernel)]; kernel_rfl) | (rw [if_neg (by decide +kernel)]; exact ⟨rfl, rfl⟩))
    (fun os started H enc _ => lifted os started H enc)

/-- ████ THE STATEMENT ████ -/
theorem proved : Rows.NumberNumbersSaid :=
  over
end Go.Proofs.Ytfomenkepdeajaa.numberNumbers
