/- PROVED HERE: 'Rows.NumberModsSaid': for every two ints the law NumberMods (P1.5: what is left of a division is below the divisor and as far from the dividend as whole times go) returns true and leaves its arguments alone; no condition. -/
import Derived.Test.YtfomenkepdeajabWalkI
import Derived.WalkLawsBesides
import Derived.Deep.DeepCutAuto
import Derived.Test.YtfomenkepdeajabRows
import Derived.WalkKit
import Derived.ProofKit
import Derived.OpenShut
namespace Go.Proofs.Ytfomenkepdeajab.numberMods
open Go.ChangeShapes Go.WideShapes Go.ChangeAt Go.RowKit Num
set_option linter.unusedVariables false      -- a walk need not use every 'w<i>' (that an integer argument fits its kind)

theorem lmod (x y : Nat) (w : World) (hx : x < 9007199254740992) (hy : y < 9007199254740992) (hp : 0 < y) : Calls Try.prog 8 #[.int .i64 5, .float .f64 (floatOfInt .f64 (x : Int)), .float .f64 (floatOfInt .f64 (y : Int))] w fun e w' => e = .returned (.float .f64 (fl (x % y))) ∧ Grown w w' := by
  have fx := fl_facts (n := x) (by omega)
  have fy := fl_facts (n := y) (by omega)
  have h := ltwo_of 5 0 (fl x) (fl y) _ w (fun w => two_5 (fl x) (fl y) w fx.2.2.2.2.2 fy.2.2.2.2.2)
  rw [fl_mod hx hy hp] at h
  exact h
theorem bounds_i64 {z : Int} (h : (Lit.int .i64 z).wf = true) : -9223372036854775808 ≤ z ∧ z ≤ 9223372036854775807 := by
  have h' : IntKind.i64.min ≤ z ∧ z ≤ IntKind.i64.max := by simpa [Lit.wf] using h
  have m1 : IntKind.i64.min = -9223372036854775808 := by decide
  have m2 : IntKind.i64.max = 9223372036854775807 := by decide
  omega
theorem left_neg (z m : Int) (h : z < 0) (hm : 0 < m) : ∃ x : Nat, (x : Int) < m ∧ -(z + 1).tmod m = (x : Int) := by
  have e : -(z + 1).tmod m = (-(z + 1)) % m := by
    rw [← Int.neg_tmod, Int.tmod_eq_emod_of_nonneg (by omega)]
  rw [e]
  have h1 := Int.emod_nonneg (-(z + 1)) (Int.ne_of_gt hm)
  have h2 := Int.emod_lt_of_pos (-(z + 1)) hm
  exact ⟨((-(z + 1)) % m).toNat, by omega, by omega⟩
theorem left_pos (z m : Int) (hm : 0 < m) : ∃ x : Nat, (x : Int) < m ∧ z % m = (x : Int) := by
  have h1 := Int.emod_nonneg z (Int.ne_of_gt hm)
  have h2 := Int.emod_lt_of_pos z hm
  exact ⟨(z % m).toNat, by omega, by omega⟩
theorem val_int {x : Int} {n : Nat} (h : x = n) : Value.int .i64 x = .int .i64 n := by rw [h]
theorem val_succ {x : Int} {n : Nat} (h : x = n) : Value.int .i64 (x + 1) = .int .i64 ((n + 1 : Nat) : Int) := by rw [h]; rfl
set_option maxRecDepth 100000

theorem own : ownKnob Try.prog.godebug = none := by kernel_rfl

/-! ### STEP 1: THE WALK: the Go text returns true. 'Grown w w'': the world has at most new blocks (Derived/RowKit3.lean). Part the cases AHEAD of 'go_enter' where a test parts the walk; take each callee by a contract of your own. -/
theorem walk (a0 : Int) (a1 : Int) (w0 : (Lit.int .i64 a0).wf = true) (w1 : (Lit.int .i64 a1).wf = true) (w : World) :
    Calls Try.prog 5 #[.int .i64 a0, .int .i64 a1] w fun e w' => e = .returned (.bool true) ∧ Grown w w' := by
  have b0 := bounds_i64 w0
  have b1 := bounds_i64 w1
  clear w0 w1
  obtain ⟨x1, hx1, ex1⟩ : ∃ x : Nat, (x : Int) < 9007199254740992 ∧ ((a0 < 0 → -(a0 + 1).tmod 9007199254740992 = (x : Int)) ∧ (¬ a0 < 0 → a0 % 9007199254740992 = (x : Int))) := by
    by_cases h : a0 < 0
    · obtain ⟨x, p, q⟩ := left_neg a0 9007199254740992 h (by decide)
      exact ⟨x, p, fun _ => q, fun g => absurd h g⟩
    · obtain ⟨x, p, q⟩ := left_pos a0 9007199254740992 (by decide)
      exact ⟨x, p, fun g => absurd g h, fun _ => q⟩
  obtain ⟨y1, hy1, ey1⟩ : ∃ x : Nat, (x : Int) < 9007199254740991 ∧ ((a1 < 0 → -(a1 + 1).tmod 9007199254740991 = (x : Int)) ∧ (¬ a1 < 0 → a1 % 9007199254740991 = (x : Int))) := by
    by_cases h : a1 < 0
    · obtain ⟨x, p, q⟩ := left_neg a1 9007199254740991 h (by decide)
      exact ⟨x, p, fun _ => q, fun g => absurd h g⟩
    · obtain ⟨x, p, q⟩ := left_pos a1 9007199254740991 (by decide)
      exact ⟨x, p, fun g => absurd g h, fun _ => q⟩
  have EX : Hid _ := ex1
  have EY : Hid _ := ey1
  clear ex1 ey1
  by_cases h0 : a0 < 0 <;> by_cases h1 : a1 < 0
  all_goals
    go_enter Try.func5, Try.ntmps5
    go_upto_region 8 with fail
    go_cut [5, 6] (fun s t w' => s = .int .i64 (x1 : Int) ∧ t = .int .i64 ((y1 + 1 : Nat) : Int) ∧ w' = w)
    case first =>
      go_wp2
      go_meet
      case rel =>
        have e1 := EX.out.1
        have e2 := EX.out.2
        have e3 := EY.out.1
        have e4 := EY.out.2
        refine ⟨congrArg (Value.int .i64) ?_, congrArg (Value.int .i64) ?_, rfl⟩
        · first | exact e1 h0 | exact e2 h0
        · first | (have e := e3 h1; unfold wrap64; omega) | (have e := e4 h1; omega)
    case rest =>
    obtain ⟨rfl, rfl, hw⟩ := hcut
    subst wc
    clear EX EY b0 b1 h0 h1
    have hx : x1 < 9007199254740992 := by omega
    have hp : 0 < y1 + 1 := by omega
    have hy : y1 + 1 < 9007199254740992 := by omega
    clear hx1 hy1
    generalize y1 + 1 = y at *
    have hm : x1 % y < y := Nat.mod_lt _ hp
    have ht : x1 % y ≤ 9007199254740992 := by omega
    have f := fl_facts ht
    have fv := (fl_val ht).1
    have hd : ((x1 : Int) - ((x1 % y : Nat) : Int)) % (y : Int) = 0 := by
      have e : (x1 : Int) - ((x1 % y : Nat) : Int) = (y : Int) * ((x1 / y : Nat) : Int) := by
        have := Nat.div_add_mod x1 y
        have e2 : ((y * (x1 / y) + x1 % y : Nat) : Int) = (x1 : Int) := by rw [this]
        push_cast at e2 ⊢
        omega
      rw [e]; exact Int.mul_emod_right _ _
    have hle : x1 % y ≤ x1 := Nat.mod_le _ _
    have o0 : FloatKind.f64.format.order (fl (x1 % y)) 0 = some .gt ∨ FloatKind.f64.format.order (fl (x1 % y)) 0 = some .eq := by
      have k0 := key_zero
      rcases order_cases (fl (x1 % y)) 0 with ⟨_, g | g⟩ | ⟨_, _, g | g | g⟩
      · rw [f.1] at g; cases g
      · rw [nan_zero] at g; cases g
      · have := f.2.1; omega
      · exact .inr g.1
      · exact .inl g.1
    have os := self_num f.1
    have cv := conv53 (b := fl (x1 % y)) (by have := f.2.1; omega) (by have := f.2.1; have := fl_le (m := 9007199254740992) (n := x1 % y) (Nat.le_refl _) ht; rw [fl_53] at this; omega)
    have cc := fun (w : World) => run_convert_float_int (P := Try.prog) w 23 3 .f64 .i64 (fl (x1 % y)) _ (by rw [Try.underlying23]; rfl) Try.underlying3 cv.2
    rw [trunc_fl ht] at cc
    have LM : Hid (∀ w, Calls Try.prog 8 #[.int .i64 5, .float .f64 (floatOfInt .f64 (x1 : Int)), .float .f64 (floatOfInt .f64 (y : Int))] w fun e w' => e = .returned (.float .f64 (fl (x1 % y))) ∧ Grown w w') := fun w => lmod x1 y w hx hy hp
    have of : floatOfInt .f64 ((x1 % y : Nat) : Int) = fl (x1 % y) := rfl
    have OF : Hid (floatOfInt .f64 ((x1 % y : Nat) : Int) = fl (x1 % y)) := of
    have HD : Hid (((x1 : Int) - ((x1 % y : Nat) : Int)) % (y : Int) = 0) := hd
    clear f fv cv hd of
    generalize hz : x1 % y = z at *
    generalize hg : fl z = g at *
    clear hz hg
    go_upto_region 11 with (go_at_call 8; refine (LM.out _).mono ?_; rintro e w1 ⟨rfl, g1⟩)
    have of := OF.out
    have d1 := HD.out
    have d2 : ((x1 : Int) - (z : Int)).tmod (y : Int) = 0 := by rw [Int.tmod_eq_emod_of_nonneg (by omega)]; exact d1
    rcases o0 with o0 | o0
    all_goals
      go_wp2_with (go_at_call 14; refine (from_grown g1 (live_any _)).mono ?_; rintro e w2 ⟨rfl, g2⟩)
      go_ret
      exact ⟨rfl, g2⟩

/-! ### THE ROW's STEP: WRITTEN OUT: LEAVE IT -/
set_option maxRecDepth 100000 in
theorem lifted (os : Os) (started : os.Started) (H : Type) (enc : TypeId × Value → H) :
    ReturnsInHanded {} Try.checked os 5 .any (Rows.numberModsSpec.pre6 enc Try.prog Try.f5 Rows.numberModsRow.domain false) (Rows.numberModsSpec.post enc Try.prog Try.f5 false true false false) := by
  refine returnsInHanded_of_change (C := Try.checked) own started (by kernel_rfl) Try.func5
    (ChangeSpec.witness6 (enc := enc) (C := Try.checked) false ⟨#[], #[.int .i64 0, .int .i64 0], []⟩ 8 (by kernel_rfl) (by kernel_rfl) (by kernel_rfl) (by kernel_rfl)) ?_
  intro W base args ds gs before hval0 hW hcnd _
  have hval : ∀ (j : Nat) t v, Try.f5.params[j]? = some t → args[j]? = some v → Value.okWide Try.prog W .any base t v := hval0
  have hW' := hW
  obtain ⟨p, q, hA0, hV, rfl, hfz, hnd⟩ := hW
  have hA : DataW.TrodAll enc Try.prog W 0 (fun _ => true) true Try.f5.params.toList args.toList ds p := hA0
  rw [Try.params5] at hA hval
  obtain ⟨v0, vs0, d0, ds0, p0, q0, hargs, rfl, rfl, h0, r0⟩ := trodAll_cons hA
  obtain ⟨v1, vs1, d1, ds1, p1, q1, rfl, rfl, rfl, h1, r1⟩ := trodAll_cons r0
  obtain ⟨rfl, rfl, rfl⟩ := trodAll_nil r1
  obtain rfl : args = #[v0, v1] := by cases args; simp_all
  obtain ⟨rfl, rfl⟩ := trodVars_none hV
  obtain ⟨a0, rfl, rfl, rfl, w0⟩ := open_int Try.underlying3 (hval 0 3 v0 rfl rfl) h0
  obtain ⟨a1, rfl, rfl, rfl, w1⟩ := open_int Try.underlying3 (hval 1 3 v1 rfl rfl) h1
  clear hA0 hval0
  simp only [List.append_nil] at hW'
  refine (walk a0 a1 w0 w1 W).mono fun e W' ⟨he, hg⟩ => ?_
  subst he
  exact ⟨_, rfl, post_of_same (pa := []) (pv := []) hW' (fun _ _ _ => (trodAll_cons_mk (shut_bool Try.underlying4 _) trodAll_mk0)) (fun sp _ => (trodAll_cons_mk (shut_int Try.underlying3 w0) (trodAll_cons_mk (shut_int Try.underlying3 w1) trodAll_mk0))) (fun _ _ => rfl) rfl
    (hg.frame _) hg.2.1 (ok_one (by kernel_rfl) rfl (okWide_bool_mk Try.underlying4 _))⟩

theorem over : Rows.numberModsRow.holds Try.pinned (OpenSpec.ofChange Rows.numberModsSpec) :=
  OpenClaim.holds_of_wide 5 Try.f5 rfl rfl rfl rfl rfl rfl rfl ⟨rfl, rfl, rfl, rfl, rfl⟩ rfl rfl rfl rfl rfl (by kernel_rfl) Try.func5 (by kernel_rfl)
    (of_decide_eq_true (by kernel_rfl)) (by unfold Func.isWrapper; first | (rw [if_pos (by decide +kernel)]; kernel_rfl) | (rw [if_neg (by decide +kernel)]; exact ⟨rfl, rfl⟩))
    (fun os started H enc _ => lifted os started H enc)

/-- ████ THE STATEMENT ████ -/
theorem proved : Rows.NumberModsSaid :=
  over
end Go.Proofs.Ytfomenkepdeajab.numberMods
