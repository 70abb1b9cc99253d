import Derived.Test.YtaliehikdidiaaaGreatDoorGr
import Derived.Test.YtaliehikdidiaaaGreatDoorWalkC
import Derived.Test.YtaliehikdidiaaaGreatDoorNum2
import Derived.WalkKit
import Derived.ProofKit
import Derived.OpenShut
import Derived.WalkLawsBesides
import Derived.Laws.EntriesVeiled
import Derived.Deep.RegionHeld
namespace Go.Proofs.YtaliehikdidiaaaGreatDoor
open Go.ChangeShapes Go.WideShapes Go.ChangeAt Go.RowKit Num
attribute [local go_sem] frombits_run bits_run

/-- the four reckonings: a number, or a NaN of whatever bits -/
theorem float_any {P : Program} (op : BinOp) (hop : op = .add ∨ op = .sub ∨ op = .mul ∨ op = .quo) (t : TypeId) (x y : Nat) (w : World) : ∃ r n, (binOp op t (.float .f64 x) (.float .f64 y)).run P w = .ok (.float .f64 r) (w.drewN n) ∧ fixB r = resV (floatBits op .f64 x y) := by
  cases e : floatBits op .f64 x y with
  | some r => exact ⟨r, 0, run_float_arith w op t .f64 x y r e, rfl⟩
  | none =>
    refine ⟨_, 1, ?_, fixB_nan (nan_cut x y (w.tape w.drawn (.nanBits .f64 x y)))⟩
    rcases hop with h | h | h | h <;> subst h <;> simp only [floatBits] at e <;> simp [binOp, Op.floatArith, e, Question.forced, World.drew_is_drewN]

theorem sum_any (a b : Nat) (w : World) : Calls Tryz.prog 183 #[.float .f64 a, .float .f64 b] w fun e w' => ∃ r n, e = .returned (.float .f64 r) ∧ fixB r = resV (floatBits .add .f64 a b) ∧ w' = w.drewN n := by
  obtain ⟨r, n, hrun, hr⟩ := float_any (P := Tryz.prog) .add (by simp) 74 a b w
  have HR : Hid (fixB r = resV (floatBits .add .f64 a b)) := hr
  clear hr
  go_enter Tryz.func183, Tryz.ntmps183
  go_wp2
  go_ret
  exact ⟨r, n, rfl, HR.out, rfl⟩
theorem difference_any (a b : Nat) (w : World) : Calls Tryz.prog 184 #[.float .f64 a, .float .f64 b] w fun e w' => ∃ r n, e = .returned (.float .f64 r) ∧ fixB r = resV (floatBits .sub .f64 a b) ∧ w' = w.drewN n := by
  obtain ⟨r, n, hrun, hr⟩ := float_any (P := Tryz.prog) .sub (by simp) 74 a b w
  have HR : Hid (fixB r = resV (floatBits .sub .f64 a b)) := hr
  clear hr
  go_enter Tryz.func184, Tryz.ntmps184
  go_wp2
  go_ret
  exact ⟨r, n, rfl, HR.out, rfl⟩
theorem product_any (a b : Nat) (w : World) : Calls Tryz.prog 185 #[.float .f64 a, .float .f64 b] w fun e w' => ∃ r n, e = .returned (.float .f64 r) ∧ fixB r = resV (floatBits .mul .f64 a b) ∧ w' = w.drewN n := by
  obtain ⟨r, n, hrun, hr⟩ := float_any (P := Tryz.prog) .mul (by simp) 74 a b w
  have HR : Hid (fixB r = resV (floatBits .mul .f64 a b)) := hr
  clear hr
  have hc := fun (x : Nat) (w : World) => run_convert_float_float (P := Tryz.prog) w 74 74 .f64 .f64 x x (by rw [Tryz.underlying74]; rfl) Tryz.underlying74 rfl
  go_enter Tryz.func185, Tryz.ntmps185
  go_wp2
  go_ret
  exact ⟨r, n, rfl, HR.out, rfl⟩
theorem quotient_any (a b : Nat) (w : World) : Calls Tryz.prog 186 #[.float .f64 a, .float .f64 b] w fun e w' => ∃ r n, e = .returned (.float .f64 r) ∧ fixB r = resV (floatBits .quo .f64 a b) ∧ w' = w.drewN n := by
  obtain ⟨r, n, hrun, hr⟩ := float_any (P := Tryz.prog) .quo (by simp) 74 a b w
  have HR : Hid (fixB r = resV (floatBits .quo .f64 a b)) := hr
  clear hr
  go_enter Tryz.func186, Tryz.ntmps186
  go_wp2
  go_ret
  exact ⟨r, n, rfl, HR.out, rfl⟩
theorem less_any (a b : Nat) (w : World) : Calls Tryz.prog 190 #[.float .f64 a, .float .f64 b] w fun e w' => ∃ r n, e = .returned (.float .f64 r) ∧ fixB r = yesB (FloatKind.f64.format.order a b == some .lt) ∧ w' = w.drewN n := by
  go_enter Tryz.func190, Tryz.ntmps190
  go_wp2_with (go_at_call 196; refine (truth_any _ _).mono ?_; rintro e w' ⟨rfl, rfl⟩)
  go_ret
  exact ⟨_, 0, rfl, fixB_yes _, rfl⟩
theorem atMost_any (a b : Nat) (w : World) : Calls Tryz.prog 191 #[.float .f64 a, .float .f64 b] w fun e w' => ∃ r n, e = .returned (.float .f64 r) ∧ fixB r = yesB (FloatKind.f64.format.order a b == some .lt || FloatKind.f64.format.order a b == some .eq) ∧ w' = w.drewN n := by
  go_enter Tryz.func191, Tryz.ntmps191
  go_wp2_with (go_at_call 196; refine (truth_any _ _).mono ?_; rintro e w' ⟨rfl, rfl⟩)
  go_ret
  exact ⟨_, 0, rfl, fixB_yes _, rfl⟩
theorem equal_any (a b : Nat) (w : World) : Calls Tryz.prog 192 #[.float .f64 a, .float .f64 b] w fun e w' => ∃ r n, e = .returned (.float .f64 r) ∧ fixB r = yesB (FloatKind.f64.format.order a b == some .eq) ∧ w' = w.drewN n := by
  go_enter Tryz.func192, Tryz.ntmps192
  go_wp2_with (go_at_call 196; refine (truth_any _ _).mono ?_; rintro e w' ⟨rfl, rfl⟩)
  go_ret
  exact ⟨_, 0, rfl, fixB_yes _, rfl⟩
theorem same2_any (a b : Nat) (w : World) : Calls Tryz.prog 193 #[.float .f64 a, .float .f64 b] w fun e w' => ∃ r n, e = .returned (.float .f64 r) ∧ fixB r = yesB (fixB a == fixB b) ∧ w' = w.drewN n := by
  go_enter Tryz.func193, Tryz.ntmps193
  go_wp2_with (first | (go_at_call 82; refine (same_any _ _ _).mono ?_; rintro e w' ⟨rfl, rfl⟩) | (go_at_call 196; refine (truth_any _ _).mono ?_; rintro e w' ⟨rfl, rfl⟩))
  go_ret
  exact ⟨_, 0, rfl, fixB_yes _, rfl⟩
theorem ahead_any (a b : Nat) (w : World) (ha : a < 18446744073709551616) (hb : b < 18446744073709551616) : Calls Tryz.prog 194 #[.float .f64 a, .float .f64 b] w fun e w' => ∃ r n, e = .returned (.float .f64 r) ∧ fixB r = yesB (decide (cmpB a b < 0)) ∧ w' = w.drewN n := by
  go_enter Tryz.func194, Tryz.ntmps194
  go_wp2_with (first | (go_at_call 198; refine (compare_any _ _ _ ha hb).mono ?_; rintro e w' ⟨rfl, rfl⟩) | (go_at_call 196; refine (truth_any _ _).mono ?_; rintro e w' ⟨rfl, rfl⟩))
  go_ret
  exact ⟨_, 0, rfl, fixB_yes _, rfl⟩
theorem nan_any (w : World) : Calls Tryz.prog 121 #[] w fun e w' => e = .returned (.float .f64 9221120237041090560) ∧ w' = w := by
  go_enter Tryz.func121, Tryz.ntmps121
  go_wp2
  go_ret
  exact ⟨rfl, rfl⟩
theorem least_any (a b : Nat) (w : World) (ha : a < 18446744073709551616) (hb : b < 18446744073709551616) : Calls Tryz.prog 188 #[.float .f64 a, .float .f64 b] w fun e w' => ∃ r n, e = .returned (.float .f64 r) ∧ fixB r = minV a b ∧ w' = w.drewN n := by
  have hm := fixB_min a b
  unfold minV at hm ⊢
  cases na : nan a
  · cases nb : nan b
    · rw [na, nb, if_neg (by simp)] at hm
      simp only [Bool.or_self, Bool.false_eq_true, if_false]
      by_cases hc : cmpB b a < 0
      · rw [if_pos hc] at hm ⊢
        have HM : Hid (fixB b = b) := hm
        clear hm
        go_enter Tryz.func188, Tryz.ntmps188
        go_wp2_with (first | (go_at_call 120; refine (isNaN_any _ _).mono ?_; rintro e w' ⟨rfl, rfl⟩) | (go_at_call 198; refine (compare_any _ _ _ hb ha).mono ?_; rintro e w' ⟨rfl, rfl⟩))
        go_ret
        exact ⟨_, 0, rfl, HM.out, rfl⟩
      · rw [if_neg hc] at hm ⊢
        have HM : Hid (fixB a = a) := hm
        clear hm
        go_enter Tryz.func188, Tryz.ntmps188
        go_wp2_with (first | (go_at_call 120; refine (isNaN_any _ _).mono ?_; rintro e w' ⟨rfl, rfl⟩) | (go_at_call 198; refine (compare_any _ _ _ hb ha).mono ?_; rintro e w' ⟨rfl, rfl⟩))
        go_ret
        exact ⟨_, 0, rfl, HM.out, rfl⟩
    · clear hm
      simp only [Bool.or_true, if_true]
      have hn : fixB 9221120237041090560 = 9221120237041090560 := by decide
      go_enter Tryz.func188, Tryz.ntmps188
      go_wp2_with (first | (go_at_call 120; refine (isNaN_any _ _).mono ?_; rintro e w' ⟨rfl, rfl⟩) | (go_at_call 121; refine (nan_any _).mono ?_; rintro e w' ⟨rfl, rfl⟩))
      go_ret
      exact ⟨_, 0, rfl, hn, rfl⟩
  · clear hm
    simp only [Bool.true_or, if_true]
    have hn : fixB 9221120237041090560 = 9221120237041090560 := by decide
    go_enter Tryz.func188, Tryz.ntmps188
    go_wp2_with (first | (go_at_call 120; refine (isNaN_any _ _).mono ?_; rintro e w' ⟨rfl, rfl⟩) | (go_at_call 121; refine (nan_any _).mono ?_; rintro e w' ⟨rfl, rfl⟩))
    go_ret
    exact ⟨_, 0, rfl, hn, rfl⟩
theorem max_of (a b : Nat) (ha : a < 18446744073709551616) (hb : b < 18446744073709551616) : (0 < cmpB b a → fixB b = maxV a b) ∧ (¬ 0 < cmpB b a → fixB a = maxV a b) := by
  unfold maxV
  cases na : nan a
  · cases nb : nan b
    · simp only [Bool.or_self, Bool.false_eq_true, if_false]
      exact ⟨fun h => by rw [if_pos h]; exact fixB_num nb, fun h => by rw [if_neg h]; exact fixB_num na⟩
    · simp only [Bool.or_true, if_true]
      exact ⟨fun _ => fixB_nan nb, fun h => absurd (by rw [cmpB_nan_first ha na nb]; decide) h⟩
  · simp only [Bool.true_or, if_true]
    have := cmpB_nan_last hb na
    have e := cmpB_flip a b
    exact ⟨fun h => by omega, fun _ => fixB_nan na⟩
theorem greatest_any (a b : Nat) (w : World) (ha : a < 18446744073709551616) (hb : b < 18446744073709551616) : Calls Tryz.prog 189 #[.float .f64 a, .float .f64 b] w fun e w' => ∃ r n, e = .returned (.float .f64 r) ∧ fixB r = maxV a b ∧ w' = w.drewN n := by
  obtain ⟨h1, h2⟩ := max_of a b ha hb
  by_cases hc : 0 < cmpB b a
  · have HM : Hid (fixB b = maxV a b) := h1 hc
    clear h1 h2
    go_enter Tryz.func189, Tryz.ntmps189
    go_wp2_with (go_at_call 198; refine (compare_any _ _ _ hb ha).mono ?_; rintro e w' ⟨rfl, rfl⟩)
    go_ret
    exact ⟨_, 0, rfl, HM.out, rfl⟩
  · have HM : Hid (fixB a = maxV a b) := h2 hc
    clear h1 h2
    go_enter Tryz.func189, Tryz.ntmps189
    go_wp2_with (go_at_call 198; refine (compare_any _ _ _ hb ha).mono ?_; rintro e w' ⟨rfl, rfl⟩)
    go_ret
    exact ⟨_, 0, rfl, HM.out, rfl⟩
theorem countable_any (b : Nat) (w : World) : Calls Tryz.prog 197 #[.float .f64 b] w fun e w' => e = .returned (.bool (cntB b)) ∧ w' = w := by
  have k0 := key_zero
  have n0 := nan_zero
  have k5 := key_big53
  have n5 := nan_big53
  rcases order_cases b 0 with ⟨o, n | n⟩ | ⟨n, _, ho⟩
  · rw [cntB_nan n]
    clear k0 n0 k5 n5 n
    go_enter Tryz.func197, Tryz.ntmps197
    go_wp2
    go_ret
    exact ⟨rfl, rfl⟩
  · rw [n0] at n; cases n
  · by_cases hk : key b < 0
    · have o : FloatKind.f64.format.order b 0 = some .lt := by rcases ho with h | h | h <;> first | exact h.1 | omega
      have e : cntB b = false := by unfold cntB; rw [decide_eq_false (by omega : ¬ 0 ≤ key b), Bool.and_false, Bool.false_and, Bool.false_and]
      rw [e]
      clear k0 n0 k5 n5 n ho hk e
      go_enter Tryz.func197, Tryz.ntmps197
      go_wp2
      go_ret
      exact ⟨rfl, rfl⟩
    · have o : FloatKind.f64.format.order b 0 = some .gt ∨ FloatKind.f64.format.order b 0 = some .eq := by rcases ho with h | h | h <;> first | exact .inl h.1 | exact .inr h.1 | omega
      by_cases hl : key b < 4845873199050653696
      · have o5 : FloatKind.f64.format.order b 4845873199050653696 = some .lt := by
          rcases order_cases b 4845873199050653696 with ⟨_, g | g⟩ | ⟨_, _, h | h | h⟩
          · rw [n] at g; cases g
          · rw [n5] at g; cases g
          · exact h.1
          · omega
          · omega
        have hc := (conv53 (by omega) hl).1
        have hu := fun (w : World) => run_convert_float_int (P := Tryz.prog) w 74 70 .f64 .u64 b _ (by rw [Tryz.underlying74]; rfl) Tryz.underlying70 hc
        have e : cntB b = (FloatKind.f64.format.order (floatOfInt .f64 (truncN b)) b == some .eq) := by unfold cntB; rw [n, decide_eq_true (by omega : 0 ≤ key b), decide_eq_true hl]; rfl
        rw [e]
        clear k0 n0 k5 n5 n ho hk e hl hc
        rcases o with o | o
        all_goals
          go_enter Tryz.func197, Tryz.ntmps197
          go_wp2
          go_ret
          exact ⟨rfl, rfl⟩
      · have o5 : FloatKind.f64.format.order b 4845873199050653696 = some .gt ∨ FloatKind.f64.format.order b 4845873199050653696 = some .eq := by
          rcases order_cases b 4845873199050653696 with ⟨_, g | g⟩ | ⟨_, _, h | h | h⟩
          · rw [n] at g; cases g
          · rw [n5] at g; cases g
          · omega
          · exact .inr h.1
          · exact .inl h.1
        have e : cntB b = false := by unfold cntB; rw [decide_eq_false hl, Bool.and_false, Bool.false_and]
        rw [e]
        clear k0 n0 k5 n5 n ho hk e hl
        rcases o with o | o <;> rcases o5 with o5 | o5
        all_goals
          go_enter Tryz.func197, Tryz.ntmps197
          go_wp2
          go_ret
          exact ⟨rfl, rfl⟩
end Go.Proofs.YtaliehikdidiaaaGreatDoor
