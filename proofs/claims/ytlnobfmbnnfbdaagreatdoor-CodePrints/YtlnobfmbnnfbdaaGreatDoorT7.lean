import Derived.Test.YtlnobfmbnnfbdaaGreatDoorT6
import Derived.Lib.ItoaMem
namespace Go.Proofs.YtlnobfmbnnfbdaaGreatDoor
open Go.ChangeShapes Go.WideShapes Go.ChangeAt Go.RowKit Num
attribute [local go_sem] frombits_run bits_run

theorem int_ne {b c : Nat} (h : b ≠ c) : ((b : Int) == (c : Int)) = false := by
  rw [beq_eq_false_iff_ne]; omega
theorem key_m53 : nan 14069245235905429504 = false ∧ key 14069245235905429504 = -4845873199050653696 := ⟨by decide, by decide⟩
theorem key_rung {b : Nat} (hb : b < 18446744073709551616) : (-4845873199050653696 < key b ∧ key b < 4845873199050653696) ↔ rung b < 4845873199050653696 := by
  rcases Num.shape hb with ⟨g1, g2, g3⟩ | ⟨g1, g2, g3⟩
  · rw [key_of_pos g2]; omega
  · rw [key_of_neg g2]; omega

set_option maxHeartbeats 4000000 in
set_option maxRecDepth 100000 in
theorem refPrint_any (b : Nat) (w : World) (hb : b < 18446744073709551616) :
    Calls Tryz.prog 44 #[.float .f64 b] w fun e w' => e = .returned (.string ⟨(printT b).toArray⟩) ∧ w' = w := by
  cases hn : nan b
  · have hfx := fixB_num hn
    have h0 : b ≠ 9221120237041090560 := fun h => by rw [h, nan_const] at hn; cases hn
    have i0 : ((b : Int) == 9221120237041090560) = false := int_ne h0
    by_cases h1 : b = 9218868437227405312
    · have e : printT b = [105, 110, 102] := by unfold printT; rw [hn, if_neg Bool.false_ne_true, if_pos h1]
      rw [e]
      have i1 : ((b : Int) == 9218868437227405312) = true := by rw [h1]; rfl
      clear e h1 h0 hb
      go_enter Tryz.func44, Tryz.ntmps44
      go_wp2_with (go_at_call 25; refine (refBits_any _ _).mono ?_; rintro e w' ⟨rfl, rfl⟩)
      go_ret
      exact ⟨rfl, rfl⟩
    · have i1 : ((b : Int) == 9218868437227405312) = false := int_ne h1
      by_cases h2 : b = 18442240474082181120
      · have e : printT b = [45, 105, 110, 102] := by unfold printT; rw [hn, if_neg Bool.false_ne_true, if_neg h1, if_pos h2]
        rw [e]
        have i2 : ((b : Int) == 18442240474082181120) = true := by rw [h2]; rfl
        clear e h1 h0 hb h2
        go_enter Tryz.func44, Tryz.ntmps44
        go_wp2_with (go_at_call 25; refine (refBits_any _ _).mono ?_; rintro e w' ⟨rfl, rfl⟩)
        go_ret
        exact ⟨rfl, rfl⟩
      · have i2 : ((b : Int) == 18442240474082181120) = false := int_ne h2
        by_cases h3 : b = 9223372036854775808
        · have e : printT b = [45, 48] := by unfold printT; rw [hn, if_neg Bool.false_ne_true, if_neg h1, if_neg h2, if_pos h3]
          rw [e]
          have i3 : ((b : Int) == 9223372036854775808) = true := by rw [h3]; rfl
          clear e h1 h0 hb h2 h3
          go_enter Tryz.func44, Tryz.ntmps44
          go_wp2_with (go_at_call 25; refine (refBits_any _ _).mono ?_; rintro e w' ⟨rfl, rfl⟩)
          go_ret
          exact ⟨rfl, rfl⟩
        · have i3 : ((b : Int) == 9223372036854775808) = false := int_ne h3
          have hp : printT b = if wholeB b then Lib.itoa (intB b) else 120 :: hexN 16 b := by unfold printT; rw [hn, if_neg Bool.false_ne_true, if_neg h1, if_neg h2, if_neg h3]
          have hgt := order_gt_iff hn key_m53.1
          have hlt := order_lt_iff hn fl_R53.1
          rw [key_m53.2] at hgt
          rw [fl_R53.2] at hlt
          have hkr := key_rung hb
          by_cases hr : rung b < 4845873199050653696
          · have hk := hkr.2 hr
            rw [decide_eq_true hk.1] at hgt
            rw [decide_eq_true hk.2] at hlt
            have hcv : ∀ W : World, (convert 40 3 (.float .f64 b)).run Tryz.prog W = .ok (.int .i64 (intB b)) W := fun W => run_convert_float_int W 40 3 .f64 .i64 b (intB b) (by rw [Tryz.underlying40]; rfl) Tryz.underlying3 (conv_int hr)
            have hbe := back_eq hn hr
            have hil := intB_lt hr
            cases hw : wholeB b
            · rw [hw] at hbe hp
              rw [hp, if_neg Bool.false_ne_true]
              clear h0 h1 h2 h3 hp hr hw hkr hk hil
              generalize intB b = z at *
              go_enter Tryz.func44, Tryz.ntmps44
              go_wp2_with (first | (go_at_call 25; refine (refBits_any _ _).mono ?_; rintro e w' ⟨rfl, rfl⟩) | (go_at_call 66; refine (refWide_any _ _ hb).mono ?_; rintro e w' ⟨rfl, rfl⟩))
              go_ret
              exact ⟨rfl, rfl⟩
            · rw [hw] at hbe hp
              rw [hp, if_pos rfl]
              clear h0 h1 h2 h3 hp hr hw hkr hk
              generalize intB b = z at *
              by_cases hz : z < 0
              · obtain ⟨m, rfl⟩ : ∃ m : Nat, z = -(m : Int) := ⟨z.natAbs, by omega⟩
                have HM : Hid (m < 9223372036854775808) := by show m < _; omega
                have hsz : (Lib.decDigits m).length ≤ 20 := by
                  rw [Lib.decDigits_length]
                  exact Lib.nDigits_le20 m (by omega)
                have HX : Hid ((⟨#[45]⟩ : ByteArray) ++ ⟨(Lib.decDigits m).toArray⟩ = ⟨(Lib.itoa (-(m : Int))).toArray⟩) := bytes_eq (by rw [cons_bytes, Lib.itoa_neg m (by omega)])
                generalize Lib.itoa (-(m : Int)) = L at *
                go_enter Tryz.func44, Tryz.ntmps44
                go_wp2_with (first | (go_at_call 25; refine (refBits_any _ _).mono ?_; rintro e w' ⟨rfl, rfl⟩) | (go_at_call 65; refine (refDecimal_any m _ HM.out).mono ?_; rintro e w' ⟨rfl, rfl⟩))
                go_ret
                exact ⟨by rw [← HX.out]; rfl, rfl⟩
              · obtain ⟨m, rfl⟩ : ∃ m : Nat, z = (m : Int) := ⟨z.toNat, by omega⟩
                have HM : Hid (m < 9223372036854775808) := by show m < _; omega
                have HX : Hid (Lib.itoa (m : Int) = Lib.decDigits m) := Lib.itoa_nonneg m
                generalize Lib.itoa (m : Int) = L at *
                go_enter Tryz.func44, Tryz.ntmps44
                go_wp2_with (first | (go_at_call 25; refine (refBits_any _ _).mono ?_; rintro e w' ⟨rfl, rfl⟩) | (go_at_call 65; refine (refDecimal_any m _ HM.out).mono ?_; rintro e w' ⟨rfl, rfl⟩))
                go_ret
                exact ⟨by rw [HX.out]; rfl, rfl⟩
          · have hk : ¬ (-4845873199050653696 < key b ∧ key b < 4845873199050653696) := fun h => hr (hkr.1 h)
            have hw : wholeB b = false := by unfold wholeB; rw [decide_eq_false hr]; rfl
            rw [hp, hw, if_neg Bool.false_ne_true]
            by_cases hk1 : -4845873199050653696 < key b
            · rw [decide_eq_true hk1] at hgt
              rw [decide_eq_false (fun h => hk ⟨hk1, h⟩)] at hlt
              clear h0 h1 h2 h3 hp hr hw hkr hk hk1
              go_enter Tryz.func44, Tryz.ntmps44
              go_wp2_with (first | (go_at_call 25; refine (refBits_any _ _).mono ?_; rintro e w' ⟨rfl, rfl⟩) | (go_at_call 66; refine (refWide_any _ _ hb).mono ?_; rintro e w' ⟨rfl, rfl⟩))
              go_ret
              exact ⟨rfl, rfl⟩
            · rw [decide_eq_false hk1] at hgt
              clear h0 h1 h2 h3 hp hr hw hkr hk hk1 hlt
              go_enter Tryz.func44, Tryz.ntmps44
              go_wp2_with (first | (go_at_call 25; refine (refBits_any _ _).mono ?_; rintro e w' ⟨rfl, rfl⟩) | (go_at_call 66; refine (refWide_any _ _ hb).mono ?_; rintro e w' ⟨rfl, rfl⟩))
              go_ret
              exact ⟨rfl, rfl⟩
  · have e : printT b = [110, 97, 110] := by unfold printT; rw [hn]; rfl
    rw [e]
    have hfx := fixB_nan hn
    clear e hn hb
    go_enter Tryz.func44, Tryz.ntmps44
    go_wp2_with (go_at_call 25; refine (refBits_any _ _).mono ?_; rintro e w' ⟨rfl, rfl⟩)
    go_ret
    exact ⟨rfl, rfl⟩
end Go.Proofs.YtlnobfmbnnfbdaaGreatDoor
