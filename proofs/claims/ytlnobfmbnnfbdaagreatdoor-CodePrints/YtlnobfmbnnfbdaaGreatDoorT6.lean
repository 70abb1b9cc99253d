import Derived.Test.YtlnobfmbnnfbdaaGreatDoorT5
import Derived.Test.YtlnobfmbnnfbdaaGreatDoorTNum
namespace Go.Proofs.YtlnobfmbnnfbdaaGreatDoor
open Go.ChangeShapes Go.WideShapes Go.ChangeAt Go.RowKit Num
attribute [local go_sem] frombits_run bits_run

/-- a number's text -/
def printT (b : Nat) : List UInt8 :=
  if nan b then [110, 97, 110] else if b = 9218868437227405312 then [105, 110, 102] else if b = 18442240474082181120 then [45, 105, 110, 102]
  else if b = 9223372036854775808 then [45, 48] else if wholeB b then Lib.itoa (intB b) else 120 :: hexN 16 b

theorem formatUint16 (n : Nat) (w : World) (hn : n < 18446744073709551616) (hT : Tabs w) :
    Calls Tryz.prog 80 #[.int .u64 n, .int .i64 16] w fun e w' => e = .returned (.string ⟨(hexS n).toArray⟩) ∧ Below w.heap.size w w' := by
  have c := formatBits16 n w hn hT
  clear hn hT
  have HC := Lib.hid c
  clear c
  go_enter Tryz.func80, Tryz.ntmps80
  go_wp2_with (first | (go_at_call 92; refine HC.out.mono ?_; rintro e w' ⟨rfl, hw⟩) | go_in)
  go_ret
  exact ⟨rfl, hw⟩
theorem printBits_any (n : Nat) (w : World) (hn : n < 18446744073709551616) (hT : Tabs w) :
    Calls Tryz.prog 63 #[.int .u64 n] w fun e w' => e = .returned (.string ⟨(hexN 16 n).toArray⟩) ∧ Below w.heap.size w w' := by
  have hl := hexN_of_hexS n hn
  have h16 : (hexS n).length ≤ 16 := hl.1
  have HC := Lib.hid (formatUint16 n w hn hT)
  have HL := Lib.hid hl.2
  clear hn hT hl
  have hsz : (⟨(hexS n).toArray⟩ : ByteArray).size = (hexS n).length := by rw [size_list]
  obtain ⟨k, hk⟩ : ∃ k, k = (hexS n).length := ⟨_, rfl⟩
  rw [← hk] at hsz h16
  have HK := Lib.hid hk
  clear hk
  have hsub : (16 : Int) - (k : Int) = ((16 - k : Nat) : Int) := by omega
  generalize hexS n = l at *
  go_enter Tryz.func63, Tryz.ntmps63
  go_wp2_with (first | (go_at_call 80; refine HC.out.mono ?_; rintro e w1 ⟨rfl, hw⟩) | (go_at_call 81; refine (repeat_any (16 - k) _ (by omega)).mono ?_; rintro e w2 ⟨rfl, hw2⟩) )
  go_ret
  refine ⟨?_, below_chain hw hw2⟩
  have e : (⟨Array.replicate (16 - k) 48⟩ : ByteArray) ++ ⟨l.toArray⟩ = ⟨(hexN 16 n).toArray⟩ := by
    apply bytes_eq
    have h1 := HL.out
    have h2 := HK.out
    subst h2
    simp only [ByteArray.data_append, Array.toList_append, Array.toList_replicate]
    exact h1.symm
  rw [← e]; rfl

def infIs (s : Int) (b : Nat) : Bool := if s = 1 then b == 9218868437227405312 else b == 18442240474082181120
theorem isInf_any (b : Nat) (s : Int) (w : World) (hn : nan b = false) (hb : b < 18446744073709551616) (hs : s = 1 ∨ s = -1) : Calls Tryz.prog 58 #[.float .f64 b, .int .i64 s] w fun e w' => e = .returned (.bool (infIs s b)) ∧ w' = w := by
  rcases hs with rfl | rfl
  · exact isInf_pos b w hn hb
  · exact isInf_neg b w hn hb
theorem fl_R53 : nan 4845873199050653696 = false ∧ key 4845873199050653696 = 4845873199050653696 := ⟨by decide, by decide⟩
theorem rung_facts {b : Nat} (hn : nan b = false) : nan (rung b) = false ∧ key (rung b) = rung b := by
  have hr : rung b ≤ 9218868437227405312 := by simpa [nan] using hn
  obtain ⟨g1, g2, g3⟩ := low_shape (b := rung b) (by omega)
  exact ⟨by unfold nan; rw [g2]; exact decide_eq_false (by omega), g3⟩
theorem zero_eq {b : Nat} (hn : nan b = false) (hb : b < 18446744073709551616) (hz : b ≠ 9223372036854775808) : (FloatKind.f64.format.order b 0 == some .eq) = decide (b = 0) := by
  rw [order_eq_iff hn (by decide), show key 0 = 0 by decide, decide_eq_decide]
  rcases Num.shape hb with ⟨g1, g2, g3⟩ | ⟨g1, g2, g3⟩
  · rw [key_of_pos g2]; omega
  · rw [key_of_neg g2]; omega

set_option maxHeartbeats 4000000 in
set_option maxRecDepth 100000 in
theorem print_any (b : Nat) (w : World) (hb : b < 18446744073709551616) (hT : Tabs w) :
    Calls Tryz.prog 42 #[.float .f64 b] w fun e w' => e = .returned (.string ⟨(printT b).toArray⟩) ∧ Below w.heap.size w w' := by
  cases hn : nan b
  · by_cases h1 : b = 9218868437227405312
    · have e : printT b = [105, 110, 102] := by unfold printT; rw [hn, if_neg Bool.false_ne_true, if_pos h1]
      rw [e]
      have i1 : infIs 1 b = true := by rw [h1]; rfl
      clear e h1
      go_enter Tryz.func42, Tryz.ntmps42
      go_wp2_with (first | (go_at_call 57; refine (isNaN_any _ _).mono ?_; rintro e w' ⟨rfl, rfl⟩) | (go_at_call 58; refine (isInf_any _ _ _ hn hb (by decide)).mono ?_; rintro e w' ⟨rfl, rfl⟩))
      go_ret
      exact ⟨rfl, Below.refl _ _⟩
    · by_cases h2 : b = 18442240474082181120
      · have e : printT b = [45, 105, 110, 102] := by unfold printT; rw [hn, if_neg Bool.false_ne_true, if_neg h1, if_pos h2]
        rw [e]
        have i1 : infIs 1 b = false := by rw [h2]; rfl
        have i2 : infIs (-1) b = true := by rw [h2]; rfl
        clear e h1 h2
        go_enter Tryz.func42, Tryz.ntmps42
        go_wp2_with (first | (go_at_call 57; refine (isNaN_any _ _).mono ?_; rintro e w' ⟨rfl, rfl⟩) | (go_at_call 58; refine (isInf_any _ _ _ hn hb (by decide)).mono ?_; rintro e w' ⟨rfl, rfl⟩))
        go_ret
        exact ⟨rfl, Below.refl _ _⟩
      · have i1 : infIs 1 b = false := beq_eq_false_iff_ne.2 h1
        have i2 : infIs (-1) b = false := beq_eq_false_iff_ne.2 h2
        by_cases h3 : b = 9223372036854775808
        · have e : printT b = [45, 48] := by unfold printT; rw [hn, if_neg Bool.false_ne_true, if_neg h1, if_neg h2, if_pos h3]
          rw [e]
          clear e
          have hz : (FloatKind.f64.format.order b 0 == some .eq) = true := by rw [h3]; decide +kernel
          have hs : neg b = true := by rw [h3]; decide
          clear h1 h2 h3
          go_enter Tryz.func42, Tryz.ntmps42
          go_wp2_with (first | (go_at_call 57; refine (isNaN_any _ _).mono ?_; rintro e w' ⟨rfl, rfl⟩) | (go_at_call 58; refine (isInf_any _ _ _ hn hb (by decide)).mono ?_; rintro e w' ⟨rfl, rfl⟩) | (go_at_call 59; refine (signbit_any _ _ hb).mono ?_; rintro e w' ⟨rfl, rfl⟩))
          go_ret
          exact ⟨rfl, Below.refl _ _⟩
        · have hp : printT b = if wholeB b then Lib.itoa (intB b) else 120 :: hexN 16 b := by unfold printT; rw [hn, if_neg Bool.false_ne_true, if_neg h1, if_neg h2, if_neg h3]
          obtain ⟨rn, rk⟩ := rung_facts hn
          have hlt := order_lt_iff rn fl_R53.1
          rw [rk, fl_R53.2] at hlt
          have hz : (∃ q : FloatKind.f64.format.order b 0 == some .eq, neg b = false) ∨ (FloatKind.f64.format.order b 0 == some .eq) = false := by
            rw [zero_eq hn hb h3]
            by_cases h0 : b = 0
            · exact .inl ⟨decide_eq_true h0, by rw [h0]; decide⟩
            · exact .inr (decide_eq_false h0)
          have HT := Lib.hid hT

          have hfx := fixB_num hn
          by_cases hr : rung b < 4845873199050653696
          · rw [decide_eq_true (by omega)] at hlt
            have hfl := floor_eq hb hn hr
            have hcv : ∀ W : World, (convert 40 2 (.float .f64 b)).run Tryz.prog W = .ok (.int .i64 (intB b)) W := fun W => run_convert_float_int W 40 2 .f64 .i64 b (intB b) (by rw [Tryz.underlying40]; rfl) Tryz.underlying2 (conv_int hr)
            have HI : Hid (-9223372036854775808 ≤ intB b ∧ intB b ≤ 9223372036854775807) := by have := intB_lt hr; exact ⟨by omega, by omega⟩
            cases hw : wholeB b
            · rw [hw] at hfl hp
              rw [hp, if_neg Bool.false_ne_true]
              have hsz : (⟨(hexN 16 b).toArray⟩ : ByteArray).size = 16 := by rw [size_list]; exact hexN_length 16 b
              have HX : Hid ((⟨#[120]⟩ : ByteArray) ++ ⟨(hexN 16 b).toArray⟩ = ⟨(120 :: hexN 16 b).toArray⟩) := bytes_eq (by rw [cons_bytes])
              clear h1 h2 h3 hp hT rn rk hr hw hcv
              rcases hz with ⟨hz, hs⟩ | hz
              · go_enter Tryz.func42, Tryz.ntmps42
                go_wp2_with (first | (go_at_call 57; refine (isNaN_any _ _).mono ?_; rintro e w' ⟨rfl, rfl⟩) | (go_at_call 58; refine (isInf_any _ _ _ hn hb (by decide)).mono ?_; rintro e w' ⟨rfl, rfl⟩) | (go_at_call 59; refine (signbit_any _ _ hb).mono ?_; rintro e w' ⟨rfl, rfl⟩) | (go_at_call 60; refine (mathAbs_any _ _ hb).mono ?_; rintro e w' ⟨rfl, rfl⟩) | (go_at_call 61; refine (mathFloor_num _ _ hn).mono ?_; rintro e w' ⟨rfl, rfl⟩) | (go_at_call 62; refine (formatInt_any _ HI.out.1 HI.out.2 _ HT.out).mono ?_; rintro e w' ⟨rfl, hw⟩) | (go_at_call 55; refine (bits_any _ _).mono ?_; rintro e w' ⟨rfl, rfl⟩) | (go_at_call 63; refine (printBits_any _ _ hb HT.out).mono ?_; rintro e w' ⟨rfl, hw⟩))
                go_ret
                exact ⟨by rw [← HX.out]; rfl, hw⟩
              · go_enter Tryz.func42, Tryz.ntmps42
                go_wp2_with (first | (go_at_call 57; refine (isNaN_any _ _).mono ?_; rintro e w' ⟨rfl, rfl⟩) | (go_at_call 58; refine (isInf_any _ _ _ hn hb (by decide)).mono ?_; rintro e w' ⟨rfl, rfl⟩) | (go_at_call 59; refine (signbit_any _ _ hb).mono ?_; rintro e w' ⟨rfl, rfl⟩) | (go_at_call 60; refine (mathAbs_any _ _ hb).mono ?_; rintro e w' ⟨rfl, rfl⟩) | (go_at_call 61; refine (mathFloor_num _ _ hn).mono ?_; rintro e w' ⟨rfl, rfl⟩) | (go_at_call 62; refine (formatInt_any _ HI.out.1 HI.out.2 _ HT.out).mono ?_; rintro e w' ⟨rfl, hw⟩) | (go_at_call 55; refine (bits_any _ _).mono ?_; rintro e w' ⟨rfl, rfl⟩) | (go_at_call 63; refine (printBits_any _ _ hb HT.out).mono ?_; rintro e w' ⟨rfl, hw⟩))
                go_ret
                exact ⟨by rw [← HX.out]; rfl, hw⟩
            · rw [hw] at hfl hp
              rw [hp, if_pos rfl]
              clear h1 h2 h3 hp hT rn rk hr hw
              generalize intB b = z at *
              rcases hz with ⟨hz, hs⟩ | hz
              · go_enter Tryz.func42, Tryz.ntmps42
                go_wp2_with (first | (go_at_call 57; refine (isNaN_any _ _).mono ?_; rintro e w' ⟨rfl, rfl⟩) | (go_at_call 58; refine (isInf_any _ _ _ hn hb (by decide)).mono ?_; rintro e w' ⟨rfl, rfl⟩) | (go_at_call 59; refine (signbit_any _ _ hb).mono ?_; rintro e w' ⟨rfl, rfl⟩) | (go_at_call 60; refine (mathAbs_any _ _ hb).mono ?_; rintro e w' ⟨rfl, rfl⟩) | (go_at_call 61; refine (mathFloor_num _ _ hn).mono ?_; rintro e w' ⟨rfl, rfl⟩) | (go_at_call 62; refine (formatInt_any _ HI.out.1 HI.out.2 _ HT.out).mono ?_; rintro e w' ⟨rfl, hw⟩) | (go_at_call 55; refine (bits_any _ _).mono ?_; rintro e w' ⟨rfl, rfl⟩) | (go_at_call 63; refine (printBits_any _ _ hb HT.out).mono ?_; rintro e w' ⟨rfl, hw⟩))
                go_ret
                exact ⟨rfl, hw⟩
              · go_enter Tryz.func42, Tryz.ntmps42
                go_wp2_with (first | (go_at_call 57; refine (isNaN_any _ _).mono ?_; rintro e w' ⟨rfl, rfl⟩) | (go_at_call 58; refine (isInf_any _ _ _ hn hb (by decide)).mono ?_; rintro e w' ⟨rfl, rfl⟩) | (go_at_call 59; refine (signbit_any _ _ hb).mono ?_; rintro e w' ⟨rfl, rfl⟩) | (go_at_call 60; refine (mathAbs_any _ _ hb).mono ?_; rintro e w' ⟨rfl, rfl⟩) | (go_at_call 61; refine (mathFloor_num _ _ hn).mono ?_; rintro e w' ⟨rfl, rfl⟩) | (go_at_call 62; refine (formatInt_any _ HI.out.1 HI.out.2 _ HT.out).mono ?_; rintro e w' ⟨rfl, hw⟩) | (go_at_call 55; refine (bits_any _ _).mono ?_; rintro e w' ⟨rfl, rfl⟩) | (go_at_call 63; refine (printBits_any _ _ hb HT.out).mono ?_; rintro e w' ⟨rfl, hw⟩))
                go_ret
                exact ⟨rfl, hw⟩
          · rw [decide_eq_false (by omega)] at hlt
            have hw : wholeB b = false := by unfold wholeB; rw [decide_eq_false hr]; rfl
            rw [hp, hw, if_neg Bool.false_ne_true]
            have hsz : (⟨(hexN 16 b).toArray⟩ : ByteArray).size = 16 := by rw [size_list]; exact hexN_length 16 b
            have HX : Hid ((⟨#[120]⟩ : ByteArray) ++ ⟨(hexN 16 b).toArray⟩ = ⟨(120 :: hexN 16 b).toArray⟩) := bytes_eq (by rw [cons_bytes])
            clear h1 h2 h3 hp hT rn rk hr hw
            rcases hz with ⟨hz, hs⟩ | hz
            · go_enter Tryz.func42, Tryz.ntmps42
              go_wp2_with (first | (go_at_call 57; refine (isNaN_any _ _).mono ?_; rintro e w' ⟨rfl, rfl⟩) | (go_at_call 58; refine (isInf_any _ _ _ hn hb (by decide)).mono ?_; rintro e w' ⟨rfl, rfl⟩) | (go_at_call 59; refine (signbit_any _ _ hb).mono ?_; rintro e w' ⟨rfl, rfl⟩) | (go_at_call 60; refine (mathAbs_any _ _ hb).mono ?_; rintro e w' ⟨rfl, rfl⟩) | (go_at_call 61; refine (mathFloor_num _ _ hn).mono ?_; rintro e w' ⟨rfl, rfl⟩) | (go_at_call 55; refine (bits_any _ _).mono ?_; rintro e w' ⟨rfl, rfl⟩) | (go_at_call 63; refine (printBits_any _ _ hb HT.out).mono ?_; rintro e w' ⟨rfl, hw⟩))
              go_ret
              exact ⟨by rw [← HX.out]; rfl, hw⟩
            · go_enter Tryz.func42, Tryz.ntmps42
              go_wp2_with (first | (go_at_call 57; refine (isNaN_any _ _).mono ?_; rintro e w' ⟨rfl, rfl⟩) | (go_at_call 58; refine (isInf_any _ _ _ hn hb (by decide)).mono ?_; rintro e w' ⟨rfl, rfl⟩) | (go_at_call 59; refine (signbit_any _ _ hb).mono ?_; rintro e w' ⟨rfl, rfl⟩) | (go_at_call 60; refine (mathAbs_any _ _ hb).mono ?_; rintro e w' ⟨rfl, rfl⟩) | (go_at_call 61; refine (mathFloor_num _ _ hn).mono ?_; rintro e w' ⟨rfl, rfl⟩) | (go_at_call 55; refine (bits_any _ _).mono ?_; rintro e w' ⟨rfl, rfl⟩) | (go_at_call 63; refine (printBits_any _ _ hb HT.out).mono ?_; rintro e w' ⟨rfl, hw⟩))
              go_ret
              exact ⟨by rw [← HX.out]; rfl, hw⟩
  · have e : printT b = [110, 97, 110] := by unfold printT; rw [hn]; rfl
    rw [e]
    go_enter Tryz.func42, Tryz.ntmps42
    go_wp2_with (first | (go_at_call 57; refine (isNaN_any _ _).mono ?_; rintro e w' ⟨rfl, rfl⟩))
    go_ret
    exact ⟨rfl, Below.refl _ _⟩
end Go.Proofs.YtlnobfmbnnfbdaaGreatDoor
