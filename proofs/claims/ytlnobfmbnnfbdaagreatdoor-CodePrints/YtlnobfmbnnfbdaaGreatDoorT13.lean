import Derived.Test.YtlnobfmbnnfbdaaGreatDoorT12
namespace Go.Proofs.YtlnobfmbnnfbdaaGreatDoor
open Go.ChangeShapes Go.WideShapes Go.ChangeAt Go.RowKit Num
attribute [local go_sem] frombits_run bits_run

/-! one text a number -/
theorem printT_fix (b : Nat) : printT (fixB b) = printT b := by
  cases hn : nan b
  · rw [fixB_num hn]
  · unfold printT; rw [nan_fixB, hn]; rfl
theorem printT_nan {b : Nat} (h : nan b = true) : printT b = [110, 97, 110] := by unfold printT; rw [h]; rfl
theorem printT_inf : printT 9218868437227405312 = [105, 110, 102] := by unfold printT; rw [if_neg (by decide), if_pos rfl]
theorem printT_ninf : printT 18442240474082181120 = [45, 105, 110, 102] := by unfold printT; rw [if_neg (by decide), if_neg (by decide), if_pos rfl]
theorem printT_nzero : printT 9223372036854775808 = [45, 48] := by unfold printT; rw [if_neg (by decide), if_neg (by decide), if_neg (by decide), if_pos rfl]
/-- the kinds of numbers, with their texts -/
theorem print_kinds {b : Nat} (hf : fixB b = b) : (b = 9221120237041090560 ∧ printT b = [110, 97, 110]) ∨ (b = 9218868437227405312 ∧ printT b = [105, 110, 102]) ∨ (b = 18442240474082181120 ∧ printT b = [45, 105, 110, 102]) ∨ (b = 9223372036854775808 ∧ printT b = [45, 48]) ∨
    (b ≠ 9223372036854775808 ∧ wholeB b = true ∧ printT b = Lib.itoa (intB b)) ∨ (printT b = 120 :: hexN 16 b) := by
  cases hn : nan b
  · by_cases h1 : b = 9218868437227405312
    · exact .inr (.inl ⟨h1, by rw [h1]; exact printT_inf⟩)
    · by_cases h2 : b = 18442240474082181120
      · exact .inr (.inr (.inl ⟨h2, by rw [h2]; exact printT_ninf⟩))
      · by_cases h3 : b = 9223372036854775808
        · exact .inr (.inr (.inr (.inl ⟨h3, by rw [h3]; exact printT_nzero⟩)))
        · cases hw : wholeB b
          · refine .inr (.inr (.inr (.inr (.inr ?_))))
            unfold printT
            rw [hn, if_neg Bool.false_ne_true, if_neg h1, if_neg h2, if_neg h3, hw, if_neg Bool.false_ne_true]
          · refine .inr (.inr (.inr (.inr (.inl ⟨h3, rfl, ?_⟩))))
            unfold printT
            rw [hn, if_neg Bool.false_ne_true, if_neg h1, if_neg h2, if_neg h3, hw, if_pos rfl]
  · rw [fixB_nan hn] at hf
    exact .inl ⟨hf.symm, printT_nan hn⟩
def isOk : Lib.NumEnd Int → Bool
  | .ok _ => true
  | _ => false
theorem itoa_shape {z : Int} (h0 : -9007199254740992 < z) (h1 : z < 9007199254740992) : Lib.itoa z ≠ [110, 97, 110] ∧ Lib.itoa z ≠ [105, 110, 102] ∧ Lib.itoa z ≠ [45, 105, 110, 102] ∧ Lib.itoa z ≠ [45, 48] ∧ (Lib.itoa z).head? ≠ some 120 := by
  have hp := parseIntB_itoa z h0 h1
  refine ⟨fun h => ?_, fun h => ?_, fun h => ?_, fun h => ?_, fun h => ?_⟩
  · exact absurd (show isOk (Lib.parseIntB 64 [110, 97, 110]) = true by rw [← h, hp]; rfl) (by decide +kernel)
  · exact absurd (show isOk (Lib.parseIntB 64 [105, 110, 102]) = true by rw [← h, hp]; rfl) (by decide +kernel)
  · exact absurd (show isOk (Lib.parseIntB 64 [45, 105, 110, 102]) = true by rw [← h, hp]; rfl) (by decide +kernel)
  · rw [h] at hp
    have e : Lib.parseIntB 64 [45, 48] = .ok 0 := by decide +kernel
    rw [e] at hp
    injection hp with hp
    subst hp
    have e2 : Lib.itoa 0 = [48] := by
      show Lib.itoa ((0 : Nat) : Int) = _
      rw [Lib.itoa_nonneg, Lib.decDigits, dif_pos (by decide)]
      rfl
    rw [e2] at h
    exact absurd h (by decide)
  · cases hd : Lib.itoa z with
    | nil => rw [hd] at h; cases h
    | cons a r =>
      rw [hd] at h hp
      have e : a = 120 := Option.some.inj h
      subst e
      rw [Lib.parseIntB_plain 64 120 r (by decide) (by decide)] at hp
      exact absurd hp (by rw [Lib.parseUintB, if_neg (by simp), Lib.parseUintM, if_neg (by decide)]; intro q; cases q)
theorem gT_print {b : Nat} (hb : b < 18446744073709551616) (hf : fixB b = b) : gT (printT b) = b := by
  rcases print_kinds hf with ⟨e, p⟩ | ⟨e, p⟩ | ⟨e, p⟩ | ⟨e, p⟩ | ⟨hz, hw, p⟩ | p <;> rw [p]
  · rw [e]; rfl
  · rw [e]; rfl
  · rw [e]; rfl
  · rw [e]; rfl
  · have hi := intB_lt (wholeB_rung hw)
    obtain ⟨q1, q2, q3, q4, q5⟩ := itoa_shape hi.1 hi.2
    unfold gT
    rw [if_neg q1, if_neg q2, if_neg q3, if_neg q4, if_neg q5]
    unfold giT
    rw [parseIntB_itoa _ hi.1 hi.2]
    exact int_back hb hz hw
  · unfold gT
    rw [if_neg (fun q => by have := congrArg List.length q; rw [List.length_cons, hexN_length] at this; simp at this), if_neg (fun q => by have := congrArg List.length q; rw [List.length_cons, hexN_length] at this; simp at this), if_neg (fun q => by have := congrArg List.length q; rw [List.length_cons, hexN_length] at this; simp at this), if_neg (fun q => by have := congrArg List.length q; rw [List.length_cons, hexN_length] at this; simp at this), if_pos (show (120 :: hexN 16 b).head? = some 120 from rfl)]
    show gbT (hexN 16 b) = b
    have hr := readL_hexN 16 b 0 (by omega)
    rw [Nat.zero_mul, Nat.zero_add] at hr
    have hl := hexN_length 16 b
    unfold gbT pu16
    rw [if_neg (fun q => by rw [q] at hl; simp at hl), parse16_of _ _ _ hr hb]
    exact hf
theorem spT_0 : spT 0 = [110, 97, 110] := printT_nan (by decide)
theorem spT_1 : spT 1 = [105, 110, 102] := printT_inf
theorem spT_2 : spT 2 = [45, 105, 110, 102] := printT_ninf
theorem spT_3 : spT 3 = [45, 48] := printT_nzero
theorem readR_some {base n : Nat} {l : List UInt8} (h1 : 1 ≤ l.length) (h2 : l.length ≤ 16) (h : readL base 0 l = some n) : readR base l = (n, true) := by
  unfold readR
  rw [if_neg (by omega), h]
theorem gR_print {b : Nat} (hb : b < 18446744073709551616) (hf : fixB b = b) : gR (printT b) = b := by
  rcases print_kinds hf with ⟨e, p⟩ | ⟨e, p⟩ | ⟨e, p⟩ | ⟨e, p⟩ | ⟨hz, hw, p⟩ | p <;> rw [p]
  · rw [e, ← spT_0]; unfold gR; rw [if_pos rfl]; rfl
  · rw [e]; unfold gR; rw [spT_0, if_neg (by decide), spT_1, if_pos rfl]; rfl
  · rw [e]; unfold gR; rw [spT_0, if_neg (by decide), spT_1, if_neg (by decide), spT_2, if_pos rfl]; rfl
  · rw [e]; unfold gR; rw [spT_0, if_neg (by decide), spT_1, if_neg (by decide), spT_2, if_neg (by decide), spT_3, if_pos rfl]; rfl
  · have hi := intB_lt (wholeB_rung hw)
    obtain ⟨q1, q2, q3, q4, q5⟩ := itoa_shape hi.1 hi.2
    have hbk := int_back hb hz hw
    rw [gR_rest _ (fun j hj => by
      match j, hj with
      | 0, _ => rw [spT_0]; exact q1
      | 1, _ => rw [spT_1]; exact q2
      | 2, _ => rw [spT_2]; exact q3
      | 3, _ => rw [spT_3]; exact q4)]
    unfold grT
    rw [if_neg (fun q => q5 q.2)]
    generalize intB b = z at *
    have hlen : ∀ m : Nat, m < 9007199254740992 → readR 10 (Lib.decDigits m) = (m, true) := fun m hm =>
      readR_some (dec_pos m) (by rw [Lib.decDigits_length]; exact nDigits_of_lt 16 m (by omega) (by decide)) (readL_dec m)
    by_cases h : z < 0
    · obtain ⟨m, rfl⟩ : ∃ m : Nat, z = -(m : Int) := ⟨z.natAbs, by omega⟩
      rw [Lib.itoa_neg m (by omega), if_pos (show (45 :: Lib.decDigits m).head? = some 45 from rfl)]
      show floatOfInt .f64 ((readR 10 (Lib.decDigits m)).1 : Int) ^^^ 9223372036854775808 = b
      rw [hlen m (by omega)]
      show fl m ^^^ 9223372036854775808 = b
      rw [floatOfInt_neg (by omega) (by omega)] at hbk
      have h1 := (fl_val (n := m) (by omega)).1
      rw [xor_low (by omega), ← hbk]
      unfold nfl
      show fl m + 9223372036854775808 = 9223372036854775808 + fl m
      omega
    · obtain ⟨m, rfl⟩ : ∃ m : Nat, z = (m : Int) := ⟨z.toNat, by omega⟩
      rw [Lib.itoa_nonneg] at q5 ⊢
      have hh : (Lib.decDigits m).head? ≠ some 45 := by
        intro q
        have hp := readL_dec m
        cases hd : Lib.decDigits m with
        | nil => rw [hd] at q; cases q
        | cons a r =>
          rw [hd] at q hp
          have e : a = 45 := Option.some.inj q
          subst e
          have hp' : (if dvN 45 < 10 then readL 10 (0 * 10 + dvN 45) r else none) = some m := hp
          rw [if_neg (by decide)] at hp'
          cases hp'
      rw [if_neg hh, hlen m (by omega)]
      exact hbk
  · have hl := hexN_length 16 b
    rw [gR_rest _ (fun j hj => by
      match j, hj with
      | 0, _ => rw [spT_0]; intro q; have := congrArg List.length q; rw [List.length_cons, hl] at this; simp at this
      | 1, _ => rw [spT_1]; intro q; have := congrArg List.length q; rw [List.length_cons, hl] at this; simp at this
      | 2, _ => rw [spT_2]; intro q; have := congrArg List.length q; rw [List.length_cons, hl] at this; simp at this
      | 3, _ => rw [spT_3]; intro q; have := congrArg List.length q; rw [List.length_cons, hl] at this; simp at this)]
    unfold grT
    rw [if_pos ⟨by rw [List.length_cons, hl], rfl⟩]
    show fixB (readR 16 (hexN 16 b)).1 = b
    have hr := readL_hexN 16 b 0 (by omega)
    rw [Nat.zero_mul, Nat.zero_add] at hr
    rw [readR_some (by omega) (by omega) hr]
    exact hf
theorem readL_lt {base : Nat} (hb : 1 ≤ base) : ∀ (l : List UInt8) (acc n : Nat), readL base acc l = some n → n < (acc + 1) * base ^ l.length
  | [], acc, n, h => by
    have : acc = n := Option.some.inj h
    simp
    omega
  | c :: l, acc, n, h => by
    have h' : (if dvN c < base then readL base (acc * base + dvN c) l else none) = some n := h
    split at h'
    · rename_i g
      have ih := readL_lt hb l _ n h'
      have h1 : acc * base + dvN c + 1 ≤ (acc + 1) * base := by rw [Nat.add_mul]; omega
      have h2 := Nat.mul_le_mul_right (base ^ l.length) h1
      rw [List.length_cons, Nat.pow_succ, Nat.mul_comm (base ^ l.length) base, ← Nat.mul_assoc]
      omega
    · cases h'
theorem readR_lt (l : List UInt8) : (readR 16 l).1 < 18446744073709551616 := by
  unfold readR
  split
  · decide
  · rename_i hl
    split
    · rename_i n h
      have h1 := readL_lt (by decide) l 0 n h
      have h2 : 16 ^ l.length ≤ 16 ^ 16 := Nat.pow_le_pow_right (by decide) (by omega)
      have h3 : 16 ^ 16 = 18446744073709551616 := by decide
      show n < _
      omega
    · decide
theorem gR_lt (l : List UInt8) : gR l < 18446744073709551616 := by
  have h1 := floatOfInt_lt ((readR 10 l).1 : Int)
  have h2 := (xor_shape (floatOfInt_lt ((readR 10 l.tail).1 : Int))).1
  have h3 := fixB_lt (readR_lt l.tail)
  have h4 : grT l < 18446744073709551616 := by
    unfold grT
    split
    · exact h3
    · split
      · exact h2
      · exact h1
  unfold gR
  split
  · exact spN_lt 0
  · split
    · exact spN_lt 1
    · split
      · exact spN_lt 2
      · split
        · exact spN_lt 3
        · exact h4
/-- a guess that is right is the one number -/
theorem right_fix {g : List UInt8 → Nat} (hn : g [110, 97, 110] = 9221120237041090560) {l : List UInt8} (h : printT (g l) = l) : fixB (g l) = g l := by
  cases hq : nan (g l)
  · exact fixB_num hq
  · have e : l = [110, 97, 110] := by rw [← h]; exact printT_nan hq
    rw [e, hn]
    decide
theorem gR_nan : gR [110, 97, 110] = 9221120237041090560 := by
  rw [← spT_0]
  unfold gR
  rw [if_pos rfl]
  rfl
theorem parseR_ref (l : List UInt8) : parseR l = if l = printT (gR l) then (gR l, 0) else (0, 20) := by
  unfold parseR
  by_cases h : l = printT (gR l)
  · rw [if_pos h]
    have hf := right_fix gR_nan h.symm
    have e : gT l = gR l := by
      have := gT_print (gR_lt l) hf
      rw [← h] at this
      exact this
    rw [e, if_pos h.symm]
  · rw [if_neg h]
    by_cases h2 : printT (gT l) = l
    · exfalso
      have hf := right_fix (g := gT) rfl h2
      have e : gR l = gT l := by
        have := gR_print (gT_lt l) hf
        rw [h2] at this
        exact this
      exact h (by rw [e]; exact h2.symm)
    · rw [if_neg h2]
theorem parseR_print {b : Nat} (hb : b < 18446744073709551616) : parseR (printT b) = (fixB b, 0) := by
  have e := gT_print (fixB_lt hb) (fixB_fixB b)
  rw [printT_fix] at e
  unfold parseR
  rw [e, if_pos (printT_fix b)]
theorem printT_inj {a b : Nat} (ha : a < 18446744073709551616) (hb : b < 18446744073709551616) : (printT a = printT b) ↔ fixB a = fixB b := by
  constructor
  · intro h
    have h1 := parseR_print ha
    rw [h, parseR_print hb] at h1
    exact (congrArg Prod.fst h1).symm
  · intro h
    rw [← printT_fix a, h, printT_fix]

set_option maxHeartbeats 4000000 in
set_option maxRecDepth 100000 in
theorem refParse_any (s : ByteArray) (w : World) :
    Calls Tryz.prog 53 #[.string s] w fun e w' => e = .returned (.tuple #[.float .f64 (parseR s.data.toList).1, .int .i64 (parseR s.data.toList).2]) ∧ Below w.heap.size w w' := by
  have HC := Lib.hid (refGuess_any s w)
  have HL := Lib.hid (gR_lt s.data.toList)
  rw [parseR_ref]
  by_cases h : s.data.toList = printT (gR s.data.toList)
  · rw [if_pos h]
    have hq := str_eq h
    clear h
    generalize gR s.data.toList = x at *
    go_enter Tryz.func53, Tryz.ntmps53
    go_wp2_with (first | (go_at_call 74; refine HC.out.mono ?_; rintro e w1 ⟨rfl, hw⟩) | (go_at_call 44; refine (refPrint_any _ _ HL.out).mono ?_; rintro e w2 ⟨rfl, hw2⟩; subst w2))
    go_ret2
    exact ⟨rfl, hw⟩
  · rw [if_neg h]
    have hq := str_ne h
    clear h
    generalize gR s.data.toList = x at *
    go_enter Tryz.func53, Tryz.ntmps53
    go_wp2_with (first | (go_at_call 74; refine HC.out.mono ?_; rintro e w1 ⟨rfl, hw⟩) | (go_at_call 44; refine (refPrint_any _ _ HL.out).mono ?_; rintro e w2 ⟨rfl, hw2⟩; subst w2))
    go_ret2
    exact ⟨rfl, hw⟩
end Go.Proofs.YtlnobfmbnnfbdaaGreatDoor
