import Derived.Test.YtlkldgopliablaaGreatDoorGr
import Derived.Test.YtlkldgopliablaaGreatDoorWalkG
import Derived.WalkKit
import Derived.ProofKit
import Derived.OpenShut
import Derived.WalkLawsBesides
import Derived.Laws.EntriesVeiled
namespace Go.Proofs.YtlkldgopliablaaGreatDoor
open Go.ChangeShapes Go.WideShapes Go.ChangeAt Go.RowKit Num
attribute [local go_sem] frombits_run bits_run

/-! the document's 'whole' -/
theorem whole_no (b l : Nat) (w : World) (h : FloatKind.f64.format.order b l = none ∨ FloatKind.f64.format.order b l = some .lt) : Calls Tryz.prog 193 #[.float .f64 b, .float .f64 l] w fun e w' => e = .returned (.bool false) ∧ w' = w := by
  rcases h with o | o
  all_goals
    go_enter Tryz.func193, Tryz.ntmps193
    go_wp2
    go_ret
    exact ⟨rfl, rfl⟩
theorem whole_big (b l : Nat) (w : World) (o : FloatKind.f64.format.order b l = some .gt ∨ FloatKind.f64.format.order b l = some .eq) (p : FloatKind.f64.format.order b 4845873199050653696 = some .gt ∨ FloatKind.f64.format.order b 4845873199050653696 = some .eq) : Calls Tryz.prog 193 #[.float .f64 b, .float .f64 l] w fun e w' => e = .returned (.bool false) ∧ w' = w := by
  rcases o with o | o <;> rcases p with p | p
  all_goals
    go_enter Tryz.func193, Tryz.ntmps193
    go_wp2
    go_ret
    exact ⟨rfl, rfl⟩
theorem whole_in (b l : Nat) (w : World) (nn : nan b = false) (o : FloatKind.f64.format.order b l = some .gt ∨ FloatKind.f64.format.order b l = some .eq) (p : FloatKind.f64.format.order b 4845873199050653696 = some .lt) : Calls Tryz.prog 193 #[.float .f64 b, .float .f64 l] w fun e w' => e = .returned (.bool (FloatKind.f64.format.order b (floorB b) == some .eq)) ∧ w' = w := by
  rcases o with o | o
  all_goals
    go_enter Tryz.func193, Tryz.ntmps193
    go_wp2_with (go_at_call 171; refine (mathFloor_num _ _ nn).mono ?_; rintro e w' ⟨rfl, rfl⟩)
    go_ret
    exact ⟨rfl, rfl⟩
theorem cnt_no {b : Nat} (h : nan b = true ∨ key b < 0 ∨ ¬ key b < 4845873199050653696) : cntB b = false := by
  unfold cntB
  rcases h with h | h | h
  · rw [h]; rfl
  · rw [decide_eq_false (by omega : ¬ 0 ≤ key b), Bool.and_false, Bool.false_and, Bool.false_and]
  · rw [decide_eq_false h, Bool.and_false, Bool.false_and]
theorem cnt_in {b : Nat} (hb : b < 18446744073709551616) (n : nan b = false) (h0 : 0 ≤ key b) (hl : key b < 4845873199050653696) : cntB b = (FloatKind.f64.format.order b (floorB b) == some .eq) := by
  rw [← whole_two hb (by have := key_pos h0; omega) h0]
  unfold cntB; rw [n, decide_eq_true h0, decide_eq_true hl]; rfl
/-- 'whole' with a least number from 0 on -/
theorem whole_any (b l : Nat) (w : World) (hb : b < 18446744073709551616) (nl : nan l = false) (kl : 0 ≤ key l) : Calls Tryz.prog 193 #[.float .f64 b, .float .f64 l] w fun e w' => e = .returned (.bool (cntB b && !(FloatKind.f64.format.order b l == some .lt))) ∧ w' = w := by
  have k5 := key_big53
  rcases order_cases b l with ⟨o, n⟩ | ⟨n, _, ho⟩
  · have n' : nan b = true := by rcases n with n | n; exact n; rw [nl] at n; cases n
    rw [cnt_no (.inl n'), Bool.false_and]
    exact whole_no b l w (.inl o)
  · by_cases hk : key b < key l
    · have o : FloatKind.f64.format.order b l = some .lt := by rcases ho with h | h | h <;> first | exact h.1 | omega
      have e : (FloatKind.f64.format.order b l == some .lt) = true := by rw [o]; rfl
      rw [e, Bool.not_true, Bool.and_false]
      exact whole_no b l w (.inr o)
    · have o : FloatKind.f64.format.order b l = some .gt ∨ FloatKind.f64.format.order b l = some .eq := by rcases ho with h | h | h <;> first | exact .inl h.1 | exact .inr h.1 | omega
      have e : (FloatKind.f64.format.order b l == some .lt) = false := by rcases o with o | o <;> rw [o] <;> rfl
      rw [e, Bool.not_false, Bool.and_true]
      rcases order_cases b 4845873199050653696 with ⟨_, g | g⟩ | ⟨_, _, hp⟩
      · rw [n] at g; cases g
      · rw [nan_big53] at g; cases g
      · by_cases hl : key b < 4845873199050653696
        · rw [cnt_in hb n (by omega) hl]
          exact whole_in b l w n o (by rcases hp with h | h | h <;> first | exact h.1 | omega)
        · rw [cnt_no (.inr (.inr hl))]
          exact whole_big b l w o (by rcases hp with h | h | h <;> first | exact .inl h.1 | exact .inr h.1 | omega)
theorem whole0_any (b : Nat) (w : World) (hb : b < 18446744073709551616) : Calls Tryz.prog 193 #[.float .f64 b, .float .f64 0] w fun e w' => e = .returned (.bool (cntB b)) ∧ w' = w := by
  have h := whole_any b 0 w hb nan_zero (by rw [key_zero]; omega)
  have e : (cntB b && !(FloatKind.f64.format.order b 0 == some .lt)) = cntB b := by
    cases c : cntB b
    · rfl
    · obtain ⟨n, k, _⟩ := cntB_true c
      have k0 := key_zero
      rcases order_cases b 0 with ⟨_, g | g⟩ | ⟨_, _, g | g | g⟩
      · rw [n] at g; cases g
      · rw [nan_zero] at g; cases g
      · omega
      · rw [g.1]; rfl
      · rw [g.1]; rfl
  rw [e] at h
  exact h
theorem refMod_any (a b : Nat) (w : World) (ha : a < 18446744073709551616) (hb : b < 18446744073709551616) : Calls Tryz.prog 175 #[.float .f64 a, .float .f64 b] w fun e w' => ∃ r n, e = .returned (.float .f64 r) ∧ fixB r = modV a b ∧ w' = w.drewN n := by
  have hn : fixB 9221120237041090560 = 9221120237041090560 := by decide
  have W0 : Hid (∀ w, Calls Tryz.prog 193 #[.float .f64 a, .float .f64 0] w fun e w' => e = .returned (.bool (cntB a)) ∧ w' = w) := fun w => whole0_any a w ha
  cases c1 : (cntB b && !(FloatKind.f64.format.order b 4607182418800017408 == some .lt))
  · have W1 : Hid (∀ w, Calls Tryz.prog 193 #[.float .f64 b, .float .f64 4607182418800017408] w fun e w' => e = .returned (.bool false) ∧ w' = w) := fun w => by
      have h := whole_any b 4607182418800017408 w hb nan_one (by rw [key_one]; omega)
      rw [c1] at h; exact h
    have e : modV a b = 9221120237041090560 := by
      cases cb : cntB b
      · exact modV_right cb
      · rw [cb, Bool.true_and, Bool.not_eq_false'] at c1
        exact modV_low c1
    rw [e]
    clear c1 e ha hb
    cases ca : cntB a
    all_goals
      go_enter Tryz.func175, Tryz.ntmps175
      go_wp2_with fail
      refine (W0.out _).mono ?_
      rintro e w' ⟨rfl, rfl⟩
      go_wp2_with fail
      refine (W1.out _).mono ?_
      rintro e w' ⟨rfl, rfl⟩
      go_wp2_with (go_at_call 170; refine (refOf_any 9221120237041090560 _).mono ?_; rintro e w' ⟨rfl, rfl⟩)
      go_ret
      exact ⟨_, 0, rfl, hn, rfl⟩
  · have W1 : Hid (∀ w, Calls Tryz.prog 193 #[.float .f64 b, .float .f64 4607182418800017408] w fun e w' => e = .returned (.bool true) ∧ w' = w) := fun w => by
      have h := whole_any b 4607182418800017408 w hb nan_one (by rw [key_one]; omega)
      rw [c1] at h; exact h
    rw [Bool.and_eq_true, Bool.not_eq_true'] at c1
    obtain ⟨cb, ob⟩ := c1
    cases ca : cntB a
    · rw [modV_left ca]
      clear cb ob ha hb
      go_enter Tryz.func175, Tryz.ntmps175
      go_wp2_with fail
      refine (W0.out _).mono ?_
      rintro e w' ⟨rfl, rfl⟩
      go_wp2_with fail
      refine (W1.out _).mono ?_
      rintro e w' ⟨rfl, rfl⟩
      go_wp2_with (go_at_call 170; refine (refOf_any 9221120237041090560 _).mono ?_; rintro e w' ⟨rfl, rfl⟩)
      go_ret
      exact ⟨_, 0, rfl, hn, rfl⟩
    · obtain ⟨na, ka, la⟩ := cntB_true ca
      obtain ⟨nb, kb, lb⟩ := cntB_true cb
      have k1 := key_one
      have hge : 4607182418800017408 ≤ key b := by
        rcases order_cases b 4607182418800017408 with ⟨_, g | g⟩ | ⟨_, _, h | h | h⟩
        · rw [nb] at g; cases g
        · rw [nan_one] at g; cases g
        · rw [h.1] at ob; cases ob
        · omega
        · omega
      have hp := trunc_ge1 hge
      have t1 := trunc53 ka la
      have t2 := trunc53 kb lb
      have c1 := (conv53 ka la).2
      have c2 := (conv53 kb lb).2
      have u1 := fun (w : World) => run_convert_float_int (P := Tryz.prog) w 71 3 .f64 .i64 a _ (by rw [Tryz.underlying71]; rfl) Tryz.underlying3 c1
      have u2 := fun (w : World) => run_convert_float_int (P := Tryz.prog) w 71 3 .f64 .i64 b _ (by rw [Tryz.underlying71]; rfl) Tryz.underlying3 c2
      have HM : Hid (modV a b = fixB (floatOfInt .f64 ((truncN a % truncN b : Nat) : Int))) := modV_fine ca cb ob
      clear na ka la nb kb lb k1 hge c1 c2 ob cb ha hb
      generalize truncN a = x at *
      generalize truncN b = y at *
      go_enter Tryz.func175, Tryz.ntmps175
      go_wp2_with fail
      refine (W0.out _).mono ?_
      rintro e w' ⟨rfl, rfl⟩
      go_wp2_with fail
      refine (W1.out _).mono ?_
      rintro e w' ⟨rfl, rfl⟩
      go_wp2
      go_ret
      refine ⟨_, 0, rfl, ?_, rfl⟩
      rw [HM.out]
      rfl
/-! the document's 'first' -/
theorem first_any (a b : Nat) (s : Int) (w : World) (ha : a < 18446744073709551616) (hb : b < 18446744073709551616) : Calls Tryz.prog 176 #[.float .f64 a, .float .f64 b, .int .i64 s] w fun e w' => e = .returned (.float .f64 (if nan a || nan b then 9221120237041090560 else if cmpB a b == s then b else a)) ∧ w' = w := by
  have hn : fixB 9221120237041090560 = 9221120237041090560 := by decide
  cases na : nan a
  · have sa := self_num na
    cases nb : nan b
    · have sb := self_num nb
      simp only [Bool.or_self, Bool.false_eq_true, if_false]
      cases hc : (cmpB a b == s)
      all_goals
        simp only [Bool.false_eq_true, if_true, if_false]
        go_enter Tryz.func176, Tryz.ntmps176
        go_wp2_with (go_at_call 178; refine (refCompare_any _ _ _ ha hb).mono ?_; rintro e w' ⟨rfl, rfl⟩)
        go_ret
        exact ⟨rfl, rfl⟩
    · have sb := self_nan nb
      simp only [Bool.or_true, if_true]
      go_enter Tryz.func176, Tryz.ntmps176
      go_wp2_with (go_at_call 170; refine (refOf_any 9221120237041090560 _).mono ?_; rintro e w' ⟨rfl, rfl⟩)
      go_ret
      exact ⟨rfl, rfl⟩
  · have sa := self_nan na
    simp only [Bool.true_or, if_true]
    go_enter Tryz.func176, Tryz.ntmps176
    go_wp2_with (go_at_call 170; refine (refOf_any 9221120237041090560 _).mono ?_; rintro e w' ⟨rfl, rfl⟩)
    go_ret
    exact ⟨rfl, rfl⟩
theorem first_min (a b : Nat) (w : World) (ha : a < 18446744073709551616) (hb : b < 18446744073709551616) : Calls Tryz.prog 176 #[.float .f64 a, .float .f64 b, .int .i64 1] w fun e w' => e = .returned (.float .f64 (minV a b)) ∧ w' = w := by
  have h := first_any a b 1 w ha hb
  have f := cmpB_flip a b
  have t : cmpB a b = -1 ∨ cmpB a b = 0 ∨ cmpB a b = 1 := by unfold cmpB; split; exact .inl rfl; split; exact .inr (.inr rfl); exact .inr (.inl rfl)
  have e : minV a b = if nan a || nan b then 9221120237041090560 else if cmpB a b == 1 then b else a := by
    unfold minV
    split
    · rfl
    · rcases t with t | t | t <;> rw [f, t] <;> rfl
  rw [e]; exact h
theorem first_max (a b : Nat) (w : World) (ha : a < 18446744073709551616) (hb : b < 18446744073709551616) : Calls Tryz.prog 176 #[.float .f64 a, .float .f64 b, .int .i64 (-1)] w fun e w' => e = .returned (.float .f64 (maxV a b)) ∧ w' = w := by
  have h := first_any a b (-1) w ha hb
  have f := cmpB_flip a b
  have t : cmpB a b = -1 ∨ cmpB a b = 0 ∨ cmpB a b = 1 := by unfold cmpB; split; exact .inl rfl; split; exact .inr (.inr rfl); exact .inr (.inl rfl)
  have e : maxV a b = if nan a || nan b then 9221120237041090560 else if cmpB a b == -1 then b else a := by
    unfold maxV
    split
    · rfl
    · rcases t with t | t | t <;> rw [f, t] <;> rfl
  rw [e]; exact h

/-! the document's Two -/
theorem rtwo_none (op : Int) (a b : Nat) (w : World) (h : op ≤ 0 ∨ 13 ≤ op) : Calls Tryz.prog 148 #[.int .i64 op, .float .f64 a, .float .f64 b] w fun e w' => e = .returned (.tuple #[.float .f64 0, .int .i64 1]) ∧ Grw w w' := by
  have h1 : (op == 1) = false := by rw [beq_eq_false_iff_ne]; omega
  have h2 : (op == 2) = false := by rw [beq_eq_false_iff_ne]; omega
  have h3 : (op == 3) = false := by rw [beq_eq_false_iff_ne]; omega
  have h4 : (op == 4) = false := by rw [beq_eq_false_iff_ne]; omega
  have h5 : (op == 5) = false := by rw [beq_eq_false_iff_ne]; omega
  have h6 : (op == 6) = false := by rw [beq_eq_false_iff_ne]; omega
  have h7 : (op == 7) = false := by rw [beq_eq_false_iff_ne]; omega
  have h8 : (op == 8) = false := by rw [beq_eq_false_iff_ne]; omega
  have h9 : (op == 9) = false := by rw [beq_eq_false_iff_ne]; omega
  have h10 : (op == 10) = false := by rw [beq_eq_false_iff_ne]; omega
  have h11 : (op == 11) = false := by rw [beq_eq_false_iff_ne]; omega
  have h12 : (op == 12) = false := by rw [beq_eq_false_iff_ne]; omega
  clear h
  go_enter Tryz.func148, Tryz.ntmps148
  go_wp2
  go_ret2
  exact ⟨rfl, Grw.refl _⟩
theorem rtwo_1 (a b : Nat) (w : World) : Calls Tryz.prog 148 #[.int .i64 1, .float .f64 a, .float .f64 b] w fun e w' => e = .returned (.tuple #[.float .f64 (resV (floatBits .add .f64 a b)), .int .i64 0]) ∧ Grw w w' := by
  obtain ⟨r, n, hrun, hr⟩ := float_any (P := Tryz.prog) .add (by simp) 71 a b w
  go_enter Tryz.func148, Tryz.ntmps148
  go_wp2_with (go_at_call 74; refine (refFix_any _ _).mono ?_; rintro e w' ⟨rfl, rfl⟩)
  go_ret2
  exact ⟨rfl, grown_drewN (Grw.refl _) _⟩
theorem rtwo_2 (a b : Nat) (w : World) : Calls Tryz.prog 148 #[.int .i64 2, .float .f64 a, .float .f64 b] w fun e w' => e = .returned (.tuple #[.float .f64 (resV (floatBits .sub .f64 a b)), .int .i64 0]) ∧ Grw w w' := by
  obtain ⟨r, n, hrun, hr⟩ := float_any (P := Tryz.prog) .sub (by simp) 71 a b w
  go_enter Tryz.func148, Tryz.ntmps148
  go_wp2_with (go_at_call 74; refine (refFix_any _ _).mono ?_; rintro e w' ⟨rfl, rfl⟩)
  go_ret2
  exact ⟨rfl, grown_drewN (Grw.refl _) _⟩
theorem rtwo_3 (a b : Nat) (w : World) : Calls Tryz.prog 148 #[.int .i64 3, .float .f64 a, .float .f64 b] w fun e w' => e = .returned (.tuple #[.float .f64 (resV (floatBits .mul .f64 a b)), .int .i64 0]) ∧ Grw w w' := by
  obtain ⟨r, n, hrun, hr⟩ := float_any (P := Tryz.prog) .mul (by simp) 71 a b w
  go_enter Tryz.func148, Tryz.ntmps148
  go_wp2_with (go_at_call 74; refine (refFix_any _ _).mono ?_; rintro e w' ⟨rfl, rfl⟩)
  go_ret2
  exact ⟨rfl, grown_drewN (Grw.refl _) _⟩
theorem rtwo_4 (a b : Nat) (w : World) : Calls Tryz.prog 148 #[.int .i64 4, .float .f64 a, .float .f64 b] w fun e w' => e = .returned (.tuple #[.float .f64 (resV (floatBits .quo .f64 a b)), .int .i64 0]) ∧ Grw w w' := by
  obtain ⟨r, n, hrun, hr⟩ := float_any (P := Tryz.prog) .quo (by simp) 71 a b w
  go_enter Tryz.func148, Tryz.ntmps148
  go_wp2_with (go_at_call 74; refine (refFix_any _ _).mono ?_; rintro e w' ⟨rfl, rfl⟩)
  go_ret2
  exact ⟨rfl, grown_drewN (Grw.refl _) _⟩
theorem rtwo_5 (a b : Nat) (w : World) (ha : a < 18446744073709551616) (hb : b < 18446744073709551616) : Calls Tryz.prog 148 #[.int .i64 5, .float .f64 a, .float .f64 b] w fun e w' => e = .returned (.tuple #[.float .f64 (modV a b), .int .i64 0]) ∧ Grw w w' := by
  go_enter Tryz.func148, Tryz.ntmps148
  go_wp2_with (first | (go_at_call 175; refine (refMod_any _ _ _ ha hb).mono ?_; rintro e w' ⟨r, n, rfl, hr, rfl⟩) | (go_at_call 74; refine (refFix_any _ _).mono ?_; rintro e w' ⟨rfl, rfl⟩))
  go_ret2
  exact ⟨rfl, grown_drewN (Grw.refl _) _⟩
theorem rtwo_6 (a b : Nat) (w : World) (ha : a < 18446744073709551616) (hb : b < 18446744073709551616) : Calls Tryz.prog 148 #[.int .i64 6, .float .f64 a, .float .f64 b] w fun e w' => e = .returned (.tuple #[.float .f64 (minV a b), .int .i64 0]) ∧ Grw w w' := by
  have hi := fixB_min a b
  go_enter Tryz.func148, Tryz.ntmps148
  go_wp2_with (first | (go_at_call 176; refine (first_min _ _ _ ha hb).mono ?_; rintro e w' ⟨rfl, rfl⟩) | (go_at_call 74; refine (refFix_any _ _).mono ?_; rintro e w' ⟨rfl, rfl⟩))
  go_ret2
  exact ⟨rfl, Grw.refl _⟩
theorem rtwo_7 (a b : Nat) (w : World) (ha : a < 18446744073709551616) (hb : b < 18446744073709551616) : Calls Tryz.prog 148 #[.int .i64 7, .float .f64 a, .float .f64 b] w fun e w' => e = .returned (.tuple #[.float .f64 (maxV a b), .int .i64 0]) ∧ Grw w w' := by
  have hi := fixB_max a b
  go_enter Tryz.func148, Tryz.ntmps148
  go_wp2_with (first | (go_at_call 176; refine (first_max _ _ _ ha hb).mono ?_; rintro e w' ⟨rfl, rfl⟩) | (go_at_call 74; refine (refFix_any _ _).mono ?_; rintro e w' ⟨rfl, rfl⟩))
  go_ret2
  exact ⟨rfl, Grw.refl _⟩
theorem rtwo_8 (a b : Nat) (w : World) : Calls Tryz.prog 148 #[.int .i64 8, .float .f64 a, .float .f64 b] w fun e w' => e = .returned (.tuple #[.float .f64 (yesB (FloatKind.f64.format.order a b == some .lt)), .int .i64 0]) ∧ Grw w w' := by
  have hi := fixB_yes (FloatKind.f64.format.order a b == some .lt)
  go_enter Tryz.func148, Tryz.ntmps148
  go_wp2_with (first | (go_at_call 173; refine (refYes_any _ _).mono ?_; rintro e w' ⟨rfl, rfl⟩) | (go_at_call 74; refine (refFix_any _ _).mono ?_; rintro e w' ⟨rfl, rfl⟩))
  go_ret2
  exact ⟨rfl, Grw.refl _⟩
theorem rtwo_9 (a b : Nat) (w : World) : Calls Tryz.prog 148 #[.int .i64 9, .float .f64 a, .float .f64 b] w fun e w' => e = .returned (.tuple #[.float .f64 (yesB (FloatKind.f64.format.order a b == some .lt || FloatKind.f64.format.order a b == some .eq)), .int .i64 0]) ∧ Grw w w' := by
  have hi := fixB_yes (FloatKind.f64.format.order a b == some .lt || FloatKind.f64.format.order a b == some .eq)
  go_enter Tryz.func148, Tryz.ntmps148
  go_wp2_with (first | (go_at_call 173; refine (refYes_any _ _).mono ?_; rintro e w' ⟨rfl, rfl⟩) | (go_at_call 74; refine (refFix_any _ _).mono ?_; rintro e w' ⟨rfl, rfl⟩))
  go_ret2
  exact ⟨rfl, Grw.refl _⟩
theorem rtwo_10 (a b : Nat) (w : World) : Calls Tryz.prog 148 #[.int .i64 10, .float .f64 a, .float .f64 b] w fun e w' => e = .returned (.tuple #[.float .f64 (yesB (FloatKind.f64.format.order a b == some .eq)), .int .i64 0]) ∧ Grw w w' := by
  have hi := fixB_yes (FloatKind.f64.format.order a b == some .eq)
  go_enter Tryz.func148, Tryz.ntmps148
  go_wp2_with (first | (go_at_call 173; refine (refYes_any _ _).mono ?_; rintro e w' ⟨rfl, rfl⟩) | (go_at_call 74; refine (refFix_any _ _).mono ?_; rintro e w' ⟨rfl, rfl⟩))
  go_ret2
  exact ⟨rfl, Grw.refl _⟩
theorem rtwo_11 (a b : Nat) (w : World) : Calls Tryz.prog 148 #[.int .i64 11, .float .f64 a, .float .f64 b] w fun e w' => e = .returned (.tuple #[.float .f64 (yesB (fixB a == fixB b)), .int .i64 0]) ∧ Grw w w' := by
  have hi := fixB_yes (fixB a == fixB b)
  go_enter Tryz.func148, Tryz.ntmps148
  go_wp2_with (first | (go_at_call 177; refine (refSame_any _ _ _).mono ?_; rintro e w' ⟨rfl, rfl⟩) | (go_at_call 173; refine (refYes_any _ _).mono ?_; rintro e w' ⟨rfl, rfl⟩) | (go_at_call 74; refine (refFix_any _ _).mono ?_; rintro e w' ⟨rfl, rfl⟩))
  go_ret2
  exact ⟨rfl, Grw.refl _⟩
theorem rtwo_12 (a b : Nat) (w : World) (ha : a < 18446744073709551616) (hb : b < 18446744073709551616) : Calls Tryz.prog 148 #[.int .i64 12, .float .f64 a, .float .f64 b] w fun e w' => e = .returned (.tuple #[.float .f64 (yesB (decide (cmpB a b < 0))), .int .i64 0]) ∧ Grw w w' := by
  have hi := fixB_yes (decide (cmpB a b < 0))
  go_enter Tryz.func148, Tryz.ntmps148
  go_wp2_with (first | (go_at_call 178; refine (refCompare_any _ _ _ ha hb).mono ?_; rintro e w' ⟨rfl, rfl⟩) | (go_at_call 173; refine (refYes_any _ _).mono ?_; rintro e w' ⟨rfl, rfl⟩) | (go_at_call 74; refine (refFix_any _ _).mono ?_; rintro e w' ⟨rfl, rfl⟩))
  go_ret2
  exact ⟨rfl, Grw.refl _⟩
end Go.Proofs.YtlkldgopliablaaGreatDoor
