import Derived.Test.YtaliehikdidiaaaGreatDoorNum
namespace Go.Proofs.YtaliehikdidiaaaGreatDoor.Num
open Ieee

/-- how many of the least numbers make 1 -/
def pw (n : Nat) : Nat := 2 ^ n
theorem pw_pos (n : Nat) : 0 < pw n := Nat.two_pow_pos n
def unit : Nat := pw 1074
theorem unit_pos : 0 < unit := pw_pos _
/-- a number's whole part, without its sign -/
def truncN (b : Nat) : Nat := val (rung b) / unit

theorem cut_zero (s : Bool) (n drop : Nat) : Toward.zero.cut s n drop = n / 2 ^ drop := by
  unfold Toward.cut
  simp only [Nat.shiftLeft_eq, Nat.one_mul, Bool.toNat_false, Nat.add_zero]
  by_cases h : drop ≤ n.log2 + 2
  · rw [Nat.min_eq_left h]
  · rw [Nat.min_eq_right (by omega)]
    have h1 : n < 2 ^ (n.log2 + 2) := Nat.lt_of_lt_of_le Nat.lt_log2_self (Nat.pow_le_pow_right (by decide) (by omega))
    have h2 : n < 2 ^ drop := Nat.lt_of_lt_of_le h1 (Nat.pow_le_pow_right (by decide) (by omega))
    rw [Nat.div_eq_of_lt h1, Nat.div_eq_of_lt h2]
theorem cut_down_pos (n drop : Nat) : Toward.down.cut false n drop = Toward.zero.cut false n drop := rfl

theorem shift_div' (E m k : Nat) : (m <<< ((-(E : Int) + (k : Int)).toNat)) / 2 ^ ((-(-(E : Int) + (k : Int))).toNat) = m * 2 ^ k / pw E := by
  unfold pw
  rw [Nat.shiftLeft_eq]
  by_cases h : E ≤ k
  · rw [show (-(-(E : Int) + (k : Int))).toNat = 0 by omega, show (-(E : Int) + (k : Int)).toNat = k - E by omega, Nat.pow_zero, Nat.div_one]
    have e : 2 ^ k = 2 ^ (k - E) * 2 ^ E := by rw [← Nat.pow_add, show k - E + E = k by omega]
    rw [e, ← Nat.mul_assoc, Nat.mul_div_cancel _ (Nat.two_pow_pos _)]
  · rw [show (-(E : Int) + (k : Int)).toNat = 0 by omega, show (-(-(E : Int) + (k : Int))).toNat = E - k by omega, Nat.pow_zero, Nat.mul_one]
    have e : 2 ^ E = 2 ^ (E - k) * 2 ^ k := by rw [← Nat.pow_add, show E - k + k = E by omega]
    rw [e, Nat.mul_div_mul_right _ _ (Nat.two_pow_pos _)]
theorem shift_div (m k : Nat) : (m <<< ((-1074 + (k : Int)).toNat)) / 2 ^ ((-(-1074 + (k : Int))).toNat) = m * 2 ^ k / unit := shift_div' 1074 m k

theorem toInt_fin {b : Nat} (h : rung b < 9218868437227405312) : (FloatKind.f64.decode b).toInt .zero = some (if neg b then -(truncN b : Int) else truncN b) := by
  obtain ⟨m, k, e, hv⟩ := read_fin h
  show (double.read b).toInt .zero = _
  rw [e]
  unfold Datum.toInt Datum.integral
  dsimp only
  rw [cut_zero, shift_div, hv]
  unfold signed truncN
  simp only [Nat.shiftLeft_eq, Nat.pow_zero, Nat.mul_one]

/-- from 0 on: the whole part as an integer of either kind -/
theorem conv_pos {b : Nat} (k : IntKind) (h : rung b < 9218868437227405312) (hk : 0 ≤ key b) (hmin : k.min ≤ 0) (hmax : (truncN b : Int) ≤ k.max) : floatToIntVal .f64 b k = some ((truncN b : Nat) : Int) := by
  unfold floatToIntVal
  rw [toInt_fin h]
  have e : (if neg b then -(truncN b : Int) else truncN b) = truncN b := by
    cases hn : neg b
    · rfl
    · unfold key at hk
      rw [hn] at hk
      have r0 : rung b = 0 := by simp at hk; omega
      unfold truncN; rw [r0, show val 0 = 0 from rfl, Nat.zero_div]; rfl
  rw [e]
  dsimp only
  rw [if_pos ⟨by omega, hmax⟩]

theorem val_big53 : val 4845873199050653696 = 9007199254740992 * unit := by decide +kernel
theorem val_big63 : val 4890909195324358656 = 9223372036854775808 * unit := by decide +kernel
theorem key_pos {b : Nat} (h : 0 ≤ key b) : key b = rung b := by
  unfold key at *
  cases hn : neg b
  · rfl
  · rw [hn] at h; simp at h ⊢; omega
theorem trunc_lt {b c m : Nat} (h : rung b < c) (hc : val c = m * unit) : truncN b < m := by
  unfold truncN
  rw [Nat.div_lt_iff_lt_mul unit_pos, ← hc]
  exact val_lt h

/-- from +0 on the floor is the whole part -/
theorem floorB_pos {b : Nat} (h : rung b < 9218868437227405312) (hn : neg b = false) : floorB b = floatOfInt .f64 (truncN b) := by
  obtain ⟨m, k, e, hv⟩ := read_fin h
  unfold floorB
  rw [show FloatKind.f64.decode b = _ from e, hn]
  unfold Datum.integral
  dsimp only
  rw [cut_down_pos, cut_zero, shift_div, hv]
  rfl
theorem floorB_negzero : floorB 9223372036854775808 = 9223372036854775808 := by decide +kernel

/-- is a number from 0 on whole? asked in two ways -/
theorem whole_two {b : Nat} (hb : b < 18446744073709551616) (h : rung b < 9218868437227405312) (hk : 0 ≤ key b) : (FloatKind.f64.format.order (floatOfInt .f64 (truncN b)) b == some .eq) = (FloatKind.f64.format.order b (floorB b) == some .eq) := by
  have sym : ∀ x y, (FloatKind.f64.format.order x y == some .eq) = (FloatKind.f64.format.order y x == some .eq) := by
    intro x y
    rcases order_cases x y with ⟨o, n⟩ | ⟨n1, n2, ⟨o, k1⟩ | ⟨o, k1⟩ | ⟨o, k1⟩⟩ <;> rcases order_cases y x with ⟨p, q⟩ | ⟨q1, q2, ⟨p, k2⟩ | ⟨p, k2⟩ | ⟨p, k2⟩⟩ <;> rw [o, p] <;> first | rfl | omega | (rcases n with n | n <;> simp_all) | (rcases q with n | n <;> simp_all)
  rcases shape hb with ⟨_, hn, _⟩ | ⟨g, hn, hr⟩
  · rw [floorB_pos h hn, sym]
  · have : b = 9223372036854775808 := by unfold key at hk; rw [hn, hr] at hk; simp at hk; omega
    subst this
    rw [floorB_negzero]
    decide +kernel

/-- whole, from 0 on, below 2^53 -/
def cntB (b : Nat) : Bool := !nan b && decide (0 ≤ key b) && decide (key b < 4845873199050653696) && FloatKind.f64.format.order (floatOfInt .f64 (truncN b)) b == some .eq
def minV (a b : Nat) : Nat := if nan a || nan b then 9221120237041090560 else if cmpB b a < 0 then b else a
def maxV (a b : Nat) : Nat := if nan a || nan b then 9221120237041090560 else if 0 < cmpB b a then b else a
def modV (a b : Nat) : Nat := if cntB a && cntB b && !(FloatKind.f64.format.order b 4607182418800017408 == some .lt) then fixB (floatOfInt .f64 ((truncN a % truncN b : Nat) : Int)) else 9221120237041090560
theorem key_big53 : key 4845873199050653696 = 4845873199050653696 := by decide +kernel
theorem key_one : key 4607182418800017408 = 4607182418800017408 := by decide +kernel
theorem nan_big53 : nan 4845873199050653696 = false := by decide +kernel
theorem nan_one : nan 4607182418800017408 = false := by decide +kernel
theorem val_one : val 4607182418800017408 = unit := by decide +kernel
theorem trunc53 {b : Nat} (h0 : 0 ≤ key b) (h1 : key b < 4845873199050653696) : truncN b < 9007199254740992 := by
  have := key_pos h0
  exact trunc_lt (by omega) val_big53
theorem conv53 {b : Nat} (h0 : 0 ≤ key b) (h1 : key b < 4845873199050653696) : floatToIntVal .f64 b .u64 = some ((truncN b : Nat) : Int) ∧ floatToIntVal .f64 b .i64 = some ((truncN b : Nat) : Int) := by
  have h2 := trunc53 h0 h1
  have h3 := key_pos h0
  have m1 : IntKind.u64.max = 18446744073709551615 := by decide
  have m2 : IntKind.i64.max = 9223372036854775807 := by decide
  exact ⟨conv_pos .u64 (by omega) h0 (by decide) (by omega), conv_pos .i64 (by omega) h0 (by decide) (by omega)⟩
theorem trunc_ge1 {b : Nat} (h : 4607182418800017408 ≤ key b) : 0 < truncN b := by
  have := key_pos (b := b) (by omega)
  unfold truncN
  apply Nat.div_pos _ unit_pos
  rw [← val_one]
  rcases Nat.eq_or_lt_of_le (show 4607182418800017408 ≤ rung b by omega) with e | e
  · rw [← e]; exact Nat.le_refl _
  · exact Nat.le_of_lt (val_lt e)
theorem cntB_true {b : Nat} (h : cntB b = true) : nan b = false ∧ 0 ≤ key b ∧ key b < 4845873199050653696 := by
  unfold cntB at h
  simp only [Bool.and_eq_true, Bool.not_eq_true', decide_eq_true_eq] at h
  exact ⟨h.1.1.1, h.1.1.2, h.1.2⟩
theorem cmpB_flip (a b : Nat) : cmpB b a = -cmpB a b := by
  unfold cmpB; split <;> split <;> (try split) <;> omega
theorem cmpB_nan_last {a b : Nat} (hb : b < 18446744073709551616) (h : nan a = true) : 0 ≤ cmpB a b := by
  have : place a = 18444492273895866368 := by unfold place; rw [fixB_nan h]; decide
  unfold cmpB
  rcases kinds hb with k | k | k | k | k <;> (split <;> (try split) <;> omega)
theorem cmpB_nan_first {a b : Nat} (ha : a < 18446744073709551616) (h : nan a = false) (hb : nan b = true) : cmpB b a = 1 := by
  have : place b = 18444492273895866368 := by unfold place; rw [fixB_nan hb]; decide
  apply cmpB_gt
  rcases kinds ha with k | k | k | k | k <;> first | omega | (rw [h] at k; cases k.1)
theorem minV_fix (a b : Nat) : minV (fixB a) (fixB b) = minV a b := by
  unfold minV
  rw [nan_fixB, nan_fixB, cmpB_fix]
  cases ha : nan a <;> cases hb : nan b
  · rw [fixB_num ha, fixB_num hb]
  · rfl
  · rfl
  · rfl
theorem maxV_fix (a b : Nat) : maxV (fixB a) (fixB b) = maxV a b := by
  unfold maxV
  rw [nan_fixB, nan_fixB, cmpB_fix]
  cases ha : nan a <;> cases hb : nan b
  · rw [fixB_num ha, fixB_num hb]
  · rfl
  · rfl
  · rfl
theorem cntB_nan {b : Nat} (h : nan b = true) : cntB b = false := by unfold cntB; rw [h]; rfl
theorem modV_left {a b : Nat} (h : cntB a = false) : modV a b = 9221120237041090560 := by
  unfold modV; rw [h, Bool.false_and, Bool.false_and, if_neg Bool.false_ne_true]
theorem modV_right {a b : Nat} (h : cntB b = false) : modV a b = 9221120237041090560 := by
  unfold modV; rw [h, Bool.and_false, Bool.false_and, if_neg Bool.false_ne_true]
theorem modV_low {a b : Nat} (h : (FloatKind.f64.format.order b 4607182418800017408 == some .lt) = true) : modV a b = 9221120237041090560 := by
  unfold modV; rw [h, Bool.not_true, Bool.and_false, if_neg Bool.false_ne_true]
theorem modV_fine {a b : Nat} (ha : cntB a = true) (hb : cntB b = true) (h : (FloatKind.f64.format.order b 4607182418800017408 == some .lt) = false) : modV a b = fixB (floatOfInt .f64 ((truncN a % truncN b : Nat) : Int)) := by
  unfold modV; rw [ha, hb, h, Bool.and_self, Bool.not_false, Bool.and_self, if_pos rfl]
theorem modV_fix (a b : Nat) : modV (fixB a) (fixB b) = modV a b := by
  cases ha : nan a
  · cases hb : nan b
    · rw [fixB_num ha, fixB_num hb]
    · rw [modV_right (cntB_nan hb), modV_right (cntB_nan (by rw [nan_fixB]; exact hb))]
  · rw [modV_left (cntB_nan ha), modV_left (cntB_nan (by rw [nan_fixB]; exact ha))]
theorem fixB_min (a b : Nat) : fixB (minV a b) = minV a b := by
  unfold minV
  cases ha : nan a <;> cases hb : nan b
  · simp only [Bool.or_self, Bool.false_eq_true, if_false]; split
    · exact fixB_num hb
    · exact fixB_num ha
  all_goals (simp; decide)
theorem fixB_max (a b : Nat) : fixB (maxV a b) = maxV a b := by
  unfold maxV
  cases ha : nan a <;> cases hb : nan b
  · simp only [Bool.or_self, Bool.false_eq_true, if_false]; split
    · exact fixB_num hb
    · exact fixB_num ha
  all_goals (simp; decide)
theorem fixB_mod (a b : Nat) : fixB (modV a b) = modV a b := by
  unfold modV
  split
  · exact fixB_fixB _
  · decide
end Go.Proofs.YtaliehikdidiaaaGreatDoor.Num
