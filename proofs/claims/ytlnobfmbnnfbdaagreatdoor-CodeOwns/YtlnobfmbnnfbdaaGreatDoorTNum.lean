import Derived.Test.YtlnobfmbnnfbdaaGreatDoorNum4
import Derived.Lib.ItoaNum
namespace Go.Proofs.YtlnobfmbnnfbdaaGreatDoor.Num
open Ieee

/-- a whole number above -2^53 and below 2^53 -/
def wholeB (b : Nat) : Bool := decide (rung b < 4845873199050653696) && val (rung b) % unit == 0
/-- a number without what stands behind the point -/
def intB (b : Nat) : Int := if neg b then -(truncN b : Int) else truncN b

theorem trunc53r {b : Nat} (h : rung b < 4845873199050653696) : truncN b < 9007199254740992 := trunc_lt h val_big53
theorem intB_lt {b : Nat} (h : rung b < 4845873199050653696) : -9007199254740992 < intB b ∧ intB b < 9007199254740992 := by
  have := trunc53r h
  unfold intB
  split <;> omega
theorem conv_int {b : Nat} (h : rung b < 4845873199050653696) : floatToIntVal .f64 b .i64 = some (intB b) := by
  have h1 := intB_lt h
  unfold floatToIntVal
  rw [toInt_fin (by omega)]
  have m1 : IntKind.i64.min = -9223372036854775808 := by decide
  have m2 : IntKind.i64.max = 9223372036854775807 := by decide
  show (if IntKind.i64.min ≤ intB b ∧ intB b ≤ IntKind.i64.max then some (intB b) else none) = _
  rw [if_pos ⟨by omega, by omega⟩]
theorem order_eq_iff {a b : Nat} (ha : nan a = false) (hb : nan b = false) : (FloatKind.f64.format.order a b == some .eq) = decide (key a = key b) := by
  rcases order_cases a b with ⟨_, n | n⟩ | ⟨_, _, ⟨o, hk⟩ | ⟨o, hk⟩ | ⟨o, hk⟩⟩
  · rw [ha] at n; cases n
  · rw [hb] at n; cases n
  · rw [o, decide_eq_false (by omega)]; rfl
  · rw [o, decide_eq_true hk]; rfl
  · rw [o, decide_eq_false (by omega)]; rfl
theorem order_lt_iff {a b : Nat} (ha : nan a = false) (hb : nan b = false) : (FloatKind.f64.format.order a b == some .lt) = decide (key a < key b) := by
  rcases order_cases a b with ⟨_, n | n⟩ | ⟨_, _, ⟨o, hk⟩ | ⟨o, hk⟩ | ⟨o, hk⟩⟩
  · rw [ha] at n; cases n
  · rw [hb] at n; cases n
  · rw [o, decide_eq_true hk]; rfl
  · rw [o, decide_eq_false (by omega)]; rfl
  · rw [o, decide_eq_false (by omega)]; rfl
theorem order_gt_iff {a b : Nat} (ha : nan a = false) (hb : nan b = false) : (FloatKind.f64.format.order a b == some .gt) = decide (key b < key a) := by
  rcases order_cases a b with ⟨_, n | n⟩ | ⟨_, _, ⟨o, hk⟩ | ⟨o, hk⟩ | ⟨o, hk⟩⟩
  · rw [ha] at n; cases n
  · rw [hb] at n; cases n
  · rw [o, decide_eq_false (by omega)]; rfl
  · rw [o, decide_eq_false (by omega)]; rfl
  · rw [o, decide_eq_true hk]; rfl
theorem val_inj {r s : Nat} (h : val r = val s) : r = s := by
  have h1 := val_le_iff (r := r) (s := s)
  have h2 := val_le_iff (r := s) (s := r)
  omega
theorem whole_iff {b : Nat} (h : rung b < 4845873199050653696) : (val (rung b) % unit = 0) ↔ rung b = fl (truncN b) := by
  have ht := trunc53r h
  have hv := (fl_val (n := truncN b) (by omega)).2
  constructor
  · intro hw
    apply val_inj
    rw [hv]
    unfold truncN
    exact (Nat.div_mul_cancel (Nat.dvd_of_mod_eq_zero hw)).symm
  · intro e
    rw [e, hv]
    exact Nat.mul_mod_left _ _
theorem wholeB_eq {b : Nat} (h : rung b < 4845873199050653696) : wholeB b = decide (rung b = fl (truncN b)) := by
  unfold wholeB
  rw [decide_eq_true h, Bool.true_and, Bool.eq_iff_iff, beq_iff_eq, decide_eq_true_eq]
  exact whole_iff h
theorem floatOfInt_neg {n : Nat} (h : n ≤ 9007199254740992) (hp : 0 < n) : floatOfInt .f64 (-(n : Int)) = nfl n := by
  have e : floatOfInt .f64 (-(n : Int)) = double.nearest (decide (-(n : Int) < 0)) (-(n : Int)).natAbs 0 := rfl
  rw [e, decide_eq_true (by omega), Int.natAbs_neg, Int.natAbs_natCast, nearest_unit true n (fl n) (by have := (fl_val h).1; omega) (fl_val h).2.symm]
  rfl
/-- the floor is the number itself just where that is whole -/
theorem floor_eq {b : Nat} (hb : b < 18446744073709551616) (hn : nan b = false) (h : rung b < 4845873199050653696) : (FloatKind.f64.format.order (floorB b) b == some .eq) = wholeB b := by
  have ht := trunc53r h
  by_cases hw : val (rung b) % unit = 0
  · rw [floor_whole hb (by omega) hw, self_num hn]
    unfold wholeB
    rw [decide_eq_true h, hw]
    rfl
  · have hw' : wholeB b = false := by
      rw [wholeB_eq h, decide_eq_false_iff_not, ← whole_iff h]
      exact hw
    rw [hw']
    cases n : neg b
    · rw [floorB_fl (by omega) n]
      have f := fl_facts (n := truncN b) (by omega)
      rw [order_eq_iff f.1 hn, decide_eq_false_iff_not, f.2.1, key_of_pos n]
      intro e
      exact hw ((whole_iff h).2 (by omega))
    · rw [floorB_neg (by omega) n]
      have e1 : (val (rung b) % unit != 0).toNat = 1 := by rw [show (val (rung b) % unit != 0) = true by simpa using hw]; rfl
      rw [e1, nearest_unit true (truncN b + 1) (fl (truncN b + 1)) (by have := (fl_val (n := truncN b + 1) (by omega)).1; omega) (fl_val (n := truncN b + 1) (by omega)).2.symm]
      have f := nfl_facts (n := truncN b + 1) (by omega)
      have k := key_nfl (n := truncN b + 1) (by omega)
      unfold nfl at f k
      rw [order_eq_iff f.2.2 hn, decide_eq_false_iff_not, k, key_of_neg n]
      intro e
      apply hw
      have e2 : rung b = fl (truncN b + 1) := by omega
      rw [e2, (fl_val (n := truncN b + 1) (by omega)).2]
      exact Nat.mul_mod_left _ _
/-- asked in the other way -/
theorem back_eq {b : Nat} (hn : nan b = false) (h : rung b < 4845873199050653696) : (FloatKind.f64.format.order b (floatOfInt .f64 (intB b)) == some .eq) = wholeB b := by
  have ht := trunc53r h
  rw [wholeB_eq h]
  unfold intB
  cases n : neg b
  · have f := fl_facts (n := truncN b) (by omega)
    rw [if_neg Bool.false_ne_true, show floatOfInt .f64 (truncN b : Int) = fl (truncN b) from rfl, order_eq_iff hn f.1, f.2.1, key_of_pos n, decide_eq_decide]
    omega
  · rw [if_pos rfl]
    by_cases hp : 0 < truncN b
    · have f := nfl_facts (n := truncN b) (by omega)
      rw [floatOfInt_neg (by omega) hp, order_eq_iff hn f.2.2, key_nfl (by omega), key_of_neg n, decide_eq_decide]
      omega
    · have z : truncN b = 0 := by omega
      have f := fl_facts (n := 0) (by omega)
      have z2 : fl 0 = 0 := by decide +kernel
      rw [z, show floatOfInt .f64 (-((0 : Nat) : Int)) = fl 0 from rfl, order_eq_iff hn f.1, f.2.1, key_of_neg n, decide_eq_decide, z2]
      omega
/-- a whole number comes back -/
theorem int_back {b : Nat} (hb : b < 18446744073709551616) (hz : b ≠ 9223372036854775808) (hw : wholeB b = true) : floatOfInt .f64 (intB b) = b := by
  have h : rung b < 4845873199050653696 := by
    unfold wholeB at hw
    rw [Bool.and_eq_true, decide_eq_true_eq] at hw
    exact hw.1
  have ht := trunc53r h
  have e : rung b = fl (truncN b) := by rw [wholeB_eq h, decide_eq_true_eq] at hw; exact hw
  unfold intB
  rcases shape hb with ⟨g1, g2, g3⟩ | ⟨g1, g2, g3⟩
  · rw [g2, if_neg Bool.false_ne_true, show floatOfInt .f64 (truncN b : Int) = fl (truncN b) from rfl]
    omega
  · rw [g2, if_pos rfl]
    have hp : 0 < truncN b := by
      rcases Nat.eq_zero_or_pos (truncN b) with z | z
      · exfalso
        have z2 : fl 0 = 0 := by decide +kernel
        rw [z, z2] at e
        omega
      · exact z
    rw [floatOfInt_neg (by omega) hp]
    unfold nfl
    rw [← e]
    have := word_self hb
    rw [g2] at this
    exact this
theorem wholeB_rung {b : Nat} (hw : wholeB b = true) : rung b < 4845873199050653696 := by
  unfold wholeB at hw
  rw [Bool.and_eq_true, decide_eq_true_eq] at hw
  exact hw.1
end Go.Proofs.YtlnobfmbnnfbdaaGreatDoor.Num
