import Derived.Test.YtlnobfmbnnfbdaaGreatDoorNum2
namespace Go.Proofs.YtlnobfmbnnfbdaaGreatDoor.Num
open Ieee

theorem cut_whole (s : Bool) (h d : Nat) : Toward.even.cut s (h * 2 ^ d) d = h := by
  unfold Toward.cut
  rcases Nat.eq_zero_or_pos h with z | z
  · subst z; simp
  · have hne : h * 2 ^ d ≠ 0 := by have := Nat.two_pow_pos d; exact Nat.ne_of_gt (Nat.mul_pos z this)
    have hd : d ≤ (h * 2 ^ d).log2 := by
      rw [Nat.le_log2 hne]
      exact Nat.le_mul_of_pos_left _ z
    rw [Nat.min_eq_left (by omega)]
    simp only [Nat.shiftLeft_eq, Nat.one_mul, Nat.mul_div_cancel _ (Nat.two_pow_pos d), Nat.mul_mod_left, Nat.mul_zero]
    have p := Nat.two_pow_pos d
    have e1 : decide (2 ^ d < 0) = false := decide_eq_false (by omega)
    have e2 : (2 ^ d == 0) = false := by rw [beq_eq_false_iff_ne]; omega
    rw [e1, e2]
    rfl

/-- a value that a rung has is written as that rung -/
theorem nearest_exact (s : Bool) (mag k r : Nat) (hr : r < 9218868437227405312) (h : mag * 2 ^ k = val r) : double.nearest s mag (-1074 + k) = double.word s r := by
  unfold Format.nearest
  by_cases z : mag = 0
  · rw [if_pos z]
    subst z
    have r0 : r = 0 := by
      rcases Nat.eq_zero_or_pos r with e | e
      · exact e
      · have := val_lt e; rw [show val 0 = 0 from rfl] at this; omega
    rw [r0]
  · rw [if_neg z]
    have l1 : 2 ^ mag.log2 ≤ mag := Nat.log2_self_le z
    have l2 : mag < 2 ^ (mag.log2 + 1) := Nat.lt_log2_self
    have pk := Nat.two_pow_pos k
    have m1 : 2 ^ (mag.log2 + k) ≤ val r := by rw [← h, Nat.pow_add]; exact Nat.mul_le_mul_right _ l1
    have m2 : val r < 2 ^ (mag.log2 + 1 + k) := by rw [← h, Nat.pow_add]; exact Nat.mul_lt_mul_of_pos_right l2 pk
    generalize mag.log2 = L at *
    have fb : (double.fractionBits : Int) = 52 := rfl
    have lp : double.leastPlace = -1074 := rfl
    have bn : double.binade = 4503599627370496 := rfl
    have ir : double.infRung = 9218868437227405312 := rfl
    dsimp only
    rw [fb, lp, bn, ir]
    by_cases g : r < 4503599627370496
    · have hv : val r = r := by unfold val; rw [if_pos g]
      rw [hv] at h m1
      have hl : L + k < 52 := (Nat.pow_lt_pow_iff_right (by decide : 1 < 2)).1 (Nat.lt_of_le_of_lt m1 g)
      have e : max (-1074 + (k : Int) + L - 52) (-1074) = -1074 := by omega
      rw [e]
      rw [show (-1074 + (k : Int) - -1074).toNat = k by omega, show (-1074 - (-1074 + (k : Int))).toNat = 0 by omega, Nat.shiftLeft_eq, h]
      have c := cut_whole s r 0
      rw [Nat.pow_zero, Nat.mul_one] at c
      rw [c, show (-1074 - -1074 : Int).toNat = 0 from rfl, Nat.zero_mul, Nat.zero_add, Nat.min_eq_left (by omega)]
    · have hv : val r = (4503599627370496 + r % 4503599627370496) * 2 ^ (r / 4503599627370496 - 1) := by unfold val; rw [if_neg g]
      have hq : 1 ≤ r / 4503599627370496 := by omega
      have hrq : r = r / 4503599627370496 * 4503599627370496 + r % 4503599627370496 := by omega
      have hf : r % 4503599627370496 < 4503599627370496 := by omega
      generalize r / 4503599627370496 = q at *
      generalize r % 4503599627370496 = f at *
      have v1 : 2 ^ (52 + (q - 1)) ≤ val r := by rw [hv, Nat.pow_add]; exact Nat.mul_le_mul_right _ (by omega)
      have v2 : val r < 2 ^ (53 + (q - 1)) := by rw [hv, Nat.pow_add]; exact Nat.mul_lt_mul_of_pos_right (by omega) (Nat.two_pow_pos _)
      have a1 : L + k < 53 + (q - 1) := (Nat.pow_lt_pow_iff_right (by decide : 1 < 2)).1 (Nat.lt_of_le_of_lt m1 v2)
      have a2 : 52 + (q - 1) < L + 1 + k := (Nat.pow_lt_pow_iff_right (by decide : 1 < 2)).1 (Nat.lt_of_le_of_lt v1 m2)
      have e : max (-1074 + (k : Int) + L - 52) (-1074) = -1074 + ((q - 1 : Nat) : Int) := by omega
      rw [e]
      have kept : Toward.even.cut s (mag <<< (-1074 + (k : Int) - (-1074 + ((q - 1 : Nat) : Int))).toNat) (-1074 + ((q - 1 : Nat) : Int) - (-1074 + (k : Int))).toNat = 4503599627370496 + f := by
        rw [Nat.shiftLeft_eq]
        by_cases c : q - 1 ≤ k
        · rw [show (-1074 + (k : Int) - (-1074 + ((q - 1 : Nat) : Int))).toNat = k - (q - 1) by omega, show (-1074 + ((q - 1 : Nat) : Int) - (-1074 + (k : Int))).toNat = 0 by omega]
          have e2 : mag * 2 ^ (k - (q - 1)) = 4503599627370496 + f := by
            apply Nat.eq_of_mul_eq_mul_right (Nat.two_pow_pos (q - 1))
            rw [Nat.mul_assoc, ← Nat.pow_add, show k - (q - 1) + (q - 1) = k by omega, h, hv]
          rw [e2]
          have c0 := cut_whole s (4503599627370496 + f) 0
          rw [Nat.pow_zero, Nat.mul_one] at c0
          exact c0
        · rw [show (-1074 + (k : Int) - (-1074 + ((q - 1 : Nat) : Int))).toNat = 0 by omega, show (-1074 + ((q - 1 : Nat) : Int) - (-1074 + (k : Int))).toNat = q - 1 - k by omega, Nat.pow_zero, Nat.mul_one]
          have e2 : mag = (4503599627370496 + f) * 2 ^ (q - 1 - k) := by
            apply Nat.eq_of_mul_eq_mul_right pk
            rw [h, hv, Nat.mul_assoc, ← Nat.pow_add, show q - 1 - k + k = q - 1 by omega]
          rw [e2]
          exact cut_whole s _ _
      rw [kept, show (-1074 + ((q - 1 : Nat) : Int) - -1074).toNat = q - 1 by omega]
      rw [show (q - 1) * 4503599627370496 + (4503599627370496 + f) = r by rw [hrq]; rw [← Nat.add_assoc, ← Nat.succ_mul, Nat.succ_eq_add_one, Nat.sub_add_cancel hq], Nat.min_eq_left (by omega)]

theorem nearest_pw (s : Bool) (mag k r : Nat) (hr : r < 9218868437227405312) (h : mag * pw k = val r) : double.nearest s mag (-1074 + k) = double.word s r := nearest_exact s mag k r hr h
theorem nearest_unit (s : Bool) (mag r : Nat) (hr : r < 9218868437227405312) (h : mag * unit = val r) : double.nearest s mag 0 = double.word s r := nearest_pw s mag 1074 r hr h

/-- every whole number up to 2^53 is a float -/
theorem rung_of_whole {n : Nat} (h : n ≤ 9007199254740992) : ∃ r, r ≤ 4845873199050653696 ∧ val r = n * unit := by
  rcases Nat.eq_or_lt_of_le h with e | e
  · subst e; exact ⟨_, Nat.le_refl _, val_big53⟩
  · rcases Nat.eq_zero_or_pos n with z | z
    · subst z; exact ⟨0, by omega, by rw [Nat.zero_mul]; rfl⟩
    · have hz : n ≠ 0 := by omega
      have l1 : 2 ^ n.log2 ≤ n := Nat.log2_self_le hz
      have l2 : n < 2 ^ (n.log2 + 1) := Nat.lt_log2_self
      have l3 : n.log2 < 53 := (Nat.log2_lt hz).2 e
      have u : unit = 2 ^ (52 - n.log2) * 2 ^ (n.log2 + 1022) := by
        show pw 1074 = _
        rw [← Nat.pow_add, show 52 - n.log2 + (n.log2 + 1022) = 1074 by omega]; rfl
      generalize n.log2 = L at *
      have b1 : 4503599627370496 ≤ n * 2 ^ (52 - L) := by
        have : 2 ^ L * 2 ^ (52 - L) = 4503599627370496 := by rw [← Nat.pow_add, show L + (52 - L) = 52 by omega]
        rw [← this]; exact Nat.mul_le_mul_right _ l1
      have b2 : n * 2 ^ (52 - L) < 9007199254740992 := by
        have : 2 ^ (L + 1) * 2 ^ (52 - L) = 9007199254740992 := by rw [← Nat.pow_add, show L + 1 + (52 - L) = 53 by omega]
        rw [← this]; exact Nat.mul_lt_mul_of_pos_right l2 (Nat.two_pow_pos _)
      have hv : n * unit = (n * 2 ^ (52 - L)) * 2 ^ (L + 1022) := by rw [u, Nat.mul_assoc]
      rw [hv]
      generalize n * 2 ^ (52 - L) = k at *
      refine ⟨(L + 1022) * 4503599627370496 + k, by omega, ?_⟩
      unfold val
      rw [if_neg (by omega), show ((L + 1022) * 4503599627370496 + k) % 4503599627370496 = k - 4503599627370496 by omega, show ((L + 1022) * 4503599627370496 + k) / 4503599627370496 = L + 1023 by omega, show 4503599627370496 + (k - 4503599627370496) = k by omega, show L + 1023 - 1 = L + 1022 by omega]

/-- the float of a whole number -/
def fl (n : Nat) : Nat := floatOfInt .f64 (n : Int)
theorem fl_val {n : Nat} (h : n ≤ 9007199254740992) : fl n ≤ 4845873199050653696 ∧ val (fl n) = n * unit := by
  obtain ⟨r, h1, h2⟩ := rung_of_whole h
  have e := nearest_unit false n r (by omega) h2.symm
  have e2 : fl n = r := by
    have : fl n = double.nearest (decide ((n : Int) < 0)) (n : Int).natAbs 0 := rfl
    rw [this, decide_eq_false (by omega), Int.natAbs_natCast]
    exact e
  rw [e2]; exact ⟨h1, h2⟩
theorem low_shape {b : Nat} (h : b < 9223372036854775808) : neg b = false ∧ rung b = b ∧ key b = b := by
  rcases shape (b := b) (by omega) with ⟨_, g, r⟩ | ⟨g, _, _⟩
  · exact ⟨g, r, by unfold key; rw [g, r]; rfl⟩
  · omega
theorem fl_facts {n : Nat} (h : n ≤ 9007199254740992) : nan (fl n) = false ∧ key (fl n) = fl n ∧ rung (fl n) = fl n ∧ neg (fl n) = false ∧ fixB (fl n) = fl n ∧ fl n < 18446744073709551616 := by
  obtain ⟨h1, _⟩ := fl_val h
  obtain ⟨g1, g2, g3⟩ := low_shape (b := fl n) (by omega)
  have hn : nan (fl n) = false := by unfold nan; rw [g2]; exact decide_eq_false (by omega)
  exact ⟨hn, g3, g2, g1, fixB_num hn, by omega⟩
theorem trunc_fl {n : Nat} (h : n ≤ 9007199254740992) : truncN (fl n) = n := by
  unfold truncN
  rw [(fl_facts h).2.2.1, (fl_val h).2, Nat.mul_div_cancel _ unit_pos]
theorem val_le_iff {r s : Nat} : val r ≤ val s ↔ r ≤ s := by
  constructor
  · intro h
    rcases Nat.lt_or_ge s r with g | g
    · have := val_lt g; omega
    · exact g
  · intro h
    rcases Nat.eq_or_lt_of_le h with g | g
    · rw [g]; exact Nat.le_refl _
    · exact Nat.le_of_lt (val_lt g)
theorem fl_le {m n : Nat} (hm : m ≤ 9007199254740992) (hn : n ≤ 9007199254740992) : fl m ≤ fl n ↔ m ≤ n := by
  rw [← val_le_iff, (fl_val hm).2, (fl_val hn).2]
  exact ⟨fun h => Nat.le_of_mul_le_mul_right h unit_pos, fun h => Nat.mul_le_mul_right _ h⟩
theorem fl_one : fl 1 = 4607182418800017408 := by decide +kernel
theorem fl_53 : fl 9007199254740992 = 4845873199050653696 := by decide +kernel
theorem fl_cnt {n : Nat} (h : n < 9007199254740992) : cntB (fl n) = true := by
  obtain ⟨g1, g2, g3, _, _, _⟩ := fl_facts (Nat.le_of_lt h)
  have lt : fl n < 4845873199050653696 := by
    have := fl_le (m := 9007199254740992) (n := n) (Nat.le_refl _) (Nat.le_of_lt h)
    rw [fl_53] at this
    omega
  have o : (FloatKind.f64.format.order (floatOfInt .f64 (truncN (fl n))) (fl n) == some .eq) = true := by
    rw [trunc_fl (Nat.le_of_lt h)]
    rw [show floatOfInt .f64 (n : Int) = fl n from rfl, self_num g1]; rfl
  unfold cntB
  rw [g1, decide_eq_true (by omega : 0 ≤ key (fl n)), decide_eq_true (by omega : key (fl n) < 4845873199050653696), o]; rfl
theorem fl_mod {x y : Nat} (hx : x < 9007199254740992) (hy : y < 9007199254740992) (hp : 0 < y) : modV (fl x) (fl y) = fl (x % y) := by
  have ho : (FloatKind.f64.format.order (fl y) 4607182418800017408 == some .lt) = false := by
    have := (fl_le (m := 1) (n := y) (by omega) (by omega)).2 hp
    rw [fl_one] at this
    have k1 := key_one
    have ky := (fl_facts (n := y) (by omega)).2.1
    rcases order_cases (fl y) 4607182418800017408 with ⟨o, _⟩ | ⟨_, _, ⟨o, h⟩ | ⟨o, h⟩ | ⟨o, h⟩⟩
    · rw [o]; rfl
    · omega
    · rw [o]; rfl
    · rw [o]; rfl
  rw [modV_fine (fl_cnt hx) (fl_cnt hy) ho, trunc_fl (by omega), trunc_fl (by omega)]
  have hm : x % y < y := Nat.mod_lt _ hp
  exact (fl_facts (n := x % y) (by omega)).2.2.2.2.1
end Go.Proofs.YtlnobfmbnnfbdaaGreatDoor.Num
