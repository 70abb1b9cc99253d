import Derived.Test.YtlnobfmbnnfbdaaGreatDoorNum3
namespace Go.Proofs.YtlnobfmbnnfbdaaGreatDoor.Num
open Ieee

/-! sums and products do not hang on the order -/
theorem sum_comm (x y : Datum) : x.sum y = y.sum x := by
  cases x with
  | number s m i =>
    cases y with
    | number t n j =>
      simp only [Datum.sum]
      rw [Int.min_comm i j, Int.add_comm, Bool.and_comm s t]
    | infinity t => rfl
    | nan t n => rfl
  | infinity s =>
    cases y with
    | number t n j => rfl
    | infinity t =>
      simp only [Datum.sum]
      by_cases h : s = t
      · subst h; rfl
      · rw [if_neg h, if_neg (fun e => h e.symm)]
    | nan t n => rfl
  | nan s m => cases y <;> rfl
theorem product_comm (x y : Datum) : x.product y = y.product x := by
  cases x with
  | number s m i =>
    cases y with
    | number t n j =>
      simp only [Datum.product]
      rw [Nat.mul_comm, Int.add_comm, Bool.xor_comm]
    | infinity t => rfl
    | nan t n => rfl
  | infinity s =>
    cases y with
    | number t n j => rfl
    | infinity t => simp only [Datum.product]; rw [Bool.xor_comm]
    | nan t n => rfl
  | nan s m => cases y <;> rfl
theorem add_comm_bits (a b : Nat) : floatBits .add .f64 a b = floatBits .add .f64 b a := by
  show ((double.read a).sum (double.read b)).map _ = ((double.read b).sum (double.read a)).map _
  rw [sum_comm]
theorem mul_comm_bits (a b : Nat) : floatBits .mul .f64 a b = floatBits .mul .f64 b a := by
  show ((double.read a).product (double.read b)).map _ = ((double.read b).product (double.read a)).map _
  rw [product_comm]

/-! the other sign -/
theorem xor_low {b : Nat} (h : b < 9223372036854775808) : b ^^^ 9223372036854775808 = b + 9223372036854775808 := by
  have e := Nat.two_pow_add_eq_or_of_lt (i := 63) h 1
  have e3 : 9223372036854775808 ||| b = 9223372036854775808 + b := by simpa using e.symm
  have e4 : b ^^^ 9223372036854775808 = b ||| 9223372036854775808 := by
    apply Nat.eq_of_testBit_eq
    intro i
    rw [Nat.testBit_xor, Nat.testBit_or, show (9223372036854775808 : Nat) = 2 ^ 63 from rfl, Nat.testBit_two_pow]
    by_cases g : 63 = i
    · subst g; rw [Nat.testBit_lt_two_pow h]; rfl
    · simp [g]
  rw [e4, Nat.or_comm, e3, Nat.add_comm]
theorem xor_high {b : Nat} (h1 : 9223372036854775808 ≤ b) (h2 : b < 18446744073709551616) : b ^^^ 9223372036854775808 = b - 9223372036854775808 := by
  have e := xor_low (b := b - 9223372036854775808) (by omega)
  rw [show b - 9223372036854775808 + 9223372036854775808 = b by omega] at e
  have e2 : (b - 9223372036854775808) ^^^ 9223372036854775808 ^^^ 9223372036854775808 = b ^^^ 9223372036854775808 := by rw [e]
  rw [Nat.xor_assoc, Nat.xor_self, Nat.xor_zero] at e2
  exact e2.symm
theorem xor_shape {b : Nat} (h : b < 18446744073709551616) : (b ^^^ 9223372036854775808) < 18446744073709551616 ∧ rung (b ^^^ 9223372036854775808) = rung b ∧ neg (b ^^^ 9223372036854775808) = !neg b := by
  rcases shape h with ⟨g, n, r⟩ | ⟨g, n, r⟩
  · rw [xor_low g]
    rcases shape (b := b + 9223372036854775808) (by omega) with ⟨g', _, _⟩ | ⟨_, n', r'⟩
    · omega
    · exact ⟨by omega, by rw [r', r]; omega, by rw [n', n]; rfl⟩
  · rw [xor_high g h]
    rcases shape (b := b - 9223372036854775808) (by omega) with ⟨_, n', r'⟩ | ⟨g', _, _⟩
    · exact ⟨by omega, by rw [r', r], by rw [n', n]; rfl⟩
    · omega
theorem nan_xor {b : Nat} (h : b < 18446744073709551616) : nan (b ^^^ 9223372036854775808) = nan b := by
  unfold nan; rw [(xor_shape h).2.1]
theorem read_xor {b : Nat} (h : b < 18446744073709551616) : double.read (b ^^^ 9223372036854775808) = (double.read b).opposite := by
  obtain ⟨_, r, n⟩ := xor_shape h
  rw [read_eq, read_eq, r, n]
  split
  · rfl
  · split
    · rfl
    · split <;> rfl
/-- a number taken away is its negative put to it -/
theorem sub_neg (a b : Nat) (hb : b < 18446744073709551616) : resV (floatBits .add .f64 a (fixB (fixB b ^^^ 9223372036854775808))) = resV (floatBits .sub .f64 a b) := by
  cases n : nan b
  · rw [fixB_num n, fixB_num (by rw [nan_xor hb]; exact n)]
    show resV (((double.read a).sum (double.read (b ^^^ 9223372036854775808))).map _) = resV (((double.read a).sum (double.read b).opposite).map _)
    rw [read_xor hb]
  · have e : fixB (fixB b ^^^ 9223372036854775808) = 9221120237041090560 := by rw [fixB_nan n]; decide +kernel
    rw [e]
    have h1 : floatBits .add .f64 a 9221120237041090560 = none := by
      show ((double.read a).sum (double.read 9221120237041090560)).map _ = none
      rw [read_nan nan_const]; cases double.read a <;> rfl
    have h2 : floatBits .sub .f64 a b = none := by
      show ((double.read a).sum (double.read b).opposite).map _ = none
      rw [read_nan n]; cases double.read a <;> rfl
    rw [h1, h2]
theorem neg_neg {a : Nat} (h : a < 18446744073709551616) : fixB (fixB (fixB (fixB a ^^^ 9223372036854775808)) ^^^ 9223372036854775808) = fixB a := by
  rw [fixB_fixB]
  cases n : nan a
  · rw [fixB_num n, fixB_num (b := a ^^^ 9223372036854775808) (by rw [nan_xor h]; exact n), Nat.xor_assoc, Nat.xor_self, Nat.xor_zero, fixB_num n]
  · rw [fixB_nan n]; decide +kernel
theorem and_low (b : Nat) : b &&& 9223372036854775807 = rung b := by
  have e : b &&& 2 ^ 63 - 1 = b % 2 ^ 63 := Nat.and_two_pow_sub_one_eq_mod b 63
  exact e
theorem abs_neg {a : Nat} (h : a < 18446744073709551616) : fixB (fixB (fixB (fixB a ^^^ 9223372036854775808)) &&& 9223372036854775807) = fixB (fixB a &&& 9223372036854775807) := by
  rw [fixB_fixB]
  cases n : nan a
  · rw [fixB_num n, fixB_num (b := a ^^^ 9223372036854775808) (by rw [nan_xor h]; exact n), and_low, and_low, (xor_shape h).2.1]
  · rw [fixB_nan n]; decide +kernel

/-! a sum that is exact -/
theorem add_exact {x y r : Nat} (hx : rung x < 9218868437227405312) (hy : rung y < 9218868437227405312) (hr : r < 9218868437227405312) (h : (sval x + sval y).natAbs = val r) :
    floatBits .add .f64 x y = some (double.word (if sval x + sval y = 0 then neg x && neg y else decide (sval x + sval y < 0)) r) := by
  obtain ⟨m, k, e1, v1⟩ := read_fin hx
  obtain ⟨n, l, e2, v2⟩ := read_fin hy
  have s1 : sval x = signed (neg x) m k := by rw [signed_mul, v1]; rfl
  have s2 : sval y = signed (neg y) n l := by rw [signed_mul, v2]; rfl
  show ((double.read x).sum (double.read y)).map _ = _
  rw [e1, e2]
  have t1 : (-1074 + (k : Int) - min (-1074 + (k : Int)) (-1074 + l)).toNat = k - min k l := by omega
  have t2 : (-1074 + (l : Int) - min (-1074 + (k : Int)) (-1074 + l)).toNat = l - min k l := by omega
  have b : min (-1074 + (k : Int)) (-1074 + l) = -1074 + ((min k l : Nat) : Int) := by omega
  simp only [Datum.sum, t1, t2]
  rw [b]
  have c1 := signed_scale (neg x) m (k - min k l) (min k l)
  have c2 := signed_scale (neg y) n (l - min k l) (min k l)
  rw [show k - min k l + min k l = k by omega] at c1
  rw [show l - min k l + min k l = l by omega] at c2
  generalize signed (neg x) m (k - min k l) = A at *
  generalize signed (neg y) n (l - min k l) = B at *
  generalize min k l = j at *
  have tot : sval x + sval y = (A + B) * 2 ^ j := by rw [s1, s2, c1, c2, Int.add_mul]
  have pj : (0 : Int) < 2 ^ j := Int.pow_pos (by decide)
  have ab : (A + B).natAbs * 2 ^ j = val r := by
    rw [← h, tot, Int.natAbs_mul]
    congr 1
  have z : (A + B = 0) ↔ (sval x + sval y = 0) := by
    rw [tot]
    constructor
    · intro e; rw [e, Int.zero_mul]
    · intro e
      rcases Int.mul_eq_zero.1 e with e | e
      · exact e
      · omega
  have lt : (A + B < 0) ↔ (sval x + sval y < 0) := by
    rw [tot]
    constructor
    · intro e; exact Int.mul_neg_of_neg_of_pos e pj
    · intro e
      by_cases g : A + B < 0
      · exact g
      · have := Int.mul_nonneg (show 0 ≤ A + B by omega) (Int.le_of_lt pj); omega
  show some (double.nearest _ _ _) = _
  rw [nearest_exact _ _ j r hr ab]
  congr 2
  by_cases g : A + B = 0
  · rw [if_pos g, if_pos (z.1 g)]
  · rw [if_neg g, if_neg (fun e => g (z.2 e))]
    exact decide_eq_decide.2 lt

/-! the floor -/
theorem cut_down_neg (n drop : Nat) : Toward.down.cut true n drop = n / 2 ^ drop + (n % 2 ^ drop != 0).toNat := by
  unfold Toward.cut
  simp only [Nat.shiftLeft_eq, Nat.one_mul, Bool.true_and]
  by_cases h : drop ≤ n.log2 + 2
  · rw [Nat.min_eq_left h]
  · rw [Nat.min_eq_right (by omega)]
    have h1 : n < 2 ^ (n.log2 + 2) := Nat.lt_of_lt_of_le Nat.lt_log2_self (Nat.pow_le_pow_right (by decide) (by omega))
    have h2 : n < 2 ^ drop := Nat.lt_of_lt_of_le h1 (Nat.pow_le_pow_right (by decide) (by omega))
    rw [Nat.div_eq_of_lt h1, Nat.div_eq_of_lt h2, Nat.mod_eq_of_lt h1, Nat.mod_eq_of_lt h2]
theorem shift_mod' (E m k : Nat) : ((m <<< ((-(E : Int) + (k : Int)).toNat)) % 2 ^ ((-(-(E : Int) + (k : Int))).toNat) != 0) = (m * 2 ^ k % pw E != 0) := by
  unfold pw
  rw [Nat.shiftLeft_eq]
  by_cases h : E ≤ k
  · rw [show (-(-(E : Int) + (k : Int))).toNat = 0 by omega, show (-(E : Int) + (k : Int)).toNat = k - E by omega, Nat.pow_zero, Nat.mod_one]
    have e : 2 ^ k = 2 ^ (k - E) * 2 ^ E := by rw [← Nat.pow_add, show k - E + E = k by omega]
    rw [e, ← Nat.mul_assoc, Nat.mul_mod_left]
  · rw [show (-(E : Int) + (k : Int)).toNat = 0 by omega, show (-(-(E : Int) + (k : Int))).toNat = E - k by omega, Nat.pow_zero, Nat.mul_one]
    have e : 2 ^ E = 2 ^ (E - k) * 2 ^ k := by rw [← Nat.pow_add, show E - k + k = E by omega]
    rw [e, Nat.mul_mod_mul_right]
    have p := Nat.two_pow_pos k
    rw [Bool.eq_iff_iff, bne_iff_ne, bne_iff_ne]
    constructor
    · intro g e; rcases Nat.mul_eq_zero.1 e with e | e; exact g e; omega
    · intro g e; rw [e, Nat.zero_mul] at g; exact g rfl
theorem floorB_neg {b : Nat} (h : rung b < 9218868437227405312) (hn : neg b = true) : floorB b = double.nearest true (truncN b + (val (rung b) % unit != 0).toNat) 0 := by
  obtain ⟨m, k, e, hv⟩ := read_fin h
  unfold floorB
  rw [show FloatKind.f64.decode b = _ from e, hn]
  unfold Datum.integral
  dsimp only
  rw [cut_down_neg, shift_div, show ((m <<< ((-1074 + (k : Int)).toNat)) % 2 ^ ((-(-1074 + (k : Int))).toNat) != 0) = (m * 2 ^ k % unit != 0) from shift_mod' 1074 m k, hv]
  rfl
theorem word_self {b : Nat} (h : b < 18446744073709551616) : double.word (neg b) (rung b) = b := by
  have sw : double.signWeight = 9223372036854775808 := rfl
  unfold Format.word
  rw [sw]
  rcases shape h with ⟨g, n, r⟩ | ⟨g, n, r⟩
  · rw [n, r]; rfl
  · rw [n, r, if_pos rfl]; omega
/-- a whole number is its own floor -/
theorem floor_whole {b : Nat} (hb : b < 18446744073709551616) (h : rung b < 9218868437227405312) (hw : val (rung b) % unit = 0) : floorB b = b := by
  have e : truncN b * unit = val (rung b) := by unfold truncN; exact Nat.div_mul_cancel (Nat.dvd_of_mod_eq_zero hw)
  cases n : neg b
  · rw [floorB_pos h n]
    have e2 : floatOfInt .f64 (truncN b : Int) = double.nearest (decide ((truncN b : Int) < 0)) (truncN b : Int).natAbs 0 := rfl
    rw [e2, decide_eq_false (by omega), Int.natAbs_natCast, nearest_unit false _ _ h e, ← n]
    exact word_self hb
  · rw [floorB_neg h n, hw]
    show double.nearest true (truncN b + 0) 0 = b
    rw [Nat.add_zero, nearest_unit true _ _ h e, ← n]
    exact word_self hb
theorem pw_succ (n : Nat) : pw (n + 1) = pw n * 2 := Nat.pow_succ 2 n
theorem pw_le {m n : Nat} (h : m ≤ n) : pw m ≤ pw n := Nat.pow_le_pow_right (by decide) h
theorem pw_dvd {m n : Nat} (h : m ≤ n) : pw m ∣ pw n := Nat.pow_dvd_pow 2 h
/-- what is not whole is small -/
theorem frac_small {r : Nat} (h : val r % unit ≠ 0) : val r / unit < 4503599627370496 := by
  rw [Nat.div_lt_iff_lt_mul unit_pos]
  have u : unit = pw 1073 * 2 := pw_succ 1073
  have p := pw_pos 1073
  by_cases g : r < 4503599627370496
  · have hv : val r = r := by unfold val; rw [if_pos g]
    rw [hv, u]
    have := Nat.le_mul_of_pos_right 4503599627370496 p
    omega
  · have hv : val r = (4503599627370496 + r % 4503599627370496) * pw (r / 4503599627370496 - 1) := by unfold val; rw [if_neg g]; rfl
    by_cases c : 1074 ≤ r / 4503599627370496 - 1
    · exfalso
      apply h
      rw [hv]
      exact Nat.mod_eq_zero_of_dvd (Nat.dvd_trans (pw_dvd c) (Nat.dvd_mul_left _ _))
    · rw [hv, u]
      have l := pw_le (show r / 4503599627370496 - 1 ≤ 1073 by omega)
      have l2 : (4503599627370496 + r % 4503599627370496) * pw (r / 4503599627370496 - 1) ≤ (4503599627370496 + r % 4503599627370496) * pw 1073 := Nat.mul_le_mul_left _ l
      have l3 : (4503599627370496 + r % 4503599627370496) * pw 1073 < 9007199254740992 * pw 1073 := Nat.mul_lt_mul_of_pos_right (by omega) p
      omega
theorem word_false (r : Nat) : double.word false r = r := rfl
theorem word_true_facts {r : Nat} (h : r < 9223372036854775808) : double.word true r < 18446744073709551616 ∧ neg (double.word true r) = true ∧ rung (double.word true r) = r := by
  have e : double.word true r = 9223372036854775808 + r := rfl
  rw [e]
  rcases shape (b := 9223372036854775808 + r) (by omega) with ⟨g, _, _⟩ | ⟨_, g, q⟩
  · omega
  · exact ⟨by omega, g, by rw [q]; omega⟩
theorem sval_fl {n : Nat} (h : n ≤ 9007199254740992) : sval (fl n) = ((n * unit : Nat) : Int) := by
  have f := fl_facts h
  unfold sval
  rw [f.2.2.2.1, f.2.2.1, (fl_val h).2, if_neg Bool.false_ne_true]
/-- the float of a whole number below 0 -/
def nfl (n : Nat) : Nat := double.word true (fl n)
theorem nfl_facts {n : Nat} (h : n ≤ 9007199254740992) : neg (nfl n) = true ∧ rung (nfl n) = fl n ∧ nan (nfl n) = false := by
  have h1 := (fl_val h).1
  obtain ⟨_, g, r⟩ := word_true_facts (r := fl n) (by omega)
  unfold nfl
  exact ⟨g, r, by unfold nan; rw [r]; exact decide_eq_false (by omega)⟩
theorem sval_nfl {n : Nat} (h : n ≤ 9007199254740992) : sval (nfl n) = -((n * unit : Nat) : Int) := by
  obtain ⟨f1, f2, _⟩ := nfl_facts h
  unfold sval
  rw [f1, f2, (fl_val h).2, if_pos rfl]
theorem key_nfl {n : Nat} (h : n ≤ 9007199254740992) : key (nfl n) = -(fl n : Int) := by
  obtain ⟨f1, f2, _⟩ := nfl_facts h
  unfold key
  rw [f1, f2, if_pos rfl]
theorem val_ge {n r : Nat} (h : n ≤ 9007199254740992) : (fl n < r ↔ n * unit < val r) ∧ (r < fl n ↔ val r < n * unit) := by
  have v := (fl_val h).2
  have m1 := val_le_iff (r := r) (s := fl n)
  have m2 := val_le_iff (r := fl n) (s := r)
  rw [v] at m1 m2
  omega
theorem one_eq : sval 4607182418800017408 = ((unit : Nat) : Int) ∧ rung 4607182418800017408 < 9218868437227405312 ∧ neg 4607182418800017408 = false := by
  refine ⟨?_, by decide, by decide⟩
  have := sval_fl (n := 1) (by decide)
  rw [fl_one, Nat.one_mul] at this
  exact this
theorem key_of_pos {b : Nat} (n : neg b = false) : key b = rung b := by unfold key; rw [n, if_neg Bool.false_ne_true]
theorem key_of_neg {b : Nat} (n : neg b = true) : key b = -(rung b : Int) := by unfold key; rw [n, if_pos rfl]

/-- a float and 1, and a negative one and 1, where both are whole and small -/
theorem fl_add_one {q : Nat} (h : q + 1 ≤ 9007199254740992) : floatBits .add .f64 (fl q) 4607182418800017408 = some (fl (q + 1)) := by
  obtain ⟨o1, o2, _⟩ := one_eq
  have q1 : q ≤ 9007199254740992 := by omega
  have f := fl_facts q1
  have fv := (fl_val q1).1
  have gv := fl_val h
  have up := unit_pos
  have hs : (q + 1) * unit = q * unit + unit := Nat.succ_mul _ _
  have e := add_exact (x := fl q) (y := 4607182418800017408) (r := fl (q + 1)) (by rw [f.2.2.1]; omega) o2 (by omega) (by
    rw [sval_fl q1, o1, gv.2, hs]; omega)
  rw [sval_fl q1, o1, if_neg (by omega), decide_eq_false (by omega), word_false] at e
  exact e
theorem abs_less (a u : Nat) : (-((a + u : Nat) : Int) + (u : Int)).natAbs = a := by omega
theorem nfl_add_one {q : Nat} (h : q + 1 ≤ 9007199254740992) : floatBits .add .f64 (nfl (q + 1)) 4607182418800017408 = some (if q = 0 then fl q else nfl q) := by
  obtain ⟨o1, o2, o3⟩ := one_eq
  have q1 : q ≤ 9007199254740992 := by omega
  obtain ⟨f1, f2, f3⟩ := nfl_facts h
  have fv := fl_val q1
  have gv := (fl_val h).1
  have up := unit_pos
  have hs : (q + 1) * unit = q * unit + unit := Nat.succ_mul _ _
  have sn := sval_nfl h
  have tot : sval (nfl (q + 1)) + sval 4607182418800017408 = -((q * unit + unit : Nat) : Int) + ((unit : Nat) : Int) := by rw [sn, o1, hs]
  have a1 : rung (nfl (q + 1)) < 9218868437227405312 := by rw [f2]; omega
  have a2 : fl q < 9218868437227405312 := by omega
  have a3 := (congrArg Int.natAbs tot).trans ((abs_less _ _).trans fv.2.symm)
  have e := add_exact a1 o2 a2 a3
  rw [tot, o3, Bool.and_false] at e
  rw [e]
  have nq : nfl q = double.word true (fl q) := by unfold nfl; exact Eq.refl _
  rw [nq]
  clear e sn f1 f2 f3 nq tot o1 o2 o3 fv gv hs a1 a2 a3
  generalize fl q = F
  by_cases z : q = 0
  · have tz : q * unit = 0 := by rw [z, Nat.zero_mul]
    have hz : -((q * unit + unit : Nat) : Int) + ((unit : Nat) : Int) = 0 := by omega
    rw [if_pos z, if_pos hz, word_false]
  · have tp : 0 < q * unit := Nat.mul_pos (by omega) unit_pos
    rw [if_neg z, if_neg (by omega), decide_eq_true (by omega)]

theorem neg_lt_cast {a c : Nat} (h : a < c) : -(c : Int) < (a : Int) := by omega
theorem floorB_fl {b : Nat} (h : rung b < 9218868437227405312) (n : neg b = false) : floorB b = fl (truncN b) := by unfold fl; exact floorB_pos h n
/-- P1.7 of the floor: at most x; and x is it, or below it and 1 -/
theorem floor_law {b : Nat} (hb : b < 18446744073709551616) (h : rung b < 9218868437227405312) :
    floorB b = b ∨ (nan (floorB b) = false ∧ key (floorB b) < key b ∧ ∃ r, floatBits .add .f64 (floorB b) 4607182418800017408 = some r ∧ nan r = false ∧ key b < key r) := by
  by_cases w : val (rung b) % unit = 0
  · exact .inl (floor_whole hb h w)
  · right
    have q52 := frac_small w
    have hd := Nat.div_add_mod (val (rung b)) unit
    have hm := Nat.mod_lt (val (rung b)) unit_pos
    have hq : truncN b = val (rung b) / unit := by unfold truncN; exact Eq.refl _
    rw [← hq] at q52 hd
    rw [Nat.mul_comm] at hd
    have fp := fun n => floorB_fl h n
    have fn := fun n => floorB_neg h n
    clear hq
    generalize truncN b = q at *
    have q1 : q ≤ 9007199254740992 := by omega
    have q2 : q + 1 ≤ 9007199254740992 := by omega
    have hs : (q + 1) * unit = q * unit + unit := Nat.succ_mul _ _
    have c1 := (val_ge (r := rung b) q1).1
    have c2 := (val_ge (r := rung b) q2).2
    have l1 : fl q < rung b := c1.2 (by omega)
    have l2 : rung b < fl (q + 1) := c2.2 (by omega)
    have f := fl_facts q1
    have g := fl_facts q2
    have r1 := (fl_val q2).1
    have r2 := (fl_val q2).2.symm
    clear c1 c2 hs hd hm q52
    cases n : neg b
    · have e : floorB b = fl q := fp n
      rw [e]
      exact ⟨f.1, by rw [f.2.1, key_of_pos n]; exact Int.ofNat_lt.2 l1, fl (q + 1), fl_add_one q2, g.1, by rw [g.2.1, key_of_pos n]; exact Int.ofNat_lt.2 l2⟩
    · have hw : (val (rung b) % unit != 0).toNat = 1 := by
        have : (val (rung b) % unit != 0) = true := bne_iff_ne.2 w
        rw [this]; exact Eq.refl _
      have e : floorB b = nfl (q + 1) := by
        rw [fn n, hw, nearest_unit true (q + 1) (fl (q + 1)) (Nat.lt_of_le_of_lt r1 (by decide)) r2]
        unfold nfl; exact Eq.refl _
      rw [e]
      obtain ⟨f1, f2, f3⟩ := nfl_facts q2
      refine ⟨f3, by rw [key_nfl q2, key_of_neg n]; exact Int.neg_lt_neg (Int.ofNat_lt.2 l2), _, nfl_add_one q2, ?_⟩
      by_cases z : q = 0
      · rw [if_pos z]
        exact ⟨f.1, by rw [f.2.1, key_of_neg n]; exact neg_lt_cast l1⟩
      · rw [if_neg z]
        obtain ⟨g1, g2, g3⟩ := nfl_facts q1
        exact ⟨g3, by rw [key_nfl q1, key_of_neg n]; exact Int.neg_lt_neg (Int.ofNat_lt.2 l1)⟩
end Go.Proofs.YtlnobfmbnnfbdaaGreatDoor.Num
