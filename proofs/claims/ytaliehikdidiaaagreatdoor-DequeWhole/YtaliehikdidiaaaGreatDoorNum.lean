import Derived.Laws.FloatArith
import Derived.Laws.Bits64
import Derived.Laws.BitsAllLaws
namespace Go.Proofs.YtaliehikdidiaaaGreatDoor.Num
open Ieee

/-- the sign's bit, and what lies below it -/
def neg (b : Nat) : Bool := b / 9223372036854775808 % 2 == 1
def rung (b : Nat) : Nat := b % 9223372036854775808

theorem read_eq (b : Nat) : double.read b =
    if rung b < 4503599627370496 then .number (neg b) (rung b) (-1074)
    else if rung b < 9218868437227405312 then .number (neg b) (4503599627370496 + rung b % 4503599627370496) (-1074 + (rung b / 4503599627370496 - 1 : Nat))
    else if rung b = 9218868437227405312 then .infinity (neg b)
    else .nan (neg b) (rung b - 9218868437227405312) := rfl

/-- a rung's value, in units of the least number above 0 -/
def val (r : Nat) : Nat := if r < 4503599627370496 then r else (4503599627370496 + r % 4503599627370496) * 2 ^ (r / 4503599627370496 - 1)

theorem val_lt {r s : Nat} (h : r < s) : val r < val s := by
  unfold val
  by_cases h1 : s < 4503599627370496
  · rw [if_pos h1, if_pos (by omega)]; exact h
  · rw [if_neg h1]
    have p2 : 0 < 2 ^ (s / 4503599627370496 - 1) := Nat.two_pow_pos _
    by_cases h2 : r < 4503599627370496
    · rw [if_pos h2]
      have := Nat.le_mul_of_pos_right (4503599627370496 + s % 4503599627370496) p2
      omega
    · rw [if_neg h2]
      by_cases hq : r / 4503599627370496 = s / 4503599627370496
      · rw [hq]
        exact Nat.mul_lt_mul_of_pos_right (by omega) p2
      · have e : s / 4503599627370496 - 1 = (r / 4503599627370496 - 1) + 1 + (s / 4503599627370496 - r / 4503599627370496 - 1) := by omega
        have p1 : 0 < 2 ^ (r / 4503599627370496 - 1) := Nat.two_pow_pos _
        have p3 : 0 < 2 ^ (s / 4503599627370496 - r / 4503599627370496 - 1) := Nat.two_pow_pos _
        calc (4503599627370496 + r % 4503599627370496) * 2 ^ (r / 4503599627370496 - 1)
            < (4503599627370496 * 2) * 2 ^ (r / 4503599627370496 - 1) := Nat.mul_lt_mul_of_pos_right (by omega) p1
          _ = 4503599627370496 * 2 ^ ((r / 4503599627370496 - 1) + 1) := by rw [Nat.pow_succ, Nat.mul_assoc, Nat.mul_comm 2]
          _ ≤ 4503599627370496 * 2 ^ ((r / 4503599627370496 - 1) + 1) * 2 ^ (s / 4503599627370496 - r / 4503599627370496 - 1) := Nat.le_mul_of_pos_right _ p3
          _ = 4503599627370496 * 2 ^ (s / 4503599627370496 - 1) := by rw [Nat.mul_assoc, ← Nat.pow_add, ← e]
          _ ≤ _ := Nat.mul_le_mul_right _ (by omega)

/-- with its sign -/
def sval (b : Nat) : Int := if neg b then -(val (rung b) : Int) else val (rung b)
/-- where a number stands among the numbers, by value -/
def key (b : Nat) : Int := if neg b then -(rung b : Int) else rung b
def nan (b : Nat) : Bool := decide (9218868437227405312 < rung b)

theorem sval_key (a b : Nat) : compare (sval a) (sval b) = compare (key a) (key b) := by
  have mono : ∀ r s, (val r < val s ↔ r < s) := fun r s => ⟨fun h => by
      by_cases g : r < s
      · exact g
      · rcases Nat.eq_or_lt_of_le (Nat.le_of_not_lt g) with e | e
        · subst e; omega
        · have := val_lt e; omega, val_lt⟩
  have h1 := mono (rung a) (rung b)
  have h2 := mono (rung b) (rung a)
  have z1 := mono 0 (rung a)
  have z2 := mono 0 (rung b)
  have e0 : val 0 = 0 := rfl
  rw [e0] at z1 z2
  have hlt : (sval a < sval b ↔ key a < key b) := by unfold sval key; split <;> split <;> omega
  have hgt : (sval b < sval a ↔ key b < key a) := by unfold sval key; split <;> split <;> omega
  simp only [compare, compareOfLessAndEq]
  by_cases c1 : key a < key b
  · rw [if_pos c1, if_pos (hlt.2 c1)]
  · rw [if_neg c1, if_neg (fun h => c1 (hlt.1 h))]
    by_cases c2 : key a = key b
    · rw [if_pos c2, if_pos (by have := hlt.1; have := hgt.1; omega)]
    · rw [if_neg c2, if_neg (by have := hlt.2; have := hgt.2; omega)]

theorem signed_scale (s : Bool) (m k j : Nat) : signed s m (k + j) = signed s m k * 2 ^ j := by
  unfold signed
  simp only [Nat.shiftLeft_eq, Nat.pow_add]
  split
  · push_cast; rw [Int.neg_mul, Int.mul_assoc]
  · push_cast; rw [Int.mul_assoc]

theorem compare_scale (x y : Int) (j : Nat) : compare (x * 2 ^ j) (y * 2 ^ j) = compare x y := by
  have p : (0 : Int) < 2 ^ j := Int.pow_pos (by decide)
  simp only [compare, compareOfLessAndEq]
  have h1 : (x * 2 ^ j < y * 2 ^ j ↔ x < y) := ⟨fun h => Int.lt_of_mul_lt_mul_right h (Int.le_of_lt p), fun h => Int.mul_lt_mul_of_pos_right h p⟩
  have h2 : (x * 2 ^ j = y * 2 ^ j ↔ x = y) := ⟨fun h => Int.eq_of_mul_eq_mul_right (by omega) h, fun h => by rw [h]⟩
  simp only [h1, h2]

/-- two numbers, by their places above the least one -/
theorem order_numbers (s t : Bool) (m n k l : Nat) : (Datum.number s m (-1074 + k)).order (.number t n (-1074 + l)) = some (compare (signed s m k) (signed t n l)) := by
  have e : ∀ x : Nat, ((-1074 + (x : Int)) - min (-1074 + (k : Int)) (-1074 + l)).toNat = x - min k l := fun x => by omega
  simp only [Datum.order, e]
  have h1 := signed_scale s m (k - min k l) (min k l)
  have h2 := signed_scale t n (l - min k l) (min k l)
  rw [show k - min k l + min k l = k by omega] at h1
  rw [show l - min k l + min k l = l by omega] at h2
  rw [h1, h2, compare_scale]

theorem signed_val (s : Bool) (r : Nat) : (if r < 4503599627370496 then signed s r 0 else signed s (4503599627370496 + r % 4503599627370496) (r / 4503599627370496 - 1)) = if s then -(val r : Int) else val r := by
  unfold signed val
  simp only [Nat.shiftLeft_eq]
  by_cases h : r < 4503599627370496 <;> simp [h]

theorem read_nan {b : Nat} (h : nan b = true) : double.read b = .nan (neg b) (rung b - 9218868437227405312) := by
  have h' : 9218868437227405312 < rung b := by simpa [nan] using h
  rw [read_eq, if_neg (by omega), if_neg (by omega), if_neg (by omega)]

theorem read_fin {b : Nat} (h : rung b < 9218868437227405312) : ∃ m k : Nat, double.read b = .number (neg b) m (-1074 + k) ∧ m * 2 ^ k = val (rung b) := by
  rw [read_eq]
  by_cases h1 : rung b < 4503599627370496
  · rw [if_pos h1]; exact ⟨_, 0, rfl, by simp [val, h1]⟩
  · rw [if_neg h1, if_pos h]; exact ⟨_, _, rfl, by simp [val, h1]⟩

theorem read_inf {b : Nat} (h : rung b = 9218868437227405312) : double.read b = .infinity (neg b) := by
  rw [read_eq, if_neg (by omega), if_neg (by omega), if_pos h]

theorem signed_mul (s : Bool) (m k : Nat) : signed s m k = if s then -((m * 2 ^ k : Nat) : Int) else ((m * 2 ^ k : Nat) : Int) := by
  unfold signed; simp only [Nat.shiftLeft_eq]

theorem compare_lt {a b : Int} (h : a < b) : compare a b = .lt := by simp only [compare, compareOfLessAndEq, if_pos h]
theorem compare_gt {a b : Int} (h : b < a) : compare a b = .gt := by simp only [compare, compareOfLessAndEq]; rw [if_neg (by omega), if_neg (by omega)]
theorem compare_eq {a b : Int} (h : a = b) : compare a b = .eq := by simp only [compare, compareOfLessAndEq]; rw [if_neg (by omega), if_pos h]

/-- WHAT THE COMPARISONS OF TWO NUMBERS SAY -/
theorem order_key (a b : Nat) (ha : nan a = false) (hb : nan b = false) : double.order a b = some (compare (key a) (key b)) := by
  have ha' : rung a ≤ 9218868437227405312 := by simpa [nan] using ha
  have hb' : rung b ≤ 9218868437227405312 := by simpa [nan] using hb
  unfold Format.order
  by_cases h1 : rung a < 9218868437227405312 <;> by_cases h2 : rung b < 9218868437227405312
  · obtain ⟨m, k, e1, v1⟩ := read_fin h1
    obtain ⟨n, l, e2, v2⟩ := read_fin h2
    rw [e1, e2, order_numbers, signed_mul, signed_mul, v1, v2]
    exact congrArg some (sval_key a b)
  · have e : rung b = 9218868437227405312 := by omega
    obtain ⟨m, k, e1, v1⟩ := read_fin h1
    rw [e1, read_inf e]
    show some (if neg b then Ordering.gt else Ordering.lt) = _
    unfold key
    cases neg b
    · rw [compare_lt (by simp; split <;> omega)]; rfl
    · rw [compare_gt (by simp; split <;> omega)]; rfl
  · have e : rung a = 9218868437227405312 := by omega
    obtain ⟨m, k, e1, v1⟩ := read_fin h2
    rw [e1, read_inf e]
    show some (if neg a then Ordering.lt else Ordering.gt) = _
    unfold key
    cases neg a
    · rw [compare_gt (by simp; split <;> omega)]; rfl
    · rw [compare_lt (by simp; split <;> omega)]; rfl
  · have e : rung a = 9218868437227405312 := by omega
    have e' : rung b = 9218868437227405312 := by omega
    rw [read_inf e, read_inf e']
    unfold key
    rw [e, e']
    cases neg a <;> cases neg b <;> rfl

theorem order_nan_left (a b : Nat) (h : nan a = true) : double.order a b = none := by
  unfold Format.order; rw [read_nan h]; rfl
theorem order_nan_right (a b : Nat) (h : nan b = true) : double.order a b = none := by
  unfold Format.order; rw [read_nan h]; cases double.read a <;> rfl

/-- one NaN of all -/
def fixB (b : Nat) : Nat := if nan b then 9221120237041090560 else b
theorem fixB_nan {b : Nat} (h : nan b = true) : fixB b = 9221120237041090560 := by unfold fixB; rw [h]; rfl
theorem fixB_num {b : Nat} (h : nan b = false) : fixB b = b := by unfold fixB; rw [h]; rfl
theorem nan_const : nan 9221120237041090560 = true := by decide
theorem fixB_fixB (b : Nat) : fixB (fixB b) = fixB b := by
  cases h : nan b
  · rw [fixB_num h, fixB_num h]
  · rw [fixB_nan h, fixB_nan nan_const]
theorem nan_fixB (b : Nat) : nan (fixB b) = nan b := by
  cases h : nan b
  · rw [fixB_num h, h]
  · rw [fixB_nan h, nan_const]
theorem fixB_lt {b : Nat} (h : b < 18446744073709551616) : fixB b < 18446744073709551616 := by
  unfold fixB; split <;> omega

theorem self_nan {b : Nat} (h : nan b = true) : FloatKind.f64.format.order b b = none := order_nan_left b b h
theorem self_num {b : Nat} (h : nan b = false) : FloatKind.f64.format.order b b = some .eq := by
  have := order_key b b h h
  rw [compare_eq rfl] at this
  exact this

/-- the places in the order, -0 ahead of +0, NaN last -/
def place (b : Nat) : Nat := if 9223372036854775808 ≤ fixB b then 18446744073709551615 - fixB b else fixB b + 9223372036854775808
def cmpB (a b : Nat) : Int := if place a < place b then -1 else if place b < place a then 1 else 0

theorem and_pow (b k : Nat) : b &&& 2 ^ k = if b.testBit k then 2 ^ k else 0 := by
  apply Nat.eq_of_testBit_eq
  intro i
  rw [Nat.testBit_and, Nat.testBit_two_pow]
  by_cases h : k = i
  · subst h; cases g : b.testBit k <;> simp
  · cases g : b.testBit k <;> simp [h]
theorem and_sign {b : Nat} (h : b < 18446744073709551616) : bits .and .u64 (b : Int) 9223372036854775808 = if 9223372036854775808 ≤ b then 9223372036854775808 else 0 := by
  have e := u64_and_nat b 9223372036854775808 h (by decide)
  have e2 : b &&& 9223372036854775808 = if b.testBit 63 then 2 ^ 63 else 0 := and_pow b 63
  rw [e2] at e
  refine e.trans ?_
  rw [Nat.testBit_eq_decide_div_mod_eq]
  by_cases g : 9223372036854775808 ≤ b
  · rw [if_pos g, show b / 2 ^ 63 % 2 = 1 by omega]; decide
  · rw [if_neg g, show b / 2 ^ 63 % 2 = 0 by omega]; decide
theorem or_sign {b : Nat} (h : b < 9223372036854775808) : bits .or .u64 (b : Int) 9223372036854775808 = ((b + 9223372036854775808 : Nat) : Int) := by
  have e := u64_or_nat b 9223372036854775808 (by omega) (by decide)
  refine e.trans ?_
  have := Nat.two_pow_add_eq_or_of_lt (i := 63) h 1
  rw [Nat.or_comm]
  have e3 : 9223372036854775808 ||| b = 9223372036854775808 + b := by simpa using this.symm
  rw [e3, Nat.add_comm]
theorem not_bits {b : Nat} (h : b < 18446744073709551616) : bits .xor .u64 IntKind.u64.max (b : Int) = ((18446744073709551615 - b : Nat) : Int) := by
  have e := u64_xor_nat 18446744073709551615 b (by decide) h
  refine e.trans ?_
  have : (BitVec.allOnes 64 ^^^ BitVec.ofNat 64 b).toNat = (~~~ BitVec.ofNat 64 b).toNat := by rw [BitVec.allOnes_xor]
  rw [BitVec.toNat_xor, BitVec.toNat_not, BitVec.toNat_allOnes, BitVec.toNat_ofNat, Nat.mod_eq_of_lt h] at this
  exact congrArg _ this

/-- the four ways of a comparison -/
theorem order_cases (a b : Nat) : (FloatKind.f64.format.order a b = none ∧ (nan a = true ∨ nan b = true)) ∨
    (nan a = false ∧ nan b = false ∧ ((FloatKind.f64.format.order a b = some .lt ∧ key a < key b) ∨ (FloatKind.f64.format.order a b = some .eq ∧ key a = key b) ∨ (FloatKind.f64.format.order a b = some .gt ∧ key b < key a))) := by
  cases ha : nan a
  · cases hb : nan b
    · right
      refine ⟨rfl, rfl, ?_⟩
      have e : FloatKind.f64.format.order a b = _ := order_key a b ha hb
      rcases Int.lt_trichotomy (key a) (key b) with h | h | h
      · exact .inl ⟨by rw [e, compare_lt h], h⟩
      · exact .inr (.inl ⟨by rw [e, compare_eq h], h⟩)
      · exact .inr (.inr ⟨by rw [e, compare_gt h], h⟩)
    · exact .inl ⟨order_nan_right a b hb, .inr rfl⟩
  · exact .inl ⟨order_nan_left a b ha, .inl rfl⟩

theorem shape {b : Nat} (h : b < 18446744073709551616) : (b < 9223372036854775808 ∧ neg b = false ∧ rung b = b) ∨ (9223372036854775808 ≤ b ∧ neg b = true ∧ rung b = b - 9223372036854775808) := by
  unfold neg rung
  by_cases g : b < 9223372036854775808
  · exact .inl ⟨g, by rw [show b / 9223372036854775808 % 2 = 0 by omega]; rfl, by omega⟩
  · exact .inr ⟨by omega, by rw [show b / 9223372036854775808 % 2 = 1 by omega]; rfl, by omega⟩

def classB (b : Nat) : Int := if nan b then 4 else if key b < 0 then 0 else if 0 < key b then 3 else if b = 0 then 2 else 1

/-- a number's kind, its place, its value's key -/
theorem kinds {b : Nat} (h : b < 18446744073709551616) :
    (nan b = true ∧ classB b = 4 ∧ place b = 18444492273895866368) ∨
    (nan b = false ∧ key b < 0 ∧ classB b = 0 ∧ (place b : Int) = 9223372036854775807 + key b) ∨
    (nan b = false ∧ key b = 0 ∧ b = 9223372036854775808 ∧ classB b = 1 ∧ place b = 9223372036854775807) ∨
    (nan b = false ∧ key b = 0 ∧ b = 0 ∧ classB b = 2 ∧ place b = 9223372036854775808) ∨
    (nan b = false ∧ 0 < key b ∧ key b ≤ 9218868437227405312 ∧ classB b = 3 ∧ (place b : Int) = 9223372036854775808 + key b) := by
  cases hn : nan b
  · right
    have hr : rung b ≤ 9218868437227405312 := by simpa [nan] using hn
    have hf := fixB_num hn
    have hp : place b = if 9223372036854775808 ≤ b then 18446744073709551615 - b else b + 9223372036854775808 := by unfold place; rw [hf]
    have hc : classB b = if key b < 0 then 0 else if 0 < key b then 3 else if b = 0 then 2 else 1 := by unfold classB; rw [hn]; rfl
    rw [hp, hc]
    rcases shape h with ⟨g1, g2, g3⟩ | ⟨g1, g2, g3⟩
    · have hk : key b = b := by unfold key; rw [g2, g3]; rfl
      rw [if_neg (by omega : ¬ 9223372036854775808 ≤ b), if_neg (by omega : ¬ key b < 0)]
      by_cases z : b = 0
      · right; right; left
        rw [if_neg (by omega : ¬ 0 < key b), if_pos z]
        exact ⟨rfl, by omega, z, rfl, by omega⟩
      · right; right; right
        rw [if_pos (by omega : 0 < key b)]
        exact ⟨rfl, by omega, by omega, rfl, by omega⟩
    · have hk : key b = -((b : Int) - 9223372036854775808) := by unfold key; rw [g2, g3, if_pos rfl]; omega
      rw [if_pos g1]
      by_cases z : b = 9223372036854775808
      · right; left
        rw [if_neg (by omega : ¬ key b < 0), if_neg (by omega : ¬ 0 < key b), if_neg (by omega)]
        exact ⟨rfl, by omega, z, rfl, by omega⟩
      · left
        rw [if_pos (by omega : key b < 0)]
        exact ⟨rfl, by omega, rfl, by omega⟩
  · left
    refine ⟨rfl, by unfold classB; rw [hn]; rfl, ?_⟩
    unfold place; rw [fixB_nan hn]; decide

theorem cmpB_lt {a b : Nat} (h : place a < place b) : cmpB a b = -1 := by unfold cmpB; rw [if_pos h]
theorem cmpB_gt {a b : Nat} (h : place b < place a) : cmpB a b = 1 := by unfold cmpB; rw [if_neg (by omega), if_pos h]
theorem cmpB_eq {a b : Nat} (h : place a = place b) : cmpB a b = 0 := by unfold cmpB; rw [if_neg (by omega), if_neg (by omega)]
theorem class_lt {a b : Nat} (ha : a < 18446744073709551616) (hb : b < 18446744073709551616) (h : classB a < classB b) : cmpB a b = -1 := by
  apply cmpB_lt
  rcases kinds ha with g | g | g | g | g <;> rcases kinds hb with k | k | k | k | k <;> omega
theorem class_gt {a b : Nat} (ha : a < 18446744073709551616) (hb : b < 18446744073709551616) (h : classB b < classB a) : cmpB a b = 1 := by
  apply cmpB_gt
  rcases kinds ha with g | g | g | g | g <;> rcases kinds hb with k | k | k | k | k <;> omega
theorem class_eq_lt {a b : Nat} (ha : a < 18446744073709551616) (hb : b < 18446744073709551616) (h : classB a = classB b) (hk : key a < key b) (hn : nan a = false) : cmpB a b = -1 := by
  apply cmpB_lt
  rcases kinds ha with g | g | g | g | g <;> rcases kinds hb with k | k | k | k | k <;> first | omega | (rw [hn] at g; cases g.1)
theorem class_eq_gt {a b : Nat} (ha : a < 18446744073709551616) (hb : b < 18446744073709551616) (h : classB a = classB b) (hk : key b < key a) (hn : nan a = false) : cmpB a b = 1 := by
  apply cmpB_gt
  rcases kinds ha with g | g | g | g | g <;> rcases kinds hb with k | k | k | k | k <;> first | omega | (rw [hn] at g; cases g.1)
theorem class_eq_eq {a b : Nat} (ha : a < 18446744073709551616) (hb : b < 18446744073709551616) (h : classB a = classB b) (hk : nan a = true ∨ nan b = true ∨ key a = key b) : cmpB a b = 0 := by
  apply cmpB_eq
  rcases kinds ha with g | g | g | g | g <;> rcases kinds hb with k | k | k | k | k <;> first | omega | (rcases hk with hk | hk | hk <;> first | omega | (rw [hk] at g; cases g.1) | (rw [hk] at k; cases k.1))

/-- what an operation's answer is once it is fixed: a number's bits, or the one NaN -/
def resV : Option Nat → Nat
  | some r => fixB r
  | none => 9221120237041090560
def floorB (b : Nat) : Nat := FloatKind.f64.encode ((FloatKind.f64.decode b).integral .down)
def floorV (b : Nat) : Nat := if nan b then 9221120237041090560 else fixB (floorB b)
def rootV (b : Nat) : Nat := resV (FloatKind.f64.format.sqrt b)
def yesB (c : Bool) : Nat := if c then 4607182418800017408 else 0
def trueB (b : Nat) : Bool := !nan b && key b != 0
def signB (b : Nat) : Nat := if nan b then 9221120237041090560 else if 0 < key b then 4607182418800017408 else if key b < 0 then 13830554455654793216 else b

theorem nan_cut (x y t : Nat) : nan (Question.cut (.nanBits .f64 x y) t) = true := by
  have e : Question.cut (.nanBits .f64 x y) t = (t % 2) * 9223372036854775808 + 9218868437227405312 + 1 + (t / 2) % 4503599627370495 := rfl
  rw [e]
  unfold nan rung
  rw [decide_eq_true_eq]
  have hz : (t / 2) % 4503599627370495 < 4503599627370495 := Nat.mod_lt _ (by decide)
  generalize (t / 2) % 4503599627370495 = z at hz
  have h2 : t % 2 = 0 ∨ t % 2 = 1 := by omega
  rcases h2 with h | h <;> rw [h] <;> omega
theorem fixB_yes (c : Bool) : fixB (yesB c) = yesB c := by cases c <;> decide
theorem key_zero : key 0 = 0 := by decide
theorem nan_zero : nan 0 = false := by decide

theorem quiet_rest (t : Nat) : 0 < (t ||| 2251799813685248) % 4503599627370496 := by
  rcases Nat.eq_zero_or_pos ((t ||| 2251799813685248) % 4503599627370496) with h | h
  · have e : ((t ||| 2251799813685248) % 2 ^ 52).testBit 51 = true := by
      rw [Nat.testBit_mod_two_pow, Nat.testBit_or]
      have : (2251799813685248 : Nat).testBit 51 = true := by decide
      rw [this]; simp
    rw [show (t ||| 2251799813685248) % 2 ^ 52 = 0 from h] at e
    simp at e
  · exact h
theorem nan_quiet (s : Bool) (t : Nat) : nan (FloatKind.f64.encode (.nan s (FloatKind.f64.format.quiet t))) = true := by
  have q := quiet_rest t
  have e : FloatKind.f64.encode (.nan s (FloatKind.f64.format.quiet t)) = if s then 9223372036854775808 + (9218868437227405312 + (t ||| 2251799813685248) % 4503599627370496) else 9218868437227405312 + (t ||| 2251799813685248) % 4503599627370496 := rfl
  rw [e]
  unfold nan rung
  rw [decide_eq_true_eq]
  split <;> omega

theorem read_kind (b : Nat) : (nan b = true ∧ ∃ s t, double.read b = .nan s t) ∨ (nan b = false ∧ ((∃ s m e, double.read b = .number s m e) ∨ ∃ s, double.read b = .infinity s)) := by
  cases h : nan b
  · right
    have h' : rung b ≤ 9218868437227405312 := by simpa [nan] using h
    refine ⟨rfl, ?_⟩
    by_cases g : rung b < 9218868437227405312
    · obtain ⟨m, k, e, _⟩ := read_fin g
      exact .inl ⟨_, _, _, e⟩
    · exact .inr ⟨_, read_inf (by omega)⟩
  · exact .inl ⟨rfl, _, _, read_nan h⟩

/-- a NaN's bits make no odds -/
theorem sqrt_fix (b : Nat) : FloatKind.f64.format.sqrt (fixB b) = FloatKind.f64.format.sqrt b := by
  cases h : nan b
  · rw [fixB_num h]
  · rw [fixB_nan h]
    show ((double.read 9221120237041090560).root _).map _ = ((double.read b).root _).map _
    rw [read_nan h, read_nan nan_const]; rfl
theorem floatBits_fix (op : BinOp) (a b : Nat) : floatBits op .f64 (fixB a) (fixB b) = floatBits op .f64 a b := by
  have key : ∀ x y, nan x = true ∨ nan y = true → floatBits op .f64 x y = none := by
    intro x y h
    have e : ∀ z, nan z = true → ∃ s t, FloatKind.f64.format.read z = .nan s t := fun z hz => ⟨_, _, read_nan hz⟩
    rcases h with h | h
    · obtain ⟨s, t, hr⟩ := e x h
      unfold floatBits
      split <;> simp [Format.add, Format.sub, Format.mul, Format.div, hr, Datum.sum, Datum.product, Datum.quotient]
    · obtain ⟨s, t, hr⟩ := e y h
      unfold floatBits
      split <;> simp only [Format.add, Format.sub, Format.mul, Format.div, hr, Datum.opposite] <;> cases FloatKind.f64.format.read x <;> rfl
  by_cases h : nan a = true ∨ nan b = true
  · rw [key a b h, key _ _ (by rw [nan_fixB, nan_fixB]; exact h)]
  · rw [fixB_num (by simpa using fun g => h (.inl g)), fixB_num (by simpa using fun g => h (.inr g))]
theorem order_fix (a b : Nat) : FloatKind.f64.format.order (fixB a) (fixB b) = FloatKind.f64.format.order a b := by
  by_cases h : nan a = true ∨ nan b = true
  · rcases h with h | h
    · rw [show FloatKind.f64.format.order a b = none from order_nan_left a b h]
      exact order_nan_left _ _ (by rw [nan_fixB]; exact h)
    · rw [show FloatKind.f64.format.order a b = none from order_nan_right a b h]
      exact order_nan_right _ _ (by rw [nan_fixB]; exact h)
  · rw [fixB_num (by simpa using fun g => h (.inl g)), fixB_num (by simpa using fun g => h (.inr g))]
theorem floorV_fix (b : Nat) : floorV (fixB b) = floorV b := by
  cases h : nan b
  · rw [fixB_num h]
  · unfold floorV; rw [nan_fixB, h]; rfl
theorem place_fix (b : Nat) : place (fixB b) = place b := by unfold place; rw [fixB_fixB]
theorem cmpB_fix (a b : Nat) : cmpB (fixB a) (fixB b) = cmpB a b := by unfold cmpB; rw [place_fix, place_fix]
theorem trueB_fix (b : Nat) : trueB (fixB b) = trueB b := by
  cases h : nan b
  · rw [fixB_num h]
  · unfold trueB; rw [nan_fixB, h]; rfl
theorem signB_fix (b : Nat) : signB (fixB b) = signB b := by
  cases h : nan b
  · rw [fixB_num h]
  · unfold signB; rw [nan_fixB, h]; rfl
theorem fixB_sign (b : Nat) : fixB (signB b) = signB b := by
  unfold signB
  cases h : nan b
  · simp only [Bool.false_eq_true, if_false]
    split
    · decide
    · split
      · decide
      · exact fixB_num h
  · simp only [if_true]; decide
end Go.Proofs.YtaliehikdidiaaaGreatDoor.Num
