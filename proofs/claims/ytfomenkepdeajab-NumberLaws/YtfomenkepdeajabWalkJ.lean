import Derived.Test.YtfomenkepdeajabWalkI
import Derived.Test.YtfomenkepdeajabNum4
import Derived.WalkKit
import Derived.ProofKit
import Derived.OpenShut
import Derived.WalkLawsBesides
namespace Go.Proofs.Ytfomenkepdeajab
open Go.ChangeShapes Go.WideShapes Go.ChangeAt Go.RowKit Num

/-! what the operations answer, behind names -/
def addV (a b : Nat) : Nat := resV (floatBits .add .f64 a b)
def subV (a b : Nat) : Nat := resV (floatBits .sub .f64 a b)
def mulV (a b : Nat) : Nat := resV (floatBits .mul .f64 a b)
def negV (a : Nat) : Nat := fixB (fixB a ^^^ 9223372036854775808)
def absV (a : Nat) : Nat := fixB (fixB a &&& 9223372036854775807)
theorem negV_lt {a : Nat} (h : a < 18446744073709551616) : negV a < 18446744073709551616 := fixB_lt (xor_shape (fixB_lt h)).1
theorem beq_of {a b : Nat} (h : a = b) : (a == b) = true := by rw [h]; exact beq_self_eq_true _
theorem add_turn (a b : Nat) : (addV a b == addV b a) = true := beq_of (by unfold addV; rw [add_comm_bits])
theorem mul_turn (a b : Nat) : (mulV a b == mulV b a) = true := beq_of (by unfold mulV; rw [mul_comm_bits])
theorem sub_turn (a b : Nat) (hb : b < 18446744073709551616) : (subV a b == addV a (negV b)) = true := beq_of (by unfold subV addV negV; exact (sub_neg a b hb).symm)
theorem neg_turn {a : Nat} (ha : a < 18446744073709551616) : (negV (negV a) == fixB a) = true := beq_of (by unfold negV; exact neg_neg ha)
theorem abs_turn {a : Nat} (ha : a < 18446744073709551616) : (absV (negV a) == absV a) = true := beq_of (by unfold absV negV; exact abs_neg ha)

theorem ladd (a b : Nat) (w : World) (ha : a < 18446744073709551616) (hb : b < 18446744073709551616) : Calls Try.prog 8 #[.int .i64 1, .float .f64 a, .float .f64 b] w fun e w' => e = .returned (.float .f64 (addV a b)) ∧ Grown w w' :=
  ltwo_of 1 0 a b _ w (fun w => two_1 a b w ha hb)
theorem lsub (a b : Nat) (w : World) (ha : a < 18446744073709551616) (hb : b < 18446744073709551616) : Calls Try.prog 8 #[.int .i64 2, .float .f64 a, .float .f64 b] w fun e w' => e = .returned (.float .f64 (subV a b)) ∧ Grown w w' :=
  ltwo_of 2 0 a b _ w (fun w => two_2 a b w ha hb)
theorem lmul (a b : Nat) (w : World) (ha : a < 18446744073709551616) (hb : b < 18446744073709551616) : Calls Try.prog 8 #[.int .i64 3, .float .f64 a, .float .f64 b] w fun e w' => e = .returned (.float .f64 (mulV a b)) ∧ Grown w w' :=
  ltwo_of 3 0 a b _ w (fun w => two_3 a b w ha hb)
theorem lmin (a b : Nat) (w : World) (ha : a < 18446744073709551616) (hb : b < 18446744073709551616) : Calls Try.prog 8 #[.int .i64 6, .float .f64 a, .float .f64 b] w fun e w' => e = .returned (.float .f64 (minV a b)) ∧ Grown w w' :=
  ltwo_of 6 0 a b _ w (fun w => two_6 a b w ha hb)
theorem lmax (a b : Nat) (w : World) (ha : a < 18446744073709551616) (hb : b < 18446744073709551616) : Calls Try.prog 8 #[.int .i64 7, .float .f64 a, .float .f64 b] w fun e w' => e = .returned (.float .f64 (maxV a b)) ∧ Grown w w' :=
  ltwo_of 7 0 a b _ w (fun w => two_7 a b w ha hb)
theorem lless (a b : Nat) (w : World) (ha : a < 18446744073709551616) (hb : b < 18446744073709551616) : Calls Try.prog 8 #[.int .i64 8, .float .f64 a, .float .f64 b] w fun e w' => e = .returned (.float .f64 (yesB (FloatKind.f64.format.order a b == some .lt))) ∧ Grown w w' :=
  ltwo_of 8 0 a b _ w (fun w => two_8 a b w ha hb)
theorem lequal (a b : Nat) (w : World) (ha : a < 18446744073709551616) (hb : b < 18446744073709551616) : Calls Try.prog 8 #[.int .i64 10, .float .f64 a, .float .f64 b] w fun e w' => e = .returned (.float .f64 (yesB (FloatKind.f64.format.order a b == some .eq))) ∧ Grown w w' :=
  ltwo_of 10 0 a b _ w (fun w => two_10 a b w ha hb)
theorem lneg (a : Nat) (w : World) (ha : a < 18446744073709551616) : Calls Try.prog 9 #[.int .i64 1, .float .f64 a] w fun e w' => e = .returned (.float .f64 (negV a)) ∧ Grown w w' :=
  lone_of 1 0 a _ w (fun w => one_1 a w ha)
theorem labs (a : Nat) (w : World) (ha : a < 18446744073709551616) : Calls Try.prog 9 #[.int .i64 2, .float .f64 a] w fun e w' => e = .returned (.float .f64 (absV a)) ∧ Grown w w' :=
  lone_of 2 0 a _ w (fun w => one_2 a w ha)
theorem lfloor (a : Nat) (w : World) (ha : a < 18446744073709551616) : Calls Try.prog 9 #[.int .i64 3, .float .f64 a] w fun e w' => e = .returned (.float .f64 (floorV a)) ∧ Grown w w' :=
  lone_of 3 0 a _ w (fun w => one_3 a w ha)
theorem lnot (a : Nat) (w : World) (ha : a < 18446744073709551616) : Calls Try.prog 9 #[.int .i64 5, .float .f64 a] w fun e w' => e = .returned (.float .f64 (yesB (!trueB a))) ∧ Grown w w' :=
  lone_of 5 0 a _ w (fun w => one_5 a w ha)

theorem place_inj' {a b : Nat} (ha : a < 18446744073709551616) (hb : b < 18446744073709551616) (h : place a = place b) : fixB a = fixB b := by
  have h1 := fixB_lt ha
  have h2 := fixB_lt hb
  unfold place at h
  split at h <;> split at h <;> omega
theorem ends_of {a b : Nat} (na : nan a = false) (nb : nan b = false) : (cmpB b a < 0 ∧ minV a b = b ∧ maxV a b = a) ∨ (0 < cmpB b a ∧ minV a b = a ∧ maxV a b = b) ∨ (cmpB b a = 0 ∧ minV a b = a ∧ maxV a b = a) := by
  unfold minV maxV
  rw [na, nb]
  simp only [Bool.or_self, Bool.false_eq_true, if_false]
  rcases Int.lt_trichotomy (cmpB b a) 0 with h | h | h
  · exact .inl ⟨h, by rw [if_pos h], by rw [if_neg (by omega)]⟩
  · exact .inr (.inr ⟨h, by rw [if_neg (by omega)], by rw [if_neg (by omega)]⟩)
  · exact .inr (.inl ⟨h, by rw [if_neg (by omega)], by rw [if_pos h]⟩)
theorem cmpB_zero {a b : Nat} (h : cmpB b a = 0) : place a = place b := by
  unfold cmpB at h
  split at h
  · omega
  · split at h <;> omega
theorem both_law {a b : Nat} (ha : a < 18446744073709551616) (hb : b < 18446744073709551616) (na : nan a = false) (nb : nan b = false) :
    ((fixB (minV a b) == fixB a) = true ∧ (fixB (maxV a b) == fixB b) = true) ∨ ((fixB (minV a b) == fixB b) = true ∧ (fixB (maxV a b) == fixB a) = true) := by
  rcases ends_of na nb with ⟨_, h1, h2⟩ | ⟨_, h1, h2⟩ | ⟨h, h1, h2⟩ <;> rw [h1, h2]
  · exact .inr ⟨beq_self_eq_true _, beq_self_eq_true _⟩
  · exact .inl ⟨beq_self_eq_true _, beq_self_eq_true _⟩
  · exact .inl ⟨beq_self_eq_true _, beq_of (place_inj' ha hb (cmpB_zero h))⟩
theorem order_law {a b : Nat} (_ha : a < 18446744073709551616) (_hb : b < 18446744073709551616) (na : nan a = false) (nb : nan b = false) : cmpB (minV a b) (maxV a b) ≤ 0 := by
  have f := cmpB_flip a b
  rcases ends_of na nb with ⟨h, h1, h2⟩ | ⟨h, h1, h2⟩ | ⟨h, h1, h2⟩ <;> rw [h1, h2]
  · omega
  · omega
  · rw [cmpB_eq rfl]; omega
theorem minV_bound {a b : Nat} (ha : a < 18446744073709551616) (hb : b < 18446744073709551616) : minV a b < 18446744073709551616 := by
  unfold minV; split; omega; split <;> assumption
theorem maxV_bound {a b : Nat} (ha : a < 18446744073709551616) (hb : b < 18446744073709551616) : maxV a b < 18446744073709551616 := by
  unfold maxV; split; omega; split <;> assumption

/-! the floor's ways -/
theorem fin_num {a : Nat} (h : rung a < 9218868437227405312) : nan a = false := by unfold nan; exact decide_eq_false (by omega)
theorem sub_self_bits {a : Nat} (h : rung a < 9218868437227405312) : floatBits .sub .f64 a a = some 0 := by
  obtain ⟨m, k, e, _⟩ := read_fin h
  show ((Ieee.double.read a).sum (Ieee.double.read a).opposite).map _ = _
  rw [e]
  unfold Ieee.Datum.opposite Ieee.Datum.sum
  dsimp only
  have z : Ieee.signed (neg a) m (-1074 + (k : Int) - min (-1074 + (k : Int)) (-1074 + (k : Int))).toNat + Ieee.signed (!neg a) m (-1074 + (k : Int) - min (-1074 + (k : Int)) (-1074 + (k : Int))).toNat = 0 := by
    unfold Ieee.signed
    cases neg a
    · simp; omega
    · simp; omega
  rw [z, if_pos rfl, Bool.and_not_self]
  rfl
theorem sub_zero_run {a : Nat} (h : rung a < 9218868437227405312) (w : World) : (binOp .sub 23 (.float .f64 a) (.float .f64 a)).run Try.prog w = .ok (.float .f64 0) w :=
  run_float_arith w .sub 23 .f64 a a 0 (sub_self_bits h)
theorem sub_none {a : Nat} (h : ¬ rung a < 9218868437227405312) : floatBits .sub .f64 a a = none := by
  show ((Ieee.double.read a).sum (Ieee.double.read a).opposite).map _ = _
  by_cases g : rung a = 9218868437227405312
  · rw [read_inf g]
    unfold Ieee.Datum.opposite Ieee.Datum.sum
    dsimp only
    rw [if_neg (by cases neg a <;> decide)]
    rfl
  · rw [read_nan (by unfold nan; exact decide_eq_true (by omega))]
    rfl
theorem nan_of_fix {r : Nat} (h : fixB r = 9221120237041090560) : nan r = true := by
  cases n : nan r
  · rw [fixB_num n] at h; subst h; rw [nan_const] at n; cases n
  · rfl
theorem sub_nan_run {a : Nat} (h : ¬ rung a < 9218868437227405312) (w : World) : ∃ r n, (binOp .sub 23 (.float .f64 a) (.float .f64 a)).run Try.prog w = .ok (.float .f64 r) (w.drewN n) ∧ FloatKind.f64.format.order r 0 = none := by
  obtain ⟨r, n, e, hr⟩ := float_any (P := Try.prog) .sub (by simp) 23 a a w
  rw [sub_none h] at hr
  exact ⟨r, n, e, order_nan_left r 0 (nan_of_fix hr)⟩
theorem order_lt_of {a b : Nat} (na : nan a = false) (nb : nan b = false) (h : key a < key b) : FloatKind.f64.format.order a b = some .lt := by
  rcases order_cases a b with ⟨_, g | g⟩ | ⟨_, _, g | g | g⟩
  · rw [na] at g; cases g
  · rw [nb] at g; cases g
  · exact g.1
  · omega
  · omega
theorem floor_ways (a : Nat) (ha : a < 18446744073709551616) : (rung a < 9218868437227405312 ∧ FloatKind.f64.format.order (floorV a) a = some .eq) ∨
    (rung a < 9218868437227405312 ∧ FloatKind.f64.format.order (floorV a) a = some .lt ∧ ∃ r, floatBits .add .f64 (floorV a) 4607182418800017408 = some r ∧ FloatKind.f64.format.order a r = some .lt) ∨ ¬ rung a < 9218868437227405312 := by
  by_cases h : rung a < 9218868437227405312
  · have na := fin_num h
    have fv : floorV a = fixB (floorB a) := by unfold floorV; rw [na, if_neg Bool.false_ne_true]
    rcases floor_law ha h with e | ⟨nf, k1, r, e, nr, k2⟩
    · exact .inl ⟨h, by rw [fv, e, fixB_num na]; exact self_num na⟩
    · rw [fixB_num nf] at fv
      rw [fv]
      exact .inr (.inl ⟨h, order_lt_of nf na k1, r, e, order_lt_of na nr k2⟩)
  · exact .inr (.inr h)
/-- how often one of 'below', 'above', 'as great' holds: once, or never with a NaN -/
def thr (a b : Nat) : Nat := if nan a || nan b then 0 else 4607182418800017408
theorem thr_nan {a b : Nat} (h : nan a = true ∨ nan b = true) : FloatKind.f64.format.order (thr a b) 4607182418800017408 = some .lt ∧ FloatKind.f64.format.order (thr a b) 0 = some .eq := by
  have e : thr a b = 0 := by
    unfold thr
    rcases h with h | h <;> rw [h]
    · rw [Bool.true_or, if_pos rfl]
    · rw [Bool.or_true, if_pos rfl]
  rw [e]
  decide +kernel
theorem thr_num {a b : Nat} (na : nan a = false) (nb : nan b = false) : FloatKind.f64.format.order (thr a b) 4607182418800017408 = some .eq := by
  have e : thr a b = 4607182418800017408 := by
    unfold thr
    rw [na, nb, Bool.or_self, if_neg Bool.false_ne_true]
  rw [e]
  decide +kernel
theorem order_both (a b : Nat) : (thr a b = (0 : Nat) ∧ FloatKind.f64.format.order a b = none ∧ FloatKind.f64.format.order b a = none) ∨
    (thr a b = (4607182418800017408 : Nat) ∧ FloatKind.f64.format.order a b = some .lt ∧ FloatKind.f64.format.order b a = some .gt) ∨
    (thr a b = (4607182418800017408 : Nat) ∧ FloatKind.f64.format.order a b = some .gt ∧ FloatKind.f64.format.order b a = some .lt) ∨
    (thr a b = (4607182418800017408 : Nat) ∧ FloatKind.f64.format.order a b = some .eq ∧ FloatKind.f64.format.order b a = some .eq) := by
  cases na : nan a
  · cases nb : nan b
    · have hv : thr a b = 4607182418800017408 := by unfold thr; rw [na, nb, Bool.or_self, if_neg Bool.false_ne_true]
      rcases order_cases a b with ⟨_, g | g⟩ | ⟨_, _, ⟨o, k⟩ | ⟨o, k⟩ | ⟨o, k⟩⟩
      · rw [na] at g; cases g
      · rw [nb] at g; cases g
      all_goals
        rcases order_cases b a with ⟨_, g | g⟩ | ⟨_, _, ⟨p, l⟩ | ⟨p, l⟩ | ⟨p, l⟩⟩
        · rw [nb] at g; cases g
        · rw [na] at g; cases g
        all_goals first | omega | exact .inr (.inl ⟨hv, o, p⟩) | exact .inr (.inr (.inl ⟨hv, o, p⟩)) | exact .inr (.inr (.inr ⟨hv, o, p⟩))
    · exact .inl ⟨by unfold thr; rw [nb, Bool.or_true, if_pos rfl], order_nan_right a b nb, order_nan_left b a nb⟩
  · exact .inl ⟨by unfold thr; rw [na, Bool.true_or, if_pos rfl], order_nan_left a b na, order_nan_right b a na⟩
end Go.Proofs.Ytfomenkepdeajab
