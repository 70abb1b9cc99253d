import Derived.Test.YtlnobfmbnnfbdaaGreatDoorShelf
import Derived.Test.YtlnobfmbnnfbdaaGreatDoorT2
import Derived.Test.YtlnobfmbnnfbdaaGreatDoorNum4
import Derived.Lib.AppendIntMem
import Derived.Lib.AtoiErrMem
namespace Go.Proofs.YtlnobfmbnnfbdaaGreatDoor
open Go.ChangeShapes Go.WideShapes Go.ChangeAt Go.RowKit Num
attribute [local go_sem] frombits_run bits_run

/-! math -/
theorem andNot_sign {b : Nat} (h : b < 18446744073709551616) : bits .andNot .u64 (b : Int) 9223372036854775808 = ((b &&& 9223372036854775807 : Nat) : Int) :=
  u64_andNot_nat b 9223372036854775808 h (by decide)
theorem floor_entry (b : Nat) (h : nan b = false) : Extern.MathFloor.toIntegral "math.archFloor" .down #[.float .f64 b] = pure (.float .f64 (floorB b)) := by
  have e : (∃ s m i, FloatKind.f64.decode b = .number s m i) ∨ ∃ s, FloatKind.f64.decode b = .infinity s := by
    rcases read_kind b with ⟨g, _⟩ | ⟨_, g⟩
    · rw [h] at g; cases g
    · exact g
  conv => lhs; whnf
  unfold floorB
  rcases e with ⟨s, m, i, e⟩ | ⟨s, e⟩ <;> rw [e]
theorem archFloor_num (b : Nat) (h : nan b = false) (w : World) : (callFunc 77 #[.float .f64 b]).run Tryz.prog w = .ok (.value (.float .f64 (floorB b))) w := by
  rw [run_callFunc_extern (e := Extern.MathFloor.toIntegral "math.archFloor" .down) Tryz.func77 (by kernel_rfl) (by kernel_rfl) (by kernel_rfl) (by kernel_rfl), floor_entry b h]
  rfl
theorem mathFloor_num (b : Nat) (w : World) (h : nan b = false) : Calls Tryz.prog 61 #[.float .f64 b] w fun e w' => e = .returned (.float .f64 (floorB b)) ∧ w' = w := by
  have hrun := archFloor_num b h
  go_enter Tryz.func61, Tryz.ntmps61
  go_wp2
  go_ret
  exact ⟨rfl, rfl⟩
theorem mathAbs_any (b : Nat) (w : World) (hb : b < 18446744073709551616) : Calls Tryz.prog 60 #[.float .f64 b] w fun e w' => e = .returned (.float .f64 (rung b)) ∧ w' = w := by
  have h := andNot_sign hb
  rw [and_low b] at h
  clear hb
  go_enter Tryz.func60, Tryz.ntmps60
  go_wp2
  go_ret
  exact ⟨rfl, rfl⟩
theorem neg_wrap (b : Nat) (hb : b < 18446744073709551616) : decide (wrap64 (b : Int) < 0) = neg b := by
  rcases Num.shape hb with ⟨g1, g2, g3⟩ | ⟨g1, g2, g3⟩
  · rw [g2, decide_eq_false_iff_not]; unfold wrap64; omega
  · rw [g2, decide_eq_true_eq]; unfold wrap64; omega
theorem signbit_any (b : Nat) (w : World) (hb : b < 18446744073709551616) : Calls Tryz.prog 59 #[.float .f64 b] w fun e w' => e = .returned (.bool (neg b)) ∧ w' = w := by
  have h2 := neg_wrap b hb
  clear hb
  go_enter Tryz.func59, Tryz.ntmps59
  go_wp2
  go_ret
  exact ⟨by rw [← h2]; rfl, rfl⟩
theorem inf_gt (b : Nat) (hn : nan b = false) (hb : b < 18446744073709551616) : (FloatKind.f64.format.order b 9218868437227405311 == some Ordering.gt) = (b == 9218868437227405312) := by
  have k0 : key 9218868437227405311 = 9218868437227405311 := by decide
  have n0 : nan 9218868437227405311 = false := by decide
  have hr : rung b ≤ 9218868437227405312 := by simpa [nan] using hn
  have hk := order_key b 9218868437227405311 hn n0
  rw [show FloatKind.f64.format.order b 9218868437227405311 = _ from hk, k0]
  rcases Num.shape hb with ⟨g1, g2, g3⟩ | ⟨g1, g2, g3⟩
  · have e : key b = b := by unfold key; rw [g2, g3]; rfl
    rw [e]
    by_cases h : b = 9218868437227405312
    · subst h; decide
    · rw [show (b == 9218868437227405312) = false from beq_eq_false_iff_ne.2 h]
      rcases Nat.lt_or_eq_of_le (show b ≤ 9218868437227405311 by omega) with q | q
      · rw [compare_lt (by omega)]; rfl
      · rw [compare_eq (by omega)]; rfl
  · have e : key b ≤ 0 := by unfold key; rw [g2, if_pos rfl]; omega
    rw [compare_lt (by omega), show (b == 9218868437227405312) = false from beq_eq_false_iff_ne.2 (by omega)]
    rfl
theorem isInf_pos (b : Nat) (w : World) (hn : nan b = false) (hb : b < 18446744073709551616) : Calls Tryz.prog 58 #[.float .f64 b, .int .i64 1] w fun e w' => e = .returned (.bool (b == 9218868437227405312)) ∧ w' = w := by
  rw [← inf_gt b hn hb]
  clear hn hb
  go_enter Tryz.func58, Tryz.ntmps58
  go_wp2
  go_ret
  exact ⟨rfl, rfl⟩
theorem unary_neg (b : Nat) (w : World) : (Op.unary .neg (.float .f64 b)).run Tryz.prog w = .ok (.float .f64 (b ^^^ 9223372036854775808)) w := rfl
theorem isInf_neg (b : Nat) (w : World) (hn : nan b = false) (hb : b < 18446744073709551616) : Calls Tryz.prog 58 #[.float .f64 b, .int .i64 (-1)] w fun e w' => e = .returned (.bool (b == 18442240474082181120)) ∧ w' = w := by
  have hx := xor_shape hb
  have h1 := inf_gt (b ^^^ 9223372036854775808) (by rw [nan_xor hb]; exact hn) hx.1
  have h2 : ((b ^^^ 9223372036854775808) == 9218868437227405312) = (b == 18442240474082181120) := by
    rcases Num.shape hb with ⟨g1, g2, g3⟩ | ⟨g1, g2, g3⟩
    · rw [xor_low g1, Bool.eq_iff_iff, beq_iff_eq, beq_iff_eq]; omega
    · rw [xor_high g1 hb, Bool.eq_iff_iff, beq_iff_eq, beq_iff_eq]; omega
  rw [← h2, ← h1]
  have hu := unary_neg b w
  clear h1 h2 hx hn hb
  generalize b ^^^ 9223372036854775808 = c at hu ⊢
  go_enter Tryz.func58, Tryz.ntmps58
  go_wp2
  go_ret
  exact ⟨rfl, rfl⟩
end Go.Proofs.YtlnobfmbnnfbdaaGreatDoor
