import Derived.Test.YtaliehikdidiaaaGreatDoorGr
import Derived.Test.YtaliehikdidiaaaGreatDoorRows
import Derived.Test.YtaliehikdidiaaaGreatDoorNum
import Derived.WalkKit
import Derived.ProofKit
import Derived.OpenShut
import Derived.WalkLawsBesides
import Derived.Laws.EntriesVeiled
namespace Go.Proofs.YtaliehikdidiaaaGreatDoor
open Go.ChangeShapes Go.WideShapes Go.ChangeAt Go.RowKit Num

theorem frombits_run (n : Int) (w : World) : (callFunc 60 #[.int .u64 n]).run Tryz.prog w = .ok (.value (.float .f64 n.toNat)) w := by
  rw [run_callFunc_extern (e := Extern.MathFloatBits.float64frombits) Tryz.func60 (by kernel_rfl) (by kernel_rfl) (by kernel_rfl) (by kernel_rfl)]
  rfl
theorem bits_run (b : Nat) (w : World) : (callFunc 44 #[.float .f64 b]).run Tryz.prog w = .ok (.value (.int .u64 b)) w := by
  rw [run_callFunc_extern (e := Extern.MathFloatBits.float64bits) Tryz.func44 (by kernel_rfl) (by kernel_rfl) (by kernel_rfl) (by kernel_rfl)]
  rfl
attribute [local go_sem] frombits_run bits_run

theorem fix_any (b : Nat) (w : World) : Calls Tryz.prog 83 #[.float .f64 b] w fun e w' => e = .returned (.float .f64 (fixB b)) ∧ w' = w := by
  cases g : nan b
  · have h := self_num g
    rw [fixB_num g]
    clear g
    go_enter Tryz.func83, Tryz.ntmps83
    go_wp2
    go_ret
    exact ⟨rfl, rfl⟩
  · have h := self_nan g
    rw [fixB_nan g]
    clear g
    go_enter Tryz.func83, Tryz.ntmps83
    go_wp2
    go_ret
    exact ⟨rfl, rfl⟩
theorem bits_any (b : Nat) (w : World) : Calls Tryz.prog 119 #[.float .f64 b] w fun e w' => e = .returned (.int .u64 (fixB b)) ∧ w' = w := by
  go_enter Tryz.func119, Tryz.ntmps119
  go_wp2_with (go_at_call 83; refine (fix_any _ _).mono ?_; rintro e w' ⟨rfl, rfl⟩)
  go_ret
  exact ⟨rfl, rfl⟩
theorem isNaN_any (b : Nat) (w : World) : Calls Tryz.prog 120 #[.float .f64 b] w fun e w' => e = .returned (.bool (nan b)) ∧ w' = w := by
  cases g : nan b
  · have h := self_num g
    clear g
    go_enter Tryz.func120, Tryz.ntmps120
    go_wp2
    go_ret
    exact ⟨rfl, rfl⟩
  · have h := self_nan g
    clear g
    go_enter Tryz.func120, Tryz.ntmps120
    go_wp2
    go_ret
    exact ⟨rfl, rfl⟩
theorem place_any (b : Nat) (w : World) (hb : b < 18446744073709551616) : Calls Tryz.prog 201 #[.float .f64 b] w fun e w' => e = .returned (.int .u64 (place b)) ∧ w' = w := by
  have hf := fixB_lt hb
  have h1 := and_sign hf
  have h2 := not_bits hf
  unfold place
  by_cases g : 9223372036854775808 ≤ fixB b
  · rw [if_pos g] at h1 ⊢
    go_enter Tryz.func201, Tryz.ntmps201
    go_wp2_with (go_at_call 119; refine (bits_any _ _).mono ?_; rintro e w' ⟨rfl, rfl⟩)
    go_ret
    exact ⟨rfl, rfl⟩
  · rw [if_neg g] at h1 ⊢
    have h3 := or_sign (Nat.lt_of_not_le g)
    go_enter Tryz.func201, Tryz.ntmps201
    go_wp2_with (go_at_call 119; refine (bits_any _ _).mono ?_; rintro e w' ⟨rfl, rfl⟩)
    go_ret
    exact ⟨rfl, rfl⟩
def cmpN (m n : Nat) : Int := if m < n then -1 else if n < m then 1 else 0
theorem cmp_any (m n : Nat) (w : World) : Calls Tryz.prog 200 #[.int .u64 m, .int .u64 n] w fun e w' => e = .returned (.int .i64 (cmpN m n)) ∧ w' = w := by
  unfold cmpN
  by_cases h1 : m < n
  · rw [if_pos h1]
    go_enter Tryz.func200, Tryz.ntmps200
    go_wp2
    go_ret
    exact ⟨rfl, rfl⟩
  · rw [if_neg h1]
    by_cases h2 : n < m
    · rw [if_pos h2]
      go_enter Tryz.func200, Tryz.ntmps200
      go_wp2
      go_ret
      exact ⟨rfl, rfl⟩
    · rw [if_neg h2]
      go_enter Tryz.func200, Tryz.ntmps200
      go_wp2
      go_ret
      exact ⟨rfl, rfl⟩
theorem compare_any (a b : Nat) (w : World) (ha : a < 18446744073709551616) (hb : b < 18446744073709551616) : Calls Tryz.prog 198 #[.float .f64 a, .float .f64 b] w fun e w' => e = .returned (.int .i64 (cmpB a b)) ∧ w' = w := by
  go_enter Tryz.func198, Tryz.ntmps198
  go_wp2_with (first | (go_at_call 201; refine (place_any _ _ (by assumption)).mono ?_; rintro e w' ⟨rfl, rfl⟩) | (go_at_call 200; refine (cmp_any _ _ _).mono ?_; rintro e w' ⟨rfl, rfl⟩))
  go_ret
  exact ⟨rfl, rfl⟩
theorem same_any (a b : Nat) (w : World) : Calls Tryz.prog 82 #[.float .f64 a, .float .f64 b] w fun e w' => e = .returned (.bool (fixB a == fixB b)) ∧ w' = w := by
  have h : ((fixB a : Int) == (fixB b : Int)) = (fixB a == fixB b) := by rw [Bool.eq_iff_iff, beq_iff_eq, beq_iff_eq]; omega
  go_enter Tryz.func82, Tryz.ntmps82
  go_wp2_with (go_at_call 119; refine (bits_any _ _).mono ?_; rintro e w' ⟨rfl, rfl⟩)
  go_ret
  exact ⟨rfl, rfl⟩
end Go.Proofs.YtaliehikdidiaaaGreatDoor
