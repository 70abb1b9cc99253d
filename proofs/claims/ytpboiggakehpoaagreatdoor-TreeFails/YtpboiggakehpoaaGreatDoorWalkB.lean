import Derived.Test.YtpboiggakehpoaaGreatDoorGr
import Derived.Test.YtpboiggakehpoaaGreatDoorWalkA
import Derived.WalkKit
import Derived.ProofKit
import Derived.OpenShut
import Derived.WalkLawsBesides
import Derived.Laws.EntriesVeiled
namespace Go.Proofs.YtpboiggakehpoaaGreatDoor
open Go.ChangeShapes Go.WideShapes Go.ChangeAt Go.RowKit Num
attribute [local go_sem] frombits_run bits_run

theorem refFix_any (b : Nat) (w : World) : Calls Tryz.prog 32 #[.float .f64 b] w fun e w' => e = .returned (.float .f64 (fixB b)) ∧ w' = w := by
  cases g : nan b
  · have h := self_num g
    rw [fixB_num g]
    clear g
    go_enter Tryz.func32, Tryz.ntmps32
    go_wp2
    go_ret
    exact ⟨rfl, rfl⟩
  · have h := self_nan g
    rw [fixB_nan g]
    clear g
    go_enter Tryz.func32, Tryz.ntmps32
    go_wp2
    go_ret
    exact ⟨rfl, rfl⟩
theorem refBits_any (b : Nat) (w : World) : Calls Tryz.prog 181 #[.float .f64 b] w fun e w' => e = .returned (.int .u64 (fixB b)) ∧ w' = w := by
  cases g : nan b
  · have h := self_num g
    rw [fixB_num g]
    clear g
    go_enter Tryz.func181, Tryz.ntmps181
    go_wp2
    go_ret
    exact ⟨rfl, rfl⟩
  · have h := self_nan g
    rw [fixB_nan g]
    clear g
    go_enter Tryz.func181, Tryz.ntmps181
    go_wp2
    go_ret
    exact ⟨rfl, rfl⟩
theorem class_any (b : Nat) (w : World) : Calls Tryz.prog 159 #[.float .f64 b] w fun e w' => e = .returned (.int .i64 (classB b)) ∧ w' = w := by
  have k0 : key 0 = 0 := by decide
  cases g : nan b
  · have h := self_num g
    have hf := fixB_num g
    rcases order_cases b 0 with ⟨_, n | n⟩ | ⟨_, _, ⟨o, hk⟩ | ⟨o, hk⟩ | ⟨o, hk⟩⟩
    · rw [g] at n; cases n
    · cases n
    · have e : classB b = 0 := by unfold classB; rw [g, if_neg (by simp), if_pos (by omega)]
      rw [e]
      clear e hf k0 hk g
      go_enter Tryz.func159, Tryz.ntmps159
      go_wp2
      go_ret
      exact ⟨rfl, rfl⟩
    · by_cases z : b = 0
      · have e : classB b = 2 := by unfold classB; rw [g, if_neg (by simp), if_neg (by omega), if_neg (by omega), if_pos z]
        rw [e]
        have z' : ((fixB b : Int) == 0) = true := by rw [hf, z]; rfl
        clear e hf k0 hk g z
        go_enter Tryz.func159, Tryz.ntmps159
        go_wp2_with (go_at_call 181; refine (refBits_any _ _).mono ?_; rintro e w' ⟨rfl, rfl⟩)
        go_ret
        exact ⟨rfl, rfl⟩
      · have e : classB b = 1 := by unfold classB; rw [g, if_neg (by simp), if_neg (by omega), if_neg (by omega), if_neg z]
        rw [e]
        have z' : ((fixB b : Int) == 0) = false := by rw [hf, beq_eq_false_iff_ne]; omega
        clear e hf k0 hk g z
        go_enter Tryz.func159, Tryz.ntmps159
        go_wp2_with (go_at_call 181; refine (refBits_any _ _).mono ?_; rintro e w' ⟨rfl, rfl⟩)
        go_ret
        exact ⟨rfl, rfl⟩
    · have e : classB b = 3 := by unfold classB; rw [g, if_neg (by simp), if_neg (by omega), if_pos (by omega)]
      rw [e]
      clear e hf k0 hk g
      go_enter Tryz.func159, Tryz.ntmps159
      go_wp2
      go_ret
      exact ⟨rfl, rfl⟩
  · have h := self_nan g
    have e : classB b = 4 := by unfold classB; rw [g]; rfl
    rw [e]
    clear e k0 g
    go_enter Tryz.func159, Tryz.ntmps159
    go_wp2
    go_ret
    exact ⟨rfl, rfl⟩

theorem refCompare_any (a b : Nat) (w : World) (ha : a < 18446744073709551616) (hb : b < 18446744073709551616) : Calls Tryz.prog 142 #[.float .f64 a, .float .f64 b] w fun e w' => e = .returned (.int .i64 (cmpB a b)) ∧ w' = w := by
  rcases Int.lt_trichotomy (classB a) (classB b) with h | h | h
  · rw [class_lt ha hb h]
    clear ha hb
    go_enter Tryz.func142, Tryz.ntmps142
    go_wp2_with (go_at_call 159; refine (class_any _ _).mono ?_; rintro e w' ⟨rfl, rfl⟩)
    go_ret
    exact ⟨rfl, rfl⟩
  · rcases order_cases a b with ⟨o, n⟩ | ⟨n, _, ⟨o, hk⟩ | ⟨o, hk⟩ | ⟨o, hk⟩⟩
    · rw [class_eq_eq ha hb h (by rcases n with n | n; exact .inl n; exact .inr (.inl n))]
      have h1 : ¬ classB a < classB b := by omega
      have h2 : ¬ classB b < classB a := by omega
      have h3 : (classB a == classB b) = true := by rw [h]; exact beq_self_eq_true _
      clear ha hb n h
      go_enter Tryz.func142, Tryz.ntmps142
      go_wp2_with (go_at_call 159; refine (class_any _ _).mono ?_; rintro e w' ⟨rfl, rfl⟩)
      go_ret
      exact ⟨rfl, rfl⟩
    · rw [class_eq_lt ha hb h hk n]
      have h1 : ¬ classB a < classB b := by omega
      have h2 : ¬ classB b < classB a := by omega
      have h3 : (classB a == classB b) = true := by rw [h]; exact beq_self_eq_true _
      clear ha hb n h hk
      go_enter Tryz.func142, Tryz.ntmps142
      go_wp2_with (go_at_call 159; refine (class_any _ _).mono ?_; rintro e w' ⟨rfl, rfl⟩)
      go_ret
      exact ⟨rfl, rfl⟩
    · rw [class_eq_eq ha hb h (.inr (.inr hk))]
      have h1 : ¬ classB a < classB b := by omega
      have h2 : ¬ classB b < classB a := by omega
      have h3 : (classB a == classB b) = true := by rw [h]; exact beq_self_eq_true _
      clear ha hb n h hk
      go_enter Tryz.func142, Tryz.ntmps142
      go_wp2_with (go_at_call 159; refine (class_any _ _).mono ?_; rintro e w' ⟨rfl, rfl⟩)
      go_ret
      exact ⟨rfl, rfl⟩
    · rw [class_eq_gt ha hb h hk n]
      have h1 : ¬ classB a < classB b := by omega
      have h2 : ¬ classB b < classB a := by omega
      have h3 : (classB a == classB b) = true := by rw [h]; exact beq_self_eq_true _
      clear ha hb n h hk
      go_enter Tryz.func142, Tryz.ntmps142
      go_wp2_with (go_at_call 159; refine (class_any _ _).mono ?_; rintro e w' ⟨rfl, rfl⟩)
      go_ret
      exact ⟨rfl, rfl⟩
  · rw [class_gt ha hb h]
    have h3 : (classB a == classB b) = false := by rw [beq_eq_false_iff_ne]; omega
    clear ha hb
    go_enter Tryz.func142, Tryz.ntmps142
    go_wp2_with (go_at_call 159; refine (class_any _ _).mono ?_; rintro e w' ⟨rfl, rfl⟩)
    go_ret
    exact ⟨rfl, rfl⟩
end Go.Proofs.YtpboiggakehpoaaGreatDoor
