import Derived.Test.YtaliehikdidiaaaGreatDoorGr
import Derived.Test.YtaliehikdidiaaaGreatDoorWalkE
import Derived.WalkKit
import Derived.ProofKit
import Derived.OpenShut
import Derived.WalkLawsBesides
import Derived.Laws.EntriesVeiled
namespace Go.Proofs.YtaliehikdidiaaaGreatDoor
open Go.ChangeShapes Go.WideShapes Go.ChangeAt Go.RowKit Num
attribute [local go_sem] frombits_run bits_run

theorem from_grown {W w : World} {f : FuncId} {args : Array Value} {v : Ending} (g : Grw W w) (h : Calls Tryz.prog f args w fun e w' => e = v ∧ Grw w w') : Calls Tryz.prog f args w fun e w' => e = v ∧ Grw W w' :=
  h.mono fun _ _ ⟨a, b⟩ => ⟨a, grown_trans g b⟩

theorem nat_of_u64 {z : Int} (h : (Lit.int .u64 z).wf = true) : ∃ n : Nat, z = n ∧ n < 18446744073709551616 := by
  have h' : IntKind.u64.min ≤ z ∧ z ≤ IntKind.u64.max := by simpa [Lit.wf] using h
  have m1 : IntKind.u64.min = 0 := by decide
  have m2 : IntKind.u64.max = 18446744073709551615 := by decide
  exact ⟨z.toNat, by omega, by omega⟩
/-! what every law asks first -/
theorem live_two (w : World) : Calls Tryz.prog 165 #[.int .i64 1, .float .f64 4607182418800017408, .float .f64 4611686018427387904] w fun e w' => e = .returned (.tuple #[.float .f64 4613937818241073152, .int .i64 0]) ∧ Grw w w' := by
  have h := two_1 4607182418800017408 4611686018427387904 w (by decide) (by decide)
  have e : resV (floatBits .add .f64 4607182418800017408 4611686018427387904) = 4613937818241073152 := by decide +kernel
  rw [e] at h
  exact h
theorem live_one (w : World) : Calls Tryz.prog 164 #[.int .i64 1, .float .f64 0] w fun e w' => e = .returned (.tuple #[.float .f64 9223372036854775808, .int .i64 0]) ∧ Grw w w' := by
  have h := one_1 0 w (by decide)
  have e : fixB (fixB 0 ^^^ 9223372036854775808) = 9223372036854775808 := by decide +kernel
  rw [e] at h
  exact h
theorem live_none (w : World) : Calls Tryz.prog 164 #[.int .i64 0, .float .f64 4607182418800017408] w fun e w' => e = .returned (.tuple #[.float .f64 0, .int .i64 1]) ∧ Grw w w' :=
  one_none 0 _ w (by omega)
/-! Index -/
def idxB (b : Nat) (n : Int) : Bool := !nan b && decide (0 ≤ key b) && decide (key b < 4890909195324358656) && FloatKind.f64.format.order (floatOfInt .f64 (truncN b)) b == some .eq && decide ((truncN b : Int) < n)
def idxV (b : Nat) (n : Int) : Int := if idxB b n then truncN b else 0
def idxE (b : Nat) (n : Int) : Int := if idxB b n then 0 else 10
theorem idx_no {b : Nat} {n : Int} (h : idxB b n = false) : idxV b n = 0 ∧ idxE b n = 10 := by unfold idxV idxE; rw [h]; exact ⟨rfl, rfl⟩
theorem idx_yes {b : Nat} {n : Int} (h : idxB b n = true) : idxV b n = truncN b ∧ idxE b n = 0 := by unfold idxV idxE; rw [h]; exact ⟨rfl, rfl⟩
theorem key_big63 : key 4890909195324358656 = 4890909195324358656 := by decide +kernel
theorem nan_big63 : nan 4890909195324358656 = false := by decide +kernel
theorem trunc63 {b : Nat} (h0 : 0 ≤ key b) (h1 : key b < 4890909195324358656) : truncN b < 9223372036854775808 := by
  have := key_pos h0
  exact trunc_lt (by omega) val_big63
theorem conv63 {b : Nat} (h0 : 0 ≤ key b) (h1 : key b < 4890909195324358656) : floatToIntVal .f64 b .i64 = some ((truncN b : Nat) : Int) := by
  have h2 := trunc63 h0 h1
  have h3 := key_pos h0
  have m2 : IntKind.i64.max = 9223372036854775807 := by decide
  exact conv_pos .i64 (by omega) h0 (by decide) (by omega)
/-- the ways of a number with 0 and 2^63 -/
theorem ways63 (b : Nat) : (nan b = true ∧ FloatKind.f64.format.order b 0 = none) ∨ (nan b = false ∧ FloatKind.f64.format.order b 0 = some .lt ∧ key b < 0) ∨
    (nan b = false ∧ 0 ≤ key b ∧ (FloatKind.f64.format.order b 0 = some .gt ∨ FloatKind.f64.format.order b 0 = some .eq) ∧ key b < 4890909195324358656 ∧ FloatKind.f64.format.order b 4890909195324358656 = some .lt) ∨
    (nan b = false ∧ (FloatKind.f64.format.order b 0 = some .gt ∨ FloatKind.f64.format.order b 0 = some .eq) ∧ ¬ key b < 4890909195324358656 ∧ (FloatKind.f64.format.order b 4890909195324358656 = some .gt ∨ FloatKind.f64.format.order b 4890909195324358656 = some .eq)) := by
  have k0 := key_zero
  have n0 := nan_zero
  have k6 := key_big63
  have n6 := nan_big63
  rcases order_cases b 0 with ⟨o, n | n⟩ | ⟨n, _, ho⟩
  · exact .inl ⟨n, o⟩
  · rw [n0] at n; cases n
  · rcases order_cases b 4890909195324358656 with ⟨_, g | g⟩ | ⟨_, _, hp⟩
    · rw [n] at g; cases g
    · rw [n6] at g; cases g
    · right
      by_cases hk : key b < 0
      · left; exact ⟨n, by rcases ho with h | h | h <;> first | exact h.1 | omega, hk⟩
      · right
        have o : FloatKind.f64.format.order b 0 = some .gt ∨ FloatKind.f64.format.order b 0 = some .eq := by rcases ho with h | h | h <;> first | exact .inl h.1 | exact .inr h.1 | omega
        by_cases hl : key b < 4890909195324358656
        · left; exact ⟨n, by omega, o, hl, by rcases hp with h | h | h <;> first | exact h.1 | omega⟩
        · right; exact ⟨n, o, hl, by rcases hp with h | h | h <;> first | exact .inl h.1 | exact .inr h.1 | omega⟩

theorem index_no (b : Nat) (n : Int) (w : World) (h : FloatKind.f64.format.order b 0 = none ∨ FloatKind.f64.format.order b 0 = some .lt) : Calls Tryz.prog 169 #[.float .f64 b, .int .i64 n] w fun e w' => e = .returned (.tuple #[.int .i64 0, .int .i64 10]) ∧ w' = w := by
  rcases h with o | o
  all_goals
    go_enter Tryz.func169, Tryz.ntmps169
    go_wp2
    go_ret2
    exact ⟨rfl, rfl⟩
theorem index_big (b : Nat) (n : Int) (w : World) (o : FloatKind.f64.format.order b 0 = some .gt ∨ FloatKind.f64.format.order b 0 = some .eq) (p : FloatKind.f64.format.order b 4890909195324358656 = some .gt ∨ FloatKind.f64.format.order b 4890909195324358656 = some .eq) : Calls Tryz.prog 169 #[.float .f64 b, .int .i64 n] w fun e w' => e = .returned (.tuple #[.int .i64 0, .int .i64 10]) ∧ w' = w := by
  rcases o with o | o <;> rcases p with p | p
  all_goals
    go_enter Tryz.func169, Tryz.ntmps169
    go_wp2
    go_ret2
    exact ⟨rfl, rfl⟩
theorem index_frac (b t : Nat) (n : Int) (w : World) (o : FloatKind.f64.format.order b 0 = some .gt ∨ FloatKind.f64.format.order b 0 = some .eq) (p : FloatKind.f64.format.order b 4890909195324358656 = some .lt)
    (u : ∀ w : World, (convert 74 2 (.float .f64 b)).run Tryz.prog w = .ok (.int .i64 t) w) (q : (FloatKind.f64.format.order (floatOfInt .f64 t) b == some .eq) = false) : Calls Tryz.prog 169 #[.float .f64 b, .int .i64 n] w fun e w' => e = .returned (.tuple #[.int .i64 0, .int .i64 10]) ∧ w' = w := by
  have q' : (FloatKind.f64.format.order (floatOfInt .f64 t) b != some .eq) = true := by unfold bne; rw [q]; rfl
  rcases o with o | o
  all_goals
    go_enter Tryz.func169, Tryz.ntmps169
    go_wp2
    go_ret2
    exact ⟨rfl, rfl⟩
theorem index_whole (b t : Nat) (n : Int) (w : World) (o : FloatKind.f64.format.order b 0 = some .gt ∨ FloatKind.f64.format.order b 0 = some .eq) (p : FloatKind.f64.format.order b 4890909195324358656 = some .lt)
    (u : ∀ w : World, (convert 74 2 (.float .f64 b)).run Tryz.prog w = .ok (.int .i64 t) w) (q : (FloatKind.f64.format.order (floatOfInt .f64 t) b == some .eq) = true) : Calls Tryz.prog 169 #[.float .f64 b, .int .i64 n] w fun e w' => e = .returned (.tuple #[.int .i64 (if (t : Int) < n then t else 0), .int .i64 (if (t : Int) < n then 0 else 10)]) ∧ w' = w := by
  have q' : (FloatKind.f64.format.order (floatOfInt .f64 t) b != some .eq) = false := by unfold bne; rw [q]; rfl
  by_cases h : (t : Int) < n
  · rw [if_pos h, if_pos h]
    rcases o with o | o
    all_goals
      go_enter Tryz.func169, Tryz.ntmps169
      go_wp2
      go_ret2
      exact ⟨rfl, rfl⟩
  · rw [if_neg h, if_neg h]
    rcases o with o | o
    all_goals
      go_enter Tryz.func169, Tryz.ntmps169
      go_wp2
      go_ret2
      exact ⟨rfl, rfl⟩
theorem index_any (b : Nat) (n : Int) (w : World) : Calls Tryz.prog 169 #[.float .f64 b, .int .i64 n] w fun e w' => e = .returned (.tuple #[.int .i64 (idxV b n), .int .i64 (idxE b n)]) ∧ w' = w := by
  rcases ways63 b with ⟨nn, o⟩ | ⟨nn, o, k⟩ | ⟨nn, k, o, l, p⟩ | ⟨nn, o, l, p⟩
  · obtain ⟨e1, e2⟩ := idx_no (b := b) (n := n) (by unfold idxB; rw [nn]; rfl)
    rw [e1, e2]; exact index_no b n w (.inl o)
  · obtain ⟨e1, e2⟩ := idx_no (b := b) (n := n) (by unfold idxB; rw [decide_eq_false (by omega : ¬ 0 ≤ key b), Bool.and_false, Bool.false_and, Bool.false_and, Bool.false_and])
    rw [e1, e2]; exact index_no b n w (.inr o)
  · have u := fun (w : World) => run_convert_float_int (P := Tryz.prog) w 74 2 .f64 .i64 b _ (by rw [Tryz.underlying74]; rfl) Tryz.underlying2 (conv63 k l)
    cases q : (FloatKind.f64.format.order (floatOfInt .f64 (truncN b)) b == some .eq)
    · obtain ⟨e1, e2⟩ := idx_no (b := b) (n := n) (by unfold idxB; rw [q, Bool.and_false, Bool.false_and])
      rw [e1, e2]; exact index_frac b _ n w o p u q
    · have h := index_whole b _ n w o p u q
      by_cases g : (truncN b : Int) < n
      · obtain ⟨e1, e2⟩ := idx_yes (b := b) (n := n) (by unfold idxB; rw [nn, q, decide_eq_true k, decide_eq_true l, decide_eq_true g]; rfl)
        rw [if_pos g, if_pos g] at h
        rw [e1, e2]; exact h
      · obtain ⟨e1, e2⟩ := idx_no (b := b) (n := n) (by unfold idxB; rw [decide_eq_false g, Bool.and_false])
        rw [if_neg g, if_neg g] at h
        rw [e1, e2]; exact h
  · obtain ⟨e1, e2⟩ := idx_no (b := b) (n := n) (by unfold idxB; rw [decide_eq_false l, Bool.and_false, Bool.false_and, Bool.false_and])
    rw [e1, e2]; exact index_big b n w o p
end Go.Proofs.YtaliehikdidiaaaGreatDoor
