import Derived.Test.YtmkikapoflaghaaM10
namespace Go.Proofs.Ytmkikapoflaghaa
open Go.ChangeShapes Go.WideShapes Go.ChangeAt Go.RowKit

/-- a plan, as a value -/
def plnV (a b c d e f : Int) : Value := .agg #[.int .i64 a, .int .i64 b, .int .i64 c, .int .i64 d, .int .i64 e, .int .i64 f]
/-- let, over whatever it is asked -/
theorem letW_any {f : FuncId} {cap : Array Value} {w : World} {Q : World → Prop} (x y : Int) (z : Int) (hz : (if y = 0 then x else 0) = z) (hcall : ∀ (args : Array Value) (w : World), (callFunc f args).run Try.prog w = .ok (.enter f args) w)
    (hf : Calls Try.prog f cap w fun e w' => e = .returned (.tuple #[.int .u64 x, .int .i64 y]) ∧ Q w') : Calls Try.prog 22 #[.func (.func f) #[] cap] w fun e w' => e = .returned (.tuple #[.int .u64 z, .int .i64 y]) ∧ Q w' := by
  subst hz
  have HF := Lib.hid hf
  clear hf
  by_cases hy : y = 0
  · subst hy
    go_enter Try.func22, Try.ntmps22
    go_wp2_with (refine HF.out.mono ?_; rintro e w' ⟨rfl, hq⟩)
    go_ret2
    exact ⟨rfl, hq⟩
  · rw [if_neg hy]
    go_enter Try.func22, Try.ntmps22
    go_wp2_with (refine HF.out.mono ?_; rintro e w' ⟨rfl, hq⟩)
    go_ret2
    exact ⟨rfl, hq⟩
theorem letB_any {f : FuncId} {cap : Array Value} {w : World} {Q : World → Prop} (x : Bool) (y : Int) (z : Bool) (hz : (if y = 0 then x else false) = z) (hcall : ∀ (args : Array Value) (w : World), (callFunc f args).run Try.prog w = .ok (.enter f args) w)
    (hf : Calls Try.prog f cap w fun e w' => e = .returned (.tuple #[.bool x, .int .i64 y]) ∧ Q w') : Calls Try.prog 25 #[.func (.func f) #[] cap] w fun e w' => e = .returned (.tuple #[.bool z, .int .i64 y]) ∧ Q w' := by
  subst hz
  have HF := Lib.hid hf
  clear hf
  by_cases hy : y = 0
  · subst hy
    go_enter Try.func25, Try.ntmps25
    go_wp2_with (refine HF.out.mono ?_; rintro e w' ⟨rfl, hq⟩)
    go_ret2
    exact ⟨rfl, hq⟩
  · rw [if_neg hy]
    go_enter Try.func25, Try.ntmps25
    go_wp2_with (refine HF.out.mono ?_; rintro e w' ⟨rfl, hq⟩)
    go_ret2
    exact ⟨rfl, hq⟩
theorem letI_any {f : FuncId} {cap : Array Value} {w : World} {Q : World → Prop} (x y : Int) (z : Int) (hz : (if y = 0 then x else 0) = z) (hcall : ∀ (args : Array Value) (w : World), (callFunc f args).run Try.prog w = .ok (.enter f args) w)
    (hf : Calls Try.prog f cap w fun e w' => e = .returned (.tuple #[.int .i64 x, .int .i64 y]) ∧ Q w') : Calls Try.prog 30 #[.func (.func f) #[] cap] w fun e w' => e = .returned (.tuple #[.int .i64 z, .int .i64 y]) ∧ Q w' := by
  subst hz
  have HF := Lib.hid hf
  clear hf
  by_cases hy : y = 0
  · subst hy
    go_enter Try.func30, Try.ntmps30
    go_wp2_with (refine HF.out.mono ?_; rintro e w' ⟨rfl, hq⟩)
    go_ret2
    exact ⟨rfl, hq⟩
  · rw [if_neg hy]
    go_enter Try.func30, Try.ntmps30
    go_wp2_with (refine HF.out.mono ?_; rintro e w' ⟨rfl, hq⟩)
    go_ret2
    exact ⟨rfl, hq⟩

/-- how many tickets are from x on and below t -/
def betw (x t : Int) : Int := if t ≤ x then 0 else (if 2147483647 < IntKind.u64.wrap (t - x) then 2147483647 else IntKind.u64.wrap (t - x))
theorem wrapU_nat (n : Int) : 0 ≤ IntKind.u64.wrap n := by simp [IntKind.wrap, IntKind.bits, IntKind.signed]; omega
theorem cell_kept {w w' : World} {b : Nat} (e : w'.heap[b]? = w.heap[b]?) (o : Nat) : w'.cell? ⟨b, o, none⟩ = w.cell? ⟨b, o, none⟩ := by simp [World.cell?, e]
theorem betw_some {x t : Int} (h : ¬ t ≤ x) (q : ¬ 2147483647 < IntKind.u64.wrap (t - x)) : betw x t = wrap64 (IntKind.u64.wrap (t - x)) := by
  have h0 := wrapU_nat (t - x)
  unfold betw
  rw [if_neg h, if_neg q, Go.IntWalk.wrap64_in _ ⟨by omega, by omega⟩]
theorem betw_most {x t : Int} (h : ¬ t ≤ x) (q : 2147483647 < IntKind.u64.wrap (t - x)) : betw x t = 2147483647 := by
  unfold betw
  rw [if_neg h, if_pos q]
set_option maxRecDepth 100000 in
theorem between_any (x t : Int) (w : World) : Calls Try.prog 33 #[.int .u64 x, .int .u64 t] w fun e w' => e = .returned (.int .i64 (betw x t)) ∧ w' = w := by
  by_cases h1 : t ≤ x
  · rw [show betw x t = 0 by simp [betw, h1]]
    go_enter Try.func33, Try.ntmps33
    go_wp2
    go_ret
    exact ⟨rfl, rfl⟩
  · by_cases h2 : 2147483647 < IntKind.u64.wrap (t - x)
    · rw [betw_most h1 h2]
      go_enter Try.func33, Try.ntmps33
      go_wp2
      go_ret
      exact ⟨rfl, rfl⟩
    · rw [betw_some h1 h2]
      go_enter Try.func33, Try.ntmps33
      go_wp2
      go_ret
      exact ⟨rfl, rfl⟩
end Go.Proofs.Ytmkikapoflaghaa
