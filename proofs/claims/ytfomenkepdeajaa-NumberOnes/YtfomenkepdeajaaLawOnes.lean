/- PROVED HERE: 'Rows.NumberOnesSaid': for every int as the operation and every word of 64 bits the law NumberOnes (P1.4: One answers, bit by bit, as the document says) returns true and leaves its arguments alone; no condition. -/
import Derived.Test.YtfomenkepdeajaaWalkG
import Derived.WalkLawsBesides
import Derived.Test.YtfomenkepdeajaaRows
import Derived.WalkKit
import Derived.ProofKit
import Derived.OpenShut
namespace Go.Proofs.Ytfomenkepdeajaa.numberOnes
open Go.ChangeShapes Go.WideShapes Go.ChangeAt Go.RowKit Num
set_option linter.unusedVariables false      -- a walk need not use every 'w<i>' (that an integer argument fits its kind)

/-- both answer the same: the law says yes -/
theorem core (op er : Int) (a v : Nat) (w : World)
    (hA : ∀ w, Calls Try.prog 9 #[.int .i64 op, .float .f64 a] w fun e w' => e = .returned (.tuple #[.float .f64 v, .int .i64 er]) ∧ Grown w w')
    (hB : ∀ w, Calls Try.prog 29 #[.int .i64 op, .float .f64 a] w fun e w' => e = .returned (.tuple #[.float .f64 v, .int .i64 er]) ∧ Grown w w') :
    Calls Try.prog 6 #[.int .i64 op, .int .u64 a] w fun e w' => e = .returned (.bool true) ∧ Grown w w' := by
  have HA : Hid (∀ w, Calls Try.prog 9 #[.int .i64 op, .float .f64 a] w fun e w' => e = .returned (.tuple #[.float .f64 v, .int .i64 er]) ∧ Grown w w') := hA
  have HB : Hid (∀ w, Calls Try.prog 29 #[.int .i64 op, .float .f64 a] w fun e w' => e = .returned (.tuple #[.float .f64 v, .int .i64 er]) ∧ Grown w w') := hB
  clear hA hB
  go_enter Try.func6, Try.ntmps6
  go_wp2_with (first
    | (go_at_call 10; refine (raw_any _ _).mono ?_; rintro e w' ⟨rfl, rfl⟩)
    | (go_at_call 9; refine (HA.out _).mono ?_; rintro e w1 ⟨rfl, g1⟩)
    | (go_at_call 29; refine (from_grown g1 (HB.out _)).mono ?_; rintro e w2 ⟨rfl, g2⟩)
    | (go_at_call 22; refine (from_grown g2 (live_any _)).mono ?_; rintro e w3 ⟨rfl, g3⟩)
    | (go_at_call 13; refine (exact_any _ _ _).mono ?_; rintro e w' ⟨rfl, rfl⟩))
  go_ret
  exact ⟨rfl, g3⟩

theorem own : ownKnob Try.prog.godebug = none := by kernel_rfl

/-! ### STEP 1: THE WALK: the Go text returns true. 'Grown w w'': the world has at most new blocks (Derived/RowKit3.lean). Part the cases AHEAD of 'go_enter' where a test parts the walk; take each callee by a contract of your own. -/
theorem walk (a0 : Int) (a1 : Int) (w0 : (Lit.int .i64 a0).wf = true) (w1 : (Lit.int .u64 a1).wf = true) (w : World) :
    Calls Try.prog 6 #[.int .i64 a0, .int .u64 a1] w fun e w' => e = .returned (.bool true) ∧ Grown w w' := by
  obtain ⟨a, rfl, ha⟩ := nat_of_u64 w1
  clear w0 w1
  have hop : (a0 ≤ 0 ∨ 9 ≤ a0) ∨ a0 = 1 ∨ a0 = 2 ∨ a0 = 3 ∨ a0 = 4 ∨ a0 = 5 ∨ a0 = 6 ∨ a0 = 7 ∨ a0 = 8 := by omega
  rcases hop with h | h | h | h | h | h | h | h | h
  · exact core a0 1 a 0 w (fun w => one_none a0 a w h) (fun w => rone_none a0 a w h)
  · subst h; exact core 1 0 a _ w (fun w => one_1 a w ha) (fun w => rone_1 a w ha)
  · subst h; exact core 2 0 a _ w (fun w => one_2 a w ha) (fun w => rone_2 a w ha)
  · subst h; exact core 3 0 a _ w (fun w => one_3 a w ha) (fun w => rone_3 a w)
  · subst h; exact core 4 0 a _ w (fun w => one_4 a w ha) (fun w => rone_4 a w)
  · subst h; exact core 5 0 a _ w (fun w => one_5 a w ha) (fun w => rone_5 a w)
  · subst h; exact core 6 0 a _ w (fun w => one_6 a w ha) (fun w => rone_6 a w)
  · subst h; exact core 7 0 a _ w (fun w => one_7 a w ha) (fun w => rone_7 a w)
  · subst h; exact core 8 0 a _ w (fun w => one_8 a w ha) (fun w => rone_8 a w ha)

/-! ### THE ROW's STEP: WRITTEN OUT: LEAVE IT -/
set_option maxRecDepth 100000 in
theorem lifted (os : Os) (started : os.Started) (H : Type) (enc : TypeId × Value → H) :
    ReturnsInHanded {} Try.checked os 6 .any (Rows.numberOnesSpec.pre6 enc Try.prog Try.f6 Rows.numberOnesRow.domain false) (Rows.numberOnesSpec.post enc Try.prog Try.f6 false true false false) := by
  refine returnsInHanded_of_change (C := Try.checked) own started (by kernel_rfl) Try.func6
    (ChangeSpec.witness6 (enc := enc) (C := Try.checked) false ⟨#[], #[.int .i64 0, .int .u64 0], []⟩ 8 (by kernel_rfl) (by kernel_rfl) (by kernel_rfl) (by kernel_rfl)) ?_
  intro W base args ds gs before hval0 hW hcnd _
  have hval : ∀ (j : Nat) t v, Try.f6.params[j]? = some t → args[j]? = some v → Value.okWide Try.prog W .any base t v := hval0
  have hW' := hW
  obtain ⟨p, q, hA0, hV, rfl, hfz, hnd⟩ := hW
  have hA : DataW.TrodAll enc Try.prog W 0 (fun _ => true) true Try.f6.params.toList args.toList ds p := hA0
  rw [Try.params6] at hA hval
  obtain ⟨v0, vs0, d0, ds0, p0, q0, hargs, rfl, rfl, h0, r0⟩ := trodAll_cons hA
  obtain ⟨v1, vs1, d1, ds1, p1, q1, rfl, rfl, rfl, h1, r1⟩ := trodAll_cons r0
  obtain ⟨rfl, rfl, rfl⟩ := trodAll_nil r1
  obtain rfl : args = #[v0, v1] := by cases args; simp_all
  obtain ⟨rfl, rfl⟩ := trodVars_none hV
  obtain ⟨a0, rfl, rfl, rfl, w0⟩ := open_int Try.underlying3 (hval 0 3 v0 rfl rfl) h0
  obtain ⟨a1, rfl, rfl, rfl, w1⟩ := open_int Try.underlying27 (hval 1 27 v1 rfl rfl) h1
  clear hA0 hval0
  simp only [List.append_nil] at hW'
  refine (walk a0 a1 w0 w1 W).mono fun e W' ⟨he, hg⟩ => ?_
  subst he
  exact ⟨_, rfl, post_of_same (pa := []) (pv := []) hW' (fun _ _ _ => (trodAll_cons_mk (shut_bool Try.underlying4 _) trodAll_mk0)) (fun sp _ => (trodAll_cons_mk (shut_int Try.underlying3 w0) (trodAll_cons_mk (shut_int Try.underlying27 w1) trodAll_mk0))) (fun _ _ => rfl) rfl
    (hg.frame _) hg.2.1 (ok_one (by kernel_rfl) rfl (okWide_bool_mk Try.underlying4 _))⟩

theorem over : Rows.numberOnesRow.holds Try.pinned (OpenSpec.ofChange Rows.numberOnesSpec) :=
  OpenClaim.holds_of_wide 6 Try.f6 rfl rfl rfl rfl rfl rfl rfl ⟨rfl, rfl, rfl, rfl, rfl⟩ rfl rfl rfl rfl rfl (by kernel_rfl) Try.func6 (by kernel_rfl)
    (of_decide_eq_true (by kernel_rfl)) (by unfold Func.isWrapper; first | (rw [if_pos (by decide +kernel)]; kernel_rfl) | (rw [if_neg (by decide +kernel)]; exact ⟨rfl, rfl⟩))
    (fun os started H enc _ => lifted os started H enc)

/-- ████ THE STATEMENT ████ -/
theorem proved : Rows.NumberOnesSaid :=
  over
end Go.Proofs.Ytfomenkepdeajaa.numberOnes
