/- PROVED HERE: 'Rows.NumberTwosSaid': for every int as the operation and every two words of 64 bits the law NumberTwos (P1.5: Two answers, bit by bit, as the document says) returns true and leaves its arguments alone; no condition. -/
import Derived.Test.YtfomenkepdeajaaWalkH
import Derived.WalkLawsBesides
import Derived.Test.YtfomenkepdeajaaRows
import Derived.WalkKit
import Derived.ProofKit
import Derived.OpenShut
namespace Go.Proofs.Ytfomenkepdeajaa.numberTwos
open Go.ChangeShapes Go.WideShapes Go.ChangeAt Go.RowKit Num
set_option linter.unusedVariables false      -- a walk need not use every 'w<i>' (that an integer argument fits its kind)

/-- both answer the same: the law says yes -/
theorem core (op er : Int) (a b v : Nat) (w : World)
    (hA : ∀ w, Calls Try.prog 11 #[.int .i64 op, .float .f64 a, .float .f64 b] w fun e w' => e = .returned (.tuple #[.float .f64 v, .int .i64 er]) ∧ Grown w w')
    (hB : ∀ w, Calls Try.prog 30 #[.int .i64 op, .float .f64 a, .float .f64 b] w fun e w' => e = .returned (.tuple #[.float .f64 v, .int .i64 er]) ∧ Grown w w') :
    Calls Try.prog 7 #[.int .i64 op, .int .u64 a, .int .u64 b] w fun e w' => e = .returned (.bool true) ∧ Grown w w' := by
  have HA : Hid (∀ w, Calls Try.prog 11 #[.int .i64 op, .float .f64 a, .float .f64 b] w fun e w' => e = .returned (.tuple #[.float .f64 v, .int .i64 er]) ∧ Grown w w') := hA
  have HB : Hid (∀ w, Calls Try.prog 30 #[.int .i64 op, .float .f64 a, .float .f64 b] w fun e w' => e = .returned (.tuple #[.float .f64 v, .int .i64 er]) ∧ Grown w w') := hB
  clear hA hB
  go_enter Try.func7, Try.ntmps7
  go_wp2_with (first
    | (go_at_call 10; refine (raw_any _ _).mono ?_; rintro e w' ⟨rfl, rfl⟩)
    | (go_at_call 11; refine (HA.out _).mono ?_; rintro e w1 ⟨rfl, g1⟩)
    | (go_at_call 30; refine (from_grown g1 (HB.out _)).mono ?_; rintro e w2 ⟨rfl, g2⟩)
    | (go_at_call 22; refine (from_grown g2 (live_any _)).mono ?_; rintro e w3 ⟨rfl, g3⟩)
    | (go_at_call 13; refine (exact_any _ _ _).mono ?_; rintro e w' ⟨rfl, rfl⟩))
  go_ret
  exact ⟨rfl, g3⟩

theorem own : ownKnob Try.prog.godebug = none := by kernel_rfl

/-! ### STEP 1: THE WALK: the Go text returns true. 'Grown w w'': the world has at most new blocks (Derived/RowKit3.lean). Part the cases AHEAD of 'go_enter' where a test parts the walk; take each callee by a contract of your own. -/
theorem walk (a0 : Int) (a1 : Int) (a2 : Int) (w0 : (Lit.int .i64 a0).wf = true) (w1 : (Lit.int .u64 a1).wf = true) (w2 : (Lit.int .u64 a2).wf = true) (w : World) :
    Calls Try.prog 7 #[.int .i64 a0, .int .u64 a1, .int .u64 a2] w fun e w' => e = .returned (.bool true) ∧ Grown w w' := by
  obtain ⟨a, rfl, ha⟩ := nat_of_u64 w1
  obtain ⟨b, rfl, hb⟩ := nat_of_u64 w2
  clear w0 w1 w2
  have hop : (a0 ≤ 0 ∨ 13 ≤ a0) ∨ a0 = 1 ∨ a0 = 2 ∨ a0 = 3 ∨ a0 = 4 ∨ a0 = 5 ∨ a0 = 6 ∨ a0 = 7 ∨ a0 = 8 ∨ a0 = 9 ∨ a0 = 10 ∨ a0 = 11 ∨ a0 = 12 := by omega
  rcases hop with h | h | h | h | h | h | h | h | h | h | h | h | h
  · exact core a0 1 a b 0 w (fun w => two_none a0 a b w h) (fun w => rtwo_none a0 a b w h)
  · subst h; exact core 1 0 a b _ w (fun w => two_1 a b w ha hb) (fun w => rtwo_1 a b w)
  · subst h; exact core 2 0 a b _ w (fun w => two_2 a b w ha hb) (fun w => rtwo_2 a b w)
  · subst h; exact core 3 0 a b _ w (fun w => two_3 a b w ha hb) (fun w => rtwo_3 a b w)
  · subst h; exact core 4 0 a b _ w (fun w => two_4 a b w ha hb) (fun w => rtwo_4 a b w)
  · subst h; exact core 5 0 a b _ w (fun w => two_5 a b w ha hb) (fun w => rtwo_5 a b w ha hb)
  · subst h; exact core 6 0 a b _ w (fun w => two_6 a b w ha hb) (fun w => rtwo_6 a b w ha hb)
  · subst h; exact core 7 0 a b _ w (fun w => two_7 a b w ha hb) (fun w => rtwo_7 a b w ha hb)
  · subst h; exact core 8 0 a b _ w (fun w => two_8 a b w ha hb) (fun w => rtwo_8 a b w)
  · subst h; exact core 9 0 a b _ w (fun w => two_9 a b w ha hb) (fun w => rtwo_9 a b w)
  · subst h; exact core 10 0 a b _ w (fun w => two_10 a b w ha hb) (fun w => rtwo_10 a b w)
  · subst h; exact core 11 0 a b _ w (fun w => two_11 a b w ha hb) (fun w => rtwo_11 a b w)
  · subst h; exact core 12 0 a b _ w (fun w => two_12 a b w ha hb) (fun w => rtwo_12 a b w ha hb)

/-! ### THE ROW's STEP: WRITTEN OUT: LEAVE IT -/
set_option maxRecDepth 100000 in
theorem lifted (os : Os) (started : os.Started) (H : Type) (enc : TypeId × Value → H) :
    ReturnsInHanded {} Try.checked os 7 .any (Rows.numberTwosSpec.pre6 enc Try.prog Try.f7 Rows.numberTwosRow.domain false) (Rows.numberTwosSpec.post enc Try.prog Try.f7 false true false false) := by
  refine returnsInHanded_of_change (C := Try.checked) own started (by kernel_rfl) Try.func7
    (ChangeSpec.witness6 (enc := enc) (C := Try.checked) false ⟨#[], #[.int .i64 0, .int .u64 0, .int .u64 0], []⟩ 8 (by kernel_rfl) (by kernel_rfl) (by kernel_rfl) (by kernel_rfl)) ?_
  intro W base args ds gs before hval0 hW hcnd _
  have hval : ∀ (j : Nat) t v, Try.f7.params[j]? = some t → args[j]? = some v → Value.okWide Try.prog W .any base t v := hval0
  have hW' := hW
  obtain ⟨p, q, hA0, hV, rfl, hfz, hnd⟩ := hW
  have hA : DataW.TrodAll enc Try.prog W 0 (fun _ => true) true Try.f7.params.toList args.toList ds p := hA0
  rw [Try.params7] at hA hval
  obtain ⟨v0, vs0, d0, ds0, p0, q0, hargs, rfl, rfl, h0, r0⟩ := trodAll_cons hA
  obtain ⟨v1, vs1, d1, ds1, p1, q1, rfl, rfl, rfl, h1, r1⟩ := trodAll_cons r0
  obtain ⟨v2, vs2, d2, ds2, p2, q2, rfl, rfl, rfl, h2, r2⟩ := trodAll_cons r1
  obtain ⟨rfl, rfl, rfl⟩ := trodAll_nil r2
  obtain rfl : args = #[v0, v1, v2] := by cases args; simp_all
  obtain ⟨rfl, rfl⟩ := trodVars_none hV
  obtain ⟨a0, rfl, rfl, rfl, w0⟩ := open_int Try.underlying3 (hval 0 3 v0 rfl rfl) h0
  obtain ⟨a1, rfl, rfl, rfl, w1⟩ := open_int Try.underlying27 (hval 1 27 v1 rfl rfl) h1
  obtain ⟨a2, rfl, rfl, rfl, w2⟩ := open_int Try.underlying27 (hval 2 27 v2 rfl rfl) h2
  clear hA0 hval0
  simp only [List.append_nil] at hW'
  refine (walk a0 a1 a2 w0 w1 w2 W).mono fun e W' ⟨he, hg⟩ => ?_
  subst he
  exact ⟨_, rfl, post_of_same (pa := []) (pv := []) hW' (fun _ _ _ => (trodAll_cons_mk (shut_bool Try.underlying4 _) trodAll_mk0)) (fun sp _ => (trodAll_cons_mk (shut_int Try.underlying3 w0) (trodAll_cons_mk (shut_int Try.underlying27 w1) (trodAll_cons_mk (shut_int Try.underlying27 w2) trodAll_mk0)))) (fun _ _ => rfl) rfl
    (hg.frame _) hg.2.1 (ok_one (by kernel_rfl) rfl (okWide_bool_mk Try.underlying4 _))⟩

theorem over : Rows.numberTwosRow.holds Try.pinned (OpenSpec.ofChange Rows.numberTwosSpec) :=
  OpenClaim.holds_of_wide 7 Try.f7 rfl rfl rfl rfl rfl rfl rfl ⟨rfl, rfl, rfl, rfl, rfl⟩ rfl rfl rfl rfl rfl (by kernel_rfl) Try.func7 (by kernel_rfl)
    (of_decide_eq_true (by kernel_rfl)) (by unfold Func.isWrapper; first | (rw [if_pos (by decide +kernel)]; kernel_rfl) | (rw [if_neg (by decide +kernel)]; exact ⟨rfl, rfl⟩))
    (fun os started H enc _ => lifted os started H enc)

/-- ████ THE STATEMENT ████ -/
theorem proved : Rows.NumberTwosSaid :=
  over
end Go.Proofs.Ytfomenkepdeajaa.numberTwos
