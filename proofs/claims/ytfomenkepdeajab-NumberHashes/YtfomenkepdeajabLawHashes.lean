/- PROVED HERE: 'Rows.NumberHashesSaid': for every two words of 64 bits the law NumberHashes (P1.4, P1.3: a hash is an index of 65536 and hangs on the number alone) returns true and leaves its arguments alone; no condition. -/
import Derived.Test.YtfomenkepdeajabWalkI
import Derived.WalkLawsBesides
import Derived.Test.YtfomenkepdeajabRows
import Derived.WalkKit
import Derived.ProofKit
import Derived.OpenShut
namespace Go.Proofs.Ytfomenkepdeajab.numberHashes
open Go.ChangeShapes Go.WideShapes Go.ChangeAt Go.RowKit Num
set_option linter.unusedVariables false      -- a walk need not use every 'w<i>' (that an integer argument fits its kind)



theorem own : ownKnob Try.prog.godebug = none := by kernel_rfl

/-! ### STEP 1: THE WALK: the Go text returns true. 'Grown w w'': the world has at most new blocks (Derived/RowKit3.lean). Part the cases AHEAD of 'go_enter' where a test parts the walk; take each callee by a contract of your own. -/
theorem walk (a0 : Int) (a1 : Int) (w0 : (Lit.int .u64 a0).wf = true) (w1 : (Lit.int .u64 a1).wf = true) (w : World) :
    Calls Try.prog 4 #[.int .u64 a0, .int .u64 a1] w fun e w' => e = .returned (.bool true) ∧ Grown w w' := by
  obtain ⟨a, rfl, ha⟩ := nat_of_u64 w0
  obtain ⟨b, rfl, hb⟩ := nat_of_u64 w1
  clear w0 w1
  have hf := hsh_fix a
  cases q : (fixB a == fixB b)
  · go_enter Try.func4, Try.ntmps4
    go_wp2_with fail
    refine (raw_any _ _).mono ?_
    rintro e w' ⟨rfl, hw⟩; subst w'
    go_wp2_with fail
    refine (raw_any _ _).mono ?_
    rintro e w' ⟨rfl, hw⟩; subst w'
    go_wp2_with fail
    refine (lhash _ _ ha).mono ?_
    rintro e w1 ⟨rfl, g1⟩
    go_wp2_with fail
    refine (from_grown g1 (lhash _ _ hb)).mono ?_
    rintro e w2 ⟨rfl, g2⟩
    go_wp2_with (first
      | (go_at_call 15; refine (lindex _ _).mono ?_; rintro e w' ⟨rfl, rfl⟩)
      | (go_at_call 11; refine (same_any _ _ _).mono ?_; rintro e w' ⟨rfl, rfl⟩)
      | (go_at_call 10; refine (fix_any _ _).mono ?_; rintro e w' ⟨rfl, rfl⟩)
      | (go_at_call 14; refine (from_grown g2 (live_any _)).mono ?_; rintro e w3 ⟨rfl, g3⟩)
      | (go_at_call 9; refine (from_grown g3 (lhash _ _ (fixB_lt ha))).mono ?_; rintro e w4 ⟨rfl, g4⟩)
      | (go_at_call 7; refine (exact_any _ _ _).mono ?_; rintro e w' ⟨rfl, rfl⟩))
    go_ret
    exact ⟨rfl, g4⟩
  · have hs : (hsh a == hsh b) = true := by rw [hsh_same (beq_iff_eq.1 q)]; exact beq_self_eq_true _
    go_enter Try.func4, Try.ntmps4
    go_wp2_with fail
    refine (raw_any _ _).mono ?_
    rintro e w' ⟨rfl, hw⟩; subst w'
    go_wp2_with fail
    refine (raw_any _ _).mono ?_
    rintro e w' ⟨rfl, hw⟩; subst w'
    go_wp2_with fail
    refine (lhash _ _ ha).mono ?_
    rintro e w1 ⟨rfl, g1⟩
    go_wp2_with fail
    refine (from_grown g1 (lhash _ _ hb)).mono ?_
    rintro e w2 ⟨rfl, g2⟩
    go_wp2_with (first
      | (go_at_call 15; refine (lindex _ _).mono ?_; rintro e w' ⟨rfl, rfl⟩)
      | (go_at_call 11; refine (same_any _ _ _).mono ?_; rintro e w' ⟨rfl, rfl⟩)
      | (go_at_call 10; refine (fix_any _ _).mono ?_; rintro e w' ⟨rfl, rfl⟩)
      | (go_at_call 14; refine (from_grown g2 (live_any _)).mono ?_; rintro e w3 ⟨rfl, g3⟩)
      | (go_at_call 9; refine (from_grown g3 (lhash _ _ (fixB_lt ha))).mono ?_; rintro e w4 ⟨rfl, g4⟩)
      | (go_at_call 7; refine (exact_any _ _ _).mono ?_; rintro e w' ⟨rfl, rfl⟩))
    go_ret
    exact ⟨rfl, g4⟩

/-! ### THE ROW's STEP: WRITTEN OUT: LEAVE IT -/
set_option maxRecDepth 100000 in
theorem lifted (os : Os) (started : os.Started) (H : Type) (enc : TypeId × Value → H) :
    ReturnsInHanded {} Try.checked os 4 .any (Rows.numberHashesSpec.pre6 enc Try.prog Try.f4 Rows.numberHashesRow.domain false) (Rows.numberHashesSpec.post enc Try.prog Try.f4 false true false false) := by
  refine returnsInHanded_of_change (C := Try.checked) own started (by kernel_rfl) Try.func4
    (ChangeSpec.witness6 (enc := enc) (C := Try.checked) false ⟨#[], #[.int .u64 0, .int .u64 0], []⟩ 8 (by kernel_rfl) (by kernel_rfl) (by kernel_rfl) (by kernel_rfl)) ?_
  intro W base args ds gs before hval0 hW hcnd _
  have hval : ∀ (j : Nat) t v, Try.f4.params[j]? = some t → args[j]? = some v → Value.okWide Try.prog W .any base t v := hval0
  have hW' := hW
  obtain ⟨p, q, hA0, hV, rfl, hfz, hnd⟩ := hW
  have hA : DataW.TrodAll enc Try.prog W 0 (fun _ => true) true Try.f4.params.toList args.toList ds p := hA0
  rw [Try.params4] at hA hval
  obtain ⟨v0, vs0, d0, ds0, p0, q0, hargs, rfl, rfl, h0, r0⟩ := trodAll_cons hA
  obtain ⟨v1, vs1, d1, ds1, p1, q1, rfl, rfl, rfl, h1, r1⟩ := trodAll_cons r0
  obtain ⟨rfl, rfl, rfl⟩ := trodAll_nil r1
  obtain rfl : args = #[v0, v1] := by cases args; simp_all
  obtain ⟨rfl, rfl⟩ := trodVars_none hV
  obtain ⟨a0, rfl, rfl, rfl, w0⟩ := open_int Try.underlying22 (hval 0 22 v0 rfl rfl) h0
  obtain ⟨a1, rfl, rfl, rfl, w1⟩ := open_int Try.underlying22 (hval 1 22 v1 rfl rfl) h1
  clear hA0 hval0
  simp only [List.append_nil] at hW'
  refine (walk a0 a1 w0 w1 W).mono fun e W' ⟨he, hg⟩ => ?_
  subst he
  exact ⟨_, rfl, post_of_same (pa := []) (pv := []) hW' (fun _ _ _ => (trodAll_cons_mk (shut_bool Try.underlying4 _) trodAll_mk0)) (fun sp _ => (trodAll_cons_mk (shut_int Try.underlying22 w0) (trodAll_cons_mk (shut_int Try.underlying22 w1) trodAll_mk0))) (fun _ _ => rfl) rfl
    (hg.frame _) hg.2.1 (ok_one (by kernel_rfl) rfl (okWide_bool_mk Try.underlying4 _))⟩

theorem over : Rows.numberHashesRow.holds Try.pinned (OpenSpec.ofChange Rows.numberHashesSpec) :=
  OpenClaim.holds_of_wide 4 Try.f4 rfl rfl rfl rfl rfl rfl rfl ⟨rfl, rfl, rfl, rfl, rfl⟩ rfl rfl rfl rfl rfl (by kernel_rfl) Try.func4 (by kernel_rfl)
    (of_decide_eq_true (by kernel_rfl)) (by unfold Func.isWrapper; first | (rw [if_pos (by decide +kernel)]; kernel_rfl) | (rw [if_neg (by decide +kernel)]; exact ⟨rfl, rfl⟩))
    (fun os started H enc _ => lifted os started H enc)

/-- ████ THE STATEMENT ████ -/
theorem proved : Rows.NumberHashesSaid :=
  over
end Go.Proofs.Ytfomenkepdeajab.numberHashes
