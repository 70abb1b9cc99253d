/- PROVED HERE: 'Rows.NumberOrderSaid': for every three words of 64 bits the law NumberOrder (P1.2, P1.6: Compare is an order with its ends, goes by values where they differ, and is 0 just for the same) returns true and leaves its arguments alone; no condition. -/
import Derived.Test.YtfomenkepdeajaaWalkH
import Derived.WalkLawsBesides
import Derived.Deep.DeepCutAuto
import Derived.Test.YtfomenkepdeajaaRows
import Derived.WalkKit
import Derived.ProofKit
import Derived.OpenShut
namespace Go.Proofs.Ytfomenkepdeajaa.numberOrder
open Go.ChangeShapes Go.WideShapes Go.ChangeAt Go.RowKit Num
set_option linter.unusedVariables false      -- a walk need not use every 'w<i>' (that an integer argument fits its kind)

theorem cmpB_range (a b : Nat) : -1 ≤ cmpB a b ∧ cmpB a b ≤ 1 := by unfold cmpB; split; omega; split <;> omega
theorem cmpB_on (a b c : Nat) : (0 < cmpB a b ∨ 0 < cmpB b c ∨ cmpB a c ≤ 0) ∧ (0 ≤ cmpB a b ∨ 0 < cmpB b c ∨ cmpB a c < 0) := by
  unfold cmpB; split <;> split <;> (try split) <;> (try split) <;> (try split) <;> omega
theorem cmpB_ends {a : Nat} (ha : a < 18446744073709551616) : cmpB 18442240474082181120 a ≤ 0 ∧ cmpB a 9221120237041090561 ≤ 0 := by
  have p1 : place 18442240474082181120 = 4503599627370495 := by decide +kernel
  have p2 : place 9221120237041090561 = 18444492273895866368 := by decide +kernel
  have hr : 4503599627370495 ≤ place a ∧ place a ≤ 18444492273895866368 := by
    unfold place
    cases n : nan a
    · rw [fixB_num n]
      have h := n
      unfold nan at h
      rw [decide_eq_false_iff_not] at h
      rcases Num.shape ha with ⟨g, _, r⟩ | ⟨g, _, r⟩
      · rw [if_neg (by omega)]; omega
      · rw [if_pos g]; omega
    · rw [fixB_nan n]; decide
  unfold cmpB
  rw [p1, p2]
  constructor
  · split; omega; rw [if_neg (by omega)]; omega
  · split; omega; rw [if_neg (by omega)]; omega
theorem place_inj {a b : Nat} (ha : a < 18446744073709551616) (hb : b < 18446744073709551616) (h : place a = place b) : fixB a = fixB b := by
  have h1 := fixB_lt ha
  have h2 := fixB_lt hb
  unfold place at h
  split at h <;> split at h <;> omega
theorem cmpB_same {a b : Nat} (ha : a < 18446744073709551616) (hb : b < 18446744073709551616) : (cmpB a b == 0) = (fixB a == fixB b) := by
  rw [Bool.eq_iff_iff, beq_iff_eq, beq_iff_eq]
  constructor
  · intro h
    apply place_inj ha hb
    unfold cmpB at h
    split at h
    · omega
    · split at h
      · omega
      · omega
  · intro h
    apply cmpB_eq
    unfold place; rw [h]
theorem cmpB_values {a b : Nat} (ha : a < 18446744073709551616) (hb : b < 18446744073709551616) : (FloatKind.f64.format.order a b = some .lt ∧ cmpB a b < 0) ∨ (FloatKind.f64.format.order a b = some .gt ∧ 0 < cmpB a b) ∨ FloatKind.f64.format.order a b = none ∨ FloatKind.f64.format.order a b = some .eq := by
  rcases order_cases a b with ⟨o, _⟩ | ⟨n1, n2, ⟨o, k⟩ | ⟨o, _⟩ | ⟨o, k⟩⟩
  · exact .inr (.inr (.inl o))
  · left
    refine ⟨o, ?_⟩
    rw [cmpB_lt]
    · omega
    · rcases kinds ha with g | g | g | g | g <;> rcases kinds hb with q | q | q | q | q <;> first | omega | (rw [n1] at g; exact absurd g.1 (by decide)) | (rw [n2] at q; exact absurd q.1 (by decide))
  · exact .inr (.inr (.inr o))
  · right; left
    refine ⟨o, ?_⟩
    rw [cmpB_gt]
    · omega
    · rcases kinds ha with g | g | g | g | g <;> rcases kinds hb with q | q | q | q | q <;> first | omega | (rw [n1] at g; exact absurd g.1 (by decide)) | (rw [n2] at q; exact absurd q.1 (by decide))
theorem inf_neg (w : World) : Calls Try.prog 14 #[.int .i64 (-1)] w fun e w' => e = .returned (.float .f64 18442240474082181120) ∧ w' = w := by
  have hf := frombits_run
  go_enter Try.func14, Try.ntmps14
  go_wp2
  go_ret
  exact ⟨rfl, rfl⟩
theorem nan_std (w : World) : Calls Try.prog 31 #[] w fun e w' => e = .returned (.float .f64 9221120237041090561) ∧ w' = w := by
  have hf := frombits_run
  go_enter Try.func31, Try.ntmps31
  go_wp2
  go_ret
  exact ⟨rfl, rfl⟩
set_option maxRecDepth 100000

theorem own : ownKnob Try.prog.godebug = none := by kernel_rfl

/-! ### STEP 1: THE WALK: the Go text returns true. 'Grown w w'': the world has at most new blocks (Derived/RowKit3.lean). Part the cases AHEAD of 'go_enter' where a test parts the walk; take each callee by a contract of your own. -/
theorem walk (a0 : Int) (a1 : Int) (a2 : Int) (w0 : (Lit.int .u64 a0).wf = true) (w1 : (Lit.int .u64 a1).wf = true) (w2 : (Lit.int .u64 a2).wf = true) (w : World) :
    Calls Try.prog 8 #[.int .u64 a0, .int .u64 a1, .int .u64 a2] w fun e w' => e = .returned (.bool true) ∧ Grown w w' := by
  obtain ⟨a, rfl, ha⟩ := nat_of_u64 w0
  obtain ⟨b, rfl, hb⟩ := nat_of_u64 w1
  obtain ⟨c, rfl, hc⟩ := nat_of_u64 w2
  clear w0 w1 w2
  have X := cmpB_range a b
  have F := cmpB_flip a b
  have HF : Hid (cmpB b a = -cmpB a b) := F
  have HO : Hid _ := (cmpB_on a b c)
  have HE : Hid _ := (cmpB_ends ha)
  have HS : Hid _ := (cmpB_same ha hb)
  have HV : Hid _ := (cmpB_values ha hb)
  have hi : (9221120237041090561 : Nat) < 18446744073709551616 := by decide
  have hj : (18442240474082181120 : Nat) < 18446744073709551616 := by decide
  clear F
  go_enter Try.func8, Try.ntmps8
  go_upto_region 7 with (first
    | (go_at_call 10; refine (raw_any _ _).mono ?_; rintro e w' ⟨rfl, hw⟩; subst w')
    | (go_at_call 15; refine (compare_any _ _ _ (by assumption) (by assumption)).mono ?_; rintro e w' ⟨rfl, hw⟩; subst w'))
  go_cut [13] (fun s w' => s = .bool true ∧ w' = w)
  case first =>
    have F := HF.out
    go_wp2_with (go_at_call 15; refine (compare_any _ _ _ hb ha).mono ?_; rintro e w' ⟨rfl, hw⟩; subst w')
    go_meet
    case rel => exact ⟨rfl, rfl⟩
  case rest =>
  obtain ⟨rfl, rfl⟩ := hcut
  go_upto_region 8 with fail
  go_cut [14] (fun s w' => s = .bool true ∧ w' = wc)
  case first =>
    have O := HO.out.1
    by_cases h1 : 0 < cmpB a b
    · clear O
      go_wp2
      go_meet
      case rel => exact ⟨rfl, rfl⟩
    · by_cases h2 : 0 < cmpB b c
      · clear O
        go_wp2
        go_meet
        case rel => exact ⟨rfl, rfl⟩
      · have h3 : cmpB a c ≤ 0 := by omega
        clear O
        go_wp2
        go_meet
        case rel => exact ⟨rfl, rfl⟩
  case rest =>
  obtain ⟨rfl, rfl⟩ := hcut
  go_upto_region 9 with fail
  go_cut [15] (fun s w' => s = .bool true ∧ w' = wc)
  case first =>
    have O := HO.out.2
    by_cases h1 : 0 ≤ cmpB a b
    · clear O
      go_wp2
      go_meet
      case rel => exact ⟨rfl, rfl⟩
    · by_cases h2 : 0 < cmpB b c
      · clear O
        go_wp2
        go_meet
        case rel => exact ⟨rfl, rfl⟩
      · have h3 : cmpB a c < 0 := by omega
        clear O
        go_wp2
        go_meet
        case rel => exact ⟨rfl, rfl⟩
  case rest =>
  obtain ⟨rfl, rfl⟩ := hcut
  go_upto_region 10 with fail
  go_cut [16] (fun s w' => s = .bool true ∧ w' = wc)
  case first =>
    obtain ⟨E1, E2⟩ := HE.out
    go_wp2_with (first | (go_at_call 15; refine (compare_any _ _ _ (by assumption) (by assumption)).mono ?_; rintro e w' ⟨rfl, hw⟩; subst w') | (go_at_call 14; refine (inf_neg _).mono ?_; rintro e w' ⟨rfl, hw⟩; subst w') | (go_at_call 31; refine (nan_std _).mono ?_; rintro e w' ⟨rfl, hw⟩; subst w'))
    go_meet
    case rel => exact ⟨rfl, rfl⟩
  case rest =>
  obtain ⟨rfl, rfl⟩ := hcut
  go_upto_region 11 with fail
  go_cut [17] (fun s w' => s = .bool true ∧ w' = wc)
  case first =>
    have S := HS.out
    have S' : ((fixB a : Int) == (fixB b : Int)) = (fixB a == fixB b) := by rw [Bool.eq_iff_iff, beq_iff_eq, beq_iff_eq]; omega
    cases q : (fixB a == fixB b)
    all_goals
      rw [q] at S S'
      go_wp2_with (first | (go_at_call 23; refine (same_any _ _ _).mono ?_; rintro e w' ⟨rfl, hw⟩; subst w') | (go_at_call 18; refine (bits_any _ _).mono ?_; rintro e w' ⟨rfl, hw⟩; subst w'))
      go_meet
      case rel => exact ⟨rfl, rfl⟩
  case rest =>
  obtain ⟨rfl, rfl⟩ := hcut
  go_upto_region 12 with fail
  go_cut [18] (fun s w' => s = .bool true ∧ w' = wc)
  case first =>
    rcases HV.out with ⟨o, h⟩ | ⟨o, h⟩ | o | o
    all_goals
      go_wp2
      go_meet
      case rel => exact ⟨rfl, rfl⟩
  case rest =>
  obtain ⟨rfl, rfl⟩ := hcut
  go_upto_region 13 with fail
  go_cut [19] (fun s w' => s = .bool true ∧ w' = wc)
  case first =>
    have e1 : fixB (fixB (fixB a)) = fixB a := by rw [fixB_fixB, fixB_fixB]
    cases n : nan a
    · have s1 := self_num n
      have f1 := fixB_num n
      rw [f1] at e1
      have s2 : ((fixB a : Int) == (a : Int)) = true := by rw [f1]; exact beq_self_eq_true _
      have s3 : (fixB (fixB (fixB a)) == fixB a) = true := by rw [fixB_fixB, fixB_fixB]; exact beq_self_eq_true _
      clear f1 e1
      go_wp2_with (first | (go_at_call 23; refine (same_any _ _ _).mono ?_; rintro e w' ⟨rfl, hw⟩; subst w') | (go_at_call 18; refine (bits_any _ _).mono ?_; rintro e w' ⟨rfl, hw⟩; subst w') | (go_at_call 20; refine (of_any _ _).mono ?_; rintro e w' ⟨rfl, hw⟩; subst w'))
      go_meet
      case rel => exact ⟨rfl, rfl⟩
    · have s1 := self_nan n
      have s3 : (fixB (fixB (fixB a)) == fixB a) = true := by rw [fixB_fixB, fixB_fixB]; exact beq_self_eq_true _
      clear e1
      go_wp2_with (first | (go_at_call 23; refine (same_any _ _ _).mono ?_; rintro e w' ⟨rfl, hw⟩; subst w') | (go_at_call 18; refine (bits_any _ _).mono ?_; rintro e w' ⟨rfl, hw⟩; subst w') | (go_at_call 20; refine (of_any _ _).mono ?_; rintro e w' ⟨rfl, hw⟩; subst w'))
      go_meet
      case rel => exact ⟨rfl, rfl⟩
  case rest =>
  obtain ⟨rfl, rfl⟩ := hcut
  go_wp2_with (go_at_call 22; refine (live_any _).mono ?_; rintro e w3 ⟨rfl, g3⟩)
  go_ret
  exact ⟨rfl, g3⟩

/-! ### THE ROW's STEP: WRITTEN OUT: LEAVE IT -/
set_option maxRecDepth 100000 in
theorem lifted (os : Os) (started : os.Started) (H : Type) (enc : TypeId × Value → H) :
    ReturnsInHanded {} Try.checked os 8 .any (Rows.numberOrderSpec.pre6 enc Try.prog Try.f8 Rows.numberOrderRow.domain false) (Rows.numberOrderSpec.post enc Try.prog Try.f8 false true false false) := by
  refine returnsInHanded_of_change (C := Try.checked) own started (by kernel_rfl) Try.func8
    (ChangeSpec.witness6 (enc := enc) (C := Try.checked) false ⟨#[], #[.int .u64 0, .int .u64 0, .int .u64 0], []⟩ 8 (by kernel_rfl) (by kernel_rfl) (by kernel_rfl) (by kernel_rfl)) ?_
  intro W base args ds gs before hval0 hW hcnd _
  have hval : ∀ (j : Nat) t v, Try.f8.params[j]? = some t → args[j]? = some v → Value.okWide Try.prog W .any base t v := hval0
  have hW' := hW
  obtain ⟨p, q, hA0, hV, rfl, hfz, hnd⟩ := hW
  have hA : DataW.TrodAll enc Try.prog W 0 (fun _ => true) true Try.f8.params.toList args.toList ds p := hA0
  rw [Try.params8] at hA hval
  obtain ⟨v0, vs0, d0, ds0, p0, q0, hargs, rfl, rfl, h0, r0⟩ := trodAll_cons hA
  obtain ⟨v1, vs1, d1, ds1, p1, q1, rfl, rfl, rfl, h1, r1⟩ := trodAll_cons r0
  obtain ⟨v2, vs2, d2, ds2, p2, q2, rfl, rfl, rfl, h2, r2⟩ := trodAll_cons r1
  obtain ⟨rfl, rfl, rfl⟩ := trodAll_nil r2
  obtain rfl : args = #[v0, v1, v2] := by cases args; simp_all
  obtain ⟨rfl, rfl⟩ := trodVars_none hV
  obtain ⟨a0, rfl, rfl, rfl, w0⟩ := open_int Try.underlying27 (hval 0 27 v0 rfl rfl) h0
  obtain ⟨a1, rfl, rfl, rfl, w1⟩ := open_int Try.underlying27 (hval 1 27 v1 rfl rfl) h1
  obtain ⟨a2, rfl, rfl, rfl, w2⟩ := open_int Try.underlying27 (hval 2 27 v2 rfl rfl) h2
  clear hA0 hval0
  simp only [List.append_nil] at hW'
  refine (walk a0 a1 a2 w0 w1 w2 W).mono fun e W' ⟨he, hg⟩ => ?_
  subst he
  exact ⟨_, rfl, post_of_same (pa := []) (pv := []) hW' (fun _ _ _ => (trodAll_cons_mk (shut_bool Try.underlying4 _) trodAll_mk0)) (fun sp _ => (trodAll_cons_mk (shut_int Try.underlying27 w0) (trodAll_cons_mk (shut_int Try.underlying27 w1) (trodAll_cons_mk (shut_int Try.underlying27 w2) trodAll_mk0)))) (fun _ _ => rfl) rfl
    (hg.frame _) hg.2.1 (ok_one (by kernel_rfl) rfl (okWide_bool_mk Try.underlying4 _))⟩

theorem over : Rows.numberOrderRow.holds Try.pinned (OpenSpec.ofChange Rows.numberOrderSpec) :=
  OpenClaim.holds_of_wide 8 Try.f8 rfl rfl rfl rfl rfl rfl rfl ⟨rfl, rfl, rfl, rfl, rfl⟩ rfl rfl rfl rfl rfl (by kernel_rfl) Try.func8 (by kernel_rfl)
    (of_decide_eq_true (by kernel_rfl)) (by unfold Func.isWrapper; first | (rw [if_pos (by decide +kernel)]; kernel_rfl) | (rw [if_neg (by decide +kernel)]; exact ⟨rfl, rfl⟩))
    (fun os started H enc _ => lifted os started H enc)

/-- ████ THE STATEMENT ████ -/
theorem proved : Rows.NumberOrderSaid :=
  over
end Go.Proofs.Ytfomenkepdeajaa.numberOrder
