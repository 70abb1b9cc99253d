/- The statement TextNumbers answers true: the numbers of errors and limits and the examples are the document's. Condition: the listed variables of the library hold what their own text lays (the card ties them). -/
import Derived.Test.YtffgnfbfifooeaaDoorTL
import Derived.Test.YtffgnfbfifooeaaDoorCards
namespace Go.Proofs.YtffgnfbfifooeaaDoor.textNumbers
open Go.ChangeShapes Go.WideShapes Go.ChangeAt Go.RowKit Num
open Go.ChangeMaps (open_string shut_string)

theorem dec_max : Lib.decDigits 2147483647 = [50, 49, 52, 55, 52, 56, 51, 54, 52, 55] := canon 9 _ _ rfl (by decide) (by decide)
theorem whole_max : wholeR [50, 49, 52, 55, 52, 56, 51, 54, 52, 55] = (2147483647, 0) := by
  rw [← dec_max]
  exact wholeR_dec (by decide)
theorem whole_over : wholeR [50, 49, 52, 55, 52, 56, 51, 54, 52, 56] = (0, 20) := by
  unfold wholeR
  rw [show readL 10 0 [50, 49, 52, 55, 52, 56, 51, 54, 52, 56] = some 2147483648 by decide]
  show (if 2147483648 ≤ 2147483647 ∧ _ then _ else _) = _
  rw [if_neg (fun q => absurd q.1 (by decide))]
theorem print_half : printT 4602678819172646912 = [120, 51, 102, 101, 48, 48, 48, 48, 48, 48, 48, 48, 48, 48, 48, 48, 48] := by
  unfold printT
  rw [if_neg (by decide), if_neg (by decide), if_neg (by decide), if_neg (by decide), show wholeB 4602678819172646912 = false by decide +kernel, if_neg Bool.false_ne_true]
  decide
theorem print_nan : printT 18444492273895866369 = [110, 97, 110] := printT_nan (by decide)
set_option maxHeartbeats 2000000 in
set_option maxRecDepth 100000 in
theorem walk (W : World) (hT : Tabs W) : Calls Tryd.prog 3 #[] W fun e W2 => e = .returned (.bool true) ∧ Below W.heap.size W W2 := by
  have HT := Lib.hid hT
  have h0 : Below W.heap.size W W := Below.refl _ _
  have p1 := whole_max
  have p2 := whole_over
  have p3 := print_half
  have p4 := print_nan
  have p5 := printT_nzero
  clear hT
  go_enter Tryd.func3, Tryd.ntmps3
  go_wp2_with (first
    | (go_at_call 9; refine (whole_at HT.out (by assumption) _ (by decide)).mono ?_; rintro e w' ⟨rfl, hb⟩)
    | (go_at_call 10; refine (print_at HT.out (by assumption) _ (by decide)).mono ?_; rintro e w' ⟨rfl, hb⟩)
    | (go_at_call 11; refine (raw2_any _ _).mono ?_; rintro e w' ⟨rfl, hw⟩; subst w'))
  go_ret
  exact ⟨rfl, hb⟩

set_option maxRecDepth 100000 in
theorem lifted (os : Os) (started : os.Started) (H : Type) (enc : TypeId × Value → H) :
    ReturnsInHanded {} Tryd.checked os 3 .any (fun w args => (Rows.textNumbersSpec.pre enc Tryd.prog Tryd.f3 [] false w args ∧ laidMetH Tryd.prog laid5 w) ∧ sizedMet enc Tryd.prog Tryd.f3 (OpenSpec.ofChange Rows.textNumbersSpec) false w args)
      (Rows.textNumbersSpec.post enc Tryd.prog Tryd.f3 false true false false) := by
  refine returnsInHanded_of_change_and (C := Tryd.checked) (X := fun w _ => laidMetH Tryd.prog laid5 w) (fun _ _ _ hh h => h.of_heap hh) ownK started (by kernel_rfl) Tryd.func3
    (ChangeSpec.witness_shaped (enc := enc) (C := Tryd.checked) (os := os) (X := fun w _ => laidMetH Tryd.prog laid5 w) false (World.doorLaid Tryd.prog 400 os) #[] 8 rfl (World.shaped_of_RefB (by kernel_rfl) (by kernel_rfl)) (by kernel_rfl) (by kernel_rfl) (by kernel_rfl) (door_met os _)) ?_
  intro W base args ds gs before hval0 hW _ hsz0 hL _
  have hval : ∀ (j : Nat) t v, Tryd.f3.params[j]? = some t → args[j]? = some v → Value.okWide Tryd.prog W .any base t v := hval0
  have hsz : (DataW.weightsEach Tryd.prog (Tryd.f3.params.toList ++ Rows.textNumbersSpec.plain.varTypes Tryd.prog) (ds ++ gs)).all (· ≤ reachBytes) = true := hsz0
  clear hsz0
  have hW2 := hW
  obtain ⟨p, q, hA0, hV, rfl, hfz, hnd⟩ := hW
  have hA : DataW.TrodAll enc Tryd.prog W 0 (fun _ => true) true Tryd.f3.params.toList args.toList ds p := hA0
  rw [Tryd.params3] at hA hval hsz
  obtain ⟨rfl, rfl, rfl⟩ := trodAll_none hA
  obtain ⟨rfl, rfl⟩ := trodVars_none hV
  clear hA0 hval0
  simp only [List.append_nil] at hW2
  refine (walk  W (of_laid hL)).mono fun e W2 ⟨he, hnx⟩ => ?_
  subst he
  exact ⟨_, rfl, _, _, _, [], [], [], hW2, trodAll_mk1 (shut_bool Tryd.underlying4 _), rfl, rfl, hnx.frame _, fun h => by cases h⟩

theorem over : Rows.TextNumbersSaid :=
  OpenClaim.holds_of_wide 3 Tryd.f3 rfl rfl rfl rfl rfl rfl rfl ⟨rfl, rfl, rfl, rfl, rfl⟩ rfl rfl rfl rfl rfl (by kernel_rfl) Tryd.func3 (by kernel_rfl)
    (of_decide_eq_true (by kernel_rfl)) (by unfold Func.isWrapper; first | (rw [if_pos (by decide +kernel)]; kernel_rfl) | (rw [if_neg (by decide +kernel)]; exact ⟨rfl, rfl⟩))
    (fun os started H enc _ => lifted os started H enc)

/-- the card -/
theorem proved : Rows.TextNumbersCardSaid :=
  Claim7.holds_tied_plain_at .later [] [.data, .data, .data, .sentinel, .sentinel] true Rows.textNumbersCard.stood.harness true
    over (fun _ h => by cases h) (by kernel_rfl) (fun _ h => by cases h) textNumbers_row_tie rfl ⟨rfl, rfl⟩ (by kernel_rfl) rfl
    (fun f fn hf hfn => by
      obtain rfl : f = 3 := Option.some.inj ((show Tryd.prog.funcNamed Rows.textNumbersRow.func = some 3 by kernel_rfl).symm.trans hf) |>.symm
      obtain rfl : fn = Tryd.f3 := (Option.some.inj (Tryd.func3.symm.trans hfn)).symm
      exact ⟨by kernel_rfl, fun j t ht => by
        rw [Tryd.params3] at ht
        simp at ht⟩)
    (by kernel_rfl)
end Go.Proofs.YtffgnfbfifooeaaDoor.textNumbers
