/- For every number of an operation the statement CodeEffects answers true: what it takes and lays, or the error, is the document's. Condition: the listed variables of the library and of the program hold what their own text lays (the card ties them). -/
import Derived.Test.YtlnobfmbnnfbdaaGreatDoorCL2
import Derived.Test.YtlnobfmbnnfbdaaGreatDoorCards
import Derived.Test.YtlnobfmbnnfbdaaGreatDoorC7
namespace Go.Proofs.YtlnobfmbnnfbdaaGreatDoor.codeEffects
open Go.ChangeShapes Go.WideShapes Go.ChangeAt Go.RowKit Num
open Go.ChangeMaps (open_string shut_string)

set_option maxHeartbeats 2000000 in
set_option maxRecDepth 100000 in
theorem walk (a0 : Int) (_w0 : (Lit.int .i64 a0).wf = true) (W : World) (hT : Tabs5 W) : Calls Tryz.prog 4 #[.int .i64 a0] W fun e W2 => e = .returned (.bool true) ∧ Below W.heap.size W W2 := by
  have HL := Lib.hid (live5_any W hT)
  have HT := Lib.hid hT
  clear hT _w0
  cases hk : knownB a0 with
  | true =>
    have hop : 0 < a0 ∧ a0 ≤ 20 := by unfold knownB at hk; simpa using hk
    obtain ⟨k, rfl⟩ : ∃ k : Nat, a0 = k := ⟨a0.toNat, by omega⟩
    have HE := Lib.hid (fun w h => effect_some k w h (by omega) (by omega))
    have HR := Lib.hid (fun w => refEffect_some k w (by omega) (by omega))
    generalize (shp k).takes = t at HE HR
    generalize (shp k).lays = l at HE HR
    clear hk hop
    go_enter Tryz.func4, Tryz.ntmps4
    go_wp2_with (first
      | (go_at_call 9; refine HL.out.mono ?_; rintro e w1 ⟨rfl, hb⟩; have HB1 := Lib.hid hb; clear hb)
      | (go_at_call 16; refine (HE.out _ (HT.out.on HB1.out).sh).mono ?_; rintro e w2 ⟨rfl, hs⟩; have HB2 := Lib.hid (HB1.out.trans (hs.below _)); clear hs)
      | (go_at_call 17; refine (HR.out _).mono ?_; rintro e w3 ⟨rfl, hb⟩; have HB3 := Lib.hid (chain5 HB2.out hb); clear hb))
    go_ret
    exact ⟨by simp, HB3.out⟩
  | false =>
    have HE := Lib.hid (fun w => effect_none a0 w hk)
    have HR := Lib.hid (fun w => refEffect_none a0 w hk)
    clear hk
    go_enter Tryz.func4, Tryz.ntmps4
    go_wp2_with (first
      | (go_at_call 9; refine HL.out.mono ?_; rintro e w1 ⟨rfl, hb⟩; have HB1 := Lib.hid hb; clear hb)
      | (go_at_call 16; refine (HE.out _).mono ?_; rintro e w2 ⟨rfl, hs⟩; have HB2 := Lib.hid (HB1.out.trans (hs.below _)); clear hs)
      | (go_at_call 17; refine (HR.out _).mono ?_; rintro e w3 ⟨rfl, hb⟩; have HB3 := Lib.hid (chain5 HB2.out hb); clear hb))
    go_ret
    exact ⟨by simp, HB3.out⟩

set_option maxRecDepth 100000 in
theorem lifted (os : Os) (started : os.Started) (H : Type) (enc : TypeId × Value → H) :
    ReturnsInHanded {} Tryz.checked os 4 .any (fun w args => (Rows.codeEffectsSpec.pre enc Tryz.prog Tryz.f4 [] false w args ∧ laidMetH Tryz.prog laid5 w) ∧ sizedMet enc Tryz.prog Tryz.f4 (OpenSpec.ofChange Rows.codeEffectsSpec) false w args)
      (Rows.codeEffectsSpec.post enc Tryz.prog Tryz.f4 false true false false) := by
  refine wrap5 (C := Tryz.checked) (X := fun w _ => laidMetH Tryz.prog laid5 w) (fun _ _ _ hh h => h.of_heap hh) ownK started (by kernel_rfl) Tryz.func4
    (ChangeSpec.witness_shaped (enc := enc) (C := Tryz.checked) (os := os) (X := fun w _ => laidMetH Tryz.prog laid5 w) false (World.doorLaid Tryz.prog 400 os) #[.int .i64 0] 8 rfl (World.shaped_of_RefB (by kernel_rfl) (by kernel_rfl)) (by kernel_rfl) (by kernel_rfl) (by kernel_rfl) (door_met os _)) ?_
  intro W base args ds gs before hval0 hW hsz0 hL hsh
  have hval : ∀ (j : Nat) t v, Tryz.f4.params[j]? = some t → args[j]? = some v → Value.okWide Tryz.prog W .any base t v := hval0
  have hsz : (DataW.weightsEach Tryz.prog (Tryz.f4.params.toList ++ Rows.codeEffectsSpec.plain.varTypes Tryz.prog) (ds ++ gs)).all (· ≤ reachBytes) = true := hsz0
  clear hsz0
  have hW2 := hW
  obtain ⟨p, q, hA0, hV, rfl, hfz, hnd⟩ := hW
  have hA : DataW.TrodAll enc Tryz.prog W 0 (fun _ => true) true Tryz.f4.params.toList args.toList ds p := hA0
  rw [Tryz.params4] at hA hval hsz
  obtain ⟨v0, vs0, d0, ds0, p0, q0, hargs, rfl, rfl, h0, r0⟩ := trodAll_cons hA
  obtain ⟨rfl, rfl, rfl⟩ := trodAll_nil r0
  obtain rfl : args = #[v0] := by cases args; simp_all
  obtain ⟨rfl, rfl⟩ := trodVars_none hV
  obtain ⟨a0, rfl, rfl, rfl, w0⟩ := open_int Tryz.underlying3 (hval 0 3 v0 rfl rfl) h0
  clear hA0 hval0
  simp only [List.append_nil] at hW2
  refine (walk a0 w0 W (of_laid hL hsh)).mono fun e W2 ⟨he, hnx⟩ => ?_
  subst he
  exact ⟨_, rfl, _, _, _, [], _, [], hW2, trodAll_mk1 (shut_bool Tryz.underlying4 _), (trodAll_cons_mk (shut_int Tryz.underlying3 w0) trodAll_mk0), rfl, hnx.frame _, fun h => by cases h⟩

theorem over : Rows.CodeEffectsSaid :=
  OpenClaim.holds_of_wide 4 Tryz.f4 rfl rfl rfl rfl rfl rfl rfl ⟨rfl, rfl, rfl, rfl, rfl⟩ rfl rfl rfl rfl rfl (by kernel_rfl) Tryz.func4 (by kernel_rfl)
    (of_decide_eq_true (by kernel_rfl)) (by unfold Func.isWrapper; first | (rw [if_pos (by decide +kernel)]; kernel_rfl) | (rw [if_neg (by decide +kernel)]; exact ⟨rfl, rfl⟩))
    (fun os started H enc _ => lifted os started H enc)

/-- the card -/
theorem proved : Rows.CodeEffectsCardSaid :=
  Claim7.holds_tied_plain_at .later [] [.data, .data, .data, .sentinel, .sentinel, .data, .data, .data] true Rows.codeEffectsCard.stood.harness true
    over (fun _ h => by cases h) (by kernel_rfl) (fun _ h => by cases h) codeEffects_row_tie rfl ⟨rfl, rfl⟩ (by kernel_rfl) rfl
    (fun f fn hf hfn => by
      obtain rfl : f = 4 := Option.some.inj ((show Tryz.prog.funcNamed Rows.codeEffectsRow.func = some 4 by kernel_rfl).symm.trans hf) |>.symm
      obtain rfl : fn = Tryz.f4 := (Option.some.inj (Tryz.func4.symm.trans hfn)).symm
      exact ⟨by kernel_rfl, fun j t ht => by
        rw [Tryz.params4] at ht
        have hm : t ∈ [3] := by simpa using Array.mem_of_getElem? ht
        have hall : ([3].all fun u => !Tryz.prog.wantsStandIn u) = true := by kernel_rfl
        exact (show Tryz.prog.wantsStandIn t = false by simpa using List.all_eq_true.1 hall t hm)⟩)
    (by kernel_rfl)
end Go.Proofs.YtlnobfmbnnfbdaaGreatDoor.codeEffects
