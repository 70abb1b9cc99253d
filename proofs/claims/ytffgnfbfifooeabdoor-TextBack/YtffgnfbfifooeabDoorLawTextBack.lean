/- For every two numbers, by their 64 bits, and every text the statement TextBack answers true: what is printed is read as that number, two numbers have one text just where they are the same, what is read is printed so, a text that is refused gives 0 and ErrText. Condition: the listed variables of the library hold what their own text lays (the card ties them). -/
import Derived.Test.YtffgnfbfifooeabDoorTL
import Derived.Test.YtffgnfbfifooeabDoorCards
namespace Go.Proofs.YtffgnfbfifooeabDoor.textBack
open Go.ChangeShapes Go.WideShapes Go.ChangeAt Go.RowKit Num
open Go.ChangeMaps (open_string shut_string)

attribute [local go_sem] frombits_run bits_run
theorem beq_int (a b : Nat) : ((a : Int) == (b : Int)) = (a == b) := by rw [Bool.eq_iff_iff, beq_iff_eq, beq_iff_eq]; omega
set_option maxHeartbeats 2000000 in
set_option maxRecDepth 100000 in
theorem walkN (n m : Nat) (a2 : ByteArray) (hn : n < 18446744073709551616) (hm : m < 18446744073709551616) (z2 : a2.size ≤ 140737488355328) (W : World) (hT : Tabs W) : Calls Tryd.prog 4 #[.int .u64 n, .int .u64 m, .string a2] W fun e W2 => e = .returned (.bool true) ∧ Below W.heap.size W W2 := by
  have HT := Lib.hid hT
  have HN := Lib.hid hn
  have HM := Lib.hid hm
  have HZ : Hid (a2.size ≤ 281474976710656) := by show a2.size ≤ _; omega
  have h0 : Below W.heap.size W W := Below.refl _ _
  have hp := parseR_print hn
  have hq : (printT n == printT m) = (fixB n == fixB m) := by
    rw [Bool.eq_iff_iff, beq_iff_eq, beq_iff_eq]
    exact printT_inj hn hm
  have HL : Hid ((⟨(printT n).toArray⟩ : ByteArray).size ≤ 281474976710656) := by
    show (⟨(printT n).toArray⟩ : ByteArray).size ≤ _
    rw [size_list]
    have := printT_length (b := n)
    show (printT n).length ≤ _
    omega
  clear hT z2 hn hm
  by_cases h : printT (gT a2.data.toList) = a2.data.toList
  · have e : parseR a2.data.toList = (gT a2.data.toList, 0) := by unfold parseR; rw [if_pos h]
    have hs : (printT (gT a2.data.toList) == a2.toList) = true := by rw [beq_iff_eq, ByteArray.toList_eq]; exact h
    have HV := Lib.hid (gT_lt a2.data.toList)
    clear h
    generalize gT a2.data.toList = v at *
    go_enter Tryd.func4, Tryd.ntmps4
    go_wp2_with (first
      | (go_at_call 11; refine (raw2_any _ _).mono ?_; rintro e w' ⟨rfl, hw⟩; subst w')
      | (go_at_call 13; refine (print_at HT.out (by assumption) _ (by first | exact HN.out | exact HM.out | exact HV.out)).mono ?_; rintro e w' ⟨rfl, hb⟩)
      | (go_at_call 12; refine (parse_at HT.out (by assumption) _ (by first | exact HL.out | exact HZ.out)).mono ?_; rintro e w' ⟨rfl, hb⟩)
      | (go_at_call 15; refine (refBits_any _ _).mono ?_; rintro e w' ⟨rfl, hw⟩; subst w')
      | (go_at_call 16; refine (refSame_any _ _ _).mono ?_; rintro e w' ⟨rfl, hw⟩; subst w')
      | (go_at_call 7; refine (live_at HT.out (by assumption)).mono ?_; rintro e w' ⟨rfl, hb⟩)
      | go_in)
    go_ret
    exact ⟨by simp, hb⟩
  · have e : parseR a2.data.toList = (0, 20) := by unfold parseR; rw [if_neg h]
    have HV : Hid (0 < 18446744073709551616) := by show 0 < _; decide
    clear h
    go_enter Tryd.func4, Tryd.ntmps4
    go_wp2_with (first
      | (go_at_call 11; refine (raw2_any _ _).mono ?_; rintro e w' ⟨rfl, hw⟩; subst w')
      | (go_at_call 13; refine (print_at HT.out (by assumption) _ (by first | exact HN.out | exact HM.out | exact HV.out)).mono ?_; rintro e w' ⟨rfl, hb⟩)
      | (go_at_call 12; refine (parse_at HT.out (by assumption) _ (by first | exact HL.out | exact HZ.out)).mono ?_; rintro e w' ⟨rfl, hb⟩)
      | (go_at_call 15; refine (refBits_any _ _).mono ?_; rintro e w' ⟨rfl, hw⟩; subst w')
      | (go_at_call 16; refine (refSame_any _ _ _).mono ?_; rintro e w' ⟨rfl, hw⟩; subst w')
      | (go_at_call 7; refine (live_at HT.out (by assumption)).mono ?_; rintro e w' ⟨rfl, hb⟩)
      | go_in)
    go_ret
    exact ⟨by simp, hb⟩
theorem walk (a0 a1 : Int) (a2 : ByteArray) (w0 : (Lit.int .u64 a0).wf = true) (w1 : (Lit.int .u64 a1).wf = true) (z2 : a2.size ≤ 140737488355328) (W : World) (hT : Tabs W) : Calls Tryd.prog 4 #[.int .u64 a0, .int .u64 a1, .string a2] W fun e W2 => e = .returned (.bool true) ∧ Below W.heap.size W W2 := by
  have h0 : 0 ≤ a0 ∧ a0 ≤ 18446744073709551615 := by simpa [Lit.wf, IntKind.min, IntKind.max, IntKind.signed, IntKind.bits] using w0
  have h1 : 0 ≤ a1 ∧ a1 ≤ 18446744073709551615 := by simpa [Lit.wf, IntKind.min, IntKind.max, IntKind.signed, IntKind.bits] using w1
  obtain ⟨n, rfl⟩ : ∃ n : Nat, a0 = n := ⟨a0.toNat, by omega⟩
  obtain ⟨m, rfl⟩ : ∃ m : Nat, a1 = m := ⟨a1.toNat, by omega⟩
  exact walkN n m a2 (by omega) (by omega) z2 W hT

set_option maxRecDepth 100000 in
theorem lifted (os : Os) (started : os.Started) (H : Type) (enc : TypeId × Value → H) :
    ReturnsInHanded {} Tryd.checked os 4 .any (fun w args => (Rows.textBackSpec.pre enc Tryd.prog Tryd.f4 [] false w args ∧ laidMetH Tryd.prog laid5 w) ∧ sizedMet enc Tryd.prog Tryd.f4 (OpenSpec.ofChange Rows.textBackSpec) false w args)
      (Rows.textBackSpec.post enc Tryd.prog Tryd.f4 false true false false) := by
  refine returnsInHanded_of_change_and (C := Tryd.checked) (X := fun w _ => laidMetH Tryd.prog laid5 w) (fun _ _ _ hh h => h.of_heap hh) ownK started (by kernel_rfl) Tryd.func4
    (ChangeSpec.witness_shaped (enc := enc) (C := Tryd.checked) (os := os) (X := fun w _ => laidMetH Tryd.prog laid5 w) false (World.doorLaid Tryd.prog 400 os) #[.int .u64 0, .int .u64 0, .string ByteArray.empty] 8 rfl (World.shaped_of_RefB (by kernel_rfl) (by kernel_rfl)) (by kernel_rfl) (by kernel_rfl) (by kernel_rfl) (door_met os _)) ?_
  intro W base args ds gs before hval0 hW _ hsz0 hL _
  have hval : ∀ (j : Nat) t v, Tryd.f4.params[j]? = some t → args[j]? = some v → Value.okWide Tryd.prog W .any base t v := hval0
  have hsz : (DataW.weightsEach Tryd.prog (Tryd.f4.params.toList ++ Rows.textBackSpec.plain.varTypes Tryd.prog) (ds ++ gs)).all (· ≤ reachBytes) = true := hsz0
  clear hsz0
  have hW2 := hW
  obtain ⟨p, q, hA0, hV, rfl, hfz, hnd⟩ := hW
  have hA : DataW.TrodAll enc Tryd.prog W 0 (fun _ => true) true Tryd.f4.params.toList args.toList ds p := hA0
  rw [Tryd.params4] at hA hval hsz
  obtain ⟨v0, vs0, d0, ds0, p0, q0, hargs, rfl, rfl, h0, r0⟩ := trodAll_cons hA
  obtain ⟨v1, vs1, d1, ds1, p1, q1, rfl, rfl, rfl, h1, r1⟩ := trodAll_cons r0
  obtain ⟨v2, vs2, d2, ds2, p2, q2, rfl, rfl, rfl, h2, r2⟩ := trodAll_cons r1
  obtain ⟨rfl, rfl, rfl⟩ := trodAll_nil r2
  obtain rfl : args = #[v0, v1, v2] := by cases args; simp_all
  obtain ⟨rfl, rfl⟩ := trodVars_none hV
  obtain ⟨a0, rfl, rfl, rfl, w0⟩ := open_int Tryd.underlying27 (hval 0 27 v0 rfl rfl) h0
  obtain ⟨a1, rfl, rfl, rfl, w1⟩ := open_int Tryd.underlying27 (hval 1 27 v1 rfl rfl) h1
  obtain ⟨a2, rfl, rfl, rfl, w2⟩ := open_string Tryd.underlying9 (hval 2 9 v2 rfl rfl) h2
  clear hA0 hval0
  simp only [List.append_nil] at hW2
  have z2 : a2.size ≤ 140737488355328 := by
    have h1 := sized_string hsz (j := 2) (t := 9) rfl rfl
    have h2 := reachBytes_lt
    have e3 : (2 : Nat) ^ 47 = 140737488355328 := by decide
    rw [size_list]
    omega
  refine (walk a0 a1 a2 w0 w1 z2 W (of_laid hL)).mono fun e W2 ⟨he, hnx⟩ => ?_
  subst he
  exact ⟨_, rfl, _, _, _, [], [], [], hW2, trodAll_mk1 (shut_bool Tryd.underlying4 _), (trodAll_cons_mk (shut_int Tryd.underlying27 w0) (trodAll_cons_mk (shut_int Tryd.underlying27 w1) (trodAll_cons_mk (shut_string Tryd.underlying9 w2) trodAll_mk0))), rfl, hnx.frame _, fun h => by cases h⟩

theorem over : Rows.TextBackSaid :=
  OpenClaim.holds_of_wide 4 Tryd.f4 rfl rfl rfl rfl rfl rfl rfl ⟨rfl, rfl, rfl, rfl, rfl⟩ rfl rfl rfl rfl rfl (by kernel_rfl) Tryd.func4 (by kernel_rfl)
    (of_decide_eq_true (by kernel_rfl)) (by unfold Func.isWrapper; first | (rw [if_pos (by decide +kernel)]; kernel_rfl) | (rw [if_neg (by decide +kernel)]; exact ⟨rfl, rfl⟩))
    (fun os started H enc _ => lifted os started H enc)

/-- the card -/
theorem proved : Rows.TextBackCardSaid :=
  Claim7.holds_tied_plain_at .later [] [.data, .data, .data, .sentinel, .sentinel] true Rows.textBackCard.stood.harness true
    over (fun _ h => by cases h) (by kernel_rfl) (fun _ h => by cases h) textBack_row_tie rfl ⟨rfl, rfl⟩ (by kernel_rfl) rfl
    (fun f fn hf hfn => by
      obtain rfl : f = 4 := Option.some.inj ((show Tryd.prog.funcNamed Rows.textBackRow.func = some 4 by kernel_rfl).symm.trans hf) |>.symm
      obtain rfl : fn = Tryd.f4 := (Option.some.inj (Tryd.func4.symm.trans hfn)).symm
      exact ⟨by kernel_rfl, fun j t ht => by
        rw [Tryd.params4] at ht
        have hm : t ∈ [27, 27, 9] := by simpa using Array.mem_of_getElem? ht
        have hall : ([27, 27, 9].all fun u => !Tryd.prog.wantsStandIn u) = true := by kernel_rfl
        exact (show Tryd.prog.wantsStandIn t = false by simpa using List.all_eq_true.1 hall t hm)⟩)
    (by kernel_rfl)
end Go.Proofs.YtffgnfbfifooeabDoor.textBack
