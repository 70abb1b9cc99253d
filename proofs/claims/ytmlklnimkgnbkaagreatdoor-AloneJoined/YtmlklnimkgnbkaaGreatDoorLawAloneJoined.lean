/- For every config, list of programs, list of calls and list of numbers the statement AloneJoined answers true: the calls of a list's two halves, run alone one behind the other, come to the results of the whole list and leave the same in the state. Condition: the listed variable of the program (code.shapes) holds what its own text lays (the card ties it). -/
import Derived.Test.YtmlklnimkgnbkaaGreatDoorKO
import Derived.Test.YtmlklnimkgnbkaaGreatDoorCards
import Derived.Test.YtmlklnimkgnbkaaGreatDoorJK
namespace Go.Proofs.YtmlklnimkgnbkaaGreatDoor.aloneJoined
open Go.ChangeShapes Go.WideShapes Go.ChangeAt Go.RowKit Num
open Go.ChangeMaps (open_string shut_string)

theorem walk (W : World) (a0 b0 c0 e0 : Int) (o1 : Option Addr) (l1 : List Pg) (k1 : Nat) (o2 : Option Addr) (l2 : List Cl) (k2 : Nat) (o3 : Option Addr) (l3 : List Nat) (k3 : Nat) (_ : l1.length ≤ maxLen) (w1 : PgsAt W o1 l1) (m2 : l2.length ≤ k2 ∧ k2 ≤ maxLen) (w2 : ClsAt W o2 l2) (m3 : l3.length ≤ maxLen ∧ ∀ i, i < l3.length → l3.getD i 0 < 18446744073709551616) (w3 : FlAt W o3 l3) (hT : Shaped5 W) : Calls Tryz.prog 4 #[cfgV a0 b0 c0 e0, .slice o1 l1.length k1, .slice o2 l2.length k2, .slice o3 l3.length k3] W fun e W2 => e = .returned (.bool true) ∧ Below W.heap.size W W2 :=
  lawJoined_any hT rfl w1 rfl m2.1 w2 rfl w3 (all_of m3.2)

set_option maxRecDepth 100000 in
theorem lifted (os : Os) (started : os.Started) (H : Type) (enc : TypeId × Value → H) :
    ReturnsInHanded {} Tryz.checked os 4 .any (fun w args => (Rows.aloneJoinedSpec.pre enc Tryz.prog Tryz.f4 [] false w args ∧ laidMetH Tryz.prog laid8 w) ∧ sizedMet enc Tryz.prog Tryz.f4 (OpenSpec.ofChange Rows.aloneJoinedSpec) false w args)
      (Rows.aloneJoinedSpec.post enc Tryz.prog Tryz.f4 false true false false) := by
  refine wrap5 (C := Tryz.checked) (X := fun w _ => laidMetH Tryz.prog laid8 w) (fun _ _ _ hh h => h.of_heap hh) ownK started (by kernel_rfl) Tryz.func4
    (ChangeSpec.witness_shaped (enc := enc) (C := Tryz.checked) (os := os) (X := fun w _ => laidMetH Tryz.prog laid8 w) false (World.doorLaid Tryz.prog 400 os) #[.agg #[.int .i64 0, .int .i64 0, .int .i64 0, .int .i64 0], .slice none 0 0, .slice none 0 0, .slice none 0 0] 8 rfl (World.shaped_of_RefB (by kernel_rfl) (by kernel_rfl)) (by kernel_rfl) (by kernel_rfl) (by kernel_rfl) (door_met os _)) ?_
  intro W base args ds gs before hval0 hW hsz0 hL hsh
  have hval : ∀ (j : Nat) t v, Tryz.f4.params[j]? = some t → args[j]? = some v → Value.okWide Tryz.prog W .any base t v := hval0
  have hsz : (DataW.weightsEach Tryz.prog (Tryz.f4.params.toList ++ Rows.aloneJoinedSpec.plain.varTypes Tryz.prog) (ds ++ gs)).all (· ≤ reachBytes) = true := hsz0
  clear hsz0
  have hW2 := hW
  obtain ⟨p, q, hA0, hV, rfl, hfz, hnd⟩ := hW
  have hA : DataW.TrodAll enc Tryz.prog W 0 (fun _ => true) true Tryz.f4.params.toList args.toList ds p := hA0
  rw [Tryz.params4] at hA hval hsz
  obtain ⟨v0, vs0, d0, ds0, p0, q0, hargs, rfl, rfl, h0, r0⟩ := trodAll_cons hA
  obtain ⟨v1, vs1, d1, ds1, p1, q1, rfl, rfl, rfl, h1, r1⟩ := trodAll_cons r0
  obtain ⟨v2, vs2, d2, ds2, p2, q2, rfl, rfl, rfl, h2, r2⟩ := trodAll_cons r1
  obtain ⟨v3, vs3, d3, ds3, p3, q3, rfl, rfl, rfl, h3, r3⟩ := trodAll_cons r2
  obtain ⟨rfl, rfl, rfl⟩ := trodAll_nil r3
  obtain rfl : args = #[v0, v1, v2, v3] := by cases args; simp_all
  obtain ⟨rfl, rfl⟩ := trodVars_none hV
  obtain ⟨a0, b0, c0, e0, rfl⟩ := open_cfg (hval 0 23 v0 rfl rfl) h0
  obtain ⟨o1, k1, l1, rfl, m1, w1⟩ := open_progs (hval 1 24 v1 rfl rfl) h1
  obtain ⟨o2, k2, l2, rfl, m2, w2⟩ := open_calls (hval 2 25 v2 rfl rfl) h2
  obtain ⟨o3, k3, l3, rfl, m3, z3, w3⟩ := open_fls (hval 3 26 v3 rfl rfl) h3
  clear hA0 hval0
  simp only [List.append_nil] at hW2
  have hlt : ∀ x ∈ p0 ++ p1 ++ p2 ++ p3, x.block < W.heap.size := fun x hx => by simpa using hW2.lt x (by simpa using hx)
  refine (walk W a0 b0 c0 e0 o1 l1 k1 o2 l2 k2 o3 l3 k3 m1 w1 m2 w2 m3 w3 (of_laid8 hL)).mono fun e W2 ⟨he, hnx⟩ => ?_
  subst he
  exact ⟨_, rfl, _, _, _, [], _, [], hW2, trodAll_mk1 (shut_bool Tryz.underlying4 _), (trodAll_cons_mk (Below.trod laidOut (by kernel_rfl) (of_decide_eq_true (by kernel_rfl)) h0 hnx (fun x hx => hlt x (by simp only [List.mem_append]; simp [hx]))) (trodAll_cons_mk (Below.trod laidOut (by kernel_rfl) (of_decide_eq_true (by kernel_rfl)) h1 hnx (fun x hx => hlt x (by simp only [List.mem_append]; simp [hx]))) (trodAll_cons_mk (Below.trod laidOut (by kernel_rfl) (of_decide_eq_true (by kernel_rfl)) h2 hnx (fun x hx => hlt x (by simp only [List.mem_append]; simp [hx]))) (trodAll_cons_mk (Below.trod laidOut (by kernel_rfl) (of_decide_eq_true (by kernel_rfl)) h3 hnx (fun x hx => hlt x (by simp only [List.mem_append]; simp [hx]))) trodAll_mk0)))), rfl, hnx.frame _, fun h => by cases h⟩

theorem over : Rows.AloneJoinedSaid :=
  OpenClaim.holds_of_wide 4 Tryz.f4 rfl rfl rfl rfl rfl rfl rfl ⟨rfl, rfl, rfl, rfl, rfl⟩ rfl rfl rfl rfl rfl (by kernel_rfl) Tryz.func4 (by kernel_rfl)
    (of_decide_eq_true (by kernel_rfl)) (by unfold Func.isWrapper; first | (rw [if_pos (by decide +kernel)]; kernel_rfl) | (rw [if_neg (by decide +kernel)]; exact ⟨rfl, rfl⟩))
    (fun os started H enc _ => lifted os started H enc)

/-- the card -/
theorem proved : Rows.AloneJoinedCardSaid :=
  Claim7.holds_tied_plain_at .later [] [.data] true Rows.aloneJoinedCard.stood.harness true
    over (fun _ h => by cases h) (by kernel_rfl) (fun _ h => by cases h) aloneJoined_row_tie rfl ⟨rfl, rfl⟩ (by kernel_rfl) rfl
    (fun f fn hf hfn => by
      obtain rfl : f = 4 := Option.some.inj ((show Tryz.prog.funcNamed Rows.aloneJoinedRow.func = some 4 by kernel_rfl).symm.trans hf) |>.symm
      obtain rfl : fn = Tryz.f4 := (Option.some.inj (Tryz.func4.symm.trans hfn)).symm
      exact ⟨by kernel_rfl, fun j t ht => by
        rw [Tryz.params4] at ht
        have hm : t ∈ [23, 24, 25, 26] := by simpa using Array.mem_of_getElem? ht
        have hall : ([23, 24, 25, 26].all fun u => !Tryz.prog.wantsStandIn u) = true := by kernel_rfl
        exact (show Tryz.prog.wantsStandIn t = false by simpa using List.all_eq_true.1 hall t hm)⟩)
    (by kernel_rfl)
end Go.Proofs.YtmlklnimkgnbkaaGreatDoor.aloneJoined
