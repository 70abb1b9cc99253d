/- For every config, program, list of arguments, list of numbers, cell and number the statement AloneFrame answers true: a cell that a transaction neither reads nor writes may hold whatever number, it comes to the same, and leaves that number. Condition: the listed variable of the program (code.shapes) holds what its own text lays (the card ties it). -/
import Derived.Test.YtmlklnimkgnbkaaGreatDoorKO
import Derived.Test.YtmlklnimkgnbkaaGreatDoorCards
import Derived.Test.YtmlklnimkgnbkaaGreatDoorJW
namespace Go.Proofs.YtmlklnimkgnbkaaGreatDoor.aloneFrame
open Go.ChangeShapes Go.WideShapes Go.ChangeAt Go.RowKit Num
open Go.ChangeMaps (open_string shut_string)

theorem walk (W : World) (a0 b0 c0 e0 : Int) (t1 : Int) (o1 : Option Addr) (c1 : List Ins) (k1 : Nat) (o2 : Option Addr) (l2 : List Nat) (k2 : Nat) (o3 : Option Addr) (l3 : List Nat) (k3 : Nat) (a4 : Int) (a5 : Nat) (m1 : c1.length ≤ k1 ∧ k1 ≤ maxLen ∧ ∀ i ∈ c1, i.x < 18446744073709551616) (w1 : CodeAt W o1 c1) (m2 : l2.length ≤ maxLen ∧ ∀ i, i < l2.length → l2.getD i 0 < 18446744073709551616) (w2 : FlAt W o2 l2) (m3 : l3.length ≤ maxLen ∧ ∀ i, i < l3.length → l3.getD i 0 < 18446744073709551616) (w3 : FlAt W o3 l3) (_ : (Lit.int .i64 a4).wf = true) (w5 : a5 < 18446744073709551616) (hT : Shaped5 W) : Calls Tryz.prog 5 #[cfgV a0 b0 c0 e0, progV t1 o1 c1.length k1, .slice o2 l2.length k2, .slice o3 l3.length k3, .int .i64 a4, .float .f64 a5] W fun e W2 => e = .returned (.bool true) ∧ Below W.heap.size W W2 :=
  lawFrame_any hT rfl rfl w1 m1.2.2 w2 (all_of m2.2) (Nat.le_trans m1.1 m1.2.1) rfl w3 (all_of m3.2) w5

set_option maxRecDepth 100000 in
theorem lifted (os : Os) (started : os.Started) (H : Type) (enc : TypeId × Value → H) :
    ReturnsInHanded {} Tryz.checked os 5 .any (fun w args => (Rows.aloneFrameSpec.pre enc Tryz.prog Tryz.f5 [] false w args ∧ laidMetH Tryz.prog laid8 w) ∧ sizedMet enc Tryz.prog Tryz.f5 (OpenSpec.ofChange Rows.aloneFrameSpec) false w args)
      (Rows.aloneFrameSpec.post enc Tryz.prog Tryz.f5 false true false false) := by
  refine wrap5 (C := Tryz.checked) (X := fun w _ => laidMetH Tryz.prog laid8 w) (fun _ _ _ hh h => h.of_heap hh) ownK started (by kernel_rfl) Tryz.func5
    (ChangeSpec.witness_shaped (enc := enc) (C := Tryz.checked) (os := os) (X := fun w _ => laidMetH Tryz.prog laid8 w) false (World.doorLaid Tryz.prog 400 os) #[.agg #[.int .i64 0, .int .i64 0, .int .i64 0, .int .i64 0], .agg #[.int .i64 0, .slice none 0 0], .slice none 0 0, .slice none 0 0, .int .i64 0, .float .f64 0] 8 rfl (World.shaped_of_RefB (by kernel_rfl) (by kernel_rfl)) (by kernel_rfl) (by kernel_rfl) (by kernel_rfl) (door_met os _)) ?_
  intro W base args ds gs before hval0 hW hsz0 hL hsh
  have hval : ∀ (j : Nat) t v, Tryz.f5.params[j]? = some t → args[j]? = some v → Value.okWide Tryz.prog W .any base t v := hval0
  have hsz : (DataW.weightsEach Tryz.prog (Tryz.f5.params.toList ++ Rows.aloneFrameSpec.plain.varTypes Tryz.prog) (ds ++ gs)).all (· ≤ reachBytes) = true := hsz0
  clear hsz0
  have hW2 := hW
  obtain ⟨p, q, hA0, hV, rfl, hfz, hnd⟩ := hW
  have hA : DataW.TrodAll enc Tryz.prog W 0 (fun _ => true) true Tryz.f5.params.toList args.toList ds p := hA0
  rw [Tryz.params5] at hA hval hsz
  obtain ⟨v0, vs0, d0, ds0, p0, q0, hargs, rfl, rfl, h0, r0⟩ := trodAll_cons hA
  obtain ⟨v1, vs1, d1, ds1, p1, q1, rfl, rfl, rfl, h1, r1⟩ := trodAll_cons r0
  obtain ⟨v2, vs2, d2, ds2, p2, q2, rfl, rfl, rfl, h2, r2⟩ := trodAll_cons r1
  obtain ⟨v3, vs3, d3, ds3, p3, q3, rfl, rfl, rfl, h3, r3⟩ := trodAll_cons r2
  obtain ⟨v4, vs4, d4, ds4, p4, q4, rfl, rfl, rfl, h4, r4⟩ := trodAll_cons r3
  obtain ⟨v5, vs5, d5, ds5, p5, q5, rfl, rfl, rfl, h5, r5⟩ := trodAll_cons r4
  obtain ⟨rfl, rfl, rfl⟩ := trodAll_nil r5
  obtain rfl : args = #[v0, v1, v2, v3, v4, v5] := by cases args; simp_all
  obtain ⟨rfl, rfl⟩ := trodVars_none hV
  obtain ⟨a0, b0, c0, e0, rfl⟩ := open_cfg (hval 0 23 v0 rfl rfl) h0
  obtain ⟨t1, o1, c1, k1, rfl, m1, w1⟩ := open_prog (hval 1 49 v1 rfl rfl) h1
  obtain ⟨o2, k2, l2, rfl, m2, z2, w2⟩ := open_fls (hval 2 26 v2 rfl rfl) h2
  obtain ⟨o3, k3, l3, rfl, m3, z3, w3⟩ := open_fls (hval 3 26 v3 rfl rfl) h3
  obtain ⟨a4, rfl, w4⟩ := open_i64 (hval 4 3 v4 rfl rfl) h4
  obtain ⟨a5, rfl, w5⟩ := open_f64 (hval 5 50 v5 rfl rfl) h5
  clear hA0 hval0
  simp only [List.append_nil] at hW2
  have hlt : ∀ x ∈ p0 ++ p1 ++ p2 ++ p3 ++ p4 ++ p5, x.block < W.heap.size := fun x hx => by simpa using hW2.lt x (by simpa using hx)
  refine (walk W a0 b0 c0 e0 t1 o1 c1 k1 o2 l2 k2 o3 l3 k3 a4 a5 m1 w1 m2 w2 m3 w3 w4 w5 (of_laid8 hL)).mono fun e W2 ⟨he, hnx⟩ => ?_
  subst he
  exact ⟨_, rfl, _, _, _, [], _, [], hW2, trodAll_mk1 (shut_bool Tryz.underlying4 _), (trodAll_cons_mk (Below.trod laidOut (by kernel_rfl) (of_decide_eq_true (by kernel_rfl)) h0 hnx (fun x hx => hlt x (by simp only [List.mem_append]; simp [hx]))) (trodAll_cons_mk (Below.trod laidOut (by kernel_rfl) (of_decide_eq_true (by kernel_rfl)) h1 hnx (fun x hx => hlt x (by simp only [List.mem_append]; simp [hx]))) (trodAll_cons_mk (Below.trod laidOut (by kernel_rfl) (of_decide_eq_true (by kernel_rfl)) h2 hnx (fun x hx => hlt x (by simp only [List.mem_append]; simp [hx]))) (trodAll_cons_mk (Below.trod laidOut (by kernel_rfl) (of_decide_eq_true (by kernel_rfl)) h3 hnx (fun x hx => hlt x (by simp only [List.mem_append]; simp [hx]))) (trodAll_cons_mk (Below.trod laidOut (by kernel_rfl) (of_decide_eq_true (by kernel_rfl)) h4 hnx (fun x hx => hlt x (by simp only [List.mem_append]; simp [hx]))) (trodAll_cons_mk (Below.trod laidOut (by kernel_rfl) (of_decide_eq_true (by kernel_rfl)) h5 hnx (fun x hx => hlt x (by simp only [List.mem_append]; simp [hx]))) trodAll_mk0)))))), rfl, hnx.frame _, fun h => by cases h⟩

theorem over : Rows.AloneFrameSaid :=
  OpenClaim.holds_of_wide 5 Tryz.f5 rfl rfl rfl rfl rfl rfl rfl ⟨rfl, rfl, rfl, rfl, rfl⟩ rfl rfl rfl rfl rfl (by kernel_rfl) Tryz.func5 (by kernel_rfl)
    (of_decide_eq_true (by kernel_rfl)) (by unfold Func.isWrapper; first | (rw [if_pos (by decide +kernel)]; kernel_rfl) | (rw [if_neg (by decide +kernel)]; exact ⟨rfl, rfl⟩))
    (fun os started H enc _ => lifted os started H enc)

/-- the card -/
theorem proved : Rows.AloneFrameCardSaid :=
  Claim7.holds_tied_plain_at .later [] [.data] true Rows.aloneFrameCard.stood.harness true
    over (fun _ h => by cases h) (by kernel_rfl) (fun _ h => by cases h) aloneFrame_row_tie rfl ⟨rfl, rfl⟩ (by kernel_rfl) rfl
    (fun f fn hf hfn => by
      obtain rfl : f = 5 := Option.some.inj ((show Tryz.prog.funcNamed Rows.aloneFrameRow.func = some 5 by kernel_rfl).symm.trans hf) |>.symm
      obtain rfl : fn = Tryz.f5 := (Option.some.inj (Tryz.func5.symm.trans hfn)).symm
      exact ⟨by kernel_rfl, fun j t ht => by
        rw [Tryz.params5] at ht
        have hm : t ∈ [23, 49, 26, 26, 3, 50] := by simpa using Array.mem_of_getElem? ht
        have hall : ([23, 49, 26, 26, 3, 50].all fun u => !Tryz.prog.wantsStandIn u) = true := by kernel_rfl
        exact (show Tryz.prog.wantsStandIn t = false by simpa using List.all_eq_true.1 hall t hm)⟩)
    (by kernel_rfl)
end Go.Proofs.YtmlklnimkgnbkaaGreatDoor.aloneFrame
