/- P16.2, EngineIdle: for every setup, script and number the statement answers true: steps of threads that have finished, or that are none, may stand anywhere in a script: nothing hangs on them. Condition: the listed variable of the program (code.shapes) holds what its own text lays (the card ties it). -/
import Derived.Test.YtlkldgopliablaaGreatDoorJI2
import Derived.Test.YtlkldgopliablaaGreatDoorCards
import Derived.Test.YtlkldgopliablaaGreatDoorJI6
namespace Go.Proofs.YtlkldgopliablaaGreatDoor.engineIdle
open Go.ChangeShapes Go.WideShapes Go.ChangeAt Go.RowKit Num
open Go.ChangeMaps (open_string shut_string)

theorem walk (W : World) (s0 : En.Su) (sp0 : En.Sp) (o1 : Option Addr) (n1 k1 : Nat) (x1 : Nat -> Int) (a2 : Int) (m0 : En.SuAt W s0 sp0) (z0 : En.SuSz s0) (m1 : n1 <= maxLen) (w1 : Sd.IntsAt W o1 n1 x1) (_ : En.Pln o1 n1 k1) (w2 : (Lit.int .i64 a2).wf = true) (hS : Shaped5 W) : Calls Tryz.prog 6 #[.agg (En.suC s0 sp0), .slice o1 n1 k1, .int .i64 a2] W fun e w' => e = .returned (.bool true) /\ Below W.heap.size W w' := En.idle_any hS m0 z0 w1 m1 (En.i64_of w2)

set_option maxRecDepth 100000 in
theorem lifted (os : Os) (started : os.Started) (H : Type) (enc : TypeId × Value -> H) :
    ReturnsInHanded {} Tryz.checked os 6 .any (fun w args => (Rows.engineIdleSpec.pre enc Tryz.prog Tryz.f6 [] false w args /\ laidMetH Tryz.prog aK5 w) /\ sizedMet enc Tryz.prog Tryz.f6 (OpenSpec.ofChange Rows.engineIdleSpec) false w args)
      (Rows.engineIdleSpec.post enc Tryz.prog Tryz.f6 false true false false) := by
  refine bN6 (C := Tryz.checked) (X := fun w _ => laidMetH Tryz.prog aK5 w) (fun _ _ _ hh h => h.of_heap hh) ownK started (by kernel_rfl) Tryz.func6
    (ChangeSpec.witness_shaped (enc := enc) (C := Tryz.checked) (os := os) (X := fun w _ => laidMetH Tryz.prog aK5 w) false (World.doorLaid Tryz.prog 400 os) #[.agg #[.int .i64 0, .int .i64 0, .int .i64 0, .int .i64 0, .slice none 0 0, .slice none 0 0, .slice none 0 0], .slice none 0 0, .int .i64 0] 8 rfl (World.shaped_of_RefB (by kernel_rfl) (by kernel_rfl)) (by kernel_rfl) (by kernel_rfl) (by kernel_rfl) (bc3 os _)) ?_
  intro W base args ds gs before hval0 hW hsz0 hL hsh
  have hval : ∀ (j : Nat) t v, Tryz.f6.params[j]? = some t -> args[j]? = some v -> Value.okWide Tryz.prog W .any base t v := hval0
  have hsz : (DataW.weightsEach Tryz.prog (Tryz.f6.params.toList ++ Rows.engineIdleSpec.plain.varTypes Tryz.prog) (ds ++ gs)).all (· <= reachBytes) = true := hsz0
  clear hsz0
  have hW2 := hW
  obtain ⟨p, q, hA0, hV, rfl, hfz, hnd⟩ := hW
  have hA : DataW.TrodAll enc Tryz.prog W 0 (fun _ => true) true Tryz.f6.params.toList args.toList ds p := hA0
  rw [Tryz.params6] at hA hval hsz
  obtain ⟨v0, vs0, d0, ds0, p0, q0, hargs, rfl, rfl, h0, r0⟩ := trodAll_cons hA
  obtain ⟨v1, vs1, d1, ds1, p1, q1, rfl, rfl, rfl, h1, r1⟩ := trodAll_cons r0
  obtain ⟨v2, vs2, d2, ds2, p2, q2, rfl, rfl, rfl, h2, r2⟩ := trodAll_cons r1
  obtain ⟨rfl, rfl, rfl⟩ := trodAll_nil r2
  obtain rfl : args = #[v0, v1, v2] := by cases args; simp_all
  obtain ⟨rfl, rfl⟩ := trodVars_none hV
  obtain ⟨s0, sp0, rfl, m0, z0⟩ := En.open_setup (hval 0 28 v0 rfl rfl) h0 hsz (j := 0) rfl rfl
  obtain ⟨o1, n1, k1, x1, rfl, m1, w1, z1⟩ := En.open_ints (hval 1 36 v1 rfl rfl) h1
  obtain ⟨a2, rfl, w2⟩ := bh4 (hval 2 3 v2 rfl rfl) h2
  clear hA0 hval0
  simp only [List.append_nil] at hW2
  have hlt : ∀ x ∈ p0 ++ p1 ++ p2, x.block < W.heap.size := fun x hx => by simpa using hW2.lt x (by simpa using hx)
  refine (walk W s0 sp0 o1 n1 k1 x1 a2 m0 z0 m1 w1 z1 w2 (bh3 hL)).mono fun e W2 ⟨he, hnx⟩ => ?_
  subst he
  exact ⟨_, rfl, _, _, _, [], _, [], hW2, trodAll_mk1 (shut_bool Tryz.underlying4 _), (trodAll_cons_mk (Below.trod aK6 (by kernel_rfl) (of_decide_eq_true (by kernel_rfl)) h0 hnx (fun x hx => hlt x (by simp only [List.mem_append]; simp [hx]))) (trodAll_cons_mk (Below.trod aK6 (by kernel_rfl) (of_decide_eq_true (by kernel_rfl)) h1 hnx (fun x hx => hlt x (by simp only [List.mem_append]; simp [hx]))) (trodAll_cons_mk (Below.trod aK6 (by kernel_rfl) (of_decide_eq_true (by kernel_rfl)) h2 hnx (fun x hx => hlt x (by simp only [List.mem_append]; simp [hx]))) trodAll_mk0))), rfl, hnx.frame _, fun h => by cases h⟩

theorem and2 {a b : Bool} (h : a = true) (k : b = true) : (a && b) = true := by rw [h, k]; rfl
set_option maxRecDepth 100000 in
set_option maxHeartbeats 8000000 in
theorem closed : joinedFacts Tryz.prog 6 Tryz.f6 Rows.engineIdleSpec Rows.engineIdleRow = true := by
  unfold joinedFacts
  iterate 31 (with_reducible refine and2 ?_ ?_; rotate_left; (as_aux_lemma => kernel_rfl))
  as_aux_lemma => kernel_rfl

theorem over : Rows.EngineIdleSaid :=
  OpenClaim.holds_of_wide 6 Tryz.f6 rfl rfl rfl rfl rfl rfl rfl ⟨rfl, rfl, rfl, rfl, rfl⟩ rfl rfl rfl rfl rfl (by kernel_rfl) Tryz.func6 closed
    (of_decide_eq_true (by kernel_rfl)) (by unfold Func.isWrapper; first | (rw [if_pos (by decide +kernel)]; kernel_rfl) | (rw [if_neg (by decide +kernel)]; exact ⟨rfl, rfl⟩))
    (fun os started H enc _ => lifted os started H enc)

/-- the card -/
theorem proved : Rows.EngineIdleCardSaid :=
  Claim7.holds_tied_plain_at .later [] [.data] true Rows.engineIdleCard.stood.harness true
    over (fun _ h => by cases h) (by kernel_rfl) (fun _ h => by cases h) engineIdle_row_tie rfl ⟨rfl, rfl⟩ (by kernel_rfl) rfl
    (fun f fn hf hfn => by
      obtain rfl : f = 6 := Option.some.inj ((show Tryz.prog.funcNamed Rows.engineIdleRow.func = some 6 by kernel_rfl).symm.trans hf) |>.symm
      obtain rfl : fn = Tryz.f6 := (Option.some.inj (Tryz.func6.symm.trans hfn)).symm
      exact ⟨by kernel_rfl, fun j t ht => by
        rw [Tryz.params6] at ht
        have hm : t ∈ [28, 36, 3] := by simpa using Array.mem_of_getElem? ht
        have hall : ([28, 36, 3].all fun u => !Tryz.prog.wantsStandIn u) = true := by kernel_rfl
        exact (show Tryz.prog.wantsStandIn t = false by simpa using List.all_eq_true.1 hall t hm)⟩)
    (by kernel_rfl)
end Go.Proofs.YtlkldgopliablaaGreatDoor.engineIdle
