/- the steps and P9.1, WriterAlone: an updater whose turn it is comes to what its program comes to alone over the numbers that the cells have now, and leaves what that leaves. -/
import Derived.Test.YteinilmecnlanaaGreatDoorJA1
import Derived.Test.YteinilmecnlanaaGreatDoorCards
import Derived.Test.YteinilmecnlanaaGreatDoorJA5
namespace Go.Proofs.YteinilmecnlanaaGreatDoor.writerAlone
open Go.ChangeShapes Go.WideShapes Go.ChangeAt Go.RowKit Num
open Go.ChangeMaps (open_string shut_string)

theorem walk (W : World) (a0 : Int) (b0 : Int) (c0 : Int) (e0 : Int) (th0 : Int) (t0 : Int) (ao0 : Option Addr) (cs0 : List Ins) (ca0 : Nat) (po0 : Option Addr) (l0 : List Nat) (co0 : Nat) (pw0 : Option Addr) (lw0 : List Int) (cw0 : Nat) (pp0 : Option Addr) (lp0 : List (Int × Int)) (cp0 : Nat) (sp0 : Int) (w0 : Ww.RideIn W a0 b0 c0 e0 th0 t0 ao0 cs0 ca0 po0 l0 co0 pw0 lw0 cw0 pp0 lp0 cp0) (hS : Shaped5 W) : Calls Tryz.prog 8 #[.agg (Ww.rideV a0 b0 c0 e0 th0 t0 ao0 cs0.length ca0 po0 l0.length co0 pw0 lw0.length cw0 pp0 lp0.length cp0 sp0)] W fun e w' => e = .returned (.bool true) ∧ Below W.heap.size W w' := Ww.alones (w0.all hS)

set_option maxRecDepth 100000 in
theorem lifted (os : Os) (started : os.Started) (H : Type) (enc : TypeId × Value → H) :
    ReturnsInHanded {} Tryz.checked os 8 .any (fun w args => (Rows.writerAloneSpec.pre enc Tryz.prog Tryz.f8 [] false w args ∧ laidMetH Tryz.prog laid8 w) ∧ sizedMet enc Tryz.prog Tryz.f8 (OpenSpec.ofChange Rows.writerAloneSpec) false w args)
      (Rows.writerAloneSpec.post enc Tryz.prog Tryz.f8 false true false false) := by
  refine wrap5 (C := Tryz.checked) (X := fun w _ => laidMetH Tryz.prog laid8 w) (fun _ _ _ hh h => h.of_heap hh) ownK started (by kernel_rfl) Tryz.func8
    (ChangeSpec.witness_shaped (enc := enc) (C := Tryz.checked) (os := os) (X := fun w _ => laidMetH Tryz.prog laid8 w) false (World.doorLaid Tryz.prog 400 os) #[.agg #[.int .i64 0, .int .i64 0, .int .i64 0, .int .i64 0, .int .i64 0, .int .i64 0, .slice none 0 0, .slice none 0 0, .slice none 0 0, .slice none 0 0, .int .i64 0]] 8 rfl (World.shaped_of_RefB (by kernel_rfl) (by kernel_rfl)) (by kernel_rfl) (by kernel_rfl) (by kernel_rfl) (door_met os _)) ?_
  intro W base args ds gs before hval0 hW hsz0 hL hsh
  have hval : ∀ (j : Nat) t v, Tryz.f8.params[j]? = some t → args[j]? = some v → Value.okWide Tryz.prog W .any base t v := hval0
  have hsz : (DataW.weightsEach Tryz.prog (Tryz.f8.params.toList ++ Rows.writerAloneSpec.plain.varTypes Tryz.prog) (ds ++ gs)).all (· ≤ reachBytes) = true := hsz0
  clear hsz0
  have hW2 := hW
  obtain ⟨p, q, hA0, hV, rfl, hfz, hnd⟩ := hW
  have hA : DataW.TrodAll enc Tryz.prog W 0 (fun _ => true) true Tryz.f8.params.toList args.toList ds p := hA0
  rw [Tryz.params8] at hA hval hsz
  obtain ⟨v0, vs0, d0, ds0, p0, q0, hargs, rfl, rfl, h0, r0⟩ := trodAll_cons hA
  obtain ⟨rfl, rfl, rfl⟩ := trodAll_nil r0
  obtain rfl : args = #[v0] := by cases args; simp_all
  obtain ⟨rfl, rfl⟩ := trodVars_none hV
  obtain ⟨a0, b0, c0, e0, th0, t0, ao0, cs0, ca0, po0, l0, co0, pw0, lw0, cw0, pp0, lp0, cp0, sp0, rfl, w0⟩ := Ww.open_ride (hval 0 31 v0 rfl rfl) h0 hsz (j := 0) rfl rfl
  clear hA0 hval0
  simp only [List.append_nil] at hW2
  have hlt : ∀ x ∈ p0, x.block < W.heap.size := fun x hx => by simpa using hW2.lt x (by simpa using hx)
  refine (walk W a0 b0 c0 e0 th0 t0 ao0 cs0 ca0 po0 l0 co0 pw0 lw0 cw0 pp0 lp0 cp0 sp0 w0 (of_laid8 hL)).mono fun e W2 ⟨he, hnx⟩ => ?_
  subst he
  exact ⟨_, rfl, _, _, _, [], _, [], hW2, trodAll_mk1 (shut_bool Tryz.underlying4 _), (trodAll_cons_mk (Below.trod laidOut (by kernel_rfl) (of_decide_eq_true (by kernel_rfl)) h0 hnx (fun x hx => hlt x (hx))) trodAll_mk0), rfl, hnx.frame _, fun h => by cases h⟩

theorem over : Rows.WriterAloneSaid :=
  OpenClaim.holds_of_wide 8 Tryz.f8 rfl rfl rfl rfl rfl rfl rfl ⟨rfl, rfl, rfl, rfl, rfl⟩ rfl rfl rfl rfl rfl (by kernel_rfl) Tryz.func8 (by kernel_rfl)
    (of_decide_eq_true (by kernel_rfl)) (by unfold Func.isWrapper; first | (rw [if_pos (by decide +kernel)]; kernel_rfl) | (rw [if_neg (by decide +kernel)]; exact ⟨rfl, rfl⟩))
    (fun os started H enc _ => lifted os started H enc)

/-- the card -/
theorem proved : Rows.WriterAloneCardSaid :=
  Claim7.holds_tied_plain_at .later [] [.data] true Rows.writerAloneCard.stood.harness true
    over (fun _ h => by cases h) (by kernel_rfl) (fun _ h => by cases h) writerAlone_row_tie rfl ⟨rfl, rfl⟩ (by kernel_rfl) rfl
    (fun f fn hf hfn => by
      obtain rfl : f = 8 := Option.some.inj ((show Tryz.prog.funcNamed Rows.writerAloneRow.func = some 8 by kernel_rfl).symm.trans hf) |>.symm
      obtain rfl : fn = Tryz.f8 := (Option.some.inj (Tryz.func8.symm.trans hfn)).symm
      exact ⟨by kernel_rfl, fun j t ht => by
        rw [Tryz.params8] at ht
        have hm : t ∈ [31] := by simpa using Array.mem_of_getElem? ht
        have hall : ([31].all fun u => !Tryz.prog.wantsStandIn u) = true := by kernel_rfl
        exact (show Tryz.prog.wantsStandIn t = false by simpa using List.all_eq_true.1 hall t hm)⟩)
    (by kernel_rfl)
end Go.Proofs.YteinilmecnlanaaGreatDoor.writerAlone
