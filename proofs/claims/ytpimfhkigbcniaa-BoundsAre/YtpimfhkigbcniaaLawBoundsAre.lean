/- For every config the statement BoundsAre answers true: the program's Reader and Writer and the document's answers agree, the numbers and the errors, and the few calls of live answer as the document fixes them. No condition. -/
import Derived.Test.YtpimfhkigbcniaaWO
namespace Go.Proofs.Ytpimfhkigbcniaa.boundsAre
open Go.ChangeShapes Go.WideShapes Go.ChangeAt Go.RowKit

open Bo Md
set_option maxHeartbeats 2000000 in
set_option maxRecDepth 100000 in
theorem walk (a b c e : Int) (W : World) : Calls Try.prog 3 #[.agg #[.int .i64 a, .int .i64 b, .int .i64 c, .int .i64 e]] W fun r W2 => r = .returned (.bool true) ∧ Below W.heap.size W W2 := by
  obtain ⟨x, hx⟩ : ∃ x, x = cfgB a b c e := ⟨_, rfl⟩
  have H : ∃ V1 V2 k : Int, Hid ((∀ w, Calls Try.prog 7 #[cfgV a b c e] w fun r w' => r = .returned (.tuple #[.int .i64 V1, .int .i64 k]) ∧ Below w.heap.size w w') ∧ (∀ w, Calls Try.prog 8 #[cfgV a b c e] w fun r w' => r = .returned (.tuple #[.int .i64 V1, .int .i64 k]) ∧ Below w.heap.size w w') ∧
      (∀ w, Calls Try.prog 9 #[cfgV a b c e] w fun r w' => r = .returned (.tuple #[.int .i64 V2, .int .i64 k]) ∧ Below w.heap.size w w') ∧ (∀ w, Calls Try.prog 10 #[cfgV a b c e] w fun r w' => r = .returned (.tuple #[.int .i64 V2, .int .i64 k]) ∧ Below w.heap.size w w')) := by
    cases x with
    | true => exact ⟨rdN c, wrN b c e, 0, Lib.hid ⟨fun w => reader_yes a b c e w hx.symm, fun w => rreader_yes a b c e w hx.symm, fun w => writer_yes a b c e w hx.symm, fun w => rwriter_yes a b c e w hx.symm⟩⟩
    | false => exact ⟨0, 0, 1, Lib.hid ⟨fun w => reader_no a b c e w hx.symm, fun w => rreader_no a b c e w hx.symm, fun w => writer_no a b c e w hx.symm, fun w => rwriter_no a b c e w hx.symm⟩⟩
  obtain ⟨V1, V2, k, H⟩ := H
  clear hx
  go_enter Try.func3, Try.ntmps3
  go_wp2_with (first
    | (go_at_call 6; refine (live18_any _).mono ?_; rintro r w1 ⟨rfl, hb⟩; have HB1 := Lib.hid hb; have HX1 := Lib.hid (bcells4 hb (heap_alloc_new W _)); obtain ⟨q0, q1, q2, q3, q4⟩ := cells4 HX1.out; clear hb)
    | (go_at_call 7; refine (H.out.1 _).mono ?_; rintro r w2 ⟨rfl, hb⟩; have HB2 := Lib.hid hb; have HX2 := Lib.hid (bcells4 hb HX1.out); obtain ⟨s0, s1, s2, s3, s4⟩ := cells4 HX2.out; clear hb q0 q1 q2 q3)
    | (go_at_call 8; refine (H.out.2.1 _).mono ?_; rintro r w3 ⟨rfl, hb⟩; have HB3 := Lib.hid hb; have HX3 := Lib.hid (bcells4 hb HX2.out); obtain ⟨t0, t1, t2, t3, t4⟩ := cells4 HX3.out; clear hb s0 s1 s2 s3)
    | (go_at_call 9; refine (H.out.2.2.1 _).mono ?_; rintro r w4 ⟨rfl, hb⟩; have HB4 := Lib.hid hb; have HX4 := Lib.hid (bcells4 hb HX3.out); obtain ⟨u0, u1, u2, u3, u4⟩ := cells4 HX4.out; clear hb t0 t1 t2 t3)
    | (go_at_call 10; refine (H.out.2.2.2 _).mono ?_; rintro r w5 ⟨rfl, hb⟩; have HB5 := Lib.hid hb; clear hb u0 u1 u2 u3))
  go_ret
  exact ⟨rfl, below_chain (below_chain (below_chain (below_chain (below_chain ((Below.refl _ W).alloc (Nat.le_refl _) _) HB1.out) HB2.out) HB3.out) HB4.out) HB5.out⟩

set_option maxRecDepth 100000 in
theorem lifted (os : Os) (started : os.Started) (H : Type) (enc : TypeId × Value → H) :
    ReturnsInHanded {} Try.checked os 3 .any (Rows.boundsAreSpec.pre6 enc Try.prog Try.f3 Rows.boundsAreRow.domain false) (Rows.boundsAreSpec.post enc Try.prog Try.f3 false true false false) := by
  refine returnsInHanded_of_change (C := Try.checked) ownK started (by kernel_rfl) Try.func3
    (ChangeSpec.witness6 (enc := enc) (C := Try.checked) false ⟨#[], #[.agg #[.int .i64 0, .int .i64 0, .int .i64 0, .int .i64 0]], []⟩ 8 (by kernel_rfl) (by kernel_rfl) (by kernel_rfl) (by kernel_rfl)) ?_
  intro W base args ds gs before hval0 hW _ _
  have hval : ∀ (j : Nat) t v, Try.f3.params[j]? = some t → args[j]? = some v → Value.okWide Try.prog W .any base t v := hval0
  have hW2 := hW
  obtain ⟨p, q, hA0, hV, rfl, _, _⟩ := hW
  have hA : DataW.TrodAll enc Try.prog W 0 (fun _ => true) true Try.f3.params.toList args.toList ds p := hA0
  rw [Try.params3] at hA hval
  obtain ⟨v0, vs0, d0, ds0, p0, q0, hargs, rfl, rfl, h0, r0⟩ := trodAll_cons hA
  obtain ⟨rfl, rfl, rfl⟩ := trodAll_nil r0
  obtain rfl : args = #[v0] := by cases args; simp_all
  obtain ⟨rfl, rfl⟩ := trodVars_none hV
  obtain ⟨a0, b0, c0, e0, rfl⟩ := open_cfg (hval 0 23 v0 rfl rfl) h0
  clear hA0 hval0
  simp only [List.append_nil] at hW2
  have hlt : ∀ x ∈ p0, x.block < W.heap.size := fun x hx => by simpa using hW2.lt x (by simpa using hx)
  refine (walk a0 b0 c0 e0 W).mono fun e W2 ⟨he, hnx⟩ => ?_
  subst he
  exact ⟨_, rfl, _, _, _, [], _, [], hW2, trodAll_mk1 (shut_bool Try.underlying4 _), (trodAll_cons_mk (Below.trod laidOut (by kernel_rfl) (of_decide_eq_true (by kernel_rfl)) h0 hnx (fun x hx => hlt x (by first | simpa using hx | (simp at hx ⊢; simp [hx])))) trodAll_mk0), rfl, hnx.frame _, fun h => by cases h⟩

/-- the statement -/
theorem proved : Rows.BoundsAreSaid :=
  OpenClaim.holds_of_wide 3 Try.f3 rfl rfl rfl rfl rfl rfl rfl ⟨rfl, rfl, rfl, rfl, rfl⟩ rfl rfl rfl rfl rfl (by kernel_rfl) Try.func3 (by kernel_rfl)
    (of_decide_eq_true (by kernel_rfl)) (by unfold Func.isWrapper; first | (rw [if_pos (by decide +kernel)]; kernel_rfl) | (rw [if_neg (by decide +kernel)]; exact ⟨rfl, rfl⟩))
    (fun os started H enc _ => lifted os started H enc)
end Go.Proofs.Ytpimfhkigbcniaa.boundsAre
