/- For every config the statement MemPlaces answers true: the program's Place and the document's answer agree, the plan and the error, and the few calls of live answer as the document fixes them. No condition. -/
import Derived.Test.YtbeijepdklchaaaM8
import Derived.Test.YtbeijepdklchaaaM9
namespace Go.Proofs.Ytbeijepdklchaaa.memPlaces
open Go.ChangeShapes Go.WideShapes Go.ChangeAt Go.RowKit

set_option maxHeartbeats 2000000 in
set_option maxRecDepth 100000 in
theorem walk (a b c e : Int) (W : World) : Calls Try.prog 5 #[.agg #[.int .i64 a, .int .i64 b, .int .i64 c, .int .i64 e]] W fun r W2 => r = .returned (.bool true) ∧ Below W.heap.size W W2 := by
  have hpl := plan_eq
  cases hc : cfgB a b c e
  · have HP := fun W => place_any a b c e W
    have HR := fun W => refPlace_any a b c e W
    rw [hc, if_neg Bool.false_ne_true] at HP HR
    replace HP := Lib.hid HP
    replace HR := Lib.hid HR
    clear hc
    go_enter Try.func5, Try.ntmps5
    go_wp2_with (first
      | (go_at_call 11; refine (live_any _).mono ?_; rintro r w1 ⟨rfl, hb⟩; have HB1 := Lib.hid hb; have hx := (hb.block W.heap.size (by simp)).trans (heap_alloc_new W _); have HX1 := Lib.hid hx; obtain ⟨q0, q1, q2, q3, q4⟩ := cells4 hx; clear hb hx)
      | (go_at_call 22; refine (HP.out _).mono ?_; rintro r w2 ⟨rfl, hb⟩; have HB2 := Lib.hid hb; have hx := (hb.block W.heap.size q4).trans HX1.out; obtain ⟨s0, s1, s2, s3, s4⟩ := cells4 hx; clear hb hx q0 q1 q2 q3)
      | (go_at_call 23; refine (HR.out _).mono ?_; rintro r w3 ⟨rfl, hb⟩; have HB3 := Lib.hid hb; have hx := (hb.block w2.heap.size (by simp)).trans (heap_alloc_new w2 _); obtain ⟨t0, t1, t2, t3, t4, t5, t6⟩ := cells6 hx; clear hb hx s0 s1 s2 s3))
    go_ret
    exact ⟨rfl, ((below_chain (below_chain (((Below.refl _ _).alloc (Nat.le_refl _) _)) HB1.out) HB2.out |>.alloc (by have := q4; have := s4; omega) _).trans (HB3.out.mono (by have := s4; simp; omega))).alloc (by have := s4; omega) _⟩
  · have HP := fun W => place_any a b c e W
    have HR := fun W => refPlace_any a b c e W
    rw [hc, if_pos rfl] at HP HR
    replace HP := Lib.hid HP
    replace HR := Lib.hid HR
    clear hc
    go_enter Try.func5, Try.ntmps5
    go_wp2_with (first
      | (go_at_call 11; refine (live_any _).mono ?_; rintro r w1 ⟨rfl, hb⟩; have HB1 := Lib.hid hb; have hx := (hb.block W.heap.size (by simp)).trans (heap_alloc_new W _); have HX1 := Lib.hid hx; obtain ⟨q0, q1, q2, q3, q4⟩ := cells4 hx; clear hb hx)
      | (go_at_call 22; refine (HP.out _).mono ?_; rintro r w2 ⟨rfl, hb⟩; have HB2 := Lib.hid hb; have hx := (hb.block W.heap.size q4).trans HX1.out; obtain ⟨s0, s1, s2, s3, s4⟩ := cells4 hx; clear hb hx q0 q1 q2 q3)
      | (go_at_call 23; refine (HR.out _).mono ?_; rintro r w3 ⟨rfl, hb⟩; have HB3 := Lib.hid hb; have hx := (hb.block w2.heap.size (by simp)).trans (heap_alloc_new w2 _); obtain ⟨t0, t1, t2, t3, t4, t5, t6⟩ := cells6 hx; clear hb hx s0 s1 s2 s3))
    go_ret
    exact ⟨rfl, ((below_chain (below_chain (((Below.refl _ _).alloc (Nat.le_refl _) _)) HB1.out) HB2.out |>.alloc (by have := q4; have := s4; omega) _).trans (HB3.out.mono (by have := s4; simp; omega))).alloc (by have := s4; omega) _⟩

set_option maxRecDepth 100000 in
theorem lifted (os : Os) (started : os.Started) (H : Type) (enc : TypeId × Value → H) :
    ReturnsInHanded {} Try.checked os 5 .any (Rows.memPlacesSpec.pre6 enc Try.prog Try.f5 Rows.memPlacesRow.domain false) (Rows.memPlacesSpec.post enc Try.prog Try.f5 false true false false) := by
  refine returnsInHanded_of_change (C := Try.checked) ownK started (by kernel_rfl) Try.func5
    (ChangeSpec.witness6 (enc := enc) (C := Try.checked) false ⟨#[], #[.agg #[.int .i64 0, .int .i64 0, .int .i64 0, .int .i64 0]], []⟩ 8 (by kernel_rfl) (by kernel_rfl) (by kernel_rfl) (by kernel_rfl)) ?_
  intro W base args ds gs before hval0 hW _ _
  have hval : ∀ (j : Nat) t v, Try.f5.params[j]? = some t → args[j]? = some v → Value.okWide Try.prog W .any base t v := hval0
  have hW2 := hW
  obtain ⟨p, q, hA0, hV, rfl, _, _⟩ := hW
  have hA : DataW.TrodAll enc Try.prog W 0 (fun _ => true) true Try.f5.params.toList args.toList ds p := hA0
  rw [Try.params5] at hA hval
  obtain ⟨v0, vs0, d0, ds0, p0, q0, hargs, rfl, rfl, h0, r0⟩ := trodAll_cons hA
  obtain ⟨rfl, rfl, rfl⟩ := trodAll_nil r0
  obtain rfl : args = #[v0] := by cases args; simp_all
  obtain ⟨rfl, rfl⟩ := trodVars_none hV
  obtain ⟨a0, b0, c0, e0, rfl⟩ := open_cfg (hval 0 43 v0 rfl rfl) h0
  clear hA0 hval0
  simp only [List.append_nil] at hW2
  have hlt : ∀ x ∈ p0, x.block < W.heap.size := fun x hx => by simpa using hW2.lt x (by simpa using hx)
  refine (walk a0 b0 c0 e0 W).mono fun e W2 ⟨he, hnx⟩ => ?_
  subst he
  exact ⟨_, rfl, _, _, _, [], _, [], hW2, trodAll_mk1 (shut_bool Try.underlying4 _), (trodAll_cons_mk (Below.trod laidOut (by kernel_rfl) (of_decide_eq_true (by kernel_rfl)) h0 hnx (fun x hx => hlt x (by simpa using hx))) trodAll_mk0), rfl, hnx.frame _, fun h => by cases h⟩

/-- the statement -/
theorem proved : Rows.MemPlacesSaid :=
  OpenClaim.holds_of_wide 5 Try.f5 rfl rfl rfl rfl rfl rfl rfl ⟨rfl, rfl, rfl, rfl, rfl⟩ rfl rfl rfl rfl rfl (by kernel_rfl) Try.func5 (by kernel_rfl)
    (of_decide_eq_true (by kernel_rfl)) (by unfold Func.isWrapper; first | (rw [if_pos (by decide +kernel)]; kernel_rfl) | (rw [if_neg (by decide +kernel)]; exact ⟨rfl, rfl⟩))
    (fun os started H enc _ => lifted os started H enc)
end Go.Proofs.Ytbeijepdklchaaa.memPlaces
