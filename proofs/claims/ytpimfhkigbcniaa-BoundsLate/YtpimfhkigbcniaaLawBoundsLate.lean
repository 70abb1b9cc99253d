/- For every config and every list of deeds the statement BoundsLate answers true: the program's Late and the document's answer agree, the place and the error. No condition. -/
import Derived.Test.YtpimfhkigbcniaaWO
import Derived.Test.YtpimfhkigbcniaaW8
namespace Go.Proofs.Ytpimfhkigbcniaa.boundsLate
open Go.ChangeShapes Go.WideShapes Go.ChangeAt Go.RowKit

open Bo Md
set_option maxHeartbeats 2000000 in
set_option maxRecDepth 100000 in
theorem walk (a b c e : Int) (o : Option Addr) (l cc : Nat) (D : List Dn) (hm : l ≤ maxLen) (W : World) (hW : DeedsAt W o l cc D) : Calls Try.prog 5 #[.agg #[.int .i64 a, .int .i64 b, .int .i64 c, .int .i64 e], .slice o l cc] W fun r W2 => r = .returned (.bool true) ∧ Below W.heap.size W W2 := by
  have hl : D.length ≤ 9223372036854775807 := by
    rw [← hW.2]
    exact Nat.le_trans hm (by decide)
  obtain ⟨V, k, h1, h2⟩ := late_both a b c e o l cc W D hW.2 hl hW.1
  have H1 := Lib.hid h1
  have H2 := Lib.hid h2
  clear h1 h2 hW hl hm
  go_enter Try.func5, Try.ntmps5
  go_wp2_with (first
    | (go_at_call 6; refine (live18_any _).mono ?_; rintro r w1 ⟨rfl, hb⟩; have HB1 := Lib.hid (below_chain ((Below.refl _ W).alloc (Nat.le_refl _) _) hb); have HX1 := Lib.hid (bcells4 hb (heap_alloc_new W _)); obtain ⟨q0, q1, q2, q3, q4⟩ := cells4 HX1.out; clear hb)
    | (go_at_call 11; refine (H1.out _ HB1.out).mono ?_; rintro r w2 ⟨rfl, hb⟩; have HB2 := Lib.hid (below_chain HB1.out hb); have HX2 := Lib.hid (bcells4 hb HX1.out); obtain ⟨s0, s1, s2, s3, s4⟩ := cells4 HX2.out; clear hb q0 q1 q2 q3)
    | (go_at_call 12; refine (H2.out _ HB2.out).mono ?_; rintro r w3 ⟨rfl, hb⟩; have HB3 := Lib.hid (below_chain HB2.out hb); clear hb s0 s1 s2 s3))
  go_ret
  exact ⟨rfl, HB3.out⟩

set_option maxRecDepth 100000 in
theorem lifted (os : Os) (started : os.Started) (H : Type) (enc : TypeId × Value → H) :
    ReturnsInHanded {} Try.checked os 5 .any (Rows.boundsLateSpec.pre6 enc Try.prog Try.f5 Rows.boundsLateRow.domain false) (Rows.boundsLateSpec.post enc Try.prog Try.f5 false true false false) := by
  refine returnsInHanded_of_change (C := Try.checked) ownK started (by kernel_rfl) Try.func5
    (ChangeSpec.witness6 (enc := enc) (C := Try.checked) false ⟨#[], #[.agg #[.int .i64 0, .int .i64 0, .int .i64 0, .int .i64 0], .slice none 0 0], []⟩ 8 (by kernel_rfl) (by kernel_rfl) (by kernel_rfl) (by kernel_rfl)) ?_
  intro W base args ds gs before hval0 hW _ _
  have hval : ∀ (j : Nat) t v, Try.f5.params[j]? = some t → args[j]? = some v → Value.okWide Try.prog W .any base t v := hval0
  have hW2 := hW
  obtain ⟨p, q, hA0, hV, rfl, _, _⟩ := hW
  have hA : DataW.TrodAll enc Try.prog W 0 (fun _ => true) true Try.f5.params.toList args.toList ds p := hA0
  rw [Try.params5] at hA hval
  obtain ⟨v0, vs0, d0, ds0, p0, q0, hargs, rfl, rfl, h0, r0⟩ := trodAll_cons hA
  obtain ⟨v1, vs1, d1, ds1, p1, q1, rfl, rfl, rfl, h1, r1⟩ := trodAll_cons r0
  obtain ⟨rfl, rfl, rfl⟩ := trodAll_nil r1
  obtain rfl : args = #[v0, v1] := by cases args; simp_all
  obtain ⟨rfl, rfl⟩ := trodVars_none hV
  obtain ⟨a0, b0, c0, e0, rfl⟩ := open_cfg (hval 0 23 v0 rfl rfl) h0
  obtain ⟨o1, l1, c1, D1, rfl, fm1, fW1⟩ := open_deeds (hval 1 30 v1 rfl rfl) h1
  clear hA0 hval0
  simp only [List.append_nil] at hW2
  have hlt : ∀ x ∈ p0 ++ p1, x.block < W.heap.size := fun x hx => by simpa using hW2.lt x (by simpa using hx)
  refine (walk a0 b0 c0 e0 o1 l1 c1 D1 fm1 W fW1).mono fun e W2 ⟨he, hnx⟩ => ?_
  subst he
  exact ⟨_, rfl, _, _, _, [], _, [], hW2, trodAll_mk1 (shut_bool Try.underlying4 _), (trodAll_cons_mk (Below.trod laidOut (by kernel_rfl) (of_decide_eq_true (by kernel_rfl)) h0 hnx (fun x hx => hlt x (by first | simpa using hx | (simp at hx ⊢; simp [hx])))) (trodAll_cons_mk (Below.trod laidOut (by kernel_rfl) (of_decide_eq_true (by kernel_rfl)) h1 hnx (fun x hx => hlt x (by first | simpa using hx | (simp at hx ⊢; simp [hx])))) trodAll_mk0)), rfl, hnx.frame _, fun h => by cases h⟩

/-- the statement -/
theorem proved : Rows.BoundsLateSaid :=
  OpenClaim.holds_of_wide 5 Try.f5 rfl rfl rfl rfl rfl rfl rfl ⟨rfl, rfl, rfl, rfl, rfl⟩ rfl rfl rfl rfl rfl (by kernel_rfl) Try.func5 (by kernel_rfl)
    (of_decide_eq_true (by kernel_rfl)) (by unfold Func.isWrapper; first | (rw [if_pos (by decide +kernel)]; kernel_rfl) | (rw [if_neg (by decide +kernel)]; exact ⟨rfl, rfl⟩))
    (fun os started H enc _ => lifted os started H enc)
end Go.Proofs.Ytpimfhkigbcniaa.boundsLate
