/- For every triple and every stamp the statement CellsAts answers true: what the program says of a triple at a stamp is the document's answer. No condition. -/
import Derived.Test.YtmmijcmlnhmooaaEO
namespace Go.Proofs.Ytmmijcmlnhmooaa.cellsAts
open Go.ChangeShapes Go.WideShapes Go.ChangeAt Go.RowKit

set_option maxHeartbeats 1000000 in
set_option maxRecDepth 100000 in
theorem walk (a b c s : Int) (_w : (Lit.int .u64 s).wf = true) (W : World) : Calls Try.prog 5 #[.agg #[.int .u64 a, .int .u64 b, .int .u64 c], .int .u64 s] W fun r W2 => r = .returned (.bool true) ∧ Below W.heap.size W W2 := by
  have HLV := Lib.hid live_any
  have HRA := Lib.hid (refAt_any a b c s)
  have HCA := Lib.hid (cat_any a b c s)
  generalize atV a b c s = x at HRA HCA
  unfold tripV at HRA HCA
  have HBX : Hid (∀ u, Below (W.alloc (.cells #[.int .u64 a, .int .u64 b, .int .u64 c] 24)).heap.size (W.alloc (.cells #[.int .u64 a, .int .u64 b, .int .u64 c] 24)) u → ((u.cell? ⟨W.heap.size, 0, none⟩ = some (.int .u64 a) ∧ u.cell? ⟨W.heap.size, 1, none⟩ = some (.int .u64 b) ∧ u.cell? ⟨W.heap.size, 2, none⟩ = some (.int .u64 c) ∧ W.heap.size < u.heap.size)) ∧ Hid (Below W.heap.size W u)) := fun u k => ⟨(box3 ((k.block _ (by simp)).trans (alloc_at rfl))).1, below_step (bl_alloc (Below.refl _ _) _) k⟩
  clear _w
  go_enter Try.func5, Try.ntmps5
  go_wp2_with (first
    | (go_at_call 11; refine (HLV.out _).mono ?_; rintro e w1 ⟨rfl, hb⟩; obtain ⟨⟨q0, q1, q2, q3⟩, _⟩ := HBX.out _ hb; have HB1 := Lib.hid hb; clear hb)
    | (go_at_call 20; refine (HRA.out _).mono ?_; rintro e w2 ⟨rfl, hb⟩; obtain ⟨⟨r0, r1, r2, r3⟩, _⟩ := HBX.out _ (below_step HB1.out hb); have HB2 := Lib.hid (below_step HB1.out hb); clear hb HB1)
    | (go_at_call 22; refine (HCA.out _).mono ?_; rintro e w3 ⟨rfl, hb⟩; have HB3 := Lib.hid (below_step HB2.out hb); clear hb HB2)
    | (go_at_call 21; refine (exact_any _ _ _).mono ?_; rintro e w4 ⟨rfl, hw⟩; subst w4))
  go_ret
  exact ⟨by simp, (HBX.out _ HB3.out).2.out⟩

set_option maxRecDepth 100000 in
theorem lifted (os : Os) (started : os.Started) (H : Type) (enc : TypeId × Value → H) :
    ReturnsInHanded {} Try.checked os 5 .any (Rows.cellsAtsSpec.pre6 enc Try.prog Try.f5 Rows.cellsAtsRow.domain false) (Rows.cellsAtsSpec.post enc Try.prog Try.f5 false true false false) := by
  refine returnsInHanded_of_change (C := Try.checked) ownK started (by kernel_rfl) Try.func5
    (ChangeSpec.witness6 (enc := enc) (C := Try.checked) false ⟨#[], #[.agg #[.int .u64 0, .int .u64 0, .int .u64 0], .int .u64 0], []⟩ 8 (by kernel_rfl) (by kernel_rfl) (by kernel_rfl) (by kernel_rfl)) ?_
  intro W base args ds gs before hval0 hW _ _
  have hval : ∀ (j : Nat) t v, Try.f5.params[j]? = some t → args[j]? = some v → Value.okWide Try.prog W .any base t v := hval0
  have hW2 := hW
  obtain ⟨p, q, hA0, hV, rfl, _, _⟩ := hW
  have hA : DataW.TrodAll enc Try.prog W 0 (fun _ => true) true Try.f5.params.toList args.toList ds p := hA0
  rw [Try.params5] at hA hval
  obtain ⟨v0, vs0, d0, ds0, p0, q0, hargs, rfl, rfl, h0, r0⟩ := trodAll_cons hA
  obtain ⟨v1, vs1, d1, ds1, p1, q1, rfl, rfl, rfl, h1, r1⟩ := trodAll_cons r0
  obtain ⟨rfl, rfl, rfl⟩ := trodAll_nil r1
  obtain rfl : args = #[v0, v1] := by cases args; simp_all
  obtain ⟨rfl, rfl⟩ := trodVars_none hV
  obtain ⟨a0, b0, c0, rfl⟩ := open_trip (hval 0 24 v0 rfl rfl) h0
  obtain ⟨a1, rfl, rfl, rfl, w1⟩ := open_int Try.underlying22 (hval 1 22 v1 rfl rfl) h1
  clear hA0 hval0
  simp only [List.append_nil] at hW2
  have hlt : ∀ x ∈ p0, x.block < W.heap.size := fun x hx => by simpa using hW2.lt x (by simpa using hx)
  refine (walk a0 b0 c0 a1 w1 W).mono fun e W2 ⟨he, hnx⟩ => ?_
  subst he
  exact ⟨_, rfl, _, _, _, [], _, [], hW2, trodAll_mk1 (shut_bool Try.underlying4 _), (trodAll_cons_mk (Below.trod laidOut (by kernel_rfl) (of_decide_eq_true (by kernel_rfl)) h0 hnx (fun x hx => hlt x (by first | simpa using hx | (simp at hx ⊢; simp [hx])))) (trodAll_cons_mk (shut_int Try.underlying22 w1) trodAll_mk0)), rfl, hnx.frame _, fun h => by cases h⟩

/-- the statement -/
theorem proved : Rows.CellsAtsSaid :=
  OpenClaim.holds_of_wide 5 Try.f5 rfl rfl rfl rfl rfl rfl rfl ⟨rfl, rfl, rfl, rfl, rfl⟩ rfl rfl rfl rfl rfl (by kernel_rfl) Try.func5 (by kernel_rfl)
    (of_decide_eq_true (by kernel_rfl)) (by unfold Func.isWrapper; first | (rw [if_pos (by decide +kernel)]; kernel_rfl) | (rw [if_neg (by decide +kernel)]; exact ⟨rfl, rfl⟩))
    (fun os started H enc _ => lifted os started H enc)
end Go.Proofs.Ytmmijcmlnhmooaa.cellsAts
