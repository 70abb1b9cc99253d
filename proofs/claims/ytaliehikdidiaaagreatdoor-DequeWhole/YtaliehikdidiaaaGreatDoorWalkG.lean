import Derived.Test.YtaliehikdidiaaaGreatDoorGr
import Derived.Test.YtaliehikdidiaaaGreatDoorWalkB
import Derived.Test.YtaliehikdidiaaaGreatDoorWalkF
import Derived.WalkKit
import Derived.ProofKit
import Derived.OpenShut
import Derived.WalkLawsBesides
import Derived.Laws.EntriesVeiled
namespace Go.Proofs.YtaliehikdidiaaaGreatDoor
open Go.ChangeShapes Go.WideShapes Go.ChangeAt Go.RowKit Num
attribute [local go_sem] frombits_run bits_run

theorem ret_int {k : IntKind} {a b : Int} (h : a = b) : Ending.returned (.int k a) = .returned (.int k b) := by rw [h]
theorem hash_forms (X : Int) (h : 0 ≤ X) : wrap64 (IntKind.u64.wrap (((IntKind.u64.wrap ((X.tmod 4294967296) * 2654435769)).tmod 4294967296).tdiv 65536)) = X % 4294967296 * 2654435769 % 4294967296 / 65536 := by
  rw [IntKind.wrap_u64, IntKind.wrap_u64, Int.tmod_eq_emod_of_nonneg h]
  have e : X % 4294967296 * 2654435769 % 18446744073709551616 = X % 4294967296 * 2654435769 := by omega
  rw [e, Int.tmod_eq_emod_of_nonneg (by omega), Int.tdiv_eq_ediv_of_nonneg (by omega)]
  have e2 : X % 4294967296 * 2654435769 % 4294967296 / 65536 % 18446744073709551616 = X % 4294967296 * 2654435769 % 4294967296 / 65536 := by omega
  rw [e2]
  unfold wrap64
  omega
/-! the document's Index -/
theorem rindex_no (b : Nat) (n : Int) (w : World) (h : FloatKind.f64.format.order b 0 = none ∨ FloatKind.f64.format.order b 0 = some .lt) : Calls Tryz.prog 29 #[.float .f64 b, .int .i64 n] w fun e w' => e = .returned (.tuple #[.int .i64 0, .int .i64 10]) ∧ w' = w := by
  rcases h with o | o
  all_goals
    go_enter Tryz.func29, Tryz.ntmps29
    go_wp2
    go_ret2
    exact ⟨rfl, rfl⟩
theorem rindex_big (b : Nat) (n : Int) (w : World) (o : FloatKind.f64.format.order b 0 = some .gt ∨ FloatKind.f64.format.order b 0 = some .eq) (p : FloatKind.f64.format.order b 4890909195324358656 = some .gt ∨ FloatKind.f64.format.order b 4890909195324358656 = some .eq) : Calls Tryz.prog 29 #[.float .f64 b, .int .i64 n] w fun e w' => e = .returned (.tuple #[.int .i64 0, .int .i64 10]) ∧ w' = w := by
  rcases o with o | o <;> rcases p with p | p
  all_goals
    go_enter Tryz.func29, Tryz.ntmps29
    go_wp2
    go_ret2
    exact ⟨rfl, rfl⟩
theorem rindex_frac (b : Nat) (n : Int) (w : World) (nn : nan b = false) (o : FloatKind.f64.format.order b 0 = some .gt ∨ FloatKind.f64.format.order b 0 = some .eq) (p : FloatKind.f64.format.order b 4890909195324358656 = some .lt)
    (q : (FloatKind.f64.format.order b (floorB b) == some .eq) = false) : Calls Tryz.prog 29 #[.float .f64 b, .int .i64 n] w fun e w' => e = .returned (.tuple #[.int .i64 0, .int .i64 10]) ∧ w' = w := by
  have q' : (FloatKind.f64.format.order b (floorB b) != some .eq) = true := by unfold bne; rw [q]; rfl
  rcases o with o | o
  all_goals
    go_enter Tryz.func29, Tryz.ntmps29
    go_wp2_with (go_at_call 59; refine (mathFloor_num _ _ nn).mono ?_; rintro e w' ⟨rfl, rfl⟩)
    go_ret2
    exact ⟨rfl, rfl⟩
theorem rindex_whole (b t : Nat) (n : Int) (w : World) (nn : nan b = false) (o : FloatKind.f64.format.order b 0 = some .gt ∨ FloatKind.f64.format.order b 0 = some .eq) (p : FloatKind.f64.format.order b 4890909195324358656 = some .lt)
    (u : ∀ w : World, (convert 74 3 (.float .f64 b)).run Tryz.prog w = .ok (.int .i64 t) w) (q : (FloatKind.f64.format.order b (floorB b) == some .eq) = true) : Calls Tryz.prog 29 #[.float .f64 b, .int .i64 n] w fun e w' => e = .returned (.tuple #[.int .i64 (if (t : Int) < n then t else 0), .int .i64 (if (t : Int) < n then 0 else 10)]) ∧ w' = w := by
  have q' : (FloatKind.f64.format.order b (floorB b) != some .eq) = false := by unfold bne; rw [q]; rfl
  by_cases h : (t : Int) < n
  · rw [if_pos h, if_pos h]
    rcases o with o | o
    all_goals
      go_enter Tryz.func29, Tryz.ntmps29
      go_wp2_with (go_at_call 59; refine (mathFloor_num _ _ nn).mono ?_; rintro e w' ⟨rfl, rfl⟩)
      go_ret2
      exact ⟨rfl, rfl⟩
  · rw [if_neg h, if_neg h]
    rcases o with o | o
    all_goals
      go_enter Tryz.func29, Tryz.ntmps29
      go_wp2_with (go_at_call 59; refine (mathFloor_num _ _ nn).mono ?_; rintro e w' ⟨rfl, rfl⟩)
      go_ret2
      exact ⟨rfl, rfl⟩
theorem refIndex_any (b : Nat) (n : Int) (w : World) (hb : b < 18446744073709551616) : Calls Tryz.prog 29 #[.float .f64 b, .int .i64 n] w fun e w' => e = .returned (.tuple #[.int .i64 (idxV b n), .int .i64 (idxE b n)]) ∧ w' = w := by
  rcases ways63 b with ⟨nn, o⟩ | ⟨nn, o, k⟩ | ⟨nn, k, o, l, p⟩ | ⟨nn, o, l, p⟩
  · obtain ⟨e1, e2⟩ := idx_no (b := b) (n := n) (by unfold idxB; rw [nn]; rfl)
    rw [e1, e2]; exact rindex_no b n w (.inl o)
  · obtain ⟨e1, e2⟩ := idx_no (b := b) (n := n) (by unfold idxB; rw [decide_eq_false (by omega : ¬ 0 ≤ key b), Bool.and_false, Bool.false_and, Bool.false_and, Bool.false_and])
    rw [e1, e2]; exact rindex_no b n w (.inr o)
  · have u := fun (w : World) => run_convert_float_int (P := Tryz.prog) w 74 3 .f64 .i64 b _ (by rw [Tryz.underlying74]; rfl) Tryz.underlying3 (conv63 k l)
    have w2 := whole_two hb (by have := key_pos k; omega) k
    cases q : (FloatKind.f64.format.order (floatOfInt .f64 (truncN b)) b == some .eq)
    · obtain ⟨e1, e2⟩ := idx_no (b := b) (n := n) (by unfold idxB; rw [q, Bool.and_false, Bool.false_and])
      rw [e1, e2]; exact rindex_frac b n w nn o p (by rw [← w2]; exact q)
    · have h := rindex_whole b _ n w nn o p u (by rw [← w2]; exact q)
      by_cases g : (truncN b : Int) < n
      · obtain ⟨e1, e2⟩ := idx_yes (b := b) (n := n) (by unfold idxB; rw [nn, q, decide_eq_true k, decide_eq_true l, decide_eq_true g]; rfl)
        rw [if_pos g, if_pos g] at h
        rw [e1, e2]; exact h
      · obtain ⟨e1, e2⟩ := idx_no (b := b) (n := n) (by unfold idxB; rw [decide_eq_false g, Bool.and_false])
        rw [if_neg g, if_neg g] at h
        rw [e1, e2]; exact h
  · obtain ⟨e1, e2⟩ := idx_no (b := b) (n := n) (by unfold idxB; rw [decide_eq_false l, Bool.and_false, Bool.false_and, Bool.false_and])
    rw [e1, e2]; exact rindex_big b n w o p

/-! the document's One -/
end Go.Proofs.YtaliehikdidiaaaGreatDoor
