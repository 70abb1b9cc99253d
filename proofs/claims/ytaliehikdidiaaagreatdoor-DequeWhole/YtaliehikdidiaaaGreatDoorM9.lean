import Derived.Test.YtaliehikdidiaaaGreatDoorM2
import Derived.Test.YtaliehikdidiaaaGreatDoorS1
import Derived.Laws.StructEq
namespace Go.Proofs.YtaliehikdidiaaaGreatDoor.Md
open Go.ChangeShapes Go.WideShapes Go.ChangeAt Go.RowKit

def inB (n g : Int) : Bool := decide (1 ≤ n) && decide (n ≤ g)
def cfgB (a b c e : Int) : Bool := inB a 256 && inB b 8 && inB c 1024 && inB e 32
theorem inB_iff {n g : Int} : inB n g = true ↔ 1 ≤ n ∧ n ≤ g := by simp [inB]
theorem cfgB_iff {a b c e : Int} : cfgB a b c e = true ↔ (1 ≤ a ∧ a ≤ 256) ∧ (1 ≤ b ∧ b ≤ 8) ∧ (1 ≤ c ∧ c ≤ 1024) ∧ (1 ≤ e ∧ e ≤ 32) := by
  simp only [cfgB, Bool.and_eq_true, inB_iff]
  constructor
  · rintro ⟨⟨⟨h1, h2⟩, h3⟩, h4⟩; exact ⟨h1, h2, h3, h4⟩
  · rintro ⟨h1, h2, h3, h4⟩; exact ⟨⟨⟨h1, h2⟩, h3⟩, h4⟩
theorem within_in {n g : Int} {x : Bool} (h : inB n g = x) (w : World) : Calls Tryz.prog 138 #[.int .i64 n, .int .i64 g] w fun e w' => e = .returned (.bool x) ∧ w' = w := by
  subst h
  exact within_any n g w
set_option maxRecDepth 100000 in
set_option maxHeartbeats 2000000 in
theorem mayBe_any (a b c e : Int) (w : World) : Calls Tryz.prog 122 #[.agg #[.int .i64 a, .int .i64 b, .int .i64 c, .int .i64 e]] w fun r w' => r = .returned (.bool (cfgB a b c e)) ∧ w' = w.alloc (.cells #[.int .i64 a, .int .i64 b, .int .i64 c, .int .i64 e] 48) := by
  unfold cfgB
  cases h1 : inB a 256
  · go_enter Tryz.func122, Tryz.ntmps122
    go_wp2_with ((go_at_call 138; refine (within_in h1 _).mono ?_; rintro r w' ⟨rfl, hw⟩; subst w'; clear h1))
    go_ret
    exact ⟨rfl, rfl⟩
  cases h2 : inB b 8
  · go_enter Tryz.func122, Tryz.ntmps122
    go_wp2_with (first | (go_at_call 138; refine (within_in h1 _).mono ?_; rintro r w' ⟨rfl, hw⟩; subst w'; clear h1) | (go_at_call 138; refine (within_in h2 _).mono ?_; rintro r w' ⟨rfl, hw⟩; subst w'; clear h2))
    go_ret
    exact ⟨rfl, rfl⟩
  cases h3 : inB c 1024
  · go_enter Tryz.func122, Tryz.ntmps122
    go_wp2_with (first | (go_at_call 138; refine (within_in h1 _).mono ?_; rintro r w' ⟨rfl, hw⟩; subst w'; clear h1) | (go_at_call 138; refine (within_in h2 _).mono ?_; rintro r w' ⟨rfl, hw⟩; subst w'; clear h2) | (go_at_call 138; refine (within_in h3 _).mono ?_; rintro r w' ⟨rfl, hw⟩; subst w'; clear h3))
    go_ret
    exact ⟨rfl, rfl⟩
  cases h4 : inB e 32
  all_goals
    go_enter Tryz.func122, Tryz.ntmps122
    go_wp2_with (first | (go_at_call 138; refine (within_in h1 _).mono ?_; rintro r w' ⟨rfl, hw⟩; subst w'; clear h1) | (go_at_call 138; refine (within_in h2 _).mono ?_; rintro r w' ⟨rfl, hw⟩; subst w'; clear h2) | (go_at_call 138; refine (within_in h3 _).mono ?_; rintro r w' ⟨rfl, hw⟩; subst w'; clear h3) | (go_at_call 138; refine (within_in h4 _).mono ?_; rintro r w' ⟨rfl, hw⟩; subst w'; clear h4))
    go_ret
    exact ⟨rfl, rfl⟩
set_option maxRecDepth 100000 in
theorem place_any (a b c e : Int) (w : World) : Calls Tryz.prog 84 #[.agg #[.int .i64 a, .int .i64 b, .int .i64 c, .int .i64 e]] w fun r w' => r = .returned (if cfgB a b c e then .tuple #[.agg #[.int .i64 0, .int .i64 1, .int .i64 2, .int .i64 3, .int .i64 (3 + b), .int .i64 (3 + b + 3 * a)], .int .i64 0] else .tuple #[.agg #[.int .i64 0, .int .i64 0, .int .i64 0, .int .i64 0, .int .i64 0, .int .i64 0], .int .i64 1]) ∧ Below w.heap.size w w' := by
  cases hc : cfgB a b c e
  · have HM := fun W => mayBe_any a b c e W
    rw [hc] at HM
    replace HM := Lib.hid HM
    clear hc
    rw [if_neg Bool.false_ne_true]
    go_enter Tryz.func84, Tryz.ntmps84
    go_wp2_with (go_at_call 122; refine (HM.out _).mono ?_; rintro r w1 ⟨rfl, hb⟩; subst w1)
    exact bodyPost_ret (v := .tuple #[.agg #[.int .i64 0, .int .i64 0, .int .i64 0, .int .i64 0, .int .i64 0, .int .i64 0], .int .i64 1]) (by simp [results, Tryz.results84, go_sem]) rfl ⟨rfl, (((Below.refl _ _).alloc (Nat.le_refl _) _).alloc (by simp) _).alloc (by simp; omega) _⟩
  · obtain ⟨⟨a1, a2⟩, ⟨b1, b2⟩, _, _⟩ := cfgB_iff.1 hc
    have HM := fun W => mayBe_any a b c e W
    rw [hc] at HM
    replace HM := Lib.hid HM
    clear hc
    rw [if_pos rfl]
    go_enter Tryz.func84, Tryz.ntmps84
    go_wp2_with (go_at_call 122; refine (HM.out _).mono ?_; rintro r w1 ⟨rfl, hb⟩; subst w1)
    exact bodyPost_ret (v := .tuple #[.agg #[.int .i64 0, .int .i64 1, .int .i64 2, .int .i64 3, .int .i64 (3 + b), .int .i64 (3 + b + 3 * a)], .int .i64 0]) (by simp [results, Tryz.results84, go_sem]) rfl ⟨rfl, (((Below.refl _ _).alloc (Nat.le_refl _) _).alloc (by simp) _).alloc (by simp; omega) _⟩
theorem bcell {W w1 : World} (hb : Below W.heap.size W w1) : (∀ b o, b < W.heap.size → w1.cell? ⟨b, o, none⟩ = W.cell? ⟨b, o, none⟩) ∧ (∀ b o, b < W.heap.size → w1.frozen? ⟨b, o, none⟩ = W.frozen? ⟨b, o, none⟩) :=
  ⟨fun b o h => hb.cell (p := ⟨b, o, none⟩) h, fun b o h => hb.frozen (p := ⟨b, o, none⟩) h⟩
set_option maxRecDepth 100000 in
theorem plan_eq (x0 x1 x2 x3 x4 x5 : Int) (w : World) : (Op.equalIn 10000 125 (.agg #[.int .i64 x0, .int .i64 x1, .int .i64 x2, .int .i64 x3, .int .i64 x4, .int .i64 x5]) (.agg #[.int .i64 x0, .int .i64 x1, .int .i64 x2, .int .i64 x3, .int .i64 x4, .int .i64 x5])).run Tryz.prog w = .ok true w := by
  have u3 := Tryz.underlying3
  have a3 := Tryz.isAgg3
  have z3 := Tryz.sizeOf3
  have hS : Tryz.prog.underlying 125 = some (.struct (Tryz.prog.fieldsOf 125)) := by kernel_rfl
  rw [show (10000 : Nat) = 9999 + 1 from rfl, run_equalIn_agg w 9999 125 _ _ hS (by kernel_rfl)]
  simp only [Program.fieldsOf, Tryz.underlying125]
  go_simp
/-- a block of six cells -/
theorem cells6 {w : World} {x : Nat} {v0 v1 v2 v3 v4 v5 : Value} {T : TypeId} (h : w.heap[x]? = some (.cells #[v0, v1, v2, v3, v4, v5] T (0, 0))) :
    w.cell? ⟨x, 0, none⟩ = some v0 ∧ w.cell? ⟨x, 1, none⟩ = some v1 ∧ w.cell? ⟨x, 2, none⟩ = some v2 ∧ w.cell? ⟨x, 3, none⟩ = some v3 ∧ w.cell? ⟨x, 4, none⟩ = some v4 ∧ w.cell? ⟨x, 5, none⟩ = some v5 ∧ x < w.heap.size :=
  ⟨by rw [cell_of_row w x 0 _ _ _ h]; rfl, by rw [cell_of_row w x 1 _ _ _ h]; rfl, by rw [cell_of_row w x 2 _ _ _ h]; rfl, by rw [cell_of_row w x 3 _ _ _ h]; rfl, by rw [cell_of_row w x 4 _ _ _ h]; rfl, by rw [cell_of_row w x 5 _ _ _ h]; rfl, lt_of_block h⟩
/-- a block of four cells -/
theorem cells4 {w : World} {x : Nat} {v0 v1 v2 v3 : Value} {T : TypeId} (h : w.heap[x]? = some (.cells #[v0, v1, v2, v3] T (0, 0))) :
    w.cell? ⟨x, 0, none⟩ = some v0 ∧ w.cell? ⟨x, 1, none⟩ = some v1 ∧ w.cell? ⟨x, 2, none⟩ = some v2 ∧ w.cell? ⟨x, 3, none⟩ = some v3 ∧ x < w.heap.size :=
  ⟨by rw [cell_of_row w x 0 _ _ _ h]; rfl, by rw [cell_of_row w x 1 _ _ _ h]; rfl, by rw [cell_of_row w x 2 _ _ _ h]; rfl, by rw [cell_of_row w x 3 _ _ _ h]; rfl, lt_of_block h⟩
end Go.Proofs.YtaliehikdidiaaaGreatDoor.Md
