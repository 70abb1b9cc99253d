import Derived.Test.YtfomenkepdeajabWalkF
import Derived.Test.YtfomenkepdeajabNum3
import Derived.WalkKit
import Derived.ProofKit
import Derived.OpenShut
import Derived.WalkLawsBesides
namespace Go.Proofs.Ytfomenkepdeajab
open Go.ChangeShapes Go.WideShapes Go.ChangeAt Go.RowKit Num

/-! the laws' own 'one' and 'two': an answer without its error -/
theorem lone_of (op er : Int) (b v : Nat) (w : World) (h : ∀ w, Calls Try.prog 19 #[.int .i64 op, .float .f64 b] w fun e w' => e = .returned (.tuple #[.float .f64 v, .int .i64 er]) ∧ Grown w w') :
    Calls Try.prog 9 #[.int .i64 op, .float .f64 b] w fun e w' => e = .returned (.float .f64 v) ∧ Grown w w' := by
  have H : Hid (∀ w, Calls Try.prog 19 #[.int .i64 op, .float .f64 b] w fun e w' => e = .returned (.tuple #[.float .f64 v, .int .i64 er]) ∧ Grown w w') := h
  clear h
  go_enter Try.func9, Try.ntmps9
  go_wp2_with (go_at_call 19; refine (H.out _).mono ?_; rintro e w1 ⟨rfl, g1⟩)
  go_ret
  exact ⟨rfl, g1⟩
theorem ltwo_of (op er : Int) (a b v : Nat) (w : World) (h : ∀ w, Calls Try.prog 18 #[.int .i64 op, .float .f64 a, .float .f64 b] w fun e w' => e = .returned (.tuple #[.float .f64 v, .int .i64 er]) ∧ Grown w w') :
    Calls Try.prog 8 #[.int .i64 op, .float .f64 a, .float .f64 b] w fun e w' => e = .returned (.float .f64 v) ∧ Grown w w' := by
  have H : Hid (∀ w, Calls Try.prog 18 #[.int .i64 op, .float .f64 a, .float .f64 b] w fun e w' => e = .returned (.tuple #[.float .f64 v, .int .i64 er]) ∧ Grown w w') := h
  clear h
  go_enter Try.func8, Try.ntmps8
  go_wp2_with (go_at_call 18; refine (H.out _).mono ?_; rintro e w1 ⟨rfl, g1⟩)
  go_ret
  exact ⟨rfl, g1⟩

/-! a hash -/
def hsh (a : Nat) : Nat := fixB (floatOfInt .f64 (hashI (fixB a)))
theorem hsh_fix (a : Nat) : hsh (fixB a) = hsh a := by unfold hsh; rw [fixB_fixB]
theorem hsh_same {a b : Nat} (h : fixB a = fixB b) : hsh a = hsh b := by unfold hsh; rw [h]
theorem hsh_fl (a : Nat) : ∃ k, k < 65536 ∧ hsh a = fl k := by
  have h0 : 0 ≤ hashI (fixB a) ∧ hashI (fixB a) < 65536 := by
    unfold hashI
    generalize bits .xor .u64 (fixB a : Int) ((fixB a : Int) / 4294967296) % 4294967296 * 2654435769 = X
    omega
  obtain ⟨k, hk, e⟩ : ∃ k : Nat, k < 65536 ∧ hashI (fixB a) = (k : Int) := ⟨(hashI (fixB a)).toNat, by omega, by omega⟩
  refine ⟨k, hk, ?_⟩
  have h1 : hsh a = fixB (fl k) := by unfold hsh fl; rw [e]
  rw [h1]
  exact (fl_facts (n := k) (by omega)).2.2.2.2.1
theorem lhash (a : Nat) (w : World) (ha : a < 18446744073709551616) : Calls Try.prog 9 #[.int .i64 8, .float .f64 a] w fun e w' => e = .returned (.float .f64 (hsh a)) ∧ Grown w w' :=
  lone_of 8 0 a _ w (fun w => one_8 a w ha)
theorem lindex (a : Nat) (w : World) : Calls Try.prog 15 #[.float .f64 (hsh a), .int .i64 65536] w fun e w' => e = .returned (.tuple #[.int .i64 (idxV (hsh a) 65536), .int .i64 0]) ∧ w' = w := by
  have h := index_any (hsh a) 65536 w
  obtain ⟨k, hk, e⟩ := hsh_fl a
  have hk' : k ≤ 9007199254740992 := by omega
  obtain ⟨g1, g2, g3, _, _, _⟩ := fl_facts hk'
  have g4 := (fl_val hk').1
  have o : (FloatKind.f64.format.order (floatOfInt .f64 (truncN (fl k))) (fl k) == some .eq) = true := by
    rw [trunc_fl hk', show floatOfInt .f64 (k : Int) = fl k from rfl, self_num g1]; rfl
  have i : idxB (hsh a) 65536 = true := by
    rw [e]
    unfold idxB
    rw [g1, decide_eq_true (by omega : 0 ≤ key (fl k)), decide_eq_true (by omega : key (fl k) < 4890909195324358656), o, trunc_fl hk', decide_eq_true (by omega : (k : Int) < 65536)]; rfl
  rw [(idx_yes i).2] at h
  exact h
end Go.Proofs.Ytfomenkepdeajab
