import Derived.Test.YtaliehikdidiaaaGreatDoorGr
import Derived.Test.YtaliehikdidiaaaGreatDoorWalkD
import Derived.WalkKit
import Derived.ProofKit
import Derived.OpenShut
import Derived.WalkLawsBesides
import Derived.Laws.EntriesVeiled
import Derived.Deep.RegionHeld
namespace Go.Proofs.YtaliehikdidiaaaGreatDoor
open Go.ChangeShapes Go.WideShapes Go.ChangeAt Go.RowKit Num
attribute [local go_sem] frombits_run bits_run

theorem rest_any (a b : Nat) (w : World) : Calls Tryz.prog 187 #[.float .f64 a, .float .f64 b] w fun e w' => ∃ r n, e = .returned (.float .f64 r) ∧ fixB r = modV a b ∧ w' = w.drewN n := by
  have hn : fixB 9221120237041090560 = 9221120237041090560 := by decide
  cases ca : cntB a
  · rw [modV_left ca]
    go_enter Tryz.func187, Tryz.ntmps187
    go_wp2_with (first | (go_at_call 197; refine (countable_any _ _).mono ?_; rintro e w' ⟨rfl, rfl⟩) | (go_at_call 121; refine (nan_any _).mono ?_; rintro e w' ⟨rfl, rfl⟩))
    go_ret
    exact ⟨_, 0, rfl, hn, rfl⟩
  · cases cb : cntB b
    · rw [modV_right cb]
      go_enter Tryz.func187, Tryz.ntmps187
      go_wp2_with (first | (go_at_call 197; refine (countable_any _ _).mono ?_; rintro e w' ⟨rfl, rfl⟩) | (go_at_call 121; refine (nan_any _).mono ?_; rintro e w' ⟨rfl, rfl⟩))
      go_ret
      exact ⟨_, 0, rfl, hn, rfl⟩
    · obtain ⟨na, ka, la⟩ := cntB_true ca
      obtain ⟨nb, kb, lb⟩ := cntB_true cb
      have k1 := key_one
      rcases order_cases b 4607182418800017408 with ⟨_, g | g⟩ | ⟨_, _, h⟩
      · rw [nb] at g; cases g
      · rw [nan_one] at g; cases g
      · by_cases hlt : key b < 4607182418800017408
        · have o : FloatKind.f64.format.order b 4607182418800017408 = some .lt := by rcases h with h | h | h <;> first | exact h.1 | omega
          rw [modV_low (by rw [o]; rfl)]
          clear h na ka la nb kb lb k1 hlt
          go_enter Tryz.func187, Tryz.ntmps187
          go_wp2_with (first | (go_at_call 197; refine (countable_any _ _).mono ?_; rintro e w' ⟨rfl, rfl⟩) | (go_at_call 121; refine (nan_any _).mono ?_; rintro e w' ⟨rfl, rfl⟩))
          go_ret
          exact ⟨_, 0, rfl, hn, rfl⟩
        · have o : FloatKind.f64.format.order b 4607182418800017408 = some .gt ∨ FloatKind.f64.format.order b 4607182418800017408 = some .eq := by rcases h with h | h | h <;> first | exact .inl h.1 | exact .inr h.1 | omega
          have hp := trunc_ge1 (b := b) (by omega)
          have t1 := trunc53 ka la
          have t2 := trunc53 kb lb
          have c1 := (conv53 ka la).1
          have c2 := (conv53 kb lb).1
          have u1 := fun (w : World) => run_convert_float_int (P := Tryz.prog) w 74 70 .f64 .u64 a _ (by rw [Tryz.underlying74]; rfl) Tryz.underlying70 c1
          have u2 := fun (w : World) => run_convert_float_int (P := Tryz.prog) w 74 70 .f64 .u64 b _ (by rw [Tryz.underlying74]; rfl) Tryz.underlying70 c2
          have HM : Hid (modV a b = fixB (floatOfInt .f64 ((truncN a % truncN b : Nat) : Int))) := modV_fine ca cb (by rcases o with o | o <;> rw [o] <;> rfl)
          clear h na ka la nb kb lb k1 hlt c1 c2
          generalize truncN a = x at *
          generalize truncN b = y at *
          rcases o with o | o
          all_goals
            go_enter Tryz.func187, Tryz.ntmps187
            go_wp2_with (first | (go_at_call 197; refine (countable_any _ _).mono ?_; rintro e w' ⟨rfl, rfl⟩) | (go_at_call 121; refine (nan_any _).mono ?_; rintro e w' ⟨rfl, rfl⟩))
            go_ret
            refine ⟨_, 0, rfl, ?_, rfl⟩
            rw [HM.out]
            rfl
/-! the table, and Two -/
theorem twoTable_any (w : World) : Calls Tryz.prog 174 #[] w fun e w' => e = .returned (.agg #[Value.nilFunc, Value.func (Fn.func 183) #[] #[], Value.func (Fn.func 184) #[] #[], Value.func (Fn.func 185) #[] #[], Value.func (Fn.func 186) #[] #[], Value.func (Fn.func 187) #[] #[], Value.func (Fn.func 188) #[] #[], Value.func (Fn.func 189) #[] #[], Value.func (Fn.func 190) #[] #[], Value.func (Fn.func 191) #[] #[], Value.func (Fn.func 192) #[] #[], Value.func (Fn.func 193) #[] #[], Value.func (Fn.func 194) #[] #[]]) ∧ Grw w w' := by
  go_enter Tryz.func174, Tryz.ntmps174
  go_wp2
  exact bodyPost_ret (v := .agg #[Value.nilFunc, Value.func (Fn.func 183) #[] #[], Value.func (Fn.func 184) #[] #[], Value.func (Fn.func 185) #[] #[], Value.func (Fn.func 186) #[] #[], Value.func (Fn.func 187) #[] #[], Value.func (Fn.func 188) #[] #[], Value.func (Fn.func 189) #[] #[], Value.func (Fn.func 190) #[] #[], Value.func (Fn.func 191) #[] #[], Value.func (Fn.func 192) #[] #[], Value.func (Fn.func 193) #[] #[], Value.func (Fn.func 194) #[] #[]]) (by simp [results, Tryz.results174, go_sem]) rfl ⟨rfl, by repeat (first | exact Grw.refl _ | apply Grw.drew | apply Grw.alloc)⟩

theorem two_none (op : Int) (a b : Nat) (w : World) (h : op ≤ 0 ∨ 13 ≤ op) : Calls Tryz.prog 165 #[.int .i64 op, .float .f64 a, .float .f64 b] w fun e w' => e = .returned (.tuple #[.float .f64 0, .int .i64 1]) ∧ Grw w w' := by
  by_cases g : op ≤ 0
  · clear h
    go_enter Tryz.func165, Tryz.ntmps165
    go_wp2_with (go_at_call 174; refine (twoTable_any _).mono ?_; rintro e w1 ⟨rfl, hg⟩)
    go_ret2
    exact ⟨rfl, hg.alloc _ _⟩
  · have g' : 13 ≤ op := by omega
    clear h
    go_enter Tryz.func165, Tryz.ntmps165
    go_wp2_with (go_at_call 174; refine (twoTable_any _).mono ?_; rintro e w1 ⟨rfl, hg⟩)
    go_ret2
    exact ⟨rfl, hg.alloc _ _⟩

/-- whatever function the table holds at a place, by its contract -/
theorem two_gen (k fid a b v : Nat) (w : World) (h1 : 1 ≤ k) (h2 : k ≤ 12)
    (hS : ∀ w1 : World, (w1.alloc (.cells #[Value.nilFunc, Value.func (Fn.func 183) #[] #[], Value.func (Fn.func 184) #[] #[], Value.func (Fn.func 185) #[] #[], Value.func (Fn.func 186) #[] #[], Value.func (Fn.func 187) #[] #[], Value.func (Fn.func 188) #[] #[], Value.func (Fn.func 189) #[] #[], Value.func (Fn.func 190) #[] #[], Value.func (Fn.func 191) #[] #[], Value.func (Fn.func 192) #[] #[], Value.func (Fn.func 193) #[] #[], Value.func (Fn.func 194) #[] #[]] 203)).cell? ⟨w1.heap.size, k, none⟩ = some (Value.func (Fn.func fid) #[] #[]))
    (hcall : ∀ (args : Array Value) (w : World), (callFunc fid args).run Tryz.prog w = .ok (.enter fid args) w)
    (hF : ∀ w, Calls Tryz.prog fid #[.float .f64 (fixB a), .float .f64 (fixB b)] w fun e w' => ∃ r n, e = .returned (.float .f64 r) ∧ fixB r = v ∧ w' = w.drewN n) :
    Calls Tryz.prog 165 #[.int .i64 k, .float .f64 a, .float .f64 b] w fun e w' => e = .returned (.tuple #[.float .f64 v, .int .i64 0]) ∧ Grw w w' := by
  have HS : Hid (∀ w1 : World, (w1.alloc (.cells #[Value.nilFunc, Value.func (Fn.func 183) #[] #[], Value.func (Fn.func 184) #[] #[], Value.func (Fn.func 185) #[] #[], Value.func (Fn.func 186) #[] #[], Value.func (Fn.func 187) #[] #[], Value.func (Fn.func 188) #[] #[], Value.func (Fn.func 189) #[] #[], Value.func (Fn.func 190) #[] #[], Value.func (Fn.func 191) #[] #[], Value.func (Fn.func 192) #[] #[], Value.func (Fn.func 193) #[] #[], Value.func (Fn.func 194) #[] #[]] 203)).cell? ⟨w1.heap.size, k, none⟩ = some (Value.func (Fn.func fid) #[] #[])) := hS
  clear hS
  have HF : Hid (∀ w, Calls Tryz.prog fid #[.float .f64 (fixB a), .float .f64 (fixB b)] w fun e w' => ∃ r n, e = .returned (.float .f64 r) ∧ fixB r = v ∧ w' = w.drewN n) := hF
  clear hF
  go_enter Tryz.func165, Tryz.ntmps165
  go_wp2_with (go_at_call 174; refine (twoTable_any _).mono ?_; rintro e w1 ⟨rfl, hg⟩)
  go_region_held (fun w' => w'.cell? ⟨w1.heap.size, k, none⟩ = some (Value.func (Fn.func fid) #[] #[])) (first | exact HS.out _ | go_keep) (first | (go_at_call 83; refine (fix_any _ _).mono ?_; rintro e w2 ⟨rfl, rfl⟩) | (refine (HF.out _).mono ?_; rintro e w2 ⟨r, n, rfl, hr, rfl⟩))
  go_wp2
  go_ret2
  exact ⟨rfl, grown_drewN (hg.alloc _ _) _⟩
theorem two_1 (a b : Nat) (w : World) (_ha : a < 18446744073709551616) (_hb : b < 18446744073709551616) : Calls Tryz.prog 165 #[.int .i64 1, .float .f64 a, .float .f64 b] w fun e w' => e = .returned (.tuple #[.float .f64 (resV (floatBits .add .f64 a b)), .int .i64 0]) ∧ Grw w w' :=
  two_gen 1 183 a b _ w (by omega) (by omega) (fun w1 => by simp [go_sem]) (enter_run Tryz.func183 (by kernel_rfl) (by kernel_rfl)) (fun w => (sum_any _ _ _).mono fun _ _ ⟨r, n, h1, h2, h3⟩ => ⟨r, n, h1, h2.trans (congrArg resV (floatBits_fix _ a b)), h3⟩)
theorem two_2 (a b : Nat) (w : World) (_ha : a < 18446744073709551616) (_hb : b < 18446744073709551616) : Calls Tryz.prog 165 #[.int .i64 2, .float .f64 a, .float .f64 b] w fun e w' => e = .returned (.tuple #[.float .f64 (resV (floatBits .sub .f64 a b)), .int .i64 0]) ∧ Grw w w' :=
  two_gen 2 184 a b _ w (by omega) (by omega) (fun w1 => by simp [go_sem]) (enter_run Tryz.func184 (by kernel_rfl) (by kernel_rfl)) (fun w => (difference_any _ _ _).mono fun _ _ ⟨r, n, h1, h2, h3⟩ => ⟨r, n, h1, h2.trans (congrArg resV (floatBits_fix _ a b)), h3⟩)
theorem two_3 (a b : Nat) (w : World) (_ha : a < 18446744073709551616) (_hb : b < 18446744073709551616) : Calls Tryz.prog 165 #[.int .i64 3, .float .f64 a, .float .f64 b] w fun e w' => e = .returned (.tuple #[.float .f64 (resV (floatBits .mul .f64 a b)), .int .i64 0]) ∧ Grw w w' :=
  two_gen 3 185 a b _ w (by omega) (by omega) (fun w1 => by simp [go_sem]) (enter_run Tryz.func185 (by kernel_rfl) (by kernel_rfl)) (fun w => (product_any _ _ _).mono fun _ _ ⟨r, n, h1, h2, h3⟩ => ⟨r, n, h1, h2.trans (congrArg resV (floatBits_fix _ a b)), h3⟩)
theorem two_4 (a b : Nat) (w : World) (_ha : a < 18446744073709551616) (_hb : b < 18446744073709551616) : Calls Tryz.prog 165 #[.int .i64 4, .float .f64 a, .float .f64 b] w fun e w' => e = .returned (.tuple #[.float .f64 (resV (floatBits .quo .f64 a b)), .int .i64 0]) ∧ Grw w w' :=
  two_gen 4 186 a b _ w (by omega) (by omega) (fun w1 => by simp [go_sem]) (enter_run Tryz.func186 (by kernel_rfl) (by kernel_rfl)) (fun w => (quotient_any _ _ _).mono fun _ _ ⟨r, n, h1, h2, h3⟩ => ⟨r, n, h1, h2.trans (congrArg resV (floatBits_fix _ a b)), h3⟩)
theorem two_5 (a b : Nat) (w : World) (_ha : a < 18446744073709551616) (_hb : b < 18446744073709551616) : Calls Tryz.prog 165 #[.int .i64 5, .float .f64 a, .float .f64 b] w fun e w' => e = .returned (.tuple #[.float .f64 (modV a b), .int .i64 0]) ∧ Grw w w' :=
  two_gen 5 187 a b _ w (by omega) (by omega) (fun w1 => by simp [go_sem]) (enter_run Tryz.func187 (by kernel_rfl) (by kernel_rfl)) (fun w => (rest_any _ _ _).mono fun _ _ ⟨r, n, h1, h2, h3⟩ => ⟨r, n, h1, h2.trans (modV_fix a b), h3⟩)
theorem two_6 (a b : Nat) (w : World) (ha : a < 18446744073709551616) (hb : b < 18446744073709551616) : Calls Tryz.prog 165 #[.int .i64 6, .float .f64 a, .float .f64 b] w fun e w' => e = .returned (.tuple #[.float .f64 (minV a b), .int .i64 0]) ∧ Grw w w' :=
  two_gen 6 188 a b _ w (by omega) (by omega) (fun w1 => by simp [go_sem]) (enter_run Tryz.func188 (by kernel_rfl) (by kernel_rfl)) (fun w => (least_any _ _ _ (fixB_lt ha) (fixB_lt hb)).mono fun _ _ ⟨r, n, h1, h2, h3⟩ => ⟨r, n, h1, h2.trans (minV_fix a b), h3⟩)
theorem two_7 (a b : Nat) (w : World) (ha : a < 18446744073709551616) (hb : b < 18446744073709551616) : Calls Tryz.prog 165 #[.int .i64 7, .float .f64 a, .float .f64 b] w fun e w' => e = .returned (.tuple #[.float .f64 (maxV a b), .int .i64 0]) ∧ Grw w w' :=
  two_gen 7 189 a b _ w (by omega) (by omega) (fun w1 => by simp [go_sem]) (enter_run Tryz.func189 (by kernel_rfl) (by kernel_rfl)) (fun w => (greatest_any _ _ _ (fixB_lt ha) (fixB_lt hb)).mono fun _ _ ⟨r, n, h1, h2, h3⟩ => ⟨r, n, h1, h2.trans (maxV_fix a b), h3⟩)
theorem two_8 (a b : Nat) (w : World) (_ha : a < 18446744073709551616) (_hb : b < 18446744073709551616) : Calls Tryz.prog 165 #[.int .i64 8, .float .f64 a, .float .f64 b] w fun e w' => e = .returned (.tuple #[.float .f64 (yesB (FloatKind.f64.format.order a b == some .lt)), .int .i64 0]) ∧ Grw w w' :=
  two_gen 8 190 a b _ w (by omega) (by omega) (fun w1 => by simp [go_sem]) (enter_run Tryz.func190 (by kernel_rfl) (by kernel_rfl)) (fun w => (less_any _ _ _).mono fun _ _ ⟨r, n, h1, h2, h3⟩ => ⟨r, n, h1, h2.trans (by rw [order_fix]), h3⟩)
theorem two_9 (a b : Nat) (w : World) (_ha : a < 18446744073709551616) (_hb : b < 18446744073709551616) : Calls Tryz.prog 165 #[.int .i64 9, .float .f64 a, .float .f64 b] w fun e w' => e = .returned (.tuple #[.float .f64 (yesB (FloatKind.f64.format.order a b == some .lt || FloatKind.f64.format.order a b == some .eq)), .int .i64 0]) ∧ Grw w w' :=
  two_gen 9 191 a b _ w (by omega) (by omega) (fun w1 => by simp [go_sem]) (enter_run Tryz.func191 (by kernel_rfl) (by kernel_rfl)) (fun w => (atMost_any _ _ _).mono fun _ _ ⟨r, n, h1, h2, h3⟩ => ⟨r, n, h1, h2.trans (by rw [order_fix]), h3⟩)
theorem two_10 (a b : Nat) (w : World) (_ha : a < 18446744073709551616) (_hb : b < 18446744073709551616) : Calls Tryz.prog 165 #[.int .i64 10, .float .f64 a, .float .f64 b] w fun e w' => e = .returned (.tuple #[.float .f64 (yesB (FloatKind.f64.format.order a b == some .eq)), .int .i64 0]) ∧ Grw w w' :=
  two_gen 10 192 a b _ w (by omega) (by omega) (fun w1 => by simp [go_sem]) (enter_run Tryz.func192 (by kernel_rfl) (by kernel_rfl)) (fun w => (equal_any _ _ _).mono fun _ _ ⟨r, n, h1, h2, h3⟩ => ⟨r, n, h1, h2.trans (by rw [order_fix]), h3⟩)
theorem two_11 (a b : Nat) (w : World) (_ha : a < 18446744073709551616) (_hb : b < 18446744073709551616) : Calls Tryz.prog 165 #[.int .i64 11, .float .f64 a, .float .f64 b] w fun e w' => e = .returned (.tuple #[.float .f64 (yesB (fixB a == fixB b)), .int .i64 0]) ∧ Grw w w' :=
  two_gen 11 193 a b _ w (by omega) (by omega) (fun w1 => by simp [go_sem]) (enter_run Tryz.func193 (by kernel_rfl) (by kernel_rfl)) (fun w => (same2_any _ _ _).mono fun _ _ ⟨r, n, h1, h2, h3⟩ => ⟨r, n, h1, h2.trans (by rw [fixB_fixB, fixB_fixB]), h3⟩)
theorem two_12 (a b : Nat) (w : World) (ha : a < 18446744073709551616) (hb : b < 18446744073709551616) : Calls Tryz.prog 165 #[.int .i64 12, .float .f64 a, .float .f64 b] w fun e w' => e = .returned (.tuple #[.float .f64 (yesB (decide (cmpB a b < 0))), .int .i64 0]) ∧ Grw w w' :=
  two_gen 12 194 a b _ w (by omega) (by omega) (fun w1 => by simp [go_sem]) (enter_run Tryz.func194 (by kernel_rfl) (by kernel_rfl)) (fun w => (ahead_any _ _ _ (fixB_lt ha) (fixB_lt hb)).mono fun _ _ ⟨r, n, h1, h2, h3⟩ => ⟨r, n, h1, h2.trans (by rw [cmpB_fix]), h3⟩)
end Go.Proofs.YtaliehikdidiaaaGreatDoor
