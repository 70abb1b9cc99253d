import Derived.Test.YtaliehikdidiaaaGreatDoorGr
import Derived.Test.YtaliehikdidiaaaGreatDoorWalkA
import Derived.WalkKit
import Derived.ProofKit
import Derived.OpenShut
import Derived.WalkLawsBesides
import Derived.Laws.EntriesVeiled
import Derived.Deep.RegionHeld
namespace Go.Proofs.YtaliehikdidiaaaGreatDoor
open Go.ChangeShapes Go.WideShapes Go.ChangeAt Go.RowKit Num
attribute [local go_sem] frombits_run bits_run

theorem xor_sign {b : Nat} (h : b < 18446744073709551616) : bits .xor .u64 (b : Int) 9223372036854775808 = ((b ^^^ 9223372036854775808 : Nat) : Int) :=
  u64_xor_nat b 9223372036854775808 h (by decide)
theorem andNot_sign {b : Nat} (h : b < 18446744073709551616) : bits .andNot .u64 (b : Int) 9223372036854775808 = ((b &&& 9223372036854775807 : Nat) : Int) :=
  u64_andNot_nat b 9223372036854775808 h (by decide)

/-! the entries that the model has for math.archFloor and math.sqrt -/
theorem floor_entry (b : Nat) (h : nan b = false) : Extern.MathFloor.toIntegral "math.archFloor" .down #[.float .f64 b] = pure (.float .f64 (floorB b)) := by
  have e : (∃ s m i, FloatKind.f64.decode b = .number s m i) ∨ ∃ s, FloatKind.f64.decode b = .infinity s := by
    rcases read_kind b with ⟨g, _⟩ | ⟨_, g⟩
    · rw [h] at g; cases g
    · exact g
  conv => lhs; whnf
  unfold floorB
  rcases e with ⟨s, m, i, e⟩ | ⟨s, e⟩ <;> rw [e]
theorem archFloor_num (b : Nat) (h : nan b = false) (w : World) : (callFunc 101 #[.float .f64 b]).run Tryz.prog w = .ok (.value (.float .f64 (floorB b))) w := by
  rw [run_callFunc_extern (e := Extern.MathFloor.toIntegral "math.archFloor" .down) Tryz.func101 (by kernel_rfl) (by kernel_rfl) (by kernel_rfl) (by kernel_rfl), floor_entry b h]
  rfl
theorem floor_entry_nan (b : Nat) (h : nan b = true) (w : World) : ∃ r n, (Extern.MathFloor.toIntegral "math.archFloor" .down #[.float .f64 b]).run Tryz.prog w = .ok (.float .f64 r) (w.drewN n) ∧ nan r = true := by
  have e : FloatKind.f64.decode b = .nan (neg b) (rung b - 9218868437227405312) := read_nan h
  by_cases q : FloatKind.f64.format.quiet (rung b - 9218868437227405312) = rung b - 9218868437227405312
  · refine ⟨b, 0, ?_, h⟩
    conv => lhs; arg 2; whnf
    rw [e]
    dsimp only
    rw [if_pos q]
    rfl
  · have key : ∀ k : Nat, nan (if (k == 1) = true then b else FloatKind.f64.encode (.nan (neg b) (FloatKind.f64.format.quiet (rung b - 9218868437227405312)))) = true := by
      intro k
      split
      · exact h
      · exact nan_quiet _ _
    have run : ∃ k : Nat, (Extern.MathFloor.toIntegral "math.archFloor" .down #[.float .f64 b]).run Tryz.prog w = .ok (.float .f64 (if (k == 1) = true then b else FloatKind.f64.encode (.nan (neg b) (FloatKind.f64.format.quiet (rung b - 9218868437227405312))))) (w.drewN 1) := by
      conv =>
        arg 1
        intro k
        lhs
        arg 2
        whnf
      rw [e]
      dsimp only
      rw [if_neg q]
      exact ⟨_, rfl⟩
    obtain ⟨k, hk⟩ := run
    exact ⟨_, 1, hk, key k⟩
theorem archFloor_nan (b : Nat) (h : nan b = true) (w : World) : ∃ r n, (callFunc 101 #[.float .f64 b]).run Tryz.prog w = .ok (.value (.float .f64 r)) (w.drewN n) ∧ nan r = true := by
  obtain ⟨r, n, e, hn⟩ := floor_entry_nan b h w
  refine ⟨r, n, ?_, hn⟩
  rw [run_callFunc_extern (e := Extern.MathFloor.toIntegral "math.archFloor" .down) Tryz.func101 (by kernel_rfl) (by kernel_rfl) (by kernel_rfl) (by kernel_rfl), e]
  rfl
theorem sqrt_entry (b : Nat) (w : World) : ∃ r n, (Extern.MathSqrt.sqrt #[.float .f64 b]).run Tryz.prog w = .ok (.float .f64 r) (w.drewN n) ∧ fixB r = rootV b := by
  unfold rootV
  cases e : FloatKind.f64.format.sqrt b with
  | some r =>
    refine ⟨r, 0, ?_, rfl⟩
    conv => lhs; arg 2; whnf
    rw [e]
    rfl
  | none =>
    refine ⟨_, 1, ?_, fixB_nan (nan_cut b b (w.tape w.drawn (.nanBits .f64 b b)))⟩
    conv => lhs; arg 2; whnf
    rw [e]
    dsimp only
    simp [Question.forced, World.drew_is_drewN]
theorem sqrt_run (b : Nat) (w : World) : ∃ r n, (callFunc 199 #[.float .f64 b]).run Tryz.prog w = .ok (.value (.float .f64 r)) (w.drewN n) ∧ fixB r = rootV b := by
  obtain ⟨r, n, e, hn⟩ := sqrt_entry b w
  refine ⟨r, n, ?_, hn⟩
  rw [run_callFunc_extern (e := Extern.MathSqrt.sqrt) Tryz.func199 (by kernel_rfl) (by kernel_rfl) (by kernel_rfl) (by kernel_rfl), e]
  rfl
theorem enter_run {f : FuncId} {fn : Func} (hf : Tryz.prog.funcs[f]? = some fn) (hname : (fn.name == "runtime.NumGoroutine") = false) (hb : fn.body.isSome = true) (args : Array Value) (w : World) : (callFunc f args).run Tryz.prog w = .ok (.enter f args) w := by
  obtain ⟨c, hb⟩ := Option.isSome_iff_exists.1 hb
  have h1 : fn.name ≠ "runtime.NumGoroutine" := by simpa using hname
  simp [callFunc, hf, h1, hb, mark]

theorem mathFloor_num (b : Nat) (w : World) (h : nan b = false) : Calls Tryz.prog 59 #[.float .f64 b] w fun e w' => e = .returned (.float .f64 (floorB b)) ∧ w' = w := by
  have hrun := archFloor_num b h
  go_enter Tryz.func59, Tryz.ntmps59
  go_wp2
  go_ret
  exact ⟨rfl, rfl⟩
set_option maxRecDepth 100000 in
theorem mathFloor_any (b : Nat) (w : World) : Calls Tryz.prog 59 #[.float .f64 b] w fun e w' => ∃ r n, e = .returned (.float .f64 r) ∧ fixB r = floorV b ∧ w' = w.drewN n := by
  cases h : nan b
  · refine (mathFloor_num b w h).mono fun e w' he => ?_
    exact ⟨_, 0, he.1, by unfold floorV; rw [h]; rfl, he.2⟩
  · obtain ⟨r, n, hrun, hn⟩ := archFloor_nan b h w
    have hv : floorV b = 9221120237041090560 := by unfold floorV; rw [h]; rfl
    rw [hv]
    clear h hv
    go_enter Tryz.func59, Tryz.ntmps59
    go_wp2
    go_ret
    exact ⟨r, n, rfl, fixB_nan hn, rfl⟩
theorem mathSqrt_any (b : Nat) (w : World) : Calls Tryz.prog 195 #[.float .f64 b] w fun e w' => ∃ r n, e = .returned (.float .f64 r) ∧ fixB r = rootV b ∧ w' = w.drewN n := by
  obtain ⟨r, n, hrun, hr⟩ := sqrt_run b w
  have HR : Hid (fixB r = rootV b) := hr
  clear hr
  go_enter Tryz.func195, Tryz.ntmps195
  go_wp2
  go_ret
  exact ⟨r, n, rfl, HR.out, rfl⟩

theorem truth_any (c : Bool) (w : World) : Calls Tryz.prog 196 #[.bool c] w fun e w' => e = .returned (.float .f64 (yesB c)) ∧ w' = w := by
  cases c
  · go_enter Tryz.func196, Tryz.ntmps196
    go_wp2
    go_ret
    exact ⟨rfl, rfl⟩
  · go_enter Tryz.func196, Tryz.ntmps196
    go_wp2
    go_ret
    exact ⟨rfl, rfl⟩
theorem true_any (b : Nat) (w : World) : Calls Tryz.prog 162 #[.float .f64 b] w fun e w' => e = .returned (.bool (trueB b)) ∧ w' = w := by
  have k0 := key_zero
  have n0 := nan_zero
  rcases order_cases b 0 with ⟨o, n | n⟩ | ⟨n, _, ⟨o, hk⟩ | ⟨o, hk⟩ | ⟨o, hk⟩⟩
  · have e : trueB b = false := by unfold trueB; rw [n]; rfl
    rw [e]
    clear e k0 n0
    go_enter Tryz.func162, Tryz.ntmps162
    go_wp2_with (go_at_call 120; refine (isNaN_any _ _).mono ?_; rintro e w' ⟨rfl, rfl⟩)
    go_ret
    exact ⟨rfl, rfl⟩
  · rw [n0] at n; cases n
  · have e : trueB b = true := by unfold trueB; rw [n, k0] at *; simp; omega
    rw [e]
    clear e k0 n0 hk
    go_enter Tryz.func162, Tryz.ntmps162
    go_wp2_with (go_at_call 120; refine (isNaN_any _ _).mono ?_; rintro e w' ⟨rfl, rfl⟩)
    go_ret
    exact ⟨rfl, rfl⟩
  · have e : trueB b = false := by unfold trueB; rw [n, hk, k0]; rfl
    rw [e]
    clear e k0 n0 hk
    go_enter Tryz.func162, Tryz.ntmps162
    go_wp2_with (go_at_call 120; refine (isNaN_any _ _).mono ?_; rintro e w' ⟨rfl, rfl⟩)
    go_ret
    exact ⟨rfl, rfl⟩
  · have e : trueB b = true := by unfold trueB; rw [n, k0] at *; simp; omega
    rw [e]
    clear e k0 n0 hk
    go_enter Tryz.func162, Tryz.ntmps162
    go_wp2_with (go_at_call 120; refine (isNaN_any _ _).mono ?_; rintro e w' ⟨rfl, rfl⟩)
    go_ret
    exact ⟨rfl, rfl⟩

/-! the functions of the table -/
theorem negative_any (b : Nat) (w : World) (h : b < 18446744073709551616) : Calls Tryz.prog 175 #[.float .f64 b] w fun e w' => ∃ r n, e = .returned (.float .f64 r) ∧ fixB r = fixB (b ^^^ 9223372036854775808) ∧ w' = w.drewN n := by
  have hx := xor_sign h
  go_enter Tryz.func175, Tryz.ntmps175
  go_wp2
  go_ret
  exact ⟨_, 0, rfl, rfl, rfl⟩
theorem absolute_any (b : Nat) (w : World) (h : b < 18446744073709551616) : Calls Tryz.prog 176 #[.float .f64 b] w fun e w' => ∃ r n, e = .returned (.float .f64 r) ∧ fixB r = fixB (b &&& 9223372036854775807) ∧ w' = w.drewN n := by
  have hx := andNot_sign h
  go_enter Tryz.func176, Tryz.ntmps176
  go_wp2
  go_ret
  exact ⟨_, 0, rfl, rfl, rfl⟩
theorem floor_any (b : Nat) (w : World) : Calls Tryz.prog 177 #[.float .f64 b] w fun e w' => ∃ r n, e = .returned (.float .f64 r) ∧ fixB r = floorV b ∧ w' = w.drewN n := by
  go_enter Tryz.func177, Tryz.ntmps177
  go_wp2_with (go_at_call 59; refine (mathFloor_any _ _).mono ?_; rintro e w' ⟨r, n, rfl, hr, rfl⟩)
  go_ret
  exact ⟨_, _, rfl, hr, rfl⟩
theorem root_any (b : Nat) (w : World) : Calls Tryz.prog 178 #[.float .f64 b] w fun e w' => ∃ r n, e = .returned (.float .f64 r) ∧ fixB r = rootV b ∧ w' = w.drewN n := by
  go_enter Tryz.func178, Tryz.ntmps178
  go_wp2_with (go_at_call 195; refine (mathSqrt_any _ _).mono ?_; rintro e w' ⟨r, n, rfl, hr, rfl⟩)
  go_ret
  exact ⟨_, _, rfl, hr, rfl⟩
theorem not_any (b : Nat) (w : World) : Calls Tryz.prog 179 #[.float .f64 b] w fun e w' => ∃ r n, e = .returned (.float .f64 r) ∧ fixB r = yesB (!trueB b) ∧ w' = w.drewN n := by
  go_enter Tryz.func179, Tryz.ntmps179
  go_wp2_with (first | (go_at_call 162; refine (true_any _ _).mono ?_; rintro e w' ⟨rfl, rfl⟩) | (go_at_call 196; refine (truth_any _ _).mono ?_; rintro e w' ⟨rfl, rfl⟩))
  go_ret
  exact ⟨_, 0, rfl, fixB_yes _, rfl⟩
theorem isNaN1_any (b : Nat) (w : World) : Calls Tryz.prog 180 #[.float .f64 b] w fun e w' => ∃ r n, e = .returned (.float .f64 r) ∧ fixB r = yesB (nan b) ∧ w' = w.drewN n := by
  go_enter Tryz.func180, Tryz.ntmps180
  go_wp2_with (first | (go_at_call 120; refine (isNaN_any _ _).mono ?_; rintro e w' ⟨rfl, rfl⟩) | (go_at_call 196; refine (truth_any _ _).mono ?_; rintro e w' ⟨rfl, rfl⟩))
  go_ret
  exact ⟨_, 0, rfl, fixB_yes _, rfl⟩
theorem sign_any (b : Nat) (w : World) : Calls Tryz.prog 181 #[.float .f64 b] w fun e w' => ∃ r n, e = .returned (.float .f64 r) ∧ fixB r = signB b ∧ w' = w.drewN n := by
  have k0 := key_zero
  have n0 := nan_zero
  have hs := fixB_sign b
  rcases order_cases b 0 with ⟨o, n | n⟩ | ⟨n, _, ⟨o, hk⟩ | ⟨o, hk⟩ | ⟨o, hk⟩⟩
  · have e : signB b = 9221120237041090560 := by unfold signB; rw [n]; rfl
    rw [e]
    have hn := fixB_nan n
    clear e k0 n0 hs n
    go_enter Tryz.func181, Tryz.ntmps181
    go_wp2
    go_ret
    exact ⟨_, 0, rfl, hn, rfl⟩
  · rw [n0] at n; cases n
  · have e : signB b = 13830554455654793216 := by unfold signB; rw [n, if_neg (by simp), if_neg (by omega), if_pos (by omega)]
    rw [e] at hs ⊢
    clear e k0 n0 hk n
    go_enter Tryz.func181, Tryz.ntmps181
    go_wp2
    go_ret
    exact ⟨_, 0, rfl, hs, rfl⟩
  · have e : signB b = b := by unfold signB; rw [n, if_neg (by simp), if_neg (by omega), if_neg (by omega)]
    rw [e] at hs ⊢
    have HS : Hid (fixB b = b) := hs
    clear e k0 n0 hk n hs
    go_enter Tryz.func181, Tryz.ntmps181
    go_wp2
    go_ret
    exact ⟨_, 0, rfl, HS.out, rfl⟩
  · have e : signB b = 4607182418800017408 := by unfold signB; rw [n, if_neg (by simp), if_pos (by omega)]
    rw [e] at hs ⊢
    clear e k0 n0 hk n
    go_enter Tryz.func181, Tryz.ntmps181
    go_wp2
    go_ret
    exact ⟨_, 0, rfl, hs, rfl⟩
/-- a number's hash, as an integer -/
def hashI (b : Nat) : Int := bits .xor .u64 (b : Int) ((b : Int) / 4294967296) % 4294967296 * 2654435769 % 4294967296 / 65536
theorem hash_any (b : Nat) (w : World) : Calls Tryz.prog 182 #[.float .f64 b] w fun e w' => ∃ r n, e = .returned (.float .f64 r) ∧ fixB r = fixB (floatOfInt .f64 (hashI b)) ∧ w' = w.drewN n := by
  go_enter Tryz.func182, Tryz.ntmps182
  go_wp2
  go_ret
  exact ⟨_, 0, rfl, rfl, rfl⟩

/-! the table, and One -/
theorem oneTable_any (w : World) : Calls Tryz.prog 173 #[] w fun e w' => e = .returned (.agg #[Value.nilFunc, Value.func (Fn.func 175) #[] #[], Value.func (Fn.func 176) #[] #[], Value.func (Fn.func 177) #[] #[], Value.func (Fn.func 178) #[] #[], Value.func (Fn.func 179) #[] #[], Value.func (Fn.func 180) #[] #[], Value.func (Fn.func 181) #[] #[], Value.func (Fn.func 182) #[] #[]]) ∧ Grw w w' := by
  go_enter Tryz.func173, Tryz.ntmps173
  go_wp2
  exact bodyPost_ret (v := .agg #[Value.nilFunc, Value.func (Fn.func 175) #[] #[], Value.func (Fn.func 176) #[] #[], Value.func (Fn.func 177) #[] #[], Value.func (Fn.func 178) #[] #[], Value.func (Fn.func 179) #[] #[], Value.func (Fn.func 180) #[] #[], Value.func (Fn.func 181) #[] #[], Value.func (Fn.func 182) #[] #[]]) (by simp [results, Tryz.results173, go_sem]) rfl ⟨rfl, by repeat (first | exact Grw.refl _ | apply Grw.drew | apply Grw.alloc)⟩

theorem one_none (op : Int) (b : Nat) (w : World) (h : op ≤ 0 ∨ 9 ≤ op) : Calls Tryz.prog 164 #[.int .i64 op, .float .f64 b] w fun e w' => e = .returned (.tuple #[.float .f64 0, .int .i64 1]) ∧ Grw w w' := by
  by_cases g : op ≤ 0
  · clear h
    go_enter Tryz.func164, Tryz.ntmps164
    go_wp2_with (go_at_call 173; refine (oneTable_any _).mono ?_; rintro e w1 ⟨rfl, hg⟩)
    go_ret2
    exact ⟨rfl, hg.alloc _ _⟩
  · have g' : 9 ≤ op := by omega
    clear h
    go_enter Tryz.func164, Tryz.ntmps164
    go_wp2_with (go_at_call 173; refine (oneTable_any _).mono ?_; rintro e w1 ⟨rfl, hg⟩)
    go_ret2
    exact ⟨rfl, hg.alloc _ _⟩

/-- whatever function the table holds at a place, by its contract -/
theorem one_gen (k fid b v : Nat) (w : World) (h1 : 1 ≤ k) (h2 : k ≤ 8)
    (hS : ∀ w1 : World, (w1.alloc (.cells #[Value.nilFunc, Value.func (Fn.func 175) #[] #[], Value.func (Fn.func 176) #[] #[], Value.func (Fn.func 177) #[] #[], Value.func (Fn.func 178) #[] #[], Value.func (Fn.func 179) #[] #[], Value.func (Fn.func 180) #[] #[], Value.func (Fn.func 181) #[] #[], Value.func (Fn.func 182) #[] #[]] 201)).cell? ⟨w1.heap.size, k, none⟩ = some (Value.func (Fn.func fid) #[] #[]))
    (hcall : ∀ (args : Array Value) (w : World), (callFunc fid args).run Tryz.prog w = .ok (.enter fid args) w)
    (hF : ∀ w, Calls Tryz.prog fid #[.float .f64 (fixB b)] w fun e w' => ∃ r n, e = .returned (.float .f64 r) ∧ fixB r = v ∧ w' = w.drewN n) :
    Calls Tryz.prog 164 #[.int .i64 k, .float .f64 b] w fun e w' => e = .returned (.tuple #[.float .f64 v, .int .i64 0]) ∧ Grw w w' := by
  have HS : Hid (∀ w1 : World, (w1.alloc (.cells #[Value.nilFunc, Value.func (Fn.func 175) #[] #[], Value.func (Fn.func 176) #[] #[], Value.func (Fn.func 177) #[] #[], Value.func (Fn.func 178) #[] #[], Value.func (Fn.func 179) #[] #[], Value.func (Fn.func 180) #[] #[], Value.func (Fn.func 181) #[] #[], Value.func (Fn.func 182) #[] #[]] 201)).cell? ⟨w1.heap.size, k, none⟩ = some (Value.func (Fn.func fid) #[] #[])) := hS
  clear hS
  have HF : Hid (∀ w, Calls Tryz.prog fid #[.float .f64 (fixB b)] w fun e w' => ∃ r n, e = .returned (.float .f64 r) ∧ fixB r = v ∧ w' = w.drewN n) := hF
  clear hF
  go_enter Tryz.func164, Tryz.ntmps164
  go_wp2_with (go_at_call 173; refine (oneTable_any _).mono ?_; rintro e w1 ⟨rfl, hg⟩)
  go_region_held (fun w' => w'.cell? ⟨w1.heap.size, k, none⟩ = some (Value.func (Fn.func fid) #[] #[])) (first | exact HS.out _ | go_keep) (first | (go_at_call 83; refine (fix_any _ _).mono ?_; rintro e w2 ⟨rfl, rfl⟩) | (refine (HF.out _).mono ?_; rintro e w2 ⟨r, n, rfl, hr, rfl⟩))
  go_wp2
  go_ret2
  exact ⟨rfl, grown_drewN (hg.alloc _ _) _⟩
theorem one_1 (b : Nat) (w : World) (hb : b < 18446744073709551616) : Calls Tryz.prog 164 #[.int .i64 1, .float .f64 b] w fun e w' => e = .returned (.tuple #[.float .f64 (fixB (fixB b ^^^ 9223372036854775808)), .int .i64 0]) ∧ Grw w w' :=
  one_gen 1 175 b _ w (by omega) (by omega) (fun w1 => by simp [go_sem]) (enter_run Tryz.func175 (by kernel_rfl) (by kernel_rfl)) (fun w => (negative_any _ _ (fixB_lt hb)).mono fun _ _ ⟨r, n, h1, h2, h3⟩ => ⟨r, n, h1, h2.trans (rfl), h3⟩)
theorem one_2 (b : Nat) (w : World) (hb : b < 18446744073709551616) : Calls Tryz.prog 164 #[.int .i64 2, .float .f64 b] w fun e w' => e = .returned (.tuple #[.float .f64 (fixB (fixB b &&& 9223372036854775807)), .int .i64 0]) ∧ Grw w w' :=
  one_gen 2 176 b _ w (by omega) (by omega) (fun w1 => by simp [go_sem]) (enter_run Tryz.func176 (by kernel_rfl) (by kernel_rfl)) (fun w => (absolute_any _ _ (fixB_lt hb)).mono fun _ _ ⟨r, n, h1, h2, h3⟩ => ⟨r, n, h1, h2.trans (rfl), h3⟩)
theorem one_3 (b : Nat) (w : World) (_hb : b < 18446744073709551616) : Calls Tryz.prog 164 #[.int .i64 3, .float .f64 b] w fun e w' => e = .returned (.tuple #[.float .f64 (floorV b), .int .i64 0]) ∧ Grw w w' :=
  one_gen 3 177 b _ w (by omega) (by omega) (fun w1 => by simp [go_sem]) (enter_run Tryz.func177 (by kernel_rfl) (by kernel_rfl)) (fun w => (floor_any _ _).mono fun _ _ ⟨r, n, h1, h2, h3⟩ => ⟨r, n, h1, h2.trans (floorV_fix b), h3⟩)
theorem one_4 (b : Nat) (w : World) (_hb : b < 18446744073709551616) : Calls Tryz.prog 164 #[.int .i64 4, .float .f64 b] w fun e w' => e = .returned (.tuple #[.float .f64 (rootV b), .int .i64 0]) ∧ Grw w w' :=
  one_gen 4 178 b _ w (by omega) (by omega) (fun w1 => by simp [go_sem]) (enter_run Tryz.func178 (by kernel_rfl) (by kernel_rfl)) (fun w => (root_any _ _).mono fun _ _ ⟨r, n, h1, h2, h3⟩ => ⟨r, n, h1, h2.trans (congrArg resV (sqrt_fix b)), h3⟩)
theorem one_5 (b : Nat) (w : World) (_hb : b < 18446744073709551616) : Calls Tryz.prog 164 #[.int .i64 5, .float .f64 b] w fun e w' => e = .returned (.tuple #[.float .f64 (yesB (!trueB b)), .int .i64 0]) ∧ Grw w w' :=
  one_gen 5 179 b _ w (by omega) (by omega) (fun w1 => by simp [go_sem]) (enter_run Tryz.func179 (by kernel_rfl) (by kernel_rfl)) (fun w => (not_any _ _).mono fun _ _ ⟨r, n, h1, h2, h3⟩ => ⟨r, n, h1, h2.trans (congrArg (fun c => yesB (!c)) (trueB_fix b)), h3⟩)
theorem one_6 (b : Nat) (w : World) (_hb : b < 18446744073709551616) : Calls Tryz.prog 164 #[.int .i64 6, .float .f64 b] w fun e w' => e = .returned (.tuple #[.float .f64 (yesB (nan b)), .int .i64 0]) ∧ Grw w w' :=
  one_gen 6 180 b _ w (by omega) (by omega) (fun w1 => by simp [go_sem]) (enter_run Tryz.func180 (by kernel_rfl) (by kernel_rfl)) (fun w => (isNaN1_any _ _).mono fun _ _ ⟨r, n, h1, h2, h3⟩ => ⟨r, n, h1, h2.trans (congrArg yesB (nan_fixB b)), h3⟩)
theorem one_7 (b : Nat) (w : World) (_hb : b < 18446744073709551616) : Calls Tryz.prog 164 #[.int .i64 7, .float .f64 b] w fun e w' => e = .returned (.tuple #[.float .f64 (signB b), .int .i64 0]) ∧ Grw w w' :=
  one_gen 7 181 b _ w (by omega) (by omega) (fun w1 => by simp [go_sem]) (enter_run Tryz.func181 (by kernel_rfl) (by kernel_rfl)) (fun w => (sign_any _ _).mono fun _ _ ⟨r, n, h1, h2, h3⟩ => ⟨r, n, h1, h2.trans (signB_fix b), h3⟩)
theorem one_8 (b : Nat) (w : World) (_hb : b < 18446744073709551616) : Calls Tryz.prog 164 #[.int .i64 8, .float .f64 b] w fun e w' => e = .returned (.tuple #[.float .f64 (fixB (floatOfInt .f64 (hashI (fixB b)))), .int .i64 0]) ∧ Grw w w' :=
  one_gen 8 182 b _ w (by omega) (by omega) (fun w1 => by simp [go_sem]) (enter_run Tryz.func182 (by kernel_rfl) (by kernel_rfl)) (fun w => (hash_any _ _).mono fun _ _ ⟨r, n, h1, h2, h3⟩ => ⟨r, n, h1, h2.trans (rfl), h3⟩)
end Go.Proofs.YtaliehikdidiaaaGreatDoor
