/- For every two configs the statement BoundsGrow answers true: with more of anything no bound of the program is less, and a bound is at least a step for each instruction. No condition. -/
import Derived.Test.YtpimfhkigbcniaaWO
namespace Go.Proofs.Ytpimfhkigbcniaa.boundsGrow
open Go.ChangeShapes Go.WideShapes Go.ChangeAt Go.RowKit

open Bo Md
/-- what both bounds of a config are -/
structure Two (a b c e V1 V2 k : Int) : Prop where
  rd : ∀ w, Calls Try.prog 7 #[cfgV a b c e] w fun r w' => r = .returned (.tuple #[.int .i64 V1, .int .i64 k]) ∧ Below w.heap.size w w'
  wr : ∀ w, Calls Try.prog 9 #[cfgV a b c e] w fun r w' => r = .returned (.tuple #[.int .i64 V2, .int .i64 k]) ∧ Below w.heap.size w w'
theorem two_cell {W w1 : World} {x : Nat} {v0 v1 v2 v3 : Value} {T : TypeId} {o : Obj} (hb : Below (W.alloc o).heap.size (W.alloc o) w1) (h : W.heap[x]? = some (.cells #[v0, v1, v2, v3] T (0, 0))) : w1.heap[x]? = some (.cells #[v0, v1, v2, v3] T (0, 0)) :=
  bcells4 hb ((Below.heap_alloc _ _ _ (lt_of_block h)).trans h)
section
variable {a b c e a' b' c' e' A B X Y k k' : Int} {W : World}
set_option maxHeartbeats 4000000 in
set_option maxRecDepth 100000 in
theorem walk_no (H : Two a b c e A B k) (H' : Two a' b' c' e' X Y k') (hk : k = 0 ∧ k' = 1 ∨ k = 1) : Calls Try.prog 4 #[.agg #[.int .i64 a, .int .i64 b, .int .i64 c, .int .i64 e], .agg #[.int .i64 a', .int .i64 b', .int .i64 c', .int .i64 e']] W fun r W2 => r = .returned (.bool true) ∧ Below W.heap.size W W2 := by
  have HR := Lib.hid H.rd
  have HW := Lib.hid H.wr
  have HR' := Lib.hid H'.rd
  have HW' := Lib.hid H'.wr
  clear H H'
  rcases hk with ⟨rfl, rfl⟩ | rfl
  all_goals
    go_enter Try.func4, Try.ntmps4
    go_wp2_with (first
      | (go_at_call 6; refine (live18_any _).mono ?_; rintro r w1 ⟨rfl, hb⟩; have HB1 := Lib.hid hb; have hx := heap_alloc_new (W.alloc (.cells #[.int .i64 a, .int .i64 b, .int .i64 c, .int .i64 e] 23)) (.cells #[.int .i64 a', .int .i64 b', .int .i64 c', .int .i64 e'] 23); rw [World.size_alloc] at hx; have HX1 := Lib.hid (two_cell hb (heap_alloc_new W _)); have HY1 := Lib.hid (bcells4 hb hx); obtain ⟨q0, q1, q2, q3, q4⟩ := cells4 HX1.out; clear hb hx)
      | (go_at_call 7; refine (HR.out _).mono ?_; clear HR; rintro r w2 ⟨rfl, hb⟩; have HB2 := Lib.hid hb; have HX2 := Lib.hid (bcells4 hb HX1.out); have HY2 := Lib.hid (bcells4 hb HY1.out); obtain ⟨s0, s1, s2, s3, s4⟩ := cells4 HX2.out; clear hb q0 q1 q2 q3 HX1 HY1)
      | (go_at_call 9; refine (HW.out _).mono ?_; clear HW; rintro r w3 ⟨rfl, hb⟩; have HB3 := Lib.hid hb; have HX3 := Lib.hid (bcells4 hb HX2.out); have HY3 := Lib.hid (bcells4 hb HY2.out); obtain ⟨t0, t1, t2, t3, t4⟩ := cells4 HY3.out; clear hb s0 s1 s2 s3 HX2 HY2)
      | (go_at_call 7; refine (HR'.out _).mono ?_; clear HR'; rintro r w4 ⟨rfl, hb⟩; have HB4 := Lib.hid hb; have HX4 := Lib.hid (bcells4 hb HX3.out); have HY4 := Lib.hid (bcells4 hb HY3.out); obtain ⟨u0, u1, u2, u3, u4⟩ := cells4 HY4.out; clear hb t0 t1 t2 t3 HX3 HY3)
      | (go_at_call 9; refine (HW'.out _).mono ?_; clear HW'; rintro r w5 ⟨rfl, hb⟩; have HB5 := Lib.hid hb; clear hb u0 u1 u2 u3))
    go_ret
    exact ⟨rfl, below_chain (below_chain (below_chain (below_chain (below_chain (((Below.refl _ W).alloc (Nat.le_refl _) _).alloc (by simp) _) HB1.out) HB2.out) HB3.out) HB4.out) HB5.out⟩
set_option maxHeartbeats 4000000 in
set_option maxRecDepth 100000 in
theorem walk_yes (H : Two a b c e A B 0) (H' : Two a' b' c' e' X Y 0) (h1 : c ≤ c' → A ≤ X) (h2 : c ≤ c' → b ≤ b' → e ≤ e' → B ≤ Y) (h3 : c < A) (h4 : A + c < B) (h5 : 0 ≤ c) (h6 : B < 1000000) : Calls Try.prog 4 #[.agg #[.int .i64 a, .int .i64 b, .int .i64 c, .int .i64 e], .agg #[.int .i64 a', .int .i64 b', .int .i64 c', .int .i64 e']] W fun r W2 => r = .returned (.bool true) ∧ Below W.heap.size W W2 := by
  have HR := Lib.hid H.rd
  have HW := Lib.hid H.wr
  have HR' := Lib.hid H'.rd
  have HW' := Lib.hid H'.wr
  clear H H'
  have g : (c' < c) ∨ (c ≤ c' ∧ A ≤ X ∧ b' < b) ∨ (c ≤ c' ∧ A ≤ X ∧ b ≤ b' ∧ e' < e) ∨ (c ≤ c' ∧ A ≤ X ∧ b ≤ b' ∧ e ≤ e' ∧ B ≤ Y) := by
    rcases Int.lt_or_le c' c with g1 | g1
    · exact .inl g1
    rcases Int.lt_or_le b' b with g2 | g2
    · exact .inr (.inl ⟨g1, h1 g1, g2⟩)
    rcases Int.lt_or_le e' e with g3 | g3
    · exact .inr (.inr (.inl ⟨g1, h1 g1, g2, g3⟩))
    exact .inr (.inr (.inr ⟨g1, h1 g1, g2, g3, h2 g1 g2 g3⟩))
  clear h1 h2
  rcases g with g1 | ⟨g1, g2, g3⟩ | ⟨g1, g2, g3, g4⟩ | ⟨g1, g2, g3, g4, g5⟩
  all_goals
    go_enter Try.func4, Try.ntmps4
    go_wp2_with (first
      | (go_at_call 6; refine (live18_any _).mono ?_; rintro r w1 ⟨rfl, hb⟩; have HB1 := Lib.hid hb; have hx := heap_alloc_new (W.alloc (.cells #[.int .i64 a, .int .i64 b, .int .i64 c, .int .i64 e] 23)) (.cells #[.int .i64 a', .int .i64 b', .int .i64 c', .int .i64 e'] 23); rw [World.size_alloc] at hx; have HX1 := Lib.hid (two_cell hb (heap_alloc_new W _)); have HY1 := Lib.hid (bcells4 hb hx); obtain ⟨q0, q1, q2, q3, q4⟩ := cells4 HX1.out; clear hb hx)
      | (go_at_call 7; refine (HR.out _).mono ?_; clear HR; rintro r w2 ⟨rfl, hb⟩; have HB2 := Lib.hid hb; have HX2 := Lib.hid (bcells4 hb HX1.out); have HY2 := Lib.hid (bcells4 hb HY1.out); obtain ⟨s0, s1, s2, s3, s4⟩ := cells4 HX2.out; clear hb q0 q1 q2 q3 HX1 HY1)
      | (go_at_call 9; refine (HW.out _).mono ?_; clear HW; rintro r w3 ⟨rfl, hb⟩; have HB3 := Lib.hid hb; have HX3 := Lib.hid (bcells4 hb HX2.out); have HY3 := Lib.hid (bcells4 hb HY2.out); obtain ⟨t0, t1, t2, t3, t4⟩ := cells4 HY3.out; clear hb s0 s1 s2 s3 HX2 HY2)
      | (go_at_call 7; refine (HR'.out _).mono ?_; clear HR'; rintro r w4 ⟨rfl, hb⟩; have HB4 := Lib.hid hb; have HX4 := Lib.hid (bcells4 hb HX3.out); have HY4 := Lib.hid (bcells4 hb HY3.out); obtain ⟨u0, u1, u2, u3, u4⟩ := cells4 HY4.out; clear hb t0 t1 t2 t3 HX3 HY3)
      | (go_at_call 9; refine (HW'.out _).mono ?_; clear HW'; rintro r w5 ⟨rfl, hb⟩; have HB5 := Lib.hid hb; obtain ⟨x0, x1, x2, x3, x4⟩ := cells4 (bcells4 hb HX4.out); obtain ⟨y0, y1, y2, y3, y4⟩ := cells4 (bcells4 hb HY4.out); clear hb u0 u1 u2 u3))
    go_ret
    exact ⟨rfl, below_chain (below_chain (below_chain (below_chain (below_chain (((Below.refl _ W).alloc (Nat.le_refl _) _).alloc (by simp) _) HB1.out) HB2.out) HB3.out) HB4.out) HB5.out⟩
end
theorem walk (a b c e a' b' c' e' : Int) (W : World) : Calls Try.prog 4 #[.agg #[.int .i64 a, .int .i64 b, .int .i64 c, .int .i64 e], .agg #[.int .i64 a', .int .i64 b', .int .i64 c', .int .i64 e']] W fun r W2 => r = .returned (.bool true) ∧ Below W.heap.size W W2 := by
  have T : ∀ a b c e, cfgB a b c e = true → Two a b c e (rdN c) (wrN b c e) 0 := fun a b c e h => ⟨fun w => reader_yes a b c e w h, fun w => writer_yes a b c e w h⟩
  have F : ∀ a b c e, cfgB a b c e = false → Two a b c e 0 0 1 := fun a b c e h => ⟨fun w => reader_no a b c e w h, fun w => writer_no a b c e w h⟩
  cases h1 : cfgB a b c e
  · cases h2 : cfgB a' b' c' e'
    · exact walk_no (F _ _ _ _ h1) (F _ _ _ _ h2) (.inr rfl)
    · exact walk_no (F _ _ _ _ h1) (T _ _ _ _ h2) (.inr rfl)
  · cases h2 : cfgB a' b' c' e'
    · exact walk_no (T _ _ _ _ h1) (F _ _ _ _ h2) (.inl ⟨rfl, rfl⟩)
    · obtain ⟨⟨_, _⟩, ⟨_, _⟩, ⟨_, _⟩, ⟨_, _⟩⟩ := cfgB_iff.1 h1
      exact walk_yes (T _ _ _ _ h1) (T _ _ _ _ h2) (fun _ => by unfold rdN; omega) (fun _ _ _ => by unfold wrN rdN; omega) (by unfold rdN; omega) (by unfold wrN rdN; omega) (by omega) (by unfold wrN rdN; omega)

set_option maxRecDepth 100000 in
theorem lifted (os : Os) (started : os.Started) (H : Type) (enc : TypeId × Value → H) :
    ReturnsInHanded {} Try.checked os 4 .any (Rows.boundsGrowSpec.pre6 enc Try.prog Try.f4 Rows.boundsGrowRow.domain false) (Rows.boundsGrowSpec.post enc Try.prog Try.f4 false true false false) := by
  refine returnsInHanded_of_change (C := Try.checked) ownK started (by kernel_rfl) Try.func4
    (ChangeSpec.witness6 (enc := enc) (C := Try.checked) false ⟨#[], #[.agg #[.int .i64 0, .int .i64 0, .int .i64 0, .int .i64 0], .agg #[.int .i64 0, .int .i64 0, .int .i64 0, .int .i64 0]], []⟩ 8 (by kernel_rfl) (by kernel_rfl) (by kernel_rfl) (by kernel_rfl)) ?_
  intro W base args ds gs before hval0 hW _ _
  have hval : ∀ (j : Nat) t v, Try.f4.params[j]? = some t → args[j]? = some v → Value.okWide Try.prog W .any base t v := hval0
  have hW2 := hW
  obtain ⟨p, q, hA0, hV, rfl, _, _⟩ := hW
  have hA : DataW.TrodAll enc Try.prog W 0 (fun _ => true) true Try.f4.params.toList args.toList ds p := hA0
  rw [Try.params4] at hA hval
  obtain ⟨v0, vs0, d0, ds0, p0, q0, hargs, rfl, rfl, h0, r0⟩ := trodAll_cons hA
  obtain ⟨v1, vs1, d1, ds1, p1, q1, rfl, rfl, rfl, h1, r1⟩ := trodAll_cons r0
  obtain ⟨rfl, rfl, rfl⟩ := trodAll_nil r1
  obtain rfl : args = #[v0, v1] := by cases args; simp_all
  obtain ⟨rfl, rfl⟩ := trodVars_none hV
  obtain ⟨a0, b0, c0, e0, rfl⟩ := open_cfg (hval 0 23 v0 rfl rfl) h0
  obtain ⟨a1, b1, c1, e1, rfl⟩ := open_cfg (hval 1 23 v1 rfl rfl) h1
  clear hA0 hval0
  simp only [List.append_nil] at hW2
  have hlt : ∀ x ∈ p0 ++ p1, x.block < W.heap.size := fun x hx => by simpa using hW2.lt x (by simpa using hx)
  refine (walk a0 b0 c0 e0 a1 b1 c1 e1 W).mono fun e W2 ⟨he, hnx⟩ => ?_
  subst he
  exact ⟨_, rfl, _, _, _, [], _, [], hW2, trodAll_mk1 (shut_bool Try.underlying4 _), (trodAll_cons_mk (Below.trod laidOut (by kernel_rfl) (of_decide_eq_true (by kernel_rfl)) h0 hnx (fun x hx => hlt x (by first | simpa using hx | (simp at hx ⊢; simp [hx])))) (trodAll_cons_mk (Below.trod laidOut (by kernel_rfl) (of_decide_eq_true (by kernel_rfl)) h1 hnx (fun x hx => hlt x (by first | simpa using hx | (simp at hx ⊢; simp [hx])))) trodAll_mk0)), rfl, hnx.frame _, fun h => by cases h⟩

/-- the statement -/
theorem proved : Rows.BoundsGrowSaid :=
  OpenClaim.holds_of_wide 4 Try.f4 rfl rfl rfl rfl rfl rfl rfl ⟨rfl, rfl, rfl, rfl, rfl⟩ rfl rfl rfl rfl rfl (by kernel_rfl) Try.func4 (by kernel_rfl)
    (of_decide_eq_true (by kernel_rfl)) (by unfold Func.isWrapper; first | (rw [if_pos (by decide +kernel)]; kernel_rfl) | (rw [if_neg (by decide +kernel)]; exact ⟨rfl, rfl⟩))
    (fun os started H enc _ => lifted os started H enc)
end Go.Proofs.Ytpimfhkigbcniaa.boundsGrow
