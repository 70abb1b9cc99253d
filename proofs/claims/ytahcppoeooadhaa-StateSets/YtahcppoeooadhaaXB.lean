import Derived.Test.YtahcppoeooadhaaXA
namespace Go.Proofs.Ytahcppoeooadhaa
open Go.ChangeShapes Go.WideShapes Go.ChangeAt Go.RowKit Num
attribute [local go_sem] run_store_float frombits_run bits_run

theorem sum_some {P : Program} (t : TypeId) (x y : Nat) (w : World) : ∃ r n, (binOp .add t (.float .f64 x) (.float .f64 y)).run P w = .ok (.float .f64 r) (w.drewN n) := by
  cases e : floatBits .add .f64 x y with
  | some r => exact ⟨r, 0, run_float_arith w .add t .f64 x y r e⟩
  | none =>
    refine ⟨Question.cut (.nanBits .f64 x y) (w.tape w.drawn (.nanBits .f64 x y)), 1, ?_⟩
    simp only [floatBits] at e
    simp [binOp, Op.floatArith, e, Question.forced, World.drew_is_drewN]
set_option maxHeartbeats 2000000 in
set_option maxRecDepth 100000 in
theorem stir_any {w : World} {b : Nat} {F l : List Nat} (h : Cel 54 w b F l) : Calls Try.prog 26 #[.pointer (some ⟨b, 0, none⟩)] w fun e w' => e = .returned (.tuple #[]) ∧ Turn F F w w' := by
  obtain ⟨n, hn⟩ : ∃ n, l.length = n := ⟨_, rfl⟩
  have hm : n ≤ 256 := by rw [← hn]; exact h.many
  have HC := Lib.hid h
  have HN := Lib.hid hn
  clear h hn
  go_enter Try.func26, Try.ntmps26
  go_wp2
  go_loopw [2] (fun vi wr => ∃ (k : Nat) (m : List Nat), vi = .int .i64 k ∧ k ≤ n ∧ Hid (m.length = n) ∧ Hid (Cel 54 wr b F m) ∧ Hid (Turn F F w wr)) (fun vi _ => n - (intOf vi).toNat)
  case atStart => exact ⟨0, l, rfl, Nat.zero_le _, HN, HC, Turn.refl _ _⟩
  case round =>
    obtain ⟨k, m, rfl, hk, HM, HS, HT⟩ := hrel
    have HL := Lib.hid (len_any HS.out)
    rw [HM.out] at HL
    by_cases hlt : k < n
    · have hlt' : (k : Int) < (n : Int) := by omega
      obtain ⟨r, d, hrun⟩ := sum_some (P := Try.prog) 44 (floatOfInt .f64 (k : Int)) 4635118810238550016 wr
      have HSET : Hid (∀ w1, Same wr w1 → Calls Try.prog 18 #[.pointer (some ⟨b, 0, none⟩), .int .i64 k, .float .f64 r] w1 fun e w' => e = .returned (.int .i64 (cellE m.length k)) ∧ Cel 54 w' b F (setL m k r) ∧ Turn F F w w') := fun w1 k1 => (set_any (HS.out.same k1) k r).mono fun e w' ⟨a1, a2, a3⟩ => ⟨a1, a2, HT.out.trans ((k1.turn _).trans a3)⟩
      generalize cellE m.length k = ev at HSET
      go_wp2_with (first
        | (go_at_call 9; refine HL.out.mono ?_; rintro e w' ⟨rfl, hw⟩; subst w')
        | (go_at_call 18; refine (HSET.out _ (by first | exact Same.refl _ | exact Same.drewN _ _)).mono ?_; rintro e w' ⟨rfl, hc, ht⟩; have HD := Lib.hid (And.intro hc ht); clear hc ht))
      exact ⟨⟨k + 1, _, by first | rfl | (congr 1), by omega, (setL_len _ _ _).trans HM.out, HD.out.1, HD.out.2⟩, by simp [intOf]; omega⟩
    · have hlt' : ¬ (k : Int) < (n : Int) := by omega
      go_wp2_with (go_at_call 9; refine HL.out.mono ?_; rintro e w' ⟨rfl, hw⟩; subst w')
      go_end0
      exact ⟨rfl, HT.out⟩
theorem may2 : mayN ((2 : Nat) : Int) = true := by decide
theorem may256 : mayN ((256 : Nat) : Int) = true := by decide
theorem may257 : mayN 257 = false := by decide
theorem five_fix : fixB 4617315517961601024 = 4617315517961601024 := by decide
theorem five_nan : nan 4617315517961601024 = false := by decide
set_option maxHeartbeats 1000000 in
set_option maxRecDepth 100000 in
theorem live_any (w : World) : Calls Try.prog 10 #[] w fun e w' => e = .returned (.bool true) ∧ Below w.heap.size w w' := by
  have HNEW := Lib.hid (new_some may2 w)
  have s1 : setL (List.replicate 2 0) 1 4617315517961601024 = [0, 4617315517961601024] := by unfold setL; rw [five_fix]; rfl
  have c1 : cellE (List.replicate 2 0).length 1 = 0 := by decide
  have c2 : cellE [0, 4617315517961601024].length 1 = 0 := by decide
  have c3 : cellE [0, 4617315517961601024].length 2 = 60 := by decide
  have g1 : getV [0, 4617315517961601024] 1 = 4617315517961601024 := by decide
  have HS1 := Lib.hid (fun w' b F (h : Cel 54 w' b F (List.replicate 2 0)) => set_any h 1 4617315517961601024)
  rw [s1, c1] at HS1
  have HG := Lib.hid (fun w' b F (h : Cel 54 w' b F [0, 4617315517961601024]) => get_any h 1)
  rw [g1, c2] at HG
  have HS2 := Lib.hid (fun w' b F (h : Cel 54 w' b F [0, 4617315517961601024]) => set_any h 2 4617315517961601024)
  rw [c3] at HS2
  have HL := Lib.hid (fun w' b F (h : Cel 54 w' b F (setL [0, 4617315517961601024] 2 4617315517961601024)) => len_any h)
  rw [setL_len] at HL
  have ho := self_num five_nan
  generalize setL [0, 4617315517961601024] 2 4617315517961601024 = l2 at HS2 HL
  clear s1 c1 c2 c3 g1
  have t1 : True := trivial
  go_enter Try.func10, Try.ntmps10
  go_wp2_with (first
    | (go_at_call 8; refine HNEW.out.mono ?_; rintro e w1 ⟨b, F, rfl, hc, ha, hb⟩; have HC1 := Lib.hid hc; have HA1 := Lib.hid ha; have HB1 := Lib.hid hb; clear hc ha hb)
    | (go_at_call 18; have _t := t1; refine (HS1.out _ _ _ HC1.out).mono ?_; rintro e w2 ⟨rfl, hc, ht⟩; have HC2 := Lib.hid hc; have HB2 := Lib.hid (turn_chain HB1.out ht HA1.out); clear hc ht t1)
    | (go_at_call 20; refine (HG.out _ _ _ HC2.out).mono ?_; rintro e w3 ⟨rfl, hw⟩; subst w3)
    | (go_at_call 18; refine (HS2.out _ _ _ HC2.out).mono ?_; rintro e w4 ⟨rfl, hc, ht⟩; have HC4 := Lib.hid hc; have HB4 := Lib.hid (turn_chain HB2.out ht HA1.out); clear hc ht)
    | (go_at_call 9; refine (HL.out _ _ _ HC4.out).mono ?_; rintro e w5 ⟨rfl, hw⟩; subst w5))
  go_ret
  exact ⟨rfl, HB4.out⟩
set_option maxRecDepth 100000 in
theorem numbers6_any (w : World) : Calls Try.prog 3 #[] w fun e w' => e = .returned (.bool true) ∧ Below w.heap.size w w' := by
  have HNEW := Lib.hid (new_some may256 w)
  have HNO := Lib.hid (fun w => new_none may257 w)
  have HL := Lib.hid (fun w' b F (h : Cel 54 w' b F (List.replicate 256 0)) => len_any h)
  rw [List.length_replicate] at HL
  generalize List.replicate 256 0 = l at HNEW HL
  go_enter Try.func3, Try.ntmps3
  go_wp2_with (first
    | (go_at_call 8; refine HNEW.out.mono ?_; rintro e w1 ⟨b, F, rfl, hc, ha, hb⟩; have HC1 := Lib.hid hc; have HB1 := Lib.hid hb; clear hc ha hb HNEW)
    | (go_at_call 8; refine (HNO.out _).mono ?_; rintro e w2 ⟨rfl, hw⟩; subst w2)
    | (go_at_call 9; refine (HL.out _ _ _ HC1.out).mono ?_; rintro e w5 ⟨rfl, hw⟩; subst w5))
  go_ret
  exact ⟨rfl, HB1.out⟩
end Go.Proofs.Ytahcppoeooadhaa
