import Derived.Test.YtdfmmolhfacahaaV2
namespace Go.Proofs.Ytdfmmolhfacahaa
open Go.ChangeShapes Go.WideShapes Go.ChangeAt Go.RowKit

/-- a coming's step: the error, the answer, the words, whether the memory is open, the count, the coming -/
def cE (c : Cs) (ws : List Int) (o : Bool) : Int := if c.N = 3 then 3 else if may8 c.T then errA ws o (cI c) else 100
def cO (c : Cs) (ws : List Int) (o : Bool) : Bool := decide (cE c ws o = 0) && decide (c.N = 2)
def cW (c : Cs) (ws : List Int) (o : Bool) : List Int := if cE c ws o = 0 then (if c.N = 1 then ws.set (plc c.B c.T).toNat (passV c.K) else ws) else ws
def cP (c : Cs) (ws : List Int) (o : Bool) : Bool := if cE c ws o = 0 then false else o
def cQ (c : Cs) (ws : List Int) (o : Bool) (n : Int) : Int := if cE c ws o = 0 then up n else n
def cC (c : Cs) (ws : List Int) (o : Bool) : Cs := if cE c ws o = 0 then ⟨c.A, c.B, c.T, c.N + 1, if c.N = 0 then wordAt ws c.A else c.K, if c.N = 2 then wordAt ws c.A else c.S⟩ else c
/-- what holds of every coming -/
structure COk (c : Cs) : Prop where
  n : c.N = 0 ∨ c.N = 1 ∨ c.N = 2 ∨ c.N = 3
  k : c.N = 0 → c.K = 0
  s : c.N ≠ 3 → c.S = 0
theorem COk.step {c : Cs} (h : COk c) (ws : List Int) (o : Bool) : COk (cC c ws o) := by
  unfold cC
  by_cases e : cE c ws o = 0
  · rw [if_pos e]
    have h3 : c.N ≠ 3 := fun q => by simp [cE, q] at e
    have hn := h.n
    refine ⟨?_, ?_, ?_⟩
    · dsimp only
      omega
    · dsimp only
      intro q
      omega
    · dsimp only
      intro q
      rw [if_neg (by omega)]
      exact h.s h3
  · rw [if_neg e]
    exact h
theorem cok_new (a b t : Int) : COk ⟨a, b, t, 0, 0, 0⟩ := ⟨.inl rfl, fun _ => rfl, fun _ => rfl⟩
theorem aW_ok {c : Cs} {ws : List Int} {o : Bool} (h : errA ws o (cI c) = 0) : aW c ws o = if c.N = 1 then ws.set (plc c.B c.T).toNat (passV c.K) else ws := by
  unfold aW cI at *
  by_cases q : c.N = 1
  · rw [if_pos q] at h ⊢
    rw [if_pos q, (ok_facts h).1]
  · rw [if_neg q, if_neg q]
theorem aW_no {c : Cs} {ws : List Int} {o : Bool} (h : ¬ errA ws o (cI c) = 0) : aW c ws o = ws := by
  unfold aW cI at *
  by_cases q : c.N = 1
  · rw [if_pos q] at h ⊢
    exact (no_facts h).1 _
  · rw [if_neg q]
theorem aC_ok {c : Cs} {ws : List Int} {o : Bool} (h : errA ws o (cI c) = 0) : aC c ws o = ⟨c.A, c.B, c.T, c.N, if c.N = 0 then wordAt ws c.A else c.K, if c.N = 2 then wordAt ws c.A else c.S⟩ := by
  unfold aC cI at *
  by_cases q : c.N = 1
  · rw [if_neg (by omega), if_neg (by omega), if_neg (by omega), if_neg (by omega)]
  · rw [if_neg q] at h
    rw [(ok_facts h).2.2.2.1]
theorem aC_no {c : Cs} {ws : List Int} {o : Bool} (hc : COk c) (h : ¬ errA ws o (cI c) = 0) : aC c ws o = c := by
  have hn := hc.n
  have hk := hc.k
  have hs := hc.s
  obtain ⟨A, B, T, N, K, S⟩ := c
  unfold aC cI at *
  dsimp only at *
  by_cases q : N = 1
  · rw [if_neg (by omega), if_neg (by omega)]
  · rw [if_neg q] at h
    rw [(no_facts h).2.2.2]
    by_cases q0 : N = 0
    · rw [if_pos q0, if_neg (by omega), hk q0]
    · rw [if_neg q0]
      by_cases q2 : N = 2
      · rw [if_pos q2, hs (by omega)]
      · rw [if_neg q2]
section
variable {w : World} {b g x : Nat} {ws : List Int} {o : Bool} {n : Int} {c : Cs}
set_option maxRecDepth 100000 in
theorem cstep_over (hx : CmAt w x c) (hN : c.N = 3) (b : Nat) : Calls Try.prog 12 #[.pointer (some ⟨x, 0, none⟩), .pointer (some ⟨b, 0, none⟩)] w fun e w' => e = .returned (.tuple #[.bool false, .int .i64 3]) ∧ w' = w := by
  have HO := Lib.hid (overC_any hx)
  simp only [hN, decide_true] at HO
  clear hx hN
  go_enter Try.func12, Try.ntmps12
  go_wp2_with (go_at_call 35; refine HO.out.mono ?_; rintro e w1 ⟨rfl, hw⟩; subst w1)
  go_ret2
  exact ⟨rfl, rfl⟩
set_option maxRecDepth 100000 in
theorem cstep_may (hx : CmAt w x c) (hN : c.N ≠ 3) (hm : may8 c.T = false) (b : Nat) : Calls Try.prog 12 #[.pointer (some ⟨x, 0, none⟩), .pointer (some ⟨b, 0, none⟩)] w fun e w' => e = .returned (.tuple #[.bool false, .int .i64 100]) ∧ Below w.heap.size w w' := by
  have HO := Lib.hid (overC_any hx)
  simp only [decide_eq_false hN] at HO
  have HY := Lib.hid (smay_any c.B c.T)
  simp only [hm] at HY
  obtain ⟨h0, h1, h2, h3, h4, h5, h6, h7, h8, h9⟩ := hx.cells
  clear hx hN hm
  go_enter Try.func12, Try.ntmps12
  go_wp2_with (first
    | (go_at_call 35; refine HO.out.mono ?_; rintro e w1 ⟨rfl, hw⟩; subst w1)
    | (go_at_call 36; refine (HY.out _).mono ?_; rintro e w1 ⟨rfl, hb⟩; have HB := Lib.hid hb; clear hb))
  go_ret2
  exact ⟨rfl, HB.out⟩
set_option maxRecDepth 100000 in
set_option maxHeartbeats 1000000 in
theorem cstep_go (h : MemAt 79 w b g ws o n) (hx : CmAt w x c) (hN : c.N = 0 ∨ c.N = 1 ∨ c.N = 2) (hm : may8 c.T = true) {er : Int} (her : errA ws o (cI c) = er) : Calls Try.prog 12 #[.pointer (some ⟨x, 0, none⟩), .pointer (some ⟨b, 0, none⟩)] w fun e w' => e = .returned (.tuple #[.bool (decide (er = 0) && decide (c.N = 2)), .int .i64 er]) ∧ MemAt 79 w' b g (aW c ws o) (spentO ws o (cI c)) (spentC ws o (cI c) n) ∧ CmAt w' x (if er = 0 then ⟨c.A, c.B, c.T, c.N + 1, (aC c ws o).K, (aC c ws o).S⟩ else aC c ws o) ∧ Ch3 b g x w w' := by
  have HO := Lib.hid (overC_any hx)
  rw [decide_eq_false (show ¬ c.N = 3 by omega)] at HO
  have HY := Lib.hid (smay_any c.B c.T)
  simp only [hm] at HY
  have HA := Lib.hid (fun w1 (hb : Below w.heap.size w w1) => access_any (h.on hb) (hx.on hb) hN hm)
  rw [her] at HA
  obtain ⟨h0, h1, h2, h3, h4, h5, h6, h7, h8, h9⟩ := hx.cells
  have HQ := Lib.hid (hx.ne h)
  clear h hx hm her
  by_cases q : er = 0
  · subst q
    rw [if_pos rfl, decide_eq_true rfl, Bool.true_and]
    have hN' : wrap64 (c.N + 1) = c.N + 1 := Go.IntWalk.wrap64_in _ ⟨by omega, by omega⟩
    have hN2 : decide (c.N + 1 = 3) = decide (c.N = 2) := by rw [decide_eq_decide]; omega
    have HN2 := Lib.hid hN2
    clear hN hN2
    go_enter Try.func12, Try.ntmps12
    go_wp2_with (first
      | (go_at_call 35; refine HO.out.mono ?_; rintro e w1 ⟨rfl, hw⟩; subst w1; clear HO)
      | (go_at_call 36; refine (HY.out _).mono ?_; rintro e w1 ⟨rfl, hb⟩; have HB := Lib.hid hb; clear hb)
      | (go_at_call 37; refine (HA.out _ HB.out).mono ?_; rintro e w2 ⟨rfl, hm, hx, hc⟩; have HM2 := Lib.hid hm; have HX2 := Lib.hid hx; have HC2 := Lib.hid ((Ch3.refl _ _ _ _).on HB.out |>.trans hc); have k3 : w2.cell? ⟨x, 3, none⟩ = some (.int .i64 c.N) := hx.cells.2.2.2.1; have k6 : x < w2.heap.size := hx.lt; have k7 : w2.frozen? ⟨x, 3, none⟩ = false := hx.cells.2.2.2.2.2.2.2.1; clear hm hx hc)
      | (go_at_call 35; refine (overC_any (HX2.out.setN (c.N + 1))).mono ?_; dsimp only; rw [HN2.out]; rintro e w3 ⟨rfl, hw⟩; subst w3))
    go_ret2
    exact ⟨rfl, HM2.out.other HQ.out.1.symm HQ.out.2.symm _ _, HX2.out.setN _, HC2.out.set _ _⟩
  · rw [if_neg q, decide_eq_false q, Bool.false_and]
    clear hN
    go_enter Try.func12, Try.ntmps12
    go_wp2_with (first
      | (go_at_call 35; refine HO.out.mono ?_; rintro e w1 ⟨rfl, hw⟩; subst w1; clear HO)
      | (go_at_call 36; refine (HY.out _).mono ?_; rintro e w1 ⟨rfl, hb⟩; have HB := Lib.hid hb; clear hb)
      | (go_at_call 37; refine (HA.out _ HB.out).mono ?_; rintro e w2 ⟨rfl, hm, hx, hc⟩; have HM2 := Lib.hid hm; have HX2 := Lib.hid hx; have HC2 := Lib.hid ((Ch3.refl _ _ _ _).on HB.out |>.trans hc); clear hm hx hc))
    go_ret2
    exact ⟨rfl, HM2.out, HX2.out, HC2.out⟩
theorem cstep_any (h : MemAt 79 w b g ws o n) (hx : CmAt w x c) (hc : COk c) : Calls Try.prog 12 #[.pointer (some ⟨x, 0, none⟩), .pointer (some ⟨b, 0, none⟩)] w fun e w' => e = .returned (.tuple #[.bool (cO c ws o), .int .i64 (cE c ws o)]) ∧ MemAt 79 w' b g (cW c ws o) (cP c ws o) (cQ c ws o n) ∧ CmAt w' x (cC c ws o) ∧ Ch3 b g x w w' := by
  by_cases h3 : c.N = 3
  · have e : cE c ws o = 3 := by simp [cE, h3]
    unfold cO cW cP cQ cC
    rw [e]
    refine (cstep_over hx h3 b).mono ?_
    rintro r w' ⟨rfl, rfl⟩
    exact ⟨by simp, by simpa using h, by simpa using hx, Ch3.refl _ _ _ _⟩
  · cases hm : may8 c.T
    · have e : cE c ws o = 100 := by simp [cE, h3, hm]
      unfold cO cW cP cQ cC
      rw [e]
      refine (cstep_may hx h3 hm b).mono ?_
      rintro r w' ⟨rfl, hb⟩
      exact ⟨by simp, by simpa using h.on hb, by simpa using hx.on hb, (Ch3.refl _ _ _ _).on hb⟩
    · have e : cE c ws o = errA ws o (cI c) := by simp [cE, h3, hm]
      have hN : c.N = 0 ∨ c.N = 1 ∨ c.N = 2 := by have := hc.n; omega
      unfold cO cW cP cQ cC
      rw [e]
      refine (cstep_go h hx hN hm rfl).mono ?_
      rintro r w' ⟨rfl, hm', hx', hch⟩
      refine ⟨rfl, ?_, ?_, hch⟩
      · by_cases q : errA ws o (cI c) = 0
        · rw [if_pos q, if_pos q, if_pos q]
          have f := ok_facts q
          rw [aW_ok q, f.2.1, f.2.2.1] at hm'
          exact hm'
        · rw [if_neg q, if_neg q, if_neg q]
          have f := no_facts q
          rw [aW_no q, f.2.1, f.2.2.1] at hm'
          exact hm'
      · by_cases q : errA ws o (cI c) = 0
        · rw [if_pos q] at hx' ⊢
          rw [aC_ok q] at hx'
          exact hx'
        · rw [if_neg q] at hx' ⊢
          rw [aC_no hc q] at hx'
          exact hx'
end
end Go.Proofs.Ytdfmmolhfacahaa
