import Derived.Test.YtlkldgopliablaaGreatDoorD2
namespace Go.Proofs.YtlkldgopliablaaGreatDoor.Sd
open Go.ChangeShapes Go.WideShapes Go.ChangeAt Go.RowKit

section
variable {w : World} {b : Nat} {m : Rd}
theorem hasT_nat {m : Rd} {t : Int} (h : hasT m t = true) : ∃ k : Nat, t = k ∧ k < m.n := by
  have := of_decide_eq_true h
  exact ⟨t.toNat, by omega, by omega⟩
set_option maxRecDepth 100000 in
set_option maxHeartbeats 1000000 in
theorem step_no (h : RdAt w b m) (t : Int) (ht : hasT m t = false) : Calls Tryz.prog 82 #[.pointer (some ⟨b, 0, none⟩), .int .i64 t] w fun e w' => e = .returned (.int .i64 100) ∧ w' = w := by
  have H1 := Lib.hid (has_any h t)
  rw [ht] at H1
  clear h ht
  go_enter Tryz.func82, Tryz.ntmps82
  go_wp2_with (go_at_call 117; refine H1.out.mono ?_; rintro e w1 ⟨rfl, hw⟩; subst w1)
  go_ret
  exact ⟨rfl, rfl⟩
set_option maxRecDepth 100000 in
set_option maxHeartbeats 1000000 in
theorem step_in (h : RdAt w b m) (k : Nat) (hk : k < m.n) (hn : m.n ≤ 8) (ho : m.o < 9223372036854775807) : Calls Tryz.prog 82 #[.pointer (some ⟨b, 0, none⟩), .int .i64 (k : Int)] w fun e w' => e = .returned (.int .i64 0) ∧ RdAt w' b (stepN m k) ∧ Turn [b] [b] w w' := by
  have H1 := Lib.hid (has_any h (k : Int))
  have e : hasT m (k : Int) = true := decide_eq_true ⟨by omega, by omega⟩
  rw [e] at H1
  have hk8 : k < 8 := by omega
  have k8 : (k : Int) < 8 := by omega
  have hc := h.cellG k hk8
  have hs := h.cellS k hk8
  have hb := h.lt
  have hf := h.free (9 + k)
  have HA := Lib.hid h
  clear e hk hn
  cases hg : m.g k
  · have e : stepN m k = m := by simp [stepN, hg]
    rw [e]
    rw [hg] at hc
    clear e h
    go_enter Tryz.func82, Tryz.ntmps82
    go_wp2_with (go_at_call 117; refine H1.out.mono ?_; rintro e w1 ⟨rfl, hw⟩; subst w1)
    go_ret
    exact ⟨rfl, HA.out, Turn.refl _ _⟩
  · have e : stepN m k = settleM { m with s := putF m.s k true } := by simp [stepN, hg]
    rw [e]
    rw [hg] at hc
    have HS := Lib.hid (settle_any (h.setS k hk8 true) ho)
    have HT := Lib.hid (turn_set w b (9 + k) (.bool true))
    clear e h
    go_enter Tryz.func82, Tryz.ntmps82
    go_wp2_with (first
      | (go_at_call 117; refine H1.out.mono ?_; rintro e w1 ⟨rfl, hw⟩; subst w1)
      | (go_at_call 118; refine HS.out.mono ?_; rintro e w2 ⟨rfl, q1, q2⟩; have HQ := Lib.hid (And.intro q1 (HT.out.trans q2)); clear q1 q2))
    go_ret
    exact ⟨rfl, HQ.out.1, HQ.out.2⟩
theorem step_any (h : RdAt w b m) (t : Int) (hn : m.n ≤ 8) (ho : m.o < 9223372036854775807) : Calls Tryz.prog 82 #[.pointer (some ⟨b, 0, none⟩), .int .i64 t] w fun e w' => e = .returned (.int .i64 (errT m t)) ∧ RdAt w' b (stepM m t) ∧ Turn [b] [b] w w' := by
  cases ht : hasT m t
  · refine (step_no h t ht).mono fun e w' ⟨he, hw⟩ => ?_
    subst hw
    simp only [errT, stepM, ht]
    exact ⟨he, h, Turn.refl _ _⟩
  · obtain ⟨k, rfl, hk⟩ := hasT_nat ht
    simp only [errT, stepM, ht]
    exact step_in h k hk hn ho
set_option maxRecDepth 100000 in
set_option maxHeartbeats 1000000 in
theorem fin_no (h : RdAt w b m) (t : Int) (ht : hasT m t = false) : Calls Tryz.prog 109 #[.pointer (some ⟨b, 0, none⟩), .int .i64 t] w fun e w' => e = .returned (.int .i64 100) ∧ w' = w := by
  have H1 := Lib.hid (has_any h t)
  rw [ht] at H1
  clear h ht
  go_enter Tryz.func109, Tryz.ntmps109
  go_wp2_with (go_at_call 117; refine H1.out.mono ?_; rintro e w1 ⟨rfl, hw⟩; subst w1)
  go_ret
  exact ⟨rfl, rfl⟩
set_option maxRecDepth 100000 in
set_option maxHeartbeats 1000000 in
theorem fin_in (h : RdAt w b m) (k : Nat) (hk : k < m.n) (hn : m.n ≤ 8) (ho : m.o < 9223372036854775807) : Calls Tryz.prog 109 #[.pointer (some ⟨b, 0, none⟩), .int .i64 (k : Int)] w fun e w' => e = .returned (.int .i64 0) ∧ RdAt w' b (finN m k) ∧ Turn [b] [b] w w' := by
  have H1 := Lib.hid (has_any h (k : Int))
  have e : hasT m (k : Int) = true := decide_eq_true ⟨by omega, by omega⟩
  rw [e] at H1
  have hk8 : k < 8 := by omega
  have k8 : (k : Int) < 8 := by omega
  have hc := h.cellG k hk8
  have hs := h.cellS k hk8
  have hb := h.lt
  have hf := h.free (9 + k)
  have hf2 := h.free (1 + k)
  have HA := Lib.hid h
  clear e hk hn
  cases hg : m.g k
  · have e : finN m k = m := by simp [finN, hg]
    rw [e]
    rw [hg] at hc
    clear e h
    go_enter Tryz.func109, Tryz.ntmps109
    go_wp2_with (go_at_call 117; refine H1.out.mono ?_; rintro e w1 ⟨rfl, hw⟩; subst w1)
    go_ret
    exact ⟨rfl, HA.out, Turn.refl _ _⟩
  · have e : finN m k = settleM { m with g := putF m.g k false, s := putF m.s k false } := by simp [finN, hg]
    rw [e]
    rw [hg] at hc
    have HS : Hid (∀ u, Same ((w.setCell ⟨b, 1 + k, none⟩ (.bool false)).setCell ⟨b, 9 + k, none⟩ (.bool false)) u → Calls Tryz.prog 118 #[.pointer (some ⟨b, 0, none⟩)] u fun e w' => e = .returned (.tuple #[]) ∧ RdAt w' b (settleM { m with g := putF m.g k false, s := putF m.s k false }) ∧ Turn [b] [b] w w') := fun u hu => (settle_any (((h.setG k hk8 false).setS k hk8 false).same hu) ho).mono fun e w' ⟨q1, q2, q3⟩ => ⟨q1, q2, (((turn_set w b (1 + k) _).trans (turn_set _ b (9 + k) _)).trans (hu.turn _)).trans q3⟩
    clear e h
    go_enter Tryz.func109, Tryz.ntmps109
    go_wp2_with (go_at_call 117; refine H1.out.mono ?_; rintro e w1 ⟨rfl, hw⟩; subst w1)
    go_region_held (fun _ => True) (go_keep) (fail)
    go_wp2_with (go_at_call 118; refine (HS.out _ (by first | exact Same.refl _ | exact ⟨rfl, rfl, rfl, rfl⟩)).mono ?_; rintro e w2 ⟨rfl, q1, q2⟩; have HQ := Lib.hid (And.intro q1 q2); clear q1 q2)
    go_ret
    exact ⟨rfl, HQ.out.1, HQ.out.2⟩
theorem fin_any (h : RdAt w b m) (t : Int) (hn : m.n ≤ 8) (ho : m.o < 9223372036854775807) : Calls Tryz.prog 109 #[.pointer (some ⟨b, 0, none⟩), .int .i64 t] w fun e w' => e = .returned (.int .i64 (errT m t)) ∧ RdAt w' b (finM m t) ∧ Turn [b] [b] w w' := by
  cases ht : hasT m t
  · refine (fin_no h t ht).mono fun e w' ⟨he, hw⟩ => ?_
    subst hw
    simp only [errT, finM, ht]
    exact ⟨he, h, Turn.refl _ _⟩
  · obtain ⟨k, rfl, hk⟩ := hasT_nat ht
    simp only [errT, finM, ht]
    exact fin_in h k hk hn ho
end
end Go.Proofs.YtlkldgopliablaaGreatDoor.Sd
