import Derived.Test.YtdfmmolhfacahaaV9
namespace Go.Proofs.Ytdfmmolhfacahaa
open Go.ChangeShapes Go.WideShapes Go.ChangeAt Go.RowKit

theorem has9 {ws : List Int} {i : Nat} (hl : ws.length = 9) (hi : i < 9) : hasB ws (i : Int) = true := decide_eq_true (by omega)
theorem plc1 (t : Nat) : plc 1 (t : Int) = ((1 + t : Nat) : Int) := by
  unfold plc
  rw [if_pos (by omega)]
  omega
theorem may_nat {t : Nat} (ht : t < 8) : may8 (t : Int) = true := decide_eq_true (by omega)
theorem wordAt_nat (ws : List Int) (i : Nat) : wordAt ws (i : Int) = ws.getD i 0 := by simp [wordAt]
theorem getD_set (ws : List Int) (i j : Nat) (v : Int) (hj : j < ws.length) : (ws.set j v).getD i 0 = if i = j then v else ws.getD i 0 := by
  by_cases e : i = j
  · subst e
    simp [hj]
  · rw [if_neg e]
    simp [List.getD, Ne.symm e]
theorem err9 {ws : List Int} {i : Nat} (hl : ws.length = 9) (hi : i < 9) : errA ws true (i : Int) = 0 := by simp [errA, has9 hl hi]
/-- a coming's step in a memory of nine words -/
theorem nine_zero {ws : List Int} {t : Nat} {K S : Int} (hl : ws.length = 9) (ht : t < 8) : cE ⟨0, 1, t, 0, K, S⟩ ws true = 0 ∧ cO ⟨0, 1, t, 0, K, S⟩ ws true = false ∧ cW ⟨0, 1, t, 0, K, S⟩ ws true = ws ∧ cC ⟨0, 1, t, 0, K, S⟩ ws true = ⟨0, 1, t, 1, ws.getD 0 0, S⟩ := by
  have e : cE ⟨0, 1, t, 0, K, S⟩ ws true = 0 := by
    have := err9 (i := 0) hl (by omega)
    simpa [cE, may_nat ht, cI] using this
  refine ⟨e, ?_, ?_, ?_⟩
  · simp [cO]
  · unfold cW; rw [e]; simp
  · unfold cC; rw [e]; simp [wordAt]
theorem nine_one {ws : List Int} {t : Nat} {K S : Int} (hl : ws.length = 9) (ht : t < 8) : cE ⟨0, 1, t, 1, K, S⟩ ws true = 0 ∧ cO ⟨0, 1, t, 1, K, S⟩ ws true = false ∧ cW ⟨0, 1, t, 1, K, S⟩ ws true = ws.set (1 + t) (passV K) ∧ cC ⟨0, 1, t, 1, K, S⟩ ws true = ⟨0, 1, t, 2, K, S⟩ := by
  have e : cE ⟨0, 1, t, 1, K, S⟩ ws true = 0 := by
    have := err9 (i := 1 + t) hl (by omega)
    rw [← plc1 t] at this
    simpa [cE, may_nat ht, cI] using this
  refine ⟨e, ?_, ?_, ?_⟩
  · simp [cO]
  · unfold cW; rw [e]; simp [plc1 t]; congr 1
  · unfold cC; rw [e]; simp
theorem nine_two {ws : List Int} {t : Nat} {K S : Int} (hl : ws.length = 9) (ht : t < 8) : cE ⟨0, 1, t, 2, K, S⟩ ws true = 0 ∧ cO ⟨0, 1, t, 2, K, S⟩ ws true = true ∧ cW ⟨0, 1, t, 2, K, S⟩ ws true = ws ∧ cC ⟨0, 1, t, 2, K, S⟩ ws true = ⟨0, 1, t, 3, K, ws.getD 0 0⟩ := by
  have e : cE ⟨0, 1, t, 2, K, S⟩ ws true = 0 := by
    have := err9 (i := 0) hl (by omega)
    simpa [cE, may_nat ht, cI] using this
  refine ⟨e, ?_, ?_, ?_⟩
  · simp [cO, e]
  · unfold cW; rw [e]; simp
  · unfold cC; rw [e]; simp [wordAt]
/-- any of the three -/
theorem nine_any {ws : List Int} {i t : Nat} {K S : Int} (hl : ws.length = 9) (ht : t < 8) (hi : i < 3) (hc : COk ⟨0, 1, t, i, K, S⟩) (hw : 2 ≤ i → ws.getD (1 + t) 0 = IntKind.u64.wrap (K + 1)) : cE ⟨0, 1, t, i, K, S⟩ ws true = 0 ∧ cO ⟨0, 1, t, i, K, S⟩ ws true = decide ((i : Int) = 2) ∧ ∃ ws2 K2 S2, cW ⟨0, 1, t, i, K, S⟩ ws true = ws2 ∧ cC ⟨0, 1, t, i, K, S⟩ ws true = ⟨0, 1, t, (i + 1 : Nat), K2, S2⟩ ∧ ws2.length = 9 ∧ COk ⟨0, 1, t, (i + 1 : Nat), K2, S2⟩ ∧ (2 ≤ i + 1 → ws2.getD (1 + t) 0 = IntKind.u64.wrap (K2 + 1)) := by
  have hk := hc.step ws true
  rcases (show i = 0 ∨ i = 1 ∨ i = 2 by omega) with rfl | rfl | rfl
  · have f := nine_zero (ws := ws) (K := K) (S := S) hl ht
    have e : (⟨0, 1, t, ((0 : Nat) : Int), K, S⟩ : Cs) = ⟨0, 1, t, 0, K, S⟩ := rfl
    rw [e] at hk ⊢
    rw [f.2.2.2] at hk
    exact ⟨f.1, f.2.1, _, _, _, f.2.2.1, f.2.2.2, hl, hk, fun z => absurd z (by omega)⟩
  · have f := nine_one (ws := ws) (K := K) (S := S) hl ht
    have e : (⟨0, 1, t, ((1 : Nat) : Int), K, S⟩ : Cs) = ⟨0, 1, t, 1, K, S⟩ := rfl
    rw [e] at hk ⊢
    rw [f.2.2.2] at hk
    exact ⟨f.1, f.2.1, _, _, _, f.2.2.1, f.2.2.2, by rw [List.length_set]; exact hl, hk, fun _ => by rw [getD_set _ _ _ _ (by omega), if_pos rfl]; rfl⟩
  · have f := nine_two (ws := ws) (K := K) (S := S) hl ht
    have e : (⟨0, 1, t, ((2 : Nat) : Int), K, S⟩ : Cs) = ⟨0, 1, t, 2, K, S⟩ := rfl
    rw [e] at hk ⊢
    rw [f.2.2.2] at hk
    exact ⟨f.1, f.2.1, _, _, _, f.2.2.1, f.2.2.2, hl, hk, fun _ => hw (by omega)⟩
theorem nine_count {ws : List Int} {c : Cs} {n : Int} (e : cE c ws true = 0) : cQ c ws true n = wrap64 (n + 1) := by simp [cQ, e, up]
theorem nine_poke (ws : List Int) (hl : ws.length = 9) (i : Nat) (hi : i < 9) (v : Int) : poked ws (i : Int) v = ws.set i v := by simp [poked, has9 hl hi]
/-- a scan's step in such a one -/
theorem nine_scan {ws : List Int} {h p q : Nat} {d : Int} (hl : ws.length = 9) (hh : 1 ≤ h ∧ h ≤ 8) (hp : p < h) (hq : q < 9223372036854775807) : sE ⟨1, h, d, p, q⟩ ws true = 0 ∧ ∃ p' q' : Nat, sC ⟨1, h, d, p, q⟩ ws true = ⟨1, h, d, p', q'⟩ ∧ p' + q' = p + q + 1 ∧ p' ≤ h ∧ sO ⟨1, h, d, p, q⟩ ws true = decide (p' = h) ∧ (letB d (ws.getD (1 + p) 0) = true → p' = p + 1) ∧ (letB d (ws.getD (1 + p) 0) = false → p' = p) := by
  have hm : mayH (h : Int) = true := decide_eq_true (by omega)
  have e : sE ⟨1, h, d, p, q⟩ ws true = 0 := by
    have := err9 (i := 1 + p) hl (by omega)
    rw [← plc1 p] at this
    unfold sE
    dsimp only
    rw [hm, if_pos rfl, if_neg (by omega)]
    exact this
  refine ⟨e, ?_⟩
  unfold sO sC
  rw [e, if_pos rfl]
  dsimp only
  rw [plc1 p, wordAt_nat]
  unfold sN
  dsimp only
  cases hb : letB d (ws.getD (1 + p) 0)
  · refine ⟨p, q + 1, ?_, by omega, by omega, ?_, fun z => (by cases z), fun _ => rfl⟩
    · have : up (q : Int) = ((q + 1 : Nat) : Int) := by unfold up; rw [Go.IntWalk.wrap64_in _ ⟨by omega, by omega⟩]; omega
      simp [this]
    · simp
      omega
  · refine ⟨p + 1, q, ?_, by omega, by omega, ?_, fun _ => rfl, fun z => (by cases z)⟩
    · simp
    · simp
      omega
end Go.Proofs.Ytdfmmolhfacahaa
