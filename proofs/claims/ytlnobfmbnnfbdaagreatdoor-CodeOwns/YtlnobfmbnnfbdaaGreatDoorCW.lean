/- the document's reader, without the walk: its numbers, its words, its lines -/
import Derived.Test.YtlnobfmbnnfbdaaGreatDoorC2
import Derived.Test.YtlnobfmbnnfbdaaGreatDoorC6
namespace Go.Proofs.YtlnobfmbnnfbdaaGreatDoor
open Go.ChangeShapes Go.WideShapes Go.ChangeAt Go.RowKit Num

theorem num_ok {l : List UInt8} {n : Nat} (h1 : 1 ≤ l.length) (h4 : l.length ≤ 4) (hr : readL 10 0 l = some n) : wholeR l = if 1 < l.length ∧ l.head? = some 48 then (0, 20) else ((n : Int), 0) := by
  have hn := readL_lt (by decide) l 0 n hr
  have hp : 10 ^ l.length ≤ 10 ^ 4 := Nat.pow_le_pow_right (by decide) h4
  rw [wholeR_read]
  have e : readR 10 l = (n, true) := by
    unfold readR
    rw [if_neg (by omega), hr]
  rw [e]
  by_cases hc : 1 < l.length ∧ l.head? = some 48
  · rw [if_neg (fun q => q.2.2 hc), if_pos hc]
  · rw [if_pos ⟨rfl, by show n ≤ 2147483647; omega, hc⟩, if_neg hc]
theorem num_bad {l : List UInt8} (hr : readL 10 0 l = none) : wholeR l = (0, 20) := by
  unfold wholeR
  rw [hr]
theorem num_long {l : List UInt8} (h : 4 < l.length) : ¬ ((wholeR l).2 = 0 ∧ (wholeR l).1 ≤ 1023) := by
  rintro ⟨h1, h2⟩
  obtain ⟨h3, h4⟩ := wholeR_ok h1
  have h5 : Lib.nDigits (wholeR l).1.toNat ≤ 4 := nDigits_of_lt 4 _ (by omega) (by decide)
  rw [← Lib.decDigits_length, h3] at h5
  omega
theorem readL_take {l : List UInt8} : ∀ (acc k : Nat), readL 10 acc (l.take k) = none → readL 10 acc l = none := by
  induction l with
  | nil => intro acc k h; simp [readL] at h
  | cons c r ih =>
    intro acc k h
    cases k with
    | zero => simp [readL] at h
    | succ k =>
      rw [List.take_succ_cons] at h
      unfold readL at h ⊢
      split at h
      · rename_i hd
        rw [if_pos hd]
        exact ih _ _ h
      · rename_i hd
        rw [if_neg hd]
/-! the place of a word -/
def atN (T : List (List UInt8)) (w : List UInt8) : Nat := (findW T w).getD 0
theorem atN_hit {T : List (List UInt8)} {w : List UInt8} (h0 : T.getD 0 [] = []) (hn : ∀ k, k < T.length → 1 ≤ k → T.getD k [] ≠ []) {k : Nat} (hk : k < T.length) (h1 : 1 ≤ k) (hw : T.getD k [] = w) (hf : ∀ j, 1 ≤ j → j < k → T.getD j [] ≠ w) : atN T w = k := by
  unfold atN
  have : findW T w = some k := findW_some.2 ⟨hk, hw, fun j hj q => by
    by_cases hj0 : j = 0
    · subst hj0
      rw [h0] at q
      exact hn k hk h1 (hw.trans q.symm)
    · exact hf j (by omega) hj q⟩
  rw [this]
  rfl
theorem atN_miss {T : List (List UInt8)} {w : List UInt8} (hf : ∀ j, 1 ≤ j → j < T.length → T.getD j [] ≠ w) : atN T w = 0 := by
  unfold atN
  cases hq : findW T w with
  | none => rfl
  | some k =>
    obtain ⟨h1, h2, _⟩ := findW_some.1 hq
    by_cases hk : k = 0
    · rw [hk]; rfl
    · exact absurd h2 (hf k (by omega) h1)
theorem one_tab : oneT.getD 0 [] = [] ∧ ∀ k, k < oneT.length → 1 ≤ k → oneT.getD k [] ≠ [] := by decide +kernel
theorem two_tab : twoT.getD 0 [] = [] ∧ ∀ k, k < twoT.length → 1 ≤ k → twoT.getD k [] ≠ [] := by decide +kernel
theorem word_apart : ∀ k, k < 21 → (shp k).word ≠ [] → atN oneT (shp k).word = 0 ∧ atN twoT (shp k).word = 0 := by decide +kernel
theorem word_uniq : ∀ k, k < 21 → ∀ j, j < 21 → (shp k).word ≠ [] → (shp j).word = (shp k).word → j = k := by decide +kernel
theorem two_apart : ∀ k, k < 13 → 1 ≤ k → atN oneT (twoW k) = 0 ∧ ∀ j, j < 21 → (shp j).word ≠ twoW k := by decide +kernel
theorem one_apart : ∀ k, k < 9 → 1 ≤ k → ∀ j, j < 21 → (shp j).word ≠ oneW k := by decide +kernel
theorem one_self : ∀ k, k < 9 → 1 ≤ k → atN oneT (oneW k) = k := by decide +kernel
theorem two_self : ∀ k, k < 13 → 1 ≤ k → atN twoT (twoW k) = k := by decide +kernel
/-! the rows' bounds -/
theorem rhi_kind : ∀ k, k < 21 → 1 ≤ k → k ≠ 1 → (shp k).kind ≤ 3 → (rhi k = 0 ↔ (shp k).kind = 0) := by decide +kernel
theorem rhi_23 : ∀ k, k < 21 → ((shp k).kind = 2 ∨ (shp k).kind = 3) → rhi k ≠ 0 ∧ (if rhi k < 0 then (1023 : Int) else rhi k) = (shp k).hi ∧ (shp k).lo = 0 ∧ (shp k).hi ≤ 1023 ∧ 0 < (shp k).hi := by decide +kernel
end Go.Proofs.YtlnobfmbnnfbdaaGreatDoor
