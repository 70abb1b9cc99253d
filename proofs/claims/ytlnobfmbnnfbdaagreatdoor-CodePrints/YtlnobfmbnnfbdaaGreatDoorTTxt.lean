import Derived.Test.YtlnobfmbnnfbdaaGreatDoorT8
import Derived.Lib.ParseIntBCases
import Derived.Lib.ParseIntBTie
namespace Go.Proofs.YtlnobfmbnnfbdaaGreatDoor
open Num

theorem dvN_lt10 {c : UInt8} (h : dvN c < 10) : 48 ≤ c.toNat ∧ c.toNat ≤ 57 ∧ dvN c = c.toNat - 48 := by
  have hc := c.toNat_lt
  unfold dvN at *
  split at h
  · rename_i g
    rw [if_pos g]
    exact ⟨g.1, g.2, rfl⟩
  · split at h <;> omega
theorem hexD_toNat10 {n : Nat} (h : n < 10) : (hexD n).toNat = 48 + n := by
  rw [hexD_dec h, UInt8.toNat_ofNat']
  omega
theorem eq_hexD {c : UInt8} (h : dvN c < 16) : c = hexD (dvN c) := by
  have := (hexD_dv c (dvN c) h).2 rfl
  exact (UInt8.toNat_inj.1 this).symm
theorem readL_append (base : Nat) (c : UInt8) : ∀ (l : List UInt8) (acc : Nat), readL base acc (l ++ [c]) = (readL base acc l).bind fun x => if dvN c < base then some (x * base + dvN c) else none
  | [], acc => by
    show (if dvN c < base then readL base (acc * base + dvN c) [] else none) = _
    rfl
  | d :: l, acc => by
    show (if dvN d < base then readL base (acc * base + dvN d) (l ++ [c]) else none) = (if dvN d < base then readL base (acc * base + dvN d) l else none).bind _
    split
    · exact readL_append base c l _
    · rfl
theorem readL_mono {base : Nat} (hb : 1 ≤ base) : ∀ (l : List UInt8) (acc n : Nat), readL base acc l = some n → acc ≤ n
  | [], acc, n, h => by
    have : acc = n := Option.some.inj h
    omega
  | d :: l, acc, n, h => by
    have h' : (if dvN d < base then readL base (acc * base + dvN d) l else none) = some n := h
    split at h'
    · have := readL_mono hb l _ n h'
      have : acc * 1 ≤ acc * base := Nat.mul_le_mul_left _ hb
      omega
    · cases h'
theorem readL_dec (n : Nat) : readL 10 0 (Lib.decDigits n) = some n := by
  induction n using Nat.strongRecOn with
  | ind n ih =>
    by_cases h : n < 10
    · rw [Lib.decDigits, dif_pos h, ← hexD_dec h]
      show (if dvN (hexD n) < 10 then readL 10 (0 * 10 + dvN (hexD n)) [] else none) = _
      rw [dvN_hexD (by omega), if_pos h]
      show some (0 * 10 + n) = some n
      rw [Nat.zero_mul, Nat.zero_add]
    · rw [dec_step (by omega), readL_append, ih (n / 10) (by omega)]
      show (if dvN (hexD (n % 10)) < 10 then some (n / 10 * 10 + dvN (hexD (n % 10))) else none) = _
      rw [dvN_hexD (by omega), if_pos (by omega)]
      congr 1
      omega
theorem readL_hexN : ∀ (k b acc : Nat), b < 16 ^ k → readL 16 acc (hexN k b) = some (acc * 16 ^ k + b)
  | 0, b, acc, h => by
    have : b = 0 := by simpa using h
    subst this
    show some acc = _
    simp
  | k + 1, b, acc, h => by
    have hd : b / 16 < 16 ^ k := by
      rw [Nat.div_lt_iff_lt_mul (by decide), ← Nat.pow_succ]
      exact h
    rw [hexN, readL_append, readL_hexN k (b / 16) acc hd]
    show (if dvN (hexD (b % 16)) < 16 then some ((acc * 16 ^ k + b / 16) * 16 + dvN (hexD (b % 16))) else none) = _
    rw [dvN_hexD (by omega), if_pos (by omega)]
    have e : (acc * 16 ^ k + b / 16) * 16 + b % 16 = acc * 16 ^ (k + 1) + b := by
      rw [Nat.pow_succ, ← Nat.mul_assoc]
      generalize acc * 16 ^ k = X
      omega
    rw [e]
/-- digits without a 0 ahead are their number's -/
theorem canon : ∀ (m : Nat) (l : List UInt8) (n : Nat), l.length = m + 1 → readL 10 0 l = some n → ¬ (1 < l.length ∧ l.head? = some 48) → Lib.decDigits n = l
  | 0, l, n, hl, h, _ => by
    obtain ⟨c, rfl⟩ := List.length_eq_one_iff.1 hl
    have h' : (if dvN c < 10 then some (0 * 10 + dvN c) else none) = some n := h
    split at h'
    · rename_i g
      have e : n = dvN c := by
        have := Option.some.inj h'
        omega
      rw [e, Lib.decDigits, dif_pos g, ← hexD_dec g, ← eq_hexD (by omega)]
    · cases h'
  | m + 1, l, n, hl, h, hz => by
    rcases List.eq_nil_or_concat l with rfl | ⟨l', c, rfl⟩
    · simp at hl
    rw [List.concat_eq_append] at *
    have hl' : l'.length = m + 1 := by simpa using hl
    rw [readL_append] at h
    cases h1 : readL 10 0 l' with
    | none => rw [h1] at h; cases h
    | some n' =>
      rw [h1] at h
      have h2 : (if dvN c < 10 then some (n' * 10 + dvN c) else none) = some n := h
      have hh : (l' ++ [c]).head? = l'.head? := by
        cases l' with
        | nil => simp at hl'
        | cons a b => rfl
      have hne : l'.head? ≠ some 48 := fun q => hz ⟨by simp; omega, by rw [hh]; exact q⟩
      have ih := canon m l' n' hl' h1 (fun q => hne q.2)
      have hp : n' ≠ 0 := fun q => by
        subst q
        apply hne
        rw [← ih, Lib.decDigits, dif_pos (by decide)]
        rfl
      split at h2
      · rename_i g
        have e : n = n' * 10 + dvN c := (Option.some.inj h2).symm
        rw [dec_step (by omega), show n / 10 = n' by omega, show n % 10 = dvN c by omega, ih, ← eq_hexD (by omega)]
      · cases h2
theorem dec_head : ∀ n : Nat, n ≠ 0 → (Lib.decDigits n).head? ≠ some 48 := by
  intro n
  induction n using Nat.strongRecOn with
  | ind n ih =>
    intro hn
    by_cases h : n < 10
    · rw [Lib.decDigits, dif_pos h, ← hexD_dec h]
      intro q
      have q' : hexD n = 48 := Option.some.inj q
      have := hexD_toNat10 h
      rw [q'] at this
      have e : (48 : UInt8).toNat = 48 := rfl
      omega
    · rw [dec_step (by omega)]
      have := ih (n / 10) (by omega) (by omega)
      have hl := Lib.decDigits_length (n / 10)
      have hp := Lib.nDigits_pos (n / 10)
      cases hd : Lib.decDigits (n / 10) with
      | nil => rw [hd] at hl; simp at hl; omega
      | cons a b => rw [hd] at this; exact this
theorem dec_canon (n : Nat) : ¬ (1 < (Lib.decDigits n).length ∧ (Lib.decDigits n).head? = some 48) := by
  rintro ⟨h1, h2⟩
  by_cases h : n = 0
  · subst h
    rw [Lib.decDigits_length, Lib.nDigits_small (by decide)] at h1
    omega
  · exact dec_head n h h2
theorem dec_pos (n : Nat) : 1 ≤ (Lib.decDigits n).length := by rw [Lib.decDigits_length]; exact Lib.nDigits_pos n
theorem nDigits_of_lt : ∀ (k n : Nat), n < 10 ^ k → 1 ≤ k → Lib.nDigits n ≤ k
  | 0, _, _, h => by omega
  | k + 1, n, h, _ => by
    by_cases g : n < 10
    · rw [Lib.nDigits_small g]; omega
    · rw [Lib.nDigits_big g]
      have hd : n / 10 < 10 ^ k := by
        rw [Nat.div_lt_iff_lt_mul (by decide), ← Nat.pow_succ]
        exact h
      have hk : 1 ≤ k := by
        rcases Nat.eq_zero_or_pos k with z | z
        · subst z; simp at h; omega
        · exact z
      have := nDigits_of_lt k (n / 10) hd hk
      omega

/-! the library's reading of digits -/
theorem parseUintM_of (M : Nat) (hM : M < 18446744073709551616) : ∀ (l : List UInt8) (acc n : Nat), readL 10 acc l = some n → n ≤ M → Lib.parseUintM M acc l = .ok n
  | [], acc, n, h, _ => by rw [show acc = n from Option.some.inj h]; rfl
  | c :: l, acc, n, h, hn => by
    have h' : (if dvN c < 10 then readL 10 (acc * 10 + dvN c) l else none) = some n := h
    split at h'
    · rename_i g
      obtain ⟨g1, g2, g3⟩ := dvN_lt10 g
      have hm := readL_mono (by decide) l _ n h'
      have ih := parseUintM_of M hM l _ n h' hn
      rw [g3] at ih hm
      rw [Lib.parseUintM, if_pos ⟨g1, g2⟩, if_neg (by omega), if_neg (by omega)]
      exact ih
    · cases h'
theorem parseIntB_dec (B n : Nat) (hB : B = 32 ∨ B = 64) (hn : n < 2 ^ (B - 1)) : Lib.parseIntB B (Lib.decDigits n) = .ok (n : Int) := by
  have hr := readL_dec n
  cases hd : Lib.decDigits n with
  | nil => have := dec_pos n; rw [hd] at this; simp at this
  | cons c r =>
    rw [hd] at hr
    have hc : dvN c < 10 := by
      have h' : (if dvN c < 10 then readL 10 (0 * 10 + dvN c) r else none) = some n := hr
      split at h'
      · assumption
      · cases h'
    obtain ⟨g1, g2, g3⟩ := dvN_lt10 hc
    rw [Lib.parseIntB_plain B c r (by omega) (by omega), Lib.parseUintB, if_neg (by simp)]
    have hM : 2 ^ B - 1 < 18446744073709551616 := by rcases hB with rfl | rfl <;> decide
    have hle : n ≤ 2 ^ B - 1 := by rcases hB with rfl | rfl <;> (simp at hn ⊢; omega)
    rw [parseUintM_of _ hM _ _ n hr hle]
    show (if 2 ^ (B - 1) ≤ n then Lib.NumEnd.range else .ok (n : Int)) = _
    rw [if_neg (by omega)]
theorem parseIntB_neg (m : Nat) (hm : m < 9223372036854775808) : Lib.parseIntB 64 (45 :: Lib.decDigits m) = .ok (-(m : Int)) := by
  rw [Lib.parseIntB_minus, Lib.parseUintB, if_neg (by have := dec_pos m; intro h; rw [h] at this; simp at this)]
  rw [parseUintM_of (2 ^ 64 - 1) (by decide) _ _ m (readL_dec m) (by omega)]
  show (if 2 ^ (64 - 1) < m then Lib.NumEnd.range else .ok (-(m : Int))) = _
  rw [if_neg (by omega)]
theorem parseIntB_itoa (z : Int) (h0 : -9007199254740992 < z) (h1 : z < 9007199254740992) : Lib.parseIntB 64 (Lib.itoa z) = .ok z := by
  by_cases h : z < 0
  · obtain ⟨m, rfl⟩ : ∃ m : Nat, z = -(m : Int) := ⟨z.natAbs, by omega⟩
    rw [Lib.itoa_neg m (by omega)]
    exact parseIntB_neg m (by omega)
  · obtain ⟨m, rfl⟩ : ∃ m : Nat, z = (m : Int) := ⟨z.toNat, by omega⟩
    rw [Lib.itoa_nonneg]
    exact parseIntB_dec 64 m (.inr rfl) (by omega)
end Go.Proofs.YtlnobfmbnnfbdaaGreatDoor
