import Derived.Test.YtifiebgmjpjakaaDO
namespace Go.Proofs.Ytifiebgmjpjakaa
open Go.ChangeShapes Go.WideShapes Go.ChangeAt Go.RowKit

/-- how rounds stand between calls: at most 8 threads, none else goes, who was stepped goes, and of those who go one was not stepped -/
structure Inv (m : Rd) : Prop where
  lo : 1 ≤ m.n
  hi : m.n ≤ 8
  out : ∀ k, m.n ≤ k → m.g k = false
  sub : ∀ k, m.s k = true → m.g k = true
  due : (∃ k, m.g k = true) → ∃ k, m.g k = true ∧ m.s k = false
/-- the same, but for the last: ahead of settle -/
structure Pre (m : Rd) : Prop where
  lo : 1 ≤ m.n
  hi : m.n ≤ 8
  out : ∀ k, m.n ≤ k → m.g k = false
  sub : ∀ k, m.s k = true → m.g k = true
theorem Inv.pre {m : Rd} (h : Inv m) : Pre m := ⟨h.lo, h.hi, h.out, h.sub⟩
theorem Pre.lt {m : Rd} (h : Pre m) {k : Nat} (hk : m.g k = true) : k < m.n := by
  by_cases q : k < m.n
  · exact q
  · rw [h.out k (by omega)] at hk
    cases hk
/-- when the round is over -/
theorem overB_iff {m : Rd} (h : Pre m) : overB m = true ↔ (∃ k, m.g k = true) ∧ ∀ k, m.g k = true → m.s k = true := by
  unfold overB
  rw [Bool.and_eq_true, Bool.not_eq_true', Bool.eq_false_iff, ne_eq, eq8_iff, eq8_iff]
  constructor
  · rintro ⟨h1, h2⟩
    refine ⟨?_, fun k hk => ?_⟩
    · refine Classical.byContradiction fun q => h1 fun k _ => ?_
      cases hg : m.g k
      · rfl
      · exact absurd ⟨k, hg⟩ q
    · rw [h2 k (by have := h.lt hk; have := h.hi; omega)]
      exact hk
  · rintro ⟨⟨k, hk⟩, h2⟩
    refine ⟨fun q => ?_, fun j _ => ?_⟩
    · have := q k (by have := h.lt hk; have := h.hi; omega)
      rw [hk] at this
      cases this
    · cases hg : m.g j
      · cases hs : m.s j
        · rfl
        · rw [h.sub j hs] at hg
          cases hg
      · exact h2 j hg
theorem settle_inv {m : Rd} (h : Pre m) : Inv (settleM m) := by
  unfold settleM
  cases e : overB m
  · refine ⟨h.lo, h.hi, h.out, h.sub, fun hk => ?_⟩
    refine Classical.byContradiction fun q => ?_
    have : overB m = true := (overB_iff h).2 ⟨hk, fun k hg => by
      cases hs : m.s k
      · exact absurd ⟨k, hg, hs⟩ q
      · rfl⟩
    rw [e] at this
    cases this
  · exact ⟨h.lo, h.hi, h.out, fun k hk => by simp [noneF] at hk, fun ⟨k, hk⟩ => ⟨k, hk, rfl⟩⟩
theorem putF_same (f : Nat → Bool) (t : Nat) (x : Bool) : putF f t x t = x := by simp [putF]
theorem putF_ne (f : Nat → Bool) {t k : Nat} (x : Bool) (h : k ≠ t) : putF f t x k = f k := by simp [putF, h]
theorem pre_step {m : Rd} (h : Inv m) {t : Nat} (ht : m.g t = true) : Pre { m with s := putF m.s t true } :=
  ⟨h.lo, h.hi, h.out, fun k hk => by
    by_cases e : k = t
    · rw [e]; exact ht
    · exact h.sub k (by rw [← hk]; exact (putF_ne m.s true e).symm)⟩
theorem pre_fin {m : Rd} (h : Inv m) (t : Nat) : Pre { m with g := putF m.g t false, s := putF m.s t false } :=
  ⟨h.lo, h.hi, fun k hk => by
    by_cases e : k = t
    · rw [e]; exact putF_same m.g t false
    · exact (putF_ne m.g false e).trans (h.out k hk), fun k hk => by
    by_cases e : k = t
    · rw [e] at hk
      have : putF m.s t false t = true := hk
      rw [putF_same] at this
      cases this
    · exact (putF_ne m.g false e).trans (h.sub k (by rw [← hk]; exact (putF_ne m.s false e).symm))⟩
theorem stepN_inv {m : Rd} (h : Inv m) (t : Nat) : Inv (stepN m t) := by
  unfold stepN
  cases e : m.g t
  · exact h
  · exact settle_inv (pre_step h e)
theorem finN_inv {m : Rd} (h : Inv m) (t : Nat) : Inv (finN m t) := by
  unfold finN
  cases e : m.g t
  · exact h
  · exact settle_inv (pre_fin h t)
theorem stepM_inv {m : Rd} (h : Inv m) (t : Int) : Inv (stepM m t) := by
  unfold stepM
  split
  · exact stepN_inv h _
  · exact h
theorem finM_inv {m : Rd} (h : Inv m) (t : Int) : Inv (finM m t) := by
  unfold finM
  split
  · exact finN_inv h _
  · exact h
theorem new_inv (n : Nat) (h1 : 1 ≤ n) (h8 : n ≤ 8) : Inv (newR n) :=
  ⟨h1, h8, fun k hk => by simp [newR]; exact hk, fun k hk => by simp [newR, noneF] at hk, fun ⟨k, hk⟩ => ⟨k, hk, rfl⟩⟩
theorem mayT_nat {t : Int} (h : mayT t = true) : ∃ n : Nat, t = n ∧ 1 ≤ n ∧ n ≤ 8 := by
  have := of_decide_eq_true h
  exact ⟨t.toNat, by omega, by omega, by omega⟩
/-- a block of two cells -/
theorem cells2 {w : World} {x : Nat} {v0 v1 : Value} {T : TypeId} (h : w.heap[x]? = some (.cells #[v0, v1] T (0, 0))) :
    w.cell? ⟨x, 0, none⟩ = some v0 ∧ w.cell? ⟨x, 1, none⟩ = some v1 ∧ x < w.heap.size :=
  ⟨by rw [cell_of_row w x 0 _ _ _ h]; rfl, by rw [cell_of_row w x 1 _ _ _ h]; rfl, lt_of_block h⟩
end Go.Proofs.Ytifiebgmjpjakaa
