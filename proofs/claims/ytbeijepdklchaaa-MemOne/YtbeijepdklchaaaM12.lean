import Derived.Test.YtbeijepdklchaaaM11
namespace Go.Proofs.Ytbeijepdklchaaa
open Go.ChangeShapes Go.WideShapes Go.ChangeAt Go.RowKit

/-- how many accesses may be -/
def letN (o : Bool) : Int := if o then 1 else 0
theorem letN_nonneg (o : Bool) : 0 ≤ letN o := by cases o <;> decide
theorem up_ne (c : Int) : ¬ c = up c := by
  unfold up wrap64
  omega
/-- in how many of the first k places two lists part -/
def diff (a b : List Int) : Nat → Nat
  | 0 => 0
  | k + 1 => diff a b k + if a.getD k 0 = b.getD k 0 then 0 else 1
theorem diff_le (a b : List Int) : ∀ k, diff a b k ≤ k
  | 0 => Nat.le_refl _
  | k + 1 => by
    have := diff_le a b k
    show diff a b k + _ ≤ k + 1
    split <;> omega
theorem diff_self (a : List Int) : ∀ k, diff a a k = 0
  | 0 => rfl
  | k + 1 => by
    show diff a a k + _ = 0
    rw [diff_self a k, if_pos rfl]
theorem diff_set (a : List Int) (j : Nat) (v : Int) : ∀ k, diff a (a.set j v) k ≤ (if j < k then 1 else 0)
  | 0 => Nat.zero_le _
  | k + 1 => by
    have h := diff_set a j v k
    show diff a (a.set j v) k + _ ≤ _
    by_cases hj : j = k
    · subst hj
      rw [if_neg (Nat.lt_irrefl j)] at h
      rw [if_pos (Nat.lt_succ_self j)]
      split <;> omega
    · have e : a.getD k 0 = (a.set j v).getD k 0 := by
        rw [List.getD, List.getD, List.getElem?_set_ne hj]
      rw [if_pos e]
      by_cases hl : j < k
      · rw [if_pos hl] at h
        rw [if_pos (by omega)]
        omega
      · rw [if_neg hl] at h
        rw [if_neg (by omega)]
        omega
structure One (W w : World) (b g n : Nat) (ws : List Int) (o : Bool) (c : Int) : Prop where
  m : MemAt 57 w b g ws o c
  len : ws.length = n
  below : Below W.heap.size W w
  hm : W.heap.size ≤ b ∧ W.heap.size ≤ g
theorem One.on {W w w' : World} {b g n : Nat} {ws : List Int} {o : Bool} {c : Int} (h : One W w b g n ws o c) (k : Below w.heap.size w w') : One W w' b g n ws o c := ⟨h.m.on k, h.len, below_chain h.below k, h.hm⟩
/-- behind the step of kind k: what has become of it; e: the error, l: what was let -/
def Aft (W w : World) (b g n ob gb : Nat) (ws : List Int) (c k a v e l : Int) : Prop :=
  ∃ ws' o' c', One W w b g n ws' o' c' ∧ ((e = 0 ∧ l = 1 ∧ o' = false ∧ c' = up c) ∨ (¬ e = 0 ∧ l = letN o' ∧ c' = c)) ∧ (ws' = ws ∨ ((k = 3 ∨ k = 4 ∨ k = 6) ∧ ∃ j x, ws' = ws.set j x)) ∧ RowAt w gb ws ∧ w.heap[ob]? = some (.cells #[.int .i64 k, .int .i64 a, .int .u64 v] 34 (0, 0))
section
variable {W w w' : World} {b g n ob gb : Nat} {ws : List Int} {o : Bool} {c k a v : Int}
theorem aft_keep (h : One W w b g n ws o c) (hr : RowAt w gb ws) (ho : w.heap[ob]? = some (.cells #[.int .i64 k, .int .i64 a, .int .u64 v] 34 (0, 0))) (ne : b ≠ gb ∧ g ≠ gb ∧ b ≠ ob ∧ g ≠ ob) {ws' : List Int} {o' : Bool} {c' : Int} (hm : MemAt 57 w' b g ws' o' c') (hc : Chg b g w w') (hl : ws'.length = ws.length) :
    One W w' b g n ws' o' c' ∧ RowAt w' gb ws ∧ w'.heap[ob]? = some (.cells #[.int .i64 k, .int .i64 a, .int .u64 v] 34 (0, 0)) :=
  ⟨⟨hm, hl.trans h.len, below_chg h.below hc h.hm.1 h.hm.2, h.hm⟩, hr.keep (hc.block _ hr.lt ne.1.symm ne.2.1.symm), (hc.block _ (lt_of_block ho) ne.2.2.1.symm ne.2.2.2.symm).trans ho⟩
theorem aft_acc (h : One W w b g n ws o c) (hr : RowAt w gb ws) (ho : w.heap[ob]? = some (.cells #[.int .i64 k, .int .i64 a, .int .u64 v] 34 (0, 0))) (ne : b ≠ gb ∧ g ≠ gb ∧ b ≠ ob ∧ g ≠ ob) {ws' : List Int} (i : Int) (hm : MemAt 57 w' b g ws' (spentO ws o i) (spentC ws o i c)) (hc : Chg b g w w')
    (hw : ws' = ws ∨ ((k = 3 ∨ k = 4 ∨ k = 6) ∧ ∃ j x, ws' = ws.set j x)) : Aft W w' b g n ob gb ws c k a v (errA ws o i) (letN o) := by
  have hl : ws'.length = ws.length := by
    rcases hw with e | ⟨_, j, x, e⟩
    · rw [e]
    · rw [e, List.length_set]
  obtain ⟨h1, h2, h3⟩ := aft_keep h hr ho ne hm hc hl
  refine ⟨_, _, _, h1, ?_, hw, h2, h3⟩
  unfold errA spentO spentC
  cases hasB ws i <;> cases o <;> simp [letN]
theorem aft_open (h : One W w b g n ws o c) (hr : RowAt w gb ws) (ho : w.heap[ob]? = some (.cells #[.int .i64 k, .int .i64 a, .int .u64 v] 34 (0, 0))) (ne : b ≠ gb ∧ g ≠ gb ∧ b ≠ ob ∧ g ≠ ob) (hm : MemAt 57 w' b g ws true c) (hc : Chg b g w w') : Aft W w' b g n ob gb ws c k a v 31 1 := by
  obtain ⟨h1, h2, h3⟩ := aft_keep h hr ho ne hm hc rfl
  exact ⟨_, _, _, h1, .inr ⟨by decide, rfl, rfl⟩, .inl rfl, h2, h3⟩
theorem poked_set (ws : List Int) (i x : Int) : ∃ j y, poked ws i x = ws.set j y := by
  unfold poked
  split
  · exact ⟨_, _, rfl⟩
  · exact ⟨ws.length, 0, by rw [List.set_eq_of_length_le (Nat.le_refl _)]⟩
theorem stored_set (ws : List Int) (o : Bool) (i x : Int) : ∃ j y, stored ws o i x = ws.set j y := by
  unfold stored
  split
  · exact ⟨_, _, rfl⟩
  · exact ⟨ws.length, 0, by rw [List.set_eq_of_length_le (Nat.le_refl _)]⟩
theorem aft_poke (h : One W w b g n ws o c) (hr : RowAt w gb ws) (ho : w.heap[ob]? = some (.cells #[.int .i64 6, .int .i64 a, .int .u64 v] 34 (0, 0))) (ne : b ≠ gb ∧ g ≠ gb ∧ b ≠ ob ∧ g ≠ ob) {i x : Int} (hm : MemAt 57 w' b g (poked ws i x) o c) (hc : Chg b g w w') : Aft W w' b g n ob gb ws c 6 a v 31 (letN o) := by
  obtain ⟨j, y, e⟩ := poked_set ws i x
  obtain ⟨h1, h2, h3⟩ := aft_keep h hr ho ne hm hc (by rw [e, List.length_set])
  exact ⟨_, _, _, h1, .inr ⟨by decide, rfl, rfl⟩, .inr ⟨by decide, j, y, e⟩, h2, h3⟩
theorem aft_none (h : One W w b g n ws o c) (hr : RowAt w gb ws) (ho : w.heap[ob]? = some (.cells #[.int .i64 k, .int .i64 a, .int .u64 v] 34 (0, 0))) : Aft W w b g n ob gb ws c k a v 31 (letN o) :=
  ⟨_, _, _, h, .inr ⟨by decide, rfl, rfl⟩, .inl rfl, hr, ho⟩
end
end Go.Proofs.Ytbeijepdklchaaa
