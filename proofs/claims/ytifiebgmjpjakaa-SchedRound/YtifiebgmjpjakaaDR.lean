import Derived.Test.YtifiebgmjpjakaaDC
import Derived.Deep.CutBlock
import Derived.Deep.DeepCutAuto
namespace Go.Proofs.Ytifiebgmjpjakaa
open Go.ChangeShapes Go.WideShapes Go.ChangeAt Go.RowKit

/-- x tells those who are due, each once -/
structure Tells (m : Rd) (x : Nat → Nat) (N : Nat) : Prop where
  inj : ∀ i j, i < N → j < N → x i = x j → i = j
  due : ∀ k, dueB m k = true ↔ ∃ i, i < N ∧ x i = k
/-- the first i of them have been stepped -/
def mkS (m : Rd) (x : Nat → Nat) (i : Nat) : Rd := { m with s := fun k => m.s k || (List.range i).any fun j => x j == k }
/-- the round is over -/
def endS (m : Rd) : Rd := { m with s := noneF, o := m.o + 1 }
theorem mkS_zero (m : Rd) (x : Nat → Nat) : mkS m x 0 = m := by simp [mkS]
theorem mkS_at (m : Rd) (x : Nat → Nat) (i k : Nat) : (mkS m x i).s k = true ↔ m.s k = true ∨ ∃ j, j < i ∧ x j = k := by
  simp [mkS, List.any_eq_true]
theorem mkS_put (m : Rd) (x : Nat → Nat) (i : Nat) : { mkS m x i with s := putF (mkS m x i).s (x i) true } = mkS m x (i + 1) := by
  have e : putF (mkS m x i).s (x i) true = (mkS m x (i + 1)).s := by
    funext k
    rw [Bool.eq_iff_iff, mkS_at]
    by_cases q : k = x i
    · rw [q, putF_same]
      simp only [true_iff]
      exact .inr ⟨i, by omega, rfl⟩
    · rw [putF_ne _ true q, mkS_at]
      constructor
      · rintro (h | ⟨j, h1, h2⟩)
        · exact .inl h
        · exact .inr ⟨j, by omega, h2⟩
      · rintro (h | ⟨j, h1, h2⟩)
        · exact .inl h
        · exact .inr ⟨j, by
            have : j ≠ i := fun e => q (by rw [← h2, e])
            omega, h2⟩
  show Rd.mk m.n m.g (putF (mkS m x i).s (x i) true) m.o = Rd.mk m.n m.g (mkS m x (i + 1)).s m.o
  rw [e]
section
variable {m : Rd} {x : Nat → Nat} {N : Nat}
theorem Tells.g (h : Tells m x N) {i : Nat} (hi : i < N) : m.g (x i) = true ∧ m.s (x i) = false := by
  have := (h.due (x i)).2 ⟨i, hi, rfl⟩
  unfold dueB at this
  simpa using this
theorem mkS_pre (p : Pre m) (h : Tells m x N) {i : Nat} (hi : i ≤ N) : Pre (mkS m x i) :=
  ⟨p.lo, p.hi, p.out, fun k hk => by
    rcases (mkS_at m x i k).1 hk with q | ⟨j, q1, q2⟩
    · exact p.sub k q
    · rw [← q2]
      exact (h.g (by omega)).1⟩
theorem mkS_over (p : Pre m) (h : Tells m x N) {i : Nat} (hi : i ≤ N) (h0 : 0 < N) : overB (mkS m x i) = true ↔ i = N := by
  rw [overB_iff (mkS_pre p h hi)]
  constructor
  · rintro ⟨_, h2⟩
    by_cases e : i = N
    · exact e
    · have q := h2 (x i) (h.g (by omega)).1
      rcases (mkS_at m x i (x i)).1 q with q | ⟨j, q1, q2⟩
      · rw [(h.g (show i < N by omega)).2] at q
        cases q
      · have := h.inj j i (by omega) (by omega) q2
        omega
  · rintro rfl
    refine ⟨⟨x 0, (h.g h0).1⟩, fun k hk => ?_⟩
    rw [mkS_at]
    cases hs : m.s k
    · right
      refine (h.due k).1 ?_
      have hg : m.g k = true := hk
      simp [dueB, hg, hs]
    · exact .inl rfl
/-- one more is stepped -/
theorem mkS_step (p : Pre m) (h : Tells m x N) {i : Nat} (hi : i < N) : stepN (mkS m x i) (x i) = if i + 1 < N then mkS m x (i + 1) else endS m := by
  have hg : (mkS m x i).g (x i) = true := (h.g hi).1
  unfold stepN
  rw [if_pos hg, mkS_put]
  unfold settleM
  by_cases e : i + 1 < N
  · have q : overB (mkS m x (i + 1)) = false := by
      rw [Bool.eq_false_iff]
      intro z
      have := (mkS_over p h (by omega) (by omega)).1 z
      omega
    rw [q, if_pos e]
    rfl
  · have q : overB (mkS m x (i + 1)) = true := (mkS_over p h (by omega) (by omega)).2 (by omega)
    rw [q, if_neg e]
    rfl
theorem end_pre (p : Pre m) : Pre (endS m) := ⟨p.lo, p.hi, p.out, fun k hk => by simp [endS, noneF] at hk⟩
end
/-- how it stands behind i of them -/
def stR (m : Rd) (x : Nat → Nat) (N i : Nat) : Rd := if i < N then mkS m x i else endS m
theorem stR_n (m : Rd) (x : Nat → Nat) (N i : Nat) : (stR m x N i).n = m.n := by unfold stR; split <;> rfl
theorem stR_lt {m : Rd} {x : Nat → Nat} {N i : Nat} (h : i < N) : (stR m x N i).o = m.o := by unfold stR; rw [if_pos h]; rfl
theorem stR_o (m : Rd) (x : Nat → Nat) (N i : Nat) : (stR m x N i).o ≤ m.o + 1 := by unfold stR; split <;> simp [mkS, endS]
theorem stR_end {m : Rd} {x : Nat → Nat} {N : Nat} : stR m x N N = endS m := by unfold stR; rw [if_neg (by omega)]
theorem stR_zero {m : Rd} {x : Nat → Nat} {N : Nat} (h : 0 < N) : stR m x N 0 = m := by unfold stR; rw [if_pos h, mkS_zero]
theorem stR_step {m : Rd} {x : Nat → Nat} {N i : Nat} (p : Pre m) (h : Tells m x N) (hi : i < N) : stepM (stR m x N i) (x i : Int) = stR m x N (i + 1) := by
  have hh : hasT (stR m x N i) (x i : Int) = true := by
    have := p.lt (h.g hi).1
    unfold hasT
    rw [stR_n]
    exact decide_eq_true ⟨by omega, by omega⟩
  unfold stepM
  rw [if_pos hh, Int.toNat_natCast]
  unfold stR
  rw [if_pos hi]
  exact mkS_step p h hi
/-- who is due, as they are told -/
def dueD (m : Rd) : List Nat := (List.range m.n).filter (dueB m)
theorem dueL_D (m : Rd) : dueL m = (dueD m).map Int.ofNat := rfl
theorem dueD_len (m : Rd) : (dueL m).length = (dueD m).length := by rw [dueL_D, List.length_map]
theorem tells_first {m : Rd} (p : Pre m) : Tells m (fun i => (dueD m).getD i 0) (dueD m).length := by
  have nd : (dueD m).Nodup := List.Pairwise.filter _ List.nodup_range
  refine ⟨fun i j hi hj e => ?_, fun k => ?_⟩
  · simp [List.getD, hi, hj] at e
    exact (List.getElem?_inj hi nd).1 (by simp [hi, hj, e])
  · constructor
    · intro hk
      have hl : k < m.n := by
        refine p.lt ?_
        unfold dueB at hk
        rw [Bool.and_eq_true] at hk
        exact hk.1
      have hm : k ∈ dueD m := by
        unfold dueD
        rw [List.mem_filter]
        exact ⟨List.mem_range.2 hl, hk⟩
      obtain ⟨i, hi, e⟩ := List.mem_iff_getElem.1 hm
      exact ⟨i, hi, by simp [List.getD, hi, e]⟩
    · rintro ⟨i, hi, e⟩
      have hm : k ∈ dueD m := by
        rw [← e]
        simp [List.getD, hi]
      unfold dueD at hm
      rw [List.mem_filter] at hm
      exact hm.2
theorem rot_inj {N k i j : Nat} (hi : i < N) (hj : j < N) (hk : k < N) (h : (i + k) % N = (j + k) % N) : i = j := by
  have h1 : ∀ a, a < N → (a + k) % N = if a + k < N then a + k else a + k - N := fun a ha => by
    by_cases q : a + k < N
    · rw [if_pos q, Nat.mod_eq_of_lt q]
    · rw [if_neg q, Nat.mod_eq_sub_mod (by omega), Nat.mod_eq_of_lt (by omega)]
  rw [h1 i hi, h1 j hj] at h
  split at h <;> split at h <;> omega
theorem rot_all {N k t : Nat} (ht : t < N) (hk : k < N) : ∃ i, i < N ∧ (i + k) % N = t := by
  by_cases q : k ≤ t
  · exact ⟨t - k, by omega, by rw [Nat.sub_add_cancel q]; exact Nat.mod_eq_of_lt ht⟩
  · refine ⟨t + N - k, by omega, ?_⟩
    rw [show t + N - k + k = t + N by omega, Nat.add_mod_right]
    exact Nat.mod_eq_of_lt ht
theorem tells_rot {m : Rd} {x : Nat → Nat} {N k : Nat} (h : Tells m x N) (hk : k < N) : Tells m (fun i => x ((i + k) % N)) N := by
  have h0 : 0 < N := by omega
  refine ⟨fun i j hi hj e => rot_inj hi hj hk (h.inj _ _ (Nat.mod_lt _ h0) (Nat.mod_lt _ h0) e), fun t => ?_⟩
  rw [h.due t]
  constructor
  · rintro ⟨i, hi, e⟩
    obtain ⟨j, hj, e2⟩ := rot_all hi hk
    exact ⟨j, hj, by rw [e2]; exact e⟩
  · rintro ⟨i, hi, e⟩
    exact ⟨_, Nat.mod_lt _ h0, e⟩
theorem end_due (m : Rd) : dueD (endS (endS m)) = dueD (endS m) := rfl
theorem end_some {m : Rd} (p : Pre m) (h : 0 < (dueD m).length) : 0 < (dueD (endS m)).length := by
  have t := tells_first p
  obtain ⟨k, hk⟩ : ∃ k, k = (dueD m).getD 0 0 := ⟨_, rfl⟩
  have g : m.g k = true := by rw [hk]; exact (t.g h).1
  have hm : k ∈ dueD (endS m) := by
    unfold dueD
    rw [List.mem_filter]
    have hg : (endS m).g k = true := g
    have hs : (endS m).s k = false := rfl
    exact ⟨List.mem_range.2 (p.lt g), by simp [dueB, hg, hs]⟩
  exact List.length_pos_of_mem hm
theorem dueD_le {m : Rd} (p : Pre m) : (dueD m).length ≤ 8 := by
  have q := dueU_len m m.n
  have q2 := dueD_len m
  have q3 := p.hi
  unfold dueL at q2
  omega
/-- what stands in the row of those who are due -/
theorem due_row {w : World} {p : Option Addr} {c : Nat} {l : List Int} {D : List Nat} (h : RowAt 3 w p c (i64s l)) (e : l = D.map Int.ofNat) {i : Nat} (hi : i < D.length) : ∃ g, p = some ⟨g, 0, none⟩ ∧ g < w.heap.size ∧ w.cell? ⟨g, i, none⟩ = some (.int .i64 ((D.getD i 0 : Nat) : Int)) := by
  have ho := h.own
  rw [i64s_len] at ho
  have hl : l.length = D.length := by rw [e, List.length_map]
  rcases ho.2 with ⟨_, q⟩ | ⟨g, cap, cur, hv, _, hg, _⟩
  · omega
  · cases hv
    refine ⟨g, rfl, lt_of_block hg, (row_get h (j := i) ?_).1⟩
    rw [e]
    simp [i64s, List.getD, hi]
/-- rounds beside a row of numbers of its own -/
structure Rnd (W w : World) (b : Nat) (m : Rd) (p : Option Addr) (c : Nat) (l : List Int) : Prop where
  own : Own W w b m
  row : RowAt 3 w p c (i64s l)
  sep : Sep (fpR p) [b]
theorem Rnd.go {W w w' : World} {b c : Nat} {m m' : Rd} {p : Option Addr} {l : List Int} (h : Rnd W w b m p c l) (k : RdAt w' b m') (t : Turn [b] [b] w w') : Rnd W w' b m' p c l := ⟨h.own.go k t, h.row.turn t h.sep, h.sep⟩
theorem rnd_new {W w w' : World} {b c : Nat} {m : Rd} {p : Option Addr} {l : List Int} (h : Own W w b m) (hr : RowAt 3 w' p c (i64s l)) (ha : Abv w.heap.size (fpR p)) (hb : Below w.heap.size w w') : Rnd W w' b m p c l := ⟨h.on hb, hr, ha.sep (fun k hk => by simp at hk; rw [hk]; exact h.at_.lt)⟩
theorem rem_nat {i k N : Nat} : ((i : Int) + (k : Int)).tmod (N : Int) = (((i + k) % N : Nat) : Int) := by
  rw [← Int.natCast_add, Int.tmod_eq_emod_of_nonneg (by omega)]
  simp
/-- between two steps of the script -/
def HeadR (W w : World) (b n i : Nat) : Prop := ∃ m, Inv m ∧ m.n = n ∧ m.o ≤ i ∧ Own W w b m
end Go.Proofs.Ytifiebgmjpjakaa
