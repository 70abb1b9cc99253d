import Derived.Test.YtlebjdohneiaaaaYQ
namespace Go.Proofs.Ytlebjdohneiaaaa
open Go.ChangeShapes Go.WideShapes Go.ChangeAt Go.RowKit Num Go.Maps

/-- a buffer apart from all that was there -/
structure One (W w : World) (b : Nat) (F : List Nat) (mo : Int) (l : Wr) : Prop where
  m : Buf w b F mo l
  below : Below W.heap.size W w
  abv : Abv W.heap.size F
theorem One.on {W w w' : World} {b : Nat} {F : List Nat} {m : Int} {l : Wr} (h : One W w b F m l) (hb : Below w.heap.size w w') : One W w' b F m l := ⟨h.m.on hb, below_chain h.below hb, h.abv⟩
theorem One.same {W w w' : World} {b : Nat} {F : List Nat} {m : Int} {l : Wr} (h : One W w b F m l) (hb : Same w w') : One W w' b F m l := h.on (hb.below _)
def Lone (W w : World) (b : Nat) (m : Int) : Prop := ∃ F l, One W w b F m l
section
variable {W w : World} {b : Nat} {F : List Nat} {m : Int} {l : Wr}
/-- a list is told, a number is put, the list and what lay there stay -/
theorem kput {w1 : World} {o : Obj} {n : Nat} (h : One W w b F m l) (hr : TRow w1 (some ⟨w.heap.size + 1, 0, none⟩) n l) (hb : Below (w.alloc o).heap.size (w.alloc o) w1) {C : Int} (hC : (Lit.int .i64 C).wf = true) (X : Nat) : Hid (∀ w2, Same w1 w2 → Calls Try.prog 18 #[.pointer (some ⟨b, 0, none⟩), .int .i64 C, .float .f64 X] w2 fun e w' => e = .returned (.tuple #[.bool (putF m l C), .int .i64 (putE m l C)]) ∧ (∃ F', One W w' b F' m (putL m l C X)) ∧ TRow w' (some ⟨w.heap.size + 1, 0, none⟩) n l ∧ w'.heap[w.heap.size]? = (w.alloc o).heap[w.heap.size]?) := fun w2 k => by
  have h1 := (h.on (below_alloc w o)).on hb
  refine (put_any (h1.m.same k) hC X).mono fun e w' ⟨F', a1, a2, a3⟩ => ?_
  have ht := (k.turn _).trans a3
  exact ⟨a1, ⟨F', a2, turn_chain h1.below ht h1.abv, h1.abv.turn h1.below.size ht⟩, hr.turn ht (fun i hi q => by simp [fpR] at hi; have := h.m.blw _ q; omega), box_old ht h.m.blw hb⟩
end
theorem getD_at {l : Wr} {k : Nat} (h : k < l.length) : l.getD k (0, 0) = l[k] := by simp [h]
theorem TRow.two {w : World} {g c n : Nat} {l : Wr} (h : TRow w (some ⟨g, 0, none⟩) c l) (hn : l.length = n) (i : Nat) (hi : i < n) : w.cell? ⟨g, i * 2, none⟩ = some (.int .i64 (l.getD i (0, 0)).1) ∧ w.cell? ⟨g, i * 2 + 1, none⟩ = some (.float .f64 (l.getD i (0, 0)).2) ∧ g < w.heap.size := by
  obtain ⟨g', e, h2, h3, h4⟩ := h.getD hn i hi
  injection e with e
  injection e with e
  subst e
  exact ⟨h3, h4, h2⟩
theorem hasC_take {l : Wr} {k : Nat} (h : k < l.length) (c : Int) : hasC (l.take (k + 1)) c = (hasC (l.take k) c || decide ((l.getD k (0, 0)).1 = c)) := by
  rw [Bool.eq_iff_iff, Bool.or_eq_true, hasC_mem, hasC_mem, List.take_succ_eq_append_getElem h, getD_at h]
  unfold cellsOfL
  rw [List.map_append, List.mem_append, List.map_singleton, List.mem_singleton, decide_eq_true_eq, eq_comm (a := c)]
section
variable {m : Int} {l : Wr} {c : Int} {x : Nat}
theorem put_stays {k : Nat} (hk : k < l.length) : ((putL m l c x).getD k (0, 0)).1 = (l.getD k (0, 0)).1 ∧ (((putL m l c x).getD k (0, 0)).1 = c ∨ ((putL m l c x).getD k (0, 0)).2 = (l.getD k (0, 0)).2) := by
  unfold putL
  split
  · unfold putC
    split
    · rename_i hh
      have hi : idx l c < l.length := by simpa [hasC] using hh
      by_cases e : idx l c = k
      · subst e
        have q := idx_at hi
        simp [hi, q]
      · simp [hk, e]
    · simp [hk, List.getElem?_append_left hk]
  · exact ⟨rfl, .inr rfl⟩
theorem put_len_ge : l.length ≤ (putL m l c x).length := by
  unfold putL
  split
  · rw [putC_len]; split <;> omega
  · exact Nat.le_refl _
theorem put_len_old (h : hasC l c = true) : (putL m l c x).length = l.length ∧ putF m l c = false ∧ putE m l c = 0 := by
  unfold putL putF putE mayP
  simp [h, putC_len]
theorem put_len_new (h : hasC l c = false) (hf : (l.length : Int) < m) : (putL m l c x).length = l.length + 1 ∧ putF m l c = true ∧ putE m l c = 0 := by
  unfold putL putF putE mayP
  simp [h, hf, putC_len]
theorem put_len_full (h : hasC l c = false) (hf : ¬ (l.length : Int) < m) : (putL m l c x).length = l.length ∧ putF m l c = false ∧ putE m l c = 70 := by
  unfold putL putF putE mayP
  simp [h, hf]
theorem put_ways : (hasC l c = true ∧ (putL m l c x).length = l.length ∧ putF m l c = false ∧ putE m l c = 0) ∨ (hasC l c = false ∧ (l.length : Int) < m ∧ (putL m l c x).length = l.length + 1 ∧ putF m l c = true ∧ putE m l c = 0) ∨ (hasC l c = false ∧ ¬ (l.length : Int) < m ∧ (putL m l c x).length = l.length ∧ putF m l c = false ∧ putE m l c = 70) := by
  cases h : hasC l c
  · by_cases hf : (l.length : Int) < m
    · exact .inr (.inl ⟨rfl, hf, put_len_new h hf⟩)
    · exact .inr (.inr ⟨rfl, hf, put_len_full h hf⟩)
  · exact .inl ⟨rfl, put_len_old h⟩
/-- what is told of the cell behind it -/
theorem put_told : (putE m l c = 0 ∧ hasC (putL m l c x) c = true ∧ getC (putL m l c x) c = fixB x) ∨ (putE m l c = 70 ∧ hasC (putL m l c x) c = false) := by
  unfold putE putL
  cases h : mayP m l c
  · right
    unfold mayP at h
    simp at h
    simp [h.1]
  · left
    simp [hasC_put, getC_put]
end
theorem nod_ne {l : Wr} (h : (cellsOfL l).Nodup) {j k : Nat} (hk : k < l.length) (hj : j < k) : (l.getD j (0, 0)).1 ≠ (l.getD k (0, 0)).1 := fun e => by
  rw [getD_at hk, getD_at (by omega)] at e
  have h1 := idx_of h hk
  have h2 := idx_of h (i := j) (by omega)
  rw [e] at h2
  omega
theorem Buf.told {w : World} {b : Nat} {F : List Nat} {m : Int} {l : Wr} (h : Buf w b F m l) {k : Nat} (hk : k < l.length) : Calls Try.prog 20 #[.pointer (some ⟨b, 0, none⟩), .int .i64 (l.getD k (0, 0)).1] w fun e w' => e = .returned (.tuple #[.float .f64 (l.getD k (0, 0)).2, .bool true]) ∧ w' = w := by
  have := get_any h (d := (l.getD k (0, 0)).1) (by rw [getD_at hk]; exact h.wfs _ (List.getElem_mem hk))
  rw [getD_at hk, getC_of h.nod hk, hasC_of hk] at this
  rw [getD_at hk]
  exact this
end Go.Proofs.Ytlebjdohneiaaaa
