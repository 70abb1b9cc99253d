/- the document's Parse, without the walk -/
import Derived.Test.YtlnobfmbnnfbdaaGreatDoorCI2
import Derived.Test.YtlnobfmbnnfbdaaGreatDoorCP3
namespace Go.Proofs.YtlnobfmbnnfbdaaGreatDoor
open Go.ChangeShapes Go.WideShapes Go.ChangeAt Go.RowKit Num

theorem pf_over {r : List UInt8} {c : List Ins} (h : r ≠ []) : instrsF 0 r c = .error (50, 1026) := by
  unfold instrsF
  rw [if_neg (fun q => h q.1)]
theorem pf_end {m : Nat} {r : List UInt8} {c : List Ins} (h : ¬ (r = [] ∧ c ≠ [])) (hc : (cutB 10 r).2.2 = false) : instrsF (m + 1) r c = .error (20, 1025 - m) := by
  unfold instrsF
  rw [if_neg h, if_pos hc]
theorem pf_bad {m : Nat} {r : List UInt8} {c : List Ins} (h : r ≠ []) (hc : (cutB 10 r).2.2 = true) (hr : readI (cutB 10 r).1 = none) : instrsF (m + 1) r c = .error (20, 1025 - m) := by
  unfold instrsF
  rw [if_neg (fun q => h q.1), if_neg (by rw [hc]; decide), hr]
theorem pf_got {m : Nat} {r : List UInt8} {c : List Ins} {i : Ins} (h : r ≠ []) (hc : (cutB 10 r).2.2 = true) (hr : readI (cutB 10 r).1 = some i) : instrsF (m + 1) r c = instrsF m (cutB 10 r).2.1 (c ++ [i]) := by
  conv => lhs; unfold instrsF
  rw [if_neg (fun q => h q.1), if_neg (by rw [hc]; decide), hr]
theorem pf_done {m : Nat} {c : List Ins} (h : c ≠ []) : instrsF m [] c = .ok c := by
  cases m <;> (unfold instrsF; rw [if_pos ⟨rfl, h⟩])
theorem cut_here {l : List UInt8} {fr e : Nat} (hfe : fr ≤ e) (he : e < l.length) (hn : 10 ∉ (l.drop fr).take (e - fr)) (hc : l.getD e 0 = 10) : cutB 10 (l.drop fr) = ((l.drop fr).take (e - fr), l.drop (e + 1), true) := by
  have h1 : e - fr < (l.drop fr).length := by rw [List.length_drop]; omega
  have h2 : (l.drop fr).getD (e - fr) 0 = 10 := by
    rw [← hc]
    simp only [List.getD_eq_getElem?_getD, List.getElem?_drop]
    congr 2
    omega
  have h3 := split_at (l.drop fr) h1 h2
  have h4 : (l.drop fr).drop (e - fr + 1) = l.drop (e + 1) := by rw [List.drop_drop]; congr 1; omega
  rw [h4] at h3
  conv => lhs; rw [h3]
  exact cutB_mk 10 _ _ hn
theorem cut_none {l : List UInt8} {fr : Nat} (hn : 10 ∉ (l.drop fr).take (l.length - fr)) : cutB 10 (l.drop fr) = (l.drop fr, [], false) := by
  rw [List.take_of_length_le (by rw [List.length_drop]; omega)] at hn
  exact cutB_mk0 10 _ hn
theorem cut_on {l : List UInt8} {fr e : Nat} (hfe : fr ≤ e) (he : e < l.length) (hn : 10 ∉ (l.drop fr).take (e - fr)) (hc : l.getD e 0 ≠ 10) : 10 ∉ (l.drop fr).take (e + 1 - fr) := by
  rw [show e + 1 - fr = e - fr + 1 by omega]
  refine take_succ_not (by rw [List.length_drop]; omega) hn ?_
  simp only [List.getD_eq_getElem?_getD, List.getElem?_drop] at hc ⊢
  rw [show fr + (e - fr) = e by omega]
  exact hc
theorem drop_some {l : List UInt8} {fr : Nat} (h : fr < l.length) : l.drop fr ≠ [] := fun q => by
  have := congrArg List.length q
  rw [List.length_drop] at this
  simp at this
  omega
/-- how far reading has come: k lines, up to the place fr -/
def SoFar (l : List UInt8) (k fr : Nat) (t : Int) (c : List Ins) : Prop := (k = 0 ∧ fr = 0 ∧ t = 0 ∧ c = []) ∨ (1 ≤ k ∧ k ≤ 1025 ∧ c.length + 1 = k ∧ parseP l = ended t (instrsF (1025 - k) (l.drop fr) c))
section
variable {l : List UInt8} {k fr e : Nat} {t : Int} {c : List Ins}
theorem SoFar.le (h : SoFar l k fr t c) : k ≤ 1025 := by rcases h with ⟨h, _⟩ | ⟨_, h, _⟩ <;> omega
theorem SoFar.over (h : SoFar l k fr t c) (hk : 1025 < k + 1) (hf : fr < l.length) : parseP l = .error (50, (k : Int) + 1) := by
  rcases h with ⟨h1, _⟩ | ⟨h1, h2, h3, h4⟩
  · omega
  · rw [h4, show 1025 - k = 0 by omega, pf_over (drop_some hf)]
    show Except.error ((50 : Int), (1026 : Int)) = _
    rw [show (k : Int) + 1 = 1026 by omega]
theorem SoFar.noEnd (h : SoFar l k fr t c) (hl : l.length ≤ 65536) (hk : ¬ 1025 < k + 1) (hf : fr < l.length) (hc : (cutB 10 (l.drop fr)).2.2 = false) : parseP l = .error (20, (k : Int) + 1) := by
  rcases h with ⟨h1, h2, h3, h4⟩ | ⟨h1, h2, h3, h4⟩
  · subst h1 h2
    unfold parseP
    rw [if_neg (by omega)]
    rw [List.drop_zero] at hc
    rw [if_pos hc]
    rfl
  · obtain ⟨m, hm⟩ : ∃ m, 1025 - k = m + 1 := ⟨1024 - k, by omega⟩
    rw [h4, hm, pf_end (fun q => drop_some hf q.1) hc]
    show Except.error ((20 : Int), (1025 : Int) - m) = _
    rw [show (1025 : Int) - m = (k : Int) + 1 by omega]
theorem SoFar.tagged (h : SoFar l 0 fr t c) (hl : l.length ≤ 65536) (hc : (cutB 10 (l.drop fr)).2.2 = true) : (∀ t', tagOf (cutB 10 (l.drop fr)).1 = some t' → ∀ fr', (cutB 10 (l.drop fr)).2.1 = l.drop fr' → SoFar l 1 fr' t' c) ∧ (tagOf (cutB 10 (l.drop fr)).1 = none → parseP l = .error (20, 1)) := by
  rcases h with ⟨_, h2, h3, h4⟩ | ⟨h1, _⟩
  · subst h2 h4
    rw [List.drop_zero] at hc ⊢
    refine ⟨fun t' ht fr' hfr => .inr ⟨by decide, by decide, rfl, ?_⟩, fun ht => ?_⟩
    · unfold parseP
      rw [if_neg (by omega), if_neg (by rw [hc]; decide), ht, hfr]
    · unfold parseP
      rw [if_neg (by omega), if_neg (by rw [hc]; decide), ht]
  · omega
theorem SoFar.lined (h : SoFar l k fr t c) (hk0 : k ≠ 0) (hk : ¬ 1025 < k + 1) (hf : fr < l.length) (hc : (cutB 10 (l.drop fr)).2.2 = true) : (∀ i, readI (cutB 10 (l.drop fr)).1 = some i → ∀ fr', (cutB 10 (l.drop fr)).2.1 = l.drop fr' → SoFar l (k + 1) fr' t (c ++ [i])) ∧ (readI (cutB 10 (l.drop fr)).1 = none → parseP l = .error (20, (k : Int) + 1)) := by
  rcases h with ⟨h1, _⟩ | ⟨h1, h2, h3, h4⟩
  · exact absurd h1 hk0
  · obtain ⟨m, hm⟩ : ∃ m, 1025 - k = m + 1 := ⟨1024 - k, by omega⟩
    refine ⟨fun i hi fr' hfr => .inr ⟨by omega, by omega, by simp; omega, ?_⟩, fun hi => ?_⟩
    · rw [h4, hm, pf_got (drop_some hf) hc hi, hfr, show 1025 - (k + 1) = m by omega]
    · rw [h4, hm, pf_bad (drop_some hf) hc hi]
      show Except.error ((20 : Int), (1025 : Int) - m) = _
      rw [show (1025 : Int) - m = (k : Int) + 1 by omega]
theorem SoFar.bare (h : SoFar l k fr t []) (hl : l.length ≤ 65536) (hf : l.length ≤ fr) : parseP l = .error (20, (k : Int) + 1) := by
  rcases h with ⟨h1, h2, _⟩ | ⟨h1, h2, h3, h4⟩
  · subst h1 h2
    have : l = [] := List.eq_nil_of_length_eq_zero (by omega)
    subst this
    rfl
  · have hk : k = 1 := by simpa using h3.symm
    subst hk
    rw [h4, List.drop_eq_nil_of_le hf]
    rfl
theorem SoFar.done (h : SoFar l k fr t c) (hc : c ≠ []) (hf : l.length ≤ fr) : parseP l = placed t c := by
  rcases h with ⟨_, _, _, h4⟩ | ⟨h1, h2, h3, h4⟩
  · exact absurd h4 hc
  · rw [h4, List.drop_eq_nil_of_le hf, pf_done hc]
    rfl
end
theorem parse_over {l : List UInt8} (h : 65536 < l.length) : parseP l = .error (2, 0) := by
  unfold parseP
  rw [if_pos h]
/-- Parse's boxes -/
def PBox (w : World) (b : Nat) (t : Int) (v : Value) : Prop := w.heap[b]? = some (.cells #[.int .i64 t, v] 24 (0, 0))
theorem PBox.on {w w' : World} {b : Nat} {t : Int} {v : Value} (h : PBox w b t v) (hb : Below w.heap.size w w') : PBox w' b t v := (hb.block b (lt_of_block h)).trans h
/-- what the loop keeps -/
structure RP (w wr : World) (t : Int) (c : List Ins) (v : Value) : Prop where
  rbox : PBox wr w.heap.size 0 (.slice none 0 0)
  nbox : PBox wr (w.heap.size + 1) 0 (.slice none 0 0)
  pbox : PBox wr (w.heap.size + 2) t v
  row : CodeRow w.heap.size wr v c
  bl : Below w.heap.size w wr
  good : ∀ i ∈ c, Good i
section
variable {w wr wr' : World} {t : Int} {c : List Ins} {v : Value}
theorem RP.on (h : RP w wr t c v) (hb : Below wr.heap.size wr wr') : RP w wr' t c v :=
  ⟨h.rbox.on hb, h.nbox.on hb, h.pbox.on hb, ownsOn h.row hb, chain5 h.bl hb, h.good⟩
theorem RP.tag (h : RP w wr t c v) (t' : Int) : RP w (wr.setCell ⟨w.heap.size + 2, 0, none⟩ (.int .i64 t')) t' c v :=
  ⟨(heap_setCell_other _ _ _ _ (by simp)).trans h.rbox, (heap_setCell_other _ _ _ _ (by simp)).trans h.nbox, (heap_setCell_same wr (w.heap.size + 2) 0 _ _ _ h.pbox).trans rfl, row_put h.row (row_ne h.row h.pbox (by decide)), below_put _ h.bl (by omega), h.good⟩
/-- behind an append and the store -/
theorem RP.next {u w5 : World} {g cap : Nat} {i : Ins} (h : RP w wr t c v) (hb : Below wr.heap.size wr u) (hi : Good i)
    (hown : w5.ownsRow w.heap.size 42 3 (.slice (some ⟨g, 0, none⟩) (c.length + 1) cap) (c.length + 1) (c.flatMap insC ++ insC i)) (hg : u.grownBy w5 v.ownBlock) (hat : v.ownBlock = some g ∨ g = u.heap.size) :
    RP w (w5.setCell ⟨w.heap.size + 2, 1, none⟩ (.slice (some ⟨g, 0, none⟩) (c.length + 1) cap)) t (c ++ [i]) (.slice (some ⟨g, 0, none⟩) (c.length + 1) cap) := by
  have h1 := h.on hb
  have nr := row_ne h1.row h1.rbox (by decide)
  have nn := row_ne h1.row h1.nbox (by decide)
  have np := row_ne h1.row h1.pbox (by decide)
  have k5 : ∀ j, j < u.heap.size → v.ownBlock ≠ some j → w5.heap[j]? = u.heap[j]? := fun j hj hn => hg.block j hj (fun q => hn q.symm)
  have r5 := (k5 _ (lt_of_block h1.rbox) nr).trans h1.rbox
  have n5 := (k5 _ (lt_of_block h1.nbox) nn).trans h1.nbox
  have p5 := (k5 _ (lt_of_block h1.pbox) np).trans h1.pbox
  have gp : g ≠ w.heap.size + 2 := by
    rcases hat with q | q
    · rintro rfl; exact np q
    · have := lt_of_block h1.pbox; omega
  have e1 : (c ++ [i]).length = c.length + 1 := by simp
  have e2 : (c ++ [i]).flatMap insC = c.flatMap insC ++ insC i := by simp
  have row5 : CodeRow w.heap.size w5 (.slice (some ⟨g, 0, none⟩) (c.length + 1) cap) (c ++ [i]) := by
    unfold CodeRow
    rw [e1, e2]
    exact hown
  have bl5 : Below w.heap.size w w5 := ⟨hg.os.trans h1.bl.os, hg.tape.trans h1.bl.tape, hg.output.trans h1.bl.output, Nat.le_trans h1.bl.size hg.size, fun j hj => (k5 j (Nat.lt_of_lt_of_le hj h1.bl.size) (fun q => by have := (h1.row.lt j q).1; omega)).trans (h1.bl.block j hj)⟩
  refine ⟨(heap_setCell_other _ _ _ _ (by simp)).trans r5, (heap_setCell_other _ _ _ _ (by simp)).trans n5, (heap_setCell_same w5 (w.heap.size + 2) 1 _ _ _ p5).trans rfl, row_put row5 (by simpa [Value.ownBlock] using gp), below_put _ bl5 (by omega), fun j hj => ?_⟩
  rcases List.mem_append.1 hj with q | q
  · exact h.good j q
  · rw [List.mem_singleton] at q
    subst q
    exact hi
end
end Go.Proofs.YtlnobfmbnnfbdaaGreatDoor
