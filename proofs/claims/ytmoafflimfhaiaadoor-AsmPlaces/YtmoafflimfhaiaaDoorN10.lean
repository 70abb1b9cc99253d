/- stage 19 (asm): the document's Program -/
import Derived.Test.YtmoafflimfhaiaaDoorN9
import Derived.Test.YtmoafflimfhaiaaDoorC8
namespace Go.Proofs.YtmoafflimfhaiaaDoor.As
open Go.ChangeShapes Go.WideShapes Go.ChangeAt Go.RowKit Num Go.Maps
attribute [local go_sem] run_store_float frombits_run bits_run

/-! pure: what has been seen -/
def seenV (r : Mk) (l : Nat) : Nat := if hasM r l then plN r l + 1 else 0
def seenC (r : Mk) : List Value := (List.range 256).map fun l => .int .i64 (seenV r l : Nat)
theorem seenC_len (r : Mk) : (seenC r).length = 256 := by simp [seenC]
theorem seenC_at (r : Mk) {l : Nat} (h : l < 256) : (seenC r)[l]? = some (.int .i64 (seenV r l : Nat)) := by
  unfold seenC
  rw [List.getElem?_map, List.getElem?_range h]
  rfl
theorem seenV_cons (k p : Nat) (r : Mk) (l : Nat) : seenV ((((k : Nat) : Int), p) :: r) l = if k = l then p + 1 else seenV r l := by
  unfold seenV
  rw [hasM_cons, plN_cons]
  by_cases h : k = l
  · subst h; simp
  · have : ¬ ((k : Int) = (l : Int)) := by omega
    simp [h, this]
theorem seenC_nil : seenC [] = List.replicate 256 (.int .i64 0) := by simp [seenC, seenV, hasM, look, List.map_const']
theorem seenC_set (k p : Nat) (r : Mk) (h : k < 256) : seenC ((((k : Nat) : Int), p) :: r) = (seenC r).set k (.int .i64 ((p : Int) + 1)) := by
  apply List.ext_getElem?
  intro j
  by_cases hj : j < 256
  · rw [seenC_at _ hj, List.getElem?_set, seenC_len, seenV_cons]
    by_cases q : k = j
    · rw [if_pos q, if_pos q, if_pos h]; rfl
    · rw [if_neg q, if_neg q, seenC_at _ hj]
  · rw [List.getElem?_eq_none (by rw [seenC_len]; omega), List.getElem?_eq_none (by rw [List.length_set, seenC_len]; omega)]
/-- the first marks, the latest first -/
def suf (r : Mk) (i : Nat) : Mk := (r.reverse.take i).reverse
theorem suf_zero (r : Mk) : suf r 0 = [] := by simp [suf]
theorem suf_all (r : Mk) : suf r r.length = r := by unfold suf; rw [← List.length_reverse, List.take_length, List.reverse_reverse]
theorem suf_succ {r : Mk} {i : Nat} (h : i < r.length) : suf r (i + 1) = r.reverse.getD i (0, 0) :: suf r i := by
  unfold suf
  have h' : i < r.reverse.length := by simpa using h
  rw [List.take_succ_eq_append_getElem h', List.reverse_append, List.getD_eq_getElem?_getD, List.getElem?_eq_getElem h']
  rfl
theorem okM_right (many : Nat) : ∀ (a r : Mk), okM many (a ++ r) = true → okM many r = true
  | [], _, h => h
  | m :: a, r, h => by
    have e : okM many (m :: (a ++ r)) = (inB many m.1 && !hasM (a ++ r) m.1 && okM many (a ++ r)) := rfl
    rw [List.cons_append, e, Bool.and_eq_true] at h
    exact okM_right many a r h.2
theorem okM_suf {many : Nat} {r : Mk} (i : Nat) (h : okM many (suf r i) = false) : okM many r = false := by
  cases q : okM many r
  · rfl
  · have e : r = (r.reverse.drop i).reverse ++ suf r i := by
      unfold suf
      rw [← List.reverse_append, List.take_append_drop, List.reverse_reverse]
    rw [e] at q
    rw [okM_right many _ _ q] at h
    cases h
theorem mkC_at (r : Mk) : ∀ i, i < r.length → (mkC r)[i * 2]? = some (.int .i64 (r.reverse.getD i (0, 0)).1) ∧ (mkC r)[i * 2 + 1]? = some (.int .i64 ((r.reverse.getD i (0, 0)).2 : Nat)) := by
  intro i hi
  unfold mkC
  have hi' : i < r.reverse.length := by simpa using hi
  generalize r.reverse = l at *
  clear hi
  induction l generalizing i with
  | nil => exact absurd hi' (Nat.not_lt_zero _)
  | cons m l ih =>
    cases i with
    | zero => simp
    | succ i =>
      have := ih i (by simpa using hi')
      rw [show (i + 1) * 2 = i * 2 + 2 by omega]
      simpa using this
theorem labC_at {l : List (Option Int)} {k : Nat} (h : k < l.length) : (labC l)[k]? = some (.int .i64 ((l.getD k none).getD 0)) ∧ (tooC l)[k]? = some (.bool (l.getD k none).isSome) := by
  unfold labC tooC
  rw [List.getElem?_map, List.getElem?_map, List.getD_eq_getElem?_getD, List.getElem?_eq_getElem h]
  exact ⟨rfl, rfl⟩
theorem take_fin {s : Bs} {i : Nat} (h : i < s.code.length) : s.filled.take (i + 1) = s.filled.take i ++ [s.fin i] := by
  have h' : i < s.filled.length := by rw [filled_len]; exact h
  rw [List.take_succ_eq_append_getElem h']
  have e := filled_at h
  unfold ci at e
  rw [List.getD_eq_getElem?_getD, List.getElem?_eq_getElem h'] at e
  rw [← e]
  rfl
theorem row_new {E : TypeId} {w : World} {g c n sz : Nat} {xs : List Value} (h : w.heap[g]? = some (.cells xs.toArray E (0, 0))) (hl : xs.length = n * sz) (hc : n = c) (hm : c ≤ maxLen) : RowW E sz w (some ⟨g, 0, none⟩) c n xs := by
  subst hc
  exact ⟨⟨hl, .inr ⟨g, n, xs.toArray, rfl, Nat.zero_le _, h, Nat.le_refl _, hm, by simpa using hl, by rw [← hl]; simp⟩⟩⟩
theorem iMake (w : World) : (Instr.makeSlice 55 (.int .i64 256) (.int .i64 256)).run Tryd.prog w = .ok (.slice (some ⟨w.heap.size, 0, none⟩) 256 256) (w.alloc (.cells (seenC []).toArray 3)) := by
  obtain ⟨i, hi, hz0, hz1, hz2⟩ := info_parts iInfo
  have hr := run_make w 55 3 i (.int .i64 0) Tryd.underlying55 hi hz0 .i64 .i64 256 256 (by omega) (Int.le_refl _) (by rw [hz2]; omega) (by omega)
  rw [hr]
  have e : (madeCells (.int .i64 0 : Value).cells ((256 : Int).toNat * i.size)) = (seenC []).toArray := by
    rw [hz1, Nat.mul_one]
    apply Array.toList_inj.1
    rw [show (.int .i64 0 : Value).cells = #[.int .i64 0] from rfl, toList_madeCells_one, seenC_nil]
    rfl
  rw [e]
  rfl
/-- the first loop: the marks looked at one by one -/
structure Ra (w wr : World) (gs : Nat) (r : Mk) : Prop where
  bel : Below w.heap.size w wr
  res : wr.heap[w.heap.size]? = some (.cells #[.int .i64 0, .slice none 0 0] 37 (0, 0))
  row : RowW 3 1 wr (some ⟨gs, 0, none⟩) 256 256 (seenC r)
  lo : w.heap.size < gs
section
variable {w wr u : World} {gs b : Nat} {r : Mk} {s : Bs} {F : List Nat}
theorem Ra.on (h : Ra w wr gs r) (k : Below wr.heap.size wr u) : Ra w u gs r := ⟨h.bel.trans (k.mono h.bel.size), (k.block _ (lt_of_block h.res)).trans h.res, h.row.keep (kept_below k h.row.blw), h.lo⟩
theorem Ra.seen (h : Ra w wr gs r) {l : Nat} (hl : l < 256) : wr.cell? ⟨gs, l, none⟩ = some (.int .i64 (seenV r l : Nat)) ∧ wr.frozen? ⟨gs, l, none⟩ = false ∧ gs < wr.heap.size := by
  obtain ⟨g, e, q1, _, _, q2, q3⟩ := h.row.at (by decide)
  cases e
  exact ⟨(q2 l (by omega)).trans (seenC_at r hl), q3 l, q1⟩
theorem Ra.put (h : Ra w wr gs r) (k p : Nat) (hk : k < 256) : Ra w (wr.setCell ⟨gs, k, none⟩ (.int .i64 ((p : Int) + 1))) gs ((((k : Nat) : Int), p) :: r) := by
  have t := turn_set gs k (.int .i64 ((p : Int) + 1)) wr
  refine ⟨h.bel.trans (t.below (fun i hi => by simp at hi; have := h.lo; omega) h.bel.size), (t.block _ (lt_of_block h.res) (by simp; have := h.lo; omega)).trans h.res, ?_, h.lo⟩
  rw [seenC_set k p r hk]
  exact h.row.put k _
theorem ra_new {w1 : World} (h1 : w1 = w.alloc (.cells #[.int .i64 0, .slice none 0 0] 37)) : Ra w (w1.alloc (.cells (seenC []).toArray 3)) w1.heap.size [] := by
  subst h1
  have b1 := bl1 w (.cells #[.int .i64 0, .slice none 0 0] 37)
  refine ⟨b1.trans ((bl1 _ _).mono b1.size), (Below.heap_alloc _ _ _ (by simp)).trans (heap_alloc_new _ _), row_new (heap_alloc_new _ _) (by rw [seenC_len]) rfl (by unfold maxLen; omega), by simp⟩
end
end Go.Proofs.YtmoafflimfhaiaaDoor.As
