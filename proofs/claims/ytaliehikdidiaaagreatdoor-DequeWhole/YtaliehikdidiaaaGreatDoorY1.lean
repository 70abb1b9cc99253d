import Derived.Test.YtaliehikdidiaaaGreatDoorS1
import Derived.Test.YtaliehikdidiaaaGreatDoorWalkB
import Derived.Deep.RegionHeld
import Derived.Deep.AppendLies
import Derived.Maps.OwnSet
namespace Go.Proofs.YtaliehikdidiaaaGreatDoor
open Go.ChangeShapes Go.WideShapes Go.ChangeAt Go.RowKit Num Go.Maps
open Go.ChangeMaps Go.MapKept

theorem run_store_float (a : Addr) (m : Mode) (k : FloatKind) (b : Nat) (w : World) : (store a (.float k b) m).run Tryz.prog w = stored Tryz.prog w a (.float k b) m := run_store Tryz.prog w a _ m rfl
/-- what was written: cells with their numbers, in the order of their first writes -/
abbrev Wr := List (Int × Nat)
def cellsOfL (l : Wr) : List Int := l.map (·.1)
theorem cells_len (l : Wr) : (cellsOfL l).length = l.length := by unfold cellsOfL; rw [List.length_map]
/-- where a cell stands; the length: it was not written -/
def idx (l : Wr) (c : Int) : Nat := l.findIdx (fun t => t.1 == c)
def hasC (l : Wr) (c : Int) : Bool := decide (idx l c < l.length)
def getC (l : Wr) (c : Int) : Nat := (l.getD (idx l c) (0, 0)).2
def putC (l : Wr) (c : Int) (y : Nat) : Wr := if hasC l c then l.set (idx l c) (c, y) else l ++ [(c, y)]
theorem idx_le (l : Wr) (c : Int) : idx l c ≤ l.length := List.findIdx_le_length
theorem idx_at {l : Wr} {c : Int} (h : idx l c < l.length) : l[idx l c].1 = c := by
  have := List.findIdx_getElem (p := fun t : Int × Nat => t.1 == c) (xs := l) (w := h)
  exact eq_of_beq this
theorem idx_not {l : Wr} {c : Int} {i : Nat} (h : i < idx l c) (h2 : i < l.length) : l[i].1 ≠ c := by
  have := List.not_of_lt_findIdx (p := fun t : Int × Nat => t.1 == c) (xs := l) h
  simpa using this
theorem idx_nil (c : Int) : idx [] c = 0 := rfl
theorem idx_cons (t : Int × Nat) (l : Wr) (c : Int) : idx (t :: l) c = if t.1 = c then 0 else idx l c + 1 := by
  unfold idx
  rw [List.findIdx_cons]
  by_cases h : t.1 = c
  · simp [h]
  · rw [if_neg h, beq_false_of_ne h]
    rfl
theorem hasC_cons (t : Int × Nat) (l : Wr) (c : Int) : hasC (t :: l) c = (decide (t.1 = c) || hasC l c) := by
  unfold hasC
  rw [idx_cons]
  by_cases h : t.1 = c <;> simp [h]
theorem getC_cons (t : Int × Nat) (l : Wr) (c : Int) : getC (t :: l) c = if t.1 = c then t.2 else getC l c := by
  unfold getC
  rw [idx_cons]
  by_cases h : t.1 = c <;> simp [h]
theorem putC_cons (t : Int × Nat) (l : Wr) (c : Int) (y : Nat) : putC (t :: l) c y = if t.1 = c then (c, y) :: l else t :: putC l c y := by
  unfold putC
  rw [hasC_cons, idx_cons]
  by_cases h : t.1 = c
  · simp [h]
  · cases h2 : hasC l c <;> simp [h]
theorem hasC_put (l : Wr) (c : Int) (y : Nat) (d : Int) : hasC (putC l c y) d = (decide (c = d) || hasC l d) := by
  induction l with
  | nil => by_cases h : c = d <;> simp [putC, hasC, idx_nil, idx_cons, h]
  | cons t l ih =>
    rw [putC_cons]
    by_cases h : t.1 = c
    · rw [if_pos h, hasC_cons, hasC_cons, h]; cases decide (c = d) <;> simp
    · rw [if_neg h, hasC_cons, hasC_cons, ih]; cases decide (c = d) <;> simp
theorem getC_put (l : Wr) (c : Int) (y : Nat) (d : Int) : getC (putC l c y) d = if c = d then y else getC l d := by
  induction l with
  | nil => by_cases h : c = d <;> simp [putC, hasC, getC, idx_nil, idx_cons, h]
  | cons t l ih =>
    rw [putC_cons]
    by_cases h : t.1 = c
    · rw [if_pos h, getC_cons, getC_cons, h]; by_cases h2 : c = d <;> simp [h2]
    · rw [if_neg h, getC_cons, getC_cons, ih]
      by_cases h2 : t.1 = d
      · rw [if_pos h2, if_pos h2, if_neg (fun q => h (h2.trans q.symm))]
      · rw [if_neg h2, if_neg h2]
theorem putC_len (l : Wr) (c : Int) (y : Nat) : (putC l c y).length = if hasC l c then l.length else l.length + 1 := by
  unfold putC
  split <;> simp
theorem cells_put (l : Wr) (c : Int) (y : Nat) : cellsOfL (putC l c y) = if hasC l c then cellsOfL l else cellsOfL l ++ [c] := by
  unfold putC
  split
  · rename_i h
    have hi : idx l c < l.length := by simpa [hasC] using h
    unfold cellsOfL
    rw [List.map_set]
    have e := idx_at hi
    apply List.ext_getElem?
    intro j
    rw [List.getElem?_set]
    split
    · rename_i q
      subst q
      simp [hi, e]
    · rfl
  · simp [cellsOfL]
theorem hasC_mem {l : Wr} {c : Int} : hasC l c = true ↔ c ∈ cellsOfL l := by
  induction l with
  | nil => simp [hasC, idx_nil, cellsOfL]
  | cons t l ih =>
    rw [hasC_cons]
    have e : cellsOfL (t :: l) = t.1 :: cellsOfL l := rfl
    rw [e, List.mem_cons, ← ih, Bool.or_eq_true, decide_eq_true_eq, eq_comm (a := c)]
theorem nodup_put {l : Wr} {c : Int} {y : Nat} (h : (cellsOfL l).Nodup) : (cellsOfL (putC l c y)).Nodup := by
  rw [cells_put]
  split
  · exact h
  · rename_i q
    rw [List.nodup_append]
    refine ⟨h, by simp, fun a ha b hb e => q (hasC_mem.2 ?_)⟩
    simp at hb
    rw [← hb, ← e]
    exact ha
/-- a cell of the list is found where it stands, if none stands twice -/
theorem idx_of {l : Wr} (h : (cellsOfL l).Nodup) {i : Nat} (hi : i < l.length) : idx l l[i].1 = i := by
  have h0 : hasC l l[i].1 = true := hasC_mem.2 (by unfold cellsOfL; exact List.mem_map.2 ⟨l[i], List.getElem_mem hi, rfl⟩)
  have h1 : idx l l[i].1 < l.length := by simpa [hasC] using h0
  have h2 := idx_at h1
  have := (List.getElem_inj (i := idx l l[i].1) (j := i) (h₀ := by rw [cells_len]; exact h1) (h₁ := by rw [cells_len]; exact hi) h).1 (by simp [cellsOfL, h2])
  exact this
theorem getC_of {l : Wr} (h : (cellsOfL l).Nodup) {i : Nat} (hi : i < l.length) : getC l l[i].1 = l[i].2 := by
  unfold getC
  rw [idx_of h hi]
  simp [hi]
theorem hasC_of {l : Wr} {i : Nat} (hi : i < l.length) : hasC l l[i].1 = true := hasC_mem.2 (by unfold cellsOfL; exact List.mem_map.2 ⟨l[i], List.getElem_mem hi, rfl⟩)

/-! the map -/
def fd (x : Nat) : DataW Unit := .lit (.float .f64 x)
/-- how a number of a map reads -/
def fElem : Value → Option (DataW Unit × List MemPlace)
  | .float .f64 x => some (fd x, [])
  | _ => none
theorem fElem_inv {v : Value} {x : Nat} {ps : List MemPlace} (h : fElem v = some (fd x, ps)) : v = .float .f64 x := by
  unfold fElem at h
  split at h
  · simp [fd] at h
    rw [h.1]
  · cases h
theorem keysI : Keyed Tryz.prog 3 := int_keyed Tryz.underlying3
theorem zeroF (w : World) : (zeroValue 74).run Tryz.prog w = .ok (.float .f64 0) w := by kernel_rfl
theorem size_is {k : TypeId} {R : Value → Option (DataW Unit × List MemPlace)} {w : World} {b n : Nat} {D : DataW Unit} (h : w.ownsMap Tryz.prog k R b n D) : w.ownsMap Tryz.prog k R b (Maps.size D) D := by
  obtain ⟨es, clock, hb, F, _, rfl⟩ := h
  exact ⟨es, clock, hb, F, by simp [Maps.size, length_sorted], rfl⟩
/-- block b is a map that holds these -/
def MapAt (w : World) (b : Nat) (l : Wr) : Prop :=
  ∃ D : DataW Unit, w.ownsMap Tryz.prog 3 fElem b l.length D ∧ Maps.size D = l.length ∧ ∀ c, (Lit.int .i64 c).wf = true → Maps.has D (.int .i64 c) = hasC l c ∧ D.atKey (.int .i64 c) (fd 0) = fd (getC l c)
section
variable {w w' : World} {b : Nat} {l : Wr}
theorem MapAt.lt (h : MapAt w b l) : b < w.heap.size := by obtain ⟨D, h1, _⟩ := h; exact h1.lt
theorem MapAt.keep (h : MapAt w b l) (k : w'.heap[b]? = w.heap[b]?) : MapAt w' b l := by
  obtain ⟨D, ⟨es, clock, hb, r⟩, h2⟩ := h
  exact ⟨D, ⟨es, clock, k.trans hb, r⟩, h2⟩
theorem MapAt.is (h : MapAt w b l) : ∃ es clock, w.heap[b]? = some (.map es clock) := by
  obtain ⟨D, ⟨es, clock, hb, r⟩, h2⟩ := h
  exact ⟨es, clock, hb⟩
theorem map_new (w : World) : MapAt (w.alloc (.map #[] 0)) w.heap.size [] :=
  ⟨.map [], World.ownsMap_made w _ _ _, rfl, fun _ _ => ⟨rfl, rfl⟩⟩
theorem MapAt.look (h : MapAt w b l) {c : Int} (hc : (Lit.int .i64 c).wf = true) : (Instr.lookup 162 (.map (some b)) (.int .i64 c) true).run Tryz.prog w = .ok (.tuple #[.float .f64 (getC l c), .bool (hasC l c)]) w := by
  obtain ⟨D, h1, _, h3⟩ := h
  obtain ⟨v, ps, hrun, hv⟩ := h1.look_ok keysI Tryz.underlying162 (zeroF w) (zd := fd 0) (zp := []) rfl (keyOf_int_mk Tryz.underlying3 hc)
  rw [(h3 c hc).2] at hv
  rw [hrun, fElem_inv hv, (h3 c hc).1]
theorem MapAt.look1 (h : MapAt w b l) {c : Int} (hc : (Lit.int .i64 c).wf = true) : (Instr.lookup 162 (.map (some b)) (.int .i64 c) false).run Tryz.prog w = .ok (.float .f64 (getC l c)) w := by
  obtain ⟨D, h1, _, h3⟩ := h
  obtain ⟨v, ps, hrun, hv⟩ := h1.lookup keysI Tryz.underlying162 (zeroF w) (zd := fd 0) (zp := []) rfl (keyOf_int_mk Tryz.underlying3 hc)
  rw [(h3 c hc).2] at hv
  rw [hrun, fElem_inv hv]
theorem lit_ne {c d : Int} (h : c ≠ d) : (Lit.int .i64 d) ≠ (Lit.int .i64 c) := fun e => h (by injection e with _ e2; exact e2.symm)
theorem MapAt.lay (h : MapAt w b l) {c : Int} (hc : (Lit.int .i64 c).wf = true) (y : Nat) (hn : l.length < maxLen) : ∃ w', (Instr.mapUpdate 162 (.map (some b)) (.int .i64 c) (.float .f64 y)).run Tryz.prog w = .ok () w' ∧ MapAt w' b (putC l c y) ∧ w.grownBy w' (some b) := by
  obtain ⟨D, h1, h2, h3⟩ := h
  have hk := keyOf_int_mk Tryz.underlying3 hc
  obtain ⟨w', hrun, ho, hg⟩ := h1.update keysI Tryz.underlying162 hn hk (val := .float .f64 y) (d := fd y) (ps := []) rfl
  have hs : Maps.size (D.put (.int .i64 c) (fd y)) = (putC l c y).length := by
    rw [size_put (h1.tidy keysI), (h3 c hc).1, h2, putC_len]
  have ho2 := size_is ho
  rw [hs] at ho2
  refine ⟨w', hrun, ⟨_, ho2, hs, fun d hd => ?_⟩, hg⟩
  by_cases e : c = d
  · subst e
    rw [has_put_same h1.isMap (keysI.key hk), atKey_put_same h1.isMap (keysI.key hk), hasC_put, getC_put]
    simp
  · rw [has_put_other (lit_ne e), atKey_put_other (lit_ne e), hasC_put, getC_put, if_neg e]
    refine ⟨?_, (h3 d hd).2⟩
    rw [(h3 d hd).1]
    simp [e]
theorem MapAt.clear (h : MapAt w b l) (ty : TypeId) : ∃ w', (Builtin.clear_ #[162] ty #[.map (some b)]).run Tryz.prog w = .ok (.tuple #[]) w' ∧ MapAt w' b [] ∧ w.grownBy w' (some b) := by
  obtain ⟨D, ⟨es, clock, hb, r⟩, h2⟩ := h
  have hs : ∃ w', (Builtin.clear_ #[162] ty #[.map (some b)]).run Tryz.prog w = .ok (.tuple #[]) w' ∧ w' = setBlock w b (.map #[] clock) := by
    refine ⟨_, ?_, rfl⟩
    simp [setBlock, Builtin.clear_, run_underlying Tryz.underlying162, MapKept.run_getObj_map hb, MapKept.run_setObj_map _ hb, Result.andThen]
  obtain ⟨w', hrun, rfl⟩ := hs
  refine ⟨_, hrun, ⟨.map [], ⟨#[], clock, heap_setBlock_same hb _, ⟨by simp, stamped_empty _, by simp⟩, Nat.le_refl _, rfl⟩, rfl, fun _ _ => ⟨rfl, rfl⟩⟩, ⟨rfl, rfl, rfl, by simp [setBlock], fun i _ hi => heap_setBlock_other hb _ (fun e => hi (by rw [e]))⟩⟩
theorem MapAt.copy (h : MapAt w b l) (t : TypeId) : ∃ w', (Extern.MapsClone.clone #[.iface t (.map (some b))]).run Tryz.prog w = .ok (.iface t (.map (some w.heap.size))) w' ∧ MapAt w' w.heap.size l ∧ Below w.heap.size w w' ∧ w'.heap.size = w.heap.size + 1 := by
  obtain ⟨D, ⟨es, clock, hb, r⟩, h2⟩ := h
  refine ⟨w.alloc (.map es clock), ?_, ⟨D, ⟨es, clock, heap_alloc_new _ _, r⟩, h2⟩, (Below.refl _ _).alloc (Nat.le_refl _) _, by simp⟩
  obtain ⟨f, e, hf⟩ : ∃ f, Extern.MapsClone.clone #[.iface t (.map (some b))] = (getObj b >>= f) ∧ ∀ x y, f (.map x y) = (newObj (.map x y) >>= fun n => pure (.iface t (.map (some n)))) := ⟨_, rfl, fun _ _ => rfl⟩
  rw [e]
  simp [MapKept.run_getObj_map hb, hf, Result.andThen, go_sem]
end
end Go.Proofs.YtaliehikdidiaaaGreatDoor
