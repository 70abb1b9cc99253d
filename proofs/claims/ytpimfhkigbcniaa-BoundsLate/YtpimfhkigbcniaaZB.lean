import Derived.Test.YtpimfhkigbcniaaS1
import Derived.Laws.Tables
import Derived.Laws.Rows
import Derived.Deep.WholeRow
namespace Go.Proofs.Ytpimfhkigbcniaa.En
open Go.ChangeShapes Go.WideShapes Go.ChangeAt Go.RowKit

/-! a struct within a row: stored, loaded; rows of structs by their cells -/
def putsA (cur : Array Value) : Nat → List Value → Array Value
  | _, [] => cur
  | i, v :: vs => putsA (cur.setIfInBounds i v) (i + 1) vs
theorem putsA_size : ∀ (vs : List Value) (i : Nat) (cur : Array Value), (putsA cur i vs).size = cur.size
  | [], _, _ => rfl
  | v :: vs, i, cur => by
    show (putsA (cur.setIfInBounds i v) (i + 1) vs).size = _
    rw [putsA_size vs]
    simp
theorem putsA_get : ∀ (vs : List Value) (i : Nat) (cur : Array Value) (k : Nat), i + vs.length ≤ cur.size → (putsA cur i vs)[k]? = if i ≤ k ∧ k < i + vs.length then vs[k - i]? else cur[k]?
  | [], i, cur, k, _ => by
    rw [if_neg (by simp)]
    rfl
  | v :: vs, i, cur, k, h => by
    simp only [List.length_cons] at h ⊢
    show (putsA (cur.setIfInBounds i v) (i + 1) vs)[k]? = _
    rw [putsA_get vs (i + 1) _ k (by simp; omega)]
    by_cases e : k = i
    · subst e
      rw [if_neg (by omega), if_pos (by omega), Nat.sub_self, List.getElem?_cons_zero, Array.getElem?_setIfInBounds_self_of_lt (by omega)]
    · by_cases q : i + 1 ≤ k ∧ k < i + 1 + vs.length
      · rw [if_pos q, if_pos (by omega), show k - i = (k - (i + 1)) + 1 by omega, List.getElem?_cons_succ]
      · rw [if_neg q, if_neg (by omega), Array.getElem?_setIfInBounds_ne (fun z => e z.symm)]
theorem setRow_self {w : World} {g : Nat} {cur : Array Value} {t : TypeId} {fr : Nat × Nat} (h : w.heap[g]? = some (.cells cur t fr)) : w.setRow g cur = w := by
  have hlt : g < w.heap.size := (Array.getElem?_eq_some_iff.1 h).1
  have hv : w.heap[g] = .cells cur t fr := (Array.getElem?_eq_some_iff.1 h).2
  unfold World.setRow
  cases w with
  | mk heap tape drawn os output =>
    congr 1
    apply Array.ext
    · simp
    · intro k h1 h2
      simp only [Array.getElem_modify]
      split
      · rename_i hk; subst hk; simp at hv; simp [hv]
      · rfl
theorem run_storeCells_at {P : Program} (g off : Nat) (t : TypeId) : ∀ (vs : List Value) (i : Nat) (cur : Array Value) (w : World), w.heap[g]? = some (.cells cur t (0, 0)) → off + i + vs.length ≤ cur.size → (∀ v ∈ vs, v.oneCell' = true) →
    (storeCells ⟨g, off, none⟩ vs i).run P w = .ok () (w.setRow g (putsA cur (off + i) vs))
  | [], i, cur, w, hg, hl, _ => by
    show Result.ok () w = _
    rw [show putsA cur (off + i) [] = cur from rfl, setRow_self hg]
  | v :: rest, i, cur, w, hg, hl, h1 => by
    simp only [List.length_cons] at hl
    have hi : off + i < cur.size := by omega
    have hcell : w.cell? ⟨g, off + i, none⟩ = some cur[off + i] := by simp [World.cell?, hg, hi]
    have hfro : w.frozen? ⟨g, off + i, none⟩ = false := by simp [World.frozen?, hg]
    have hst : (store ((⟨g, off, none⟩ : Addr).add i) v).run P w = .ok () (w.setRow g (cur.setIfInBounds (off + i) v)) := by
      rw [add_plain, run_store P w _ v _ (h1 v (by simp)), hcell]
      simp [hfro, setCell_eq_setRow w g (off + i) cur t (0, 0) v hg]
    have ih := run_storeCells_at (P := P) g off t rest (i + 1) (cur.setIfInBounds (off + i) v) (w.setRow g (cur.setIfInBounds (off + i) v)) (setRow_heap w g cur _ t _ hg) (by simp; omega) (fun x hx => h1 x (by simp [hx]))
    simp only [storeCells, Sem.run_bind, hst, Result.andThen_ok, ih, setRow_setRow]
    rfl
theorem run_storeVar_at {P : Program} (w : World) (g off : Nat) (t ty : TypeId) (old cells : Array Value) (hg : w.heap[g]? = some (.cells old t (0, 0))) (hi : (P.info? ty).map (·.size) = some cells.size)
    (ho : off + cells.size ≤ old.size) (h1 : cells.all (·.oneCell') = true) :
    (storeVar ty ⟨g, off, none⟩ (.agg cells)).run P w = .ok () (w.setRow g (putsA old off cells.toList)) := by
  have := run_storeCells_at (P := P) g off t cells.toList 0 old w hg (by simpa using ho) (fun v hv => (Array.all_eq_true_iff_forall_mem.1 h1) v (by simpa using hv))
  cases hq : P.info? ty with
  | none => simp [hq] at hi
  | some i =>
    have hs : cells.size = i.size := by simp [hq] at hi; omega
    simp [storeVar, sizeOf, typeInfo, hq, Value.cells, hs, this]
section
variable {P : Program}
theorem wp_store_at {o : Oper} {a : Act} {w : World} {K : Act → World → Prop} {Q : Exit → Act → World → Prop} (ty : TypeId) (x y : Operand) (ho : o.op = .store ty x y)
    (g off : Nat) (cells : Array Value) (hx : a.eval x = .pointer (some ⟨g, off, none⟩)) (hy : a.eval y = .agg cells)
    (t : TypeId) (old : Array Value) (hg : w.heap[g]? = some (.cells old t (0, 0))) (hi : (P.info? ty).map (·.size) = some cells.size)
    (hold : off + cells.size ≤ old.size) (h1 : cells.all (·.oneCell') = true)
    (h : K (a.put o.dst undef) (w.setRow g (putsA old off cells.toList))) : o.wp P a w K Q := by
  unfold Oper.wp execOp
  simp only [ho, hx, hy, Instr.storeAt, Instr.sureAddr, Sem.run_bind, Sem.run_pure, Result.andThen_ok, run_storeVar_at w g off t ty old cells hg hi hold h1]
  exact h
theorem wpList_store_at {ops : Array Oper} {rest : List Oper} {o : Oper} {a : Act} {w : World} {Q : Exit → Act → World → Prop} (hgd : o.guard = none) (ty : TypeId) (x y : Operand) (ho : o.op = .store ty x y)
    (g off : Nat) (cells : Array Value) (hx : a.eval x = .pointer (some ⟨g, off, none⟩)) (hy : a.eval y = .agg cells)
    (t : TypeId) (old : Array Value) (hg : w.heap[g]? = some (.cells old t (0, 0))) (hi : (P.info? ty).map (·.size) = some cells.size)
    (hold : off + cells.size ≤ old.size) (h1 : cells.all (·.oneCell') = true)
    (h : wpList P ops Q rest (a.put o.dst undef) (w.setRow g (putsA old off cells.toList))) : wpList P ops Q (o :: rest) a w :=
  wpList_plain hgd fun _ hK => wp_store_at ty x y ho g off cells hx hy t old hg hi hold h1 (hK _ _ h)
theorem run_loadVar_at (w : World) (g off : Nat) (ty : TypeId) (cs : Array Value) (d : TypeDesc) (hc : ∀ j, j < cs.size → w.cell? ⟨g, off + j, none⟩ = cs[j]?)
    (hu : P.underlying ty = some d) (hd : (match d with | .struct _ | .array _ _ => true | _ => false) = true) (hi : (P.info? ty).map (·.size) = some cs.size) :
    (loadVar ty ⟨g, off, none⟩).run P w = .ok (.agg cs) w := by
  have hl : (loadCells ⟨g, off, none⟩ cs.toList.length).run P w = .ok cs.toList.toArray w :=
    run_loadCells_list (P := P) w ⟨g, off, none⟩ cs.toList (fun j v hv => by
      have hj : j < cs.size := by
        have := (List.getElem?_eq_some_iff.1 hv).1
        simpa using this
      rw [add_plain, hc j hj]
      simpa using hv)
  cases hq : P.info? ty with
  | none => simp [hq] at hi
  | some i =>
    have hs : cs.size = i.size := by simp [hq] at hi; omega
    have hl' : (loadCells ⟨g, off, none⟩ i.size).run P w = .ok cs w := by simpa [hs] using hl
    cases d <;> simp at hd <;> simp [loadVar, isAgg, underlying, hu, sizeOf, typeInfo, hq, hl']
theorem wp_load_at {o : Oper} {a : Act} {w : World} {K : Act → World → Prop} {Q : Exit → Act → World → Prop} (ty : TypeId) (x : Operand) (ho : o.op = .load ty x)
    (g off : Nat) (hx : a.eval x = .pointer (some ⟨g, off, none⟩)) (cs : Array Value) (d : TypeDesc) (hc : ∀ j, j < cs.size → w.cell? ⟨g, off + j, none⟩ = cs[j]?)
    (hu : P.underlying ty = some d) (hd : (match d with | .struct _ | .array _ _ => true | _ => false) = true) (hi : (P.info? ty).map (·.size) = some cs.size)
    (h : K (a.put o.dst (.agg cs)) w) : o.wp P a w K Q := by
  unfold Oper.wp execOp
  simp only [ho, hx, Instr.loadAt, Instr.sureAddr, Sem.run_bind, Sem.run_pure, Result.andThen_ok, run_loadVar_at w g off ty cs d hc hu hd hi]
  exact h
theorem wpList_load_at {ops : Array Oper} {rest : List Oper} {o : Oper} {a : Act} {w : World} {Q : Exit → Act → World → Prop} (hgd : o.guard = none) (ty : TypeId) (x : Operand) (ho : o.op = .load ty x)
    (g off : Nat) (hx : a.eval x = .pointer (some ⟨g, off, none⟩)) (cs : Array Value) (d : TypeDesc) (hc : ∀ j, j < cs.size → w.cell? ⟨g, off + j, none⟩ = cs[j]?)
    (hu : P.underlying ty = some d) (hd : (match d with | .struct _ | .array _ _ => true | _ => false) = true) (hi : (P.info? ty).map (·.size) = some cs.size)
    (h : wpList P ops Q rest (a.put o.dst (.agg cs)) w) : wpList P ops Q (o :: rest) a w :=
  wpList_plain hgd fun _ hK => wp_load_at ty x ho g off hx cs d hc hu hd hi (hK _ _ h)
end
/-- a row with room for m structs of sz cells, the first n of which are told -/
structure Arr (w : World) (g : Nat) (T : TypeId) (sz m n : Nat) (f : Nat → Array Value) : Prop where
  blk : ∃ arr, w.heap[g]? = some (.cells arr T (0, 0)) ∧ arr.size = m * sz ∧ ∀ i j, i < n → j < sz → arr[i * sz + j]? = (f i)[j]?
  le : n ≤ m
  sz : ∀ i, i < n → (f i).size = sz
def updA (f : Nat → Array Value) (i : Nat) (a : Array Value) : Nat → Array Value := fun k => if k = i then a else f k
theorem updA_self (f : Nat → Array Value) (i : Nat) (a : Array Value) : updA f i a i = a := if_pos rfl
theorem updA_ne (f : Nat → Array Value) {i k : Nat} (a : Array Value) (h : k ≠ i) : updA f i a k = f k := if_neg h
theorem at_lt {i j n sz m : Nat} (hi : i < n) (hj : j < sz) (hm : n ≤ m) : i * sz + j < m * sz := by
  have : (i + 1) * sz ≤ m * sz := Nat.mul_le_mul_right _ (by omega)
  rw [Nat.add_mul] at this
  omega
theorem at_inj {i j i' j' sz : Nat} (hj : j < sz) (hj' : j' < sz) (h : i * sz + j = i' * sz + j') : i = i' ∧ j = j' := by
  have h1 : (i * sz + j) / sz = (i' * sz + j') / sz := by rw [h]
  have e : ∀ a b, b < sz → (a * sz + b) / sz = a := fun a b hb => by
    rw [Nat.mul_comm, Nat.mul_add_div (by omega), Nat.div_eq_of_lt hb, Nat.add_zero]
  rw [e i j hj, e i' j' hj'] at h1
  subst h1
  exact ⟨rfl, by omega⟩
section
variable {w w' : World} {g sz m n : Nat} {T : TypeId} {f : Nat → Array Value}
theorem Arr.lt (h : Arr w g T sz m n f) : g < w.heap.size := by obtain ⟨arr, h1, _⟩ := h.blk; exact lt_of_block h1
theorem Arr.free (h : Arr w g T sz m n f) (j : Nat) : w.frozen? ⟨g, j, none⟩ = false := by obtain ⟨arr, h1, _⟩ := h.blk; exact frozen_of_row w g j _ _ h1
theorem Arr.cell (h : Arr w g T sz m n f) {i j : Nat} (hi : i < n) (hj : j < sz) : w.cell? ⟨g, i * sz + j, none⟩ = (f i)[j]? := by
  obtain ⟨arr, h1, h2, h3⟩ := h.blk
  rw [cell_of_row w g _ _ _ _ h1]
  exact h3 i j hi hj
theorem Arr.keep (h : Arr w g T sz m n f) (k : w'.heap[g]? = w.heap[g]?) : Arr w' g T sz m n f := by
  obtain ⟨arr, h1, h2⟩ := h.blk
  exact ⟨⟨arr, k.trans h1, h2⟩, h.le, h.sz⟩
theorem Arr.on (h : Arr w g T sz m n f) (k : Below w.heap.size w w') : Arr w' g T sz m n f := h.keep (k.block g h.lt)
theorem Arr.put (h : Arr w g T sz m n f) {i j : Nat} (hi : i < n) (hj : j < sz) (v : Value) : Arr (w.setCell ⟨g, i * sz + j, none⟩ v) g T sz m n (updA f i ((f i).setIfInBounds j v)) := by
  obtain ⟨arr, h1, h2, h3⟩ := h.blk
  have hl := at_lt hi hj h.le
  refine ⟨⟨_, heap_setCell_same w g _ _ _ v h1, by simpa using h2, fun i' j' hi' hj' => ?_⟩, h.le, fun i' hi' => ?_⟩
  · by_cases e : i' = i
    · subst e
      rw [updA_self]
      by_cases ej : j' = j
      · subst ej
        rw [Array.getElem?_setIfInBounds_self_of_lt (by omega), Array.getElem?_setIfInBounds_self_of_lt (by rw [h.sz _ hi]; exact hj)]
      · rw [Array.getElem?_setIfInBounds_ne (by omega), Array.getElem?_setIfInBounds_ne (fun z => ej z.symm)]
        exact h3 _ _ hi' hj'
    · rw [updA_ne _ _ e, Array.getElem?_setIfInBounds_ne (fun z => e (at_inj hj' hj z.symm).1)]
      exact h3 _ _ hi' hj'
  · by_cases e : i' = i
    · subst e; rw [updA_self]; simpa using h.sz _ hi
    · rw [updA_ne _ _ e]; exact h.sz _ hi'
/-- k cells of the i-th from its j-th on -/
theorem Arr.puts (h : Arr w g T sz m n f) {i j : Nat} (hi : i < n) {cs : Array Value} (hj : j + cs.size ≤ sz) : ∃ arr, w.heap[g]? = some (.cells arr T (0, 0)) ∧ i * sz + j + cs.size ≤ arr.size ∧ Arr (w.setRow g (putsA arr (i * sz + j) cs.toList)) g T sz m n (updA f i (putsA (f i) j cs.toList)) := by
  obtain ⟨arr, h1, h2, h3⟩ := h.blk
  have hl : i * sz + sz ≤ m * sz := by
    have : (i + 1) * sz ≤ m * sz := Nat.mul_le_mul_right _ (by have := h.le; omega)
    rwa [Nat.add_mul, Nat.one_mul] at this
  refine ⟨arr, h1, by omega, ⟨⟨_, setRow_heap w g _ _ _ _ h1, by rw [putsA_size]; exact h2, fun i' j' hi' hj' => ?_⟩, h.le, fun i' hi' => ?_⟩⟩
  · rw [putsA_get _ _ _ _ (by simp; omega)]
    by_cases e : i' = i
    · subst e
      rw [updA_self, putsA_get _ _ _ _ (by simp; rw [h.sz _ hi]; exact hj)]
      simp only [Array.length_toList]
      by_cases q : j ≤ j' ∧ j' < j + cs.size
      · rw [if_pos q, if_pos (by omega), show i' * sz + j' - (i' * sz + j) = j' - j by omega]
      · rw [if_neg q, if_neg (by omega)]
        exact h3 _ _ hi' hj'
    · rw [updA_ne _ _ e, if_neg]
      · exact h3 _ _ hi' hj'
      · intro q
        simp only [Array.length_toList] at q
        have l1 := at_lt (n := i' + 1) (m := i' + 1) (Nat.lt_succ_self i') hj' (Nat.le_refl _)
        rcases Nat.lt_or_gt_of_ne e with z | z
        · have : (i' + 1) * sz ≤ i * sz := Nat.mul_le_mul_right _ z
          omega
        · have : (i + 1) * sz ≤ i' * sz := Nat.mul_le_mul_right _ z
          rw [Nat.add_mul, Nat.one_mul] at this
          omega
  · by_cases e : i' = i
    · subst e; rw [updA_self, putsA_size]; exact h.sz _ hi
    · rw [updA_ne _ _ e]; exact h.sz _ hi'
/-- as a row of one's own -/
def flatA (f : Nat → Array Value) : Nat → List Value
  | 0 => []
  | n + 1 => flatA f n ++ (f n).toList
theorem flatA_len (h : ∀ i, i < n → (f i).size = sz) : (flatA f n).length = n * sz := by
  induction n with
  | zero => simp [flatA]
  | succ n ih =>
    show (flatA f n ++ (f n).toList).length = _
    rw [List.length_append, ih (fun i hi => h i (by omega)), Array.length_toList, h n (by omega), Nat.add_mul, Nat.one_mul]
theorem flatA_get (h : ∀ i, i < n → (f i).size = sz) {i j : Nat} (hi : i < n) (hj : j < sz) : (flatA f n)[i * sz + j]? = (f i)[j]? := by
  induction n with
  | zero => omega
  | succ n ih =>
    have hl := flatA_len (n := n) (fun i hi => h i (by omega))
    show (flatA f n ++ (f n).toList)[_]? = _
    by_cases e : i = n
    · subst e
      rw [List.getElem?_append_right (by omega), hl, show i * sz + j - i * sz = j by omega]
      simp
    · rw [List.getElem?_append_left (by rw [hl]; exact at_lt (n := n) (by omega) hj (Nat.le_refl _))]
      exact ih (fun i hi => h i (by omega)) (by omega)
theorem flatA_same {f f' : Nat → Array Value} : ∀ n, (∀ i, i < n → f i = f' i) → flatA f n = flatA f' n
  | 0, _ => rfl
  | n + 1, h => by
    show flatA f n ++ _ = flatA f' n ++ _
    rw [flatA_same n (fun i hi => h i (by omega)), h n (by omega)]
theorem Arr.owns (h : Arr w g T sz m n f) (hs : 0 < sz) (hm : m ≤ maxLen) : w.ownsRow 0 T sz (.slice (some ⟨g, 0, none⟩) n m) n (flatA f n) := by
  obtain ⟨arr, h1, h2, h3⟩ := h.blk
  refine ⟨flatA_len h.sz, .inr ⟨g, m, arr, rfl, Nat.zero_le _, h1, h.le, hm, h2, ?_⟩⟩
  apply List.ext_getElem?
  intro k
  have hl := flatA_len h.sz
  by_cases q : k < n * sz
  · have hj : k % sz < sz := Nat.mod_lt _ hs
    have hi : k / sz < n := Nat.div_lt_of_lt_mul (by rw [Nat.mul_comm]; exact q)
    have e : k = k / sz * sz + k % sz := by rw [Nat.mul_comm]; exact (Nat.div_add_mod k sz).symm
    rw [List.getElem?_take, if_pos q, e, flatA_get h.sz hi hj, ← h3 _ _ hi hj]
    simp
  · rw [List.getElem?_take, if_neg q, List.getElem?_eq_none (by omega)]
theorem arr_of {v : Value} (h : w.ownsRow 0 T sz v n (flatA f n)) (h0 : 0 < n) (hz : ∀ i, i < n → (f i).size = sz) : ∃ g c, v = .slice (some ⟨g, 0, none⟩) n c ∧ c ≤ maxLen ∧ Arr w g T sz c n f := by
  rcases h.2 with ⟨_, q⟩ | ⟨g, cap, cur, hv, _, hg, hc, hm, hs, ht⟩
  · omega
  · refine ⟨g, cap, hv, hm, ⟨⟨cur, hg, hs, fun i j hi hj => ?_⟩, hc, hz⟩⟩
    have h1 : cur.toList[i * sz + j]? = (cur.toList.take (n * sz))[i * sz + j]? := by
      rw [List.getElem?_take, if_pos (at_lt hi hj (Nat.le_refl _))]
    rw [ht, flatA_get hz hi hj] at h1
    simpa using h1
end
end Go.Proofs.Ytpimfhkigbcniaa.En
