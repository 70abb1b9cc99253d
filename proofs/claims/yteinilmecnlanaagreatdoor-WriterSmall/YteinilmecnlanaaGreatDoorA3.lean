import Derived.Test.YteinilmecnlanaaGreatDoorKS
import Derived.Test.YteinilmecnlanaaGreatDoorXM
import Derived.Test.YteinilmecnlanaaGreatDoorKJ
import Derived.Deep.LoopGhost
namespace Go.Proofs.YteinilmecnlanaaGreatDoor
open Go.ChangeShapes Go.WideShapes Go.ChangeAt Go.RowKit Num

/-! a whole run, as numbers -/
/-- one step over numbers that stand still, and the number given if one is wanted -/
def goM (s : List Nat) (m : Mac) : Mac := if (stepM m).2.kind = 1 then giveM (stepM m).1 (Sx.getV s (stepM m).2.cell) else (stepM m).1
def runN (s : List Nat) : Nat → Mac → Mac
  | 0, m => m
  | n + 1, m => runN s n (goM s m)
/-- to the end: more steps than there can be fuel for -/
def endM (s : List Nat) (m : Mac) : Mac := runN s 1025 m
def okS (s : List Nat) : Prop := ∀ x ∈ s, okN x
theorem okS_map {s : List Nat} (h : ∀ x ∈ s, x < 18446744073709551616) : okS (s.map fixB) := fun x hx => by
  obtain ⟨y, hy, rfl⟩ := List.mem_map.1 hx
  exact okN_fix (h y hy)
theorem getV_ok {s : List Nat} (h : okS s) (i : Int) : okN (Sx.getV s i) := by
  unfold Sx.getV
  split
  · exact getD_all 0 okN_zero s h _
  · exact okN_zero
theorem runN_add (s : List Nat) : ∀ (a b : Nat) (m : Mac), runN s (a + b) m = runN s b (runN s a m)
  | 0, b, m => by rw [Nat.zero_add]; rfl
  | a + 1, b, m => by
    rw [Nat.add_right_comm]
    exact runN_add s a b (goM s m)
theorem runN_cons (s : List Nat) (k : Nat) (m : Mac) : runN s (k + 1) m = runN s k (goM s m) := rfl
theorem runN_succ (s : List Nat) (k : Nat) (m : Mac) : runN s (k + 1) m = goM s (runN s k m) := runN_add s k 1 m
/-- what lies between two steps -/
structure Rest (m : Mac) : Prop where
  inv : Inv m
  nw : ¬ 0 ≤ m.wait
  cel : ∀ t ∈ m.buf, 0 ≤ t.1 ∧ t.1 < m.cells
  nod : (cellsOfL m.buf).Nodup
theorem step_over {m : Mac} (hw : ¬ 0 ≤ m.wait) (h0 : m.how ≠ 0) : stepM m = (m, askEnd) := by
  unfold stepM
  rw [if_neg hw, if_neg h0]
theorem go_over {s : List Nat} {m : Mac} (hw : ¬ 0 ≤ m.wait) (h0 : m.how ≠ 0) : goM s m = m := by
  unfold goM
  rw [step_over hw h0]
  rfl
theorem runN_over {s : List Nat} {m : Mac} (hw : ¬ 0 ≤ m.wait) (h0 : m.how ≠ 0) : ∀ k, runN s k m = m
  | 0 => rfl
  | k + 1 => by
    show runN s k (goM s m) = m
    rw [go_over hw h0]
    exact runN_over hw h0 k
theorem go_inv {s : List Nat} {m : Mac} (h : Inv m) (hs : okS s) : Inv (goM s m) := by
  unfold goM
  split
  · exact inv_give (inv_step h) (getV_ok hs _).2
  · exact inv_step h
theorem go_kind1 {s : List Nat} {m : Mac} (h : (stepM m).2.kind = 1) : goM s m = giveM (stepM m).1 (Sx.getV s (stepM m).2.cell) := if_pos h
theorem go_kindN {s : List Nat} {m : Mac} (h : (stepM m).2.kind ≠ 1) : goM s m = (stepM m).1 := if_neg h
theorem go_turns {s : List Nat} {m : Mac} (h : Inv m) (hw : ¬ 0 ≤ m.wait) (h0 : m.how = 0) : Like m (goM s m) ∧ ¬ 0 ≤ (goM s m).wait ∧ (((stepM m).2.kind = 4 ∧ (goM s m).how ≠ 0) ∨ ((stepM m).2.kind ≠ 4 ∧ (goM s m).how = 0 ∧ (goM s m).used = m.used + 1)) := by
  obtain ⟨hl, ⟨k1, k2, k3⟩ | ⟨k1, k2, k3, k4, k5⟩ | ⟨k1, k2, k3, k4⟩⟩ := step_turns h hw h0
  · rw [go_kindN (by rw [k1]; decide)]
    exact ⟨hl, k3, .inl ⟨k1, k2⟩⟩
  · rw [go_kind1 k1]
    obtain ⟨g1, g2, g3, g4⟩ := give_goes k3 (Sx.getV s (stepM m).2.cell)
    exact ⟨hl.trans g4, g1, .inr ⟨by rw [k1]; decide, g2.trans k4, g3.trans k5⟩⟩
  · rw [go_kindN (by rcases k1 with k | k | k <;> rw [k] <;> decide)]
    exact ⟨hl, k2, .inr ⟨by rcases k1 with k | k | k <;> rw [k] <;> decide, k3, k4⟩⟩
theorem go_buf {s : List Nat} {m : Mac} : (goM s m).buf = (stepM m).1.buf := by
  unfold goM
  split
  · exact give_bufs _
  · rfl
theorem cells_mem {l : Wr} {c : Int} : c ∈ cellsOfL l ↔ ∃ t ∈ l, t.1 = c := by unfold cellsOfL; exact List.mem_map
theorem putC_cells {l : Wr} {c : Int} {y : Nat} {P : Int → Prop} (h : ∀ t ∈ l, P t.1) (hc : P c) : ∀ t ∈ putC l c y, P t.1 := fun t ht => by
  have h1 : t.1 ∈ cellsOfL (putC l c y) := cells_mem.2 ⟨t, ht, rfl⟩
  rw [cells_put] at h1
  have h2 : t.1 ∈ cellsOfL l ∨ t.1 = c := by
    split at h1
    · exact .inl h1
    · rcases List.mem_append.1 h1 with h | h
      · exact .inl h
      · exact .inr (by simpa using h)
  rcases h2 with h2 | h2
  · obtain ⟨u, hu, e⟩ := cells_mem.1 h2
    exact e ▸ h u hu
  · exact h2 ▸ hc
theorem Rest.go {s : List Nat} {m : Mac} (h : Rest m) (hs : okS s) : Rest (goM s m) := by
  by_cases h0 : m.how = 0
  · obtain ⟨hl, g1, _⟩ := go_turns (s := s) h.inv h.nw h0
    have hb := step_bufs h.inv h.nw h0
    refine ⟨go_inv h.inv hs, g1, ?_, ?_⟩
    · rw [go_buf, hl.cells]
      rcases hb with ⟨_, e⟩ | ⟨_, e⟩ | ⟨_, e, _⟩ | ⟨_, e, _⟩ | ⟨_, e, _, c1, c2⟩
      iterate 4 (rw [e]; exact h.cel)
      rw [e]
      exact putC_cells (P := fun c => 0 ≤ c ∧ c < m.cells) h.cel ⟨c1, c2⟩
    · rw [go_buf]
      rcases hb with ⟨_, e⟩ | ⟨_, e⟩ | ⟨_, e, _⟩ | ⟨_, e, _⟩ | ⟨_, e, _, c1, c2⟩
      iterate 4 (rw [e]; exact h.nod)
      rw [e]
      exact nodup_put h.nod
  · rw [go_over h.nw h0]
    exact h
theorem Rest.run {s : List Nat} (hs : okS s) : ∀ (k : Nat) {m : Mac}, Rest m → Rest (runN s k m)
  | 0, _, h => h
  | k + 1, _, h => Rest.run hs k (h.go hs)
theorem like_run {s : List Nat} (hs : okS s) : ∀ (k : Nat) {m : Mac}, Rest m → Like m (runN s k m)
  | 0, m, _ => Like.refl m
  | k + 1, m, h => by
    refine Like.trans ?_ (like_run hs k (h.go hs))
    by_cases h0 : m.how = 0
    · exact (go_turns h.inv h.nw h0).1
    · rw [go_over h.nw h0]
      exact Like.refl m
/-- within its fuel, and one more step, it ends -/
theorem run_ends {s : List Nat} (hs : okS s) : ∀ (k : Nat) {m : Mac}, Rest m → m.fuel - m.used < (k : Int) → (runN s k m).how ≠ 0
  | 0, m, h, hk => by have := h.inv.used; simp at hk; omega
  | k + 1, m, h, hk => by
    show (runN s k (goM s m)).how ≠ 0
    by_cases h0 : m.how = 0
    · obtain ⟨hl, g1, ⟨g2, g3⟩ | ⟨g2, g3, g4⟩⟩ := go_turns (s := s) h.inv h.nw h0
      · rw [runN_over g1 g3]
        exact g3
      · refine run_ends hs k (h.go hs) ?_
        rw [hl.fuel, g4]
        push_cast at hk
        omega
    · rw [go_over h.nw h0, runN_over h.nw h0]
      exact h0
theorem endM_rest {s : List Nat} (hs : okS s) {m : Mac} (h : Rest m) : Rest (endM s m) := h.run hs 1025
theorem endM_like {s : List Nat} (hs : okS s) {m : Mac} (h : Rest m) : Like m (endM s m) := like_run hs 1025 h
theorem endM_how {s : List Nat} (hs : okS s) {m : Mac} (h : Rest m) : (endM s m).how ≠ 0 := run_ends hs 1025 h (by have := h.inv.fuel; have := h.inv.used; omega)
/-- where it has ended is its end -/
theorem endM_of {s : List Nat} (hs : okS s) {m : Mac} (h : Rest m) {k : Nat} (hk : k ≤ 1025) (h0 : (runN s k m).how ≠ 0) : endM s m = runN s k m := by
  unfold endM
  have e : 1025 = k + (1025 - k) := by omega
  rw [e, runN_add]
  exact runN_over (h.run hs k).nw h0 _
theorem endM_go {s : List Nat} (hs : okS s) {m : Mac} (h : Rest m) : endM s (goM s m) = endM s m := by
  have h3 := runN_succ s 1025 m
  rw [runN_cons] at h3
  show runN s 1025 (goM s m) = runN s 1025 m
  rw [h3]
  exact go_over (endM_rest hs h).nw (endM_how hs h)
theorem new_rest {a b f e t : Int} {c : List Ins} {l : List Nat} (hc : Md.cfgB a b f e = true) (hx : ∀ k, k < c.length → (ci c k).x < 18446744073709551616) (hl : ∀ x ∈ l, x < 18446744073709551616) : Rest (newM a f e t c l) :=
  ⟨inv_new hc hx hl, show ¬ (0 : Int) ≤ -1 by decide, fun t ht => by simp [newM] at ht, by simp [newM, cellsOfL]⟩
/-- what a state has behind a run that came to m -/
def aftS (s : List Nat) (m : Mac) : List Nat := if m.how = 1 then Sx.foldL s m.buf else s
theorem aftS_len (s : List Nat) (m : Mac) : (aftS s m).length = s.length := by
  unfold aftS
  split
  · exact Sx.foldL_len _ _
  · rfl
theorem foldL_ok : ∀ (ts : Wr) {s : List Nat}, okS s → (∀ t ∈ ts, okN t.2) → okS (Sx.foldL s ts)
  | [], _, h, _ => h
  | t :: ts, s, h, ht => by
    show okS (Sx.foldL (Sx.setL s t.1 t.2) ts)
    refine foldL_ok ts ?_ (fun u hu => ht u (by simp [hu]))
    unfold Sx.setL
    split
    · intro x hx
      rcases List.mem_or_eq_of_mem_set hx with hx | rfl
      · exact h x hx
      · exact okN_fix (ht t (by simp)).2
    · exact h
theorem aftS_ok {s : List Nat} {m : Mac} (h : okS s) (hm : Rest m) : okS (aftS s m) := by
  unfold aftS
  split
  · exact foldL_ok _ h hm.inv.buf
  · exact h
theorem rest_allB {m : Mac} (hm : Rest m) {n : Nat} (hn : (n : Int) = m.cells) : Sx.allB n m.buf = true := by
  unfold Sx.allB
  rw [List.all_eq_true]
  intro t ht
  have := hm.cel t ht
  unfold Sx.hasN
  simp
  omega
theorem apply_is {s : List Nat} {m : Mac} (hm : Rest m) (hn : (s.length : Int) = m.cells) : Sx.applyL s m.buf = Sx.foldL s m.buf := by
  unfold Sx.applyL
  rw [rest_allB hm hn]
  rfl
end Go.Proofs.YteinilmecnlanaaGreatDoor
namespace Go.Proofs.YteinilmecnlanaaGreatDoor
open Go.ChangeShapes Go.WideShapes Go.ChangeAt Go.RowKit Num

/-! a state of numbers wherever they lie -/
theorem fls_getD {l : List Nat} {j : Nat} {v : Value} (h : (fls l)[j]? = some v) : j < l.length ∧ v = .float .f64 (l.getD j 0) := by
  unfold fls at h
  rw [List.getElem?_map] at h
  cases hl : l[j]? with
  | none => rw [hl] at h; cases h
  | some x =>
    rw [hl] at h
    have hj : j < l.length := (List.getElem?_eq_some_iff.1 hl).1
    refine ⟨hj, ?_⟩
    have : l.getD j 0 = x := by rw [List.getD_eq_getElem?_getD, hl]; rfl
    rw [this]
    exact (Option.some.inj h).symm
theorem fCopyF {w : World} {p : Option Addr} {c : Nat} {l : List Nat} (h : FlAt w p l) (h0 : 1 ≤ l.length) : ∃ W2, (∀ ty, (Builtin.copy_ #[27, 27] ty #[.slice (some ⟨w.heap.size, 0, none⟩) l.length l.length, .slice p l.length c]).run Tryz.prog (w.alloc (.cells (fls (List.replicate l.length 0)).toArray 73)) = .ok (goInt l.length) W2) ∧ (l.length ≤ maxLen → RowAt 73 W2 (some ⟨w.heap.size, 0, none⟩) l.length (fls l)) ∧ Below w.heap.size w W2 := by
  obtain ⟨g, o, rfl, hg, _⟩ := h 0 (by omega)
  have hr := fun ty => run_copy_row (P := Tryz.prog) (w.alloc (.cells (fls (List.replicate l.length 0)).toArray 73)) 27 27 ty 73 w.heap.size 0 l.length l.length ⟨g, o, none⟩ l.length c (fls (List.replicate l.length 0)).toArray 73 (fls l) Tryz.underlying27 (by kernel_rfl) (heap_alloc_new _ _) (by rw [fls_len]; exact (Nat.min_self _).symm) (fun j v hj => by
    obtain ⟨hjl, rfl⟩ := fls_getD hj
    obtain ⟨g', o', e, _, hv⟩ := h j hjl
    cases e
    rw [Go.WideShapes.add_plain, (below_alloc w _).cell hg]
    exact hv) (by simp [fls_len]) (fun v hv => by
    unfold fls at hv
    obtain ⟨x, _, rfl⟩ := List.mem_map.1 hv
    rfl)
  have e : (List.take 0 (fls (List.replicate l.length 0)).toArray.toList ++ fls l ++ List.drop (0 + (fls l).length) (fls (List.replicate l.length 0)).toArray.toList) = fls l := by
    rw [List.drop_of_length_le (by simp [fls_len])]
    simp
  refine ⟨(w.alloc (.cells (fls (List.replicate l.length 0)).toArray 73)).setRow w.heap.size (fls l).toArray, fun ty => (hr ty).trans (by rw [e, fls_len]), fun hm => ⟨?_⟩, ((Below.refl _ _).alloc (Nat.le_refl _) _).trans ⟨rfl, rfl, rfl, by simp, fun k hk => setRow_other _ _ _ _ (Nat.ne_of_lt hk)⟩⟩
  refine ⟨by simp, .inr ⟨w.heap.size, l.length, (fls l).toArray, by rw [fls_len], Nat.zero_le _, setRow_heap _ _ _ _ _ _ (heap_alloc_new _ _), by rw [fls_len]; exact Nat.le_refl _, by omega, by simp [fls_len], by simp⟩⟩
set_option maxRecDepth 100000 in
theorem copiedF_any {w : World} {p : Option Addr} {c : Nat} {l : List Nat} (h : FlAt w p l) (h0 : 1 ≤ l.length) (hn : l.length ≤ 256) : Calls Tryz.prog 56 #[.slice p l.length c] w fun e w' => e = .returned (.slice (some ⟨w.heap.size, 0, none⟩) l.length l.length) ∧ RowAt 73 w' (some ⟨w.heap.size, 0, none⟩) l.length (fls l) ∧ Below w.heap.size w w' := by
  have hmk := Sx.fMake l.length hn
  obtain ⟨W2, hcp, hr, hbl⟩ := fCopyF (c := c) h h0
  have HF := Lib.hid (And.intro (hr (by unfold maxLen; omega)) hbl)
  clear hr hbl h
  go_enter Tryz.func56, Tryz.ntmps56
  go_wp2
  go_ret
  exact ⟨rfl, HF.out.1, HF.out.2⟩
/-- a state of a list that was handed in -/
theorem ofF_any {w : World} {p : Option Addr} {c n : Nat} {l : List Nat} (hn : l.length = n) (h : FlAt w p l) (hl : Sx.mayN (n : Int) = true) : Calls Tryz.prog 30 #[.slice p n c] w fun e w' => ∃ b F, e = .returned (.tuple #[.pointer (some ⟨b, 0, none⟩), .int .i64 0]) ∧ Sx.Cel 121 w' b F (l.map fixB) ∧ Abv w.heap.size F ∧ Below w.heap.size w w' := by
  have hb : 1 ≤ n ∧ n ≤ 256 := by unfold Sx.mayN at hl; simp at hl; omega
  exact Sx.of_some' hn (copiedF_any h (by omega) (by omega)) hl
end Go.Proofs.YteinilmecnlanaaGreatDoor
namespace Go.Proofs.YteinilmecnlanaaGreatDoor
open Go.ChangeShapes Go.WideShapes Go.ChangeAt Go.RowKit Num
attribute [local go_sem] run_store_float

/-! a result, and the program's own Run -/
/-- where a result's lists lie -/
structure Rs where
  po : Option Addr
  co : Nat
  pr : Option Addr
  cr : Nat
  pw : Option Addr
  cw : Nat
abbrev resC (R : Rs) (m : Mac) : Array Value := #[.int .i64 m.how, .int .i64 m.cod, .int .i64 m.err, .slice R.po m.out.length R.co, .slice R.pr m.reads.length R.cr, .slice R.pw m.buf.length R.cw, .int .i64 m.used]
abbrev resV (R : Rs) (m : Mac) : Value := .agg (resC R m)
structure ResAt (w : World) (B : Nat) (R : Rs) (m : Mac) : Prop where
  out : RowAt 73 w R.po R.co (fls m.out)
  reads : TRow w R.pr R.cr m.reads
  writes : TRow w R.pw R.cw m.buf
  ao : Abv B (fpR R.po)
  ar : Abv B (fpR R.pr)
  aw : Abv B (fpR R.pw)
theorem ResAt.on {w w' : World} {B : Nat} {R : Rs} {m : Mac} (h : ResAt w B R m) (k : Below w.heap.size w w') : ResAt w' B R m := ⟨h.out.on k, h.reads.on k, h.writes.on k, h.ao, h.ar, h.aw⟩
theorem abv_blw {B : Nat} {F G : List Nat} (h : Abv B F) (k : ∀ x ∈ G, x < B) : Sep F G := fun i hi q => absurd (h i hi) (Nat.not_le.2 (k i q))
theorem ResAt.turn {w w' : World} {B : Nat} {R : Rs} {m : Mac} {G G' : List Nat} (h : ResAt w B R m) (k : Turn G G' w w') (hG : ∀ x ∈ G, x < B) : ResAt w' B R m :=
  ⟨h.out.turn k (abv_blw h.ao hG), h.reads.turn k (abv_blw h.ar hG), h.writes.turn k (abv_blw h.aw hG), h.ao, h.ar, h.aw⟩
theorem ResAt.mono {w : World} {B B' : Nat} {R : Rs} {m : Mac} (h : ResAt w B R m) (k : B' ≤ B) : ResAt w B' R m := ⟨h.out, h.reads, h.writes, h.ao.mono k, h.ar.mono k, h.aw.mono k⟩
/-- no machine at all: nothing is told -/
def zeroM : Mac := ⟨0, 0, 0, false, [], fun _ => 0, fun _ => 0, [], [], 0, 0, [], [], [], -1, 0, 0, 0⟩
/-- whether a run may be: the config, the state's size, so many arguments -/
def goodB (a b c e : Int) (n k : Nat) : Bool := Md.cfgB a b c e && decide ((n : Int) = a) && decide (k ≤ 8)
def runR (a b c e t : Int) (cs : List Ins) (l s : List Nat) : Mac := if goodB a b c e s.length l.length then endM s (newM a c e t cs l) else zeroM
def runE (a b c e : Int) (n k : Nat) : Int := if goodB a b c e n k then 0 else 1
/-! finish -/
theorem Turn.past {F : List Nat} {W wr u : World} {ga : Nat} (ht : Turn [] F W wr) (t : Turn [ga] [ga] wr u) (hg : W.heap.size ≤ ga) : Turn [] F W u :=
  ⟨t.os.trans ht.os, t.tape.trans ht.tape, t.output.trans ht.output, Nat.le_trans ht.size t.size, fun k hk _ => (t.block k (Nat.lt_of_lt_of_le hk ht.size) (by simp; omega)).trans (ht.block k hk (by simp)), ht.own⟩
/-- a machine beside the box of an answer -/
structure Fin (W : World) (bm ga : Nat) (K : List Nat) (wr : World) (m : Mac) (a : Ask) : Prop where
  ex : ∃ F, Mc wr bm F K m ∧ Turn [] F W wr ∧ ga ∉ F
  box : wr.heap[ga]? = some (askO a)
  nk : ga ∉ K
  hg : W.heap.size ≤ ga
theorem Gm.boxed {W w : World} {bm : Nat} {K : List Nat} {m : Mac} (h : Gm W [] bm K w m) (a : Ask) : Fin W bm w.heap.size K (w.alloc (askO a)) m a := by
  obtain ⟨F, hM, ht⟩ := h.mc
  exact ⟨⟨F, hM.on (below_alloc _ _), ht.trans (Below.turn (below_alloc w _) F), fun q => absurd (hM.blw _ q) (Nat.lt_irrefl _)⟩, heap_alloc_new _ _, fun q => absurd (hM.blwK _ q) (Nat.lt_irrefl _), ht.size⟩
section
variable {W wr : World} {bm ga : Nat} {K : List Nat} {m : Mac} {a : Ask}
theorem Fin.gm (h : Fin W bm ga K wr m a) : Gm W [] bm K wr m := by
  obtain ⟨F, hM, ht, _⟩ := h.ex
  exact hM.gm.trans ht
theorem Fin.turned (h : Fin W bm ga K wr m a) {F : List Nat} (ht : Turn [] F W wr) (hn : ga ∉ F) {u : World} {m' : Mac} (g : Gm wr F bm K u m') : Fin W bm ga K u m' a := by
  obtain ⟨F', hM', ht'⟩ := g.mc
  exact ⟨⟨F', hM', ht.trans ht', fun q => (ht'.own _ q).elim hn (fun z => absurd (lt_of_block h.box) (Nat.not_lt.2 z))⟩, (g.far (lt_of_block h.box) hn).trans h.box, h.nk, h.hg⟩
theorem Fin.step (h : Fin W bm ga K wr m a) (hT : Shaped5 W) (hI : Inv m) : Calls Tryz.prog 91 #[.pointer (some ⟨bm, 0, none⟩)] wr fun e u => e = .returned (askV (stepM m).2) ∧ Fin W bm ga K u (stepM m).1 a := by
  obtain ⟨F, hM, ht, hn⟩ := h.ex
  have hTab : TabAt wr F := TabAt.turn (w := W) (F := []) ⟨hT, by simp⟩ ht
  exact (step_any hM.gm hTab hI).mono fun e u ⟨q1, q2⟩ => ⟨q1, h.turned ht hn q2⟩
theorem Fin.give (h : Fin W bm ga K wr m a) (hI : Inv m) (x : Nat) : Calls Tryz.prog 93 #[.pointer (some ⟨bm, 0, none⟩), .float .f64 x] wr fun e u => e = .returned (.int .i64 (giveE m)) ∧ Fin W bm ga K u (giveM m x) a := by
  obtain ⟨F, hM, ht, hn⟩ := h.ex
  exact (give_any hM.gm hI x).mono fun e u ⟨q1, q2⟩ => ⟨q1, h.turned ht hn q2⟩
theorem Fin.put (h : Fin W bm ga K wr m a) (k' : Ask) : Fin W bm ga K ((((wr.setCell ⟨ga, 0, none⟩ (.int .i64 k'.kind)).setCell ⟨ga, 1, none⟩ (.int .i64 k'.cell)).setCell ⟨ga, 2, none⟩ (.float .f64 k'.x)).setCell ⟨ga, 3, none⟩ (.bool k'.first)) m k' := by
  obtain ⟨F, hM, ht, hn⟩ := h.ex
  have t := (((turn_set wr ga 0 (.int .i64 k'.kind)).trans (turn_set _ ga 1 (.int .i64 k'.cell))).trans (turn_set _ ga 2 (.float .f64 k'.x))).trans (turn_set _ ga 3 (.bool k'.first))
  exact ⟨⟨F, hM.turn t (fun x hx q => by simp at q; subst q; exact hn hx) (fun x hx q => by simp at q; subst q; exact h.nk hx), ht.past t h.hg, hn⟩, askO_set h.box, h.nk, h.hg⟩
end
set_option maxHeartbeats 2000000 in
set_option maxRecDepth 100000 in
theorem finish_any {W w : World} {bm b : Nat} {K F : List Nat} {m : Mac} {s : List Nat} (hG : Gm W [] bm K w m) (hT : Shaped5 W) (hS : Sx.Cel 121 W b F s) (hs : okS s) (hm : Rest m) : Calls Tryz.prog 62 #[.pointer (some ⟨bm, 0, none⟩), .pointer (some ⟨b, 0, none⟩)] w fun e w' => e = .returned (.tuple #[]) ∧ Gm W [] bm K w' (endM s m) := by
  have HGT : Hid (∀ u ga m' a, Fin W bm ga K u m' a → ∀ i : Int, Calls Tryz.prog 92 #[.pointer (some ⟨b, 0, none⟩), .int .i64 i] u fun e w' => e = .returned (.tuple #[.float .f64 (Sx.getV s i), .int .i64 (Sx.cellE s.length i)]) ∧ w' = u) := fun u ga m' a h i => Sx.get_any (hS.on h.gm.fresh) i
  have HST0 := Lib.hid (step_any hG ⟨hT, by simp⟩ hm.inv)
  have HST : Hid (∀ u ga m' a, Fin W bm ga K u m' a → Inv m' → Calls Tryz.prog 91 #[.pointer (some ⟨bm, 0, none⟩)] (u.alloc (askO a)) fun e v => e = .returned (askV (stepM m').2) ∧ Fin W bm u.heap.size K v (stepM m').1 a) := fun u ga m' a h hI => (h.gm.boxed a).step hT hI
  have HGV : Hid (∀ u ga m' a x, Fin W bm ga K u m' a → Inv m' → Calls Tryz.prog 93 #[.pointer (some ⟨bm, 0, none⟩), .float .f64 x] u fun e v => e = .returned (.int .i64 (giveE m')) ∧ Fin W bm ga K v (giveM m' x) a) := fun u ga m' a x h hI => h.give hI x
  have HM : Hid (Rest m ∧ okS s) := ⟨hm, hs⟩
  clear hG hT hS hs hm
  unfold askV at HST0 HST
  go_enter Tryz.func62, Tryz.ntmps62
  go_wp2_with (go_at_call 91; refine HST0.out.mono ?_; rintro e u0 ⟨rfl, q⟩; have F0 := Lib.hid (q.boxed (stepM m).2); clear q HST0)
  go_loopg [4] 1100 (fun k v4 wr => ∃ ga mk, v4 = .pointer (some ⟨ga, 0, none⟩) ∧ Hid (Fin W bm ga K wr (stepM mk).1 (stepM mk).2 ∧ Rest mk ∧ endM s mk = endM s m ∧ (mk.how = 0 → 1025 - mk.used < (k : Int))))
  case atStart => exact ⟨u0.heap.size, m, rfl, F0.out, HM.out.1, rfl, fun _ => by have := HM.out.1.inv.used; omega⟩
  case round =>
    obtain ⟨ga, mk, rfl, HR⟩ := hrel
    have HIN := Lib.hid (inv_step HR.out.2.1.inv)
    have HG0 : Hid (Rest (goM s mk) ∧ endM s (goM s mk) = endM s m) := ⟨HR.out.2.1.go HM.out.2, (endM_go HM.out.2 HR.out.2.1).trans HR.out.2.2.1⟩
    have hk : ((stepM mk).2.kind = 4 ∧ goM s mk = (stepM mk).1 ∧ endM s m = (stepM mk).1) ∨ ((stepM mk).2.kind = 1 ∧ goM s mk = giveM (stepM mk).1 (Sx.getV s (stepM mk).2.cell) ∧ mk.how = 0 ∧ ((goM s mk).how = 0 → (goM s mk).used = mk.used + 1)) ∨ (((stepM mk).2.kind ≠ 4 ∧ (stepM mk).2.kind ≠ 1) ∧ goM s mk = (stepM mk).1 ∧ mk.how = 0 ∧ ((goM s mk).how = 0 → (goM s mk).used = mk.used + 1)) := by
      have hr := HR.out.2.1
      by_cases h4 : (stepM mk).2.kind = 4
      · have e1 : goM s mk = (stepM mk).1 := go_kindN (by rw [h4]; decide)
        refine .inl ⟨h4, e1, ?_⟩
        rw [← HG0.out.2, ← e1]
        have hh : (goM s mk).how ≠ 0 := by
          by_cases h0 : mk.how = 0
          · obtain ⟨_, _, ⟨_, g3⟩ | ⟨g2, _⟩⟩ := go_turns (s := s) hr.inv hr.nw h0
            · exact g3
            · exact absurd h4 g2
          · rw [go_over hr.nw h0]; exact h0
        exact runN_over HG0.out.1.nw hh _
      · have h0 : mk.how = 0 := by
          by_cases h0 : mk.how = 0
          · exact h0
          · rw [step_over hr.nw h0] at h4
            exact absurd rfl h4
        have hu : (goM s mk).how = 0 → (goM s mk).used = mk.used + 1 := by
          obtain ⟨_, _, ⟨g2, _⟩ | ⟨_, _, g4⟩⟩ := go_turns (s := s) hr.inv hr.nw h0
          · exact absurd g2 h4
          · exact fun _ => g4
        by_cases h1 : (stepM mk).2.kind = 1
        · exact .inr (.inl ⟨h1, go_kind1 h1, h0, hu⟩)
        · exact .inr (.inr ⟨⟨h4, h1⟩, go_kindN h1, h0, hu⟩)
    have hus := HR.out.2.1.inv.used
    have hfu := HR.out.2.1.inv.fuel
    obtain ⟨⟨x0, x1, x2, x3, x4⟩, _⟩ := askO_cells HR.out.1.box
    have HF := Lib.hid HR.out.1
    have HMS : Hid (mk.how = 0 → 1025 - mk.used < (gk : Int)) := HR.out.2.2.2
    have hus2 : mk.used ≤ 1024 := by omega
    clear HR hus hfu
    generalize hmg : goM s mk = mg at HG0 hk
    generalize stepM mk = r at HF HIN hk x0 x1 x2 x3
    obtain ⟨m', ⟨kd, cl, xx, fi⟩⟩ := r
    dsimp only at HF HIN hk x0 x1 x2 x3
    clear hmg
    rcases hk with ⟨rfl, _, he⟩ | ⟨rfl, rfl, h0, hu⟩ | ⟨⟨h4, h1⟩, rfl, h0, hu⟩
    · have HE : Hid (Gm W [] bm K wr (endM s m)) := by rw [he]; exact HF.out.gm
      clear he HG0 HST HGV HGT HMS
      go_wp2
      go_end0
      exact ⟨rfl, HE.out⟩
    · have HNX : Hid ((giveM m' (Sx.getV s cl)).how = 0 → 1025 - (giveM m' (Sx.getV s cl)).used < ((gk - 1 : Nat) : Int)) := fun hh => by have := hu hh; have := HMS.out h0; omega
      have hgk : gk - 1 < gk := by have := HMS.out h0; omega
      have HGV1 := Lib.hid (fun u (h : Fin W bm ga K u m' ⟨1, cl, xx, fi⟩) => HGV.out u ga m' _ (Sx.getV s cl) h HIN.out)
      have HGT1 := Lib.hid (HGT.out wr ga m' _ HF.out cl)
      clear HMS hu h0 hus2
      generalize giveM m' (Sx.getV s cl) = mg at HGV1 HG0 HNX
      have HST1 := Lib.hid (fun u (h : Fin W bm ga K u mg ⟨1, cl, xx, fi⟩) => HST.out u ga mg _ h HG0.out.1.inv)
      generalize Sx.getV s cl = y at HGV1 HGT1
      clear HGV HGT HST
      go_wp2_with (first
        | (go_at_call 91; refine (HST1.out _ F1.out).mono ?_; rintro e u2 ⟨rfl, q⟩; obtain ⟨⟨z0, z1, z2, z3, z4⟩, y0, y1, y2, y3⟩ := askO_cells q.box; have F2 := Lib.hid (q.put (stepM mg).2); clear q)
        | (go_at_call 93; refine (HGV1.out _ HF.out).mono ?_; rintro e u1 ⟨rfl, q⟩; obtain ⟨⟨x0, x1, x2, x3, x4⟩, _⟩ := askO_cells q.box; have F1 := Lib.hid q; clear q)
        | (go_at_call 92; refine HGT1.out.mono ?_; rintro e w' ⟨rfl, hw⟩; subst w'))
      go_roundg (gk - 1)
      case measure => exact hgk
      case rel => exact ⟨_, mg, rfl, F2.out, HG0.out.1, HG0.out.2, HNX.out⟩
    · have HNX : Hid (mg.how = 0 → 1025 - mg.used < ((gk - 1 : Nat) : Int)) := fun hh => by have := hu hh; have := HMS.out h0; omega
      have hgk : gk - 1 < gk := by have := HMS.out h0; omega
      have HST1 := Lib.hid (HST.out wr ga mg _ HF.out HG0.out.1.inv)
      clear HMS hu h0 hus2 HGV HGT HST
      go_wp2_with (go_at_call 91; refine HST1.out.mono ?_; rintro e u2 ⟨rfl, q⟩; obtain ⟨⟨z0, z1, z2, z3, z4⟩, y0, y1, y2, y3⟩ := askO_cells q.box; have F2 := Lib.hid (q.put (stepM mg).2); clear q)
      go_roundg (gk - 1)
      case measure => exact hgk
      case rel => exact ⟨_, mg, rfl, F2.out, HG0.out.1, HG0.out.2, HNX.out⟩
/-! became, fits, Run -/
theorem res_back {fn : Func} {p : Tmp} (h : fn.results = #[.cell p 83]) {Q : Ending → World → Prop} {a : Act} {w : World} (g : Nat) (R : Rs) (m : Mac) (hp : a.tmps.getD p undef = .pointer (some ⟨g, 0, none⟩))
    (hg : w.heap[g]? = some (.cells (resC R m) 83 (0, 0))) (hd : a.defers = []) (hR : Q (.returned (resV R m)) w) : bodyPost Tryz.prog fn Q .ret a w :=
  bodyPost_ret (results_cell_row h _ _ g _ _ _ _ hp hg Tryz.underlying83 rfl (by kernel_rfl)) hd hR
theorem res_back2 {fn : Func} {p u : Tmp} (h : fn.results = #[.cell p 83, .tmp u]) {Q : Ending → World → Prop} {a : Act} {w : World} (g : Nat) (R : Rs) (m : Mac) (e : Int) (hp : a.tmps.getD p undef = .pointer (some ⟨g, 0, none⟩)) (hu : a.tmps.getD u undef = .int .i64 e)
    (hg : w.heap[g]? = some (.cells (resC R m) 83 (0, 0))) (hd : a.defers = []) (hR : Q (.returned (.tuple #[resV R m, .int .i64 e])) w) : bodyPost Tryz.prog fn Q .ret a w := by
  refine bodyPost_ret (v := .tuple #[resV R m, .int .i64 e]) ?_ hd hR
  rw [results_cell_tmp h, hp, hu]
  have hl := run_loadVar_row (P := Tryz.prog) w g 83 83 (resC R m) (0, 0) _ hg Tryz.underlying83 rfl (by kernel_rfl)
  simp [asAddr, hl, Result.andThen]
theorem cells7_of {w : World} {x : Nat} {v0 v1 v2 v3 v4 v5 v6 : Value} {T : TypeId} (h : w.heap[x]? = some (.cells #[v0, v1, v2, v3, v4, v5, v6] T (0, 0))) : (w.cell? ⟨x, 0, none⟩ = some v0 ∧ w.cell? ⟨x, 1, none⟩ = some v1 ∧ w.cell? ⟨x, 2, none⟩ = some v2 ∧ w.cell? ⟨x, 3, none⟩ = some v3 ∧ w.cell? ⟨x, 4, none⟩ = some v4 ∧ w.cell? ⟨x, 5, none⟩ = some v5 ∧ w.cell? ⟨x, 6, none⟩ = some v6 ∧ x < w.heap.size) ∧ w.frozen? ⟨x, 0, none⟩ = false ∧ w.frozen? ⟨x, 1, none⟩ = false ∧ w.frozen? ⟨x, 2, none⟩ = false ∧ w.frozen? ⟨x, 3, none⟩ = false ∧ w.frozen? ⟨x, 4, none⟩ = false ∧ w.frozen? ⟨x, 5, none⟩ = false ∧ w.frozen? ⟨x, 6, none⟩ = false :=
  ⟨⟨by rw [cell_of_row w x 0 _ _ _ h]; rfl, by rw [cell_of_row w x 1 _ _ _ h]; rfl, by rw [cell_of_row w x 2 _ _ _ h]; rfl, by rw [cell_of_row w x 3 _ _ _ h]; rfl, by rw [cell_of_row w x 4 _ _ _ h]; rfl, by rw [cell_of_row w x 5 _ _ _ h]; rfl, by rw [cell_of_row w x 6 _ _ _ h]; rfl, lt_of_block h⟩, frozen_of_row w x 0 _ _ h, frozen_of_row w x 1 _ _ h, frozen_of_row w x 2 _ _ h, frozen_of_row w x 3 _ _ h, frozen_of_row w x 4 _ _ h, frozen_of_row w x 5 _ _ h, frozen_of_row w x 6 _ _ h⟩
theorem box_set7 {w : World} {x : Nat} {v0 v1 v2 v3 v4 v5 v6 u0 u1 u2 u3 u4 u5 u6 : Value} {T : TypeId} (h : w.heap[x]? = some (.cells #[v0, v1, v2, v3, v4, v5, v6] T (0, 0))) : (((((((w.setCell ⟨x, 0, none⟩ u0).setCell ⟨x, 1, none⟩ u1).setCell ⟨x, 2, none⟩ u2).setCell ⟨x, 3, none⟩ u3).setCell ⟨x, 4, none⟩ u4).setCell ⟨x, 5, none⟩ u5).setCell ⟨x, 6, none⟩ u6).heap[x]? = some (.cells #[u0, u1, u2, u3, u4, u5, u6] T (0, 0)) := by
  have e0 := heap_setCell_same w x 0 _ _ u0 h
  have e1 := heap_setCell_same _ x 1 _ _ u1 e0
  have e2 := heap_setCell_same _ x 2 _ _ u2 e1
  have e3 := heap_setCell_same _ x 3 _ _ u3 e2
  have e4 := heap_setCell_same _ x 4 _ _ u4 e3
  have e5 := heap_setCell_same _ x 5 _ _ u5 e4
  have e6 := heap_setCell_same _ x 6 _ _ u6 e5
  simp only [List.setIfInBounds_toArray, List.set_cons_zero, List.set_cons_succ] at e6
  exact e6
theorem turn_set7 (w : World) (x : Nat) (u0 u1 u2 u3 u4 u5 u6 : Value) : Turn [x] [x] w (((((((w.setCell ⟨x, 0, none⟩ u0).setCell ⟨x, 1, none⟩ u1).setCell ⟨x, 2, none⟩ u2).setCell ⟨x, 3, none⟩ u3).setCell ⟨x, 4, none⟩ u4).setCell ⟨x, 5, none⟩ u5).setCell ⟨x, 6, none⟩ u6) := ((((((turn_set w x 0 u0).trans (turn_set _ x 1 u1)).trans (turn_set _ x 2 u2)).trans (turn_set _ x 3 u3)).trans (turn_set _ x 4 u4)).trans (turn_set _ x 5 u5)).trans (turn_set _ x 6 u6)
abbrev resZ : Obj := .cells #[.int .i64 0, .int .i64 0, .int .i64 0, .slice none 0 0, .slice none 0 0, .slice none 0 0, .int .i64 0] 83
set_option maxHeartbeats 2000000 in
set_option maxRecDepth 100000 in
theorem became_any {W w : World} {b : Nat} {F0 K : List Nat} {m : Mac} (h : Gm W F0 b K w m) (ho : m.out.length ≤ 1024) (hr : m.reads.length ≤ 1024) : Calls Tryz.prog 64 #[.pointer (some ⟨b, 0, none⟩)] w fun e w' => ∃ R, e = .returned (resV R m) ∧ ResAt w' w.heap.size R m ∧ Below w.heap.size w w' := by
  have hz := below_alloc w resZ
  have HE := Lib.hid (end_any (h.on hz))
  have HO := Lib.hid (fun u (hb : Below (w.alloc resZ).heap.size (w.alloc resZ) u) => out_any ((h.on hz).on hb) ho)
  have HR := Lib.hid (fun u (hb : Below (w.alloc resZ).heap.size (w.alloc resZ) u) => reads_any ((h.on hz).on hb) hr)
  have HW := Lib.hid (fun u (hb : Below (w.alloc resZ).heap.size (w.alloc resZ) u) => writes_any ((h.on hz).on hb))
  have HU := Lib.hid (fun u (hb : Below (w.alloc resZ).heap.size (w.alloc resZ) u) => used_any ((h.on hz).on hb))
  unfold endV at HE
  have HZ := Lib.hid hz
  have HC : Hid (∀ u, Below (w.alloc resZ).heap.size (w.alloc resZ) u → u.heap[w.heap.size]? = some resZ) := fun u hb => (hb.block _ (by simp)).trans (heap_alloc_new w _)
  clear h ho hr hz
  go_enter Tryz.func64, Tryz.ntmps64
  go_wp2_with (first
    | (go_at_call 96; refine (HU.out _ B4.out).mono ?_; rintro e w' ⟨rfl, hw⟩; subst w')
    | (go_at_call 47; refine (HW.out _ B3.out).mono ?_; rintro e u4 ⟨rfl, q1, q2⟩; have R4 := Lib.hid (And.intro q1 q2); have B4 := Lib.hid (B3.out.trans (q2.mono B3.out.size)); obtain ⟨⟨x0, x1, x2, x3, x4, x5, x6, x7⟩, y0, y1, y2, y3, y4, y5, y6⟩ := cells7_of (HC.out _ B4.out); clear q1 q2)
    | (go_at_call 46; refine (HR.out _ B2.out).mono ?_; rintro e u3 ⟨pr, cr, rfl, q0, q1, q2⟩; have R3 := Lib.hid (And.intro q0 (And.intro q1 q2)); have B3 := Lib.hid (B2.out.trans (q2.mono B2.out.size)); clear q0 q1 q2)
    | (go_at_call 48; refine (HO.out _ B1.out).mono ?_; rintro e u2 ⟨po, co, rfl, q0, q1, q2⟩; have R2 := Lib.hid (And.intro q0 (And.intro q1 q2)); have B2 := Lib.hid (B1.out.trans (q2.mono B1.out.size)); clear q0 q1 q2)
    | (go_at_call 49; refine HE.out.mono ?_; rintro e u1 ⟨rfl, q⟩; have B1 := Lib.hid q; clear q))
  have hs1 := B1.out.size
  have hs2 := R2.out.2.2.size
  have hs3 := R3.out.2.2.size
  have hw1 : w.heap.size + 1 ≤ u1.heap.size := by simpa using hs1
  have hR : ResAt u4 u1.heap.size ⟨po, co, pr, cr, some ⟨u3.heap.size, 0, none⟩, m.buf.length⟩ m := ⟨(R2.out.1.on R3.out.2.2).on R4.out.2, R3.out.1.on R4.out.2, R4.out.1, R2.out.2.1, R3.out.2.1.mono hs2, fun k hk => by simp [fpR] at hk; omega⟩
  have t := turn_set7 u4 w.heap.size (.int .i64 m.how) (.int .i64 m.cod) (.int .i64 m.err) (.slice po m.out.length co) (.slice pr m.reads.length cr) (.slice (some ⟨u3.heap.size, 0, none⟩) m.buf.length m.buf.length) (.int .i64 m.used)
  refine res_back rfl w.heap.size ⟨po, co, pr, cr, some ⟨u3.heap.size, 0, none⟩, m.buf.length⟩ m rfl (box_set7 (HC.out _ B4.out)) rfl ⟨_, rfl, (hR.turn t (fun x hx => by simp at hx; omega)).mono (by omega), (HZ.out.trans (B4.out.mono HZ.out.size)).trans (t.below (fun x hx => by simp at hx; omega) (by have := B4.out.size; simp at this; omega))⟩
set_option maxHeartbeats 2000000 in
set_option maxRecDepth 100000 in
theorem afits_any {w : World} {bs : Nat} {F s : List Nat} (hS : Sx.Cel 121 w bs F s) (a b c e : Int) : Calls Tryz.prog 60 #[cfgV a b c e, .pointer (some ⟨bs, 0, none⟩)] w fun r w' => r = .returned (.bool (Md.cfgB a b c e && decide ((s.length : Int) = a))) ∧ Below w.heap.size w w' := by
  have HP := Lib.hid (Md.place_any a b c e (w.alloc (cfgO a b c e)))
  have HL : Hid (∀ u, Below w.heap.size w u → Calls Tryz.prog 85 #[.pointer (some ⟨bs, 0, none⟩)] u fun e w' => e = .returned (.int .i64 s.length) ∧ w' = u) := fun u hb => Sx.len_any (hS.on hb)
  have HZ := Lib.hid (below_alloc w (cfgO a b c e))
  have HC : Hid (∀ u, Below (w.alloc (cfgO a b c e)).heap.size (w.alloc (cfgO a b c e)) u → u.cell? ⟨w.heap.size, 0, none⟩ = some (.int .i64 a) ∧ w.heap.size < u.heap.size) := fun u hb => by
    have h1 := (hb.block w.heap.size (by simp)).trans (heap_alloc_new w (cfgO a b c e))
    exact ⟨by rw [cell_of_row u _ 0 _ _ _ h1]; rfl, lt_of_block h1⟩
  clear hS
  cases hc : Md.cfgB a b c e
  · rw [hc, if_neg Bool.false_ne_true] at HP
    clear hc
    go_enter Tryz.func60, Tryz.ntmps60
    go_wp2_with (go_at_call 67; refine HP.out.mono ?_; rintro r u0 ⟨rfl, q⟩; obtain ⟨x0, x1⟩ := HC.out _ q; have HQ := Lib.hid (HZ.out.trans (q.mono HZ.out.size)); clear q HP)
    go_region
    all_goals (try go_wp2)
    all_goals go_ret
    all_goals exact ⟨rfl, (HQ.out.alloc HQ.out.size _).trans ((Same.drewN _ _).below _)⟩
  · rw [hc, if_pos rfl] at HP
    clear hc
    by_cases hl : (s.length : Int) = a
    · rw [decide_eq_true hl, Bool.true_and]
      go_enter Tryz.func60, Tryz.ntmps60
      go_wp2_with (go_at_call 67; refine HP.out.mono ?_; rintro r u0 ⟨rfl, q⟩; obtain ⟨x0, x1⟩ := HC.out _ q; have HQ := Lib.hid (HZ.out.trans (q.mono HZ.out.size)); clear q HP)
      go_region_with (go_at_call 85; refine (HL.out _ ((HQ.out.alloc HQ.out.size _).trans ((Same.drewN _ _).below _))).mono ?_; rintro r w' ⟨rfl, hw⟩; subst w')
      all_goals (try go_wp2)
      all_goals go_ret
      all_goals exact ⟨rfl, (HQ.out.alloc HQ.out.size _).trans ((Same.drewN _ _).below _)⟩
    · rw [decide_eq_false hl, Bool.true_and]
      go_enter Tryz.func60, Tryz.ntmps60
      go_wp2_with (go_at_call 67; refine HP.out.mono ?_; rintro r u0 ⟨rfl, q⟩; obtain ⟨x0, x1⟩ := HC.out _ q; have HQ := Lib.hid (HZ.out.trans (q.mono HZ.out.size)); clear q HP)
      go_region_with (go_at_call 85; refine (HL.out _ ((HQ.out.alloc HQ.out.size _).trans ((Same.drewN _ _).below _))).mono ?_; rintro r w' ⟨rfl, hw⟩; subst w')
      all_goals (try go_wp2)
      all_goals go_ret
      all_goals exact ⟨by show Ending.returned (.bool ((s.length : Int) == a)) = _; rw [show ((s.length : Int) == a) = false by simpa using hl], (HQ.out.alloc HQ.out.size _).trans ((Same.drewN _ _).below _)⟩
/-- what is stored over the empty result, and all else -/
theorem Turn.past2 {F F' : List Nat} {W u v : World} {g : Nat} (ht : Turn F F' W u) (t : Turn [g] [g] u v) (hg : W.heap.size ≤ g) : Turn F F' W v :=
  ⟨t.os.trans ht.os, t.tape.trans ht.tape, t.output.trans ht.output, Nat.le_trans ht.size t.size, fun k hk hn => (t.block k (Nat.lt_of_lt_of_le hk ht.size) (by simp; omega)).trans (ht.block k hk hn), ht.own⟩
theorem run_close {w u : World} {bs g B : Nat} {F s : List Nat} {R : Rs} {m : Mac} (hB : Turn F F w u) (hC : Sx.Cel 121 u bs F s) (hR : ResAt u B R m) (hbox : u.heap[g]? = some resZ) (hg : w.heap.size ≤ g) (hgB : g < B) (hF : Blw w F) (hwB : w.heap.size ≤ B) {v : World} (hv : v = (((((((u.setCell ⟨g, 0, none⟩ (.int .i64 m.how)).setCell ⟨g, 1, none⟩ (.int .i64 m.cod)).setCell ⟨g, 2, none⟩ (.int .i64 m.err)).setCell ⟨g, 3, none⟩ (.slice R.po m.out.length R.co)).setCell ⟨g, 4, none⟩ (.slice R.pr m.reads.length R.cr)).setCell ⟨g, 5, none⟩ (.slice R.pw m.buf.length R.cw)).setCell ⟨g, 6, none⟩ (.int .i64 m.used))) :
    v.heap[g]? = some (.cells (resC R m) 83 (0, 0)) ∧ ResAt v w.heap.size R m ∧ Sx.Cel 121 v bs F s ∧ Turn F F w v := by
  subst hv
  have t := turn_set7 u g (.int .i64 m.how) (.int .i64 m.cod) (.int .i64 m.err) (.slice R.po m.out.length R.co) (.slice R.pr m.reads.length R.cr) (.slice R.pw m.buf.length R.cw) (.int .i64 m.used)
  exact ⟨box_set7 hbox, (hR.turn t (fun x hx => by simp at hx; omega)).mono hwB, hC.turn t (fun x hx q => by simp at q; have := hF x hx; omega), hB.past2 t hg⟩
abbrev runW (w : World) (a b c e t : Int) (ao : Option Addr) (n cap : Nat) : World := (newW w a b c e t ao n cap).alloc resZ
theorem runW_below (w : World) (a b c e t : Int) (ao : Option Addr) (n cap : Nat) : Below w.heap.size w (runW w a b c e t ao n cap) := (newW_below w a b c e t ao n cap).trans ((below_alloc _ _).mono (by simp; omega))
theorem runW_boxes {w u : World} {a b c e t : Int} {ao : Option Addr} {n cap : Nat} (h : Below (runW w a b c e t ao n cap).heap.size (runW w a b c e t ao n cap) u) : (u.cell? ⟨w.heap.size, 0, none⟩ = some (.int .i64 a) ∧ u.cell? ⟨w.heap.size, 1, none⟩ = some (.int .i64 b) ∧ u.cell? ⟨w.heap.size, 2, none⟩ = some (.int .i64 c) ∧ u.cell? ⟨w.heap.size, 3, none⟩ = some (.int .i64 e) ∧ w.heap.size < u.heap.size) ∧ (u.cell? ⟨w.heap.size + 1, 0, none⟩ = some (.int .i64 t) ∧ u.cell? ⟨w.heap.size + 1, 1, none⟩ = some (.slice ao n cap) ∧ w.heap.size + 1 < u.heap.size) ∧ u.heap[w.heap.size + 2]? = some resZ ∧ Below w.heap.size w u := by
  have h2 : Below (newW w a b c e t ao n cap).heap.size (newW w a b c e t ao n cap) u := (below_alloc _ resZ).trans (h.mono (by simp))
  obtain ⟨x0, x1, x2, x3, x4⟩ := newW_boxes4 h2
  obtain ⟨_, ⟨y0, y1, y2⟩, y3⟩ := newW_boxes h2
  exact ⟨⟨x0, x1, x2, x3, x4⟩, ⟨y0, y1, y2⟩, (h.block (w.heap.size + 2) (by simp)).trans (heap_new (by simp)), y3⟩
end Go.Proofs.YteinilmecnlanaaGreatDoor
namespace Go.Proofs.YteinilmecnlanaaGreatDoor
open Go.ChangeShapes Go.WideShapes Go.ChangeAt Go.RowKit Num
attribute [local go_sem] run_store_float

/-! Run -/
theorem res_none (w : World) (B : Nat) : ResAt w B ⟨none, 0, none, 0, none, 0⟩ zeroM := ⟨⟨World.ownsRow_nil _ _ _ _⟩, ⟨World.ownsRow_nil _ _ _ _⟩, ⟨World.ownsRow_nil _ _ _ _⟩, fun k hk => by simp [fpR] at hk, fun k hk => by simp [fpR] at hk, fun k hk => by simp [fpR] at hk⟩
theorem TRow.tch {w : World} {p : Option Addr} {c : Nat} {l : Wr} (h : TRow w p c l) : Sx.TchAt w p l := fun i hi => by
  obtain ⟨g, h1, h2, h3, h4, _⟩ := h.at i hi
  exact ⟨g, h1, h2, h3, h4⟩
theorem Rest.told {m : Mac} (h : Rest m) : m.out.length ≤ 1024 ∧ m.reads.length ≤ 1024 := by
  have h1 := h.inv.out
  have h2 := h.inv.reads
  have h3 := h.inv.used
  have h4 := h.inv.fuel
  rw [if_neg h.nw] at h2
  omega
set_option maxHeartbeats 2000000 in
set_option maxRecDepth 100000 in
theorem run_bad {w : World} {a b c e t : Int} {ao : Option Addr} {n cap : Nat} {po : Option Addr} {k co bs : Nat} {F s : List Nat} (hS : Sx.Cel 121 w bs F s) (hg : goodB a b c e s.length k = false) : Calls Tryz.prog 32 #[cfgV a b c e, .agg #[.int .i64 t, .slice ao n cap], .slice po k co, .pointer (some ⟨bs, 0, none⟩)] w fun r w' => r = .returned (.tuple #[resV ⟨none, 0, none, 0, none, 0⟩ zeroM, .int .i64 1]) ∧ Below w.heap.size w w' := by
  have HF := Lib.hid (afits_any (hS.on (runW_below w a b c e t ao n cap)) a b c e)
  clear hS
  unfold goodB at hg
  have HX : Hid (∀ u, Below (runW w a b c e t ao n cap).heap.size (runW w a b c e t ao n cap) u → u.heap[w.heap.size + 2]? = some resZ ∧ Below w.heap.size w u) := fun u hb => (runW_boxes hb).2.2
  have HT : Hid (∀ u, Below w.heap.size w u → w.heap.size + 2 < u.heap.size → Below w.heap.size w (((((((u.setCell ⟨w.heap.size + 2, 0, none⟩ (.int .i64 0)).setCell ⟨w.heap.size + 2, 1, none⟩ (.int .i64 0)).setCell ⟨w.heap.size + 2, 2, none⟩ (.int .i64 0)).setCell ⟨w.heap.size + 2, 3, none⟩ (.slice none 0 0)).setCell ⟨w.heap.size + 2, 4, none⟩ (.slice none 0 0)).setCell ⟨w.heap.size + 2, 5, none⟩ (.slice none 0 0)).setCell ⟨w.heap.size + 2, 6, none⟩ (.int .i64 0))) := fun u hb hl => hb.trans ((turn_set7 u (w.heap.size + 2) _ _ _ _ _ _ _).below (fun x hx => by simp at hx; omega) (by omega))
  cases hf : (Md.cfgB a b c e && decide ((s.length : Int) = a))
  · rw [hf] at HF
    clear hg hf
    go_enter Tryz.func32, Tryz.ntmps32
    go_wp2_with (go_at_call 60; refine HF.out.mono ?_; rintro r u ⟨rfl, q⟩; obtain ⟨⟨x0, x1, x2, x3, x4, x5, x6, x7⟩, y0, y1, y2, y3, y4, y5, y6⟩ := cells7_of (HX.out _ q).1; have HQ := Lib.hid (HX.out _ q); clear q HF)
    exact res_back2 rfl (w.heap.size + 2) ⟨none, 0, none, 0, none, 0⟩ zeroM 1 rfl rfl (box_set7 HQ.out.1) rfl ⟨rfl, HT.out _ HQ.out.2 x7⟩
  · have hk : (8 : Int) < (k : Int) := by rw [hf] at hg; simp at hg; omega
    rw [hf] at HF
    clear hg hf
    go_enter Tryz.func32, Tryz.ntmps32
    go_wp2_with (go_at_call 60; refine HF.out.mono ?_; rintro r u ⟨rfl, q⟩; obtain ⟨⟨x0, x1, x2, x3, x4, x5, x6, x7⟩, y0, y1, y2, y3, y4, y5, y6⟩ := cells7_of (HX.out _ q).1; have HQ := Lib.hid (HX.out _ q); clear q HF)
    exact res_back2 rfl (w.heap.size + 2) ⟨none, 0, none, 0, none, 0⟩ zeroM 1 rfl rfl (box_set7 HQ.out.1) rfl ⟨rfl, HT.out _ HQ.out.2 x7⟩
theorem end_field (h c e : Int) (w : World) : (Instr.field 59 (.agg #[.int .i64 h, .int .i64 c, .int .i64 e]) 0).run Tryz.prog w = .ok (.int .i64 h) w := by kernel_rfl
/-- a machine beside what has turned elsewhere -/
theorem Gm.aside {u v v' : World} {bm : Nat} {F K : List Nat} {m : Mac} (h : Gm u [] bm K v m) (hK : Abv u.heap.size K) (t : Turn F F v v') (hF : ∀ x ∈ F, x < u.heap.size) : ∃ F0, Gm v' F0 bm K v' m := by
  obtain ⟨F', hM, ht⟩ := h.mc
  exact ⟨F', (hM.turn t (fun x hx q => (ht.own x hx).elim (by simp) (fun z => absurd (hF x q) (by omega))) (fun x hx q => absurd (hF x q) (by have := hK x hx; omega))).gm⟩
set_option maxHeartbeats 4000000 in
set_option maxRecDepth 100000 in
theorem run_good {w : World} {a b c e t : Int} {ao : Option Addr} {cs : List Ins} {n cap : Nat} {po : Option Addr} {l : List Nat} {k co bs : Nat} {F s : List Nat} (hT : Shaped5 w) (hn : cs.length = n) (hk : l.length = k) (hC : CodeAt w ao cs) (hx : ∀ i ∈ cs, i.x < 18446744073709551616) (hL : FlAt w po l) (hl : ∀ x ∈ l, x < 18446744073709551616) (hnl : n ≤ 9223372036854775807) (hS : Sx.Cel 121 w bs F s) (hs : okS s) (hg : goodB a b c e s.length k = true) : Calls Tryz.prog 32 #[cfgV a b c e, .agg #[.int .i64 t, .slice ao n cap], .slice po k co, .pointer (some ⟨bs, 0, none⟩)] w fun r w' => ∃ R, r = .returned (.tuple #[resV R (endM s (newM a c e t cs l)), .int .i64 0]) ∧ ResAt w' w.heap.size R (endM s (newM a c e t cs l)) ∧ Sx.Cel 121 w' bs F (aftS s (endM s (newM a c e t cs l))) ∧ Turn F F w w' := by
  have hgg : Md.cfgB a b c e = true ∧ (s.length : Int) = a ∧ k ≤ 8 := by unfold goodB at hg; simp at hg; exact ⟨hg.1.1, hg.1.2, hg.2⟩
  have hRE : Rest (newM a c e t cs l) := new_rest hgg.1 (fun j hj => hx _ (List.mem_of_getElem? (ci_lt hj))) hl
  have HF := Lib.hid (afits_any (hS.on (runW_below w a b c e t ao n cap)) a b c e)
  rw [hgg.1, decide_eq_true hgg.2.1] at HF
  have HX : Hid (∀ u, Below (runW w a b c e t ao n cap).heap.size (runW w a b c e t ao n cap) u → u.heap[w.heap.size + 1 + 1]? = some resZ ∧ Below w.heap.size w u) := fun u hb => (runW_boxes hb).2.2
  have HB4 : Hid (∀ u, Below (runW w a b c e t ao n cap).heap.size (runW w a b c e t ao n cap) u → (u.cell? ⟨w.heap.size, 0, none⟩ = some (.int .i64 a) ∧ u.cell? ⟨w.heap.size, 1, none⟩ = some (.int .i64 b) ∧ u.cell? ⟨w.heap.size, 2, none⟩ = some (.int .i64 c) ∧ u.cell? ⟨w.heap.size, 3, none⟩ = some (.int .i64 e) ∧ w.heap.size < u.heap.size) ∧ (u.cell? ⟨w.heap.size + 1, 0, none⟩ = some (.int .i64 t) ∧ u.cell? ⟨w.heap.size + 1, 1, none⟩ = some (.slice ao n cap) ∧ w.heap.size + 1 < u.heap.size)) := fun u hb => ⟨(runW_boxes hb).1, (runW_boxes hb).2.1⟩
  have HN : Hid (∀ u, Below w.heap.size w u → Calls Tryz.prog 61 #[cfgV a b c e, .agg #[.int .i64 t, .slice ao n cap], .slice po k co] u fun r w' => ∃ bm K, r = .returned (.pointer (some ⟨bm, 0, none⟩)) ∧ Gm u [] bm K w' (newM a c e t cs l) ∧ Abv u.heap.size K) := fun u hb => mnew_any hn hk (hT.on hb) (hC.on hb) (hL.on hb) hnl hgg.1 hgg.2.2
  have HFI : Hid (∀ u bm K v, Below w.heap.size w u → Gm u [] bm K v (newM a c e t cs l) → Calls Tryz.prog 62 #[.pointer (some ⟨bm, 0, none⟩), .pointer (some ⟨bs, 0, none⟩)] v fun r w' => r = .returned (.tuple #[]) ∧ Gm u [] bm K w' (endM s (newM a c e t cs l))) := fun u bm K v hb hG => finish_any hG (hT.on hb) (hS.on hb) hs hRE
  have hE : Rest (endM s (newM a c e t cs l)) := endM_rest hs hRE
  have hEC : (endM s (newM a c e t cs l)).cells = a := (endM_like hs hRE).cells
  have hk8 : ¬ (8 : Int) < (k : Int) := by have := hgg.2.2; omega
  clear hT hC hx hL hl hnl hn hk hg hRE
  generalize endM s (newM a c e t cs l) = m at *
  generalize newM a c e t cs l = m0 at *
  have HBL := Lib.hid hS.blw
  have HE : Hid (∀ u bm K v, Gm u [] bm K v m → Calls Tryz.prog 49 #[.pointer (some ⟨bm, 0, none⟩)] v fun r w' => r = .returned (.agg #[.int .i64 m.how, .int .i64 m.cod, .int .i64 m.err]) ∧ Below v.heap.size v w') := fun u bm K v hG => end_any hG
  have HWR : Hid (∀ u bm K v, Gm u [] bm K v m → Calls Tryz.prog 47 #[.pointer (some ⟨bm, 0, none⟩)] v fun r w' => r = .returned (.slice (some ⟨v.heap.size, 0, none⟩) m.buf.length m.buf.length) ∧ TRow w' (some ⟨v.heap.size, 0, none⟩) m.buf.length m.buf ∧ Below v.heap.size v w') := fun u bm K v hG => writes_any hG
  have HBE : Hid (∀ W F0 bm K v, Gm W F0 bm K v m → Calls Tryz.prog 64 #[.pointer (some ⟨bm, 0, none⟩)] v fun r w' => ∃ R, r = .returned (resV R m) ∧ ResAt w' v.heap.size R m ∧ Below v.heap.size v w') := fun W F0 bm K v hG => became_any hG hE.told.1 hE.told.2
  have HAP : Hid (∀ v q, Below w.heap.size w v → w.heap.size ≤ q → TRow v (some ⟨q, 0, none⟩) m.buf.length m.buf → Calls Tryz.prog 63 #[.pointer (some ⟨bs, 0, none⟩), .slice (some ⟨q, 0, none⟩) m.buf.length m.buf.length] v fun r w' => r = .returned (.int .i64 (Sx.applyE s.length m.buf)) ∧ Sx.Cel 121 w' bs F (Sx.foldL s m.buf) ∧ Turn F F v w') := fun v q hb hq hr => by
    have hmany : m.buf.length ≤ 9223372036854775807 := by have := hE.inv.few; have := hE.inv.wmax; omega
    rw [← apply_is hE (hgg.2.1.trans hEC.symm)]
    exact Sx.apply_any' (hS.on hb) hr.tch rfl (fun x hx y => by simp [fpR] at hx; have := hS.blw x y; omega) hmany
  have HS := Lib.hid hS
  have h1 : m.how = 1 ∨ ¬ m.how = 1 := by omega
  have hfd := fun w => end_field m.how m.cod m.err w
  clear hgg hE hEC hS hs
  rcases h1 with h1 | h1
  · have HAF : Hid (aftS s m = Sx.foldL s m.buf) := if_pos h1
    rw [h1] at hfd HE
    clear h1
    go_enter Tryz.func32, Tryz.ntmps32
    go_wp2_with (first
      | (go_at_call 64; refine (HBE.out _ _ _ _ _ G6.out.1).mono ?_; rintro r u7 ⟨R, rfl, q1, q2⟩; have R7 := Lib.hid (And.intro q1 q2); have B7 := Lib.hid ((q2.block _ (lt_of_block G6.out.2)).trans G6.out.2); clear q1 q2; obtain ⟨⟨x0, x1, x2, x3, x4, x5, x6, x7⟩, y0, y1, y2, y3, y4, y5, y6⟩ := cells7_of B7.out)
      | (go_at_call 63; refine (HAP.out _ _ (HX.out _ B5.out).2 Q5.out R5.out).mono ?_; rintro r u6 ⟨rfl, q1, q2⟩; have C6 := Lib.hid (And.intro q1 q2); obtain ⟨F0, q3⟩ := G5.out.aside G2.out.2 q2 (fun x hx => Nat.lt_of_lt_of_le (HBL.out x hx) (HX.out _ B1.out).2.size); have G6 := Lib.hid (And.intro q3 ((q2.block (w.heap.size + 1 + 1) (lt_of_block (HX.out _ B5.out).1) (fun hx => by have := HBL.out _ hx; omega)).trans (HX.out _ B5.out).1)); clear q1 q2 q3)
      | (go_at_call 47; refine (HWR.out _ _ _ _ G4.out).mono ?_; rintro r u5 ⟨rfl, q1, q2⟩; have R5 := Lib.hid q1; have G5 := Lib.hid (G4.out.on q2); have Q5 : Hid (w.heap.size ≤ u4.heap.size) := (HX.out _ B4.out).2.size; have B5 := Lib.hid (B4.out.trans (q2.mono B4.out.size)); clear q1 q2)
      | (go_at_call 49; refine (HE.out _ _ _ _ G3.out).mono ?_; rintro r u4 ⟨rfl, q⟩; have G4 := Lib.hid (G3.out.on q); have B4 := Lib.hid (B3.out.trans (q.mono B3.out.size)); clear q)
      | (go_at_call 62; refine (HFI.out _ _ _ _ (HX.out _ B1.out).2 G2.out.1).mono ?_; rintro r u3 ⟨rfl, q⟩; have G3 := Lib.hid q; have B3 := Lib.hid (B1.out.trans (q.fresh.mono B1.out.size)); clear q)
      | (go_at_call 61; refine (HN.out _ (HX.out _ B1.out).2).mono ?_; rintro r u2 ⟨bm, K, rfl, q1, q2⟩; have G2 := Lib.hid (And.intro q1 q2); clear q1 q2)
      | (go_at_call 60; refine HF.out.mono ?_; rintro r u1 ⟨rfl, q⟩; obtain ⟨⟨z0, z1, z2, z3, z4⟩, t0, t1, t2⟩ := HB4.out _ q; have B1 := Lib.hid q; clear q))
    have hcl := run_close (v := _) ((Below.turn (HX.out _ B5.out).2 F).trans (C6.out.2.trans (Below.turn R7.out.2 F))) (C6.out.1.on R7.out.2) R7.out.1 B7.out (Nat.le_add_right _ 2) (lt_of_block G6.out.2) HBL.out (Nat.le_trans (HX.out _ B5.out).2.size C6.out.2.size) rfl
    rw [HAF.out]
    exact res_back2 rfl (w.heap.size + 1 + 1) R m 0 rfl rfl hcl.1 rfl ⟨_, rfl, hcl.2.1, hcl.2.2.1, hcl.2.2.2⟩
  · have HAF : Hid (aftS s m = s) := if_neg h1
    go_enter Tryz.func32, Tryz.ntmps32
    go_wp2_with (first
      | (go_at_call 64; refine (HBE.out _ _ _ _ _ G4.out).mono ?_; rintro r u7 ⟨R, rfl, q1, q2⟩; have R7 := Lib.hid (And.intro q1 q2); have B7 := Lib.hid (B4.out.trans (q2.mono B4.out.size)); clear q1 q2; obtain ⟨⟨x0, x1, x2, x3, x4, x5, x6, x7⟩, y0, y1, y2, y3, y4, y5, y6⟩ := cells7_of (HX.out _ B7.out).1)
      | (go_at_call 49; refine (HE.out _ _ _ _ G3.out).mono ?_; rintro r u4 ⟨rfl, q⟩; have G4 := Lib.hid (G3.out.on q); have B4 := Lib.hid (B3.out.trans (q.mono B3.out.size)); clear q)
      | (go_at_call 62; refine (HFI.out _ _ _ _ (HX.out _ B1.out).2 G2.out.1).mono ?_; rintro r u3 ⟨rfl, q⟩; have G3 := Lib.hid q; have B3 := Lib.hid (B1.out.trans (q.fresh.mono B1.out.size)); clear q)
      | (go_at_call 61; refine (HN.out _ (HX.out _ B1.out).2).mono ?_; rintro r u2 ⟨bm, K, rfl, q1, q2⟩; have G2 := Lib.hid (And.intro q1 q2); clear q1 q2)
      | (go_at_call 60; refine HF.out.mono ?_; rintro r u1 ⟨rfl, q⟩; obtain ⟨⟨z0, z1, z2, z3, z4⟩, t0, t1, t2⟩ := HB4.out _ q; have B1 := Lib.hid q; clear q))
    have hcl := run_close (v := _) (Below.turn (HX.out _ B7.out).2 F) (HS.out.on (HX.out _ B7.out).2) R7.out.1 (HX.out _ B7.out).1 (Nat.le_add_right _ 2) (lt_of_block (HX.out _ B4.out).1) HBL.out (HX.out _ B4.out).2.size rfl
    rw [HAF.out]
    exact res_back2 rfl (w.heap.size + 1 + 1) R m 0 rfl rfl hcl.1 rfl ⟨_, rfl, hcl.2.1, hcl.2.2.1, hcl.2.2.2⟩
/-- Run, whatever it is called with -/
theorem run_any {w : World} {a b c e t : Int} {ao : Option Addr} {cs : List Ins} {n cap : Nat} {po : Option Addr} {l : List Nat} {k co bs : Nat} {F s : List Nat} (hT : Shaped5 w) (hn : cs.length = n) (hk : l.length = k) (hC : CodeAt w ao cs) (hx : ∀ i ∈ cs, i.x < 18446744073709551616) (hL : FlAt w po l) (hl : ∀ x ∈ l, x < 18446744073709551616) (hnl : n ≤ 9223372036854775807) (hS : Sx.Cel 121 w bs F s) (hs : okS s) : Calls Tryz.prog 32 #[cfgV a b c e, .agg #[.int .i64 t, .slice ao n cap], .slice po k co, .pointer (some ⟨bs, 0, none⟩)] w fun r w' => ∃ R, r = .returned (.tuple #[resV R (runR a b c e t cs l s), .int .i64 (runE a b c e s.length k)]) ∧ ResAt w' w.heap.size R (runR a b c e t cs l s) ∧ Sx.Cel 121 w' bs F (aftS s (runR a b c e t cs l s)) ∧ Turn F F w w' := by
  unfold runR runE
  rw [hk]
  cases hg : goodB a b c e s.length k with
  | true =>
    rw [if_pos rfl, if_pos rfl]
    exact run_good hT hn hk hC hx hL hl hnl hS hs hg
  | false =>
    rw [if_neg Bool.false_ne_true, if_neg Bool.false_ne_true]
    exact (run_bad hS hg).mono fun r w' ⟨q1, q2⟩ => ⟨_, q1, res_none w' _, hS.on q2, Below.turn q2 F⟩
end Go.Proofs.YteinilmecnlanaaGreatDoor
