import Derived.Test.YteinilmecnlanaaGreatDoorR1
import Derived.Test.YteinilmecnlanaaGreatDoorSq
import Derived.Deep.AppendSrc
import Derived.Deep.MidRow
import Derived.Test.YteinilmecnlanaaGreatDoorK9
import Derived.Test.YteinilmecnlanaaGreatDoorK6
import Derived.Test.YteinilmecnlanaaGreatDoorKD
import Derived.Test.YteinilmecnlanaaGreatDoorC7
namespace Go.Proofs.YteinilmecnlanaaGreatDoor
open Go.ChangeShapes Go.WideShapes Go.ChangeAt Go.RowKit Num

/-! append, whatever it comes to -/
section
variable {P : Program} {w : World}
theorem wp_append_ex {o : Oper} {a : Act} {K : Act → World → Prop} {Q : Exit → Act → World → Prop} (s x : Operand) (t tx : TypeId)
    (ho : o.op = .call { callee := .builtin .append, args := #[s, x], argTypes := #[t, tx] }) (vs vx : Value) (hs : a.eval s = vs) (hx : a.eval x = vx) {R : Value → World → Prop}
    (hr : ∃ v w', (Builtin.append_ #[t, tx] o.type #[vs, vx]).run P w = .ok v w' ∧ R v w') (h : ∀ v w', R v w' → K (a.put o.dst v) w') : o.wp P a w K Q := by
  obtain ⟨v, w', hr, hR⟩ := hr
  unfold Oper.wp execOp
  simp only [ho, resolve, invoke, builtin, Sem.run_bind, Sem.run_pure, Result.andThen_ok, List.map_toArray, List.map_cons, List.map_nil, hs, hx, hr]
  exact h v w' hR
theorem wpList_append_ex {ops : Array Oper} {rest : List Oper} {o : Oper} {a : Act} {Q : Exit → Act → World → Prop} (hgd : o.guard = none) (s x : Operand) (t tx : TypeId)
    (ho : o.op = .call { callee := .builtin .append, args := #[s, x], argTypes := #[t, tx] }) (vs vx : Value) (hs : a.eval s = vs) (hx : a.eval x = vx) {R : Value → World → Prop}
    (hr : ∃ v w', (Builtin.append_ #[t, tx] o.type #[vs, vx]).run P w = .ok v w' ∧ R v w') (h : ∀ v w', R v w' → wpList P ops Q rest (a.put o.dst v) w') : wpList P ops Q (o :: rest) a w :=
  wpList_plain hgd fun _ hK => wp_append_ex s x t tx ho vs vx hs hx hr fun v w' hR => hK _ _ (h v w' hR)
end
/-! a row that is read alone: its cells -/
def Ro (w : World) (p : Option Addr) (vs : List Value) : Prop := (p = none ∧ vs = []) ∨ ∃ g o, p = some ⟨g, o, none⟩ ∧ w.rangeAt g o vs
theorem Ro.keep {w w' : World} {p : Option Addr} {vs : List Value} (h : Ro w p vs) (k : Kept (fpR p) w w') : Ro w' p vs := by
  rcases h with h | ⟨g, o, rfl, h⟩
  · exact .inl h
  · exact .inr ⟨g, o, rfl, fun j v hv => (World.cell?_of_block (a := ⟨g, o + j, none⟩) (k.2 g (by simp [fpR]))).trans (h j v hv)⟩
theorem Ro.pre {w : World} {p : Option Addr} {vs us : List Value} (h : Ro w p (vs ++ us)) : Ro w p vs := by
  rcases h with ⟨h, e⟩ | ⟨g, o, rfl, h⟩
  · exact .inl ⟨h, (List.append_eq_nil_iff.1 e).1⟩
  · refine .inr ⟨g, o, rfl, fun j v hv => h j v ?_⟩
    rw [List.getElem?_append_left (List.getElem?_eq_some_iff.1 hv).1]
    exact hv
theorem Ro.get {w : World} {p : Option Addr} {vs : List Value} (h : Ro w p vs) {j : Nat} {v : Value} (hv : vs[j]? = some v) : ∃ g o, p = some ⟨g, o, none⟩ ∧ w.cell? ⟨g, o + j, none⟩ = some v ∧ g < w.heap.size := by
  rcases h with ⟨_, rfl⟩ | ⟨g, o, rfl, h⟩
  · simp at hv
  · exact ⟨g, o, rfl, h j v hv, World.block_lt_of_cell? w _ (h j v hv)⟩
theorem Ro.nil (w : World) : Ro w none [] := .inl ⟨rfl, rfl⟩
/-- append onto a row whose room is used up: a new row -/
theorem app_new {t e ty : TypeId} {i : TypeInfo} {z : Value} (ht : Tryz.prog.underlying t = some (.slice e)) (hi : Tryz.prog.info? e = some i) (hz : i.zero = some z) {w : World} {p : Option Addr} {vs news : List Value} {k n : Nat} {x : Value} (hr : Ro w p vs) (hl : vs.length = k * i.size) (hs : Src Tryz.prog i.size t x n news w) (hn : 0 < n) (hk : k + n ≤ 4096) (hb : i.bytes ≤ 64) :
    ∃ v w', (Builtin.append_ #[t, t] ty #[.slice p k k, x]).run Tryz.prog w = .ok v w' ∧ ((∃ c, v = .slice (some ⟨w.heap.size, 0, none⟩) (k + n) c ∧ k + n ≤ c) ∧ Ro w' (some ⟨w.heap.size, 0, none⟩) (vs ++ news) ∧ Below w.heap.size w w' ∧ w.heap.size < w'.heap.size) := by
  have hold : (Builtin.firstCells i.size k (.slice p k k)).run Tryz.prog w.drew = .ok vs.toArray w.drew := by
    rcases hr with ⟨rfl, rfl⟩ | ⟨g, o, rfl, h⟩
    · exact run_firstCells_none _ _ _ _ _
    · refine run_firstCells_some _ _ _ _ _ _ _ hl fun j v hv => ?_
      rw [Addr.add_mid]
      simpa using h j v hv
  refine ⟨_, _, run_append_grow_src w t t ty e i z ht hi hz p k k vs hold x n news hs (by omega) (by omega) (growslice_fits (by omega) (Nat.le_trans (Nat.mul_le_mul hk hb) (by decide))), ⟨_, rfl, grownCap_ge _ _ _ _⟩, .inr ⟨_, _, rfl, fun j v hv => ?_⟩, ?_, by simp⟩
  · have hj := (List.getElem?_eq_some_iff.1 hv).1
    refine (cell_of_row _ w.heap.size (0 + j) _ _ _ (heap_new (w := w.drew) (g := w.heap.size) rfl)).trans ?_
    rw [Nat.zero_add, Array.getElem?_append_left (by simpa using hj)]
    simpa using hv
  · exact ((Same.drew w).below _).trans (below_alloc w.drew _)
/-- append of nothing: the row as it is -/
theorem app_none {t e ty : TypeId} {i : TypeInfo} (ht : Tryz.prog.underlying t = some (.slice e)) (hi : Tryz.prog.info? e = some i) {w : World} {g o k c : Nat} : (Builtin.append_ #[t, t] ty #[.slice (some ⟨g, o, none⟩) k k, .slice none 0 c]).run Tryz.prog w = .ok (.slice (some ⟨g, o, none⟩) k k) w := by
  have := run_append_room_src w t t ty e i ht hi g o k k (.slice none 0 c) 0 [] (Src.ofNil w ht c) (by omega) (fun j hj => by simp at hj) (fun j hj => by simp at hj)
  simpa [World.setCells] using this
/-! the document's machine, and where it lies -/
def Rp.rows (q : Rp) : List (Option Addr) := [q.pa, q.ps, q.pc, q.pt, q.pr, q.pb]
def Fr (br : Nat) (q : Rp) : List Nat := br :: q.bl :: q.rows.flatMap fpR
/-- where its instructions lie, if there are any -/
def fpK (q : Rp) (cs : List Ins) : List Nat := if cs = [] then [] else fpR q.pk
theorem CodeAt.keepK {w w' : World} {q : Rp} {cs : List Ins} (h : CodeAt w q.pk cs) (k : Kept (fpK q cs) w w') : CodeAt w' q.pk cs := by
  by_cases e : cs = []
  · subst e
    exact fun j hj => absurd hj (by simp)
  · unfold fpK at k
    rw [if_neg e] at k
    exact h.keep k
structure RefAt (w : World) (br : Nat) (q : Rp) (m : Mac) (cs : List Ins) : Prop where
  box : w.heap[br]? = some (rbO m q)
  loc : RowAt 73 w (some ⟨q.bl, 0, none⟩) q.cl (fls (eight m.loc))
  arg : Ro w q.pa (fls (eight m.args))
  st : Ro w q.ps (fls m.st.reverse)
  cal : Ro w q.pc (i64s m.calls.reverse)
  out : Ro w q.pt (fls m.out)
  rds : Ro w q.pr (m.reads.flatMap tchC)
  buf : Ro w q.pb (m.buf.flatMap tchC)
  cod : CodeAt w q.pk cs
  na : q.na = 8
  nk : q.nk = cs.length
  bad : (q.bad = false ∧ m.code = cs) ∨ (q.bad = true ∧ m.code = [])
  tag : m.upd = (q.tg == 2)
  zc : m.how = 0 → m.cod = 0
  ne : br ≠ q.bl
  ap : ∀ p ∈ q.rows, br ∉ fpR p ∧ q.bl ∉ fpR p
  apk : br ∉ fpK q cs ∧ q.bl ∉ fpK q cs
  lt : Blw w (Fr br q)
  ltk : Blw w (fpK q cs)
  c1 : m.st.length ≤ q.cs
  c2 : m.calls.length ≤ q.cc
  c3 : m.out.length ≤ q.ct
  c4 : m.reads.length ≤ q.cr
  c5 : m.buf.length ≤ q.cb
  nd : (cellsOfL m.buf).Nodup
section
variable {w w' : World} {br : Nat} {q : Rp} {m : Mac} {cs : List Ins}
theorem RefAt.ltB (h : RefAt w br q m cs) : br < w.heap.size := lt_of_block h.box
theorem RefAt.cell (h : RefAt w br q m cs) (j : Nat) : w.cell? ⟨br, j, none⟩ = (rboxV m q)[j]? := cell_of_row w br j _ _ _ h.box
theorem RefAt.free (h : RefAt w br q m cs) (j : Nat) : w.frozen? ⟨br, j, none⟩ = false := frozen_of_row w br j _ _ h.box
theorem in_fr {p : Option Addr} (hp : p ∈ q.rows) {x : Nat} (hx : x ∈ fpR p) : x ∈ Fr br q := List.mem_cons_of_mem _ (List.mem_cons_of_mem _ (List.mem_flatMap.2 ⟨p, hp, hx⟩))
theorem RefAt.keep (h : RefAt w br q m cs) (k : Kept (Fr br q) w w') (k2 : Kept (fpK q cs) w w') : RefAt w' br q m cs := by
  have kk : ∀ p ∈ q.rows, Kept (fpR p) w w' := fun p hp => ⟨k.1, fun i hi => k.2 i (in_fr hp hi)⟩
  exact { h with
    box := (k.2 br (by simp [Fr])).trans h.box
    loc := h.loc.keep ⟨k.1, fun i hi => k.2 i (by simp [fpR] at hi; subst hi; simp [Fr])⟩
    arg := h.arg.keep (kk _ (by simp [Rp.rows]))
    st := h.st.keep (kk _ (by simp [Rp.rows]))
    cal := h.cal.keep (kk _ (by simp [Rp.rows]))
    out := h.out.keep (kk _ (by simp [Rp.rows]))
    rds := h.rds.keep (kk _ (by simp [Rp.rows]))
    buf := h.buf.keep (kk _ (by simp [Rp.rows]))
    cod := h.cod.keepK k2
    lt := fun x hx => Nat.lt_of_lt_of_le (h.lt x hx) k.1
    ltk := fun x hx => Nat.lt_of_lt_of_le (h.ltk x hx) k.1 }
theorem RefAt.on (h : RefAt w br q m cs) (k : Below w.heap.size w w') : RefAt w' br q m cs := h.keep (kept_below k h.lt) (kept_below k h.ltk)
theorem RefAt.same (h : RefAt w br q m cs) (k : Same w w') : RefAt w' br q m cs := h.keep (k.kept _) (k.kept _)
/-- a store into its box, of a field that names no other row -/
theorem RefAt.set (h : RefAt w br q m cs) (j : Nat) (v : Value) (m' : Mac) (e : (rboxV m q).setIfInBounds j v = rboxV m' q) (e1 : m'.st = m.st ∧ m'.calls = m.calls ∧ m'.buf = m.buf ∧ m'.out = m.out ∧ m'.reads = m.reads ∧ m'.code = m.code ∧ m'.args = m.args ∧ m'.loc = m.loc ∧ m'.upd = m.upd) (hz : m'.how = 0 → m'.cod = 0) : RefAt (w.setCell ⟨br, j, none⟩ v) br q m' cs := by
  have t := turn_set w br j v
  have kk : ∀ p ∈ q.rows, Kept (fpR p) w (w.setCell ⟨br, j, none⟩ v) := fun p hp => t.kept (fun x hx y => by simp at y; subst y; exact (h.ap p hp).1 hx) (fun x hx => h.lt x (in_fr hp hx))
  obtain ⟨f1, f2, f3, f4, f5, f6, f7, f8, f9⟩ := e1
  refine ⟨?_, ?_, ?_, ?_, ?_, ?_, ?_, ?_, ?_, h.na, h.nk, by rw [f6]; exact h.bad, by rw [f9]; exact h.tag, hz, h.ne, h.ap, h.apk, fun x hx => Nat.lt_of_lt_of_le (h.lt x hx) t.size, fun x hx => Nat.lt_of_lt_of_le (h.ltk x hx) t.size, by rw [f1]; exact h.c1, by rw [f2]; exact h.c2, by rw [f4]; exact h.c3, by rw [f5]; exact h.c4, by rw [f3]; exact h.c5, by rw [f3]; exact h.nd⟩
  · have := heap_setCell_same w br j _ _ v h.box
    rw [e] at this
    exact this
  · rw [f8]
    exact h.loc.keep (t.kept (fun x hx y => by simp [fpR] at hx y; exact h.ne (y.symm.trans hx)) h.loc.blw)
  · rw [f7]; exact h.arg.keep (kk _ (by simp [Rp.rows]))
  · rw [f1]; exact h.st.keep (kk _ (by simp [Rp.rows]))
  · rw [f2]; exact h.cal.keep (kk _ (by simp [Rp.rows]))
  · rw [f4]; exact h.out.keep (kk _ (by simp [Rp.rows]))
  · rw [f5]; exact h.rds.keep (kk _ (by simp [Rp.rows]))
  · rw [f3]; exact h.buf.keep (kk _ (by simp [Rp.rows]))
  · exact h.cod.keepK (t.kept (fun x hx y => by simp at y; subst y; exact h.apk.1 hx) h.ltk)
end
/-- what may stand in the place of a row: an elder one of the machine's, or a new one -/
def Fits (w : World) (q : Rp) (p : Option Addr) : Prop := p ∈ q.rows ∨ ∃ g, p = some ⟨g, 0, none⟩ ∧ w.heap.size ≤ g
theorem Fits.apart {w : World} {br : Nat} {q : Rp} {m : Mac} {cs : List Ins} {p : Option Addr} (h : Fits w q p) (hr : RefAt w br q m cs) : br ∉ fpR p ∧ q.bl ∉ fpR p := by
  rcases h with h | ⟨g, rfl, h⟩
  · exact hr.ap p h
  · have h1 := hr.ltB
    have h2 := hr.lt q.bl (by simp [Fr])
    constructor <;> (simp [fpR]; omega)
/-- a machine of the document's in the midst of a call that began at W: of the elder blocks only its box and its locals' have turned; its blocks are those of F0, or new -/
def Rg (W : World) (F0 : List Nat) (br bl : Nat) (K : List Nat) (w : World) (m : Mac) (cs : List Ins) : Prop := ∃ q, RefAt w br q m cs ∧ (q.bl = bl ∧ fpK q cs = K) ∧ Turn [br, bl] [br, bl] W w ∧ ∀ x ∈ Fr br q, x ∈ F0 ∨ W.heap.size ≤ x
section
variable {W w w' : World} {F0 K : List Nat} {br bl : Nat} {m : Mac} {cs : List Ins}
theorem Rg.ltB (h : Rg W F0 br bl K w m cs) : br < w.heap.size := by obtain ⟨q, h1, _⟩ := h; exact h1.ltB
theorem Rg.on (h : Rg W F0 br bl K w m cs) (k : Below w.heap.size w w') : Rg W F0 br bl K w' m cs := by
  obtain ⟨q, h1, h2, h3, h4⟩ := h
  exact ⟨q, h1.on k, h2, h3.trans (Below.turn k _), h4⟩
theorem Rg.same (h : Rg W F0 br bl K w m cs) (k : Same w w') : Rg W F0 br bl K w' m cs := h.on (k.below _)
theorem Rg.alloc (h : Rg W F0 br bl K w m cs) (x : Obj) : Rg W F0 br bl K (w.alloc x) m cs := h.on (below_alloc _ x)
theorem Rg.set (h : Rg W F0 br bl K w m cs) (j : Nat) (v : Value) (m' : Mac) (e : ∀ q, (rboxV m q).setIfInBounds j v = rboxV m' q) (e1 : m'.st = m.st ∧ m'.calls = m.calls ∧ m'.buf = m.buf ∧ m'.out = m.out ∧ m'.reads = m.reads ∧ m'.code = m.code ∧ m'.args = m.args ∧ m'.loc = m.loc ∧ m'.upd = m.upd) (hz : (m.how = 0 → m.cod = 0) → m'.how = 0 → m'.cod = 0) : Rg W F0 br bl K (w.setCell ⟨br, j, none⟩ v) m' cs := by
  obtain ⟨q, h1, h2, h3, h4⟩ := h
  refine ⟨q, h1.set j v m' (e q) e1 (hz h1.zc), h2, h3.trans ?_, h4⟩
  exact (turn_set w br j v).wide (by simp)
/-- boxes made since: they are none of the machine's; whatever is stored there is no matter -/
theorem Rg.away (h : Rg W F0 br bl K w m cs) {N : World} (hN : Below w.heap.size w N) : ∃ F, Rg N F br bl K N m cs ∧ ∀ u m', Rg N F br bl K u m' cs → (∀ g, w.heap.size ≤ g → g < N.heap.size → u.heap[g]? = N.heap[g]?) ∧ Rg W F0 br bl K u m' cs ∧ ∀ g u', w.heap.size ≤ g → g < N.heap.size → Turn [g] [g] u u' → Rg W F0 br bl K u' m' cs := by
  obtain ⟨q, h1, h2, h3, h4⟩ := h
  refine ⟨Fr br q, ⟨q, h1.on hN, h2, Turn.refl _ _, fun x hx => .inl hx⟩, fun u m' hu => ?_⟩
  obtain ⟨q', k1, k2, k3, k4⟩ := hu
  have hl1 := h1.ltB
  have hl2 : bl < w.heap.size := by rw [← h2.1]; exact h1.lt _ (by simp [Fr])
  have hW := h3.size
  have hs := hN.size
  have tr : Turn [br, bl] [br, bl] W u := h3.trans ((Below.turn hN _).trans k3)
  have hF : ∀ x ∈ Fr br q', x ∈ F0 ∨ W.heap.size ≤ x := fun x hx => (k4 x hx).elim (h4 x) (fun z => .inr (by omega))
  refine ⟨fun g g1 g2 => k3.block g g2 (by simp; omega), ⟨q', k1, k2, tr, hF⟩, fun g u' g1 g2 t => ⟨q', ?_, k2, ?_, hF⟩⟩
  · refine k1.keep (t.kept (fun x hx z => ?_) k1.lt) (t.kept (fun x hx z => ?_) k1.ltk)
    · simp at z
      subst z
      rcases k4 _ hx with y | y
      · exact absurd (h1.lt _ y) (by omega)
      · omega
    · simp at z
      subst z
      rw [k2.2, ← h2.2] at hx
      exact absurd (h1.ltk _ hx) (by omega)
  · refine ⟨t.os.trans tr.os, t.tape.trans tr.tape, t.output.trans tr.output, Nat.le_trans tr.size t.size, fun k hk hn => ?_, fun k hk => .inl hk⟩
    exact (t.block k (Nat.lt_of_lt_of_le hk tr.size) (by simp; omega)).trans (tr.block k hk hn)
end
end Go.Proofs.YteinilmecnlanaaGreatDoor
namespace Go.Proofs.YteinilmecnlanaaGreatDoor
open Go.ChangeShapes Go.WideShapes Go.ChangeAt Go.RowKit Num
attribute [local go_sem] run_store_float

theorem rone_any {op : Int} (hop : 1 ≤ op ∧ op ≤ 8) {y : Nat} (hy : okN y) (w : World) : Calls Tryz.prog 121 #[.int .i64 op, .float .f64 y] w fun e w' => e = .returned (.tuple #[.float .f64 (oneV op y), .int .i64 0]) ∧ Below w.heap.size w w' := by
  obtain ⟨k, rfl⟩ : ∃ k : Nat, op = k := ⟨op.toNat, by omega⟩
  unfold oneV
  rw [Int.toNat_natCast]
  match k, hop with
  | 1, _ => simpa only [List.getD_cons_succ, List.getD_cons_zero, Int.cast_ofNat_Int, Grw] using rone_1 y w hy.2
  | 2, _ => simpa only [List.getD_cons_succ, List.getD_cons_zero, Int.cast_ofNat_Int, Grw] using rone_2 y w hy.2
  | 3, _ => simpa only [List.getD_cons_succ, List.getD_cons_zero, Int.cast_ofNat_Int, Grw] using rone_3 y w
  | 4, _ => simpa only [List.getD_cons_succ, List.getD_cons_zero, Int.cast_ofNat_Int, Grw] using rone_4 y w
  | 5, _ => simpa only [List.getD_cons_succ, List.getD_cons_zero, Int.cast_ofNat_Int, Grw] using rone_5 y w
  | 6, _ => simpa only [List.getD_cons_succ, List.getD_cons_zero, Int.cast_ofNat_Int, Grw] using rone_6 y w
  | 7, _ => simpa only [List.getD_cons_succ, List.getD_cons_zero, Int.cast_ofNat_Int, Grw] using rone_7 y w
  | 8, _ => simpa only [List.getD_cons_succ, List.getD_cons_zero, Int.cast_ofNat_Int, Grw] using rone_8 y w hy.2
  | 0, h => exact absurd h.1 (by decide)
  | n + 9, h => exact absurd h.2 (by omega)
theorem rtwo_any {op : Int} (hop : 1 ≤ op ∧ op ≤ 12) {y z : Nat} (hy : okN y) (hz : okN z) (w : World) : Calls Tryz.prog 122 #[.int .i64 op, .float .f64 y, .float .f64 z] w fun e w' => e = .returned (.tuple #[.float .f64 (twoV op y z), .int .i64 0]) ∧ Below w.heap.size w w' := by
  obtain ⟨k, rfl⟩ : ∃ k : Nat, op = k := ⟨op.toNat, by omega⟩
  unfold twoV
  rw [Int.toNat_natCast]
  match k, hop with
  | 1, _ => simpa only [List.getD_cons_succ, List.getD_cons_zero, Int.cast_ofNat_Int, Grw] using rtwo_1 y z w
  | 2, _ => simpa only [List.getD_cons_succ, List.getD_cons_zero, Int.cast_ofNat_Int, Grw] using rtwo_2 y z w
  | 3, _ => simpa only [List.getD_cons_succ, List.getD_cons_zero, Int.cast_ofNat_Int, Grw] using rtwo_3 y z w
  | 4, _ => simpa only [List.getD_cons_succ, List.getD_cons_zero, Int.cast_ofNat_Int, Grw] using rtwo_4 y z w
  | 5, _ => simpa only [List.getD_cons_succ, List.getD_cons_zero, Int.cast_ofNat_Int, Grw] using rtwo_5 y z w hy.2 hz.2
  | 6, _ => simpa only [List.getD_cons_succ, List.getD_cons_zero, Int.cast_ofNat_Int, Grw] using rtwo_6 y z w hy.2 hz.2
  | 7, _ => simpa only [List.getD_cons_succ, List.getD_cons_zero, Int.cast_ofNat_Int, Grw] using rtwo_7 y z w hy.2 hz.2
  | 8, _ => simpa only [List.getD_cons_succ, List.getD_cons_zero, Int.cast_ofNat_Int, Grw] using rtwo_8 y z w
  | 9, _ => simpa only [List.getD_cons_succ, List.getD_cons_zero, Int.cast_ofNat_Int, Grw] using rtwo_9 y z w
  | 10, _ => simpa only [List.getD_cons_succ, List.getD_cons_zero, Int.cast_ofNat_Int, Grw] using rtwo_10 y z w
  | 11, _ => simpa only [List.getD_cons_succ, List.getD_cons_zero, Int.cast_ofNat_Int, Grw] using rtwo_11 y z w
  | 12, _ => simpa only [List.getD_cons_succ, List.getD_cons_zero, Int.cast_ofNat_Int, Grw] using rtwo_12 y z w hy.2 hz.2
  | 0, h => exact absurd h.1 (by decide)
  | n + 13, h => exact absurd h.2 (by omega)
/-- another row, behind a step that has made memory alone; then the store of its field -/
theorem RefAt.re {w w3 : World} {br : Nat} {q : Rp} {m : Mac} {cs : List Ins} (h : RefAt w br q m cs) (hb : Below w.heap.size w w3) (j : Nat) (v : Value) (q' : Rp) (m' : Mac) (e : (rboxV m q).setIfInBounds j v = rboxV m' q')
    (hq : q'.bl = q.bl ∧ q'.cl = q.cl ∧ q'.pk = q.pk ∧ q'.nk = q.nk ∧ q'.bad = q.bad ∧ q'.tg = q.tg ∧ q'.na = q.na ∧ q'.pa = q.pa) (hm : m'.loc = m.loc ∧ m'.args = m.args ∧ m'.code = m.code ∧ m'.upd = m.upd ∧ m'.how = m.how ∧ m'.cod = m.cod)
    (hrows : ∀ p ∈ q'.rows, Fits w q p ∧ Blw w3 (fpR p)) (r1 : Ro w3 q'.ps (fls m'.st.reverse)) (r2 : Ro w3 q'.pc (i64s m'.calls.reverse)) (r3 : Ro w3 q'.pt (fls m'.out)) (r4 : Ro w3 q'.pr (m'.reads.flatMap tchC)) (r5 : Ro w3 q'.pb (m'.buf.flatMap tchC))
    (k1 : m'.st.length ≤ q'.cs) (k2 : m'.calls.length ≤ q'.cc) (k3 : m'.out.length ≤ q'.ct) (k4 : m'.reads.length ≤ q'.cr) (k5 : m'.buf.length ≤ q'.cb) (k6 : (cellsOfL m'.buf).Nodup) : RefAt (w3.setCell ⟨br, j, none⟩ v) br q' m' cs ∧ Turn [br, q.bl] [br, q.bl] w (w3.setCell ⟨br, j, none⟩ v) := by
  have h3 := h.on hb
  have t := turn_set w3 br j v
  have ap : ∀ p ∈ q'.rows, br ∉ fpR p ∧ q'.bl ∉ fpR p := fun p hp => by rw [hq.1]; exact (hrows p hp).1.apart h
  have kk : ∀ p ∈ q'.rows, Kept (fpR p) w3 (w3.setCell ⟨br, j, none⟩ v) := fun p hp => t.kept (fun x hx y => by simp at y; subst y; exact (ap p hp).1 hx) (hrows p hp).2
  obtain ⟨a1, a2, a3, a4, a5, a6, a7, a8⟩ := hq
  obtain ⟨b1, b2, b3, b4, b5, b6⟩ := hm
  refine ⟨⟨?_, ?_, ?_, r1.keep (kk _ (by simp [Rp.rows])), r2.keep (kk _ (by simp [Rp.rows])), r3.keep (kk _ (by simp [Rp.rows])), r4.keep (kk _ (by simp [Rp.rows])), r5.keep (kk _ (by simp [Rp.rows])), ?_, by rw [a7]; exact h.na, by rw [a4]; exact h.nk, by rw [a5, b3]; exact h.bad, by rw [b4, a6]; exact h.tag, by rw [b5, b6]; exact h.zc, by rw [a1]; exact h.ne, ap, by unfold fpK; rw [a3, a1]; exact h.apk, ?_, by unfold fpK; rw [a3]; exact fun x hx => Nat.lt_of_lt_of_le (h3.ltk x hx) t.size, k1, k2, k3, k4, k5, k6⟩, (Below.turn hb _).trans (t.wide (by simp))⟩
  · have := heap_setCell_same w3 br j _ _ v h3.box
    rw [e] at this
    exact this
  · rw [a1, a2, b1]
    exact h3.loc.keep (t.kept (fun x hx y => by simp [fpR] at hx y; exact h.ne (y.symm.trans hx)) h3.loc.blw)
  · rw [b2]
    have := kk q'.pa (by simp [Rp.rows])
    rw [a8] at this ⊢
    exact h3.arg.keep this
  · rw [a3]
    exact h3.cod.keepK (t.kept (fun x hx y => by simp at y; subst y; exact h.apk.1 hx) h3.ltk)
  · intro x hx
    refine Nat.lt_of_lt_of_le ?_ t.size
    simp only [Fr, List.mem_cons, List.mem_flatMap] at hx
    rcases hx with rfl | rfl | ⟨p, hp, hx⟩
    · exact h3.ltB
    · rw [a1]; exact h3.lt _ (by simp [Fr])
    · exact (hrows p hp).2 x hx
theorem fr_re {W w : World} {br : Nat} {q q' : Rp} {F0 : List Nat} (hs : W.heap.size ≤ w.heap.size) (hF : ∀ x ∈ Fr br q, x ∈ F0 ∨ W.heap.size ≤ x) (hbl : q'.bl = q.bl) (hrows : ∀ p ∈ q'.rows, Fits w q p) : ∀ x ∈ Fr br q', x ∈ F0 ∨ W.heap.size ≤ x := fun x hx => by
  simp only [Fr, List.mem_cons, List.mem_flatMap] at hx
  rcases hx with rfl | rfl | ⟨p, hp, hx⟩
  · exact hF _ (by simp [Fr])
  · rw [hbl]; exact hF _ (by simp [Fr])
  · rcases hrows p hp with h | ⟨g, rfl, h⟩
    · exact hF x (in_fr h hx)
    · simp [fpR] at hx
      subst hx
      exact .inr (Nat.le_trans hs h)
section
variable {W w : World} {br bl : Nat} {F0 K : List Nat} {m : Mac} {cs : List Ins}
/-- its stack: another row -/
theorem Rg.putS (h : Rg W F0 br bl K w m cs) {q : Rp} (hr : RefAt w br q m cs) (hq : ∀ x ∈ Fr br q, x ∈ F0 ∨ W.heap.size ≤ x) (hbl : q.bl = bl ∧ fpK q cs = K) {w3 : World} (hb : Below w.heap.size w w3) {p : Option Addr} {s : List Nat} {c : Nat} (hp : Fits w q p) (hp2 : Blw w3 (fpR p)) (ro : Ro w3 p (fls s.reverse)) (hc : s.length ≤ c) : Rg W F0 br bl K (w3.setCell ⟨br, 8, none⟩ (.slice p s.length c)) { m with st := s } cs := by
  obtain ⟨_, _, _, ht, _⟩ := h
  have h3 := hr.on hb
  have hrows : ∀ x ∈ ({ q with ps := p, cs := c } : Rp).rows, Fits w q x ∧ Blw w3 (fpR x) := fun x hx => by
    simp only [Rp.rows, List.mem_cons, List.not_mem_nil, or_false] at hx
    rcases hx with rfl | rfl | rfl | rfl | rfl | rfl
    · exact ⟨.inl (by simp [Rp.rows]), fun y hy => h3.lt y (in_fr (by simp [Rp.rows]) hy)⟩
    · exact ⟨hp, hp2⟩
    all_goals exact ⟨.inl (by simp [Rp.rows]), fun y hy => h3.lt y (in_fr (by simp [Rp.rows]) hy)⟩
  obtain ⟨a1, a2⟩ := hr.re hb 8 (.slice p s.length c) { q with ps := p, cs := c } { m with st := s } rfl ⟨rfl, rfl, rfl, rfl, rfl, rfl, rfl, rfl⟩ ⟨rfl, rfl, rfl, rfl, rfl, rfl⟩ hrows ro h3.cal h3.out h3.rds h3.buf hc hr.c2 hr.c3 hr.c4 hr.c5 hr.nd
  obtain ⟨rfl, rfl⟩ := hbl
  exact ⟨_, a1, ⟨rfl, rfl⟩, ht.trans a2, fr_re ht.size hq rfl (fun x hx => (hrows x hx).1)⟩
/-- its open calls -/
theorem Rg.putC (h : Rg W F0 br bl K w m cs) {q : Rp} (hr : RefAt w br q m cs) (hq : ∀ x ∈ Fr br q, x ∈ F0 ∨ W.heap.size ≤ x) (hbl : q.bl = bl ∧ fpK q cs = K) {w3 : World} (hb : Below w.heap.size w w3) {p : Option Addr} {s : List Int} {c : Nat} (hp : Fits w q p) (hp2 : Blw w3 (fpR p)) (ro : Ro w3 p (i64s s.reverse)) (hc : s.length ≤ c) : Rg W F0 br bl K (w3.setCell ⟨br, 9, none⟩ (.slice p s.length c)) { m with calls := s } cs := by
  obtain ⟨_, _, _, ht, _⟩ := h
  have h3 := hr.on hb
  have hrows : ∀ x ∈ ({ q with pc := p, cc := c } : Rp).rows, Fits w q x ∧ Blw w3 (fpR x) := fun x hx => by
    simp only [Rp.rows, List.mem_cons, List.not_mem_nil, or_false] at hx
    rcases hx with rfl | rfl | rfl | rfl | rfl | rfl
    · exact ⟨.inl (by simp [Rp.rows]), fun y hy => h3.lt y (in_fr (by simp [Rp.rows]) hy)⟩
    · exact ⟨.inl (by simp [Rp.rows]), fun y hy => h3.lt y (in_fr (by simp [Rp.rows]) hy)⟩
    · exact ⟨hp, hp2⟩
    all_goals exact ⟨.inl (by simp [Rp.rows]), fun y hy => h3.lt y (in_fr (by simp [Rp.rows]) hy)⟩
  obtain ⟨a1, a2⟩ := hr.re hb 9 (.slice p s.length c) { q with pc := p, cc := c } { m with calls := s } rfl ⟨rfl, rfl, rfl, rfl, rfl, rfl, rfl, rfl⟩ ⟨rfl, rfl, rfl, rfl, rfl, rfl⟩ hrows h3.st ro h3.out h3.rds h3.buf hr.c1 hc hr.c3 hr.c4 hr.c5 hr.nd
  obtain ⟨rfl, rfl⟩ := hbl
  exact ⟨_, a1, ⟨rfl, rfl⟩, ht.trans a2, fr_re ht.size hq rfl (fun x hx => (hrows x hx).1)⟩
/-- what it told -/
theorem Rg.putT (h : Rg W F0 br bl K w m cs) {q : Rp} (hr : RefAt w br q m cs) (hq : ∀ x ∈ Fr br q, x ∈ F0 ∨ W.heap.size ≤ x) (hbl : q.bl = bl ∧ fpK q cs = K) {w3 : World} (hb : Below w.heap.size w w3) {p : Option Addr} {s : List Nat} {c : Nat} (hp : Fits w q p) (hp2 : Blw w3 (fpR p)) (ro : Ro w3 p (fls s)) (hc : s.length ≤ c) : Rg W F0 br bl K (w3.setCell ⟨br, 17, none⟩ (.slice p s.length c)) { m with out := s } cs := by
  obtain ⟨_, _, _, ht, _⟩ := h
  have h3 := hr.on hb
  have hrows : ∀ x ∈ ({ q with pt := p, ct := c } : Rp).rows, Fits w q x ∧ Blw w3 (fpR x) := fun x hx => by
    simp only [Rp.rows, List.mem_cons, List.not_mem_nil, or_false] at hx
    rcases hx with rfl | rfl | rfl | rfl | rfl | rfl
    · exact ⟨.inl (by simp [Rp.rows]), fun y hy => h3.lt y (in_fr (by simp [Rp.rows]) hy)⟩
    · exact ⟨.inl (by simp [Rp.rows]), fun y hy => h3.lt y (in_fr (by simp [Rp.rows]) hy)⟩
    · exact ⟨.inl (by simp [Rp.rows]), fun y hy => h3.lt y (in_fr (by simp [Rp.rows]) hy)⟩
    · exact ⟨hp, hp2⟩
    all_goals exact ⟨.inl (by simp [Rp.rows]), fun y hy => h3.lt y (in_fr (by simp [Rp.rows]) hy)⟩
  obtain ⟨a1, a2⟩ := hr.re hb 17 (.slice p s.length c) { q with pt := p, ct := c } { m with out := s } rfl ⟨rfl, rfl, rfl, rfl, rfl, rfl, rfl, rfl⟩ ⟨rfl, rfl, rfl, rfl, rfl, rfl⟩ hrows h3.st h3.cal ro h3.rds h3.buf hr.c1 hr.c2 hc hr.c4 hr.c5 hr.nd
  obtain ⟨rfl, rfl⟩ := hbl
  exact ⟨_, a1, ⟨rfl, rfl⟩, ht.trans a2, fr_re ht.size hq rfl (fun x hx => (hrows x hx).1)⟩
/-- what it read -/
theorem Rg.putR (h : Rg W F0 br bl K w m cs) {q : Rp} (hr : RefAt w br q m cs) (hq : ∀ x ∈ Fr br q, x ∈ F0 ∨ W.heap.size ≤ x) (hbl : q.bl = bl ∧ fpK q cs = K) {w3 : World} (hb : Below w.heap.size w w3) {p : Option Addr} {s : Wr} {c : Nat} (hp : Fits w q p) (hp2 : Blw w3 (fpR p)) (ro : Ro w3 p (s.flatMap tchC)) (hc : s.length ≤ c) : Rg W F0 br bl K (w3.setCell ⟨br, 18, none⟩ (.slice p s.length c)) { m with reads := s } cs := by
  obtain ⟨_, _, _, ht, _⟩ := h
  have h3 := hr.on hb
  have hrows : ∀ x ∈ ({ q with pr := p, cr := c } : Rp).rows, Fits w q x ∧ Blw w3 (fpR x) := fun x hx => by
    simp only [Rp.rows, List.mem_cons, List.not_mem_nil, or_false] at hx
    rcases hx with rfl | rfl | rfl | rfl | rfl | rfl
    · exact ⟨.inl (by simp [Rp.rows]), fun y hy => h3.lt y (in_fr (by simp [Rp.rows]) hy)⟩
    · exact ⟨.inl (by simp [Rp.rows]), fun y hy => h3.lt y (in_fr (by simp [Rp.rows]) hy)⟩
    · exact ⟨.inl (by simp [Rp.rows]), fun y hy => h3.lt y (in_fr (by simp [Rp.rows]) hy)⟩
    · exact ⟨.inl (by simp [Rp.rows]), fun y hy => h3.lt y (in_fr (by simp [Rp.rows]) hy)⟩
    · exact ⟨hp, hp2⟩
    · exact ⟨.inl (by simp [Rp.rows]), fun y hy => h3.lt y (in_fr (by simp [Rp.rows]) hy)⟩
  obtain ⟨a1, a2⟩ := hr.re hb 18 (.slice p s.length c) { q with pr := p, cr := c } { m with reads := s } rfl ⟨rfl, rfl, rfl, rfl, rfl, rfl, rfl, rfl⟩ ⟨rfl, rfl, rfl, rfl, rfl, rfl⟩ hrows h3.st h3.cal h3.out ro h3.buf hr.c1 hr.c2 hr.c3 hc hr.c5 hr.nd
  obtain ⟨rfl, rfl⟩ := hbl
  exact ⟨_, a1, ⟨rfl, rfl⟩, ht.trans a2, fr_re ht.size hq rfl (fun x hx => (hrows x hx).1)⟩
/-- what it wrote -/
theorem Rg.putB (h : Rg W F0 br bl K w m cs) {q : Rp} (hr : RefAt w br q m cs) (hq : ∀ x ∈ Fr br q, x ∈ F0 ∨ W.heap.size ≤ x) (hbl : q.bl = bl ∧ fpK q cs = K) {w3 : World} (hb : Below w.heap.size w w3) {p : Option Addr} {s : Wr} {c : Nat} (hp : Fits w q p) (hp2 : Blw w3 (fpR p)) (ro : Ro w3 p (s.flatMap tchC)) (hc : s.length ≤ c) (hnd : (cellsOfL s).Nodup) : Rg W F0 br bl K (w3.setCell ⟨br, 19, none⟩ (.slice p s.length c)) { m with buf := s } cs := by
  obtain ⟨_, _, _, ht, _⟩ := h
  have h3 := hr.on hb
  have hrows : ∀ x ∈ ({ q with pb := p, cb := c } : Rp).rows, Fits w q x ∧ Blw w3 (fpR x) := fun x hx => by
    simp only [Rp.rows, List.mem_cons, List.not_mem_nil, or_false] at hx
    rcases hx with rfl | rfl | rfl | rfl | rfl | rfl
    · exact ⟨.inl (by simp [Rp.rows]), fun y hy => h3.lt y (in_fr (by simp [Rp.rows]) hy)⟩
    · exact ⟨.inl (by simp [Rp.rows]), fun y hy => h3.lt y (in_fr (by simp [Rp.rows]) hy)⟩
    · exact ⟨.inl (by simp [Rp.rows]), fun y hy => h3.lt y (in_fr (by simp [Rp.rows]) hy)⟩
    · exact ⟨.inl (by simp [Rp.rows]), fun y hy => h3.lt y (in_fr (by simp [Rp.rows]) hy)⟩
    · exact ⟨.inl (by simp [Rp.rows]), fun y hy => h3.lt y (in_fr (by simp [Rp.rows]) hy)⟩
    · exact ⟨hp, hp2⟩
  obtain ⟨a1, a2⟩ := hr.re hb 19 (.slice p s.length c) { q with pb := p, cb := c } { m with buf := s } rfl ⟨rfl, rfl, rfl, rfl, rfl, rfl, rfl, rfl⟩ ⟨rfl, rfl, rfl, rfl, rfl, rfl⟩ hrows h3.st h3.cal h3.out h3.rds ro hr.c1 hr.c2 hr.c3 hr.c4 hc hnd
  obtain ⟨rfl, rfl⟩ := hbl
  exact ⟨_, a1, ⟨rfl, rfl⟩, ht.trans a2, fr_re ht.size hq rfl (fun x hx => (hrows x hx).1)⟩
/-! its small functions -/
set_option maxRecDepth 100000 in
theorem rfails_any (h : Rg W F0 br bl K w m cs) (e : Int) : Calls Tryz.prog 102 #[.pointer (some ⟨br, 0, none⟩), .int .i64 e] w fun r w' => r = .returned (askV askEnd) ∧ Rg W F0 br bl K w' { m with how := 3, cod := 0, err := e } cs := by
  have hb := h.ltB
  obtain ⟨q, hr, _, _, _⟩ := id h
  have h29 : w.cell? ⟨br, 14, none⟩ = some (.int .i64 m.how) := (hr.cell 14).trans rfl
  have h30 : w.cell? ⟨br, 15, none⟩ = some (.int .i64 m.cod) := (hr.cell 15).trans rfl
  have h31 : w.cell? ⟨br, 16, none⟩ = some (.int .i64 m.err) := (hr.cell 16).trans rfl
  have f29 := hr.free 14
  have f30 := hr.free 15
  have f31 := hr.free 16
  clear hr
  have HD : Hid (Rg W F0 br bl K (((w.setCell ⟨br, 14, none⟩ (.int .i64 3)).setCell ⟨br, 15, none⟩ (.int .i64 0)).setCell ⟨br, 16, none⟩ (.int .i64 e)) { m with how := 3, cod := 0, err := e } cs) := by
    have g1 := h.set 14 (.int .i64 3) { m with how := 3 } (fun q => rfl) ⟨rfl, rfl, rfl, rfl, rfl, rfl, rfl, rfl, rfl⟩ (fun _ z => absurd z (by show ¬ (3 : Int) = 0; decide))
    have g2 := g1.set 15 (.int .i64 0) { m with how := 3, cod := 0 } (fun q => rfl) ⟨rfl, rfl, rfl, rfl, rfl, rfl, rfl, rfl, rfl⟩ (fun _ _ => rfl)
    exact g2.set 16 (.int .i64 e) { m with how := 3, cod := 0, err := e } (fun q => rfl) ⟨rfl, rfl, rfl, rfl, rfl, rfl, rfl, rfl, rfl⟩ (fun _ _ => rfl)
  clear h
  go_enter Tryz.func102, Tryz.ntmps102
  go_wp2
  exact ask_back rfl w.heap.size askEnd rfl (heap_new (by simp)) rfl ⟨rfl, HD.out.alloc _⟩
set_option maxRecDepth 100000 in
theorem rtop_any (h : Rg W F0 br bl K w m cs) {k : Nat} (hk : k < m.st.length) (hs : m.st.length ≤ 64) : Calls Tryz.prog 120 #[.pointer (some ⟨br, 0, none⟩), .int .i64 k] w fun r w' => r = .returned (.float .f64 (m.st.getD k 0)) ∧ ∃ n, w' = w.drewN n := by
  obtain ⟨q, hr, _, _, _⟩ := h
  have hb := hr.ltB
  have h8 : w.cell? ⟨br, 8, none⟩ = some (.slice q.ps m.st.length q.cs) := (hr.cell 8).trans rfl
  obtain ⟨g, o, hp, hc, hg⟩ := hr.st.get (j := m.st.length - 1 - k) (v := .float .f64 (m.st.getD k 0)) (by
    unfold fls
    rw [List.getElem?_map, rev_at m.st k hk]
    rfl)
  rw [hp] at h8
  clear hp hr
  obtain ⟨d, hd⟩ : ∃ d, m.st.length = d + 1 + k := ⟨m.st.length - 1 - k, by omega⟩
  rw [show m.st.length - 1 - k = d by omega] at hc
  rw [hd] at h8 hs
  generalize m.st.getD k 0 = x at *
  clear hk hd
  go_enter Tryz.func120, Tryz.ntmps120
  go_wp2
  go_quiet (fail)
  go_wp2
  go_ret
  exact ⟨rfl, _, rfl⟩
end
end Go.Proofs.YteinilmecnlanaaGreatDoor
namespace Go.Proofs.YteinilmecnlanaaGreatDoor
open Go.ChangeShapes Go.WideShapes Go.ChangeAt Go.RowKit Num
attribute [local go_sem] run_store_float

theorem fls_app (a b : List Nat) : fls (a ++ b) = fls a ++ fls b := by unfold fls; rw [List.map_append]
section
variable {W w : World} {br bl : Nat} {F0 K : List Nat} {m : Mac} {cs : List Ins}
theorem rev_split (l : List Nat) (k : Nat) : fls l.reverse = fls (l.drop k).reverse ++ fls (l.take k).reverse := by
  rw [← fls_app, ← List.reverse_append, List.take_append_drop]
theorem drop_len {l : List Nat} {r k : Nat} (h : l.length = r + k) : (l.drop k).length = r := by rw [List.length_drop]; omega
set_option maxRecDepth 100000 in
set_option maxHeartbeats 1000000 in
theorem rtrade_none (h : Rg W F0 br bl K w m cs) {k r : Nat} (hk : m.st.length = r + k) (h0 : 0 < k) (hs : m.st.length ≤ 64) : Calls Tryz.prog 105 #[.pointer (some ⟨br, 0, none⟩), .int .i64 k, .slice none 0 0] w fun e w' => e = .returned (.tuple #[]) ∧ Rg W F0 br bl K w' { m with st := m.st.drop k } cs := by
  obtain ⟨q, hr, hbl, ht, hF⟩ := id h
  have hb := hr.ltB
  have h8 : w.cell? ⟨br, 8, none⟩ = some (.slice q.ps m.st.length q.cs) := (hr.cell 8).trans rfl
  have f8 := hr.free 8
  have hc1 := hr.c1
  rw [hk] at h8 hc1 hs
  obtain ⟨g, o, hp, _, _⟩ := hr.st.get (j := 0) (v := .float .f64 (m.st.reverse.getD 0 0)) (by
    unfold fls
    rw [List.getElem?_map, List.getD_eq_getElem?_getD, List.getElem?_eq_getElem (by rw [List.length_reverse]; omega)]
    rfl)
  rw [hp] at h8
  have HD : Hid (Rg W F0 br bl K (w.drew.setCell ⟨br, 8, none⟩ (.slice (some ⟨g, o, none⟩) r r)) { m with st := m.st.drop k } cs) := by
    have hro := hr.st
    rw [rev_split m.st k] at hro
    have := h.putS hr hF hbl (w3 := w.drew) ((Same.drew w).below _) (p := q.ps) (s := m.st.drop k) (c := r) (.inl (by simp [Rp.rows])) (fun y hy => hr.lt y (in_fr (by simp [Rp.rows]) hy)) (hro.pre.keep ((Same.drew w).kept _)) (by rw [drop_len hk]; omega)
    rw [drop_len hk, hp] at this
    exact this
  obtain ⟨i0, hi, hz0, hz1, hz2⟩ := info_parts fInfo
  have HA : Hid (∀ (u : World) ty, ∃ v u', (Builtin.append_ #[27, 27] ty #[.slice (some ⟨g, o, none⟩) r r, .slice none 0 0]).run Tryz.prog u = .ok v u' ∧ (v = .slice (some ⟨g, o, none⟩) r r ∧ u' = u)) := fun u ty => ⟨_, _, app_none Tryz.underlying27 hi, rfl, rfl⟩
  clear hr hF hbl ht h hp hi hz0 hz1 hz2
  have hc1' : (r : Int) ≤ (q.cs : Int) := by omega
  have hwr : IntKind.i64.wrap (r : Int) = r := by rw [IntKind.wrap_i64]; omega
  generalize q.cs = qc at *
  go_enter Tryz.func105, Tryz.ntmps105
  go_wp2
  refine wp_region_seqE (fun u => u.cell? ⟨br, 8, none⟩ = some (.slice (some ⟨g, o, none⟩) (r + k) qc)) ((0, true) :: (1, true) :: (2, true) :: (3, true) :: (4, true) :: (5, true) :: (6, true) :: (7, true) :: (8, true) :: (9, true) :: (10, true) :: (11, true) :: (12, true) :: (13, true) :: (14, true) :: (15, true) :: (16, true) :: (17, true) :: (18, true) :: (19, true) :: (20, true) :: (21, false) :: (22, true) :: (23, true) :: (24, false) :: []) (by kernel_rfl) (by kernel_rfl) (fun _ _ _ _ _ h => h) (by simpa using h8) ?_
  repeat (first
    | (refine wpSeqE_take (v := ?_) rfl (by rfl) (fun wq hSq => ?_) ?_; rotate_left; (focus ((try dsimp only at hSq); go_simp; try with_reducible rfl)); simp only [Act.put, List.setIfInBounds_toArray, List.set_cons_zero, List.set_cons_succ]))
  refine wpSeqE_do rfl (by rfl) (fun K hK => ?_)
  refine wp_append_ex _ _ _ _ rfl _ _ rfl rfl (HA.out _ _) ?_
  rintro v w3 ⟨rfl, rfl⟩
  refine hK.out _ _ (fun _ => by simpa using h8) ?_
  clear hK K
  try simp only [Act.put, List.setIfInBounds_toArray, List.set_cons_zero, List.set_cons_succ]
  repeat (first
    | (refine wpSeqE_take (v := ?_) rfl (by rfl) (fun wq hSq => ?_) ?_; rotate_left; (focus ((try dsimp only at hSq); go_simp; try with_reducible rfl)); simp only [Act.put, List.setIfInBounds_toArray, List.set_cons_zero, List.set_cons_succ]))
  refine wpSeqE_do rfl (by rfl) (fun K hK => ?_)
  go_simp
  refine hK.out _ _ (fun z => absurd rfl z) ?_
  clear hK K
  refine wpSeqE_nil ?_
  go_wp2
  go_end0
  exact ⟨rfl, HD.out⟩
set_option maxRecDepth 100000 in
set_option maxHeartbeats 1000000 in
theorem rtrade_some (h : Rg W F0 br bl K w m cs) {k r n g0 : Nat} {l : List Nat} (hk : m.st.length = r + k) (hl : l.length = n) (h0 : 0 < n) (hn : n ≤ 2) (hs : m.st.length ≤ 64) (hc : w.rangeAt g0 0 (fls l)) : Calls Tryz.prog 105 #[.pointer (some ⟨br, 0, none⟩), .int .i64 k, .slice (some ⟨g0, 0, none⟩) n n] w fun e w' => e = .returned (.tuple #[]) ∧ Rg W F0 br bl K w' { m with st := l.reverse ++ m.st.drop k } cs := by
  obtain ⟨q, hr, hbl, ht, hF⟩ := id h
  have hb := hr.ltB
  have h8 : w.cell? ⟨br, 8, none⟩ = some (.slice q.ps m.st.length q.cs) := (hr.cell 8).trans rfl
  have hc1 := hr.c1
  rw [hk] at h8 hc1 hs
  have hro := hr.st
  rw [rev_split m.st k] at hro
  have hlen : (l.reverse ++ m.st.drop k).length = r + n := by rw [List.length_append, List.length_reverse, drop_len hk, hl]; omega
  have hrev : fls (l.reverse ++ m.st.drop k).reverse = fls (m.st.drop k).reverse ++ fls l := by rw [List.reverse_append, List.reverse_reverse, fls_app]
  have HD : Hid (∀ w3 c, Below w.heap.size w w3 → w.heap.size < w3.heap.size → Ro w3 (some ⟨w.heap.size, 0, none⟩) (fls (m.st.drop k).reverse ++ fls l) → r + n ≤ c → Rg W F0 br bl K (w3.setCell ⟨br, 8, none⟩ (.slice (some ⟨w.heap.size, 0, none⟩) (r + n) c)) { m with st := l.reverse ++ m.st.drop k } cs ∧ w3.cell? ⟨br, 8, none⟩ = some (.slice q.ps (r + k) q.cs) ∧ w3.frozen? ⟨br, 8, none⟩ = false ∧ br < w3.heap.size) := fun w3 c b1 b2 b3 b4 => by
    have h3 := hr.on b1
    refine ⟨?_, by rw [← hk]; exact (h3.cell 8).trans rfl, h3.free 8, h3.ltB⟩
    have := h.putS hr hF hbl b1 (p := some ⟨w.heap.size, 0, none⟩) (s := l.reverse ++ m.st.drop k) (c := c) (.inr ⟨_, rfl, Nat.le_refl _⟩) (fun y hy => by simp [fpR] at hy; omega) (by rw [hrev]; exact b3) (by omega)
    rw [hlen] at this
    exact this
  obtain ⟨i0, hi, hz0, hz1, hz2⟩ := info_parts fInfo
  have HA : Hid (∀ (u : World) ty, u.heap = w.heap → ∃ v u', (Builtin.append_ #[27, 27] ty #[.slice q.ps r r, .slice (some ⟨g0, 0, none⟩) n n]).run Tryz.prog u = .ok v u' ∧ ((∃ c, v = .slice (some ⟨u.heap.size, 0, none⟩) (r + n) c ∧ r + n ≤ c) ∧ Ro u' (some ⟨u.heap.size, 0, none⟩) (fls (m.st.drop k).reverse ++ fls l) ∧ Below u.heap.size u u' ∧ u.heap.size < u'.heap.size)) := fun u ty e => by
    have hcell : ∀ a, u.cell? a = w.cell? a := fun a => World.cell?_of_block (by rw [e])
    refine app_new Tryz.underlying27 hi hz0 (hro.pre.keep ⟨by rw [e]; exact Nat.le_refl _, fun _ _ => by rw [e]⟩) (by rw [fls_len, List.length_reverse, drop_len hk, hz1, Nat.mul_one]) ?_ h0 (by omega) (by rw [hz2]; omega)
    rw [hz1]
    refine Src.ofSlice u Tryz.underlying27 ⟨g0, 0, none⟩ n n (fls l) (by rw [fls_len, hl, Nat.mul_one]) (fun j v hv => ?_) (fls_one l)
    rw [Addr.add_mid, hcell]
    exact hc j v hv
  have hpl : q.ps = none ∧ r + k = 0 ∨ ∃ g o, q.ps = some ⟨g, o, none⟩ := by
    rcases hr.st with ⟨a1, a2⟩ | ⟨g, o, a1, _⟩
    · refine .inl ⟨a1, ?_⟩
      have := congrArg List.length a2
      rw [fls_len, List.length_reverse, hk] at this
      simpa using this
    · exact .inr ⟨g, o, a1⟩
  clear hr hF hbl ht h hi hz0 hz1 hz2 hro hlen hrev hc hl hk
  have hc1' : (r : Int) ≤ (q.cs : Int) := by omega
  have hwr : IntKind.i64.wrap (r : Int) = r := by rw [IntKind.wrap_i64]; omega
  generalize q.cs = qc at *
  rcases hpl with ⟨hp, hz⟩ | ⟨g, o, hp⟩
  · obtain rfl : r = 0 := by omega
    obtain rfl : k = 0 := by omega
    simp only [Nat.add_zero, Nat.zero_add, Int.cast_ofNat_Int] at h8 HD HA hc1' hwr ⊢
    rw [hp] at h8 HA HD
    clear hp
    go_enter Tryz.func105, Tryz.ntmps105
    go_wp2
    refine wp_region_seqE (fun u => u.cell? ⟨br, 8, none⟩ = some (.slice none 0 qc)) ((0, true) :: (1, true) :: (2, true) :: (3, true) :: (4, true) :: (5, true) :: (6, true) :: (7, true) :: (8, true) :: (9, true) :: (10, true) :: (11, true) :: (12, true) :: (13, true) :: (14, true) :: (15, true) :: (16, true) :: (17, true) :: (18, true) :: (19, true) :: (20, true) :: (21, false) :: (22, true) :: (23, true) :: (24, false) :: []) (by kernel_rfl) (by kernel_rfl) (fun _ _ _ _ _ h => h) (by simpa using h8) ?_
    repeat (first
      | (refine wpSeqE_take (v := ?_) rfl (by rfl) (fun wq hSq => ?_) ?_; rotate_left; (focus ((try dsimp only at hSq); go_simp; try with_reducible rfl)); simp only [Act.put, List.setIfInBounds_toArray, List.set_cons_zero, List.set_cons_succ]))
    refine wpSeqE_do rfl (by rfl) (fun K hK => ?_)
    refine wp_append_ex _ _ _ _ rfl _ _ rfl rfl (HA.out _ _ (by rfl)) ?_
    rintro v w3 ⟨⟨c, rfl, z1⟩, z2, z3, z4⟩
    obtain ⟨z5, z6, z7, z8⟩ := HD.out w3 c (((Same.drew w).below _).trans z3) z4 z2 z1
    have HK := Lib.hid z5
    clear z1 z2 z3 z4 z5
    refine hK.out _ _ (fun _ => z6) ?_
    clear hK K
    try simp only [Act.put, List.setIfInBounds_toArray, List.set_cons_zero, List.set_cons_succ]
    repeat (first
      | (refine wpSeqE_take (v := ?_) rfl (by rfl) (fun wq hSq => ?_) ?_; rotate_left; (focus ((try dsimp only at hSq); go_simp; try with_reducible rfl)); simp only [Act.put, List.setIfInBounds_toArray, List.set_cons_zero, List.set_cons_succ]))
    refine wpSeqE_do rfl (by rfl) (fun K hK => ?_)
    go_simp
    refine hK.out _ _ (fun z => absurd rfl z) ?_
    clear hK K
    refine wpSeqE_nil ?_
    go_wp2
    go_end0
    exact ⟨rfl, HK.out⟩
  · rw [hp] at h8 HA HD
    clear hp
    go_enter Tryz.func105, Tryz.ntmps105
    go_wp2
    refine wp_region_seqE (fun u => u.cell? ⟨br, 8, none⟩ = some (.slice (some ⟨g, o, none⟩) (r + k) qc)) ((0, true) :: (1, true) :: (2, true) :: (3, true) :: (4, true) :: (5, true) :: (6, true) :: (7, true) :: (8, true) :: (9, true) :: (10, true) :: (11, true) :: (12, true) :: (13, true) :: (14, true) :: (15, true) :: (16, true) :: (17, true) :: (18, true) :: (19, true) :: (20, true) :: (21, false) :: (22, true) :: (23, true) :: (24, false) :: []) (by kernel_rfl) (by kernel_rfl) (fun _ _ _ _ _ h => h) (by simpa using h8) ?_
    repeat (first
      | (refine wpSeqE_take (v := ?_) rfl (by rfl) (fun wq hSq => ?_) ?_; rotate_left; (focus ((try dsimp only at hSq); go_simp; try with_reducible rfl)); simp only [Act.put, List.setIfInBounds_toArray, List.set_cons_zero, List.set_cons_succ]))
    refine wpSeqE_do rfl (by rfl) (fun K hK => ?_)
    refine wp_append_ex _ _ _ _ rfl _ _ rfl rfl (HA.out _ _ (by rfl)) ?_
    rintro v w3 ⟨⟨c, rfl, z1⟩, z2, z3, z4⟩
    obtain ⟨z5, z6, z7, z8⟩ := HD.out w3 c (((Same.drew w).below _).trans z3) z4 z2 z1
    have HK := Lib.hid z5
    clear z1 z2 z3 z4 z5
    refine hK.out _ _ (fun _ => z6) ?_
    clear hK K
    try simp only [Act.put, List.setIfInBounds_toArray, List.set_cons_zero, List.set_cons_succ]
    repeat (first
      | (refine wpSeqE_take (v := ?_) rfl (by rfl) (fun wq hSq => ?_) ?_; rotate_left; (focus ((try dsimp only at hSq); go_simp; try with_reducible rfl)); simp only [Act.put, List.setIfInBounds_toArray, List.set_cons_zero, List.set_cons_succ]))
    refine wpSeqE_do rfl (by rfl) (fun K hK => ?_)
    go_simp
    refine hK.out _ _ (fun z => absurd rfl z) ?_
    clear hK K
    refine wpSeqE_nil ?_
    go_wp2
    go_end0
    exact ⟨rfl, HK.out⟩
end
end Go.Proofs.YteinilmecnlanaaGreatDoor
namespace Go.Proofs.YteinilmecnlanaaGreatDoor
open Go.ChangeShapes Go.WideShapes Go.ChangeAt Go.RowKit Num
attribute [local go_sem] run_store_float

theorem insO_at {w u : World} {i : Ins} (h : Below (w.alloc (insO i)).heap.size (w.alloc (insO i)) u) : u.cell? ⟨w.heap.size, 0, none⟩ = some (.int .i64 i.op) ∧ u.cell? ⟨w.heap.size, 1, none⟩ = some (.int .i64 i.n) ∧ u.cell? ⟨w.heap.size, 2, none⟩ = some (.float .f64 i.x) ∧ w.heap.size < u.heap.size :=
  cells3_of ((h.block w.heap.size (by simp)).trans (heap_alloc_new w _))
theorem shp_few {q : Nat} (h : q < 21) : (0 ≤ (shp q).takes ∧ (shp q).takes ≤ 2) ∧ 0 ≤ (shp q).lays ∧ (shp q).lays ≤ 2 := by
  have : ∀ k, k < 21 → (0 ≤ (shp k).takes ∧ (shp k).takes ≤ 2) ∧ 0 ≤ (shp k).lays ∧ (shp k).lays ≤ 2 := by decide
  exact this q h
section
variable {W w : World} {br bl : Nat} {F0 K : List Nat} {m : Mac} {cs : List Ins}
set_option maxRecDepth 100000 in
set_option maxHeartbeats 1000000 in
theorem rroom_any (h : Rg W F0 br bl K w m cs) {k : Nat} {n : Int} {x : Nat} (hk : 1 ≤ k ∧ k < 21) (hs : m.st.length ≤ 64) (hd : m.calls.length ≤ 16) (hn : 0 ≤ n ∧ n ≤ 1023) : Calls Tryz.prog 103 #[.pointer (some ⟨br, 0, none⟩), insV ⟨k, n, x⟩] w fun e w' => e = .returned (.bool (roomB m ⟨k, n, x⟩)) ∧ Below w.heap.size w w' := by
  have HB : Hid (∀ u, Below (w.alloc (insO ⟨k, n, x⟩)).heap.size (w.alloc (insO ⟨k, n, x⟩)) u → u.cell? ⟨br, 8, none⟩ = (w.cell? ⟨br, 8, none⟩) ∧ u.cell? ⟨br, 9, none⟩ = (w.cell? ⟨br, 9, none⟩) ∧ br < u.heap.size ∧ Below w.heap.size w u) := fun u hb => by
    have b1 : Below w.heap.size w u := (below_alloc w _).trans (hb.mono (by simp))
    have hlt := h.ltB
    exact ⟨b1.cell (p := ⟨br, 8, none⟩) hlt, b1.cell (p := ⟨br, 9, none⟩) hlt, Nat.lt_of_lt_of_le hlt b1.size, b1⟩
  obtain ⟨q, hr, _, _, _⟩ := h
  have hb := hr.ltB
  have h8 : w.cell? ⟨br, 8, none⟩ = some (.slice q.ps m.st.length q.cs) := (hr.cell 8).trans rfl
  have h9 : w.cell? ⟨br, 9, none⟩ = some (.slice q.pc m.calls.length q.cc) := (hr.cell 9).trans rfl
  clear hr
  rw [h8, h9] at HB
  have HE := Lib.hid (refEffect_some k (w.alloc (insO ⟨k, n, x⟩)) hk.2 hk.1)
  have hsb := shp_few hk.2
  have HRB : Hid (∀ a b c : Bool, decide (leastI ⟨k, n, x⟩ ≤ (m.st.length : Int)) = a → decide ((m.st.length : Int) - (shp k).takes + (shp k).lays ≤ 64) = b → (decide ((k : Int) = 14) && decide (16 ≤ m.calls.length)) = c → roomB m ⟨k, n, x⟩ = (a && b && !c)) := fun a b c h1 h2 h3 => by subst h1 h2 h3; rfl
  have hle : (k = 5 ∧ leastI ⟨k, n, x⟩ = n + 1) ∨ (¬ k = 5 ∧ leastI ⟨k, n, x⟩ = (shp k).takes) := by
    unfold leastI
    by_cases h5 : k = 5
    · exact .inl ⟨h5, if_pos (by simp [h5])⟩
    · exact .inr ⟨h5, if_neg (by simp; omega)⟩
  generalize leastI ⟨k, n, x⟩ = le at HRB hle
  generalize (shp k).takes = tk at *
  generalize (shp k).lays = ly at *
  generalize m.st.length = sl at *
  generalize m.calls.length = dp at *
  have hsl : (sl : Int) ≤ 64 := by omega
  clear h8 h9 hs
  rcases hle with ⟨rfl, rfl⟩ | ⟨h5, rfl⟩
  · have HF : Hid ((decide (((5 : Nat) : Int) = 14) && decide (16 ≤ dp)) = false) := by show _ = _; simp
    by_cases ha : n + 1 ≤ (sl : Int)
    · have HA : Hid (decide (n + 1 ≤ (sl : Int)) = true) := decide_eq_true ha
      by_cases hc : (sl : Int) - tk + ly ≤ 64
      · have HC : Hid (decide ((sl : Int) - tk + ly ≤ 64) = true) := decide_eq_true hc
        rw [HRB.out true true false HA.out HC.out HF.out]
        clear HRB HA HC HF
        unfold insV
        go_enter Tryz.func103, Tryz.ntmps103
        go_wp2_with (go_at_call 119; refine HE.out.mono ?_; rintro e u ⟨rfl, hu⟩; obtain ⟨c0, c1, c2, c3⟩ := insO_at hu; obtain ⟨d0, d1, d2, d3⟩ := HB.out _ hu; have HU := Lib.hid d3; clear hu d3)
        go_ret
        exact ⟨rfl, HU.out⟩
      · have HC : Hid (decide ((sl : Int) - tk + ly ≤ 64) = false) := decide_eq_false hc
        have hcf : decide ((sl : Int) - tk + ly ≤ 64) = false := decide_eq_false hc
        rw [HRB.out true false false HA.out HC.out HF.out]
        clear HRB HA HC HF
        unfold insV
        go_enter Tryz.func103, Tryz.ntmps103
        go_wp2_with (go_at_call 119; refine HE.out.mono ?_; rintro e u ⟨rfl, hu⟩; obtain ⟨c0, c1, c2, c3⟩ := insO_at hu; obtain ⟨d0, d1, d2, d3⟩ := HB.out _ hu; have HU := Lib.hid d3; clear hu d3)
        go_ret
        exact ⟨rfl, HU.out⟩
    · have HA : Hid (decide (n + 1 ≤ (sl : Int)) = false) := decide_eq_false ha
      have haf : decide (n + 1 ≤ (sl : Int)) = false := decide_eq_false ha
      have HC : Hid (decide ((sl : Int) - tk + ly ≤ 64) = decide ((sl : Int) - tk + ly ≤ 64)) := rfl
      rw [HRB.out false _ false HA.out HC.out HF.out]
      clear HRB HA HC HF
      unfold insV
      go_enter Tryz.func103, Tryz.ntmps103
      go_wp2_with (go_at_call 119; refine HE.out.mono ?_; rintro e u ⟨rfl, hu⟩; obtain ⟨c0, c1, c2, c3⟩ := insO_at hu; obtain ⟨d0, d1, d2, d3⟩ := HB.out _ hu; have HU := Lib.hid d3; clear hu d3)
      go_ret
      exact ⟨rfl, HU.out⟩
  · have h5' : ¬ (k : Int) = 5 := by omega
    by_cases h14 : k = 14
    · subst h14
      by_cases hd16 : dp = 16
      · have HF : Hid ((decide (((14 : Nat) : Int) = 14) && decide (16 ≤ dp)) = true) := by show _ = _; simp; omega
        subst hd16
        have HA : Hid (decide (le ≤ (sl : Int)) = decide (le ≤ (sl : Int))) := rfl
        have HC : Hid (decide ((sl : Int) - le + ly ≤ 64) = decide ((sl : Int) - le + ly ≤ 64)) := rfl
        rw [HRB.out _ _ true HA.out HC.out HF.out, Bool.not_true, Bool.and_false]
        clear HRB HA HC HF
        unfold insV
        go_enter Tryz.func103, Tryz.ntmps103
        go_wp2_with (go_at_call 119; refine HE.out.mono ?_; rintro e u ⟨rfl, hu⟩; obtain ⟨c0, c1, c2, c3⟩ := insO_at hu; obtain ⟨d0, d1, d2, d3⟩ := HB.out _ hu; have HU := Lib.hid d3; clear hu d3)
        go_ret
        exact ⟨rfl, HU.out⟩
      · have HF : Hid ((decide (((14 : Nat) : Int) = 14) && decide (16 ≤ dp)) = false) := by show _ = _; simp; omega
        have hdi : ¬ (dp : Int) = 16 := by omega
        by_cases ha : le ≤ (sl : Int)
        · have HA : Hid (decide (le ≤ (sl : Int)) = true) := decide_eq_true ha
          by_cases hc : (sl : Int) - le + ly ≤ 64
          · have HC : Hid (decide ((sl : Int) - le + ly ≤ 64) = true) := decide_eq_true hc
            rw [HRB.out true true false HA.out HC.out HF.out]
            clear HRB HA HC HF
            unfold insV
            go_enter Tryz.func103, Tryz.ntmps103
            go_wp2_with (go_at_call 119; refine HE.out.mono ?_; rintro e u ⟨rfl, hu⟩; obtain ⟨c0, c1, c2, c3⟩ := insO_at hu; obtain ⟨d0, d1, d2, d3⟩ := HB.out _ hu; have HU := Lib.hid d3; clear hu d3)
            go_ret
            exact ⟨rfl, HU.out⟩
          · have HC : Hid (decide ((sl : Int) - le + ly ≤ 64) = false) := decide_eq_false hc
            have hcf : decide ((sl : Int) - le + ly ≤ 64) = false := decide_eq_false hc
            rw [HRB.out true false false HA.out HC.out HF.out]
            clear HRB HA HC HF
            unfold insV
            go_enter Tryz.func103, Tryz.ntmps103
            go_wp2_with (go_at_call 119; refine HE.out.mono ?_; rintro e u ⟨rfl, hu⟩; obtain ⟨c0, c1, c2, c3⟩ := insO_at hu; obtain ⟨d0, d1, d2, d3⟩ := HB.out _ hu; have HU := Lib.hid d3; clear hu d3)
            go_ret
            exact ⟨rfl, HU.out⟩
        · have HA : Hid (decide (le ≤ (sl : Int)) = false) := decide_eq_false ha
          have haf : decide (le ≤ (sl : Int)) = false := decide_eq_false ha
          have HC : Hid (decide ((sl : Int) - le + ly ≤ 64) = decide ((sl : Int) - le + ly ≤ 64)) := rfl
          rw [HRB.out false _ false HA.out HC.out HF.out]
          clear HRB HA HC HF
          unfold insV
          go_enter Tryz.func103, Tryz.ntmps103
          go_wp2_with (go_at_call 119; refine HE.out.mono ?_; rintro e u ⟨rfl, hu⟩; obtain ⟨c0, c1, c2, c3⟩ := insO_at hu; obtain ⟨d0, d1, d2, d3⟩ := HB.out _ hu; have HU := Lib.hid d3; clear hu d3)
          go_ret
          exact ⟨rfl, HU.out⟩
    · have h14' : ¬ (k : Int) = 14 := by omega
      have HF : Hid ((decide ((k : Int) = 14) && decide (16 ≤ dp)) = false) := by show _ = _; simp [h14']
      by_cases ha : le ≤ (sl : Int)
      · have HA : Hid (decide (le ≤ (sl : Int)) = true) := decide_eq_true ha
        by_cases hc : (sl : Int) - le + ly ≤ 64
        · have HC : Hid (decide ((sl : Int) - le + ly ≤ 64) = true) := decide_eq_true hc
          rw [HRB.out true true false HA.out HC.out HF.out]
          clear HRB HA HC HF
          unfold insV
          go_enter Tryz.func103, Tryz.ntmps103
          go_wp2_with (go_at_call 119; refine HE.out.mono ?_; rintro e u ⟨rfl, hu⟩; obtain ⟨c0, c1, c2, c3⟩ := insO_at hu; obtain ⟨d0, d1, d2, d3⟩ := HB.out _ hu; have HU := Lib.hid d3; clear hu d3)
          go_ret
          exact ⟨rfl, HU.out⟩
        · have HC : Hid (decide ((sl : Int) - le + ly ≤ 64) = false) := decide_eq_false hc
          have hcf : decide ((sl : Int) - le + ly ≤ 64) = false := decide_eq_false hc
          rw [HRB.out true false false HA.out HC.out HF.out]
          clear HRB HA HC HF
          unfold insV
          go_enter Tryz.func103, Tryz.ntmps103
          go_wp2_with (go_at_call 119; refine HE.out.mono ?_; rintro e u ⟨rfl, hu⟩; obtain ⟨c0, c1, c2, c3⟩ := insO_at hu; obtain ⟨d0, d1, d2, d3⟩ := HB.out _ hu; have HU := Lib.hid d3; clear hu d3)
          go_ret
          exact ⟨rfl, HU.out⟩
      · have HA : Hid (decide (le ≤ (sl : Int)) = false) := decide_eq_false ha
        have haf : decide (le ≤ (sl : Int)) = false := decide_eq_false ha
        have HC : Hid (decide ((sl : Int) - le + ly ≤ 64) = decide ((sl : Int) - le + ly ≤ 64)) := rfl
        rw [HRB.out false _ false HA.out HC.out HF.out]
        clear HRB HA HC HF
        unfold insV
        go_enter Tryz.func103, Tryz.ntmps103
        go_wp2_with (go_at_call 119; refine HE.out.mono ?_; rintro e u ⟨rfl, hu⟩; obtain ⟨c0, c1, c2, c3⟩ := insO_at hu; obtain ⟨d0, d1, d2, d3⟩ := HB.out _ hu; have HU := Lib.hid d3; clear hu d3)
        go_ret
        exact ⟨rfl, HU.out⟩
end
end Go.Proofs.YteinilmecnlanaaGreatDoor
namespace Go.Proofs.YteinilmecnlanaaGreatDoor
open Go.ChangeShapes Go.WideShapes Go.ChangeAt Go.RowKit Num
attribute [local go_sem] run_store_float

theorem tch_at : ∀ (l : Wr) {k : Nat}, k < l.length → (l.flatMap tchC)[k * 2]? = some (.int .i64 (l.getD k (0, 0)).1) ∧ (l.flatMap tchC)[k * 2 + 1]? = some (.float .f64 (l.getD k (0, 0)).2)
  | [], k, h => by simp at h
  | a :: l, 0, _ => ⟨rfl, rfl⟩
  | a :: l, k + 1, h => by
    obtain ⟨h1, h2⟩ := tch_at l (k := k) (by simpa using h)
    have e : ∀ j, ((a :: l).flatMap tchC)[j + 2]? = (l.flatMap tchC)[j]? := fun j => by
      rw [List.flatMap_cons]
      rfl
    rw [show (k + 1) * 2 = k * 2 + 2 by omega, show k * 2 + 2 + 1 = k * 2 + 1 + 2 by omega, e, e]
    simpa using ⟨h1, h2⟩
/-- what wrote answers -/
def wroteV (l : Wr) (d : Int) : Nat := if hasC l d then getC l d else 0
section
variable {W w : World} {br bl : Nat} {F0 K : List Nat} {m : Mac} {cs : List Ins}
set_option maxRecDepth 100000 in
set_option maxHeartbeats 1000000 in
theorem rwrote_any (h : Rg W F0 br bl K w m cs) (d : Int) (hl : m.buf.length ≤ 32) : Calls Tryz.prog 154 #[.pointer (some ⟨br, 0, none⟩), .int .i64 d] w fun e w' => e = .returned (.tuple #[.float .f64 (wroteV m.buf d), .bool (hasC m.buf d)]) ∧ Below w.heap.size w w' := by
  obtain ⟨q, hr, _, _, _⟩ := h
  have hb := hr.ltB
  have h19 : w.cell? ⟨br, 19, none⟩ = some (.slice q.pb m.buf.length q.cb) := (hr.cell 19).trans rfl
  have HRO := Lib.hid hr.buf
  clear hr
  obtain ⟨n, hn⟩ : ∃ n, m.buf.length = n := ⟨_, rfl⟩
  rw [hn] at h19 hl
  generalize m.buf = l at *
  have HN := Lib.hid hn
  have hil : idx l d ≤ n := by rw [← hn]; exact idx_le l d
  clear hn
  go_enter Tryz.func154, Tryz.ntmps154
  go_wp2
  go_loopw [7, 13] (fun _ vi wr => ∃ k : Nat, vi = .int .i64 k ∧ k ≤ n ∧ k ≤ idx l d ∧ Hid (Below w.heap.size w wr)) (fun _ vi _ => n - (intOf vi).toNat)
  case atStart => exact ⟨0, rfl, by omega, by omega, Below.refl _ _⟩
  case round =>
    obtain ⟨k, rfl, hk, hki, HB⟩ := hrel
    by_cases hkn : k < n
    · have hkn' : (k : Int) < (n : Int) := by omega
      obtain ⟨a1, a2⟩ := tch_at l (k := k) (by rw [HN.out]; exact hkn)
      obtain ⟨g, o, hp, c0, hg⟩ := HRO.out.get a1
      obtain ⟨g', o', hp', c1, _⟩ := HRO.out.get a2
      rw [hp] at hp'
      cases hp'
      rw [← HB.out.cell (p := ⟨g, o + k * 2, none⟩) hg] at c0
      rw [← HB.out.cell (p := ⟨g, o + (k * 2 + 1), none⟩) hg, ← Nat.add_assoc] at c1
      have hg' : g < wr.heap.size := Nat.lt_of_lt_of_le hg HB.out.size
      rw [hp]
      have HF : Hid (k < l.length) := by show k < l.length; rw [HN.out]; exact hkn
      have HGC : Hid ((l.getD k (0, 0)).1 = d → k = idx l d ∧ wroteV l d = (l.getD k (0, 0)).2 ∧ hasC l d = true) := fun e => by
        have hge : l.getD k (0, 0) = l[k]'HF.out := by rw [List.getD_eq_getElem?_getD, List.getElem?_eq_getElem HF.out]; rfl
        have hk1 : k = idx l d := by
          rcases Nat.lt_or_ge k (idx l d) with z | z
          · exact absurd (hge ▸ e) (idx_not z HF.out)
          · omega
        have hh : hasC l d = true := by unfold hasC; rw [← hk1]; exact decide_eq_true HF.out
        refine ⟨hk1, ?_, hh⟩
        unfold wroteV getC
        rw [if_pos hh, ← hk1]
      have HGN : Hid (¬ (l.getD k (0, 0)).1 = d → k + 1 ≤ idx l d) := fun e => by
        rcases Nat.lt_or_ge k (idx l d) with z | z
        · exact z
        · have hk1 : k = idx l d := by omega
          have := idx_at (l := l) (c := d) (by rw [← hk1]; exact HF.out)
          refine absurd ?_ e
          rw [List.getD_eq_getElem?_getD, List.getElem?_eq_getElem HF.out]
          simp only [hk1]
          exact this
      generalize (l.getD k (0, 0)).1 = tc at *
      generalize (l.getD k (0, 0)).2 = tx at *
      clear a1 a2 hp hg
      by_cases htc : tc = d
      · have HZ := Lib.hid (HGC.out htc).2
        subst htc
        clear HGC HGN
        go_wp2
        go_ret2
        refine ⟨by rw [HZ.out.1, HZ.out.2]; rfl, HB.out.alloc HB.out.size _⟩
      · have hki' := HGN.out htc
        clear HGC HGN
        go_wp2
        exact ⟨⟨k + 1, by first | rfl | (congr 1), by omega, hki', HB.out.alloc HB.out.size _⟩, by simp [intOf]; omega⟩
    · have hkn' : ¬ (k : Int) < (n : Int) := by omega
      have HZ : Hid (wroteV l d = 0 ∧ hasC l d = false) := by
        have : hasC l d = false := by unfold hasC; rw [HN.out]; exact decide_eq_false (by omega)
        refine ⟨?_, this⟩
        unfold wroteV
        rw [this]
        rfl
      go_wp2
      go_ret2
      exact ⟨by rw [HZ.out.1, HZ.out.2]; rfl, HB.out⟩
/-! its read -/
theorem Rg.top (h : Rg W F0 br bl K w m cs) {k : Nat} (hk : k < m.st.length) (hs : m.st.length ≤ 64) : ∀ n, Calls Tryz.prog 120 #[.pointer (some ⟨br, 0, none⟩), .int .i64 k] (w.drewN n) fun e w' => e = .returned (.float .f64 (m.st.getD k 0)) ∧ ∃ q, w' = w.drewN q := fun n => (rtop_any (h.same (Same.drewN w n)) hk hs).mono fun e w' ⟨he, q, hq⟩ => ⟨he, n + q, by rw [hq, World.drewN_drewN]⟩
/-- the number on top, the cell that it names -/
theorem Rg.addr (h : Rg W F0 br bl K w m cs) {y : Nat} {s : List Nat} (hs : m.st = y :: s) (hs2 : m.st.length ≤ 64) : ∀ n, Calls Tryz.prog 120 #[.pointer (some ⟨br, 0, none⟩), .int .i64 0] (w.drewN n) fun e w' => e = .returned (.float .f64 y) ∧ ∃ q, w' = w.drewN q := by
  have := h.top (k := 0) (by rw [hs]; simp) hs2
  rw [hs] at this
  exact this
theorem Rg.at0 (h : Rg W F0 br bl K w m cs) : w.cell? ⟨br, 0, none⟩ = some (.int .i64 m.cells) ∧ br < w.heap.size := by
  obtain ⟨q, hr, _, _, _⟩ := h
  exact ⟨(hr.cell 0).trans rfl, hr.ltB⟩
/-- an answer's box -/
theorem Rg.leave (h : Rg W F0 br bl K w m cs) (o : Obj) : ∃ F, Rg (w.alloc o) F br bl K (w.alloc o) m cs ∧ ∀ u m', Rg (w.alloc o) F br bl K u m' cs → u.heap[w.heap.size]? = some o ∧ ∀ u', Turn [w.heap.size] [w.heap.size] u u' → Rg W F0 br bl K u' m' cs := by
  obtain ⟨F, h1, h2⟩ := h.away (below_alloc w o)
  refine ⟨F, h1, fun u m' hu => ?_⟩
  obtain ⟨a1, _, a3⟩ := h2 u m' hu
  exact ⟨(a1 _ (Nat.le_refl _) (by simp)).trans (heap_alloc_new w o), fun u' t => a3 _ u' (Nat.le_refl _) (by simp) t⟩
set_option maxRecDepth 100000 in
set_option maxHeartbeats 1000000 in
theorem rread_no (h : Rg W F0 br bl K w m cs) {y : Nat} {s : List Nat} (hs : m.st = y :: s) (hs2 : m.st.length ≤ 64) (ho : y < 18446744073709551616) (ha : addrB m = false) : Calls Tryz.prog 124 #[.pointer (some ⟨br, 0, none⟩)] w fun r w' => r = .returned (askV askEnd) ∧ Rg W F0 br bl K w' (failM m 50).1 cs := by
  obtain ⟨h0, hb⟩ := h.at0
  obtain ⟨F, h1, hX⟩ := h.leave (askO ask0)
  have HX := Lib.hid hX
  have HT := Lib.hid (h1.addr hs hs2)
  have HI := Lib.hid (fun w => refIndex_any y m.cells w ho)
  have ha' : idxB y m.cells = false := by unfold addrB at ha; rw [hs] at ha; exact ha
  unfold idxV idxE at HI
  rw [ha'] at HI
  have HFA : Hid (∀ n, Calls Tryz.prog 102 #[.pointer (some ⟨br, 0, none⟩), .int .i64 50] ((w.alloc (askO ask0)).drewN n) fun r w' => r = .returned (askV askEnd) ∧ Rg (w.alloc (askO ask0)) F br bl K w' (failM m 50).1 cs) := fun n => rfails_any (h1.same (Same.drewN _ n)) 50
  clear h h1 hX ha ha' ho hs hs2
  generalize m.cells = z at *
  go_enter Tryz.func124, Tryz.ntmps124
  go_wp2
  go_quiet (first
    | (go_at_call 120; exact HT.out _)
    | (go_at_call 153; exact Calls.quiet_of_same (HI.out _)))
  go_wp2_with (go_at_call 102; refine (HFA.out _).mono ?_; rintro e u1 ⟨rfl, q⟩; obtain ⟨r1, r2⟩ := HX.out _ _ q; obtain ⟨⟨c0, c1, c2, c3, c4⟩, d0, d1, d2, d3⟩ := askO_cells r1; have G1 := Lib.hid (And.intro r1 r2); clear q r1 r2; unfold askV)
  exact ask_back rfl w.heap.size askEnd rfl (askO_set G1.out.1) rfl ⟨rfl, G1.out.2 _ (turn4 _ _ _ _ _ _)⟩
theorem Rg.waits (h : Rg W F0 br bl K w m cs) (c : Int) : Rg W F0 br bl K (w.setCell ⟨br, 13, none⟩ (.int .i64 c)) { m with wait := c } cs ∧ w.cell? ⟨br, 13, none⟩ = some (.int .i64 m.wait) ∧ w.frozen? ⟨br, 13, none⟩ = false := by
  obtain ⟨q, hr, _, _, _⟩ := id h
  exact ⟨h.set 13 (.int .i64 c) { m with wait := c } (fun q => rfl) ⟨rfl, rfl, rfl, rfl, rfl, rfl, rfl, rfl, rfl⟩ id, (hr.cell 13).trans rfl, hr.free 13⟩
set_option maxRecDepth 100000 in
set_option maxHeartbeats 1000000 in
theorem rread_wait (h : Rg W F0 br bl K w m cs) {y : Nat} {s : List Nat} (hs : m.st = y :: s) (hs2 : m.st.length ≤ 64) (ho : y < 18446744073709551616) (hl : m.buf.length ≤ 32) (ha : addrB m = true) (hh : hasC m.buf (addrV m) = false) : Calls Tryz.prog 124 #[.pointer (some ⟨br, 0, none⟩)] w fun r w' => r = .returned (askV (askRead (addrV m))) ∧ Rg W F0 br bl K w' { m with st := s, wait := addrV m } cs := by
  obtain ⟨h0, hb⟩ := h.at0
  obtain ⟨F, h1, hX⟩ := h.leave (askO ask0)
  have HX := Lib.hid hX
  have HT := Lib.hid (h1.addr hs hs2)
  have HI := Lib.hid (fun w => refIndex_any y m.cells w ho)
  have hc : addrV m = idxV y m.cells := by unfold addrV; rw [hs]; rfl
  have ha' : idxE y m.cells = 0 := by unfold addrB at ha; rw [hs] at ha; unfold idxE; exact if_pos ha
  rw [← hc, ha'] at HI
  have HW : Hid (∀ n, Calls Tryz.prog 154 #[.pointer (some ⟨br, 0, none⟩), .int .i64 (addrV m)] ((w.alloc (askO ask0)).drewN n) fun e w' => e = .returned (.tuple #[.float .f64 (wroteV m.buf (addrV m)), .bool false]) ∧ Rg (w.alloc (askO ask0)) F br bl K w' m cs) := fun n => by
    have k1 := h1.same (Same.drewN _ n)
    refine (rwrote_any k1 (addrV m) hl).mono fun e u ⟨a1, a2⟩ => ⟨by rw [a1, hh], k1.on a2⟩
  have HTR : Hid (∀ u, Rg (w.alloc (askO ask0)) F br bl K u m cs → Calls Tryz.prog 105 #[.pointer (some ⟨br, 0, none⟩), .int .i64 1, .slice none 0 0] u fun e w' => e = .returned (.tuple #[]) ∧ Rg (w.alloc (askO ask0)) F br bl K w' { m with st := s } cs) := fun u hu => by
    have := rtrade_none hu (k := 1) (r := s.length) (by rw [hs]; simp) (by omega) hs2
    rw [show m.st.drop 1 = s by rw [hs]; rfl] at this
    exact this
  clear h h1 hX ha ha' ho hs hs2 hc hh hl
  generalize wroteV m.buf (addrV m) = wv at *
  generalize addrV m = c at *
  generalize hz : m.cells = z at *
  go_enter Tryz.func124, Tryz.ntmps124
  go_wp2
  go_quiet (first
    | (go_at_call 120; exact HT.out _)
    | (go_at_call 153; exact Calls.quiet_of_same (HI.out _)))
  go_wp2_with (first
    | (go_at_call 105; refine (HTR.out _ G1.out).mono ?_; rintro e u2 ⟨rfl, q⟩; obtain ⟨q2, q3, q4⟩ := q.waits c; have q5 := q.ltB; obtain ⟨r1, r2⟩ := HX.out _ _ q2; obtain ⟨⟨c0, c1, c2, c3, c4⟩, d0, d1, d2, d3⟩ := askO_cells r1; have G2 := Lib.hid (And.intro r1 r2); clear q q2 r1 r2)
    | (go_at_call 154; refine (HW.out _).mono ?_; rintro e u1 ⟨rfl, q⟩; have G1 := Lib.hid q; clear q))
  exact ask_back rfl w.heap.size (askRead c) rfl (askO_set (k' := askRead c) G2.out.1) rfl (⟨rfl, G2.out.2 _ (turn4 _ _ (.int .i64 1) (.int .i64 c) (.float .f64 0) (.bool false))⟩)
end
end Go.Proofs.YteinilmecnlanaaGreatDoor
namespace Go.Proofs.YteinilmecnlanaaGreatDoor
open Go.ChangeShapes Go.WideShapes Go.ChangeAt Go.RowKit Num
attribute [local go_sem] run_store_float

/-- what append of one thing comes to -/
def AppOne (u : World) (k : Nat) (vs : List Value) (v : Value) (u' : World) : Prop := (∃ c, v = .slice (some ⟨u.heap.size, 0, none⟩) (k + 1) c ∧ k + 1 ≤ c) ∧ Ro u' (some ⟨u.heap.size, 0, none⟩) vs ∧ Below u.heap.size u u' ∧ u.heap.size < u'.heap.size
theorem app_touch {u : World} {p : Option Addr} {l : Wr} {k g0 : Nat} {c : Int} {x : Nat} (hr : Ro u p (l.flatMap tchC)) (hk : l.length = k) (hk2 : k ≤ 1024) (h0 : u.cell? ⟨g0, 0, none⟩ = some (.int .i64 c)) (h1 : u.cell? ⟨g0, 1, none⟩ = some (.float .f64 x)) (ty : TypeId) : ∃ v u', (Builtin.append_ #[57, 57] ty #[.slice p k k, .slice (some ⟨g0, 0, none⟩) 1 1]).run Tryz.prog u = .ok v u' ∧ AppOne u k ((l ++ [(c, x)]).flatMap tchC) v u' := by
  obtain ⟨i0, hi, hz0, hz1, hz2⟩ := info_parts tInfo
  have e : (l ++ [(c, x)]).flatMap tchC = l.flatMap tchC ++ tchC (c, x) := by simp [List.flatMap_append]
  unfold AppOne
  rw [e]
  refine app_new Tryz.underlying57 hi hz0 hr (by rw [tch_len, hk, hz1]) ?_ (by omega) (by omega) (by rw [hz2]; omega)
  rw [hz1]
  refine Src.ofSlice u Tryz.underlying57 ⟨g0, 0, none⟩ 1 1 (tchC (c, x)) rfl (fun j v hv => ?_) (fun v hv => tch_one [(c, x)] v (by simpa using hv))
  rw [Addr.add_mid, Nat.zero_add]
  match j, hv with
  | 0, hv => rw [h0]; simpa [tchC] using hv
  | 1, hv => rw [h1]; simpa [tchC] using hv
  | j + 2, hv => simp [tchC] at hv
theorem app_float {u : World} {p : Option Addr} {l : List Nat} {k g0 x : Nat} (hr : Ro u p (fls l)) (hk : l.length = k) (hk2 : k ≤ 1024) (h0 : u.cell? ⟨g0, 0, none⟩ = some (.float .f64 x)) (ty : TypeId) : ∃ v u', (Builtin.append_ #[27, 27] ty #[.slice p k k, .slice (some ⟨g0, 0, none⟩) 1 1]).run Tryz.prog u = .ok v u' ∧ AppOne u k (fls (l ++ [x])) v u' := by
  obtain ⟨i0, hi, hz0, hz1, hz2⟩ := info_parts fInfo
  unfold AppOne
  rw [fls_snoc]
  refine app_new Tryz.underlying27 hi hz0 hr (by rw [fls_len, hk, hz1, Nat.mul_one]) ?_ (by omega) (by omega) (by rw [hz2]; omega)
  rw [hz1]
  refine Src.ofSlice u Tryz.underlying27 ⟨g0, 0, none⟩ 1 1 [.float .f64 x] rfl (fun j v hv => ?_) (fun v hv => by simp at hv; subst hv; rfl)
  rw [Addr.add_mid, Nat.zero_add]
  match j, hv with
  | 0, hv => rw [h0]; simpa using hv
  | j + 1, hv => simp at hv
theorem app_int {u : World} {p : Option Addr} {l : List Int} {k g0 : Nat} {x : Int} (hr : Ro u p (i64s l)) (hk : l.length = k) (hk2 : k ≤ 1024) (h0 : u.cell? ⟨g0, 0, none⟩ = some (.int .i64 x)) (ty : TypeId) : ∃ v u', (Builtin.append_ #[105, 105] ty #[.slice p k k, .slice (some ⟨g0, 0, none⟩) 1 1]).run Tryz.prog u = .ok v u' ∧ AppOne u k (i64s (l ++ [x])) v u' := by
  obtain ⟨i0, hi, hz0, hz1, hz2⟩ := info_parts iInfo
  unfold AppOne
  have e : i64s (l ++ [x]) = i64s l ++ [.int .i64 x] := by simp [i64s]
  rw [e]
  refine app_new Tryz.underlying105 hi hz0 hr (by simp [i64s, hk, hz1]) ?_ (by omega) (by omega) (by rw [hz2]; omega)
  rw [hz1]
  refine Src.ofSlice u Tryz.underlying105 ⟨g0, 0, none⟩ 1 1 [.int .i64 x] rfl (fun j v hv => ?_) (fun v hv => by simp at hv; subst hv; rfl)
  rw [Addr.add_mid, Nat.zero_add]
  match j, hv with
  | 0, hv => rw [h0]; simpa using hv
  | j + 1, hv => simp at hv
/-- a row's address: none, if it has nothing; else plain -/
theorem Ro.plain {w : World} {p : Option Addr} {vs : List Value} (h : Ro w p vs) : (p = none ∧ vs.length = 0) ∨ ∃ g o, p = some ⟨g, o, none⟩ := by
  rcases h with ⟨a, b⟩ | ⟨g, o, a, _⟩
  · exact .inl ⟨a, by rw [b]; rfl⟩
  · exact .inr ⟨g, o, a⟩
section
variable {W w : World} {br bl : Nat} {F0 K : List Nat} {m : Mac} {cs : List Ins}
/-- its list of reads, and what becomes of it behind an append -/
theorem Rg.reads (h : Rg W F0 br bl K w m cs) (c : Int) (x : Nat) (hl : m.reads.length ≤ 1024) : ∃ p k cr, w.cell? ⟨br, 18, none⟩ = some (.slice p k cr) ∧ (k : Int) ≤ cr ∧ m.reads.length = k ∧ ((p = none ∧ k = 0) ∨ ∃ g o, p = some ⟨g, o, none⟩) ∧
    ∀ u, Below w.heap.size w u → (u.cell? ⟨br, 18, none⟩ = some (.slice p k cr) ∧ br < u.heap.size) ∧ ∀ g0 ty, u.cell? ⟨g0, 0, none⟩ = some (.int .i64 c) → u.cell? ⟨g0, 1, none⟩ = some (.float .f64 x) → ∃ v u', (Builtin.append_ #[57, 57] ty #[.slice p k k, .slice (some ⟨g0, 0, none⟩) 1 1]).run Tryz.prog u = .ok v u' ∧ ∃ g1 n1 c1, v = .slice (some ⟨g1, 0, none⟩) n1 c1 ∧ (Hid (Rg W F0 br bl K (u'.setCell ⟨br, 18, none⟩ (.slice (some ⟨g1, 0, none⟩) n1 c1)) { m with reads := m.reads ++ [(c, x)] } cs) ∧ u'.cell? ⟨br, 18, none⟩ = some (.slice p k cr) ∧ u'.frozen? ⟨br, 18, none⟩ = false ∧ br < u'.heap.size) := by
  obtain ⟨q, hr, hbl, ht, hF⟩ := id h
  have hpl := hr.rds.plain
  rw [tch_len] at hpl
  refine ⟨q.pr, m.reads.length, q.cr, (hr.cell 18).trans rfl, by have := hr.c4; omega, rfl, hpl.imp (fun z => ⟨z.1, by omega⟩) id, fun u hu => ⟨⟨((hr.on hu).cell 18).trans rfl, (hr.on hu).ltB⟩, fun g0 ty c0 c1 => ?_⟩⟩
  obtain ⟨v, u', e1, ⟨c', rfl, e2⟩, e3, e4, e5⟩ := app_touch (hr.on hu).rds rfl hl c0 c1 ty
  have hb := hu.trans (e4.mono hu.size)
  have h3 := hr.on hb
  refine ⟨_, u', e1, _, _, c', rfl, ?_, (h3.cell 18).trans rfl, h3.free 18, h3.ltB⟩
  have := h.putR hr hF hbl hb (p := some ⟨u.heap.size, 0, none⟩) (s := m.reads ++ [(c, x)]) (c := c') (.inr ⟨_, rfl, hu.size⟩) (fun y hy => by simp [fpR] at hy; omega) e3 (by simpa using e2)
  rw [show (m.reads ++ [(c, x)]).length = m.reads.length + 1 by simp] at this
  exact this
end
end Go.Proofs.YteinilmecnlanaaGreatDoor
