/- stage 19 (asm): rows of things, a map of ints, the program's builder in memory -/
import Derived.Test.YtaliehikdidiaaaDoorN1
import Derived.Test.YtaliehikdidiaaaDoorY1
import Derived.Test.YtaliehikdidiaaaDoorC5
import Derived.Maps.RangeWalk
import Derived.Deep.AppendSrc
namespace Go.Proofs.YtaliehikdidiaaaDoor.As
open Go.ChangeShapes Go.WideShapes Go.ChangeAt Go.RowKit Num Go.Maps
open Go.ChangeMaps Go.MapKept

/-! append, whatever it comes to -/
section
variable {P : Program} {w : World}
theorem wp_append_ex {o : Oper} {a : Act} {K : Act → World → Prop} {Q : Exit → Act → World → Prop} (s x : Operand) (t tx : TypeId)
    (ho : o.op = .call { callee := .builtin .append, args := #[s, x], argTypes := #[t, tx] }) (vs vx : Value) (hs : a.eval s = vs) (hx : a.eval x = vx) {R : Value → World → Prop}
    (hr : ∃ v w', (Builtin.append_ #[t, tx] o.type #[vs, vx]).run P w = .ok v w' ∧ R v w') (h : ∀ v w', R v w' → K (a.put o.dst v) w') : o.wp P a w K Q := by
  obtain ⟨v, w', hr, hR⟩ := hr
  unfold Oper.wp execOp
  simp only [ho, resolve, invoke, builtin, Sem.run_bind, Sem.run_pure, Result.andThen_ok, List.map_toArray, List.map_cons, List.map_nil, hs, hx, hr]
  exact h v w' hR
theorem wpList_append_ex {ops : Array Oper} {rest : List Oper} {o : Oper} {a : Act} {Q : Exit → Act → World → Prop} (hgd : o.guard = none) (s x : Operand) (t tx : TypeId)
    (ho : o.op = .call { callee := .builtin .append, args := #[s, x], argTypes := #[t, tx] }) (vs vx : Value) (hs : a.eval s = vs) (hx : a.eval x = vx) {R : Value → World → Prop}
    (hr : ∃ v w', (Builtin.append_ #[t, tx] o.type #[vs, vx]).run P w = .ok v w' ∧ R v w') (h : ∀ v w', R v w' → wpList P ops Q rest (a.put o.dst v) w') : wpList P ops Q (o :: rest) a w :=
  wpList_plain hgd fun _ hK => wp_append_ex s x t tx ho vs vx hs hx hr fun v w' hR => hK _ _ (h v w' hR)
end

/-! rows -/
structure RowW (E : TypeId) (sz : Nat) (w : World) (p : Option Addr) (c n : Nat) (xs : List Value) : Prop where
  own : w.ownsRow 0 E sz (.slice p n c) n xs
section
variable {E : TypeId} {sz : Nat} {w w' : World} {p : Option Addr} {c n : Nat} {xs : List Value}
theorem RowW.len (h : RowW E sz w p c n xs) : xs.length = n * sz := h.own.1
theorem RowW.blk (h : RowW E sz w p c n xs) {k : Nat} (hk : k ∈ fpR p) : ∃ arr, w.heap[k]? = some (.cells arr E (0, 0)) := by
  rcases h.own.2 with ⟨q, _⟩ | ⟨g, cap, cur, hv, hb, hg, rest⟩
  · cases q; simp [fpR] at hk
  · cases hv
    obtain rfl : k = g := by simpa [fpR] using hk
    exact ⟨_, hg⟩
theorem RowW.blw (h : RowW E sz w p c n xs) : Blw w (fpR p) := fun k hk => by obtain ⟨arr, e⟩ := h.blk hk; exact lt_of_block e
theorem RowW.keep (h : RowW E sz w p c n xs) (k : Kept (fpR p) w w') : RowW E sz w' p c n xs := by
  refine ⟨h.own.1, ?_⟩
  rcases h.own.2 with q | ⟨g, cap, cur, hv, hb, hg, rest⟩
  · exact .inl q
  · refine .inr ⟨g, cap, cur, hv, hb, ?_, rest⟩
    rw [k.2 g (own_fpR.2 (by rw [hv]; rfl))]
    exact hg
theorem rowW_nil (E : TypeId) (sz : Nat) (w : World) : RowW E sz w none 0 0 [] := ⟨World.ownsRow_nil _ _ _ _⟩
theorem RowW.at (h : RowW E sz w p c n xs) (h0 : 0 < n) : ∃ g, p = some ⟨g, 0, none⟩ ∧ g < w.heap.size ∧ n ≤ c ∧ c ≤ maxLen ∧ (∀ j, j < n * sz → w.cell? ⟨g, j, none⟩ = xs[j]?) ∧ ∀ j, w.frozen? ⟨g, j, none⟩ = false := by
  rcases h.own.2 with ⟨_, q⟩ | ⟨g, cap, cur, hv, _, hg, hc, hm, hs, ht⟩
  · omega
  · cases hv
    refine ⟨g, rfl, lt_of_block hg, hc, hm, fun j hj => ?_, fun j => frozen_of_row w g j _ _ hg⟩
    rw [cell_of_row w g j _ _ _ hg]
    have h1 : cur.toList[j]? = (cur.toList.take (n * sz))[j]? := by rw [List.getElem?_take, if_pos hj]
    rw [ht] at h1
    simpa using h1
theorem RowW.room (h : RowW E sz w p c n xs) : (p = none ∧ n = 0 ∧ c = 0) ∨ ∃ g arr, p = some ⟨g, 0, none⟩ ∧ w.heap[g]? = some (.cells arr E (0, 0)) ∧ arr.size = c * sz ∧ n ≤ c ∧ c ≤ maxLen := by
  rcases h.own.2 with ⟨q, hn⟩ | ⟨g, cap, cur, hv, _, hg, hc, hm, hs, ht⟩
  · cases q; exact .inl ⟨rfl, hn, rfl⟩
  · cases hv; exact .inr ⟨g, cur, rfl, hg, hs, hc, hm⟩
theorem RowW.app (h : RowW E sz w p c n xs) {t : TypeId} {z : Value} {bytes : Nat} (ht : Tryd.prog.underlying t = some (.slice E)) (hI : (Tryd.prog.info? E).map (fun i => (i.zero, i.size, i.bytes)) = some (some z, sz, bytes)) (hzs : z.cells.size = sz) (hsz : 0 < sz)
    {gx : Nat} {arr : Array Value} (hx : w.heap[gx]? = some (.cells arr E (0, 0))) (ha : arr.size = sz) (h1 : ∀ u ∈ arr.toList, u.oneCell' = true) (h63 : n + 1 ≤ maxLen) (hb : (n + 1) * bytes ≤ 140737488355328) (ty : TypeId) :
    ∃ v w', (Builtin.append_ #[t, t] ty #[.slice p n c, .slice (some ⟨gx, 0, none⟩) 1 1]).run Tryd.prog w = .ok v w' ∧ ∃ g c', v = .slice (some ⟨g, 0, none⟩) (n + 1) c' ∧ RowW E sz w' (some ⟨g, 0, none⟩) c' (n + 1) (xs ++ arr.toList) ∧ Turn (fpR p) [g] w w' := by
  obtain ⟨i, hi, hz0, hz1, hz2⟩ := info_parts hI
  obtain ⟨v, w', h1, h2, h3, h4, h5⟩ := run_append_own_at (P := Tryd.prog) (w := w) 0 t ty E i z sz bytes ht hi hz0 hz1 hz2 hzs hsz (.slice p n c) n xs h.own ⟨gx, 0, none⟩ 1 1 arr.toList (by rw [Array.length_toList, ha, Nat.one_mul]) (fun j u hu => by
    rw [Go.WideShapes.add_plain, cell_of_row _ _ _ _ _ _ hx, Nat.zero_add]
    simpa using hu) h1 h63 hb (Nat.zero_le _)
  rcases h2.2 with ⟨_, q⟩ | ⟨g, cap, cur, hv, hrest⟩
  · omega
  · refine ⟨v, w', h1, g, cap, hv, ⟨by rw [hv] at h2; exact h2⟩, ⟨h3.os, h3.tape, h3.output, h3.size, fun k hk hn => h3.block k hk fun q => hn (own_fpR.2 q.symm), fun k hk => ?_⟩⟩
    obtain rfl : k = g := by simpa using hk
    rcases h5 with q | q
    · exact .inl (own_fpR.2 (by rw [← q, hv]; rfl))
    · right
      rw [hv] at q
      have := Option.some.inj q
      show w.heap.size ≤ k
      exact Nat.le_of_eq this.symm
end
theorem Turn.widen {F F' A A' : List Nat} {w w' : World} (h : Turn F F' w w') (hF : ∀ k, k ∈ F → k ∈ A) (hA : ∀ k, k ∈ A' → k ∈ A ∨ w.heap.size ≤ k) : Turn A A' w w' :=
  ⟨h.os, h.tape, h.output, h.size, fun k hk hn => h.block k hk fun q => hn (hF k q), hA⟩
theorem turn_alloc (F : List Nat) (w : World) (o : Obj) : Turn F F w (w.alloc o) := ⟨rfl, rfl, rfl, by simp, fun _ hk _ => Below.heap_alloc _ _ _ hk, fun _ h => .inl h⟩
theorem turn_set (b i : Nat) (v : Value) (w : World) : Turn [b] [b] w (w.setCell ⟨b, i, none⟩ v) := ⟨rfl, rfl, rfl, by simp, fun k _ hn => heap_setCell_other _ _ _ _ (by simpa using hn), fun _ h => .inl h⟩
theorem below_turn {F : List Nat} {w w' : World} (h : Below w.heap.size w w') : Turn F F w w' := ⟨h.os, h.tape, h.output, h.size, fun k hk _ => h.block k hk, fun _ q => .inl q⟩
theorem grown_turn {w w' : World} {b : Nat} (h : w.grownBy w' (some b)) : Turn [b] [b] w w' := ⟨h.os, h.tape, h.output, h.size, fun k hk hn => h.block k hk (by simpa using hn), fun _ q => .inl q⟩
theorem ne_ty {w : World} {a b : Nat} {c d : Array Value} {S T : TypeId} {x y : Nat × Nat} (h : w.heap[a]? = some (.cells c S x)) (k : w.heap[b]? = some (.cells d T y)) (hne : (S == T) = false) : a ≠ b := by
  rintro rfl
  rw [h] at k
  cases k
  simp at hne
theorem ne_map {w : World} {a b : Nat} {c : Array Value} {S : TypeId} {x : Nat × Nat} {es : Array MapEntry} {k : Nat} (h : w.heap[a]? = some (.cells c S x)) (m : w.heap[b]? = some (.map es k)) : a ≠ b := by
  rintro rfl
  rw [h] at m
  cases m

/-! a map of ints -/
theorem keyI : Keyed Tryd.prog 3 := int_keyed Tryd.underlying3
theorem zeroI (w : World) : (zeroValue 3).run Tryd.prog w = .ok (.int .i64 0) w := by kernel_rfl
/-- how an int of a map reads -/
def iEl : Value → Option (DataW Unit × List MemPlace)
  | .int .i64 x => some (.lit (.int .i64 x), [])
  | _ => none
theorem iEl_is {v : Value} {y : DataW Unit × List MemPlace} (h : iEl v = some y) : ∃ x, v = .int .i64 x ∧ y = (.lit (.int .i64 x), []) := by
  unfold iEl at h
  split at h
  · exact ⟨_, rfl, (Option.some.inj h).symm⟩
  · cases h
theorem iElem_inv {v : Value} {x : Int} {ps : List MemPlace} (h : iEl v = some (.lit (.int .i64 x), ps)) : v = .int .i64 x := by
  obtain ⟨z, rfl, e⟩ := iEl_is h
  injection e with e _
  injection e with e
  injection e with _ e
  rw [e]
/-- block b is a map that holds where each label was marked last -/
def MapI (w : World) (b : Nat) (r : Mk) : Prop :=
  ∃ n, ∃ D : DataW Unit, w.ownsMap Tryd.prog 3 iEl b n D ∧ n ≤ r.length ∧ ∀ c, Wf c → Maps.has D (.int .i64 c) = hasM r c ∧ D.atKey (.int .i64 c) (.lit (.int .i64 0)) = .lit (.int .i64 (plN r c))
section
variable {w w' : World} {b : Nat} {r : Mk}
theorem MapI.lt (h : MapI w b r) : b < w.heap.size := by obtain ⟨n, D, h1, _⟩ := h; exact h1.lt
theorem MapI.keep (h : MapI w b r) (k : w'.heap[b]? = w.heap[b]?) : MapI w' b r := by
  obtain ⟨n, D, ⟨es, clock, hb, x⟩, h2⟩ := h
  exact ⟨n, D, ⟨es, clock, k.trans hb, x⟩, h2⟩
theorem MapI.is (h : MapI w b r) : ∃ es clock, w.heap[b]? = some (.map es clock) := by
  obtain ⟨n, D, ⟨es, clock, hb, x⟩, h2⟩ := h
  exact ⟨es, clock, hb⟩
theorem mapI_new (w : World) : MapI (w.alloc (.map #[] 0)) w.heap.size [] :=
  ⟨0, .map [], World.ownsMap_made w _ _ _, Nat.le_refl _, fun _ _ => ⟨rfl, rfl⟩⟩
theorem MapI.look (h : MapI w b r) {c : Int} (hc : Wf c) : (Instr.lookup 57 (.map (some b)) (.int .i64 c) true).run Tryd.prog w = .ok (.tuple #[.int .i64 (plN r c), .bool (hasM r c)]) w := by
  obtain ⟨n, D, h1, _, h3⟩ := h
  obtain ⟨v, ps, hrun, hv⟩ := h1.look_ok keyI Tryd.underlying57 (zeroI w) (zd := .lit (.int .i64 0)) (zp := []) rfl (keyOf_int_mk Tryd.underlying3 hc)
  rw [(h3 c hc).2] at hv
  rw [hrun, iElem_inv hv, (h3 c hc).1]
theorem lit_ne {c d : Int} (h : c ≠ d) : (Lit.int .i64 d) ≠ (Lit.int .i64 c) := fun e => h (by injection e with _ e2; exact e2.symm)
theorem MapI.lay (h : MapI w b r) {c : Int} (hc : Wf c) (y : Nat) (hn : r.length < maxLen) : ∃ w', (Instr.mapUpdate 57 (.map (some b)) (.int .i64 c) (.int .i64 y)).run Tryd.prog w = .ok () w' ∧ MapI w' b ((c, y) :: r) ∧ Turn [b] [b] w w' := by
  obtain ⟨n, D, h1, h2, h3⟩ := h
  have hk := keyOf_int_mk Tryd.underlying3 hc
  obtain ⟨w', hrun, ho, hg⟩ := h1.update keyI Tryd.underlying57 (by omega) hk (val := .int .i64 y) (d := .lit (.int .i64 y)) (ps := []) rfl
  refine ⟨w', hrun, ⟨_, _, ho, by simp; omega, fun d hd => ?_⟩, grown_turn hg⟩
  rw [hasM_cons, plN_cons]
  by_cases e : c = d
  · subst e
    rw [has_put_same h1.isMap (keyI.key hk), atKey_put_same h1.isMap (keyI.key hk)]
    simp
  · rw [has_put_other (lit_ne e), atKey_put_other (lit_ne e)]
    simp [e, h3 d hd]
end

/-! the builder -/
def insC (i : Ins) : List Value := [.int .i64 i.op, .int .i64 i.n, .float .f64 i.x]
def codC (c : List Ins) : List Value := c.flatMap insC
theorem codC_len (c : List Ins) : (codC c).length = c.length * 3 := by
  unfold codC
  induction c with
  | nil => rfl
  | cons i c ih => rw [List.flatMap_cons, List.length_append, ih]; simp [insC]; omega
theorem codC_one (c : List Ins) : ∀ u ∈ codC c, u.oneCell' = true := fun u hu => by
  obtain ⟨x, _, hx⟩ := List.mem_flatMap.1 hu
  simp [insC] at hx
  rcases hx with rfl | rfl | rfl <;> rfl
theorem codC_snoc (c : List Ins) (i : Ins) : codC (c ++ [i]) = codC c ++ (#[.int .i64 i.op, .int .i64 i.n, .float .f64 i.x] : Array Value).toList := by simp [codC, insC]
theorem codC_at (c : List Ins) : ∀ k, k < c.length → (codC c)[k * 3]? = some (.int .i64 (ci c k).op) ∧ (codC c)[k * 3 + 1]? = some (.int .i64 (ci c k).n) ∧ (codC c)[k * 3 + 2]? = some (.float .f64 (ci c k).x) := by
  induction c with
  | nil => intro k h; exact absurd h (Nat.not_lt_zero k)
  | cons i c ih =>
    intro k h
    have e0 : codC (i :: c) = insC i ++ codC c := rfl
    cases k with
    | zero => simp [e0, insC, ci]
    | succ k =>
      have q := ih k (by simpa using h)
      have el : (insC i).length = 3 := rfl
      have ec : ci (i :: c) (k + 1) = ci c k := by simp [ci]
      have g : ∀ j, (codC (i :: c))[(k + 1) * 3 + j]? = (codC c)[k * 3 + j]? := fun j => by
        rw [e0, show (k + 1) * 3 + j = (insC i).length + (k * 3 + j) by rw [el]; omega, List.getElem?_append_right (Nat.le_add_right _ _), Nat.add_sub_cancel_left]
      rw [ec]
      exact ⟨(g 0).trans q.1, (g 1).trans q.2.1, (g 2).trans q.2.2⟩
theorem RowW.code {w : World} {p : Option Addr} {c : Nat} {l : List Ins} {n : Nat} (hn : l.length = n) (h : RowW 63 3 w p c n (codC l)) : CodeAt w p l := fun k hk => by
  subst hn
  obtain ⟨g, e, hg, _, _, hc, _⟩ := h.at (by omega)
  obtain ⟨c0, c1, c2⟩ := codC_at l k hk
  refine ⟨g, 0, e, hg, ?_, ?_, ?_⟩
  · rw [Nat.zero_add, hc _ (by omega)]; exact c0
  · rw [Nat.zero_add, hc _ (by omega)]; exact c1
  · rw [Nat.zero_add, hc _ (by omega)]; exact c2
/-- where its parts lie -/
structure Bv where
  pi : Option Addr
  ci : Nat
  bm : Nat
  pL : Option Addr
  cL : Nat
  R : List Nat
def fpB (b : Nat) (v : Bv) : List Nat := b :: v.bm :: (fpR v.pi ++ (fpR v.pL ++ v.R))
/-- blocks that are read alone: what the closures have captured -/
def Caps (w : World) (R : List Nat) : Prop := ∀ k, k ∈ R → ∃ arr T, w.heap[k]? = some (.cells arr T (0, 0)) ∧ (T = 3 ∨ T = 48)
def cloV (x y z : Nat) : Value := .func (.func 49) #[] #[.pointer (some ⟨x, 0, none⟩), .pointer (some ⟨y, 0, none⟩), .pointer (some ⟨z, 0, none⟩)]
def CloAt (w : World) (b : Nat) (R : List Nat) (t : Int × Nat) (u : Value) : Prop := ∃ x y z, u = cloV x y z ∧ x ∈ R ∧ y ∈ R ∧ z ∈ R ∧ w.heap[x]? = some (.cells #[.pointer (some ⟨b, 0, none⟩)] 48 (0, 0)) ∧ w.heap[y]? = some (.cells #[.int .i64 t.1] 3 (0, 0)) ∧ w.heap[z]? = some (.cells #[.int .i64 t.2] 3 (0, 0))
def boxA (s : Bs) (v : Bv) : Array Value := #[.int .i64 s.tag, .slice v.pi s.code.length v.ci, .int .i64 s.many, .map (some v.bm), .bool (twB s.marks), .slice v.pL s.lat.length v.cL]
structure BAt (w : World) (b : Nat) (s : Bs) (v : Bv) : Prop where
  box : w.heap[b]? = some (.cells (boxA s v) 60 (0, 0))
  ins : RowW 63 3 w v.pi v.ci s.code.length (codC (s.code.map fixI))
  map : MapI w v.bm s.marks
  lat : ∃ vs, RowW 72 1 w v.pL v.cL s.lat.length vs ∧ ∀ j, j < s.lat.length → ∃ u, vs[j]? = some u ∧ CloAt w b v.R (s.lat.getD j (0, 0)) u
  caps : Caps w v.R
  ok : Ok s
def Bld (w : World) (b : Nat) (F : List Nat) (s : Bs) : Prop := ∃ v, BAt w b s v ∧ F = fpB b v
section
variable {w w' : World} {b : Nat} {s : Bs} {v : Bv} {F : List Nat}
theorem mem_fpB {k : Nat} : k ∈ fpB b v ↔ k = b ∨ k = v.bm ∨ k ∈ fpR v.pi ∨ k ∈ fpR v.pL ∨ k ∈ v.R := by simp [fpB]
theorem Caps.keep {R : List Nat} (h : Caps w R) (k : Kept R w w') : Caps w' R := fun i hi => by
  obtain ⟨arr, T, e, q⟩ := h i hi
  exact ⟨arr, T, (k.2 i hi).trans e, q⟩
theorem CloAt.keep {R : List Nat} {t : Int × Nat} {u : Value} (h : CloAt w b R t u) (k : Kept R w w') : CloAt w' b R t u := by
  obtain ⟨x, y, z, e, h1, h2, h3, h4, h5, h6⟩ := h
  exact ⟨x, y, z, e, h1, h2, h3, (k.2 _ h1).trans h4, (k.2 _ h2).trans h5, (k.2 _ h3).trans h6⟩
theorem BAt.blw (h : BAt w b s v) : Blw w (fpB b v) := fun k hk => by
  rcases mem_fpB.1 hk with rfl | rfl | q | q | q
  · exact lt_of_block h.box
  · exact h.map.lt
  · exact h.ins.blw k q
  · obtain ⟨vs, h1, _⟩ := h.lat; exact h1.blw k q
  · obtain ⟨arr, T, e, _⟩ := h.caps k q; exact lt_of_block e
theorem kept_sub {F G : List Nat} (k : Kept F w w') (h : ∀ i, i ∈ G → i ∈ F) : Kept G w w' := ⟨k.1, fun i hi => k.2 i (h i hi)⟩
theorem BAt.keep (h : BAt w b s v) (k : Kept (fpB b v) w w') : BAt w' b s v := by
  have kR : Kept v.R w w' := kept_sub k fun i hi => mem_fpB.2 (.inr (.inr (.inr (.inr hi))))
  refine ⟨(k.2 b (mem_fpB.2 (.inl rfl))).trans h.box, h.ins.keep (kept_sub k fun i hi => mem_fpB.2 (.inr (.inr (.inl hi)))), h.map.keep (k.2 _ (mem_fpB.2 (.inr (.inl rfl)))), ?_, h.caps.keep kR, h.ok⟩
  obtain ⟨vs, h1, h2⟩ := h.lat
  refine ⟨vs, h1.keep (kept_sub k fun i hi => mem_fpB.2 (.inr (.inr (.inr (.inl hi))))), fun j hj => ?_⟩
  obtain ⟨u, e, q⟩ := h2 j hj
  exact ⟨u, e, q.keep kR⟩
theorem BAt.cells (h : BAt w b s v) : b < w.heap.size ∧ w.cell? ⟨b, 0, none⟩ = some (.int .i64 s.tag) ∧ w.cell? ⟨b, 1, none⟩ = some (.slice v.pi s.code.length v.ci) ∧ w.cell? ⟨b, 2, none⟩ = some (.int .i64 s.many) ∧ w.cell? ⟨b, 3, none⟩ = some (.map (some v.bm)) ∧ w.cell? ⟨b, 4, none⟩ = some (.bool (twB s.marks)) ∧ w.cell? ⟨b, 5, none⟩ = some (.slice v.pL s.lat.length v.cL) ∧ ∀ j, w.frozen? ⟨b, j, none⟩ = false := by
  have c : ∀ j, w.cell? ⟨b, j, none⟩ = (boxA s v)[j]? := fun j => cell_of_row w b j _ _ _ h.box
  exact ⟨lt_of_block h.box, c 0, c 1, c 2, c 3, c 4, c 5, fun j => frozen_of_row w b j _ _ h.box⟩
theorem Bld.blw (h : Bld w b F s) : Blw w F := by obtain ⟨v, h, rfl⟩ := h; exact h.blw
theorem Bld.keep (h : Bld w b F s) (k : Kept F w w') : Bld w' b F s := by obtain ⟨v, h, rfl⟩ := h; exact ⟨v, h.keep k, rfl⟩
theorem Bld.on (h : Bld w b F s) (k : Below w.heap.size w w') : Bld w' b F s := h.keep (kept_below k h.blw)
theorem Bld.turn {G G' : List Nat} (h : Bld w b F s) (k : Turn G G' w w') (q : Sep F G) : Bld w' b F s := h.keep (k.kept q h.blw)
theorem Bld.ok (h : Bld w b F s) : Ok s := by obtain ⟨v, h, _⟩ := h; exact h.ok
/-- its parts are apart -/
theorem BAt.apart (h : BAt w b s v) : b ≠ v.bm ∧ b ∉ fpR v.pi ∧ b ∉ fpR v.pL ∧ b ∉ v.R ∧ v.bm ∉ fpR v.pi ∧ v.bm ∉ fpR v.pL ∧ v.bm ∉ v.R ∧ Sep (fpR v.pi) (fpR v.pL) ∧ Sep (fpR v.pi) v.R ∧ Sep (fpR v.pL) v.R := by
  obtain ⟨es, ck, hm⟩ := h.map.is
  obtain ⟨vs, hl, _⟩ := h.lat
  have cT : ∀ k ∈ v.R, ∃ arr T, w.heap[k]? = some (.cells arr T (0, 0)) ∧ (60 == T) = false ∧ (63 == T) = false ∧ (72 == T) = false := fun k hk => by
    obtain ⟨arr, T, e, q⟩ := h.caps k hk
    refine ⟨arr, T, e, ?_⟩
    rcases q with rfl | rfl <;> exact ⟨by decide, by decide, by decide⟩
  refine ⟨ne_map h.box hm, fun q => ?_, fun q => ?_, fun q => ?_, fun q => ?_, fun q => ?_, fun q => ?_, fun k a q => ?_, fun k a q => ?_, fun k a q => ?_⟩
  · obtain ⟨arr, e⟩ := h.ins.blk q; exact ne_ty h.box e (by decide) rfl
  · obtain ⟨arr, e⟩ := hl.blk q; exact ne_ty h.box e (by decide) rfl
  · obtain ⟨arr, T, e, x, _⟩ := cT _ q; exact ne_ty h.box e x rfl
  · obtain ⟨arr, e⟩ := h.ins.blk q; exact ne_map e hm rfl
  · obtain ⟨arr, e⟩ := hl.blk q; exact ne_map e hm rfl
  · obtain ⟨arr, T, e, _⟩ := cT _ q; exact ne_map e hm rfl
  · obtain ⟨arr, e⟩ := h.ins.blk a; obtain ⟨arr2, e2⟩ := hl.blk q; exact ne_ty e e2 (by decide) rfl
  · obtain ⟨arr, e⟩ := h.ins.blk a; obtain ⟨arr2, T, e2, _, x, _⟩ := cT _ q; exact ne_ty e e2 x rfl
  · obtain ⟨arr, e⟩ := hl.blk a; obtain ⟨arr2, T, e2, _, _, x⟩ := cT _ q; exact ne_ty e e2 x rfl
end
end Go.Proofs.YtaliehikdidiaaaDoor.As
