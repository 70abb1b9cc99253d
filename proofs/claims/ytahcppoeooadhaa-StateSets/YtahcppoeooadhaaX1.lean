import Derived.Test.YtahcppoeooadhaaS1
import Derived.Test.YtahcppoeooadhaaWalkB
import Derived.Deep.RegionHeld
import Derived.Deep.AppendLies
namespace Go.Proofs.Ytahcppoeooadhaa
open Go.ChangeShapes Go.WideShapes Go.ChangeAt Go.RowKit Num

theorem run_store_float (a : Addr) (m : Mode) (k : FloatKind) (b : Nat) (w : World) : (store a (.float k b) m).run Try.prog w = stored Try.prog w a (.float k b) m := run_store Try.prog w a _ m rfl
def fls (l : List Nat) : List Value := l.map (Value.float .f64)
theorem fls_len (l : List Nat) : (fls l).length = l.length := by unfold fls; rw [List.length_map]
theorem fls_snoc (l : List Nat) (x : Nat) : fls (l ++ [x]) = fls l ++ [.float .f64 x] := by simp [fls]
theorem fls_at (l : List Nat) (j : Nat) (h : j < (fls l).length) (h' : j < l.length) : (fls l)[j] = .float .f64 l[j] := by simp [fls]
theorem fls_set (l : List Nat) (j : Nat) (x : Nat) : (fls l).set j (.float .f64 x) = fls (l.set j x) := by simp [fls, List.map_set]
theorem fInfo : (Try.prog.info? 44).map (fun i => (i.zero, i.size, i.bytes)) = some (some (.float .f64 0), 1, 8) := by kernel_rfl
theorem Below.turn {w w' : World} (k : Below w.heap.size w w') (F : List Nat) : Turn F F w w' := ⟨k.os, k.tape, k.output, k.size, fun i hi _ => k.block i hi, fun _ h => .inl h⟩
theorem below_alloc (w : World) (x : Obj) : Below w.heap.size w (w.alloc x) := (Below.refl _ _).alloc (Nat.le_refl _) x
theorem turn_chain {W w w' : World} {F F' : List Nat} (h : Below W.heap.size W w) (k : Turn F F' w w') (a : Abv W.heap.size F) : Below W.heap.size W w' := h.trans (k.below a h.size)
theorem grown_turn {w w' : World} {g : Nat} (h : w.grownBy w' (some g)) : Turn [g] [g] w w' :=
  ⟨h.os, h.tape, h.output, h.size, fun k hk hn => h.block k hk (by simp at hn ⊢; omega), fun k hk => .inl hk⟩
theorem RowAt.on {E : TypeId} {w w' : World} {p : Option Addr} {c : Nat} {xs : List Value} (h : RowAt E w p c xs) (k : Below w.heap.size w w') : RowAt E w' p c xs := h.keep (kept_below k h.blw)
theorem RowAt.turn {E : TypeId} {w w' : World} {p : Option Addr} {c : Nat} {xs : List Value} {G G' : List Nat} (h : RowAt E w p c xs) (k : Turn G G' w w') (s : Sep (fpR p) G) : RowAt E w' p c xs := h.keep (k.kept s h.blw)
theorem row_store {E : TypeId} {w : World} {g c : Nat} {xs : List Value} (h : RowAt E w (some ⟨g, 0, none⟩) c xs) (i : Nat) (z : Value) : RowAt E (w.setCell ⟨g, i, none⟩ z) (some ⟨g, 0, none⟩) c (xs.set i z) ∧ Turn [g] [g] w (w.setCell ⟨g, i, none⟩ z) := by
  obtain ⟨hs, hg⟩ := h.own.stored i z
  exact ⟨⟨by rw [List.length_set]; exact hs⟩, grown_turn hg⟩
/-- a number of a row, wherever it lies -/
theorem row_num {w : World} {p : Option Addr} {c : Nat} {l : List Nat} (h : RowAt 44 w p c (fls l)) (i : Nat) (hi : i < l.length) : ∃ g, p = some ⟨g, 0, none⟩ ∧ g < w.heap.size ∧ w.cell? ⟨g, i, none⟩ = some (.float .f64 l[i]) ∧ w.frozen? ⟨g, i, none⟩ = false := by
  have ho := h.own
  rw [fls_len] at ho
  rcases ho.2 with ⟨_, q⟩ | ⟨g, cap, cur, hv, _, hg, _⟩
  · omega
  · cases hv
    refine ⟨g, rfl, lt_of_block hg, ?_, frozen_of_row w g i _ _ hg⟩
    rw [ho.cellAt i (by omega)]
    simp [fls, hi]
/-- a state (T its type): b the block of its field, p where its numbers lie -/
structure CelAt (T : TypeId) (w : World) (b : Nat) (p : Option Addr) (c : Nat) (l : List Nat) : Prop where
  box : w.heap[b]? = some (.cells #[.slice p l.length c] T (0, 0))
  row : RowAt 44 w p c (fls l)
  ne : b ∉ fpR p
  many : l.length ≤ 256
def Cel (T : TypeId) (w : World) (b : Nat) (F : List Nat) (l : List Nat) : Prop := ∃ p c, CelAt T w b p c l ∧ F = b :: fpR p
section
variable {T : TypeId} {w w' : World} {b c : Nat} {p : Option Addr} {l : List Nat} {F : List Nat}
theorem CelAt.ltB (h : CelAt T w b p c l) : b < w.heap.size := lt_of_block h.box
theorem CelAt.cell0 (h : CelAt T w b p c l) : w.cell? ⟨b, 0, none⟩ = some (.slice p l.length c) := by rw [cell_of_row w b 0 _ _ _ h.box]; rfl
theorem CelAt.free (h : CelAt T w b p c l) (j : Nat) : w.frozen? ⟨b, j, none⟩ = false := frozen_of_row w b j _ _ h.box
theorem CelAt.blw (h : CelAt T w b p c l) : Blw w (b :: fpR p) := fun k hk => by
  rcases List.mem_cons.1 hk with rfl | q
  · exact h.ltB
  · exact h.row.blw k q
theorem CelAt.keep (h : CelAt T w b p c l) (k : Kept (b :: fpR p) w w') : CelAt T w' b p c l :=
  ⟨(k.2 b (List.mem_cons_self ..)).trans h.box, h.row.keep ⟨k.1, fun i hi => k.2 i (List.mem_cons_of_mem _ hi)⟩, h.ne, h.many⟩
theorem CelAt.on (h : CelAt T w b p c l) (k : Below w.heap.size w w') : CelAt T w' b p c l := h.keep (kept_below k h.blw)
theorem CelAt.same (h : CelAt T w b p c l) (k : Same w w') : CelAt T w' b p c l := h.keep (k.kept _)
theorem CelAt.cel (h : CelAt T w b p c l) : Cel T w b (b :: fpR p) l := ⟨p, c, h, rfl⟩
theorem Cel.blw (h : Cel T w b F l) : Blw w F := by obtain ⟨p, c, hs, rfl⟩ := h; exact hs.blw
theorem Cel.keep (h : Cel T w b F l) (k : Kept F w w') : Cel T w' b F l := by
  obtain ⟨p, c, hs, rfl⟩ := h
  exact ⟨p, c, hs.keep k, rfl⟩
theorem Cel.same (h : Cel T w b F l) (k : Same w w') : Cel T w' b F l := h.keep (k.kept F)
theorem Cel.on (h : Cel T w b F l) (k : Below w.heap.size w w') : Cel T w' b F l := h.keep (kept_below k h.blw)
theorem Cel.turn {G G' : List Nat} (h : Cel T w b F l) (k : Turn G G' w w') (s : Sep F G) : Cel T w' b F l := h.keep (k.kept s h.blw)
theorem Cel.alloc (h : Cel T w b F l) (x : Obj) : Cel T (w.alloc x) b F l := h.on (below_alloc _ x)
theorem Cel.many (h : Cel T w b F l) : l.length ≤ 256 := by obtain ⟨p, c, hs, rfl⟩ := h; exact hs.many
theorem Cel.hasB (h : Cel T w b F l) : b ∈ F := by obtain ⟨p, c, hs, rfl⟩ := h; exact List.mem_cons_self ..
/-- a number is laid -/
theorem CelAt.lay {g : Nat} (h : CelAt T w b (some ⟨g, 0, none⟩) c l) (i x : Nat) : CelAt T (w.setCell ⟨g, i, none⟩ (.float .f64 x)) b (some ⟨g, 0, none⟩) c (l.set i x) ∧ Turn [b, g] [b, g] w (w.setCell ⟨g, i, none⟩ (.float .f64 x)) := by
  have hne : b ≠ g := fun z => h.ne (by simp [fpR, z])
  have q := row_store h.row i (.float .f64 x)
  rw [fls_set] at q
  refine ⟨⟨?_, q.1, h.ne, by rw [List.length_set]; exact h.many⟩, ?_⟩
  · rw [heap_setCell_other _ _ _ _ hne, List.length_set]
    exact h.box
  · exact ⟨q.2.os, q.2.tape, q.2.output, q.2.size, fun k hk hn => q.2.block k hk (fun z => hn (by simp at z ⊢; exact .inr z)), fun k hk => .inl hk⟩
end
/-- a state made about a row -/
theorem cel_about {T : TypeId} {w1 w2 : World} {c B : Nat} {p : Option Addr} {l : List Nat} (hr : RowAt 44 w1 p c (fls l)) (ha : Abv B (fpR p)) (hB : B ≤ w1.heap.size) (hm : l.length ≤ 256) (h2 : w2.heap = (w1.alloc (.cells #[.slice p l.length c] T)).heap) :
    CelAt T w2 w1.heap.size p c l ∧ Abv B (w1.heap.size :: fpR p) := by
  refine ⟨⟨by rw [h2]; exact heap_alloc_new _ _, hr.keep ⟨by rw [h2]; simp, fun k hk => by rw [h2]; exact Below.heap_alloc _ _ _ (hr.blw k hk)⟩, fun q => absurd (hr.blw _ q) (Nat.lt_irrefl _), hm⟩, fun k hk => ?_⟩
  rcases List.mem_cons.1 hk with rfl | q
  · exact hB
  · exact ha k q
/-- is there such a cell -/
def hasN (n : Nat) (i : Int) : Bool := decide (0 ≤ i) && decide (i < (n : Int))
theorem hasN_pos {n : Nat} {i : Int} (h : hasN n i = true) : ∃ k : Nat, i = k ∧ k < n := by
  unfold hasN at h
  simp at h
  exact ⟨i.toNat, by omega, by omega⟩
theorem hasN_nat {n k : Nat} : hasN n (k : Int) = decide (k < n) := by
  unfold hasN
  rw [Bool.eq_iff_iff]
  simp
def cellE (n : Nat) (i : Int) : Int := if hasN n i then 0 else 60
def getV (l : List Nat) (i : Int) : Nat := if hasN l.length i then l.getD i.toNat 0 else 0
def setL (l : List Nat) (i : Int) (x : Nat) : List Nat := if hasN l.length i then l.set i.toNat (fixB x) else l
theorem setL_len (l : List Nat) (i : Int) (x : Nat) : (setL l i x).length = l.length := by unfold setL; split <;> simp
def allB (n : Nat) (ts : List (Int × Nat)) : Bool := ts.all fun t => hasN n t.1
def foldL (l : List Nat) (ts : List (Int × Nat)) : List Nat := ts.foldl (fun l t => setL l t.1 t.2) l
theorem foldL_len (ts : List (Int × Nat)) : ∀ l, (foldL l ts).length = l.length := by
  induction ts with
  | nil => intro l; rfl
  | cons t ts ih => intro l; show (foldL (setL l t.1 t.2) ts).length = _; rw [ih, setL_len]
def applyE (n : Nat) (ts : List (Int × Nat)) : Int := if allB n ts then 0 else 60
def applyL (l : List Nat) (ts : List (Int × Nat)) : List Nat := if allB l.length ts then foldL l ts else l
/-- the same numbers -/
def sameB (l m : List Nat) : Bool := l.map fixB == m.map fixB
def mayN (n : Int) : Bool := decide (1 ≤ n) && decide (n ≤ 256)
/-- cells and numbers, wherever they lie -/
def TchAt (w : World) (p : Option Addr) (ts : List (Int × Nat)) : Prop :=
  ∀ i (h : i < ts.length), ∃ g, p = some ⟨g, 0, none⟩ ∧ g < w.heap.size ∧ w.cell? ⟨g, i * 2, none⟩ = some (.int .i64 ts[i].1) ∧ w.cell? ⟨g, i * 2 + 1, none⟩ = some (.float .f64 ts[i].2)
theorem TchAt.keep {w w' : World} {p : Option Addr} {ts : List (Int × Nat)} (h : TchAt w p ts) (k : Kept (fpR p) w w') : TchAt w' p ts := fun i hi => by
  obtain ⟨g, h1, h2, h3, h4⟩ := h i hi
  have q := k.2 g (by rw [h1]; simp [fpR])
  exact ⟨g, h1, Nat.lt_of_lt_of_le h2 k.1, (World.cell?_of_block (a := ⟨g, i * 2, none⟩) q).trans h3, (World.cell?_of_block (a := ⟨g, i * 2 + 1, none⟩) q).trans h4⟩
end Go.Proofs.Ytahcppoeooadhaa
