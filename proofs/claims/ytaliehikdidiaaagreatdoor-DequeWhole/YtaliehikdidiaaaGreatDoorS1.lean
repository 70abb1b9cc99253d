import Derived.Test.YtaliehikdidiaaaGreatDoorRows
import Derived.WalkKit
import Derived.ProofKit
import Derived.OpenShut
import Derived.WalkLawsBesides
import Derived.Laws.OwnMore
import Derived.OneCell
import Derived.Lib.Hide
import Derived.Lib.SliceRun
import Derived.WalkSmall
import Derived.BigQuiet
import Derived.Deep.RegionWith
import Derived.Deep.QuietTactic
import Derived.OwnWalk
import Derived.Maps.AppendAt
import Derived.Laws.CopyRow
namespace Go.Proofs.YtaliehikdidiaaaGreatDoor
open Go.ChangeShapes Go.WideShapes Go.ChangeAt Go.RowKit

/-- the memory is as it was -/
structure Same (w w' : World) : Prop where
  os : w'.os = w.os
  tape : w'.tape = w.tape
  output : w'.output = w.output
  heap : w'.heap = w.heap
theorem Same.refl (w : World) : Same w w := ⟨rfl, rfl, rfl, rfl⟩
theorem Same.drew (w : World) : Same w w.drew := ⟨rfl, rfl, rfl, rfl⟩
theorem Same.drewN (w : World) (k : Nat) : Same w (w.drewN k) := ⟨rfl, rfl, rfl, rfl⟩
theorem Same.trans {a b c : World} (h : Same a b) (k : Same b c) : Same a c := ⟨k.os.trans h.os, k.tape.trans h.tape, k.output.trans h.output, k.heap.trans h.heap⟩
theorem Same.below {w w' : World} (h : Same w w') (B : Nat) : Below B w w' := ⟨h.os, h.tape, h.output, by rw [h.heap]; exact Nat.le_refl _, fun k _ => by rw [h.heap]⟩
/-- of the blocks of F alone something may have turned; F' are the old ones of F or new ones -/
structure Turn (F F' : List Nat) (w w' : World) : Prop where
  os : w'.os = w.os
  tape : w'.tape = w.tape
  output : w'.output = w.output
  size : w.heap.size ≤ w'.heap.size
  block : ∀ k, k < w.heap.size → k ∉ F → w'.heap[k]? = w.heap[k]?
  own : ∀ k, k ∈ F' → k ∈ F ∨ w.heap.size ≤ k
theorem Turn.refl (F : List Nat) (w : World) : Turn F F w w := ⟨rfl, rfl, rfl, Nat.le_refl _, fun _ _ _ => rfl, fun _ h => .inl h⟩
theorem Turn.trans {F G H : List Nat} {a b c : World} (h : Turn F G a b) (k : Turn G H b c) : Turn F H a c :=
  ⟨k.os.trans h.os, k.tape.trans h.tape, k.output.trans h.output, Nat.le_trans h.size k.size,
   fun i hi hf => (k.block i (Nat.lt_of_lt_of_le hi h.size) (fun q => (h.own i q).elim hf (fun z => absurd hi (Nat.not_lt.2 z)))).trans (h.block i hi hf),
   fun i hi => (k.own i hi).elim (h.own i) (fun z => .inr (Nat.le_trans h.size z))⟩
theorem Same.turn {w w' : World} (h : Same w w') (F : List Nat) : Turn F F w w' := ⟨h.os, h.tape, h.output, by rw [h.heap]; exact Nat.le_refl _, fun k _ _ => by rw [h.heap], fun _ q => .inl q⟩
theorem Turn.mono {F F' G : List Nat} {w w' : World} (h : Turn F F' w w') (hg : ∀ k, k ∈ G → k ∈ F ∨ w.heap.size ≤ k) : Turn F G w w' := ⟨h.os, h.tape, h.output, h.size, h.block, hg⟩
def Sep (F G : List Nat) : Prop := ∀ k, k ∈ F → k ∉ G
def Abv (B : Nat) (F : List Nat) : Prop := ∀ k, k ∈ F → B ≤ k
def Blw (w : World) (F : List Nat) : Prop := ∀ k, k ∈ F → k < w.heap.size
theorem Sep.symm {F G : List Nat} (h : Sep F G) : Sep G F := fun k hk q => h k q hk
theorem Sep.turn {F G G' : List Nat} {w w' : World} (h : Sep F G) (hb : Blw w F) (k : Turn G G' w w') : Sep F G' := fun i hi q => (k.own i q).elim (h i hi) (fun z => absurd (hb i hi) (Nat.not_lt.2 z))
theorem Abv.turn {B : Nat} {F F' : List Nat} {w w' : World} (h : Abv B F) (hB : B ≤ w.heap.size) (k : Turn F F' w w') : Abv B F' := fun i hi => (k.own i hi).elim (h i) (Nat.le_trans hB)
theorem Turn.below {B : Nat} {F F' : List Nat} {w w' : World} (k : Turn F F' w w') (h : Abv B F) (hB : B ≤ w.heap.size) : Below B w w' :=
  ⟨k.os, k.tape, k.output, k.size, fun i hi => k.block i (by omega) (fun q => absurd (h i q) (by omega))⟩
theorem Abv.sep {F G : List Nat} {w : World} (h : Abv w.heap.size F) (k : Blw w G) : Sep F G := fun i hi q => absurd (h i hi) (Nat.not_le.2 (k i q))
theorem Abv.mono {B B' : Nat} {F : List Nat} (h : Abv B F) (k : B' ≤ B) : Abv B' F := fun i hi => Nat.le_trans k (h i hi)
theorem below_chain {a b c : World} (h : Below a.heap.size a b) (k : Below b.heap.size b c) : Below a.heap.size a c := h.trans (k.mono h.size)
/-- what stands in the blocks of F has been left -/
def Kept (F : List Nat) (w w' : World) : Prop := w.heap.size ≤ w'.heap.size ∧ ∀ k, k ∈ F → w'.heap[k]? = w.heap[k]?
theorem Turn.kept {F G G' : List Nat} {w w' : World} (k : Turn G G' w w') (h : Sep F G) (hb : Blw w F) : Kept F w w' := ⟨k.size, fun i hi => k.block i (hb i hi) (h i hi)⟩
theorem kept_below {F : List Nat} {w w' : World} (k : Below w.heap.size w w') (hb : Blw w F) : Kept F w w' := ⟨k.size, fun i hi => k.block i (hb i hi)⟩
theorem Same.kept {w w' : World} (h : Same w w') (F : List Nat) : Kept F w w' := ⟨by rw [h.heap]; exact Nat.le_refl _, fun i _ => by rw [h.heap]⟩

/-- the blocks of a slice of one's own -/
def fpR (p : Option Addr) : List Nat := (p.map (·.block)).toList
theorem mem_fpR {p : Option Addr} {k : Nat} : k ∈ fpR p ↔ ∃ a, p = some a ∧ a.block = k := by
  cases p <;> simp [fpR, eq_comm]
theorem own_fpR {p : Option Addr} {n c k : Nat} : k ∈ fpR p ↔ (Value.slice p n c).ownBlock = some k := by
  cases p <;> simp [fpR, Value.ownBlock, eq_comm]
/-- a list of one's own, of things of one cell -/
structure RowAt (E : TypeId) (w : World) (p : Option Addr) (c : Nat) (xs : List Value) : Prop where
  own : w.ownsRow 0 E 1 (.slice p xs.length c) xs.length xs
theorem RowAt.blw {E : TypeId} {w : World} {p : Option Addr} {c : Nat} {xs : List Value} (h : RowAt E w p c xs) : Blw w (fpR p) := fun k hk => (h.own.lt k (own_fpR.1 hk)).2
theorem RowAt.keep {E : TypeId} {w w' : World} {p : Option Addr} {c : Nat} {xs : List Value} (h : RowAt E w p c xs) (k : Kept (fpR p) w w') : RowAt E w' p c xs := by
  refine ⟨h.own.1, ?_⟩
  rcases h.own.2 with q | ⟨g, cap, cur, hv, hb, hg, rest⟩
  · exact .inl q
  · refine .inr ⟨g, cap, cur, hv, hb, ?_, rest⟩
    rw [k.2 g (own_fpR.2 (by rw [hv]; rfl))]
    exact hg
/-- a stack (T its type, E its things'): b the block of its fields, p where its things lie -/
structure StAt (T E : TypeId) (w : World) (b : Nat) (p : Option Addr) (c : Nat) (xs : List Value) (r : Int) : Prop where
  box : w.heap[b]? = some (.cells #[.slice p xs.length c, .int .i64 r] T (0, 0))
  row : RowAt E w p c xs
  ne : b ∉ fpR p
  fits : (xs.length : Int) ≤ r
  most : r ≤ 65536
def Stk (T E : TypeId) (w : World) (b : Nat) (F : List Nat) (xs : List Value) (r : Int) : Prop := ∃ p c, StAt T E w b p c xs r ∧ F = b :: fpR p
section
variable {T E : TypeId} {w w' : World} {b c : Nat} {p : Option Addr} {xs : List Value} {r : Int} {F : List Nat}
theorem StAt.ltB (h : StAt T E w b p c xs r) : b < w.heap.size := lt_of_block h.box
theorem StAt.cell0 (h : StAt T E w b p c xs r) : w.cell? ⟨b, 0, none⟩ = some (.slice p xs.length c) := by rw [cell_of_row w b 0 _ _ _ h.box]; rfl
theorem StAt.cell1 (h : StAt T E w b p c xs r) : w.cell? ⟨b, 1, none⟩ = some (.int .i64 r) := by rw [cell_of_row w b 1 _ _ _ h.box]; rfl
theorem StAt.alloc_box (h : StAt T E w b p c xs r) (k : Nat) (o : Obj) : ((w.drewN k).alloc o).heap[b]? = some (.cells #[.slice p xs.length c, .int .i64 r] T (0, 0)) := (Below.heap_alloc _ _ _ h.ltB).trans h.box
theorem StAt.free (h : StAt T E w b p c xs r) (j : Nat) : w.frozen? ⟨b, j, none⟩ = false := frozen_of_row w b j _ _ h.box
theorem StAt.blw (h : StAt T E w b p c xs r) : Blw w (b :: fpR p) := fun k hk => by
  rcases List.mem_cons.1 hk with rfl | q
  · exact h.ltB
  · exact h.row.blw k q
theorem StAt.keep (h : StAt T E w b p c xs r) (k : Kept (b :: fpR p) w w') : StAt T E w' b p c xs r :=
  ⟨(k.2 b (List.mem_cons_self ..)).trans h.box, h.row.keep ⟨k.1, fun i hi => k.2 i (List.mem_cons_of_mem _ hi)⟩, h.ne, h.fits, h.most⟩
theorem Stk.blw (h : Stk T E w b F xs r) : Blw w F := by obtain ⟨p, c, hs, rfl⟩ := h; exact hs.blw
theorem Stk.keep (h : Stk T E w b F xs r) (k : Kept F w w') : Stk T E w' b F xs r := by
  obtain ⟨p, c, hs, rfl⟩ := h
  exact ⟨p, c, hs.keep k, rfl⟩
theorem Stk.same (h : Stk T E w b F xs r) (k : Same w w') : Stk T E w' b F xs r := h.keep (k.kept F)
theorem Stk.on (h : Stk T E w b F xs r) (k : Below w.heap.size w w') : Stk T E w' b F xs r := h.keep (kept_below k h.blw)
theorem Stk.turn {G G' : List Nat} (h : Stk T E w b F xs r) (k : Turn G G' w w') (s : Sep F G) : Stk T E w' b F xs r := h.keep (k.kept s h.blw)
theorem Stk.alloc (h : Stk T E w b F xs r) (x : Obj) : Stk T E (w.alloc x) b F xs r := h.on ((Below.refl _ _).alloc (Nat.le_refl _) x)
theorem Stk.fits (h : Stk T E w b F xs r) : (xs.length : Int) ≤ r ∧ r ≤ 65536 := by obtain ⟨p, c, hs, rfl⟩ := h; exact ⟨hs.fits, hs.most⟩
theorem Stk.hasB (h : Stk T E w b F xs r) : b ∈ F := by obtain ⟨p, c, hs, rfl⟩ := h; exact List.mem_cons_self ..
/-- the things' slice is another one: a store into its field -/
theorem StAt.put {w2 : World} {p' : Option Addr} {c' : Nat} {xs' : List Value} (h : StAt T E w b p c xs r) (hr : RowAt E w2 p' c' xs') (g : w.grownBy w2 (Value.slice p xs.length c).ownBlock) (ho : ∀ k, k ∈ fpR p' → k ∈ fpR p ∨ w.heap.size ≤ k) (hf : (xs'.length : Int) ≤ r) :
    Stk T E (w2.setCell ⟨b, 0, none⟩ (.slice p' xs'.length c')) b (b :: fpR p') xs' r ∧ Turn (b :: fpR p) (b :: fpR p') w (w2.setCell ⟨b, 0, none⟩ (.slice p' xs'.length c')) := by
  have hbox : w2.heap[b]? = some (.cells #[.slice p xs.length c, .int .i64 r] T (0, 0)) := (g.block b h.ltB (fun q => h.ne (own_fpR.2 q.symm))).trans h.box
  have hne : b ∉ fpR p' := fun q => (ho b q).elim h.ne (fun z => absurd h.ltB (Nat.not_lt.2 z))
  refine ⟨⟨p', c', ⟨(heap_setCell_same w2 b 0 _ T _ hbox).trans rfl, hr.keep ⟨by simp, fun k hk => heap_setCell_other _ _ _ _ (by rintro rfl; exact hne hk)⟩, hne, hf, h.most⟩, rfl⟩, ?_⟩
  refine ⟨g.os, g.tape, g.output, by simpa using g.size, fun k hk hn => ?_, fun k hk => ?_⟩
  · rw [List.mem_cons, not_or] at hn
    exact (heap_setCell_other _ _ _ _ (by simpa using hn.1)).trans (g.block k hk (fun q => hn.2 (own_fpR.2 q.symm)))
  · rcases List.mem_cons.1 hk with rfl | q
    · exact .inl (List.mem_cons_self ..)
    · exact (ho k q).imp (List.mem_cons_of_mem _) id
/-- a new one -/
theorem stk_new (w : World) (T E : TypeId) (r : Int) (h0 : 0 ≤ r) (h1 : r ≤ 65536) : Stk T E (w.alloc (.cells #[.slice none 0 0, .int .i64 r] T)) w.heap.size [w.heap.size] [] r :=
  ⟨none, 0, ⟨heap_alloc_new _ _, ⟨World.ownsRow_nil _ _ _ _⟩, by simp [fpR], by simpa using h0, h1⟩, rfl⟩
end
theorem ownsRow_slice {w : World} {E : TypeId} {v : Value} {n : Nat} {xs : List Value} (h : w.ownsRow 0 E 1 v n xs) : ∃ p c, v = .slice p xs.length c ∧ RowAt E w p c xs := by
  have hn : xs.length = n := by simpa using h.1
  rcases h.2 with ⟨rfl, h0⟩ | ⟨g, cap, cur, rfl, _⟩
  · exact ⟨none, 0, by rw [hn, h0], ⟨by rw [hn, h0]; rw [h0] at h; exact h⟩⟩
  · exact ⟨some ⟨g, 0, none⟩, cap, by rw [hn], ⟨by rw [hn]; exact h⟩⟩
theorem ownsRow_based {w : World} {E : TypeId} {v : Value} {n B : Nat} {xs : List Value} (h : w.ownsRow B E 1 v n xs) : ∃ p c, v = .slice p xs.length c ∧ RowAt E w p c xs ∧ Abv B (fpR p) := by
  have h' : w.ownsRow 0 E 1 v n xs := ⟨h.1, h.2.imp id (fun ⟨g, cap, cur, a1, _, a3⟩ => ⟨g, cap, cur, a1, Nat.zero_le _, a3⟩)⟩
  obtain ⟨p, c, rfl, hr⟩ := ownsRow_slice h'
  exact ⟨p, c, rfl, hr, fun k hk => (h.lt k (own_fpR.1 hk)).1⟩
theorem own_at {p p' : Option Addr} {n c n' c' s B : Nat} (h : (Value.slice p' n' c').ownBlock = (Value.slice p n c).ownBlock ∨ (Value.slice p' n' c').ownBlock = some s) (hs : B ≤ s) : ∀ k, k ∈ fpR p' → k ∈ fpR p ∨ B ≤ k := by
  intro k hk
  have q := own_fpR (n := n') (c := c').1 hk
  rcases h with h | h
  · exact .inl (own_fpR.2 (h ▸ q))
  · rw [h] at q
    exact .inr (by have := Option.some.inj q; omega)
section
variable {T E : TypeId} {w : World} {b c : Nat} {p : Option Addr} {xs : List Value} {r : Int}
/-- a thing more: behind append, ahead of the store -/
theorem StAt.more {w3 : World} {v : Value} {x : Value} {o : Obj} (h : StAt T E w b p c xs r) (hown : w3.ownsRow 0 E 1 v (xs.length + 1) (xs ++ [x])) (hg : (w.alloc o).grownBy w3 (Value.slice p xs.length c).ownBlock) (hat : v.ownBlock = (Value.slice p xs.length c).ownBlock ∨ v.ownBlock = some (w.alloc o).heap.size) (hf : (xs.length : Int) < r) :
    ∃ p' c', v = .slice p' (xs.length + 1) c' ∧ Stk T E (w3.setCell ⟨b, 0, none⟩ (.slice p' (xs.length + 1) c')) b (b :: fpR p') (xs ++ [x]) r ∧ Turn (b :: fpR p) (b :: fpR p') w (w3.setCell ⟨b, 0, none⟩ (.slice p' (xs.length + 1) c')) := by
  obtain ⟨p', c', rfl, hr⟩ := ownsRow_slice hown
  have hl : (xs ++ [x]).length = xs.length + 1 := by simp
  have g : w.grownBy w3 (Value.slice p xs.length c).ownBlock := (World.grownBy_alloc w o _).trans hg
  have := h.put hr g (own_at hat (by simp)) (by rw [hl]; omega)
  rw [hl] at this
  exact ⟨p', c', by rw [hl], this⟩
/-- a thing less: the last one's cell is overwritten (or is not), ahead of the store -/
theorem StAt.less {g cap : Nat} {x : Value} (h : StAt T E w b (some ⟨g, 0, none⟩) cap (xs ++ [x]) r) (z : Value) :
    Stk T E ((w.setCell ⟨g, xs.length, none⟩ z).setCell ⟨b, 0, none⟩ (.slice (some ⟨g, 0, none⟩) xs.length cap)) b [b, g] xs r ∧ Turn [b, g] [b, g] w ((w.setCell ⟨g, xs.length, none⟩ z).setCell ⟨b, 0, none⟩ (.slice (some ⟨g, 0, none⟩) xs.length cap)) := by
  have hl : (xs ++ [x]).length = xs.length + 1 := by simp
  have hf := h.fits
  have ho := h.row.own
  rw [hl] at ho hf
  obtain ⟨hs, hg⟩ := ho.stored xs.length z
  have e : (xs ++ [x]).set xs.length z = xs ++ [z] := by simp
  rw [e] at hs
  have hp := ownsRow_pop (by simp) hs
  exact h.put (p' := some ⟨g, 0, none⟩) (c' := cap) ⟨hp⟩ hg (fun k hk => .inl hk) (by omega)
theorem StAt.less0 {g cap : Nat} {x : Value} (h : StAt T E w b (some ⟨g, 0, none⟩) cap (xs ++ [x]) r) :
    Stk T E (w.setCell ⟨b, 0, none⟩ (.slice (some ⟨g, 0, none⟩) xs.length cap)) b [b, g] xs r ∧ Turn [b, g] [b, g] w (w.setCell ⟨b, 0, none⟩ (.slice (some ⟨g, 0, none⟩) xs.length cap)) := by
  have hl : (xs ++ [x]).length = xs.length + 1 := by simp
  have hf := h.fits
  have ho := h.row.own
  rw [hl] at ho hf
  have hp := ownsRow_pop (by simp) ho
  exact h.put (p' := some ⟨g, 0, none⟩) (c' := cap) ⟨hp⟩ ⟨rfl, rfl, rfl, Nat.le_refl _, fun _ _ _ => rfl⟩ (fun k hk => .inl hk) (by omega)
/-- where the things lie -/
theorem StAt.some_at (h : StAt T E w b p c xs r) (hx : 0 < xs.length) : ∃ g, p = some ⟨g, 0, none⟩ ∧ g < w.heap.size ∧ xs.length ≤ c ∧ c ≤ maxLen ∧ (∀ j, j < c → (w.cell? ⟨g, j, none⟩).isSome = true) ∧ (∀ j, w.frozen? ⟨g, j, none⟩ = false) ∧ ∀ (j : Nat) (hj : j < xs.length), w.cell? ⟨g, j, none⟩ = some xs[j] := by
  rcases h.row.own.2 with ⟨_, q⟩ | ⟨g, cap, cur, hv, _, hg, hc, hm, hs, _⟩
  · omega
  · cases hv
    refine ⟨g, rfl, lt_of_block hg, hc, hm, fun j hj => ?_, fun j => frozen_of_row w g j _ _ hg, fun j hj => ?_⟩
    · rw [cell_of_row w g j _ _ _ hg]
      simp [hs, hj]
    · rw [h.row.own.cellAt j (by omega)]
      simp [hj]
theorem StAt.emptied (h : StAt T E w b p c xs r) (h0 : 0 ≤ r) : Stk T E (w.setCell ⟨b, 0, none⟩ (.slice none 0 0)) b [b] [] r ∧ Turn (b :: fpR p) [b] w (w.setCell ⟨b, 0, none⟩ (.slice none 0 0)) :=
  h.put (p' := none) (c' := 0) (xs' := []) ⟨World.ownsRow_nil _ _ _ _⟩ ⟨rfl, rfl, rfl, Nat.le_refl _, fun _ _ _ => rfl⟩ (fun k hk => by simp [fpR] at hk) (by simpa using h0)
end
/-- a stack made about a row -/
theorem stk_about {T E : TypeId} {w1 w2 : World} {c B : Nat} {p : Option Addr} {xs : List Value} {r : Int} (hr : RowAt E w1 p c xs) (ha : Abv B (fpR p)) (hB : B ≤ w1.heap.size) (hf : (xs.length : Int) ≤ r) (hm : r ≤ 65536) (h2 : w2.heap = (w1.alloc (.cells #[.slice p xs.length c, .int .i64 r] T)).heap) :
    Stk T E w2 w1.heap.size (w1.heap.size :: fpR p) xs r ∧ Abv B (w1.heap.size :: fpR p) := by
  refine ⟨⟨p, c, ⟨by rw [h2]; exact heap_alloc_new _ _, hr.keep ⟨by rw [h2]; simp, fun k hk => by rw [h2]; exact Below.heap_alloc _ _ _ (hr.blw k hk)⟩, fun q => absurd (hr.blw _ q) (Nat.lt_irrefl _), hf, hm⟩, rfl⟩, fun k hk => ?_⟩
  rcases List.mem_cons.1 hk with rfl | q
  · exact hB
  · exact ha k q
/-- what Pick tells, and its error -/
def inB (n : Nat) (i : Int) : Bool := decide (0 ≤ i ∧ i < (n : Int))
def pickV {α : Type} (d : α) (l : List α) (i : Int) : α := if inB l.length i then l.getD (l.length - 1 - i.toNat) d else d
def pickE {α : Type} (l : List α) (i : Int) : Int := if inB l.length i then 0 else 41
def pushE {α : Type} (l : List α) (r : Int) : Int := if (l.length : Int) < r then 0 else 40
def pushL {α : Type} (l : List α) (r : Int) (x : α) : List α := if (l.length : Int) < r then l ++ [x] else l
/-- the room that is had -/
def roomV (r : Int) : Int := if r < 0 then 0 else if 65536 < r then 65536 else r
def i64s (l : List Int) : List Value := l.map (Value.int .i64)
def strs (l : List ByteArray) : List Value := l.map Value.string
theorem i64s_len (l : List Int) : (i64s l).length = l.length := by unfold i64s; rw [List.length_map]
theorem strs_len (l : List ByteArray) : (strs l).length = l.length := by unfold strs; rw [List.length_map]
theorem i64s_snoc (l : List Int) (x : Int) : i64s (l ++ [x]) = i64s l ++ [.int .i64 x] := by simp [i64s]
theorem strs_snoc (l : List ByteArray) (x : ByteArray) : strs (l ++ [x]) = strs l ++ [.string x] := by simp [strs]
theorem i64s_at (l : List Int) (j : Nat) (h : j < (i64s l).length) (h' : j < l.length) : (i64s l)[j] = .int .i64 l[j] := by simp [i64s]
theorem strs_at (l : List ByteArray) (j : Nat) (h : j < (strs l).length) (h' : j < l.length) : (strs l)[j] = .string l[j] := by simp [strs]
theorem roomV_ok (r : Int) : 0 ≤ roomV r ∧ roomV r ≤ 65536 := by unfold roomV; split <;> (try split) <;> omega
end Go.Proofs.YtaliehikdidiaaaGreatDoor
