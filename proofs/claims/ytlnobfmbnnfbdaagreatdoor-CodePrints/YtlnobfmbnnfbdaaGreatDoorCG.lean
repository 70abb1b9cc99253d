/- a row of bytes of one's own, by its cells -/
import Derived.Test.YtlnobfmbnnfbdaaGreatDoorC5
import Derived.Test.YtlnobfmbnnfbdaaGreatDoorT1
import Derived.Deep.AppendSrc
import Derived.Deep.MidRow
import Derived.Deep.Upon
import Derived.Lib.ConvBytes
import Derived.Laws.IdiomStrings
import Derived.Deep.RegionLaw
namespace Go.Proofs.YtlnobfmbnnfbdaaGreatDoor
open Go.ChangeShapes Go.WideShapes Go.ChangeAt Go.RowKit Num

theorem turn_setCells (b : Nat) : ∀ (vs : List Value) (o : Nat) (w : World), Turn [b] [b] w (w.setCells b o vs)
  | [], _, w => Turn.refl _ w
  | v :: r, o, w => by
    have h1 : Turn [b] [b] w (w.setCell ⟨b, o, none⟩ v) := ⟨rfl, rfl, rfl, by simp, fun k _ hn => heap_setCell_other _ _ _ _ (by simpa using hn), fun _ h => .inl h⟩
    exact h1.trans (turn_setCells b r (o + 1) _)
theorem size_setCells (b : Nat) : ∀ (vs : List Value) (o : Nat) (w : World), (w.setCells b o vs).heap.size = w.heap.size
  | [], _, _ => rfl
  | v :: r, o, w => by
    show ((w.setCell ⟨b, o, none⟩ v).setCells b (o + 1) r).heap.size = _
    rw [size_setCells b r (o + 1) _]
    simp
theorem byteInfo : (Tryz.prog.info? 5).map (fun i => (i.zero, i.size, i.bytes)) = some (some (.int .u8 0), 1, 1) := by kernel_rfl
def byteC (l : List UInt8) : List Value := l.map fun b => Value.int .u8 b.toNat
theorem byteC_len (l : List UInt8) : (byteC l).length = l.length := by simp [byteC]
theorem byteC_one (l : List UInt8) : ∀ u ∈ byteC l, u.oneCell' = true := by
  intro u hu
  obtain ⟨b, _, rfl⟩ := List.mem_map.1 hu
  rfl
/-- bytes of one's own from B on, with room behind them that may be written -/
structure ByteRow (B : Nat) (w : World) (g cap : Nat) (l : List UInt8) : Prop where
  lo : B ≤ g
  lt : g < w.heap.size
  fit : l.length ≤ cap
  got : w.rangeAt g 0 (byteC l)
  room : w.there g l.length (cap - l.length)
def rowV (g cap : Nat) (l : List UInt8) : Value := .slice (some ⟨g, 0, none⟩) l.length cap
theorem ByteRow.on {B g cap : Nat} {w w' : World} {l : List UInt8} (h : ByteRow B w g cap l) (hb : w'.heap[g]? = w.heap[g]?) (hs : w.heap.size ≤ w'.heap.size) : ByteRow B w' g cap l :=
  ⟨h.lo, Nat.lt_of_lt_of_le h.lt hs, h.fit, fun j v hv => (World.cell?_of_block (a := ⟨g, 0 + j, none⟩) hb).trans (h.got j v hv), fun j hj => by
    have := h.room j hj
    rw [← World.cell?_of_block (a := ⟨g, l.length + j, none⟩) hb, ← World.frozen?_of_block (a := ⟨g, l.length + j, none⟩) hb] at this
    exact this⟩
theorem ByteRow.below {B g cap : Nat} {w w' : World} {l : List UInt8} (h : ByteRow B w g cap l) (hb : Below w.heap.size w w') : ByteRow B w' g cap l := h.on (hb.block g h.lt) hb.size
theorem conv_row {B : Nat} (w : World) (s : ByteArray) (hB : B ≤ w.heap.size) : ∃ g cap w', (convert 9 55 (.string s)).run Tryz.prog w = .ok (.slice (some ⟨g, 0, none⟩) s.data.toList.length cap) w' ∧ ByteRow B w' g cap s.data.toList ∧ Below w.heap.size w w' := by
  have hr := Lib.run_convert_string_bytes (P := Tryz.prog) w 9 55 5 s Tryz.underlying9 Tryz.underlying55 Tryz.underlying5
  have hl : s.size = s.data.toList.length := size_list s
  have hge := grownCap_ge w s.size 0 5
  have hz : (Lib.bytesCells w 5 s).size = grownCap w s.size 0 5 := by
    unfold Lib.bytesCells
    have : s.data.size = s.size := rfl
    simp [this]
    omega
  have hn := Lib.bytesWorld_at_new w 5 s
  refine ⟨w.heap.size, grownCap w s.size 0 5, Lib.bytesWorld w 5 s, by rw [hr, hl], ⟨hB, by rw [Lib.bytesWorld_size]; omega, by omega, fun j v hv => ?_, fun j hj => ?_⟩, ⟨rfl, rfl, rfl, by rw [Lib.bytesWorld_size]; omega, fun k hk => Lib.bytesWorld_at_old w _ s k hk⟩⟩
  · have hj : j < s.size := by
      have := (List.getElem?_eq_some_iff.1 hv).1
      rw [byteC_len] at this
      omega
    rw [Nat.zero_add, Lib.bytesWorld_cell w _ s j hj, ← hv]
    have hj' : j < s.data.toList.length := by omega
    simp only [byteC, List.getElem?_map, List.getD_eq_getElem?_getD, List.getElem?_eq_getElem hj', Option.map_some, Option.getD_some]
  · have hlt : s.data.toList.length + j < (Lib.bytesCells w 5 s).size := by omega
    refine ⟨?_, ?_⟩
    · rw [cell_of_row _ _ _ _ _ _ hn, Array.getElem?_eq_getElem hlt]
      rfl
    · unfold World.frozen?
      rw [hn]
      simp
      omega
/-- onto a row of bytes, whatever yields n bytes -/
theorem app_row {B g cap : Nat} {w : World} {l : List UInt8} (h : ByteRow B w g cap l) (hB : B ≤ w.heap.size) (tx ty : TypeId) (x : Value) (s : List UInt8) (hs : Src Tryz.prog 1 tx x s.length (byteC s) w) (hz : l.length + s.length ≤ 1000000) :
    ∃ g' cap' w', (Builtin.append_ #[55, tx] ty #[.slice (some ⟨g, 0, none⟩) l.length cap, x]).run Tryz.prog w = .ok (.slice (some ⟨g', 0, none⟩) (l ++ s).length cap') w' ∧ ByteRow B w' g' cap' (l ++ s) ∧ Below B w w' ∧ ∀ k, k < w.heap.size → k ≠ g → w'.heap[k]? = w.heap[k]? := by
  obtain ⟨i, hi, hz0, hz1, hz2⟩ := info_parts byteInfo
  by_cases hroom : l.length + s.length ≤ cap
  · have hr := run_append_room_src (P := Tryz.prog) w 55 tx ty 5 i Tryz.underlying55 hi g 0 l.length cap x s.length (byteC s) (by rw [hz1]; exact hs) hroom
      (fun j hj => by rw [byteC_len] at hj; rw [hz1, Nat.zero_add, Nat.mul_one]; exact (h.room j (by omega)).1) (fun j hj => by rw [byteC_len] at hj; rw [hz1, Nat.zero_add, Nat.mul_one]; exact (h.room j (by omega)).2)
    rw [hz1, Nat.zero_add, Nat.mul_one] at hr
    have ht := turn_setCells g (byteC s) l.length w
    have hsz := size_setCells g (byteC s) l.length w
    refine ⟨g, cap, w.setCells g l.length (byteC s), by rw [hr, List.length_append], ⟨h.lo, by rw [hsz]; exact h.lt, by rw [List.length_append]; exact hroom, fun j v hv => ?_, fun j hj => ?_⟩, ht.below (fun k hk => by simp at hk; have := h.lo; omega) hB, fun k hk hn => ht.block k hk (by simpa using hn)⟩
    · unfold byteC at hv
      rw [List.map_append] at hv
      by_cases hj : j < l.length
      · rw [List.getElem?_append_left (by simpa using hj)] at hv
        have hap := World.rangeAt_setCells_apart h.got g l.length (byteC s) (.inr (.inl (by rw [byteC_len]; omega)))
        exact hap j v hv
      · rw [List.getElem?_append_right (by simp; omega), List.length_map] at hv
        have := World.rangeAt_setCells_same w g l.length (byteC s) (fun q hq => h.room q (by rw [byteC_len] at hq; omega)) _ v hv
        rw [show l.length + (j - l.length) = 0 + j by omega] at this
        exact this
    · rw [List.length_append] at hj ⊢
      have := World.there_setCells h.room g l.length (byteC s) (s.length + j) (by omega)
      rw [Nat.add_assoc]
      exact this
  · have hold : (Builtin.firstCells i.size l.length (.slice (some ⟨g, 0, none⟩) l.length cap)).run Tryz.prog w.drew = .ok (byteC l).toArray w.drew := by
      rw [hz1]
      exact run_firstCells_some w.drew 1 l.length ⟨g, 0, none⟩ l.length cap (byteC l) (by rw [byteC_len]; omega) (fun j v hv => by
        rw [Addr.add_mid]
        exact (World.rangeAt_drew w g 0 _).2 h.got j v hv)
    have hr := run_append_grow_src (P := Tryz.prog) w 55 tx ty 5 i (.int .u8 0) Tryz.underlying55 hi hz0 (some ⟨g, 0, none⟩) l.length cap (byteC l) hold x s.length (byteC s) (by rw [hz1]; exact hs) (by omega) (by omega) (growslice_fits (by omega) (by rw [hz2]; omega))
    have hge := grownCap_ge w (l.length + s.length) cap 5
    have e1 : byteC l ++ byteC s = byteC (l ++ s) := by simp [byteC]
    rw [e1] at hr
    have hn := heap_alloc_new w.drew (.cells ((byteC (l ++ s)).toArray ++ Builtin.zeroCells (Value.int .u8 0).cells (grownCap w (l.length + s.length) cap 5 - (l.length + s.length))) 5)
    have hdz : w.drew.heap.size = w.heap.size := rfl
    rw [hdz] at hn
    have hcs : ((byteC (l ++ s)).toArray ++ Builtin.zeroCells (Value.int .u8 0).cells (grownCap w (l.length + s.length) cap 5 - (l.length + s.length))).size = grownCap w (l.length + s.length) cap 5 := by
      rw [Array.size_append, size_zeroCells, List.size_toArray, byteC_len, List.length_append]
      show _ + _ * 1 = _
      omega
    refine ⟨w.heap.size, grownCap w (l.length + s.length) cap 5, w.drew.alloc (.cells ((byteC (l ++ s)).toArray ++ Builtin.zeroCells (Value.int .u8 0).cells (grownCap w (l.length + s.length) cap 5 - (l.length + s.length))) 5), by rw [hr, List.length_append], ⟨hB, lt_of_block hn, by rw [List.length_append]; exact hge, fun j v hv => ?_, fun j hj => ?_⟩, (bl_drew (w := w) (Below.refl _ _)).mono hB |>.trans ((box5 w.drew _).mono hB), fun k hk _ => ?_⟩
    · rw [Nat.zero_add, cell_of_row _ _ _ _ _ _ hn, ← hv]
      have hj := (List.getElem?_eq_some_iff.1 hv).1
      rw [Array.getElem?_append_left (by simpa using hj)]
      simp
    · rw [List.length_append] at hj ⊢
      refine ⟨?_, frozen_of_row _ _ _ _ _ hn⟩
      have hlt : l.length + s.length + j < ((byteC (l ++ s)).toArray ++ Builtin.zeroCells (Value.int .u8 0).cells (grownCap w (l.length + s.length) cap 5 - (l.length + s.length))).size := by rw [hcs]; omega
      rw [cell_of_row _ _ _ _ _ _ hn, Array.getElem?_eq_getElem hlt]
      rfl
    · exact heap_alloc_old w.drew _ hk
/-- back to a text -/
theorem row_text {B g cap : Nat} {w : World} {l : List UInt8} (h : ByteRow B w g cap l) : (convert 55 9 (.slice (some ⟨g, 0, none⟩) l.length cap)).run Tryz.prog w = .ok (.string ⟨l.toArray⟩) w :=
  run_convert_bytes_back (P := Tryz.prog) w 55 9 5 ⟨g, 0, none⟩ cap l Tryz.underlying55 Tryz.underlying5 Tryz.underlying9 (fun j hj => by
    rw [Addr.add_mid]
    exact h.got j _ (by simp [byteC, hj]))
theorem byteC_src (w : World) (s : List UInt8) : Src Tryz.prog 1 9 (.string ⟨s.toArray⟩) s.length (byteC s) w := by
  have h := Src.ofString (P := Tryz.prog) w (tx := 9) Tryz.underlying9 ⟨s.toArray⟩
  have e : (⟨s.toArray⟩ : ByteArray).size = s.length := by rw [size_list]
  rw [e] at h
  exact h
/-! append, whatever it comes to -/
section
variable {P : Program} {w : World}
theorem wp_append_ex {o : Oper} {a : Act} {K : Act → World → Prop} {Q : Exit → Act → World → Prop} (s x : Operand) (t tx : TypeId)
    (ho : o.op = .call { callee := .builtin .append, args := #[s, x], argTypes := #[t, tx] }) (vs vx : Value) (hs : a.eval s = vs) (hx : a.eval x = vx) {R : Value → World → Prop}
    (hr : ∃ v w', (Builtin.append_ #[t, tx] o.type #[vs, vx]).run P w = .ok v w' ∧ R v w') (h : ∀ v w', R v w' → K (a.put o.dst v) w') : o.wp P a w K Q := by
  obtain ⟨v, w', hr, hR⟩ := hr
  unfold Oper.wp execOp
  simp only [ho, resolve, invoke, builtin, Sem.run_bind, Sem.run_pure, Result.andThen_ok, List.map_toArray, List.map_cons, List.map_nil, hs, hx, hr]
  exact h v w' hR
theorem wpList_append_ex {ops : Array Oper} {rest : List Oper} {o : Oper} {a : Act} {Q : Exit → Act → World → Prop} (hgd : o.guard = none) (s x : Operand) (t tx : TypeId)
    (ho : o.op = .call { callee := .builtin .append, args := #[s, x], argTypes := #[t, tx] }) (vs vx : Value) (hs : a.eval s = vs) (hx : a.eval x = vx) {R : Value → World → Prop}
    (hr : ∃ v w', (Builtin.append_ #[t, tx] o.type #[vs, vx]).run P w = .ok v w' ∧ R v w') (h : ∀ v w', R v w' → wpList P ops Q rest (a.put o.dst v) w') : wpList P ops Q (o :: rest) a w :=
  wpList_plain hgd fun _ hK => wp_append_ex s x t tx ho vs vx hs hx hr fun v w' hR => hK _ _ (h v w' hR)
theorem step_append_ex {ops : Array Oper} {o : Oper} {a : Act} {K : Act → World → Prop} {Q : Exit → Act → World → Prop} {E : Prop} (hgd : o.guard = none) (s x : Operand) (t tx : TypeId)
    (ho : o.op = .call { callee := .builtin .append, args := #[s, x], argTypes := #[t, tx] }) (vs vx : Value) (hs : a.eval s = vs) (hx : a.eval x = vx) {R : Value → World → Prop}
    (hr : ∃ v w', (Builtin.append_ #[t, tx] o.type #[vs, vx]).run P w = .ok v w' ∧ R v w') (h : ∀ v w', R v w' → K (a.put o.dst v) w') :
    if Region.wanted o (yielded ops a.tmps) = true then Oper.wp P o a w K Q else E := by
  have hw : Region.wanted o (yielded ops a.tmps) = true := by simp [Region.wanted, hgd]
  rw [if_pos hw]
  exact wp_append_ex s x t tx ho vs vx hs hx hr h
end
theorem below_put {B p o : Nat} {w w' : World} (v : Value) (h : Below B w w') (hp : B ≤ p) : Below B w (w'.setCell ⟨p, o, none⟩ v) :=
  ⟨h.os, h.tape, h.output, by simpa using h.size, fun k hk => (heap_setCell_other _ _ _ _ (by simp; omega)).trans (h.block k hk)⟩
theorem CodeAt.put {w : World} {g off p o : Nat} {c : List Ins} (v : Value) (h : CodeAt w (some ⟨g, off, none⟩) c) (hp : g ≠ p) : CodeAt (w.setCell ⟨p, o, none⟩ v) (some ⟨g, off, none⟩) c := fun k hk => by
  obtain ⟨b, f, e, hlt, c0, c1, c2⟩ := h k hk
  cases e
  have hh : (w.setCell ⟨p, o, none⟩ v).heap[g]? = w.heap[g]? := heap_setCell_other _ _ _ _ (by simpa using hp)
  exact ⟨g, off, rfl, by simpa using hlt, (World.cell?_of_block (a := ⟨g, off + k * 3, none⟩) hh).trans c0, (World.cell?_of_block (a := ⟨g, off + k * 3 + 1, none⟩) hh).trans c1, (World.cell?_of_block (a := ⟨g, off + k * 3 + 2, none⟩) hh).trans c2⟩
end Go.Proofs.YtlnobfmbnnfbdaaGreatDoor
