import Derived.Test.YtdfmmolhfacahaaVG4
namespace Go.Proofs.Ytdfmmolhfacahaa

/-! a drawn region in which, behind what only reads, two operations may come up, whichever first -/
section
variable {P : Program} {ops : Array Oper} {Q : Exit → Act → World → Prop} {md : Region.Mode} {S : World → Prop}
def wpTwo (P : Program) (ops : Array Oper) (Q : Exit → Act → World → Prop) (S : World → Prop) (i : Nat) (ri : List (Nat × Bool)) (j : Nat) (rj : List (Nat × Bool)) : List Nat → Act → World → Prop
  | [], a, w => wpOp P ops Q i (fun a' w' => S w' ∧ wpSeq P ops Q S ri a' w') a w ∧ wpOp P ops Q j (fun a' w' => S w' ∧ wpSeq P ops Q S rj a' w') a w
  | x :: rest, a, w => ∃ o v, ops[x]? = some o ∧ YieldsIf P ops S o v a ∧ wpTwo P ops Q S i ri j rj rest (a.put o.dst v) w
def twoB (md : Region.Mode) (ops : Array Oper) (i : Nat) (ri : List (Nat × Bool)) (j : Nat) (rj : List (Nat × Bool)) : Array Bool → List Nat → Bool
  | listed, [] => Region.ready md ops listed == [i, j] && seqB md ops (listed.setIfInBounds i true) ri && seqB md ops (listed.setIfInBounds j true) rj
  | listed, x :: rest => (Region.ready md ops listed).contains x && Region.free md ops listed x && twoB md ops i ri j rj (listed.setIfInBounds x true) rest
theorem wpAnyH_of_two (hs : Region.noSelect ops = true) (hQ : ∀ c t t' d w, Q (.panic c) ⟨t, d⟩ w → Q (.panic c) ⟨t', d⟩ w) {i j : Nat} {ri rj : List (Nat × Bool)} (hlen : rj.length = ri.length) : ∀ (l : List Nat) (listed : Array Bool) (a : Act) (w : World), twoB md ops i ri j rj listed l = true → S w → wpTwo P ops Q S i ri j rj l a w → wpAnyH P md ops Q S (ri.length + 1 + l.length) listed a w
  | [], listed, a, w, hb, _, h => by
    simp only [twoB, Bool.and_eq_true, beq_iff_eq] at hb
    refine wpAnyH_all (rs := [i, j]) hb.1.1 (by simp) fun x hx => ?_
    by_cases e : x = i
    · subst e
      exact wpOp_mono (fun a' w' h' => ⟨h'.1, wpAnyH_of_seq hs hQ ri _ _ _ hb.1.2 h'.1 h'.2⟩) h.1
    · have e2 : x = j := by simpa [e] using hx
      subst e2
      refine wpOp_mono (fun a' w' h' => ⟨h'.1, ?_⟩) h.2
      have := wpAnyH_of_seq (Q := Q) hs hQ rj _ _ _ hb.2 h'.1 h'.2
      rw [hlen] at this
      exact this
  | x :: rest, listed, a, w, hb, hS, h => by
    simp only [twoB, Bool.and_eq_true] at hb
    obtain ⟨o, v, ho, hy, hr⟩ := h
    exact wpAnyH_take ho hs hb.1.2 hb.1.1 (fun c a w h => panic_put hQ h) hy hS (wpAnyH_of_two hs hQ hlen rest _ _ _ hb.2 hS hr)
theorem wp_region_two {id : Nat} {a : Act} {w : World} (S : World → Prop) (l : List Nat) (i : Nat) (ri : List (Nat × Bool)) (j : Nat) (rj : List (Nat × Bool)) (hm : P.follows .mixedOrders = true) (hb : (Region.noSelect ops && rj.length == ri.length && ri.length + 1 + l.length == ops.size && twoB .any ops i ri j rj (Array.replicate ops.size false) l) = true) (hQ : ∀ c t t' d w, Q (.panic c) ⟨t, d⟩ w → Q (.panic c) ⟨t', d⟩ w) (hS : S w.drew) (h : wpTwo P ops Q S i ri j rj l a w.drew) : (Code.region id ops true).wp P Q a w := by
  simp only [Bool.and_eq_true, beq_iff_eq] at hb
  refine wp_region_held (S := S) hm ?_
  rw [← hb.1.2]
  have := wpAnyH_of_two (Q := Q) (S := S) hb.1.1.1 hQ hb.1.1.2 l _ a w.drew hb.2 hS h
  rw [← hb.1.2] at this
  exact this
theorem wpTwo_take {x i j : Nat} {ri rj : List (Nat × Bool)} {rest : List Nat} {o : Oper} {v : Value} {a : Act} {w : World} (ho : nth ops.toList x = some o) (hw : Region.wanted o (yielded ops a.tmps) = true) (hy : ∀ w, S w → (execOp a.eval o).run P w = .ok (.value v) w) (h : wpTwo P ops Q S i ri j rj rest (a.put o.dst v) w) : wpTwo P ops Q S i ri j rj (x :: rest) a w := ⟨o, v, op_at ho, .inl ⟨hw, hy⟩, h⟩
theorem wpTwo_nil {i j : Nat} {ri rj : List (Nat × Bool)} {a : Act} {w : World} (h1 : wpSeq P ops Q S ((i, false) :: ri) a w) (h2 : wpSeq P ops Q S ((j, false) :: rj) a w) : wpTwo P ops Q S i ri j rj [] a w := ⟨h1, h2⟩
end
section
open Go.ChangeShapes Go.WideShapes Go.ChangeAt Go.RowKit
theorem personInfo : (Try.prog.info? 70).map (fun i => (i.zero, i.size, i.bytes)) = some (some (.agg #[.int .i64 0, .pointer none]), 2, 16) := by kernel_rfl
theorem pMake : ∃ cur : Array Value, cur.size = 14 ∧ (∀ i, i < 7 → cur[i * 2]? = some (.int .i64 0) ∧ cur[i * 2 + 1]? = some (.pointer none)) ∧ ∀ w : World, (Instr.makeSlice 65 (.int .i64 7) (.int .i64 7)).run Try.prog w = .ok (.slice (some ⟨w.heap.size, 0, none⟩) 7 7) (w.alloc (.cells cur 70)) := by
  obtain ⟨i, hi, hz0, hz1, hz2⟩ := info_parts personInfo
  refine ⟨madeCells (Value.agg #[.int .i64 0, .pointer none]).cells (7 * 2), size_madeCells _ _, ?_, fun w => ?_⟩
  · have e : madeCells (Value.agg #[.int .i64 0, .pointer none]).cells (7 * 2) = #[.int .i64 0, .pointer none, .int .i64 0, .pointer none, .int .i64 0, .pointer none, .int .i64 0, .pointer none, .int .i64 0, .pointer none, .int .i64 0, .pointer none, .int .i64 0, .pointer none] := by kernel_rfl
    rw [e]
    intro i hi
    match i, hi with
    | 0, _ => exact ⟨rfl, rfl⟩
    | 1, _ => exact ⟨rfl, rfl⟩
    | 2, _ => exact ⟨rfl, rfl⟩
    | 3, _ => exact ⟨rfl, rfl⟩
    | 4, _ => exact ⟨rfl, rfl⟩
    | 5, _ => exact ⟨rfl, rfl⟩
    | 6, _ => exact ⟨rfl, rfl⟩
  · have := run_make w 65 70 i _ Try.underlying65 hi hz0 .i64 .i64 (7 : Nat) (7 : Nat) (by omega) (Int.le_refl _) (by rw [hz2]; omega) (by omega)
    rw [hz1] at this
    exact this
/-- between two steps, whatever they have done -/
def Rg (W w : World) (gx b g l k : Nat) : Prop := ∃ p K S xb ws o n m d s a q zp z, Gr W w gx b g l p K S xb ws o n m d s a q k zp z
theorem rg_new {W w : World} {b g l : Nat} {cur : Array Value} (hm : MemAt 79 w b g (List.replicate 9 0) false 0) (hl : w.heap[l]? = some (.cells cur 70 (0, 0))) (hs : cur.size = 14) (hc : ∀ i, i < 7 → cur[i * 2]? = some (.int .i64 0) ∧ cur[i * 2 + 1]? = some (.pointer none)) (hb : Below W.heap.size W w) (lb : W.heap.size ≤ b) (lg : W.heap.size ≤ g) (ll : W.heap.size ≤ l) :
    Rg W (w.alloc (.cells #[.pointer (some ⟨b, 0, none⟩), .int .i64 0, .int .i64 0, .int .i64 0, .int .i64 1, .int .i64 0, .int .i64 0, .slice (some ⟨l, 0, none⟩) 7 7, .int .i64 0, .int .u64 0, .pointer none] 67)) w.heap.size b g l 0 :=
  ⟨fun _ => 0, fun _ => 0, fun _ => 0, fun _ => 0, List.replicate 9 0, false, 0, 0, 0, 0, 0, 0, .pointer none, 0,
    ⟨heap_alloc_new _ _, ⟨cur, (Below.heap_alloc _ _ _ (lt_of_block hl)).trans hl, hs, fun i hi => ⟨(hc i hi).1, _, (hc i hi).2, fun z => by simp [onP] at z⟩⟩, hm.alloc _, fun i _ z => by simp [onP] at z, fun i j _ _ z => by simp [onP] at z, fun z => by simp at z, tb_alloc hb _, ⟨hb.size, lb, lg, ll⟩⟩, ginv_new⟩
theorem Rg.hop {W w w' : World} {gx b g l k : Nat} (h : Rg W w gx b g l k) (q : Below w.heap.size w w') : Rg W w' gx b g l k := by
  obtain ⟨p, K, S, xb, ws, o, n, m, d, s, a, q', zp, z, y⟩ := h
  exact ⟨p, K, S, xb, ws, o, n, m, d, s, a, q', zp, z, ⟨y.y.hop q, y.i⟩⟩
end
end Go.Proofs.Ytdfmmolhfacahaa
