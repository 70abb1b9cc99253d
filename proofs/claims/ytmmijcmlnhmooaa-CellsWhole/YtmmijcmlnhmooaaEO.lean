import Derived.Test.YtmmijcmlnhmooaaE9
import Derived.Test.YtmmijcmlnhmooaaM8
import Derived.Deep.Slices
import Derived.Carry
import Derived.SizedLaws
namespace Go.Proofs.Ytmmijcmlnhmooaa
open Go.ChangeShapes Go.WideShapes Go.ChangeAt Go.RowKit Go.Deep

theorem bytesW : Try.prog.bytesOf 22 = 8 := by kernel_rfl
theorem cellsLW : Try.prog.cellsOf 50 = 1 := by kernel_rfl
theorem cellsB : Try.prog.cellsOf 4 = 1 := by kernel_rfl
theorem cellsLB : Try.prog.cellsOf 62 = 1 := by kernel_rfl
theorem cellsOp : Try.prog.cellsOf 52 = 8 := by kernel_rfl
theorem cellsTr : Try.prog.cellsOf 24 = 3 := by kernel_rfl
theorem cellsWh : Try.prog.cellsOf 64 = 6 := by kernel_rfl
theorem cellsCo : Try.prog.cellsOf 77 = 5 := by kernel_rfl
theorem nat_of_u64 {z : Int} (h : (Lit.int .u64 z).wf = true) : ∃ n : Nat, z = n ∧ n < 18446744073709551616 := by
  simp [Lit.wf, IntKind.min, IntKind.max, IntKind.signed, IntKind.bits] at h
  exact ⟨z.toNat, by omega, by omega⟩
/-- words, wherever they lie -/
def BitsAt (w : World) (p : Option Addr) (l : List Nat) : Prop :=
  ∀ i, i < l.length → ∃ g o, p = some ⟨g, o, none⟩ ∧ g < w.heap.size ∧ w.cell? ⟨g, o + i, none⟩ = some (.int .u64 ((l.getD i 0 : Nat) : Int))
theorem BitsAt.on {B : Nat} {w w' : World} {p : Option Addr} {l : List Nat} (h : BitsAt w p l) (k : Below B w w') (hB : w.heap.size ≤ B) : BitsAt w' p l := fun i hi => by
  obtain ⟨g, o, h1, h2, h3⟩ := h i hi
  exact ⟨g, o, h1, Nat.lt_of_lt_of_le h2 k.size, (k.cell (p := ⟨g, o + i, none⟩) (Nat.lt_of_lt_of_le h2 hB)).trans h3⟩
/-- truths, wherever they lie -/
def BoolsAt (w : World) (p : Option Addr) (l : List Bool) : Prop :=
  ∀ i, i < l.length → ∃ g o, p = some ⟨g, o, none⟩ ∧ g < w.heap.size ∧ w.cell? ⟨g, o + i, none⟩ = some (.bool (l.getD i false))
theorem BoolsAt.on {B : Nat} {w w' : World} {p : Option Addr} {l : List Bool} (h : BoolsAt w p l) (k : Below B w w') (hB : w.heap.size ≤ B) : BoolsAt w' p l := fun i hi => by
  obtain ⟨g, o, h1, h2, h3⟩ := h i hi
  exact ⟨g, o, h1, Nat.lt_of_lt_of_le h2 k.size, (k.cell (p := ⟨g, o + i, none⟩) (Nat.lt_of_lt_of_le h2 hB)).trans h3⟩
section
variable {H : Type} {enc : TypeId × Value → H}
set_option maxRecDepth 100000 in
theorem open_words {W : World} {fuel : Nat} {cs : List Value} {x : DataW H × List MemPlace} (hf : DataW.trod enc Try.prog W 0 (fun _ => true) true fuel 50 cs = some x) :
    ∃ (ao : Option Addr) (cap : Nat) (l : List Nat), cs = [.slice ao l.length cap] ∧ BitsAt W ao l ∧ l.length ≤ maxLen ∧ ((∀ z ∈ x.1.weights Try.prog 50, z ≤ reachBytes) → l.length * 8 ≤ reachBytes) := by
  rcases open_slice Try.underlying50 hf with ⟨hcs, _⟩ | ⟨a, len, cap, m, n, D, Pl, hcs, _, hl, hm, hmm, hd, hx⟩
  · exact ⟨none, 0, [], hcs, fun i hi => absurd hi (Nat.not_lt_zero i), Nat.zero_le _, fun _ => by simp⟩
  · simp only [if_true] at hmm
    have hd1 : x.1 = .slice ((List.range len).map D) ((List.range (m - len)).map fun j => D (len + j)) := congrArg Prod.fst hd
    obtain ⟨b, off, spot⟩ := a
    have hs : 0 < len → spot = none := by
      intro h0
      obtain ⟨cs', h1, _⟩ := hx 0 (by omega)
      rw [cellsW] at h1
      obtain ⟨_, hlen, hcell⟩ := World.cells?_some h1
      match cs', hlen with
      | [c0], _ =>
        have f0 := hcell 0 (by omega)
        simpa [Addr.add] using World.cell?_spot f0
    have each : ∀ i, i < len → ∃ q : Nat, spot = none ∧ b < W.heap.size ∧ W.cell? ⟨b, off + i, none⟩ = some (.int .u64 ((q : Nat) : Int)) := by
      intro i hi
      obtain ⟨cs', h1, h2⟩ := hx i (by omega)
      rw [cellsW] at h1
      obtain ⟨_, hlen, hcell⟩ := World.cells?_some h1
      match cs', hlen with
      | [c0], _ =>
        obtain ⟨x0, e0, _, hwf⟩ := DataW.trod_int Try.underlying22 h2
        obtain ⟨q, rfl, _⟩ := nat_of_u64 hwf
        simp at e0
        subst e0
        have f0 := hcell 0 (by omega)
        rw [add_add] at f0
        have hspot := hs (by omega)
        subst hspot
        rw [Go.WideShapes.add_plain] at f0
        simp at f0
        have hb := World.block_lt_of_cell? W _ f0
        exact ⟨q, rfl, hb, f0⟩
    obtain ⟨q, hq⟩ := choose_lt each
    have hlen : ((List.range len).map q).length = len := by simp
    have hget : ∀ i, i < len → ((List.range len).map q).getD i 0 = q i := fun i hi => by simp [hi]
    refine ⟨some ⟨b, off, spot⟩, cap, (List.range len).map q, by rw [hlen]; exact hcs, fun i hi => ?_, by rw [hlen]; omega, fun hz => ?_⟩
    · rw [hlen] at hi
      obtain ⟨rfl, r1, r2⟩ := hq i hi
      exact ⟨b, off, rfl, r1, by rw [hget i hi]; exact r2⟩
    · have := hz ((len + (m - len)) * 8) (by
        rw [hd1]
        simp [DataW.weights, Try.underlying50, bytesW])
      rw [hlen]
      omega
set_option maxRecDepth 100000 in
theorem open_bools {W : World} {fuel : Nat} {cs : List Value} {x : DataW H × List MemPlace} (hf : DataW.trod enc Try.prog W 0 (fun _ => true) true fuel 62 cs = some x) :
    ∃ (ao : Option Addr) (cap : Nat) (l : List Bool), cs = [.slice ao l.length cap] ∧ BoolsAt W ao l ∧ l.length ≤ maxLen := by
  rcases open_slice Try.underlying62 hf with ⟨hcs, _⟩ | ⟨a, len, cap, m, n, D, Pl, hcs, _, hl, hm, hmm, hd, hx⟩
  · exact ⟨none, 0, [], hcs, fun i hi => absurd hi (Nat.not_lt_zero i), Nat.zero_le _⟩
  · simp only [if_true] at hmm
    obtain ⟨b, off, spot⟩ := a
    have hs : 0 < len → spot = none := by
      intro h0
      obtain ⟨cs', h1, _⟩ := hx 0 (by omega)
      rw [cellsB] at h1
      obtain ⟨_, hlen, hcell⟩ := World.cells?_some h1
      match cs', hlen with
      | [c0], _ =>
        have f0 := hcell 0 (by omega)
        simpa [Addr.add] using World.cell?_spot f0
    have each : ∀ i, i < len → ∃ q : Bool, spot = none ∧ b < W.heap.size ∧ W.cell? ⟨b, off + i, none⟩ = some (.bool q) := by
      intro i hi
      obtain ⟨cs', h1, h2⟩ := hx i (by omega)
      rw [cellsB] at h1
      obtain ⟨_, hlen, hcell⟩ := World.cells?_some h1
      match cs', hlen with
      | [c0], _ =>
        obtain ⟨q, e0, _⟩ := DataW.trod_bool Try.underlying4 h2
        simp at e0
        subst e0
        have f0 := hcell 0 (by omega)
        rw [add_add] at f0
        have hspot := hs (by omega)
        subst hspot
        rw [Go.WideShapes.add_plain] at f0
        simp at f0
        have hb := World.block_lt_of_cell? W _ f0
        exact ⟨q, rfl, hb, f0⟩
    obtain ⟨q, hq⟩ := choose_lt each
    have hlen : ((List.range len).map q).length = len := by simp
    have hget : ∀ i, i < len → ((List.range len).map q).getD i false = q i := fun i hi => by simp [hi]
    refine ⟨some ⟨b, off, spot⟩, cap, (List.range len).map q, by rw [hlen]; exact hcs, fun i hi => ?_, by rw [hlen]; omega⟩
    rw [hlen] at hi
    obtain ⟨rfl, r1, r2⟩ := hq i hi
    exact ⟨b, off, rfl, r1, by rw [hget i hi]; exact r2⟩
set_option maxRecDepth 100000 in
theorem open_trip {W : World} {base : Nat} {v : Value} {d : DataW H} {ps : List MemPlace} (hval : Value.okWide Try.prog W .any base 24 v) (h : DataW.Trod enc Try.prog W 0 (fun _ => true) true 24 v d ps) :
    ∃ a b c : Int, v = .agg #[.int .u64 a, .int .u64 b, .int .u64 c] := by
  obtain ⟨cs, rfl, hsz⟩ := okWide_struct Try.underlying24 hval
  rw [cellsTr] at hsz
  obtain ⟨l⟩ := cs
  match l, hsz with
  | [c0, c1, c2], _ =>
    obtain ⟨fuel, hf⟩ := h
    obtain ⟨xs, n, _, _, _, hlen, hg⟩ := DataW.trod_struct Try.underlying24 hf
    match xs, hlen with
    | [y0, y1, y2], _ =>
      have g0 := hg 0 _ rfl
      have g1 := hg 1 _ rfl
      have g2 := hg 2 _ rfl
      simp [cellsW, Value.cells] at g0 g1 g2
      obtain ⟨a0, e0, _, _⟩ := DataW.trod_int Try.underlying22 g0
      obtain ⟨a1, e1, _, _⟩ := DataW.trod_int Try.underlying22 g1
      obtain ⟨a2, e2, _, _⟩ := DataW.trod_int Try.underlying22 g2
      simp at e0 e1 e2
      exact ⟨a0, a1, a2, by rw [e0, e1, e2]⟩
set_option maxRecDepth 100000 in
theorem open_whole {W : World} {base : Nat} {v : Value} {d : DataW H} {ps : List MemPlace} (hval : Value.okWide Try.prog W .any base 64 v) (h : DataW.Trod enc Try.prog W 0 (fun _ => true) true 64 v d ps) :
    ∃ (x y e s m : Nat) (ao : Option Addr) (cap : Nat) (l : List Bool), v = .agg #[.int .u64 x, .int .u64 y, .int .u64 e, .int .u64 s, .int .u64 m, .slice ao l.length cap] ∧ l.length ≤ maxLen ∧ (s < 18446744073709551616 ∧ e < 18446744073709551616) ∧ BoolsAt W ao l := by
  obtain ⟨cs, rfl, hsz⟩ := okWide_struct Try.underlying64 hval
  rw [cellsWh] at hsz
  obtain ⟨l⟩ := cs
  match l, hsz with
  | [c0, c1, c2, c3, c4, c5], _ =>
    obtain ⟨fuel, hf⟩ := h
    obtain ⟨xs, n, _, _, _, hlen, hg⟩ := DataW.trod_struct Try.underlying64 hf
    match xs, hlen with
    | [y0, y1, y2, y3, y4, y5], _ =>
      have g0 := hg 0 _ rfl
      have g1 := hg 1 _ rfl
      have g2 := hg 2 _ rfl
      have g3 := hg 3 _ rfl
      have g4 := hg 4 _ rfl
      have g5 := hg 5 _ rfl
      simp [cellsW, cellsLB, Value.cells] at g0 g1 g2 g3 g4 g5
      obtain ⟨a0, e0, _, w0⟩ := DataW.trod_int Try.underlying22 g0
      obtain ⟨a1, e1, _, w1⟩ := DataW.trod_int Try.underlying22 g1
      obtain ⟨a2, e2, _, w2⟩ := DataW.trod_int Try.underlying22 g2
      obtain ⟨a3, e3, _, w3⟩ := DataW.trod_int Try.underlying22 g3
      obtain ⟨a4, e4, _, w4⟩ := DataW.trod_int Try.underlying22 g4
      obtain ⟨z0, rfl, _⟩ := nat_of_u64 w0
      obtain ⟨z1, rfl, _⟩ := nat_of_u64 w1
      obtain ⟨z2, rfl, b2⟩ := nat_of_u64 w2
      obtain ⟨z3, rfl, b3⟩ := nat_of_u64 w3
      obtain ⟨z4, rfl, _⟩ := nat_of_u64 w4
      obtain ⟨ao, cp, bl, e5, hp, hm⟩ := open_bools g5
      simp at e0 e1 e2 e3 e4 e5
      exact ⟨z0, z1, z2, z3, z4, ao, cp, bl, by rw [e0, e1, e2, e3, e4, e5], hm, ⟨b3, b2⟩, hp⟩
set_option maxRecDepth 100000 in
theorem open_cost {W : World} {base : Nat} {v : Value} {d : DataW H} {ps : List MemPlace} (hval : Value.okWide Try.prog W .any base 77 v) (h : DataW.Trod enc Try.prog W 0 (fun _ => true) true 77 v d ps) :
    ∃ (c s e x : Int) (ao : Option Addr) (cap : Nat) (l : List Nat), v = .agg #[.int .i64 c, .int .u64 s, .int .u64 e, .int .u64 x, .slice ao l.length cap] ∧ l.length ≤ maxLen ∧ BitsAt W ao l := by
  obtain ⟨cs, rfl, hsz⟩ := okWide_struct Try.underlying77 hval
  rw [cellsCo] at hsz
  obtain ⟨l⟩ := cs
  match l, hsz with
  | [c0, c1, c2, c3, c4], _ =>
    obtain ⟨fuel, hf⟩ := h
    obtain ⟨xs, n, _, _, _, hlen, hg⟩ := DataW.trod_struct Try.underlying77 hf
    match xs, hlen with
    | [y0, y1, y2, y3, y4], _ =>
      have g0 := hg 0 _ rfl
      have g1 := hg 1 _ rfl
      have g2 := hg 2 _ rfl
      have g3 := hg 3 _ rfl
      have g4 := hg 4 _ rfl
      simp [cellsI, cellsW, cellsLW, Value.cells] at g0 g1 g2 g3 g4
      obtain ⟨a0, e0, _, _⟩ := DataW.trod_int Try.underlying3 g0
      obtain ⟨a1, e1, _, _⟩ := DataW.trod_int Try.underlying22 g1
      obtain ⟨a2, e2, _, _⟩ := DataW.trod_int Try.underlying22 g2
      obtain ⟨a3, e3, _, _⟩ := DataW.trod_int Try.underlying22 g3
      obtain ⟨ao, cp, bl, e4, hp, hm, _⟩ := open_words g4
      simp at e0 e1 e2 e3 e4
      exact ⟨a0, a1, a2, a3, ao, cp, bl, by rw [e0, e1, e2, e3, e4], hm, hp⟩
end
end Go.Proofs.Ytmmijcmlnhmooaa
