/- stage 19 (asm): a list of moves, opened -/
import Derived.Test.YtmoafflimfhaiaaDoorKO
import Derived.Test.YtmoafflimfhaiaaDoorN13
namespace Go.Proofs.YtmoafflimfhaiaaDoor.As
open Go.ChangeShapes Go.WideShapes Go.ChangeAt Go.RowKit Go.Deep Num

/-- moves, wherever they lie -/
def MvAt (w : World) (ao : Option Addr) (l : List Mv) : Prop :=
  ∀ k, k < l.length → ∃ b off, ao = some ⟨b, off, none⟩ ∧ b < w.heap.size ∧ w.cell? ⟨b, off + k * 4, none⟩ = some (.int .i64 (l.getD k ⟨0, 0, 0, 0⟩).kind) ∧ w.cell? ⟨b, off + k * 4 + 1, none⟩ = some (.int .i64 (l.getD k ⟨0, 0, 0, 0⟩).op) ∧ w.cell? ⟨b, off + k * 4 + 2, none⟩ = some (.int .i64 (l.getD k ⟨0, 0, 0, 0⟩).n) ∧ w.cell? ⟨b, off + k * 4 + 3, none⟩ = some (.float .f64 (l.getD k ⟨0, 0, 0, 0⟩).x)
section
variable {H : Type} {enc : TypeId × Value → H}
theorem cellsMv : Tryd.prog.cellsOf 30 = 4 := by kernel_rfl
theorem bytesMv : Tryd.prog.bytesOf 30 = 32 := by kernel_rfl
theorem cellsI1 : Tryd.prog.cellsOf 3 = 1 := by kernel_rfl
theorem cellsF1 : Tryd.prog.cellsOf 28 = 1 := by kernel_rfl
set_option maxRecDepth 100000 in
theorem open_moves {W : World} {base : Nat} {v : Value} {d : DataW H} {ps : List MemPlace} (hval : Value.okWide Tryd.prog W .any base 22 v) (h : DataW.Trod enc Tryd.prog W 0 (fun _ => true) true 22 v d ps)
    {ts : List TypeId} {ds : List (DataW H)} (hz : (DataW.weightsEach Tryd.prog ts ds).all (· ≤ reachBytes) = true) {j : Nat} (h1 : ts[j]? = some 22) (h2 : ds[j]? = some d) :
    ∃ ao cap, ∃ l : List Mv, v = .slice ao l.length cap ∧ (l.length < lim ∧ ∀ i, i < l.length → Wf (l.getD i ⟨0, 0, 0, 0⟩).n) ∧ MvAt W ao l := by
  obtain ⟨a0, len, cap, rfl⟩ := okWide_slice Tryd.underlying22 hval
  obtain ⟨fuel, hf⟩ := h
  rcases open_slice Tryd.underlying22 hf with ⟨hcs, _⟩ | ⟨a, len', cap', m, n, D, Pl, hcs, _, hl, hm, hmm, hd, hx⟩
  · simp [Value.cells] at hcs
    obtain ⟨rfl, rfl, rfl⟩ := hcs
    exact ⟨none, 0, [], rfl, ⟨by unfold lim; decide, fun i hi => absurd hi (Nat.not_lt_zero i)⟩, fun i hi => absurd hi (Nat.not_lt_zero i)⟩
  · simp [Value.cells] at hcs
    obtain ⟨rfl, rfl, rfl⟩ := hcs
    simp only [if_true] at hmm
    have hd1 : d = .slice ((List.range len).map D) ((List.range (m - len)).map fun j => D (len + j)) := congrArg Prod.fst hd
    rw [hd1] at h2
    have hsz := sized_slice hz h1 h2 Tryd.underlying22
    rw [bytesMv] at hsz
    simp [reachBytes] at hsz
    obtain ⟨b, off, spot⟩ := a
    have hs : 0 < len → spot = none := by
      intro h0
      obtain ⟨cs', h1, _⟩ := hx 0 (by omega)
      rw [cellsMv] at h1
      obtain ⟨_, hlen, hcell⟩ := World.cells?_some h1
      match cs', hlen with
      | [c0, c1, c2, c3], _ =>
        have f0 := hcell 0 (by omega)
        simpa [Addr.add] using World.cell?_spot f0
    have each : ∀ i, i < len → ∃ q : Mv, spot = none ∧ b < W.heap.size ∧ Wf q.n ∧ W.cell? ⟨b, off + i * 4, none⟩ = some (.int .i64 q.kind) ∧ W.cell? ⟨b, off + i * 4 + 1, none⟩ = some (.int .i64 q.op) ∧ W.cell? ⟨b, off + i * 4 + 2, none⟩ = some (.int .i64 q.n) ∧ W.cell? ⟨b, off + i * 4 + 3, none⟩ = some (.float .f64 q.x) := by
      intro i hi
      obtain ⟨cs', h1, h2⟩ := hx i (by omega)
      rw [cellsMv] at h1
      obtain ⟨_, hlen, hcell⟩ := World.cells?_some h1
      obtain ⟨xs, k, _, _, _, hxl, hg⟩ := DataW.trod_struct Tryd.underlying30 h2
      match xs, hxl, cs', hlen with
      | [y0, y1, y2, y3], _, [c0, c1, c2, c3], _ =>
        have g0 := hg 0 _ rfl
        have g1 := hg 1 _ rfl
        have g2 := hg 2 _ rfl
        have g3 := hg 3 _ rfl
        simp [cellsI1, cellsF1] at g0 g1 g2 g3
        obtain ⟨x0, e0, _, _⟩ := DataW.trod_int Tryd.underlying3 g0
        obtain ⟨x1, e1, _, _⟩ := DataW.trod_int Tryd.underlying3 g1
        obtain ⟨x2, e2, _, hw2⟩ := DataW.trod_int Tryd.underlying3 g2
        obtain ⟨x3, e3, _⟩ := trod_f64 g3
        simp at e0 e1 e2 e3
        subst e0 e1 e2 e3
        have f0 := hcell 0 (by omega)
        have f1 := hcell 1 (by omega)
        have f2 := hcell 2 (by omega)
        have f3 := hcell 3 (by omega)
        rw [add_add] at f0 f1 f2 f3
        have hspot := hs (by omega)
        subst hspot
        rw [Go.WideShapes.add_plain] at f0 f1 f2 f3
        exact ⟨⟨x0, x1, x2, x3⟩, rfl, World.block_lt_of_cell? W _ f0, hw2, f0, f1, f2, f3⟩
    have : Inhabited Mv := ⟨⟨0, 0, 0, 0⟩⟩
    obtain ⟨q, hq⟩ := choose_lt each
    have hlen : ((List.range len).map q).length = len := by simp
    have hget : ∀ i, i < len → ((List.range len).map q).getD i ⟨0, 0, 0, 0⟩ = q i := fun i hi => by simp [hi]
    refine ⟨some ⟨b, off, spot⟩, cap, (List.range len).map q, by rw [hlen], ⟨by rw [hlen]; unfold lim; omega, fun i hi => ?_⟩, fun i hi => ?_⟩
    · rw [hlen] at hi
      rw [hget i hi]
      exact (hq i hi).2.2.1
    · rw [hlen] at hi
      obtain ⟨rfl, r1, _, r3⟩ := hq i hi
      rw [hget i hi]
      exact ⟨b, off, rfl, r1, r3⟩
end
end Go.Proofs.YtmoafflimfhaiaaDoor.As
