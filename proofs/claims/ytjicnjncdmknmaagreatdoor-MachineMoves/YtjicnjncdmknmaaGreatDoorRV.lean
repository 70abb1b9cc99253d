import Derived.Test.YtjicnjncdmknmaaGreatDoorKZ
import Derived.Test.YtjicnjncdmknmaaGreatDoorRP
namespace Go.Proofs.YtjicnjncdmknmaaGreatDoor
open Go.ChangeShapes Go.WideShapes Go.ChangeAt Go.RowKit Go.Deep Num

/-! a list of moves, opened: a kind and a number each -/
section
variable {H : Type} {enc : TypeId × Value → H}
theorem cellsMv : Tryz.prog.cellsOf 42 = 2 := by kernel_rfl
set_option maxRecDepth 100000 in
theorem open_mvs {W : World} {base : Nat} {v : Value} {d : DataW H} {ps : List MemPlace} (hval : Value.okWide Tryz.prog W .any base 39 v) (h : DataW.Trod enc Tryz.prog W 0 (fun _ => true) true 39 v d ps) :
    ∃ ao cap, ∃ l : Wr, v = .slice ao l.length cap ∧ (l.length ≤ maxLen ∧ ∀ i, i < l.length → (l.getD i (0, 0)).2 < 18446744073709551616) ∧ TlAt W ao l := by
  obtain ⟨a0, len, cap, rfl⟩ := okWide_slice Tryz.underlying39 hval
  obtain ⟨fuel, hf⟩ := h
  rcases open_slice Tryz.underlying39 hf with ⟨hcs, _⟩ | ⟨a, len', cap', m, n, D, Pl, hcs, _, hl, hm, hmm, _, hx⟩
  · simp [Value.cells] at hcs
    obtain ⟨rfl, rfl, rfl⟩ := hcs
    exact ⟨none, 0, [], rfl, ⟨Nat.zero_le _, fun i hi => absurd hi (Nat.not_lt_zero i)⟩, fun i hi => absurd hi (Nat.not_lt_zero i)⟩
  · simp [Value.cells] at hcs
    obtain ⟨rfl, rfl, rfl⟩ := hcs
    simp only [if_true] at hmm
    obtain ⟨b, off, spot⟩ := a
    have hs : 0 < len → spot = none := by
      intro h0
      obtain ⟨cs', h1, _⟩ := hx 0 (by omega)
      rw [cellsMv] at h1
      obtain ⟨_, hlen, hcell⟩ := World.cells?_some h1
      match cs', hlen with
      | [c0, c1], _ =>
        have f0 := hcell 0 (by omega)
        simpa [Addr.add] using World.cell?_spot f0
    have each : ∀ i, i < len → ∃ q : Int × Nat, spot = none ∧ b < W.heap.size ∧ q.2 < 18446744073709551616 ∧ W.cell? ⟨b, off + i * 2, none⟩ = some (.int .i64 q.1) ∧ W.cell? ⟨b, off + i * 2 + 1, none⟩ = some (.float .f64 q.2) := by
      intro i hi
      obtain ⟨cs', h1, h2⟩ := hx i (by omega)
      rw [cellsMv] at h1
      obtain ⟨_, hlen, hcell⟩ := World.cells?_some h1
      obtain ⟨xs, k, _, _, _, hxl, hg⟩ := DataW.trod_struct Tryz.underlying42 h2
      match xs, hxl, cs', hlen with
      | [y0, y1], _, [c0, c1], _ =>
        have g0 := hg 0 _ rfl
        have g1 := hg 1 _ rfl
        simp [cellsIn, cellsF] at g0 g1
        obtain ⟨x0, e0, _, _⟩ := DataW.trod_int Tryz.underlying3 g0
        obtain ⟨x1, e1, hx1⟩ := trod_f64 g1
        simp at e0 e1
        subst e0 e1
        have f0 := hcell 0 (by omega)
        have f1 := hcell 1 (by omega)
        rw [add_add] at f0 f1
        have hspot := hs (by omega)
        subst hspot
        rw [Go.WideShapes.add_plain] at f0 f1
        exact ⟨(x0, x1), rfl, World.block_lt_of_cell? W _ f0, hx1, f0, f1⟩
    have : Inhabited (Int × Nat) := ⟨(0, 0)⟩
    obtain ⟨q, hq⟩ := choose_lt each
    have hlen : ((List.range len).map q).length = len := by simp
    have hget : ∀ i, i < len → ((List.range len).map q).getD i (0, 0) = q i := fun i hi => by simp [hi]
    refine ⟨some ⟨b, off, spot⟩, cap, (List.range len).map q, by rw [hlen], ⟨by rw [hlen]; omega, fun i hi => ?_⟩, fun i hi => ?_⟩
    · rw [hlen] at hi
      rw [hget i hi]
      exact (hq i hi).2.2.1
    · rw [hlen] at hi
      obtain ⟨rfl, r1, _, r3⟩ := hq i hi
      rw [hget i hi]
      exact ⟨b, off, rfl, r1, r3⟩
end
end Go.Proofs.YtjicnjncdmknmaaGreatDoor
