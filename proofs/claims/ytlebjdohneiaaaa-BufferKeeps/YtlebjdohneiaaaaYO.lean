import Derived.Test.YtlebjdohneiaaaaY8
import Derived.Deep.Slices
import Derived.Carry
import Derived.SizedLaws
namespace Go.Proofs.Ytlebjdohneiaaaa
open Go.ChangeShapes Go.WideShapes Go.ChangeAt Go.RowKit Go.Deep

theorem ownK : ownKnob Try.prog.godebug = none := by kernel_rfl
theorem laidOut : laidOutB Try.prog = true := by kernel_rfl
theorem cellsI : Try.prog.cellsOf 3 = 1 := by kernel_rfl
theorem cellsW : Try.prog.cellsOf 32 = 1 := by kernel_rfl
theorem cellsO : Try.prog.cellsOf 34 = 3 := by kernel_rfl
theorem nat_of_u64 {z : Int} (h : (Lit.int .u64 z).wf = true) : ∃ n : Nat, z = n ∧ n < 18446744073709551616 := by
  simp [Lit.wf, IntKind.min, IntKind.max, IntKind.signed, IntKind.bits] at h
  exact ⟨z.toNat, by omega, by omega⟩
/-- a script: len steps, each of two numbers and bits -/
def BopsAt (W : World) (ao : Option Addr) (len : Nat) (K C : Nat → Int) (X : Nat → Nat) : Prop :=
  ∀ i, i < len → ∃ b off, ao = some ⟨b, off, none⟩ ∧ b < W.heap.size ∧ W.cell? ⟨b, off + i * 3, none⟩ = some (.int .i64 (K i)) ∧ W.cell? ⟨b, off + i * 3 + 1, none⟩ = some (.int .i64 (C i)) ∧ W.cell? ⟨b, off + i * 3 + 2, none⟩ = some (.int .u64 ((X i : Nat) : Int)) ∧ (Lit.int .i64 (C i)).wf = true ∧ X i < 18446744073709551616
section
variable {H : Type} {enc : TypeId × Value → H}
theorem open_bops {W : World} {base : Nat} {v : Value} {d : DataW H} {ps : List MemPlace} (hval : Value.okWide Try.prog W .any base 28 v) (h : DataW.Trod enc Try.prog W 0 (fun _ => true) true 28 v d ps) :
    ∃ ao len cap K C X, v = .slice ao len cap ∧ len ≤ maxLen ∧ BopsAt W ao len K C X := by
  obtain ⟨a0, len, cap, rfl⟩ := okWide_slice Try.underlying28 hval
  obtain ⟨fuel, hf⟩ := h
  rcases open_slice Try.underlying28 hf with ⟨hcs, _⟩ | ⟨a, len', cap', m, n, D, Pl, hcs, _, hl, hm, hmm, _, hx⟩
  · simp [Value.cells] at hcs
    obtain ⟨rfl, rfl, rfl⟩ := hcs
    exact ⟨none, 0, 0, fun _ => 0, fun _ => 0, fun _ => 0, rfl, Nat.zero_le _, fun i hi => absurd hi (Nat.not_lt_zero i)⟩
  · simp [Value.cells] at hcs
    obtain ⟨rfl, rfl, rfl⟩ := hcs
    simp only [if_true] at hmm
    obtain ⟨b, off, spot⟩ := a
    have hs : 0 < len → spot = none := by
      intro h0
      obtain ⟨cs', h1, _⟩ := hx 0 (by omega)
      rw [cellsO] at h1
      obtain ⟨_, hlen, hcell⟩ := World.cells?_some h1
      match cs', hlen with
      | [c0, c1, c2], _ =>
        have f0 := hcell 0 (by omega)
        simpa [Addr.add] using World.cell?_spot f0
    have each : ∀ i, i < len → ∃ q : Int × Int × Nat, spot = none ∧ b < W.heap.size ∧ W.cell? ⟨b, off + i * 3, none⟩ = some (.int .i64 q.1) ∧ W.cell? ⟨b, off + i * 3 + 1, none⟩ = some (.int .i64 q.2.1) ∧ W.cell? ⟨b, off + i * 3 + 2, none⟩ = some (.int .u64 ((q.2.2 : Nat) : Int)) ∧ (Lit.int .i64 q.2.1).wf = true ∧ q.2.2 < 18446744073709551616 := by
      intro i hi
      obtain ⟨cs', h1, h2⟩ := hx i (by omega)
      rw [cellsO] at h1
      obtain ⟨_, hlen, hcell⟩ := World.cells?_some h1
      obtain ⟨xs, k, _, _, _, hxl, hg⟩ := DataW.trod_struct Try.underlying34 h2
      match xs, hxl, cs', hlen with
      | [y0, y1, y2], _, [c0, c1, c2], _ =>
        have g0 := hg 0 _ rfl
        have g1 := hg 1 _ rfl
        have g2 := hg 2 _ rfl
        simp [cellsI, cellsW] at g0 g1 g2
        obtain ⟨x0, e0, _, _⟩ := DataW.trod_int Try.underlying3 g0
        obtain ⟨x1, e1, _, hw1⟩ := DataW.trod_int Try.underlying3 g1
        obtain ⟨x2, e2, _, hwf⟩ := DataW.trod_int Try.underlying32 g2
        obtain ⟨z2, rfl, hz⟩ := nat_of_u64 hwf
        simp at e0 e1 e2
        subst e0 e1 e2
        have f0 := hcell 0 (by omega)
        have f1 := hcell 1 (by omega)
        have f2 := hcell 2 (by omega)
        rw [add_add] at f0 f1 f2
        have hspot := hs (by omega)
        subst hspot
        rw [Go.WideShapes.add_plain] at f0 f1 f2
        have hb := World.block_lt_of_cell? W _ f0
        exact ⟨(x0, x1, z2), rfl, hb, f0, f1, f2, hw1, hz⟩
    obtain ⟨q, hq⟩ := choose_lt each
    exact ⟨some ⟨b, off, spot⟩, len, cap, fun i => (q i).1, fun i => (q i).2.1, fun i => (q i).2.2, rfl, by omega, fun i hi => by
      obtain ⟨rfl, r⟩ := hq i hi
      exact ⟨b, off, rfl, r⟩⟩
end
end Go.Proofs.Ytlebjdohneiaaaa
