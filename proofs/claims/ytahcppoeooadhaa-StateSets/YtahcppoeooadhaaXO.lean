import Derived.Test.YtahcppoeooadhaaXB
import Derived.Deep.Slices
import Derived.Carry
import Derived.SizedLaws
namespace Go.Proofs.Ytahcppoeooadhaa
open Go.ChangeShapes Go.WideShapes Go.ChangeAt Go.RowKit Go.Deep

theorem ownK : ownKnob Try.prog.godebug = none := by kernel_rfl
theorem laidOut : laidOutB Try.prog = true := by kernel_rfl
theorem cellsI : Try.prog.cellsOf 3 = 1 := by kernel_rfl
theorem cellsW : Try.prog.cellsOf 40 = 1 := by kernel_rfl
theorem bytesW : Try.prog.bytesOf 40 = 8 := by kernel_rfl
theorem cellsP : Try.prog.cellsOf 77 = 2 := by kernel_rfl
theorem bytesP : Try.prog.bytesOf 77 = 16 := by kernel_rfl
theorem cellsL : Try.prog.cellsOf 57 = 1 := by kernel_rfl
theorem cellsO : Try.prog.cellsOf 59 = 4 := by kernel_rfl
theorem nat_of_u64 {z : Int} (h : (Lit.int .u64 z).wf = true) : ∃ n : Nat, z = n ∧ n < 18446744073709551616 := by
  simp [Lit.wf, IntKind.min, IntKind.max, IntKind.signed, IntKind.bits] at h
  exact ⟨z.toNat, by omega, by omega⟩
section
variable {H : Type} {enc : TypeId × Value → H}
theorem open_bits {W : World} {base : Nat} {v : Value} {d : DataW H} {ps : List MemPlace} (hval : Value.okWide Try.prog W .any base 34 v) (h : DataW.Trod enc Try.prog W 0 (fun _ => true) true 34 v d ps) :
    ∃ ao cap l, v = .slice ao l.length cap ∧ (l.length ≤ maxLen ∧ ∀ i, i < l.length → l.getD i 0 < 18446744073709551616) ∧ (∀ {ts : List TypeId} {ds : List (DataW H)}, (DataW.weightsEach Try.prog ts ds).all (· ≤ reachBytes) = true → ∀ {j : Nat}, ts[j]? = some 34 → ds[j]? = some d → l.length * 8 ≤ reachBytes) ∧ BitsAt W ao l := by
  obtain ⟨a0, len, cap, rfl⟩ := okWide_slice Try.underlying34 hval
  obtain ⟨fuel, hf⟩ := h
  rcases open_slice1 Try.underlying34 cellsW hf with ⟨hcs, _⟩ | ⟨a, len', cap', m, n, V, D, Pl, hcs, _, hl, hm, hmm, hd, hx⟩
  · simp [Value.cells] at hcs
    obtain ⟨rfl, rfl, rfl⟩ := hcs
    exact ⟨none, 0, [], rfl, ⟨Nat.zero_le _, fun i hi => absurd hi (Nat.not_lt_zero i)⟩, fun _ _ _ _ => by simp, fun i hi => absurd hi (Nat.not_lt_zero i)⟩
  · simp [Value.cells] at hcs
    obtain ⟨rfl, rfl, rfl⟩ := hcs
    simp only [if_true] at hmm
    have hd1 : d = .slice ((List.range len).map D) ((List.range (m - len)).map fun j => D (len + j)) := congrArg Prod.fst hd
    obtain ⟨b, off, spot⟩ := a
    have hs : 0 < len → spot = none := by
      intro h0
      obtain ⟨h1, _⟩ := hx 0 (by omega)
      simpa [Addr.add] using World.cell?_spot h1
    have each : ∀ i, i < len → ∃ q : Nat, spot = none ∧ b < W.heap.size ∧ q < 18446744073709551616 ∧ W.cell? ⟨b, off + i, none⟩ = some (.int .u64 (q : Int)) := by
      intro i hi
      obtain ⟨h1, h2⟩ := hx i (by omega)
      obtain ⟨z, e, _, hwf⟩ := DataW.trod_int Try.underlying40 h2
      obtain ⟨q, rfl, hq⟩ := nat_of_u64 hwf
      simp at e
      rw [e] at h1
      have hs := hs (by omega)
      subst hs
      rw [Go.WideShapes.add_plain] at h1
      exact ⟨q, rfl, World.block_lt_of_cell? W _ h1, hq, h1⟩
    obtain ⟨q, hq⟩ := choose_lt each
    have hlen : ((List.range len).map q).length = len := by simp
    have hget : ∀ i, i < len → ((List.range len).map q).getD i 0 = q i := fun i hi => by simp [hi]
    refine ⟨some ⟨b, off, spot⟩, cap, (List.range len).map q, by rw [hlen], ⟨by rw [hlen]; omega, fun i hi => ?_⟩, fun {ts ds} hz {j} h1 h2 => ?_, fun i hi => ?_⟩
    · rw [hlen] at hi
      rw [hget i hi]
      exact (hq i hi).2.2.1
    · rw [hd1] at h2
      have := sized_slice hz h1 h2 Try.underlying34
      rw [bytesW] at this
      simp at this
      rw [hlen]
      omega
    · rw [hlen] at hi
      obtain ⟨rfl, r1, _, r3⟩ := hq i hi
      exact ⟨b, off, rfl, r1, by rw [hget i hi]; exact r3⟩
theorem open_puts {W : World} {fuel : Nat} {cs : List Value} {x : DataW H × List MemPlace} (hf : DataW.trod enc Try.prog W 0 (fun _ => true) true fuel 57 cs = some x) :
    ∃ (ao : Option Addr) (cap : Nat) (l : List (Int × Nat)), cs = [.slice ao l.length cap] ∧ PutsAt W ao l ∧ ((∀ z ∈ x.1.weights Try.prog 57, z ≤ reachBytes) → l.length * 16 ≤ reachBytes) := by
  rcases open_slice Try.underlying57 hf with ⟨hcs, _⟩ | ⟨a, len, cap, m, n, D, Pl, hcs, _, hl, hm, hmm, hd, hx⟩
  · exact ⟨none, 0, [], hcs, fun i hi => absurd hi (Nat.not_lt_zero i), fun _ => by simp⟩
  · simp only [if_true] at hmm
    have hd1 : x.1 = .slice ((List.range len).map D) ((List.range (m - len)).map fun j => D (len + j)) := congrArg Prod.fst hd
    obtain ⟨b, off, spot⟩ := a
    have hs : 0 < len → spot = none := by
      intro h0
      obtain ⟨cs', h1, _⟩ := hx 0 (by omega)
      rw [cellsP] at h1
      obtain ⟨_, hlen, hcell⟩ := World.cells?_some h1
      match cs', hlen with
      | [c0, c1], _ =>
        have f0 := hcell 0 (by omega)
        simpa [Addr.add] using World.cell?_spot f0
    have each : ∀ i, i < len → ∃ q : Int × Nat, spot = none ∧ b < W.heap.size ∧ W.cell? ⟨b, off + i * 2, none⟩ = some (.int .i64 q.1) ∧ W.cell? ⟨b, off + i * 2 + 1, none⟩ = some (.int .u64 ((q.2 : Nat) : Int)) := by
      intro i hi
      obtain ⟨cs', h1, h2⟩ := hx i (by omega)
      rw [cellsP] at h1
      obtain ⟨_, hlen, hcell⟩ := World.cells?_some h1
      obtain ⟨xs, k, _, _, _, hxl, hg⟩ := DataW.trod_struct Try.underlying77 h2
      match xs, hxl, cs', hlen with
      | [y0, y1], _, [c0, c1], _ =>
        have g0 := hg 0 _ rfl
        have g1 := hg 1 _ rfl
        simp [cellsI, cellsW] at g0 g1
        obtain ⟨x0, e0, _, _⟩ := DataW.trod_int Try.underlying3 g0
        obtain ⟨x1, e1, _, hwf⟩ := DataW.trod_int Try.underlying40 g1
        obtain ⟨q, rfl, _⟩ := nat_of_u64 hwf
        simp at e0 e1
        subst e0 e1
        have f0 := hcell 0 (by omega)
        have f1 := hcell 1 (by omega)
        rw [add_add] at f0 f1
        have hspot := hs (by omega)
        subst hspot
        rw [Go.WideShapes.add_plain] at f0 f1
        have hb := World.block_lt_of_cell? W _ f0
        exact ⟨(x0, q), rfl, hb, f0, f1⟩
    obtain ⟨q, hq⟩ := choose_lt each
    have hlen : ((List.range len).map q).length = len := by simp
    have hget : ∀ i, i < len → ((List.range len).map q).getD i (0, 0) = q i := fun i hi => by simp [hi]
    refine ⟨some ⟨b, off, spot⟩, cap, (List.range len).map q, by rw [hlen]; exact hcs, fun i hi => ?_, fun hz => ?_⟩
    · rw [hlen] at hi
      obtain ⟨rfl, r1, r2, r3⟩ := hq i hi
      exact ⟨b, off, rfl, r1, by rw [hget i hi]; exact r2, by rw [hget i hi]; exact r3⟩
    · have := hz ((len + (m - len)) * 16) (by
        rw [hd1]
        simp [DataW.weights, Try.underlying57, bytesP])
      rw [hlen]
      omega
/-- a script: len steps, each of two numbers, bits, and cells with bits -/
def ScrAt (W : World) (ao : Option Addr) (len : Nat) (K C : Nat → Int) (X : Nat → Nat) (P : Nat → Option Addr) (Q : Nat → Nat) (L : Nat → List (Int × Nat)) : Prop :=
  ∀ i, i < len → ∃ b off, ao = some ⟨b, off, none⟩ ∧ b < W.heap.size ∧ W.cell? ⟨b, off + i * 4, none⟩ = some (.int .i64 (K i)) ∧ W.cell? ⟨b, off + i * 4 + 1, none⟩ = some (.int .i64 (C i)) ∧ W.cell? ⟨b, off + i * 4 + 2, none⟩ = some (.int .u64 ((X i : Nat) : Int)) ∧ W.cell? ⟨b, off + i * 4 + 3, none⟩ = some (.slice (P i) (L i).length (Q i)) ∧ PutsAt W (P i) (L i)
theorem weights_all {P : Program} {e : TypeId} {d : DataW H} {z : Nat} : ∀ {l : List (DataW H)}, d ∈ l → z ∈ d.weights P e → z ∈ DataW.weightsAll P e l := by
  intro l
  induction l with
  | nil => intro h; cases h
  | cons a l ih =>
    intro h hz
    simp only [DataW.weightsAll, List.mem_append]
    rcases List.mem_cons.1 h with rfl | q
    · exact .inl hz
    · exact .inr (ih q hz)
set_option maxRecDepth 100000 in
theorem open_scr {W : World} {base : Nat} {v : Value} {d : DataW H} {ps : List MemPlace} (hval : Value.okWide Try.prog W .any base 28 v) (h : DataW.Trod enc Try.prog W 0 (fun _ => true) true 28 v d ps) :
    ∃ ao len cap K C X P Q L, v = .slice ao len cap ∧ len ≤ maxLen ∧ (∀ {ts : List TypeId} {ds : List (DataW H)}, (DataW.weightsEach Try.prog ts ds).all (· ≤ reachBytes) = true → ∀ {j : Nat}, ts[j]? = some 28 → ds[j]? = some d → ∀ i, i < len → (L i).length * 16 ≤ reachBytes) ∧ ScrAt W ao len K C X P Q L := by
  obtain ⟨a0, len, cap, rfl⟩ := okWide_slice Try.underlying28 hval
  obtain ⟨fuel, hf⟩ := h
  rcases open_slice Try.underlying28 hf with ⟨hcs, _⟩ | ⟨a, len', cap', m, n, D, Pl, hcs, _, hl, hm, hmm, hd, hx⟩
  · simp [Value.cells] at hcs
    obtain ⟨rfl, rfl, rfl⟩ := hcs
    exact ⟨none, 0, 0, fun _ => 0, fun _ => 0, fun _ => 0, fun _ => none, fun _ => 0, fun _ => [], rfl, Nat.zero_le _, fun _ _ _ _ i hi => absurd hi (Nat.not_lt_zero i), fun i hi => absurd hi (Nat.not_lt_zero i)⟩
  · simp [Value.cells] at hcs
    obtain ⟨rfl, rfl, rfl⟩ := hcs
    simp only [if_true] at hmm
    have hd1 : d = .slice ((List.range len).map D) ((List.range (m - len)).map fun j => D (len + j)) := congrArg Prod.fst hd
    obtain ⟨b, off, spot⟩ := a
    have hs : 0 < len → spot = none := by
      intro h0
      obtain ⟨cs', h1, _⟩ := hx 0 (by omega)
      rw [cellsO] at h1
      obtain ⟨_, hlen, hcell⟩ := World.cells?_some h1
      match cs', hlen with
      | [c0, c1, c2, c3], _ =>
        have f0 := hcell 0 (by omega)
        simpa [Addr.add] using World.cell?_spot f0
    have each : ∀ i, i < len → ∃ q : Int × Int × Nat × Option Addr × Nat × List (Int × Nat), spot = none ∧ b < W.heap.size ∧ W.cell? ⟨b, off + i * 4, none⟩ = some (.int .i64 q.1) ∧ W.cell? ⟨b, off + i * 4 + 1, none⟩ = some (.int .i64 q.2.1) ∧ W.cell? ⟨b, off + i * 4 + 2, none⟩ = some (.int .u64 ((q.2.2.1 : Nat) : Int)) ∧ W.cell? ⟨b, off + i * 4 + 3, none⟩ = some (.slice q.2.2.2.1 q.2.2.2.2.2.length q.2.2.2.2.1) ∧ PutsAt W q.2.2.2.1 q.2.2.2.2.2 ∧ ((∀ z ∈ (D i).weights Try.prog 59, z ≤ reachBytes) → q.2.2.2.2.2.length * 16 ≤ reachBytes) := by
      intro i hi
      obtain ⟨cs', h1, h2⟩ := hx i (by omega)
      rw [cellsO] at h1
      obtain ⟨_, hlen, hcell⟩ := World.cells?_some h1
      obtain ⟨xs, k, _, hxx, _, hxl, hg⟩ := DataW.trod_struct Try.underlying59 h2
      match xs, hxl, cs', hlen with
      | [y0, y1, y2, y3], _, [c0, c1, c2, c3], _ =>
        have g0 := hg 0 _ rfl
        have g1 := hg 1 _ rfl
        have g2 := hg 2 _ rfl
        have g3 := hg 3 _ rfl
        simp [cellsI, cellsW, cellsL] at g0 g1 g2 g3
        have hD : D i = .agg [y0.1, y1.1, y2.1, y3.1] := congrArg Prod.fst hxx
        obtain ⟨x0, e0, _, _⟩ := DataW.trod_int Try.underlying3 g0
        obtain ⟨x1, e1, _, _⟩ := DataW.trod_int Try.underlying3 g1
        obtain ⟨x2, e2, _, hwf⟩ := DataW.trod_int Try.underlying40 g2
        obtain ⟨z2, rfl, _⟩ := nat_of_u64 hwf
        obtain ⟨ao, cp, l, e3, hp, hw⟩ := open_puts g3
        simp at e0 e1 e2 e3
        subst e0 e1 e2 e3
        have f0 := hcell 0 (by omega)
        have f1 := hcell 1 (by omega)
        have f2 := hcell 2 (by omega)
        have f3 := hcell 3 (by omega)
        rw [add_add] at f0 f1 f2 f3
        have hspot := hs (by omega)
        subst hspot
        rw [Go.WideShapes.add_plain] at f0 f1 f2 f3
        have hb := World.block_lt_of_cell? W _ f0
        refine ⟨(x0, x1, z2, ao, cp, l), rfl, hb, f0, f1, f2, f3, hp, fun hz => hw (fun z hzz => hz z ?_)⟩
        rw [hD]
        simp only [DataW.weights, Try.underlying59]
        exact DataW.weights_mem_each (ts := _) (ds := [y0.1, y1.1, y2.1, y3.1]) (j := 3) rfl rfl z hzz
    obtain ⟨q, hq⟩ := choose_lt each
    refine ⟨some ⟨b, off, spot⟩, len, cap, fun i => (q i).1, fun i => (q i).2.1, fun i => (q i).2.2.1, fun i => (q i).2.2.2.1, fun i => (q i).2.2.2.2.1, fun i => (q i).2.2.2.2.2, rfl, by omega, fun {ts ds} hz {j} h1 h2 i hi => ?_, fun i hi => by
      obtain ⟨rfl, r1, r2, r3, r4, r5, r6, _⟩ := hq i hi
      exact ⟨b, off, rfl, r1, r2, r3, r4, r5, r6⟩⟩
    refine (hq i hi).2.2.2.2.2.2.2 (fun z hzz => ?_)
    rw [hd1] at h2
    have hmem : z ∈ DataW.weights Try.prog 28 (.slice ((List.range len).map D) ((List.range (m - len)).map fun j => D (len + j))) := by
      simp only [DataW.weights, Try.underlying28]
      exact List.mem_cons_of_mem _ (List.mem_append_left _ (weights_all (List.mem_map.2 ⟨i, List.mem_range.2 hi, rfl⟩) hzz))
    have := List.all_eq_true.1 hz _ (DataW.weights_mem_each h1 h2 z hmem)
    simpa using this
end
end Go.Proofs.Ytahcppoeooadhaa
