import Derived.Test.YtpimfhkigbcniaaW7
import Derived.Deep.Slices
import Derived.Carry
namespace Go.Proofs.Ytpimfhkigbcniaa
open Go.ChangeShapes Go.WideShapes Go.ChangeAt Go.RowKit Go.Deep

theorem ownK : ownKnob Try.prog.godebug = none := by kernel_rfl
theorem laidOut : laidOutB Try.prog = true := by kernel_rfl
theorem cellsI : Try.prog.cellsOf 3 = 1 := by kernel_rfl
section
variable {H : Type} {enc : TypeId × Value → H}
theorem cellsC : Try.prog.cellsOf 23 = 4 := by kernel_rfl
theorem open_cfg {W : World} {base : Nat} {v : Value} {d : DataW H} {ps : List MemPlace} (hval : Value.okWide Try.prog W .any base 23 v) (h : DataW.Trod enc Try.prog W 0 (fun _ => true) true 23 v d ps) :
    ∃ a b c e : Int, v = .agg #[.int .i64 a, .int .i64 b, .int .i64 c, .int .i64 e] := by
  obtain ⟨cs, rfl, hsz⟩ := okWide_struct Try.underlying23 hval
  rw [cellsC] at hsz
  obtain ⟨l⟩ := cs
  match l, hsz with
  | [c0, c1, c2, c3], _ =>
    obtain ⟨fuel, hf⟩ := h
    obtain ⟨xs, n, _, _, _, hlen, hg⟩ := DataW.trod_struct Try.underlying23 hf
    match xs, hlen with
    | [y0, y1, y2, y3], _ =>
      have g0 := hg 0 _ rfl
      have g1 := hg 1 _ rfl
      have g2 := hg 2 _ rfl
      have g3 := hg 3 _ rfl
      simp [cellsI, Value.cells] at g0 g1 g2 g3
      obtain ⟨a0, e0, _, _⟩ := DataW.trod_int Try.underlying3 g0
      obtain ⟨a1, e1, _, _⟩ := DataW.trod_int Try.underlying3 g1
      obtain ⟨a2, e2, _, _⟩ := DataW.trod_int Try.underlying3 g2
      obtain ⟨a3, e3, _, _⟩ := DataW.trod_int Try.underlying3 g3
      simp at e0 e1 e2 e3
      exact ⟨a0, a1, a2, a3, by rw [e0, e1, e2, e3]⟩
theorem cellsD : Try.prog.cellsOf 38 = 19 := by kernel_rfl
/-- deeds, handed in -/
def DeedsAt (W : World) (o : Option Addr) (l c : Nat) (ds : List Bo.Dn) : Prop := Bo.DnL W.heap.size W (.slice o l c) ds ∧ l = ds.length
theorem one_int (k : IntKind) (x : Int) : (Value.int k x).oneCell' = true := rfl
theorem cellsN : Try.prog.cellsOf 25 = 1 := by kernel_rfl
theorem cellsF : Try.prog.cellsOf 33 = 1 := by kernel_rfl
theorem cellsT : Try.prog.cellsOf 34 = 1 := by kernel_rfl
theorem cellsE : Try.prog.cellsOf 36 = 3 := by kernel_rfl
theorem open_one {W : World} {T e : TypeId} {n : Nat} {v : Value} {x : DataW H × List MemPlace} (hu : Try.prog.underlying T = some (.slice e)) (h : DataW.trod enc Try.prog W 0 (fun _ => true) true n T [v] = some x) : v.oneCell' = true := by
  rcases open_slice hu h with ⟨hcs, _⟩ | ⟨a, len', cap', m, n, D, Pl, hcs, _⟩
  · simp at hcs; subst hcs; rfl
  · simp at hcs; subst hcs; rfl
theorem open_end {W : World} {n : Nat} {u v t : Value} {x : DataW H × List MemPlace} (h : DataW.trod enc Try.prog W 0 (fun _ => true) true n 36 [u, v, t] = some x) : u.oneCell' = true ∧ v.oneCell' = true ∧ t.oneCell' = true := by
  obtain ⟨xs, k, _, _, _, hxl, hg⟩ := DataW.trod_struct Try.underlying36 h
  match xs, hxl with
  | [y0, y1, y2], _ =>
    have g0 := hg 0 _ rfl
    have g1 := hg 1 _ rfl
    have g2 := hg 2 _ rfl
    simp [cellsI, cellsN] at g0 g1 g2
    obtain ⟨x0, e0, _, _⟩ := DataW.trod_int Try.underlying3 g0
    obtain ⟨x1, e1, _, _⟩ := DataW.trod_int Try.underlying3 g1
    obtain ⟨x2, e2, _, _⟩ := DataW.trod_int Try.underlying25 g2
    simp at e0 e1 e2
    subst e0 e1 e2
    exact ⟨rfl, rfl, rfl⟩
theorem open_deeds {W : World} {base : Nat} {v : Value} {d : DataW H} {ps : List MemPlace} (hval : Value.okWide Try.prog W .any base 30 v) (h : DataW.Trod enc Try.prog W 0 (fun _ => true) true 30 v d ps) :
    ∃ ao len cap ds, v = .slice ao len cap ∧ len ≤ maxLen ∧ DeedsAt W ao len cap ds := by
  obtain ⟨a0, len, cap, rfl⟩ := okWide_slice Try.underlying30 hval
  obtain ⟨fuel, hf⟩ := h
  rcases open_slice Try.underlying30 hf with ⟨hcs, _⟩ | ⟨a, len', cap', m, n, D, Pl, hcs, _, hl, hm, hmm, _, hx⟩
  · simp [Value.cells] at hcs
    obtain ⟨rfl, rfl, rfl⟩ := hcs
    exact ⟨none, 0, 0, [], rfl, Nat.zero_le _, .inl ⟨rfl, none, 0, rfl⟩, rfl⟩
  · simp [Value.cells] at hcs
    obtain ⟨rfl, rfl, rfl⟩ := hcs
    simp only [if_true] at hmm
    obtain ⟨b, off, spot⟩ := a
    have hs : 0 < len → spot = none := by
      intro h0
      obtain ⟨cs', h1, _⟩ := hx 0 (by omega)
      rw [cellsD] at h1
      obtain ⟨_, hlen, hcell⟩ := World.cells?_some h1
      match cs', hlen with
      | c0 :: _, _ =>
        have f0 := hcell 0 (by omega)
        simpa [Addr.add] using World.cell?_spot f0
    have each : ∀ i, i < len → ∃ q : Int × Int × Int × Int × Int × Int, spot = none ∧ b < W.heap.size ∧ ∃ cs : Array Value, (∀ j, j < 19 → W.cell? ⟨b, off + i * 19 + j, none⟩ = cs[j]?) ∧ Bo.DnC cs ⟨q.1, q.2.1, q.2.2.1, q.2.2.2.1, q.2.2.2.2.1, q.2.2.2.2.2⟩ := by
      intro i hi
      obtain ⟨cs', h1, h2⟩ := hx i (by omega)
      rw [cellsD] at h1
      obtain ⟨_, hlen, hcell⟩ := World.cells?_some h1
      obtain ⟨xs, k, _, _, _, hxl, hg⟩ := DataW.trod_struct Try.underlying38 h2
      match xs, hxl, cs', hlen with
      | [y0, y1, y2, y3, y4, y5, y6, y7, y8, y9, y10, y11, y12, y13, y14, y15, y16], _, [c0, c1, c2, c3, c4, c5, c6, c7, c8, c9, c10, c11, c12, c13, c14, c15, c16, c17, c18], _ =>
        have g0 := hg 0 _ rfl
        have g1 := hg 1 _ rfl
        have g2 := hg 2 _ rfl
        have g3 := hg 3 _ rfl
        have g4 := hg 4 _ rfl
        have g5 := hg 5 _ rfl
        have g6 := hg 6 _ rfl
        have g7 := hg 7 _ rfl
        have g8 := hg 8 _ rfl
        have g9 := hg 9 _ rfl
        have g10 := hg 10 _ rfl
        have g11 := hg 11 _ rfl
        have g12 := hg 12 _ rfl
        have g13 := hg 13 _ rfl
        have g14 := hg 14 _ rfl
        have g15 := hg 15 _ rfl
        have g16 := hg 16 _ rfl
        simp [cellsI, cellsF, cellsT, cellsE] at g0 g1 g2 g3 g4 g5 g6 g7 g8 g9 g10 g11 g12 g13 g14 g15 g16
        obtain ⟨x0, e0, _, _⟩ := DataW.trod_int Try.underlying3 g0
        simp at e0
        obtain ⟨x1, e1, _, _⟩ := DataW.trod_int Try.underlying3 g1
        simp at e1
        obtain ⟨x2, e2, _, _⟩ := DataW.trod_int Try.underlying3 g2
        simp at e2
        obtain ⟨x3, e3, _, _⟩ := DataW.trod_int Try.underlying3 g3
        simp at e3
        have e4 := open_one Try.underlying33 g4
        obtain ⟨x5, e5, _, _⟩ := DataW.trod_int Try.underlying3 g5
        simp at e5
        obtain ⟨x6, e6, _, _⟩ := DataW.trod_int Try.underlying3 g6
        simp at e6
        have e7 := open_one Try.underlying34 g7
        have e8 := open_one Try.underlying34 g8
        have e9 := open_one Try.underlying33 g9
        obtain ⟨e10, e11, e12⟩ := open_end g10
        obtain ⟨x13, e13, _, _⟩ := DataW.trod_int Try.underlying3 g11
        simp at e13
        obtain ⟨x14, e14, _, _⟩ := DataW.trod_int Try.underlying3 g12
        simp at e14
        obtain ⟨x15, e15, _, _⟩ := DataW.trod_int Try.underlying3 g13
        simp at e15
        obtain ⟨x16, e16, _, _⟩ := DataW.trod_int Try.underlying3 g14
        simp at e16
        obtain ⟨x17, e17, _, _⟩ := DataW.trod_int Try.underlying3 g15
        simp at e17
        obtain ⟨x18, e18, _, _⟩ := DataW.trod_int Try.underlying3 g16
        simp at e18
        subst e0 e1 e2 e3 e5 e6 e13 e14 e15 e16 e17 e18
        have hspot := hs (by omega)
        subst hspot
        have f0 := hcell 0 (by omega)
        rw [Go.WideShapes.add_plain, Go.WideShapes.add_plain] at f0
        refine ⟨(x3, x5, x15, x16, x17, x18), rfl, World.block_lt_of_cell? W _ f0, #[.int .i64 x0, .int .i64 x1, .int .i64 x2, .int .i64 x3, c4, .int .i64 x5, .int .i64 x6, c7, c8, c9, c10, c11, c12, .int .i64 x13, .int .i64 x14, .int .i64 x15, .int .i64 x16, .int .i64 x17, .int .i64 x18], fun j hj => ?_, ⟨rfl, ?_, rfl, rfl, rfl, rfl, rfl, rfl⟩⟩
        · have f := hcell j hj
          rw [Go.WideShapes.add_plain, Go.WideShapes.add_plain] at f
          rw [f]
          simp
        · simp [one_int, e4, e7, e8, e9, e10, e11, e12]
    by_cases h0 : 0 < len
    · obtain ⟨q, hq⟩ := choose_lt each
      obtain rfl := hs h0
      refine ⟨some ⟨b, off, none⟩, len, cap, (List.range len).map (fun i => ⟨(q i).1, (q i).2.1, (q i).2.2.1, (q i).2.2.2.1, (q i).2.2.2.2.1, (q i).2.2.2.2.2⟩), rfl, by omega, .inr ⟨b, off, cap, by simp, (hq 0 h0).2.1, fun k d hk => ?_⟩, by simp⟩
      have hk' : k < len := by
        have := (List.getElem?_eq_some_iff.1 hk).1
        simpa using this
      obtain ⟨_, _, cs, h1, h2⟩ := hq k hk'
      have : (⟨(q k).1, (q k).2.1, (q k).2.2.1, (q k).2.2.2.1, (q k).2.2.2.2.1, (q k).2.2.2.2.2⟩ : Bo.Dn) = d := by simpa [hk'] using hk
      exact ⟨cs, h1, this ▸ h2⟩
    · obtain rfl : len = 0 := by omega
      exact ⟨_, 0, cap, [], rfl, Nat.zero_le _, .inl ⟨rfl, _, _, rfl⟩, rfl⟩
end
end Go.Proofs.Ytpimfhkigbcniaa
