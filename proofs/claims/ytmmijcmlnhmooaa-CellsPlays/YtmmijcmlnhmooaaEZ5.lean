import Derived.Test.YtmmijcmlnhmooaaER
import Derived.Test.YtmmijcmlnhmooaaEO
import Derived.Test.YtmmijcmlnhmooaaM10
namespace Go.Proofs.Ytmmijcmlnhmooaa
open Go.ChangeShapes Go.WideShapes Go.ChangeAt Go.RowKit Go.Deep

theorem words_all {w : World} {ga B gv cv : Nat} {l : List Int} (hl : l.length ≤ 4096) (ha : RowAt w ga l) (hb : w.ownsRow B 22 1 (.slice (some ⟨gv, 0, none⟩) l.length cv) l.length (u64s l)) :
    Calls Try.prog 16 #[.slice (some ⟨ga, 0, none⟩) l.length l.length, .slice (some ⟨gv, 0, none⟩) l.length cv] w fun e w' => e = .returned (.bool true) ∧ Below w.heap.size w w' := by
  refine words_cells l.length ga gv l.length cv (fun i => l.getD i 0) w hl (fun i hi => ?_) (fun i hi => ?_)
  · rw [ha.word hi]; simp [hi]
  · rw [World.ownsRow.cellAt hb i (by omega)]; simp [u64s, hi]
/-- the law's world at its beginning -/
theorem goes_new {W w1 w2 w3 u : World} {bm gm bd gd bx : Nat} {ws : List Int} (hb : Below W.heap.size W w1) (hm : MemAt 90 w2 bm gm ws false 0) (h1 : w1.heap.size ≤ bm ∧ w1.heap.size ≤ gm) (hb2 : Below w1.heap.size w1 w2) (hr : MemAt 92 w3 bd gd ws false 0) (h2 : w2.heap.size ≤ bd ∧ w2.heap.size ≤ gd) (hb3 : Below w2.heap.size w2 w3) (k : Below w3.heap.size w3 u) (hx : w3.heap.size ≤ bx)
    (box : u.heap[bx]? = some (.cells #[.pointer (some ⟨bm, 0, none⟩), .pointer (some ⟨bd, 0, none⟩), .pointer none, .pointer none, .pointer none, .pointer none, .pointer none, .pointer none, .pointer none, .pointer none] 49 (0, 0))) : Goes W u bx (bm, bd) := by
  have a1 := hm.ltB
  have a2 := hm.ltG
  have a3 := hr.ltB
  have a4 := hr.ltG
  have s1 := hb.size
  have s2 := hb2.size
  have s3 := hb3.size
  have s4 := k.size
  have s5 := lt_of_block box
  refine ⟨fun j => if j = bx then 1 else if j = bm ∨ j = gm then 2 else if j = bd ∨ j = gd then 3 else 0, ⟨bm, gm, bd, gd, fun _ => none, fun _ => none, fun _ => none, fun _ => none⟩, ws, false, 0, ⟨below_chain (below_chain (below_chain hb hb2) hb3) k, fun j hj => ?_, fun j hj => ?_, box, by simp, (hm.on hb3).on k, ⟨?_, ?_⟩, hr.on k, ⟨?_, ?_⟩, fun i hi q e => (by cases e), fun i hi q e => (by cases e), fun i hi q e => (by cases e), fun i hi q e => (by cases e)⟩, ⟨⟨rfl, rfl⟩, fun i hi => .inl ⟨rfl, rfl⟩, fun i hi => .inl ⟨rfl, rfl⟩⟩⟩
  · rw [if_neg (by omega), if_neg (by omega), if_neg (by omega)]
  · rw [if_neg (by omega), if_neg (by omega), if_neg (by omega)]
  · show (if bm = bx then 1 else if bm = bm ∨ bm = gm then 2 else if bm = bd ∨ bm = gd then 3 else 0) = 2
    rw [if_neg (by omega), if_pos (by omega)]
  · show (if gm = bx then 1 else if gm = bm ∨ gm = gm then 2 else if gm = bd ∨ gm = gd then 3 else 0) = 2
    rw [if_neg (by omega), if_pos (by omega)]
  · show (if bd = bx then 1 else if bd = bm ∨ bd = gm then 2 else if bd = bd ∨ bd = gd then 3 else 0) = 3
    rw [if_neg (by omega), if_neg (by omega), if_pos (by omega)]
  · show (if gd = bx then 1 else if gd = bm ∨ gd = gm then 2 else if gd = bd ∨ gd = gd then 3 else 0) = 3
    rw [if_neg (by omega), if_neg (by omega), if_pos (by omega)]
theorem new_ex (n : Nat) (h1 : 1 ≤ n) (h2 : n ≤ 4096) (w : World) : Calls Try.prog 12 #[.int .i64 n] w fun e w' => ∃ b g, e = .returned (.tuple #[.pointer (some ⟨b, 0, none⟩), .int .i64 0]) ∧ (w.heap.size ≤ b ∧ w.heap.size ≤ g) ∧ MemAt 90 w' b g (List.replicate n 0) false 0 ∧ Below w.heap.size w w' := (new_some n h1 h2 w).mono fun _ _ ⟨q1, q2, q3⟩ => ⟨_, _, q1, ⟨by omega, by omega⟩, q2, q3⟩
theorem refNew_ex (n : Nat) (h1 : 1 ≤ n) (h2 : n ≤ 4096) (w : World) : Calls Try.prog 13 #[.int .i64 n] w fun e w' => ∃ b g, e = .returned (.tuple #[.pointer (some ⟨b, 0, none⟩), .int .i64 0]) ∧ (w.heap.size ≤ b ∧ w.heap.size ≤ g) ∧ MemAt 92 w' b g (List.replicate n 0) false 0 ∧ Below w.heap.size w w' := (refNew_some n h1 h2 w).mono fun _ _ ⟨q1, q2, q3⟩ => ⟨_, _, q1, ⟨by omega, by omega⟩, q2, q3⟩
/-- a script: len steps of eight fields, the last a list of words -/
def CopsAt (W : World) (ao : Option Addr) (len : Nat) (K I P C V X Y : Nat → Int) (Q : Nat → Option Addr) (R : Nat → Nat) (L : Nat → List Nat) : Prop :=
  ∀ i, i < len → ∃ b off, ao = some ⟨b, off, none⟩ ∧ b < W.heap.size ∧ W.cell? ⟨b, off + i * 8, none⟩ = some (.int .i64 (K i)) ∧ W.cell? ⟨b, off + i * 8 + 1, none⟩ = some (.int .i64 (I i)) ∧ W.cell? ⟨b, off + i * 8 + 2, none⟩ = some (.int .i64 (P i)) ∧ W.cell? ⟨b, off + i * 8 + 3, none⟩ = some (.int .i64 (C i)) ∧ W.cell? ⟨b, off + i * 8 + 4, none⟩ = some (.int .u64 (V i)) ∧ W.cell? ⟨b, off + i * 8 + 5, none⟩ = some (.int .u64 (X i)) ∧ W.cell? ⟨b, off + i * 8 + 6, none⟩ = some (.int .u64 (Y i)) ∧ W.cell? ⟨b, off + i * 8 + 7, none⟩ = some (.slice (Q i) (L i).length (R i)) ∧ BitsAt W (Q i) (L i)
section
variable {H : Type} {enc : TypeId × Value → H}
theorem weights_all {P : Program} {e : TypeId} {d : DataW H} {z : Nat} : ∀ {l : List (DataW H)}, d ∈ l → z ∈ d.weights P e → z ∈ DataW.weightsAll P e l := by
  intro l
  induction l with
  | nil => intro h; cases h
  | cons a l ih =>
    intro h hz
    simp only [DataW.weightsAll, List.mem_append]
    rcases List.mem_cons.1 h with rfl | q
    · exact .inl hz
    · exact .inr (ih q hz)
/-- a step as numbers -/
structure Cop where
  k : Int
  i : Int
  p : Int
  c : Int
  v : Int
  x : Int
  y : Int
  q : Option Addr
  r : Nat
  l : List Nat
set_option maxRecDepth 100000 in
theorem open_cops {W : World} {base : Nat} {v : Value} {d : DataW H} {ps : List MemPlace} (hval : Value.okWide Try.prog W .any base 33 v) (h : DataW.Trod enc Try.prog W 0 (fun _ => true) true 33 v d ps) :
    ∃ ao len cap K I P C V X Y Q R L, v = .slice ao len cap ∧ len ≤ maxLen ∧ (∀ {ts : List TypeId} {ds : List (DataW H)}, (DataW.weightsEach Try.prog ts ds).all (· ≤ reachBytes) = true → ∀ {j : Nat}, ts[j]? = some 33 → ds[j]? = some d → ∀ i, i < len → (L i).length * 8 ≤ reachBytes) ∧ CopsAt W ao len K I P C V X Y Q R L := by
  haveI : Inhabited Cop := ⟨⟨0, 0, 0, 0, 0, 0, 0, none, 0, []⟩⟩
  obtain ⟨a0, len, cap, rfl⟩ := okWide_slice Try.underlying33 hval
  obtain ⟨fuel, hf⟩ := h
  rcases open_slice Try.underlying33 hf with ⟨hcs, _⟩ | ⟨a, len', cap', m, n, D, Pl, hcs, _, hl, hm, hmm, hd, hx⟩
  · simp [Value.cells] at hcs
    obtain ⟨rfl, rfl, rfl⟩ := hcs
    exact ⟨none, 0, 0, fun _ => 0, fun _ => 0, fun _ => 0, fun _ => 0, fun _ => 0, fun _ => 0, fun _ => 0, fun _ => none, fun _ => 0, fun _ => [], rfl, Nat.zero_le _, fun _ _ _ _ i hi => absurd hi (Nat.not_lt_zero i), fun i hi => absurd hi (Nat.not_lt_zero i)⟩
  · simp [Value.cells] at hcs
    obtain ⟨rfl, rfl, rfl⟩ := hcs
    simp only [if_true] at hmm
    have hd1 : d = .slice ((List.range len).map D) ((List.range (m - len)).map fun j => D (len + j)) := congrArg Prod.fst hd
    obtain ⟨b, off, spot⟩ := a
    have hs : 0 < len → spot = none := by
      intro h0
      obtain ⟨cs', h1, _⟩ := hx 0 (by omega)
      rw [cellsOp] at h1
      obtain ⟨_, hlen, hcell⟩ := World.cells?_some h1
      match cs', hlen with
      | [c0, c1, c2, c3, c4, c5, c6, c7], _ =>
        have f0 := hcell 0 (by omega)
        simpa [Addr.add] using World.cell?_spot f0
    have each : ∀ i, i < len → ∃ q : Cop, spot = none ∧ b < W.heap.size ∧ (W.cell? ⟨b, off + i * 8, none⟩ = some (.int .i64 q.k) ∧ W.cell? ⟨b, off + i * 8 + 1, none⟩ = some (.int .i64 q.i) ∧ W.cell? ⟨b, off + i * 8 + 2, none⟩ = some (.int .i64 q.p) ∧ W.cell? ⟨b, off + i * 8 + 3, none⟩ = some (.int .i64 q.c) ∧ W.cell? ⟨b, off + i * 8 + 4, none⟩ = some (.int .u64 q.v) ∧ W.cell? ⟨b, off + i * 8 + 5, none⟩ = some (.int .u64 q.x) ∧ W.cell? ⟨b, off + i * 8 + 6, none⟩ = some (.int .u64 q.y) ∧ W.cell? ⟨b, off + i * 8 + 7, none⟩ = some (.slice q.q q.l.length q.r) ∧ BitsAt W q.q q.l) ∧ ((∀ z ∈ (D i).weights Try.prog 52, z ≤ reachBytes) → q.l.length * 8 ≤ reachBytes) := by
      intro i hi
      obtain ⟨cs', h1, h2⟩ := hx i (by omega)
      rw [cellsOp] at h1
      obtain ⟨_, hlen, hcell⟩ := World.cells?_some h1
      obtain ⟨xs, k, _, hxx, _, hxl, hg⟩ := DataW.trod_struct Try.underlying52 h2
      match xs, hxl, cs', hlen with
      | [y0, y1, y2, y3, y4, y5, y6, y7], _, [c0, c1, c2, c3, c4, c5, c6, c7], _ =>
        have g0 := hg 0 _ rfl
        have g1 := hg 1 _ rfl
        have g2 := hg 2 _ rfl
        have g3 := hg 3 _ rfl
        have g4 := hg 4 _ rfl
        have g5 := hg 5 _ rfl
        have g6 := hg 6 _ rfl
        have g7 := hg 7 _ rfl
        simp [cellsI, cellsW, cellsLW] at g0 g1 g2 g3 g4 g5 g6 g7
        have hD : D i = .agg [y0.1, y1.1, y2.1, y3.1, y4.1, y5.1, y6.1, y7.1] := congrArg Prod.fst hxx
        obtain ⟨x0, e0, _, _⟩ := DataW.trod_int Try.underlying3 g0
        obtain ⟨x1, e1, _, _⟩ := DataW.trod_int Try.underlying3 g1
        obtain ⟨x2, e2, _, _⟩ := DataW.trod_int Try.underlying3 g2
        obtain ⟨x3, e3, _, _⟩ := DataW.trod_int Try.underlying3 g3
        obtain ⟨x4, e4, _, _⟩ := DataW.trod_int Try.underlying22 g4
        obtain ⟨x5, e5, _, _⟩ := DataW.trod_int Try.underlying22 g5
        obtain ⟨x6, e6, _, _⟩ := DataW.trod_int Try.underlying22 g6
        obtain ⟨ao, cp, l, e7, hp, _, hw⟩ := open_words g7
        simp at e0 e1 e2 e3 e4 e5 e6 e7
        subst e0 e1 e2 e3 e4 e5 e6 e7
        have f0 := hcell 0 (by omega)
        have f1 := hcell 1 (by omega)
        have f2 := hcell 2 (by omega)
        have f3 := hcell 3 (by omega)
        have f4 := hcell 4 (by omega)
        have f5 := hcell 5 (by omega)
        have f6 := hcell 6 (by omega)
        have f7 := hcell 7 (by omega)
        rw [add_add] at f0 f1 f2 f3 f4 f5 f6 f7
        have hspot := hs (by omega)
        subst hspot
        rw [Go.WideShapes.add_plain] at f0 f1 f2 f3 f4 f5 f6 f7
        have hb := World.block_lt_of_cell? W _ f0
        refine ⟨⟨x0, x1, x2, x3, x4, x5, x6, ao, cp, l⟩, rfl, hb, ⟨f0, f1, f2, f3, f4, f5, f6, f7, hp⟩, fun hz => hw (fun z hzz => hz z ?_)⟩
        rw [hD]
        simp only [DataW.weights, Try.underlying52]
        exact DataW.weights_mem_each (ts := _) (ds := [y0.1, y1.1, y2.1, y3.1, y4.1, y5.1, y6.1, y7.1]) (j := 7) rfl rfl z hzz
    obtain ⟨q, hq⟩ := choose_lt each
    refine ⟨some ⟨b, off, spot⟩, len, cap, fun i => (q i).k, fun i => (q i).i, fun i => (q i).p, fun i => (q i).c, fun i => (q i).v, fun i => (q i).x, fun i => (q i).y, fun i => (q i).q, fun i => (q i).r, fun i => (q i).l, rfl, by omega, fun {ts ds} hz {j} h1 h2 i hi => ?_, fun i hi => by
      obtain ⟨rfl, r1, r2, _⟩ := hq i hi
      exact ⟨b, off, rfl, r1, r2⟩⟩
    refine (hq i hi).2.2.2 (fun z hzz => ?_)
    rw [hd1] at h2
    have hmem : z ∈ DataW.weights Try.prog 33 (.slice ((List.range len).map D) ((List.range (m - len)).map fun j => D (len + j))) := by
      simp only [DataW.weights, Try.underlying33]
      exact List.mem_cons_of_mem _ (List.mem_append_left _ (weights_all (List.mem_map.2 ⟨i, List.mem_range.2 hi, rfl⟩) hzz))
    have := List.all_eq_true.1 hz _ (DataW.weights_mem_each h1 h2 z hmem)
    simpa using this
end
end Go.Proofs.Ytmmijcmlnhmooaa
