import Derived.Test.YtpboiggakehpoaaGreatDoorKO
import Derived.Test.YtpboiggakehpoaaGreatDoorC5
import Derived.Test.YtpboiggakehpoaaGreatDoorC6
import Derived.Test.YtpboiggakehpoaaGreatDoorKJ
import Derived.Test.YtpboiggakehpoaaGreatDoorWalkB
import Derived.Test.YtpboiggakehpoaaGreatDoorKM
import Derived.Test.YtpboiggakehpoaaGreatDoorKF
import Derived.Test.YtpboiggakehpoaaGreatDoorXM
import Derived.Deep.LoopGhost
import Derived.Test.YtpboiggakehpoaaGreatDoorC1
import Derived.Test.YtpboiggakehpoaaGreatDoorY1
import Derived.Maps.RangeWalk
import Derived.Deep.AppendSrc
import Derived.Test.YtpboiggakehpoaaGreatDoorSq
import Derived.StillTailTactics
import Derived.Deep.RegionLaw
import Derived.Deep.CutBlock
import Derived.Deep.DeepCutAuto
import Derived.Deep.RegionHeld
import Derived.Laws.ResultCell
import Derived.Lib.AppendZeros
namespace Go.Proofs.YtpboiggakehpoaaGreatDoor.Tr
open Go.ChangeShapes Go.WideShapes Go.ChangeAt Go.RowKit Go.Deep Num
theorem cellsU : Tryz.prog.cellsOf 76 = 1 := by kernel_rfl
theorem cellsN : Tryz.prog.cellsOf 3 = 1 := by kernel_rfl
theorem cellsBo : Tryz.prog.cellsOf 4 = 1 := by kernel_rfl
theorem cellsLU : Tryz.prog.cellsOf 37 = 1 := by kernel_rfl
theorem cellsOp : Tryz.prog.cellsOf 52 = 3 := by kernel_rfl
theorem cellsLO : Tryz.prog.cellsOf 38 = 1 := by kernel_rfl
theorem cellsWd : Tryz.prog.cellsOf 40 = 5 := by kernel_rfl
theorem nat_of_u {z : Int} (h : (Lit.int .u64 z).wf = true) : ∃ n : Nat, z = n ∧ n < 18446744073709551616 := by
  simp [Lit.wf, IntKind.min, IntKind.max, IntKind.signed, IntKind.bits] at h
  exact ⟨z.toNat, by omega, by omega⟩
theorem int_of {z : Int} (h : (Lit.int .i64 z).wf = true) : -9223372036854775808 ≤ z ∧ z ≤ 9223372036854775807 := by
  simp [Lit.wf, IntKind.min, IntKind.max, IntKind.signed, IntKind.bits] at h
  exact ⟨by omega, by omega⟩
def BtAt (w : World) (p : Option Addr) (l : List Nat) : Prop := ∀ i, i < l.length → ∃ g o, p = some ⟨g, o, none⟩ ∧ g < w.heap.size ∧ w.cell? ⟨g, o + i, none⟩ = some (.int .u64 ((l.getD i 0 : Nat) : Int))
theorem BtAt.on {w w' : World} {p : Option Addr} {l : List Nat} (h : BtAt w p l) (k : Below w.heap.size w w') : BtAt w' p l := fun i hi => by
  obtain ⟨g, o, h1, h2, h3⟩ := h i hi
  exact ⟨g, o, h1, Nat.lt_of_lt_of_le h2 k.size, (k.cell (p := ⟨g, o + i, none⟩) h2).trans h3⟩
structure Cal where
  k : Int
  o : Bool
  p : Option Addr
  c : Nat
  l : List Nat
def cal0 : Cal := ⟨0, false, none, 0, []⟩
def CalsAt (w : World) (p : Option Addr) (L : List Cal) : Prop := ∀ i, i < L.length → ∃ g o, p = some ⟨g, o, none⟩ ∧ g < w.heap.size ∧ w.cell? ⟨g, o + i * 3, none⟩ = some (.int .i64 (L.getD i cal0).k) ∧ w.cell? ⟨g, o + i * 3 + 1, none⟩ = some (.bool (L.getD i cal0).o) ∧ w.cell? ⟨g, o + i * 3 + 2, none⟩ = some (.slice (L.getD i cal0).p (L.getD i cal0).l.length (L.getD i cal0).c) ∧ BtAt w (L.getD i cal0).p (L.getD i cal0).l
theorem CalsAt.on {w w' : World} {p : Option Addr} {L : List Cal} (h : CalsAt w p L) (k : Below w.heap.size w w') : CalsAt w' p L := fun i hi => by
  obtain ⟨g, o, h1, h2, h3, h4, h5, h6⟩ := h i hi
  exact ⟨g, o, h1, Nat.lt_of_lt_of_le h2 k.size, (k.cell (p := ⟨g, o + i * 3, none⟩) h2).trans h3, (k.cell (p := ⟨g, o + i * 3 + 1, none⟩) h2).trans h4, (k.cell (p := ⟨g, o + i * 3 + 2, none⟩) h2).trans h5, h6.on k⟩
def okC (c : Cal) : Prop := (∀ x ∈ c.l, x < 18446744073709551616) ∧ c.l.length ≤ 9223372036854775807
section
variable {H : Type} {enc : TypeId × Value → H}
set_option maxRecDepth 100000 in
theorem open_bitsT {W : World} {fuel : Nat} {cs : List Value} {x : DataW H × List MemPlace} (hf : DataW.trod enc Tryz.prog W 0 (fun _ => true) true fuel 37 cs = some x) :
    ∃ (ao : Option Addr) (l : List Nat) (cap : Nat), cs = [.slice ao l.length cap] ∧ (∀ y ∈ l, y < 18446744073709551616) ∧ BtAt W ao l ∧ l.length ≤ 9223372036854775807 := by
  rcases open_slice1 Tryz.underlying37 cellsU hf with ⟨hcs, _⟩ | ⟨a, len, cap, m, n, V, D, Pl, hcs, _, hl, hm, hmm, hd, hx⟩
  · exact ⟨none, [], 0, hcs, fun y hy => (by cases hy), fun i hi => absurd hi (Nat.not_lt_zero i), Nat.zero_le _⟩
  · simp only [if_true] at hmm
    obtain ⟨b, off, spot⟩ := a
    have hs : 0 < len → spot = none := by
      intro h0
      obtain ⟨h1, _⟩ := hx 0 (by omega)
      simpa [Addr.add] using World.cell?_spot h1
    have each : ∀ i, i < len → ∃ q : Nat, spot = none ∧ b < W.heap.size ∧ q < 18446744073709551616 ∧ W.cell? ⟨b, off + i, none⟩ = some (.int .u64 ((q : Nat) : Int)) := by
      intro i hi
      obtain ⟨h1, h2⟩ := hx i (by omega)
      obtain ⟨z, e, _, hq⟩ := DataW.trod_int Tryz.underlying76 h2
      obtain ⟨q, rfl, hq2⟩ := nat_of_u hq
      simp at e
      rw [e] at h1
      have hs := hs (by omega)
      subst hs
      rw [Go.WideShapes.add_plain] at h1
      exact ⟨q, rfl, World.block_lt_of_cell? W _ h1, hq2, h1⟩
    obtain ⟨q, hq⟩ := choose_lt each
    have hlen : ((List.range len).map q).length = len := by simp
    have hget : ∀ i, i < len → ((List.range len).map q).getD i 0 = q i := fun i hi => by simp [hi]
    refine ⟨some ⟨b, off, spot⟩, (List.range len).map q, cap, by rw [hlen]; exact hcs, fun y hy => ?_, fun i hi => ?_, by rw [hlen]; exact Nat.le_trans hl hm⟩
    · obtain ⟨j, hj, rfl⟩ := List.mem_map.1 hy
      exact (hq j (List.mem_range.1 hj)).2.2.1
    · rw [hlen] at hi
      obtain ⟨rfl, r1, _, r3⟩ := hq i hi
      exact ⟨b, off, rfl, r1, by rw [hget i hi]; exact r3⟩
set_option maxRecDepth 100000 in
theorem open_cals {W : World} {fuel : Nat} {cs : List Value} {x : DataW H × List MemPlace} (hf : DataW.trod enc Tryz.prog W 0 (fun _ => true) true fuel 38 cs = some x) :
    ∃ (ao : Option Addr) (L : List Cal) (cap : Nat), cs = [.slice ao L.length cap] ∧ (∀ c ∈ L, okC c) ∧ CalsAt W ao L ∧ L.length ≤ 9223372036854775807 := by
  rcases open_slice Tryz.underlying38 hf with ⟨hcs, _⟩ | ⟨a, len, cap, m, n, D, Pl, hcs, _, hl, hm, hmm, hd, hx⟩
  · exact ⟨none, [], 0, hcs, fun i hi => (by cases hi), fun i hi => absurd hi (Nat.not_lt_zero i), Nat.zero_le _⟩
  · simp only [if_true] at hmm
    obtain ⟨b, off, spot⟩ := a
    have hs : 0 < len → spot = none := by
      intro h0
      obtain ⟨cs', h1, _⟩ := hx 0 (by omega)
      rw [cellsOp] at h1
      obtain ⟨_, hlen, hcell⟩ := World.cells?_some h1
      match cs', hlen with
      | [c0, c1, c2], _ =>
        have f0 := hcell 0 (by omega)
        simpa [Addr.add] using World.cell?_spot f0
    have each : ∀ i, i < len → ∃ q : Cal, spot = none ∧ b < W.heap.size ∧ okC q ∧ W.cell? ⟨b, off + i * 3, none⟩ = some (.int .i64 q.k) ∧ W.cell? ⟨b, off + i * 3 + 1, none⟩ = some (.bool q.o) ∧ W.cell? ⟨b, off + i * 3 + 2, none⟩ = some (.slice q.p q.l.length q.c) ∧ BtAt W q.p q.l := by
      intro i hi
      obtain ⟨cs', h1, h2⟩ := hx i (by omega)
      rw [cellsOp] at h1
      obtain ⟨_, hlen, hcell⟩ := World.cells?_some h1
      obtain ⟨xs, k, _, _, _, hxl, hg⟩ := DataW.trod_struct Tryz.underlying52 h2
      match xs, hxl, cs', hlen with
      | [y0, y1, y2], _, [c0, c1, c2], _ =>
        have g0 := hg 0 _ rfl
        have g1 := hg 1 _ rfl
        have g2 := hg 2 _ rfl
        simp [cellsN, cellsBo, cellsLU] at g0 g1 g2
        obtain ⟨x0, e0, _, _⟩ := DataW.trod_int Tryz.underlying3 g0
        obtain ⟨x1, e1, _⟩ := DataW.trod_bool Tryz.underlying4 g1
        obtain ⟨po, l, co, e2, r1, r2, r3⟩ := open_bitsT g2
        simp at e0 e1 e2
        subst e0 e1 e2
        have f0 := hcell 0 (by omega)
        have f1 := hcell 1 (by omega)
        have f2 := hcell 2 (by omega)
        rw [add_add] at f0 f1 f2
        have hspot := hs (by omega)
        subst hspot
        rw [Go.WideShapes.add_plain] at f0 f1 f2
        exact ⟨⟨x0, x1, po, co, l⟩, rfl, World.block_lt_of_cell? W _ f0, ⟨r1, r3⟩, f0, f1, f2, r2⟩
    have : Inhabited Cal := ⟨cal0⟩
    obtain ⟨q, hq⟩ := choose_lt each
    have hcl : ((List.range len).map q).length = len := by simp
    have hget : ∀ i, i < len → ((List.range len).map q).getD i cal0 = q i := fun i hi => by simp [hi]
    refine ⟨some ⟨b, off, spot⟩, (List.range len).map q, cap, by rw [hcl]; exact hcs, fun i hi => ?_, fun i hi => ?_, by rw [hcl]; exact Nat.le_trans hl hm⟩
    · obtain ⟨j, hj, rfl⟩ := List.mem_map.1 hi
      exact (hq j (List.mem_range.1 hj)).2.2.1
    · rw [hcl] at hi
      rw [hget i hi]
      obtain ⟨rfl, h2, _, r⟩ := hq i hi
      exact ⟨b, off, rfl, h2, r⟩
structure Wd where
  B : Int
  C : Int
  M : Int
  pn : Option Addr
  ln : List Nat
  cn : Nat
  pc : Option Addr
  L : List Cal
  cc : Nat
abbrev wdV (d : Wd) : Value := .agg #[.int .i64 d.B, .int .i64 d.C, .int .i64 d.M, .slice d.pn d.ln.length d.cn, .slice d.pc d.L.length d.cc]
structure WdIn (w : World) (d : Wd) : Prop where
  B : -9223372036854775808 ≤ d.B ∧ d.B ≤ 9223372036854775807
  C : -9223372036854775808 ≤ d.C ∧ d.C ≤ 9223372036854775807
  M : -9223372036854775808 ≤ d.M ∧ d.M ≤ 9223372036854775807
  lx : ∀ x ∈ d.ln, x < 18446744073709551616
  ll : d.ln.length ≤ 9223372036854775807
  nz : BtAt w d.pn d.ln
  cx : ∀ c ∈ d.L, okC c
  cl : d.L.length ≤ 9223372036854775807
  cs : CalsAt w d.pc d.L
theorem WdIn.on {w w' : World} {d : Wd} (h : WdIn w d) (k : Below w.heap.size w w') : WdIn w' d := ⟨h.B, h.C, h.M, h.lx, h.ll, h.nz.on k, h.cx, h.cl, h.cs.on k⟩
set_option maxRecDepth 100000 in
theorem open_world {W : World} {base : Nat} {v : Value} {d : DataW H} {ps : List MemPlace} (hval : Value.okWide Tryz.prog W .any base 40 v) (h : DataW.Trod enc Tryz.prog W 0 (fun _ => true) true 40 v d ps) :
    ∃ q : Wd, v = wdV q ∧ WdIn W q := by
  obtain ⟨csv, rfl, hsz⟩ := okWide_struct Tryz.underlying40 hval
  rw [cellsWd] at hsz
  obtain ⟨lv⟩ := csv
  match lv, hsz with
  | [c0, c1, c2, c3, c4], _ =>
    obtain ⟨fuel, hf⟩ := h
    obtain ⟨xs, n, _, _, _, hlen, hg⟩ := DataW.trod_struct Tryz.underlying40 hf
    match xs, hlen with
    | [y0, y1, y2, y3, y4], _ =>
      have g0 := hg 0 _ rfl
      have g1 := hg 1 _ rfl
      have g2 := hg 2 _ rfl
      have g3 := hg 3 _ rfl
      have g4 := hg 4 _ rfl
      simp [cellsN, cellsLU, cellsLO, Value.cells] at g0 g1 g2 g3 g4
      obtain ⟨a0, e0, _, w0⟩ := DataW.trod_int Tryz.underlying3 g0
      obtain ⟨a1, e1, _, w1⟩ := DataW.trod_int Tryz.underlying3 g1
      obtain ⟨a2, e2, _, w2⟩ := DataW.trod_int Tryz.underlying3 g2
      obtain ⟨pn, ln, cn, e3, q1, q2, q3⟩ := open_bitsT g3
      obtain ⟨pc, L, cc, e4, r1, r2, r3⟩ := open_cals g4
      simp at e0 e1 e2 e3 e4
      exact ⟨⟨a0, a1, a2, pn, ln, cn, pc, L, cc⟩, by rw [e0, e1, e2, e3, e4], int_of w0, int_of w1, int_of w2, q1, q3, q2, r1, r3, r2⟩
end
end Go.Proofs.YtpboiggakehpoaaGreatDoor.Tr
namespace Go.Proofs.YtpboiggakehpoaaGreatDoor
open Go.ChangeShapes Go.WideShapes Go.ChangeAt Go.RowKit Num
attribute [local go_sem] run_store_float
end Go.Proofs.YtpboiggakehpoaaGreatDoor
namespace Go.Proofs.YtpboiggakehpoaaGreatDoor
open Go.ChangeShapes Go.WideShapes Go.ChangeAt Go.RowKit Num
attribute [local go_sem] run_store_float
end Go.Proofs.YtpboiggakehpoaaGreatDoor
namespace Go.Proofs.YtpboiggakehpoaaGreatDoor
open Go.ChangeShapes Go.WideShapes Go.ChangeAt Go.RowKit Num
attribute [local go_sem] run_store_float
section
variable {w : World}
theorem newW_boxes4 {w u : World} {a b c e t : Int} {ao : Option Addr} {n cap : Nat} (h : Below (newW w a b c e t ao n cap).heap.size (newW w a b c e t ao n cap) u) :
    u.cell? ⟨w.heap.size, 0, none⟩ = some (.int .i64 a) ∧ u.cell? ⟨w.heap.size, 1, none⟩ = some (.int .i64 b) ∧ u.cell? ⟨w.heap.size, 2, none⟩ = some (.int .i64 c) ∧ u.cell? ⟨w.heap.size, 3, none⟩ = some (.int .i64 e) ∧ w.heap.size < u.heap.size := by
  have b1 : u.heap[w.heap.size]? = some (cfgO a b c e) := (h.block _ (by simp; omega)).trans ((heap_alloc_old _ _ (by simp)).trans (heap_alloc_new w _))
  exact Md.cells4 b1
end
end Go.Proofs.YtpboiggakehpoaaGreatDoor
namespace Go.Proofs.YtpboiggakehpoaaGreatDoor
open Go.ChangeShapes Go.WideShapes Go.ChangeAt Go.RowKit Num
structure Like (m m' : Mac) : Prop where
  cells : m'.cells = m.cells
  fuel : m'.fuel = m.fuel
  wmax : m'.wmax = m.wmax
  upd : m'.upd = m.upd
  code : m'.code = m.code
theorem Like.refl (m : Mac) : Like m m := ⟨rfl, rfl, rfl, rfl, rfl⟩
theorem Like.trans {a b c : Mac} (h : Like a b) (k : Like b c) : Like a c := ⟨k.cells.trans h.cells, k.fuel.trans h.fuel, k.wmax.trans h.wmax, k.upd.trans h.upd, k.code.trans h.code⟩
def Ends (_m : Mac) (r : Mac × Ask) : Prop := r.2.kind = 4 ∧ r.1.how ≠ 0 ∧ ¬ 0 ≤ r.1.wait
def Waits (m : Mac) (r : Mac × Ask) : Prop := r.2.kind = 1 ∧ r.2.cell = r.1.wait ∧ 0 ≤ r.1.wait ∧ r.1.how = 0 ∧ r.1.used = m.used + 1
def Goes (m : Mac) (r : Mac × Ask) : Prop := (r.2.kind = 0 ∨ r.2.kind = 2 ∨ r.2.kind = 3) ∧ ¬ 0 ≤ r.1.wait ∧ r.1.how = 0 ∧ r.1.used = m.used + 1
def Turns (m : Mac) (r : Mac × Ask) : Prop := Like m r.1 ∧ (Ends m r ∨ Waits m r ∨ Goes m r)
section
variable {m : Mac}
theorem fails_turns (hw : ¬ 0 ≤ m.wait) (e : Int) : Turns m (failM m e) := ⟨⟨rfl, rfl, rfl, rfl, rfl⟩, .inl ⟨rfl, by show (3 : Int) ≠ 0; decide, hw⟩⟩
theorem fails_begun (hw : ¬ 0 ≤ m.wait) (e : Int) : Turns m (failM (begM m) e) := ⟨⟨rfl, rfl, rfl, rfl, rfl⟩, .inl ⟨rfl, by show (3 : Int) ≠ 0; decide, hw⟩⟩
theorem do_turns (hw : ¬ 0 ≤ m.wait) (h0 : m.how = 0) (hcl : m.cells ≤ 256) {k : Nat} {n : Int} {x : Nat} (hk : 1 ≤ k ∧ k < 21) : Turns m (doM (begM m) ⟨k, n, x⟩) := by
  have hkk : k = 1 ∨ k = 2 ∨ k = 3 ∨ k = 4 ∨ k = 5 ∨ k = 6 ∨ k = 7 ∨ k = 8 ∨ k = 9 ∨ k = 10 ∨ k = 11 ∨ k = 12 ∨ k = 13 ∨ k = 14 ∨ k = 15 ∨ k = 16 ∨ k = 17 ∨ k = 18 ∨ k = 19 ∨ k = 20 := by omega
  rcases hkk with rfl | rfl | rfl | rfl | rfl | rfl | rfl | rfl | rfl | rfl | rfl | rfl | rfl | rfl | rfl | rfl | rfl | rfl | rfl | rfl
  · exact ⟨⟨rfl, rfl, rfl, rfl, rfl⟩, .inr (.inr ⟨.inl rfl, hw, h0, rfl⟩)⟩
  · exact ⟨⟨rfl, rfl, rfl, rfl, rfl⟩, .inr (.inr ⟨.inl rfl, hw, h0, rfl⟩)⟩
  · exact ⟨⟨rfl, rfl, rfl, rfl, rfl⟩, .inr (.inr ⟨.inl rfl, hw, h0, rfl⟩)⟩
  · exact ⟨⟨rfl, rfl, rfl, rfl, rfl⟩, .inr (.inr ⟨.inl rfl, hw, h0, rfl⟩)⟩
  · exact ⟨⟨rfl, rfl, rfl, rfl, rfl⟩, .inr (.inr ⟨.inl rfl, hw, h0, rfl⟩)⟩
  · exact ⟨⟨rfl, rfl, rfl, rfl, rfl⟩, .inr (.inr ⟨.inl rfl, hw, h0, rfl⟩)⟩
  · exact ⟨⟨rfl, rfl, rfl, rfl, rfl⟩, .inr (.inr ⟨.inl rfl, hw, h0, rfl⟩)⟩
  · exact ⟨⟨rfl, rfl, rfl, rfl, rfl⟩, .inr (.inr ⟨.inl rfl, hw, h0, rfl⟩)⟩
  · exact ⟨⟨rfl, rfl, rfl, rfl, rfl⟩, .inr (.inr ⟨.inl rfl, hw, h0, rfl⟩)⟩
  · exact ⟨⟨rfl, rfl, rfl, rfl, rfl⟩, .inr (.inr ⟨.inl rfl, hw, h0, rfl⟩)⟩
  · exact ⟨⟨rfl, rfl, rfl, rfl, rfl⟩, .inr (.inr ⟨.inl rfl, hw, h0, rfl⟩)⟩
  · exact ⟨⟨rfl, rfl, rfl, rfl, rfl⟩, .inr (.inr ⟨.inl rfl, hw, h0, rfl⟩)⟩
  · exact ⟨⟨rfl, rfl, rfl, rfl, rfl⟩, .inr (.inr ⟨.inl rfl, hw, h0, rfl⟩)⟩
  · exact ⟨⟨rfl, rfl, rfl, rfl, rfl⟩, .inr (.inr ⟨.inl rfl, hw, h0, rfl⟩)⟩
  · show Turns m (retM (begM m))
    cases hc : (begM m).calls with
    | nil =>
      rw [retM_nil hc]
      exact ⟨⟨rfl, rfl, rfl, rfl, rfl⟩, .inl ⟨rfl, by show (1 : Int) ≠ 0; decide, hw⟩⟩
    | cons c q =>
      rw [retM_cons hc]
      exact ⟨⟨rfl, rfl, rfl, rfl, rfl⟩, .inr (.inr ⟨.inl rfl, hw, h0, rfl⟩)⟩
  · show Turns m (readM (begM m))
    unfold readM
    cases ha : addrB (begM m) with
    | false => exact fails_begun hw 50
    | true =>
      have hid := idx_wf ((begM m).st.getD 0 0) (n := m.cells) hcl ha
      cases hh : hasC (begM m).buf (addrV (begM m)) with
      | false =>
        rw [if_pos rfl, if_neg Bool.false_ne_true]
        exact ⟨⟨rfl, rfl, rfl, rfl, rfl⟩, .inr (.inl ⟨rfl, rfl, hid.1, h0, rfl⟩)⟩
      | true =>
        rw [if_pos rfl, if_pos rfl]
        exact ⟨⟨rfl, rfl, rfl, rfl, rfl⟩, .inr (.inr ⟨.inr (.inl rfl), hw, h0, rfl⟩)⟩
  · show Turns m (writeM (begM m))
    unfold writeM
    cases hu : (begM m).upd with
    | false => exact fails_begun hw 81
    | true =>
      cases ha : addrB (begM m) with
      | false => exact fails_begun hw 50
      | true =>
        cases hp : mayP (begM m).wmax (begM m).buf (addrV (begM m)) with
        | false => exact fails_begun hw 70
        | true =>
          rw [if_pos rfl, if_pos rfl, if_pos rfl]
          exact ⟨⟨rfl, rfl, rfl, hu.symm ▸ rfl, rfl⟩, .inr (.inr ⟨.inr (.inr rfl), hw, h0, rfl⟩)⟩
  · exact ⟨⟨rfl, rfl, rfl, rfl, rfl⟩, .inr (.inr ⟨.inl rfl, hw, h0, rfl⟩)⟩
  · exact ⟨⟨rfl, rfl, rfl, rfl, rfl⟩, .inl ⟨rfl, by show (2 : Int) ≠ 0; decide, hw⟩⟩
  · exact ⟨⟨rfl, rfl, rfl, rfl, rfl⟩, .inl ⟨rfl, by show (1 : Int) ≠ 0; decide, hw⟩⟩
theorem step_turns (h : Inv m) (hw : ¬ 0 ≤ m.wait) (h0 : m.how = 0) : Turns m (stepM m) := by
  unfold stepM
  rw [if_neg hw, if_pos h0]
  by_cases hf : m.used < m.fuel
  · rw [if_pos hf]
    by_cases hp : m.place < (m.code.length : Int)
    · rw [if_pos hp]
      have hk : m.place.toNat < m.code.length := by have := h.place; omega
      have hmay := h.may _ hk
      cases hr : roomB (begM m) (insM m) with
      | false => exact fails_begun hw 82
      | true =>
        rw [if_pos rfl]
        unfold insM
        rcases hci : ci m.code m.place.toNat with ⟨o, n, x⟩
        rw [hci] at hmay
        obtain ⟨q, hq⟩ : ∃ q : Nat, o = q := ⟨o.toNat, by have := hmay.1; unfold mayB knownB at this; simp at this; omega⟩
        subst hq
        exact do_turns hw h0 h.cells.2 (fits_parts hmay.1).1
    · rw [if_neg hp]
      exact fails_turns hw 50
  · rw [if_neg hf]
    exact fails_turns hw 80
theorem give_goes (hw : 0 ≤ m.wait) (x : Nat) : ¬ 0 ≤ (giveM m x).wait ∧ (giveM m x).how = m.how ∧ (giveM m x).used = m.used ∧ Like m (giveM m x) := by
  unfold giveM
  rw [if_pos hw]
  exact ⟨by show ¬ (0 : Int) ≤ -1; decide, rfl, rfl, ⟨rfl, rfl, rfl, rfl, rfl⟩⟩
end
end Go.Proofs.YtpboiggakehpoaaGreatDoor
namespace Go.Proofs.YtpboiggakehpoaaGreatDoor
open Go.ChangeShapes Go.WideShapes Go.ChangeAt Go.RowKit Num
attribute [local go_sem] run_store_float frombits_run bits_run
end Go.Proofs.YtpboiggakehpoaaGreatDoor
namespace Go.Proofs.YtpboiggakehpoaaGreatDoor
open Go.ChangeShapes Go.WideShapes Go.ChangeAt Go.RowKit Num
attribute [local go_sem] run_store_float
section
variable {w : World}
theorem mnew_any {a b c e t : Int} {ao : Option Addr} {cs : List Ins} {n cap : Nat} {po : Option Addr} {l : List Nat} {k co : Nat} (hn : cs.length = n) (hk : l.length = k) (hT : Shaped5 w) (hC : CodeAt w ao cs) (hL : FlAt w po l) (hnl : n ≤ 9223372036854775807) (hc : Md.cfgB a b c e = true) (hk8 : k ≤ 8) : Calls Tryz.prog 48 #[cfgV a b c e, .agg #[.int .i64 t, .slice ao n cap], .slice po k co] w fun r w' => ∃ bm K, r = .returned (.pointer (some ⟨bm, 0, none⟩)) ∧ Gm w [] bm K w' (newM a c e t cs l) ∧ Abv w.heap.size K := by
  cases hq : checkB t cs
  · exact mnew_no hc hn hk hk8 hT hC hL hnl hq
  · exact mnew_yes hc hn hk hk8 hT hC hL hnl hq
end
end Go.Proofs.YtpboiggakehpoaaGreatDoor
namespace Go.Proofs.YtpboiggakehpoaaGreatDoor
open Go.ChangeShapes Go.WideShapes Go.ChangeAt Go.RowKit Num
def Bufs (m : Mac) (r : Mac × Ask) : Prop :=
  (r.2.kind = 0 ∧ r.1.buf = m.buf) ∨ (r.2.kind = 4 ∧ r.1.buf = m.buf) ∨ (r.2.kind = 1 ∧ r.1.buf = m.buf ∧ hasC m.buf r.2.cell = false ∧ 0 ≤ r.2.cell ∧ r.2.cell < m.cells) ∨
  (r.2.kind = 2 ∧ r.1.buf = m.buf ∧ hasC m.buf r.2.cell = true ∧ r.2.x = getC m.buf r.2.cell ∧ 0 ≤ r.2.cell ∧ r.2.cell < m.cells) ∨
  (r.2.kind = 3 ∧ r.1.buf = putC m.buf r.2.cell r.2.x ∧ r.2.first = !hasC m.buf r.2.cell ∧ 0 ≤ r.2.cell ∧ r.2.cell < m.cells)
section
variable {m : Mac}
theorem fails_bufs (e : Int) : Bufs m (failM m e) := .inr (.inl ⟨rfl, rfl⟩)
theorem fails_bufs' (e : Int) : Bufs m (failM (begM m) e) := .inr (.inl ⟨rfl, rfl⟩)
theorem do_bufs (hcl : m.cells ≤ 256) {k : Nat} {n : Int} {x : Nat} (hk : 1 ≤ k ∧ k < 21) : Bufs m (doM (begM m) ⟨k, n, x⟩) := by
  have hkk : k = 1 ∨ k = 2 ∨ k = 3 ∨ k = 4 ∨ k = 5 ∨ k = 6 ∨ k = 7 ∨ k = 8 ∨ k = 9 ∨ k = 10 ∨ k = 11 ∨ k = 12 ∨ k = 13 ∨ k = 14 ∨ k = 15 ∨ k = 16 ∨ k = 17 ∨ k = 18 ∨ k = 19 ∨ k = 20 := by omega
  rcases hkk with rfl | rfl | rfl | rfl | rfl | rfl | rfl | rfl | rfl | rfl | rfl | rfl | rfl | rfl | rfl | rfl | rfl | rfl | rfl | rfl
  iterate 14 exact .inl ⟨rfl, rfl⟩
  · show Bufs m (retM (begM m))
    cases hc : (begM m).calls with
    | nil =>
      rw [retM_nil hc]
      exact .inr (.inl ⟨rfl, rfl⟩)
    | cons c q =>
      rw [retM_cons hc]
      exact .inl ⟨rfl, rfl⟩
  · show Bufs m (readM (begM m))
    unfold readM
    cases ha : addrB (begM m) with
    | false => exact fails_bufs' 50
    | true =>
      have hid := idx_wf ((begM m).st.getD 0 0) (n := m.cells) hcl ha
      cases hh : hasC (begM m).buf (addrV (begM m)) with
      | false =>
        rw [if_pos rfl, if_neg Bool.false_ne_true]
        exact .inr (.inr (.inl ⟨rfl, rfl, hh, hid.1, hid.2.1⟩))
      | true =>
        rw [if_pos rfl, if_pos rfl]
        exact .inr (.inr (.inr (.inl ⟨rfl, rfl, hh, rfl, hid.1, hid.2.1⟩)))
  · show Bufs m (writeM (begM m))
    unfold writeM
    cases hu : (begM m).upd with
    | false => exact fails_bufs' 81
    | true =>
      cases ha : addrB (begM m) with
      | false => exact fails_bufs' 50
      | true =>
        have hid := idx_wf ((begM m).st.getD 0 0) (n := m.cells) hcl ha
        cases hp : mayP (begM m).wmax (begM m).buf (addrV (begM m)) with
        | false => exact fails_bufs' 70
        | true =>
          rw [if_pos rfl, if_pos rfl, if_pos rfl]
          exact .inr (.inr (.inr (.inr ⟨rfl, rfl, rfl, hid.1, hid.2.1⟩)))
  · exact .inl ⟨rfl, rfl⟩
  · exact .inr (.inl ⟨rfl, rfl⟩)
  · exact .inr (.inl ⟨rfl, rfl⟩)
theorem step_bufs (h : Inv m) (hw : ¬ 0 ≤ m.wait) (h0 : m.how = 0) : Bufs m (stepM m) := by
  unfold stepM
  rw [if_neg hw, if_pos h0]
  by_cases hf : m.used < m.fuel
  · rw [if_pos hf]
    by_cases hp : m.place < (m.code.length : Int)
    · rw [if_pos hp]
      have hk : m.place.toNat < m.code.length := by have := h.place; omega
      have hmay := h.may _ hk
      cases hr : roomB (begM m) (insM m) with
      | false => exact fails_bufs' 82
      | true =>
        rw [if_pos rfl]
        unfold insM
        rcases hci : ci m.code m.place.toNat with ⟨o, n, x⟩
        rw [hci] at hmay
        obtain ⟨q, hq⟩ : ∃ q : Nat, o = q := ⟨o.toNat, by have := hmay.1; unfold mayB knownB at this; simp at this; omega⟩
        subst hq
        exact do_bufs h.cells.2 (fits_parts hmay.1).1
    · rw [if_neg hp]
      exact fails_bufs 50
  · rw [if_neg hf]
    exact fails_bufs 80
theorem give_bufs (x : Nat) : (giveM m x).buf = m.buf := by
  unfold giveM
  split <;> rfl
end
end Go.Proofs.YtpboiggakehpoaaGreatDoor
namespace Go.Proofs.YtpboiggakehpoaaGreatDoor
open Go.ChangeShapes Go.WideShapes Go.ChangeAt Go.RowKit Num
attribute [local go_sem] run_store_float
theorem row_get {E : TypeId} {w : World} {g c : Nat} {xs : List Value} (h : RowAt E w (some ⟨g, 0, none⟩) c xs) {j : Nat} {v : Value} (hv : xs[j]? = some v) : w.cell? ⟨g, j, none⟩ = some v ∧ w.frozen? ⟨g, j, none⟩ = false ∧ g < w.heap.size := by
  rcases h.own.2 with ⟨q, _⟩ | ⟨g', cap, cur, hq, _, hg, _⟩
  · cases q
  · cases hq
    refine ⟨?_, frozen_of_row w g j _ _ hg, lt_of_block hg⟩
    have := World.ownsRow.cells h.own (g := g) rfl j v hv
    rwa [show (⟨g, 0, none⟩ : Addr).add j = ⟨g, j, none⟩ by unfold Addr.add; split <;> simp_all] at this
end Go.Proofs.YtpboiggakehpoaaGreatDoor
namespace Go.Proofs.YtpboiggakehpoaaGreatDoor
open Go.ChangeShapes Go.WideShapes Go.ChangeAt Go.RowKit Num
def goM (s : List Nat) (m : Mac) : Mac := if (stepM m).2.kind = 1 then giveM (stepM m).1 (Sx.getV s (stepM m).2.cell) else (stepM m).1
def runN (s : List Nat) : Nat → Mac → Mac
  | 0, m => m
  | n + 1, m => runN s n (goM s m)
def endM (s : List Nat) (m : Mac) : Mac := runN s 1025 m
def okS (s : List Nat) : Prop := ∀ x ∈ s, okN x
theorem okS_map {s : List Nat} (h : ∀ x ∈ s, x < 18446744073709551616) : okS (s.map fixB) := fun x hx => by
  obtain ⟨y, hy, rfl⟩ := List.mem_map.1 hx
  exact okN_fix (h y hy)
theorem getV_ok {s : List Nat} (h : okS s) (i : Int) : okN (Sx.getV s i) := by
  unfold Sx.getV
  split
  · exact getD_all 0 okN_zero s h _
  · exact okN_zero
theorem runN_add (s : List Nat) : ∀ (a b : Nat) (m : Mac), runN s (a + b) m = runN s b (runN s a m)
  | 0, b, m => by rw [Nat.zero_add]; rfl
  | a + 1, b, m => by
    rw [Nat.add_right_comm]
    exact runN_add s a b (goM s m)
theorem runN_cons (s : List Nat) (k : Nat) (m : Mac) : runN s (k + 1) m = runN s k (goM s m) := rfl
theorem runN_succ (s : List Nat) (k : Nat) (m : Mac) : runN s (k + 1) m = goM s (runN s k m) := runN_add s k 1 m
structure Rest (m : Mac) : Prop where
  inv : Inv m
  nw : ¬ 0 ≤ m.wait
  cel : ∀ t ∈ m.buf, 0 ≤ t.1 ∧ t.1 < m.cells
  nod : (cellsOfL m.buf).Nodup
theorem step_over {m : Mac} (hw : ¬ 0 ≤ m.wait) (h0 : m.how ≠ 0) : stepM m = (m, askEnd) := by
  unfold stepM
  rw [if_neg hw, if_neg h0]
theorem go_over {s : List Nat} {m : Mac} (hw : ¬ 0 ≤ m.wait) (h0 : m.how ≠ 0) : goM s m = m := by
  unfold goM
  rw [step_over hw h0]
  rfl
theorem runN_over {s : List Nat} {m : Mac} (hw : ¬ 0 ≤ m.wait) (h0 : m.how ≠ 0) : ∀ k, runN s k m = m
  | 0 => rfl
  | k + 1 => by
    show runN s k (goM s m) = m
    rw [go_over hw h0]
    exact runN_over hw h0 k
theorem go_inv {s : List Nat} {m : Mac} (h : Inv m) (hs : okS s) : Inv (goM s m) := by
  unfold goM
  split
  · exact inv_give (inv_step h) (getV_ok hs _).2
  · exact inv_step h
theorem go_kind1 {s : List Nat} {m : Mac} (h : (stepM m).2.kind = 1) : goM s m = giveM (stepM m).1 (Sx.getV s (stepM m).2.cell) := if_pos h
theorem go_kindN {s : List Nat} {m : Mac} (h : (stepM m).2.kind ≠ 1) : goM s m = (stepM m).1 := if_neg h
theorem go_turns {s : List Nat} {m : Mac} (h : Inv m) (hw : ¬ 0 ≤ m.wait) (h0 : m.how = 0) : Like m (goM s m) ∧ ¬ 0 ≤ (goM s m).wait ∧ (((stepM m).2.kind = 4 ∧ (goM s m).how ≠ 0) ∨ ((stepM m).2.kind ≠ 4 ∧ (goM s m).how = 0 ∧ (goM s m).used = m.used + 1)) := by
  obtain ⟨hl, ⟨k1, k2, k3⟩ | ⟨k1, k2, k3, k4, k5⟩ | ⟨k1, k2, k3, k4⟩⟩ := step_turns h hw h0
  · rw [go_kindN (by rw [k1]; decide)]
    exact ⟨hl, k3, .inl ⟨k1, k2⟩⟩
  · rw [go_kind1 k1]
    obtain ⟨g1, g2, g3, g4⟩ := give_goes k3 (Sx.getV s (stepM m).2.cell)
    exact ⟨hl.trans g4, g1, .inr ⟨by rw [k1]; decide, g2.trans k4, g3.trans k5⟩⟩
  · rw [go_kindN (by rcases k1 with k | k | k <;> rw [k] <;> decide)]
    exact ⟨hl, k2, .inr ⟨by rcases k1 with k | k | k <;> rw [k] <;> decide, k3, k4⟩⟩
theorem go_buf {s : List Nat} {m : Mac} : (goM s m).buf = (stepM m).1.buf := by
  unfold goM
  split
  · exact give_bufs _
  · rfl
theorem cells_mem {l : Wr} {c : Int} : c ∈ cellsOfL l ↔ ∃ t ∈ l, t.1 = c := by unfold cellsOfL; exact List.mem_map
theorem putC_cells {l : Wr} {c : Int} {y : Nat} {P : Int → Prop} (h : ∀ t ∈ l, P t.1) (hc : P c) : ∀ t ∈ putC l c y, P t.1 := fun t ht => by
  have h1 : t.1 ∈ cellsOfL (putC l c y) := cells_mem.2 ⟨t, ht, rfl⟩
  rw [cells_put] at h1
  have h2 : t.1 ∈ cellsOfL l ∨ t.1 = c := by
    split at h1
    · exact .inl h1
    · rcases List.mem_append.1 h1 with h | h
      · exact .inl h
      · exact .inr (by simpa using h)
  rcases h2 with h2 | h2
  · obtain ⟨u, hu, e⟩ := cells_mem.1 h2
    exact e ▸ h u hu
  · exact h2 ▸ hc
theorem Rest.go {s : List Nat} {m : Mac} (h : Rest m) (hs : okS s) : Rest (goM s m) := by
  by_cases h0 : m.how = 0
  · obtain ⟨hl, g1, _⟩ := go_turns (s := s) h.inv h.nw h0
    have hb := step_bufs h.inv h.nw h0
    refine ⟨go_inv h.inv hs, g1, ?_, ?_⟩
    · rw [go_buf, hl.cells]
      rcases hb with ⟨_, e⟩ | ⟨_, e⟩ | ⟨_, e, _⟩ | ⟨_, e, _⟩ | ⟨_, e, _, c1, c2⟩
      iterate 4 (rw [e]; exact h.cel)
      rw [e]
      exact putC_cells (P := fun c => 0 ≤ c ∧ c < m.cells) h.cel ⟨c1, c2⟩
    · rw [go_buf]
      rcases hb with ⟨_, e⟩ | ⟨_, e⟩ | ⟨_, e, _⟩ | ⟨_, e, _⟩ | ⟨_, e, _, c1, c2⟩
      iterate 4 (rw [e]; exact h.nod)
      rw [e]
      exact nodup_put h.nod
  · rw [go_over h.nw h0]
    exact h
theorem Rest.run {s : List Nat} (hs : okS s) : ∀ (k : Nat) {m : Mac}, Rest m → Rest (runN s k m)
  | 0, _, h => h
  | k + 1, _, h => Rest.run hs k (h.go hs)
theorem like_run {s : List Nat} (hs : okS s) : ∀ (k : Nat) {m : Mac}, Rest m → Like m (runN s k m)
  | 0, m, _ => Like.refl m
  | k + 1, m, h => by
    refine Like.trans ?_ (like_run hs k (h.go hs))
    by_cases h0 : m.how = 0
    · exact (go_turns h.inv h.nw h0).1
    · rw [go_over h.nw h0]
      exact Like.refl m
theorem run_ends {s : List Nat} (hs : okS s) : ∀ (k : Nat) {m : Mac}, Rest m → m.fuel - m.used < (k : Int) → (runN s k m).how ≠ 0
  | 0, m, h, hk => by have := h.inv.used; simp at hk; omega
  | k + 1, m, h, hk => by
    show (runN s k (goM s m)).how ≠ 0
    by_cases h0 : m.how = 0
    · obtain ⟨hl, g1, ⟨g2, g3⟩ | ⟨g2, g3, g4⟩⟩ := go_turns (s := s) h.inv h.nw h0
      · rw [runN_over g1 g3]
        exact g3
      · refine run_ends hs k (h.go hs) ?_
        rw [hl.fuel, g4]
        push_cast at hk
        omega
    · rw [go_over h.nw h0, runN_over h.nw h0]
      exact h0
theorem endM_rest {s : List Nat} (hs : okS s) {m : Mac} (h : Rest m) : Rest (endM s m) := h.run hs 1025
theorem endM_like {s : List Nat} (hs : okS s) {m : Mac} (h : Rest m) : Like m (endM s m) := like_run hs 1025 h
theorem endM_how {s : List Nat} (hs : okS s) {m : Mac} (h : Rest m) : (endM s m).how ≠ 0 := run_ends hs 1025 h (by have := h.inv.fuel; have := h.inv.used; omega)
theorem endM_go {s : List Nat} (hs : okS s) {m : Mac} (h : Rest m) : endM s (goM s m) = endM s m := by
  have h3 := runN_succ s 1025 m
  rw [runN_cons] at h3
  show runN s 1025 (goM s m) = runN s 1025 m
  rw [h3]
  exact go_over (endM_rest hs h).nw (endM_how hs h)
theorem new_rest {a b f e t : Int} {c : List Ins} {l : List Nat} (hc : Md.cfgB a b f e = true) (hx : ∀ k, k < c.length → (ci c k).x < 18446744073709551616) (hl : ∀ x ∈ l, x < 18446744073709551616) : Rest (newM a f e t c l) :=
  ⟨inv_new hc hx hl, show ¬ (0 : Int) ≤ -1 by decide, fun t ht => by simp [newM] at ht, by simp [newM, cellsOfL]⟩
def aftS (s : List Nat) (m : Mac) : List Nat := if m.how = 1 then Sx.foldL s m.buf else s
theorem aftS_len (s : List Nat) (m : Mac) : (aftS s m).length = s.length := by
  unfold aftS
  split
  · exact Sx.foldL_len _ _
  · rfl
theorem foldL_ok : ∀ (ts : Wr) {s : List Nat}, okS s → (∀ t ∈ ts, okN t.2) → okS (Sx.foldL s ts)
  | [], _, h, _ => h
  | t :: ts, s, h, ht => by
    show okS (Sx.foldL (Sx.setL s t.1 t.2) ts)
    refine foldL_ok ts ?_ (fun u hu => ht u (by simp [hu]))
    unfold Sx.setL
    split
    · intro x hx
      rcases List.mem_or_eq_of_mem_set hx with hx | rfl
      · exact h x hx
      · exact okN_fix (ht t (by simp)).2
    · exact h
theorem aftS_ok {s : List Nat} {m : Mac} (h : okS s) (hm : Rest m) : okS (aftS s m) := by
  unfold aftS
  split
  · exact foldL_ok _ h hm.inv.buf
  · exact h
theorem rest_allB {m : Mac} (hm : Rest m) {n : Nat} (hn : (n : Int) = m.cells) : Sx.allB n m.buf = true := by
  unfold Sx.allB
  rw [List.all_eq_true]
  intro t ht
  have := hm.cel t ht
  unfold Sx.hasN
  simp
  omega
theorem apply_is {s : List Nat} {m : Mac} (hm : Rest m) (hn : (s.length : Int) = m.cells) : Sx.applyL s m.buf = Sx.foldL s m.buf := by
  unfold Sx.applyL
  rw [rest_allB hm hn]
  rfl
end Go.Proofs.YtpboiggakehpoaaGreatDoor
namespace Go.Proofs.YtpboiggakehpoaaGreatDoor
open Go.ChangeShapes Go.WideShapes Go.ChangeAt Go.RowKit Num
end Go.Proofs.YtpboiggakehpoaaGreatDoor
namespace Go.Proofs.YtpboiggakehpoaaGreatDoor
open Go.ChangeShapes Go.WideShapes Go.ChangeAt Go.RowKit Num
attribute [local go_sem] run_store_float
structure Rs where
  po : Option Addr
  co : Nat
  pr : Option Addr
  cr : Nat
  pw : Option Addr
  cw : Nat
abbrev resC (R : Rs) (m : Mac) : Array Value := #[.int .i64 m.how, .int .i64 m.cod, .int .i64 m.err, .slice R.po m.out.length R.co, .slice R.pr m.reads.length R.cr, .slice R.pw m.buf.length R.cw, .int .i64 m.used]
abbrev resV (R : Rs) (m : Mac) : Value := .agg (resC R m)
structure ResAt (w : World) (B : Nat) (R : Rs) (m : Mac) : Prop where
  out : RowAt 74 w R.po R.co (fls m.out)
  reads : TRow w R.pr R.cr m.reads
  writes : TRow w R.pw R.cw m.buf
  ao : Abv B (fpR R.po)
  ar : Abv B (fpR R.pr)
  aw : Abv B (fpR R.pw)
theorem abv_blw {B : Nat} {F G : List Nat} (h : Abv B F) (k : ∀ x ∈ G, x < B) : Sep F G := fun i hi q => absurd (h i hi) (Nat.not_le.2 (k i q))
theorem ResAt.turn {w w' : World} {B : Nat} {R : Rs} {m : Mac} {G G' : List Nat} (h : ResAt w B R m) (k : Turn G G' w w') (hG : ∀ x ∈ G, x < B) : ResAt w' B R m :=
  ⟨h.out.turn k (abv_blw h.ao hG), h.reads.turn k (abv_blw h.ar hG), h.writes.turn k (abv_blw h.aw hG), h.ao, h.ar, h.aw⟩
theorem ResAt.mono {w : World} {B B' : Nat} {R : Rs} {m : Mac} (h : ResAt w B R m) (k : B' ≤ B) : ResAt w B' R m := ⟨h.out, h.reads, h.writes, h.ao.mono k, h.ar.mono k, h.aw.mono k⟩
def zeroM : Mac := ⟨0, 0, 0, false, [], fun _ => 0, fun _ => 0, [], [], 0, 0, [], [], [], -1, 0, 0, 0⟩
def goodB (a b c e : Int) (n k : Nat) : Bool := Md.cfgB a b c e && decide ((n : Int) = a) && decide (k ≤ 8)
def runR (a b c e t : Int) (cs : List Ins) (l s : List Nat) : Mac := if goodB a b c e s.length l.length then endM s (newM a c e t cs l) else zeroM
def runE (a b c e : Int) (n k : Nat) : Int := if goodB a b c e n k then 0 else 1
theorem Turn.past {F : List Nat} {W wr u : World} {ga : Nat} (ht : Turn [] F W wr) (t : Turn [ga] [ga] wr u) (hg : W.heap.size ≤ ga) : Turn [] F W u :=
  ⟨t.os.trans ht.os, t.tape.trans ht.tape, t.output.trans ht.output, Nat.le_trans ht.size t.size, fun k hk _ => (t.block k (Nat.lt_of_lt_of_le hk ht.size) (by simp; omega)).trans (ht.block k hk (by simp)), ht.own⟩
structure Fin (W : World) (bm ga : Nat) (K : List Nat) (wr : World) (m : Mac) (a : Ask) : Prop where
  ex : ∃ F, Mc wr bm F K m ∧ Turn [] F W wr ∧ ga ∉ F
  box : wr.heap[ga]? = some (askO a)
  nk : ga ∉ K
  hg : W.heap.size ≤ ga
theorem Gm.boxed {W w : World} {bm : Nat} {K : List Nat} {m : Mac} (h : Gm W [] bm K w m) (a : Ask) : Fin W bm w.heap.size K (w.alloc (askO a)) m a := by
  obtain ⟨F, hM, ht⟩ := h.mc
  exact ⟨⟨F, hM.on (below_alloc _ _), ht.trans (Below.turn (below_alloc w _) F), fun q => absurd (hM.blw _ q) (Nat.lt_irrefl _)⟩, heap_alloc_new _ _, fun q => absurd (hM.blwK _ q) (Nat.lt_irrefl _), ht.size⟩
section
variable {W wr : World} {bm ga : Nat} {K : List Nat} {m : Mac} {a : Ask}
theorem Fin.gm (h : Fin W bm ga K wr m a) : Gm W [] bm K wr m := by
  obtain ⟨F, hM, ht, _⟩ := h.ex
  exact hM.gm.trans ht
theorem Fin.turned (h : Fin W bm ga K wr m a) {F : List Nat} (ht : Turn [] F W wr) (hn : ga ∉ F) {u : World} {m' : Mac} (g : Gm wr F bm K u m') : Fin W bm ga K u m' a := by
  obtain ⟨F', hM', ht'⟩ := g.mc
  exact ⟨⟨F', hM', ht.trans ht', fun q => (ht'.own _ q).elim hn (fun z => absurd (lt_of_block h.box) (Nat.not_lt.2 z))⟩, (g.far (lt_of_block h.box) hn).trans h.box, h.nk, h.hg⟩
theorem Fin.step (h : Fin W bm ga K wr m a) (hT : Shaped5 W) (hI : Inv m) : Calls Tryz.prog 109 #[.pointer (some ⟨bm, 0, none⟩)] wr fun e u => e = .returned (askV (stepM m).2) ∧ Fin W bm ga K u (stepM m).1 a := by
  obtain ⟨F, hM, ht, hn⟩ := h.ex
  have hTab : TabAt wr F := TabAt.turn (w := W) (F := []) ⟨hT, by simp⟩ ht
  exact (step_any hM.gm hTab hI).mono fun e u ⟨q1, q2⟩ => ⟨q1, h.turned ht hn q2⟩
theorem Fin.give (h : Fin W bm ga K wr m a) (hI : Inv m) (x : Nat) : Calls Tryz.prog 111 #[.pointer (some ⟨bm, 0, none⟩), .float .f64 x] wr fun e u => e = .returned (.int .i64 (giveE m)) ∧ Fin W bm ga K u (giveM m x) a := by
  obtain ⟨F, hM, ht, hn⟩ := h.ex
  exact (give_any hM.gm hI x).mono fun e u ⟨q1, q2⟩ => ⟨q1, h.turned ht hn q2⟩
theorem Fin.put (h : Fin W bm ga K wr m a) (k' : Ask) : Fin W bm ga K ((((wr.setCell ⟨ga, 0, none⟩ (.int .i64 k'.kind)).setCell ⟨ga, 1, none⟩ (.int .i64 k'.cell)).setCell ⟨ga, 2, none⟩ (.float .f64 k'.x)).setCell ⟨ga, 3, none⟩ (.bool k'.first)) m k' := by
  obtain ⟨F, hM, ht, hn⟩ := h.ex
  have t := (((turn_set wr ga 0 (.int .i64 k'.kind)).trans (turn_set _ ga 1 (.int .i64 k'.cell))).trans (turn_set _ ga 2 (.float .f64 k'.x))).trans (turn_set _ ga 3 (.bool k'.first))
  exact ⟨⟨F, hM.turn t (fun x hx q => by simp at q; subst q; exact hn hx) (fun x hx q => by simp at q; subst q; exact h.nk hx), ht.past t h.hg, hn⟩, askO_set h.box, h.nk, h.hg⟩
end
set_option maxHeartbeats 2000000 in
set_option maxRecDepth 100000 in
theorem finish_any {W w : World} {bm b : Nat} {K F : List Nat} {m : Mac} {s : List Nat} (hG : Gm W [] bm K w m) (hT : Shaped5 W) (hS : Sx.Cel 94 W b F s) (hs : okS s) (hm : Rest m) : Calls Tryz.prog 49 #[.pointer (some ⟨bm, 0, none⟩), .pointer (some ⟨b, 0, none⟩)] w fun e w' => e = .returned (.tuple #[]) ∧ Gm W [] bm K w' (endM s m) := by
  have HGT : Hid (∀ u ga m' a, Fin W bm ga K u m' a → ∀ i : Int, Calls Tryz.prog 110 #[.pointer (some ⟨b, 0, none⟩), .int .i64 i] u fun e w' => e = .returned (.tuple #[.float .f64 (Sx.getV s i), .int .i64 (Sx.cellE s.length i)]) ∧ w' = u) := fun u ga m' a h i => Sx.get_any (hS.on h.gm.fresh) i
  have HST0 := Lib.hid (step_any hG ⟨hT, by simp⟩ hm.inv)
  have HST : Hid (∀ u ga m' a, Fin W bm ga K u m' a → Inv m' → Calls Tryz.prog 109 #[.pointer (some ⟨bm, 0, none⟩)] (u.alloc (askO a)) fun e v => e = .returned (askV (stepM m').2) ∧ Fin W bm u.heap.size K v (stepM m').1 a) := fun u ga m' a h hI => (h.gm.boxed a).step hT hI
  have HGV : Hid (∀ u ga m' a x, Fin W bm ga K u m' a → Inv m' → Calls Tryz.prog 111 #[.pointer (some ⟨bm, 0, none⟩), .float .f64 x] u fun e v => e = .returned (.int .i64 (giveE m')) ∧ Fin W bm ga K v (giveM m' x) a) := fun u ga m' a x h hI => h.give hI x
  have HM : Hid (Rest m ∧ okS s) := ⟨hm, hs⟩
  clear hG hT hS hs hm
  unfold askV at HST0 HST
  go_enter Tryz.func49, Tryz.ntmps49
  go_wp2_with (go_at_call 109; refine HST0.out.mono ?_; rintro e u0 ⟨rfl, q⟩; have F0 := Lib.hid (q.boxed (stepM m).2); clear q HST0)
  go_loopg [4] 1100 (fun k v4 wr => ∃ ga mk, v4 = .pointer (some ⟨ga, 0, none⟩) ∧ Hid (Fin W bm ga K wr (stepM mk).1 (stepM mk).2 ∧ Rest mk ∧ endM s mk = endM s m ∧ (mk.how = 0 → 1025 - mk.used < (k : Int))))
  case atStart => exact ⟨u0.heap.size, m, rfl, F0.out, HM.out.1, rfl, fun _ => by have := HM.out.1.inv.used; omega⟩
  case round =>
    obtain ⟨ga, mk, rfl, HR⟩ := hrel
    have HIN := Lib.hid (inv_step HR.out.2.1.inv)
    have HG0 : Hid (Rest (goM s mk) ∧ endM s (goM s mk) = endM s m) := ⟨HR.out.2.1.go HM.out.2, (endM_go HM.out.2 HR.out.2.1).trans HR.out.2.2.1⟩
    have hk : ((stepM mk).2.kind = 4 ∧ goM s mk = (stepM mk).1 ∧ endM s m = (stepM mk).1) ∨ ((stepM mk).2.kind = 1 ∧ goM s mk = giveM (stepM mk).1 (Sx.getV s (stepM mk).2.cell) ∧ mk.how = 0 ∧ ((goM s mk).how = 0 → (goM s mk).used = mk.used + 1)) ∨ (((stepM mk).2.kind ≠ 4 ∧ (stepM mk).2.kind ≠ 1) ∧ goM s mk = (stepM mk).1 ∧ mk.how = 0 ∧ ((goM s mk).how = 0 → (goM s mk).used = mk.used + 1)) := by
      have hr := HR.out.2.1
      by_cases h4 : (stepM mk).2.kind = 4
      · have e1 : goM s mk = (stepM mk).1 := go_kindN (by rw [h4]; decide)
        refine .inl ⟨h4, e1, ?_⟩
        rw [← HG0.out.2, ← e1]
        have hh : (goM s mk).how ≠ 0 := by
          by_cases h0 : mk.how = 0
          · obtain ⟨_, _, ⟨_, g3⟩ | ⟨g2, _⟩⟩ := go_turns (s := s) hr.inv hr.nw h0
            · exact g3
            · exact absurd h4 g2
          · rw [go_over hr.nw h0]; exact h0
        exact runN_over HG0.out.1.nw hh _
      · have h0 : mk.how = 0 := by
          by_cases h0 : mk.how = 0
          · exact h0
          · rw [step_over hr.nw h0] at h4
            exact absurd rfl h4
        have hu : (goM s mk).how = 0 → (goM s mk).used = mk.used + 1 := by
          obtain ⟨_, _, ⟨g2, _⟩ | ⟨_, _, g4⟩⟩ := go_turns (s := s) hr.inv hr.nw h0
          · exact absurd g2 h4
          · exact fun _ => g4
        by_cases h1 : (stepM mk).2.kind = 1
        · exact .inr (.inl ⟨h1, go_kind1 h1, h0, hu⟩)
        · exact .inr (.inr ⟨⟨h4, h1⟩, go_kindN h1, h0, hu⟩)
    have hus := HR.out.2.1.inv.used
    have hfu := HR.out.2.1.inv.fuel
    obtain ⟨⟨x0, x1, x2, x3, x4⟩, _⟩ := askO_cells HR.out.1.box
    have HF := Lib.hid HR.out.1
    have HMS : Hid (mk.how = 0 → 1025 - mk.used < (gk : Int)) := HR.out.2.2.2
    have hus2 : mk.used ≤ 1024 := by omega
    clear HR hus hfu
    generalize hmg : goM s mk = mg at HG0 hk
    generalize stepM mk = r at HF HIN hk x0 x1 x2 x3
    obtain ⟨m', ⟨kd, cl, xx, fi⟩⟩ := r
    dsimp only at HF HIN hk x0 x1 x2 x3
    clear hmg
    rcases hk with ⟨rfl, _, he⟩ | ⟨rfl, rfl, h0, hu⟩ | ⟨⟨h4, h1⟩, rfl, h0, hu⟩
    · have HE : Hid (Gm W [] bm K wr (endM s m)) := by rw [he]; exact HF.out.gm
      clear he HG0 HST HGV HGT HMS
      go_wp2
      go_end0
      exact ⟨rfl, HE.out⟩
    · have HNX : Hid ((giveM m' (Sx.getV s cl)).how = 0 → 1025 - (giveM m' (Sx.getV s cl)).used < ((gk - 1 : Nat) : Int)) := fun hh => by have := hu hh; have := HMS.out h0; omega
      have hgk : gk - 1 < gk := by have := HMS.out h0; omega
      have HGV1 := Lib.hid (fun u (h : Fin W bm ga K u m' ⟨1, cl, xx, fi⟩) => HGV.out u ga m' _ (Sx.getV s cl) h HIN.out)
      have HGT1 := Lib.hid (HGT.out wr ga m' _ HF.out cl)
      clear HMS hu h0 hus2
      generalize giveM m' (Sx.getV s cl) = mg at HGV1 HG0 HNX
      have HST1 := Lib.hid (fun u (h : Fin W bm ga K u mg ⟨1, cl, xx, fi⟩) => HST.out u ga mg _ h HG0.out.1.inv)
      generalize Sx.getV s cl = y at HGV1 HGT1
      clear HGV HGT HST
      go_wp2_with (first
        | (go_at_call 109; refine (HST1.out _ F1.out).mono ?_; rintro e u2 ⟨rfl, q⟩; obtain ⟨⟨z0, z1, z2, z3, z4⟩, y0, y1, y2, y3⟩ := askO_cells q.box; have F2 := Lib.hid (q.put (stepM mg).2); clear q)
        | (go_at_call 111; refine (HGV1.out _ HF.out).mono ?_; rintro e u1 ⟨rfl, q⟩; obtain ⟨⟨x0, x1, x2, x3, x4⟩, _⟩ := askO_cells q.box; have F1 := Lib.hid q; clear q)
        | (go_at_call 110; refine HGT1.out.mono ?_; rintro e w' ⟨rfl, hw⟩; subst w'))
      go_roundg (gk - 1)
      case measure => exact hgk
      case rel => exact ⟨_, mg, rfl, F2.out, HG0.out.1, HG0.out.2, HNX.out⟩
    · have HNX : Hid (mg.how = 0 → 1025 - mg.used < ((gk - 1 : Nat) : Int)) := fun hh => by have := hu hh; have := HMS.out h0; omega
      have hgk : gk - 1 < gk := by have := HMS.out h0; omega
      have HST1 := Lib.hid (HST.out wr ga mg _ HF.out HG0.out.1.inv)
      clear HMS hu h0 hus2 HGV HGT HST
      go_wp2_with (go_at_call 109; refine HST1.out.mono ?_; rintro e u2 ⟨rfl, q⟩; obtain ⟨⟨z0, z1, z2, z3, z4⟩, y0, y1, y2, y3⟩ := askO_cells q.box; have F2 := Lib.hid (q.put (stepM mg).2); clear q)
      go_roundg (gk - 1)
      case measure => exact hgk
      case rel => exact ⟨_, mg, rfl, F2.out, HG0.out.1, HG0.out.2, HNX.out⟩
theorem res_back {fn : Func} {p : Tmp} (h : fn.results = #[.cell p 63]) {Q : Ending → World → Prop} {a : Act} {w : World} (g : Nat) (R : Rs) (m : Mac) (hp : a.tmps.getD p undef = .pointer (some ⟨g, 0, none⟩))
    (hg : w.heap[g]? = some (.cells (resC R m) 63 (0, 0))) (hd : a.defers = []) (hR : Q (.returned (resV R m)) w) : bodyPost Tryz.prog fn Q .ret a w :=
  bodyPost_ret (results_cell_row h _ _ g _ _ _ _ hp hg Tryz.underlying63 rfl (by kernel_rfl)) hd hR
theorem res_back2 {fn : Func} {p u : Tmp} (h : fn.results = #[.cell p 63, .tmp u]) {Q : Ending → World → Prop} {a : Act} {w : World} (g : Nat) (R : Rs) (m : Mac) (e : Int) (hp : a.tmps.getD p undef = .pointer (some ⟨g, 0, none⟩)) (hu : a.tmps.getD u undef = .int .i64 e)
    (hg : w.heap[g]? = some (.cells (resC R m) 63 (0, 0))) (hd : a.defers = []) (hR : Q (.returned (.tuple #[resV R m, .int .i64 e])) w) : bodyPost Tryz.prog fn Q .ret a w := by
  refine bodyPost_ret (v := .tuple #[resV R m, .int .i64 e]) ?_ hd hR
  rw [results_cell_tmp h, hp, hu]
  have hl := run_loadVar_row (P := Tryz.prog) w g 63 63 (resC R m) (0, 0) _ hg Tryz.underlying63 rfl (by kernel_rfl)
  simp [asAddr, hl, Result.andThen]
theorem cells7_of {w : World} {x : Nat} {v0 v1 v2 v3 v4 v5 v6 : Value} {T : TypeId} (h : w.heap[x]? = some (.cells #[v0, v1, v2, v3, v4, v5, v6] T (0, 0))) : (w.cell? ⟨x, 0, none⟩ = some v0 ∧ w.cell? ⟨x, 1, none⟩ = some v1 ∧ w.cell? ⟨x, 2, none⟩ = some v2 ∧ w.cell? ⟨x, 3, none⟩ = some v3 ∧ w.cell? ⟨x, 4, none⟩ = some v4 ∧ w.cell? ⟨x, 5, none⟩ = some v5 ∧ w.cell? ⟨x, 6, none⟩ = some v6 ∧ x < w.heap.size) ∧ w.frozen? ⟨x, 0, none⟩ = false ∧ w.frozen? ⟨x, 1, none⟩ = false ∧ w.frozen? ⟨x, 2, none⟩ = false ∧ w.frozen? ⟨x, 3, none⟩ = false ∧ w.frozen? ⟨x, 4, none⟩ = false ∧ w.frozen? ⟨x, 5, none⟩ = false ∧ w.frozen? ⟨x, 6, none⟩ = false :=
  ⟨⟨by rw [cell_of_row w x 0 _ _ _ h]; rfl, by rw [cell_of_row w x 1 _ _ _ h]; rfl, by rw [cell_of_row w x 2 _ _ _ h]; rfl, by rw [cell_of_row w x 3 _ _ _ h]; rfl, by rw [cell_of_row w x 4 _ _ _ h]; rfl, by rw [cell_of_row w x 5 _ _ _ h]; rfl, by rw [cell_of_row w x 6 _ _ _ h]; rfl, lt_of_block h⟩, frozen_of_row w x 0 _ _ h, frozen_of_row w x 1 _ _ h, frozen_of_row w x 2 _ _ h, frozen_of_row w x 3 _ _ h, frozen_of_row w x 4 _ _ h, frozen_of_row w x 5 _ _ h, frozen_of_row w x 6 _ _ h⟩
theorem box_set7 {w : World} {x : Nat} {v0 v1 v2 v3 v4 v5 v6 u0 u1 u2 u3 u4 u5 u6 : Value} {T : TypeId} (h : w.heap[x]? = some (.cells #[v0, v1, v2, v3, v4, v5, v6] T (0, 0))) : (((((((w.setCell ⟨x, 0, none⟩ u0).setCell ⟨x, 1, none⟩ u1).setCell ⟨x, 2, none⟩ u2).setCell ⟨x, 3, none⟩ u3).setCell ⟨x, 4, none⟩ u4).setCell ⟨x, 5, none⟩ u5).setCell ⟨x, 6, none⟩ u6).heap[x]? = some (.cells #[u0, u1, u2, u3, u4, u5, u6] T (0, 0)) := by
  have e0 := heap_setCell_same w x 0 _ _ u0 h
  have e1 := heap_setCell_same _ x 1 _ _ u1 e0
  have e2 := heap_setCell_same _ x 2 _ _ u2 e1
  have e3 := heap_setCell_same _ x 3 _ _ u3 e2
  have e4 := heap_setCell_same _ x 4 _ _ u4 e3
  have e5 := heap_setCell_same _ x 5 _ _ u5 e4
  have e6 := heap_setCell_same _ x 6 _ _ u6 e5
  simp only [List.setIfInBounds_toArray, List.set_cons_zero, List.set_cons_succ] at e6
  exact e6
theorem turn_set7 (w : World) (x : Nat) (u0 u1 u2 u3 u4 u5 u6 : Value) : Turn [x] [x] w (((((((w.setCell ⟨x, 0, none⟩ u0).setCell ⟨x, 1, none⟩ u1).setCell ⟨x, 2, none⟩ u2).setCell ⟨x, 3, none⟩ u3).setCell ⟨x, 4, none⟩ u4).setCell ⟨x, 5, none⟩ u5).setCell ⟨x, 6, none⟩ u6) := ((((((turn_set w x 0 u0).trans (turn_set _ x 1 u1)).trans (turn_set _ x 2 u2)).trans (turn_set _ x 3 u3)).trans (turn_set _ x 4 u4)).trans (turn_set _ x 5 u5)).trans (turn_set _ x 6 u6)
abbrev resZ : Obj := .cells #[.int .i64 0, .int .i64 0, .int .i64 0, .slice none 0 0, .slice none 0 0, .slice none 0 0, .int .i64 0] 63
set_option maxHeartbeats 2000000 in
set_option maxRecDepth 100000 in
theorem became_any {W w : World} {b : Nat} {F0 K : List Nat} {m : Mac} (h : Gm W F0 b K w m) (ho : m.out.length ≤ 1024) (hr : m.reads.length ≤ 1024) : Calls Tryz.prog 53 #[.pointer (some ⟨b, 0, none⟩)] w fun e w' => ∃ R, e = .returned (resV R m) ∧ ResAt w' w.heap.size R m ∧ Below w.heap.size w w' := by
  have hz := below_alloc w resZ
  have HE := Lib.hid (end_any (h.on hz))
  have HO := Lib.hid (fun u (hb : Below (w.alloc resZ).heap.size (w.alloc resZ) u) => out_any ((h.on hz).on hb) ho)
  have HR := Lib.hid (fun u (hb : Below (w.alloc resZ).heap.size (w.alloc resZ) u) => reads_any ((h.on hz).on hb) hr)
  have HW := Lib.hid (fun u (hb : Below (w.alloc resZ).heap.size (w.alloc resZ) u) => writes_any ((h.on hz).on hb))
  have HU := Lib.hid (fun u (hb : Below (w.alloc resZ).heap.size (w.alloc resZ) u) => used_any ((h.on hz).on hb))
  unfold endV at HE
  have HZ := Lib.hid hz
  have HC : Hid (∀ u, Below (w.alloc resZ).heap.size (w.alloc resZ) u → u.heap[w.heap.size]? = some resZ) := fun u hb => (hb.block _ (by simp)).trans (heap_alloc_new w _)
  clear h ho hr hz
  go_enter Tryz.func53, Tryz.ntmps53
  go_wp2_with (first
    | (go_at_call 117; refine (HU.out _ B4.out).mono ?_; rintro e w' ⟨rfl, hw⟩; subst w')
    | (go_at_call 52; refine (HW.out _ B3.out).mono ?_; rintro e u4 ⟨rfl, q1, q2⟩; have R4 := Lib.hid (And.intro q1 q2); have B4 := Lib.hid (B3.out.trans (q2.mono B3.out.size)); obtain ⟨⟨x0, x1, x2, x3, x4, x5, x6, x7⟩, y0, y1, y2, y3, y4, y5, y6⟩ := cells7_of (HC.out _ B4.out); clear q1 q2)
    | (go_at_call 116; refine (HR.out _ B2.out).mono ?_; rintro e u3 ⟨pr, cr, rfl, q0, q1, q2⟩; have R3 := Lib.hid (And.intro q0 (And.intro q1 q2)); have B3 := Lib.hid (B2.out.trans (q2.mono B2.out.size)); clear q0 q1 q2)
    | (go_at_call 115; refine (HO.out _ B1.out).mono ?_; rintro e u2 ⟨po, co, rfl, q0, q1, q2⟩; have R2 := Lib.hid (And.intro q0 (And.intro q1 q2)); have B2 := Lib.hid (B1.out.trans (q2.mono B1.out.size)); clear q0 q1 q2)
    | (go_at_call 50; refine HE.out.mono ?_; rintro e u1 ⟨rfl, q⟩; have B1 := Lib.hid q; clear q))
  have hs1 := B1.out.size
  have hs2 := R2.out.2.2.size
  have hs3 := R3.out.2.2.size
  have hw1 : w.heap.size + 1 ≤ u1.heap.size := by simpa using hs1
  have hR : ResAt u4 u1.heap.size ⟨po, co, pr, cr, some ⟨u3.heap.size, 0, none⟩, m.buf.length⟩ m := ⟨(R2.out.1.on R3.out.2.2).on R4.out.2, R3.out.1.on R4.out.2, R4.out.1, R2.out.2.1, R3.out.2.1.mono hs2, fun k hk => by simp [fpR] at hk; omega⟩
  have t := turn_set7 u4 w.heap.size (.int .i64 m.how) (.int .i64 m.cod) (.int .i64 m.err) (.slice po m.out.length co) (.slice pr m.reads.length cr) (.slice (some ⟨u3.heap.size, 0, none⟩) m.buf.length m.buf.length) (.int .i64 m.used)
  refine res_back rfl w.heap.size ⟨po, co, pr, cr, some ⟨u3.heap.size, 0, none⟩, m.buf.length⟩ m rfl (box_set7 (HC.out _ B4.out)) rfl ⟨_, rfl, (hR.turn t (fun x hx => by simp at hx; omega)).mono (by omega), (HZ.out.trans (B4.out.mono HZ.out.size)).trans (t.below (fun x hx => by simp at hx; omega) (by have := B4.out.size; simp at this; omega))⟩
set_option maxHeartbeats 2000000 in
set_option maxRecDepth 100000 in
theorem afits_any {w : World} {bs : Nat} {F s : List Nat} (hS : Sx.Cel 94 w bs F s) (a b c e : Int) : Calls Tryz.prog 47 #[cfgV a b c e, .pointer (some ⟨bs, 0, none⟩)] w fun r w' => r = .returned (.bool (Md.cfgB a b c e && decide ((s.length : Int) = a))) ∧ Below w.heap.size w w' := by
  have HP := Lib.hid (Md.place_any a b c e (w.alloc (cfgO a b c e)))
  have HL : Hid (∀ u, Below w.heap.size w u → Calls Tryz.prog 104 #[.pointer (some ⟨bs, 0, none⟩)] u fun e w' => e = .returned (.int .i64 s.length) ∧ w' = u) := fun u hb => Sx.len_any (hS.on hb)
  have HZ := Lib.hid (below_alloc w (cfgO a b c e))
  have HC : Hid (∀ u, Below (w.alloc (cfgO a b c e)).heap.size (w.alloc (cfgO a b c e)) u → u.cell? ⟨w.heap.size, 0, none⟩ = some (.int .i64 a) ∧ w.heap.size < u.heap.size) := fun u hb => by
    have h1 := (hb.block w.heap.size (by simp)).trans (heap_alloc_new w (cfgO a b c e))
    exact ⟨by rw [cell_of_row u _ 0 _ _ _ h1]; rfl, lt_of_block h1⟩
  clear hS
  cases hc : Md.cfgB a b c e
  · rw [hc, if_neg Bool.false_ne_true] at HP
    clear hc
    go_enter Tryz.func47, Tryz.ntmps47
    go_wp2_with (go_at_call 103; refine HP.out.mono ?_; rintro r u0 ⟨rfl, q⟩; obtain ⟨x0, x1⟩ := HC.out _ q; have HQ := Lib.hid (HZ.out.trans (q.mono HZ.out.size)); clear q HP)
    go_region
    all_goals (try go_wp2)
    all_goals go_ret
    all_goals exact ⟨rfl, (HQ.out.alloc HQ.out.size _).trans ((Same.drewN _ _).below _)⟩
  · rw [hc, if_pos rfl] at HP
    clear hc
    by_cases hl : (s.length : Int) = a
    · rw [decide_eq_true hl, Bool.true_and]
      go_enter Tryz.func47, Tryz.ntmps47
      go_wp2_with (go_at_call 103; refine HP.out.mono ?_; rintro r u0 ⟨rfl, q⟩; obtain ⟨x0, x1⟩ := HC.out _ q; have HQ := Lib.hid (HZ.out.trans (q.mono HZ.out.size)); clear q HP)
      go_region_with (go_at_call 104; refine (HL.out _ ((HQ.out.alloc HQ.out.size _).trans ((Same.drewN _ _).below _))).mono ?_; rintro r w' ⟨rfl, hw⟩; subst w')
      all_goals (try go_wp2)
      all_goals go_ret
      all_goals exact ⟨rfl, (HQ.out.alloc HQ.out.size _).trans ((Same.drewN _ _).below _)⟩
    · rw [decide_eq_false hl, Bool.true_and]
      go_enter Tryz.func47, Tryz.ntmps47
      go_wp2_with (go_at_call 103; refine HP.out.mono ?_; rintro r u0 ⟨rfl, q⟩; obtain ⟨x0, x1⟩ := HC.out _ q; have HQ := Lib.hid (HZ.out.trans (q.mono HZ.out.size)); clear q HP)
      go_region_with (go_at_call 104; refine (HL.out _ ((HQ.out.alloc HQ.out.size _).trans ((Same.drewN _ _).below _))).mono ?_; rintro r w' ⟨rfl, hw⟩; subst w')
      all_goals (try go_wp2)
      all_goals go_ret
      all_goals exact ⟨by show Ending.returned (.bool ((s.length : Int) == a)) = _; rw [show ((s.length : Int) == a) = false by simpa using hl], (HQ.out.alloc HQ.out.size _).trans ((Same.drewN _ _).below _)⟩
theorem Turn.past2 {F F' : List Nat} {W u v : World} {g : Nat} (ht : Turn F F' W u) (t : Turn [g] [g] u v) (hg : W.heap.size ≤ g) : Turn F F' W v :=
  ⟨t.os.trans ht.os, t.tape.trans ht.tape, t.output.trans ht.output, Nat.le_trans ht.size t.size, fun k hk hn => (t.block k (Nat.lt_of_lt_of_le hk ht.size) (by simp; omega)).trans (ht.block k hk hn), ht.own⟩
theorem run_close {w u : World} {bs g B : Nat} {F s : List Nat} {R : Rs} {m : Mac} (hB : Turn F F w u) (hC : Sx.Cel 94 u bs F s) (hR : ResAt u B R m) (hbox : u.heap[g]? = some resZ) (hg : w.heap.size ≤ g) (hgB : g < B) (hF : Blw w F) (hwB : w.heap.size ≤ B) {v : World} (hv : v = (((((((u.setCell ⟨g, 0, none⟩ (.int .i64 m.how)).setCell ⟨g, 1, none⟩ (.int .i64 m.cod)).setCell ⟨g, 2, none⟩ (.int .i64 m.err)).setCell ⟨g, 3, none⟩ (.slice R.po m.out.length R.co)).setCell ⟨g, 4, none⟩ (.slice R.pr m.reads.length R.cr)).setCell ⟨g, 5, none⟩ (.slice R.pw m.buf.length R.cw)).setCell ⟨g, 6, none⟩ (.int .i64 m.used))) :
    v.heap[g]? = some (.cells (resC R m) 63 (0, 0)) ∧ ResAt v w.heap.size R m ∧ Sx.Cel 94 v bs F s ∧ Turn F F w v := by
  subst hv
  have t := turn_set7 u g (.int .i64 m.how) (.int .i64 m.cod) (.int .i64 m.err) (.slice R.po m.out.length R.co) (.slice R.pr m.reads.length R.cr) (.slice R.pw m.buf.length R.cw) (.int .i64 m.used)
  exact ⟨box_set7 hbox, (hR.turn t (fun x hx => by simp at hx; omega)).mono hwB, hC.turn t (fun x hx q => by simp at q; have := hF x hx; omega), hB.past2 t hg⟩
abbrev runW (w : World) (a b c e t : Int) (ao : Option Addr) (n cap : Nat) : World := (newW w a b c e t ao n cap).alloc resZ
theorem runW_below (w : World) (a b c e t : Int) (ao : Option Addr) (n cap : Nat) : Below w.heap.size w (runW w a b c e t ao n cap) := (newW_below w a b c e t ao n cap).trans ((below_alloc _ _).mono (by simp; omega))
theorem runW_boxes {w u : World} {a b c e t : Int} {ao : Option Addr} {n cap : Nat} (h : Below (runW w a b c e t ao n cap).heap.size (runW w a b c e t ao n cap) u) : (u.cell? ⟨w.heap.size, 0, none⟩ = some (.int .i64 a) ∧ u.cell? ⟨w.heap.size, 1, none⟩ = some (.int .i64 b) ∧ u.cell? ⟨w.heap.size, 2, none⟩ = some (.int .i64 c) ∧ u.cell? ⟨w.heap.size, 3, none⟩ = some (.int .i64 e) ∧ w.heap.size < u.heap.size) ∧ (u.cell? ⟨w.heap.size + 1, 0, none⟩ = some (.int .i64 t) ∧ u.cell? ⟨w.heap.size + 1, 1, none⟩ = some (.slice ao n cap) ∧ w.heap.size + 1 < u.heap.size) ∧ u.heap[w.heap.size + 2]? = some resZ ∧ Below w.heap.size w u := by
  have h2 : Below (newW w a b c e t ao n cap).heap.size (newW w a b c e t ao n cap) u := (below_alloc _ resZ).trans (h.mono (by simp))
  obtain ⟨x0, x1, x2, x3, x4⟩ := newW_boxes4 h2
  obtain ⟨_, ⟨y0, y1, y2⟩, y3⟩ := newW_boxes h2
  exact ⟨⟨x0, x1, x2, x3, x4⟩, ⟨y0, y1, y2⟩, (h.block (w.heap.size + 2) (by simp)).trans (heap_new (by simp)), y3⟩
end Go.Proofs.YtpboiggakehpoaaGreatDoor
namespace Go.Proofs.YtpboiggakehpoaaGreatDoor
open Go.ChangeShapes Go.WideShapes Go.ChangeAt Go.RowKit Num
attribute [local go_sem] run_store_float
theorem res_none (w : World) (B : Nat) : ResAt w B ⟨none, 0, none, 0, none, 0⟩ zeroM := ⟨⟨World.ownsRow_nil _ _ _ _⟩, ⟨World.ownsRow_nil _ _ _ _⟩, ⟨World.ownsRow_nil _ _ _ _⟩, fun k hk => by simp [fpR] at hk, fun k hk => by simp [fpR] at hk, fun k hk => by simp [fpR] at hk⟩
theorem TRow.tch {w : World} {p : Option Addr} {c : Nat} {l : Wr} (h : TRow w p c l) : Sx.TchAt w p l := fun i hi => by
  obtain ⟨g, h1, h2, h3, h4, _⟩ := h.at i hi
  exact ⟨g, h1, h2, h3, h4⟩
theorem Rest.told {m : Mac} (h : Rest m) : m.out.length ≤ 1024 ∧ m.reads.length ≤ 1024 := by
  have h1 := h.inv.out
  have h2 := h.inv.reads
  have h3 := h.inv.used
  have h4 := h.inv.fuel
  rw [if_neg h.nw] at h2
  omega
set_option maxHeartbeats 2000000 in
set_option maxRecDepth 100000 in
theorem run_bad {w : World} {a b c e t : Int} {ao : Option Addr} {n cap : Nat} {po : Option Addr} {k co bs : Nat} {F s : List Nat} (hS : Sx.Cel 94 w bs F s) (hg : goodB a b c e s.length k = false) : Calls Tryz.prog 24 #[cfgV a b c e, .agg #[.int .i64 t, .slice ao n cap], .slice po k co, .pointer (some ⟨bs, 0, none⟩)] w fun r w' => r = .returned (.tuple #[resV ⟨none, 0, none, 0, none, 0⟩ zeroM, .int .i64 1]) ∧ Below w.heap.size w w' := by
  have HF := Lib.hid (afits_any (hS.on (runW_below w a b c e t ao n cap)) a b c e)
  clear hS
  unfold goodB at hg
  have HX : Hid (∀ u, Below (runW w a b c e t ao n cap).heap.size (runW w a b c e t ao n cap) u → u.heap[w.heap.size + 2]? = some resZ ∧ Below w.heap.size w u) := fun u hb => (runW_boxes hb).2.2
  have HT : Hid (∀ u, Below w.heap.size w u → w.heap.size + 2 < u.heap.size → Below w.heap.size w (((((((u.setCell ⟨w.heap.size + 2, 0, none⟩ (.int .i64 0)).setCell ⟨w.heap.size + 2, 1, none⟩ (.int .i64 0)).setCell ⟨w.heap.size + 2, 2, none⟩ (.int .i64 0)).setCell ⟨w.heap.size + 2, 3, none⟩ (.slice none 0 0)).setCell ⟨w.heap.size + 2, 4, none⟩ (.slice none 0 0)).setCell ⟨w.heap.size + 2, 5, none⟩ (.slice none 0 0)).setCell ⟨w.heap.size + 2, 6, none⟩ (.int .i64 0))) := fun u hb hl => hb.trans ((turn_set7 u (w.heap.size + 2) _ _ _ _ _ _ _).below (fun x hx => by simp at hx; omega) (by omega))
  cases hf : (Md.cfgB a b c e && decide ((s.length : Int) = a))
  · rw [hf] at HF
    clear hg hf
    go_enter Tryz.func24, Tryz.ntmps24
    go_wp2_with (go_at_call 47; refine HF.out.mono ?_; rintro r u ⟨rfl, q⟩; obtain ⟨⟨x0, x1, x2, x3, x4, x5, x6, x7⟩, y0, y1, y2, y3, y4, y5, y6⟩ := cells7_of (HX.out _ q).1; have HQ := Lib.hid (HX.out _ q); clear q HF)
    exact res_back2 rfl (w.heap.size + 2) ⟨none, 0, none, 0, none, 0⟩ zeroM 1 rfl rfl (box_set7 HQ.out.1) rfl ⟨rfl, HT.out _ HQ.out.2 x7⟩
  · have hk : (8 : Int) < (k : Int) := by rw [hf] at hg; simp at hg; omega
    rw [hf] at HF
    clear hg hf
    go_enter Tryz.func24, Tryz.ntmps24
    go_wp2_with (go_at_call 47; refine HF.out.mono ?_; rintro r u ⟨rfl, q⟩; obtain ⟨⟨x0, x1, x2, x3, x4, x5, x6, x7⟩, y0, y1, y2, y3, y4, y5, y6⟩ := cells7_of (HX.out _ q).1; have HQ := Lib.hid (HX.out _ q); clear q HF)
    exact res_back2 rfl (w.heap.size + 2) ⟨none, 0, none, 0, none, 0⟩ zeroM 1 rfl rfl (box_set7 HQ.out.1) rfl ⟨rfl, HT.out _ HQ.out.2 x7⟩
theorem end_field (h c e : Int) (w : World) : (Instr.field 60 (.agg #[.int .i64 h, .int .i64 c, .int .i64 e]) 0).run Tryz.prog w = .ok (.int .i64 h) w := by kernel_rfl
theorem Gm.aside {u v v' : World} {bm : Nat} {F K : List Nat} {m : Mac} (h : Gm u [] bm K v m) (hK : Abv u.heap.size K) (t : Turn F F v v') (hF : ∀ x ∈ F, x < u.heap.size) : ∃ F0, Gm v' F0 bm K v' m := by
  obtain ⟨F', hM, ht⟩ := h.mc
  exact ⟨F', (hM.turn t (fun x hx q => (ht.own x hx).elim (by simp) (fun z => absurd (hF x q) (by omega))) (fun x hx q => absurd (hF x q) (by have := hK x hx; omega))).gm⟩
set_option maxHeartbeats 4000000 in
set_option maxRecDepth 100000 in
theorem run_good {w : World} {a b c e t : Int} {ao : Option Addr} {cs : List Ins} {n cap : Nat} {po : Option Addr} {l : List Nat} {k co bs : Nat} {F s : List Nat} (hT : Shaped5 w) (hn : cs.length = n) (hk : l.length = k) (hC : CodeAt w ao cs) (hx : ∀ i ∈ cs, i.x < 18446744073709551616) (hL : FlAt w po l) (hl : ∀ x ∈ l, x < 18446744073709551616) (hnl : n ≤ 9223372036854775807) (hS : Sx.Cel 94 w bs F s) (hs : okS s) (hg : goodB a b c e s.length k = true) : Calls Tryz.prog 24 #[cfgV a b c e, .agg #[.int .i64 t, .slice ao n cap], .slice po k co, .pointer (some ⟨bs, 0, none⟩)] w fun r w' => ∃ R, r = .returned (.tuple #[resV R (endM s (newM a c e t cs l)), .int .i64 0]) ∧ ResAt w' w.heap.size R (endM s (newM a c e t cs l)) ∧ Sx.Cel 94 w' bs F (aftS s (endM s (newM a c e t cs l))) ∧ Turn F F w w' := by
  have hgg : Md.cfgB a b c e = true ∧ (s.length : Int) = a ∧ k ≤ 8 := by unfold goodB at hg; simp at hg; exact ⟨hg.1.1, hg.1.2, hg.2⟩
  have hRE : Rest (newM a c e t cs l) := new_rest hgg.1 (fun j hj => hx _ (List.mem_of_getElem? (ci_lt hj))) hl
  have HF := Lib.hid (afits_any (hS.on (runW_below w a b c e t ao n cap)) a b c e)
  rw [hgg.1, decide_eq_true hgg.2.1] at HF
  have HX : Hid (∀ u, Below (runW w a b c e t ao n cap).heap.size (runW w a b c e t ao n cap) u → u.heap[w.heap.size + 1 + 1]? = some resZ ∧ Below w.heap.size w u) := fun u hb => (runW_boxes hb).2.2
  have HB4 : Hid (∀ u, Below (runW w a b c e t ao n cap).heap.size (runW w a b c e t ao n cap) u → (u.cell? ⟨w.heap.size, 0, none⟩ = some (.int .i64 a) ∧ u.cell? ⟨w.heap.size, 1, none⟩ = some (.int .i64 b) ∧ u.cell? ⟨w.heap.size, 2, none⟩ = some (.int .i64 c) ∧ u.cell? ⟨w.heap.size, 3, none⟩ = some (.int .i64 e) ∧ w.heap.size < u.heap.size) ∧ (u.cell? ⟨w.heap.size + 1, 0, none⟩ = some (.int .i64 t) ∧ u.cell? ⟨w.heap.size + 1, 1, none⟩ = some (.slice ao n cap) ∧ w.heap.size + 1 < u.heap.size)) := fun u hb => ⟨(runW_boxes hb).1, (runW_boxes hb).2.1⟩
  have HN : Hid (∀ u, Below w.heap.size w u → Calls Tryz.prog 48 #[cfgV a b c e, .agg #[.int .i64 t, .slice ao n cap], .slice po k co] u fun r w' => ∃ bm K, r = .returned (.pointer (some ⟨bm, 0, none⟩)) ∧ Gm u [] bm K w' (newM a c e t cs l) ∧ Abv u.heap.size K) := fun u hb => mnew_any hn hk (hT.on hb) (hC.on hb) (hL.on hb) hnl hgg.1 hgg.2.2
  have HFI : Hid (∀ u bm K v, Below w.heap.size w u → Gm u [] bm K v (newM a c e t cs l) → Calls Tryz.prog 49 #[.pointer (some ⟨bm, 0, none⟩), .pointer (some ⟨bs, 0, none⟩)] v fun r w' => r = .returned (.tuple #[]) ∧ Gm u [] bm K w' (endM s (newM a c e t cs l))) := fun u bm K v hb hG => finish_any hG (hT.on hb) (hS.on hb) hs hRE
  have hE : Rest (endM s (newM a c e t cs l)) := endM_rest hs hRE
  have hEC : (endM s (newM a c e t cs l)).cells = a := (endM_like hs hRE).cells
  have hk8 : ¬ (8 : Int) < (k : Int) := by have := hgg.2.2; omega
  clear hT hC hx hL hl hnl hn hk hg hRE
  generalize endM s (newM a c e t cs l) = m at *
  generalize newM a c e t cs l = m0 at *
  have HBL := Lib.hid hS.blw
  have HE : Hid (∀ u bm K v, Gm u [] bm K v m → Calls Tryz.prog 50 #[.pointer (some ⟨bm, 0, none⟩)] v fun r w' => r = .returned (.agg #[.int .i64 m.how, .int .i64 m.cod, .int .i64 m.err]) ∧ Below v.heap.size v w') := fun u bm K v hG => end_any hG
  have HWR : Hid (∀ u bm K v, Gm u [] bm K v m → Calls Tryz.prog 52 #[.pointer (some ⟨bm, 0, none⟩)] v fun r w' => r = .returned (.slice (some ⟨v.heap.size, 0, none⟩) m.buf.length m.buf.length) ∧ TRow w' (some ⟨v.heap.size, 0, none⟩) m.buf.length m.buf ∧ Below v.heap.size v w') := fun u bm K v hG => writes_any hG
  have HBE : Hid (∀ W F0 bm K v, Gm W F0 bm K v m → Calls Tryz.prog 53 #[.pointer (some ⟨bm, 0, none⟩)] v fun r w' => ∃ R, r = .returned (resV R m) ∧ ResAt w' v.heap.size R m ∧ Below v.heap.size v w') := fun W F0 bm K v hG => became_any hG hE.told.1 hE.told.2
  have HAP : Hid (∀ v q, Below w.heap.size w v → w.heap.size ≤ q → TRow v (some ⟨q, 0, none⟩) m.buf.length m.buf → Calls Tryz.prog 51 #[.pointer (some ⟨bs, 0, none⟩), .slice (some ⟨q, 0, none⟩) m.buf.length m.buf.length] v fun r w' => r = .returned (.int .i64 (Sx.applyE s.length m.buf)) ∧ Sx.Cel 94 w' bs F (Sx.foldL s m.buf) ∧ Turn F F v w') := fun v q hb hq hr => by
    have hmany : m.buf.length ≤ 9223372036854775807 := by have := hE.inv.few; have := hE.inv.wmax; omega
    rw [← apply_is hE (hgg.2.1.trans hEC.symm)]
    exact Sx.apply_any' (hS.on hb) hr.tch rfl (fun x hx y => by simp [fpR] at hx; have := hS.blw x y; omega) hmany
  have HS := Lib.hid hS
  have h1 : m.how = 1 ∨ ¬ m.how = 1 := by omega
  have hfd := fun w => end_field m.how m.cod m.err w
  clear hgg hE hEC hS hs
  rcases h1 with h1 | h1
  · have HAF : Hid (aftS s m = Sx.foldL s m.buf) := if_pos h1
    rw [h1] at hfd HE
    clear h1
    go_enter Tryz.func24, Tryz.ntmps24
    go_wp2_with (first
      | (go_at_call 53; refine (HBE.out _ _ _ _ _ G6.out.1).mono ?_; rintro r u7 ⟨R, rfl, q1, q2⟩; have R7 := Lib.hid (And.intro q1 q2); have B7 := Lib.hid ((q2.block _ (lt_of_block G6.out.2)).trans G6.out.2); clear q1 q2; obtain ⟨⟨x0, x1, x2, x3, x4, x5, x6, x7⟩, y0, y1, y2, y3, y4, y5, y6⟩ := cells7_of B7.out)
      | (go_at_call 51; refine (HAP.out _ _ (HX.out _ B5.out).2 Q5.out R5.out).mono ?_; rintro r u6 ⟨rfl, q1, q2⟩; have C6 := Lib.hid (And.intro q1 q2); obtain ⟨F0, q3⟩ := G5.out.aside G2.out.2 q2 (fun x hx => Nat.lt_of_lt_of_le (HBL.out x hx) (HX.out _ B1.out).2.size); have G6 := Lib.hid (And.intro q3 ((q2.block (w.heap.size + 1 + 1) (lt_of_block (HX.out _ B5.out).1) (fun hx => by have := HBL.out _ hx; omega)).trans (HX.out _ B5.out).1)); clear q1 q2 q3)
      | (go_at_call 52; refine (HWR.out _ _ _ _ G4.out).mono ?_; rintro r u5 ⟨rfl, q1, q2⟩; have R5 := Lib.hid q1; have G5 := Lib.hid (G4.out.on q2); have Q5 : Hid (w.heap.size ≤ u4.heap.size) := (HX.out _ B4.out).2.size; have B5 := Lib.hid (B4.out.trans (q2.mono B4.out.size)); clear q1 q2)
      | (go_at_call 50; refine (HE.out _ _ _ _ G3.out).mono ?_; rintro r u4 ⟨rfl, q⟩; have G4 := Lib.hid (G3.out.on q); have B4 := Lib.hid (B3.out.trans (q.mono B3.out.size)); clear q)
      | (go_at_call 49; refine (HFI.out _ _ _ _ (HX.out _ B1.out).2 G2.out.1).mono ?_; rintro r u3 ⟨rfl, q⟩; have G3 := Lib.hid q; have B3 := Lib.hid (B1.out.trans (q.fresh.mono B1.out.size)); clear q)
      | (go_at_call 48; refine (HN.out _ (HX.out _ B1.out).2).mono ?_; rintro r u2 ⟨bm, K, rfl, q1, q2⟩; have G2 := Lib.hid (And.intro q1 q2); clear q1 q2)
      | (go_at_call 47; refine HF.out.mono ?_; rintro r u1 ⟨rfl, q⟩; obtain ⟨⟨z0, z1, z2, z3, z4⟩, t0, t1, t2⟩ := HB4.out _ q; have B1 := Lib.hid q; clear q))
    have hcl := run_close (v := _) ((Below.turn (HX.out _ B5.out).2 F).trans (C6.out.2.trans (Below.turn R7.out.2 F))) (C6.out.1.on R7.out.2) R7.out.1 B7.out (Nat.le_add_right _ 2) (lt_of_block G6.out.2) HBL.out (Nat.le_trans (HX.out _ B5.out).2.size C6.out.2.size) rfl
    rw [HAF.out]
    exact res_back2 rfl (w.heap.size + 1 + 1) R m 0 rfl rfl hcl.1 rfl ⟨_, rfl, hcl.2.1, hcl.2.2.1, hcl.2.2.2⟩
  · have HAF : Hid (aftS s m = s) := if_neg h1
    go_enter Tryz.func24, Tryz.ntmps24
    go_wp2_with (first
      | (go_at_call 53; refine (HBE.out _ _ _ _ _ G4.out).mono ?_; rintro r u7 ⟨R, rfl, q1, q2⟩; have R7 := Lib.hid (And.intro q1 q2); have B7 := Lib.hid (B4.out.trans (q2.mono B4.out.size)); clear q1 q2; obtain ⟨⟨x0, x1, x2, x3, x4, x5, x6, x7⟩, y0, y1, y2, y3, y4, y5, y6⟩ := cells7_of (HX.out _ B7.out).1)
      | (go_at_call 50; refine (HE.out _ _ _ _ G3.out).mono ?_; rintro r u4 ⟨rfl, q⟩; have G4 := Lib.hid (G3.out.on q); have B4 := Lib.hid (B3.out.trans (q.mono B3.out.size)); clear q)
      | (go_at_call 49; refine (HFI.out _ _ _ _ (HX.out _ B1.out).2 G2.out.1).mono ?_; rintro r u3 ⟨rfl, q⟩; have G3 := Lib.hid q; have B3 := Lib.hid (B1.out.trans (q.fresh.mono B1.out.size)); clear q)
      | (go_at_call 48; refine (HN.out _ (HX.out _ B1.out).2).mono ?_; rintro r u2 ⟨bm, K, rfl, q1, q2⟩; have G2 := Lib.hid (And.intro q1 q2); clear q1 q2)
      | (go_at_call 47; refine HF.out.mono ?_; rintro r u1 ⟨rfl, q⟩; obtain ⟨⟨z0, z1, z2, z3, z4⟩, t0, t1, t2⟩ := HB4.out _ q; have B1 := Lib.hid q; clear q))
    have hcl := run_close (v := _) (Below.turn (HX.out _ B7.out).2 F) (HS.out.on (HX.out _ B7.out).2) R7.out.1 (HX.out _ B7.out).1 (Nat.le_add_right _ 2) (lt_of_block (HX.out _ B4.out).1) HBL.out (HX.out _ B4.out).2.size rfl
    rw [HAF.out]
    exact res_back2 rfl (w.heap.size + 1 + 1) R m 0 rfl rfl hcl.1 rfl ⟨_, rfl, hcl.2.1, hcl.2.2.1, hcl.2.2.2⟩
theorem run_any {w : World} {a b c e t : Int} {ao : Option Addr} {cs : List Ins} {n cap : Nat} {po : Option Addr} {l : List Nat} {k co bs : Nat} {F s : List Nat} (hT : Shaped5 w) (hn : cs.length = n) (hk : l.length = k) (hC : CodeAt w ao cs) (hx : ∀ i ∈ cs, i.x < 18446744073709551616) (hL : FlAt w po l) (hl : ∀ x ∈ l, x < 18446744073709551616) (hnl : n ≤ 9223372036854775807) (hS : Sx.Cel 94 w bs F s) (hs : okS s) : Calls Tryz.prog 24 #[cfgV a b c e, .agg #[.int .i64 t, .slice ao n cap], .slice po k co, .pointer (some ⟨bs, 0, none⟩)] w fun r w' => ∃ R, r = .returned (.tuple #[resV R (runR a b c e t cs l s), .int .i64 (runE a b c e s.length k)]) ∧ ResAt w' w.heap.size R (runR a b c e t cs l s) ∧ Sx.Cel 94 w' bs F (aftS s (runR a b c e t cs l s)) ∧ Turn F F w w' := by
  unfold runR runE
  rw [hk]
  cases hg : goodB a b c e s.length k with
  | true =>
    rw [if_pos rfl, if_pos rfl]
    exact run_good hT hn hk hC hx hL hl hnl hS hs hg
  | false =>
    rw [if_neg Bool.false_ne_true, if_neg Bool.false_ne_true]
    exact (run_bad hS hg).mono fun r w' ⟨q1, q2⟩ => ⟨_, q1, res_none w' _, hS.on q2, Below.turn q2 F⟩
end Go.Proofs.YtpboiggakehpoaaGreatDoor
namespace Go.Proofs.YtpboiggakehpoaaGreatDoor
open Go.ChangeShapes Go.WideShapes Go.ChangeAt Go.RowKit Num
attribute [local go_sem] run_store_float
theorem row_at {w : World} {p : Option Addr} {c n : Nat} {l : List Nat} (h : RowAt 74 w p c (fls l)) (hn : l.length = n) (i : Nat) (hi : i < n) : ∃ g, p = some ⟨g, 0, none⟩ ∧ g < w.heap.size ∧ w.cell? ⟨g, i, none⟩ = some (.float .f64 (l.getD i 0)) := by
  rcases h.own.2 with ⟨hv, _⟩ | ⟨g, cap, cur, hv, _⟩
  · injection hv with _ h2 _
    rw [fls_len] at h2
    omega
  · injection hv with h1 _ _
    subst h1
    obtain ⟨r1, _, r2⟩ := row_get h (j := i) (v := .float .f64 (l.getD i 0)) (by simp [fls, show i < l.length by omega])
    exact ⟨g, rfl, r2, r1⟩
end Go.Proofs.YtpboiggakehpoaaGreatDoor
namespace Go.Proofs.YtpboiggakehpoaaGreatDoor.As
open Go.ChangeShapes Go.WideShapes Go.ChangeAt Go.RowKit Num
abbrev Mk := List (Int × Nat)
def look : Mk → Int → Option Nat
  | [], _ => none
  | m :: r, l => if m.1 = l then some m.2 else look r l
def hasM (r : Mk) (l : Int) : Bool := (look r l).isSome
def plN (r : Mk) (l : Int) : Nat := (look r l).getD 0
def twB : Mk → Bool
  | [] => false
  | m :: r => hasM r m.1 || twB r
def inB (many : Nat) (l : Int) : Bool := decide (0 ≤ l) && decide (l < many)
def okM (many : Nat) : Mk → Bool
  | [] => true
  | m :: r => inB many m.1 && !hasM r m.1 && okM many r
theorem look_cons (m : Int × Nat) (r : Mk) (l : Int) : look (m :: r) l = if m.1 = l then some m.2 else look r l := rfl
theorem hasM_cons (m : Int × Nat) (r : Mk) (l : Int) : hasM (m :: r) l = (decide (m.1 = l) || hasM r l) := by
  unfold hasM
  rw [look_cons]
  by_cases h : m.1 = l <;> simp [h]
theorem plN_cons (m : Int × Nat) (r : Mk) (l : Int) : plN (m :: r) l = if m.1 = l then m.2 else plN r l := by
  unfold plN
  rw [look_cons]
  by_cases h : m.1 = l <;> simp [h]
theorem okM_iff (many : Nat) (r : Mk) : okM many r = true ↔ (∀ l, hasM r l = true → inB many l = true) ∧ twB r = false := by
  induction r with
  | nil => simp [okM, hasM, look, twB]
  | cons m r ih =>
    have e : okM many (m :: r) = (inB many m.1 && !hasM r m.1 && okM many r) := rfl
    have e2 : twB (m :: r) = (hasM r m.1 || twB r) := rfl
    rw [e, e2, Bool.and_eq_true, Bool.and_eq_true, ih, Bool.not_eq_true', Bool.or_eq_false_iff]
    constructor
    · rintro ⟨⟨h1, h2⟩, h3, h4⟩
      refine ⟨fun l hl => ?_, h2, h4⟩
      rw [hasM_cons, Bool.or_eq_true, decide_eq_true_eq] at hl
      rcases hl with rfl | hl
      · exact h1
      · exact h3 l hl
    · rintro ⟨h1, h2, h4⟩
      exact ⟨⟨h1 _ (by rw [hasM_cons]; simp), h2⟩, fun l hl => h1 l (by rw [hasM_cons, hl]; simp), h4⟩
structure Bs where
  tag : Int
  code : List Ins
  tos : List (Option Int)
  lat : List (Int × Nat)
  many : Nat
  marks : Mk
def new (t : Int) : Bs := ⟨t, [], [], [], 0, []⟩
def Bs.add (s : Bs) (i : Ins) (o : Option Int) : Bs := { s with code := s.code ++ [i], tos := s.tos ++ [o], lat := match o with | some l => s.lat ++ [(l, s.code.length)] | none => s.lat }
def Bs.lab (s : Bs) : Bs := if s.many = 256 then s else { s with many := s.many + 1 }
def Bs.labV (s : Bs) : Int := if s.many = 256 then -1 else s.many
def Bs.mark (s : Bs) (l : Int) : Bs := { s with marks := (l, s.code.length) :: s.marks }
def Wf (x : Int) : Prop := (Lit.int .i64 x).wf = true
structure Ok (s : Bs) : Prop where
  len : s.tos.length = s.code.length
  tq : ∀ k, k < s.code.length → ∀ l, s.tos.getD k none = some l → (l, k) ∈ s.lat
  of : ∀ t, t ∈ s.lat → t.2 < s.code.length ∧ s.tos.getD t.2 none = some t.1 ∧ Wf t.1
  many : s.many ≤ 256
  pl : ∀ m ∈ s.marks, m.2 ≤ s.code.length
  size : s.lat.length ≤ s.code.length
theorem ok_new (t : Int) : Ok (new t) := ⟨rfl, fun k hk => absurd hk (Nat.not_lt_zero _), fun t ht => by simp [new] at ht, Nat.zero_le _, fun m hm => by simp [new] at hm, Nat.le_refl _⟩
theorem getD_app {α : Type} (l : List α) (x d : α) (k : Nat) : (l ++ [x]).getD k d = if k < l.length then l.getD k d else if k = l.length then x else d := by
  rw [List.getD_eq_getElem?_getD, List.getD_eq_getElem?_getD]
  by_cases h : k < l.length
  · rw [if_pos h, List.getElem?_append_left h]
  · rw [if_neg h, List.getElem?_append_right (by omega)]
    by_cases h2 : k = l.length
    · rw [if_pos h2, h2, Nat.sub_self]; rfl
    · rw [if_neg h2, List.getElem?_eq_none (by simp; omega)]; rfl
theorem Ok.add {s : Bs} (h : Ok s) (i : Ins) (o : Option Int) (hw : ∀ l, o = some l → Wf l) : Ok (s.add i o) := by
  have hl := h.len
  have e : (s.add i o).code.length = s.code.length + 1 := by simp [Bs.add]
  refine ⟨by simp [Bs.add, hl], fun k hk l hkl => ?_, fun t ht => ?_, h.many, fun m hm => by rw [e]; exact Nat.le_succ_of_le (h.pl m hm), ?_⟩
  · rw [e] at hk
    have e2 : (s.add i o).tos.getD k none = if k < s.code.length then s.tos.getD k none else if k = s.code.length then o else none := by rw [← hl]; exact getD_app _ _ _ _
    rw [e2] at hkl
    by_cases h1 : k < s.code.length
    · rw [if_pos h1] at hkl
      have := h.tq k h1 l hkl
      cases o <;> simp [Bs.add, this]
    · have h2 : k = s.code.length := by omega
      rw [if_neg h1, if_pos h2] at hkl
      subst hkl
      simp [Bs.add, h2]
  · have key : ∀ t ∈ s.lat, t.2 < (s.add i o).code.length ∧ (s.add i o).tos.getD t.2 none = some t.1 ∧ Wf t.1 := fun t ht => by
      obtain ⟨a, b, c⟩ := h.of t ht
      refine ⟨by omega, ?_, c⟩
      show (s.tos ++ [o]).getD t.2 none = _
      rw [getD_app, if_pos (by omega)]
      exact b
    cases o with
    | none => exact key t ht
    | some l =>
      rcases List.mem_append.1 ht with q | q
      · exact key t q
      · rw [List.mem_singleton] at q
        subst q
        refine ⟨by rw [e]; exact Nat.lt_succ_self _, ?_, hw l rfl⟩
        show (s.tos ++ [some l]).getD s.code.length none = some l
        rw [getD_app, if_neg (by omega), if_pos hl.symm]
  · rw [e]
    have := h.size
    cases o <;> simp [Bs.add] <;> omega
theorem Ok.lab {s : Bs} (h : Ok s) : Ok s.lab := by
  unfold Bs.lab
  split
  · exact h
  · exact ⟨h.len, h.tq, h.of, by have := h.many; show s.many + 1 ≤ 256; omega, h.pl, h.size⟩
theorem Ok.mark {s : Bs} (h : Ok s) (l : Int) : Ok (s.mark l) := ⟨h.len, h.tq, h.of, h.many, fun m hm => by
  rcases List.mem_cons.1 hm with rfl | q
  · exact Nat.le_refl _
  · exact h.pl m q, h.size⟩
def Bs.fin (s : Bs) (k : Nat) : Ins := match s.tos.getD k none with | some l => { ci s.code k with n := (plN s.marks l : Nat) } | none => ci s.code k
def Bs.filled (s : Bs) : List Ins := (List.range s.code.length).map s.fin
def Bs.toOk (s : Bs) (k : Nat) : Bool := match s.tos.getD k none with | some l => hasM s.marks l | none => true
def Bs.ok (s : Bs) : Bool := okM s.many s.marks && (List.range s.code.length).all s.toOk
def Bs.ans (s : Bs) : Int := if s.ok then checkE s.tag s.filled else 190
theorem filled_len (s : Bs) : s.filled.length = s.code.length := by simp [Bs.filled]
theorem filled_at {s : Bs} {k : Nat} (h : k < s.code.length) : ci s.filled k = s.fin k := by
  unfold ci Bs.filled
  rw [List.getD_eq_getElem?_getD, List.getElem?_map, List.getElem?_range h]
  rfl
theorem fin_to {s : Bs} {k : Nat} {l : Int} (h : s.tos.getD k none = some l) : s.fin k = { ci s.code k with n := (plN s.marks l : Nat) } := by unfold Bs.fin; rw [h]
theorem fin_no {s : Bs} {k : Nat} (h : s.tos.getD k none = none) : s.fin k = ci s.code k := by unfold Bs.fin; rw [h]
theorem toOk_to {s : Bs} {k : Nat} {l : Int} (h : s.tos.getD k none = some l) : s.toOk k = hasM s.marks l := by unfold Bs.toOk; rw [h]
theorem toOk_no {s : Bs} {k : Nat} (h : s.tos.getD k none = none) : s.toOk k = true := by unfold Bs.toOk; rw [h]
theorem ok_lat {s : Bs} (h : Ok s) : (∀ k, k < s.code.length → s.toOk k = true) ↔ ∀ t ∈ s.lat, hasM s.marks t.1 = true := by
  constructor
  · intro hk t ht
    obtain ⟨a, b, _⟩ := h.of t ht
    rw [← toOk_to b]
    exact hk _ a
  · intro hk k hl
    cases hq : s.tos.getD k none with
    | none => exact toOk_no hq
    | some l => rw [toOk_to hq]; exact hk _ (h.tq k hl l hq)
def fixI (i : Ins) : Ins := { i with x := fixB i.x }
theorem fixB0 : fixB 0 = 0 := by decide
theorem ci_fix (c : List Ins) (k : Nat) : ci (c.map fixI) k = fixI (ci c k) := by
  unfold ci
  rw [List.getD_eq_getElem?_getD, List.getD_eq_getElem?_getD, List.getElem?_map]
  cases c[k]? with
  | none => show (⟨0, 0, 0⟩ : Ins) = fixI ⟨0, 0, 0⟩; unfold fixI; rw [show ((⟨0, 0, 0⟩ : Ins)).x = 0 from rfl, fixB0]
  | some i => rfl
theorem mayB_fix (i : Ins) (n : Nat) : mayB (fixI i) n = mayB i n := by
  unfold mayB fixI
  simp only [fixB_fixB]
theorem checkB_fix (t : Int) (c : List Ins) : checkB t (c.map fixI) = checkB t c := by
  unfold checkB
  simp only [List.length_map, ci_fix, mayB_fix]
theorem checkE_fix (t : Int) (c : List Ins) : checkE t (c.map fixI) = checkE t c := by unfold checkE; rw [checkB_fix]
theorem checkE_ways (t : Int) (c : List Ins) : checkE t c = 0 ∨ checkE t c = 50 := by
  unfold checkE
  split
  · exact .inl rfl
  · exact .inr rfl
end Go.Proofs.YtpboiggakehpoaaGreatDoor.As
namespace Go.Proofs.YtpboiggakehpoaaGreatDoor.As
open Go.ChangeShapes Go.WideShapes Go.ChangeAt Go.RowKit Num Go.Maps
open Go.ChangeMaps Go.MapKept
section
variable {P : Program} {w : World}
theorem wp_append_ex {o : Oper} {a : Act} {K : Act → World → Prop} {Q : Exit → Act → World → Prop} (s x : Operand) (t tx : TypeId)
    (ho : o.op = .call { callee := .builtin .append, args := #[s, x], argTypes := #[t, tx] }) (vs vx : Value) (hs : a.eval s = vs) (hx : a.eval x = vx) {R : Value → World → Prop}
    (hr : ∃ v w', (Builtin.append_ #[t, tx] o.type #[vs, vx]).run P w = .ok v w' ∧ R v w') (h : ∀ v w', R v w' → K (a.put o.dst v) w') : o.wp P a w K Q := by
  obtain ⟨v, w', hr, hR⟩ := hr
  unfold Oper.wp execOp
  simp only [ho, resolve, invoke, builtin, Sem.run_bind, Sem.run_pure, Result.andThen_ok, List.map_toArray, List.map_cons, List.map_nil, hs, hx, hr]
  exact h v w' hR
theorem wpList_append_ex {ops : Array Oper} {rest : List Oper} {o : Oper} {a : Act} {Q : Exit → Act → World → Prop} (hgd : o.guard = none) (s x : Operand) (t tx : TypeId)
    (ho : o.op = .call { callee := .builtin .append, args := #[s, x], argTypes := #[t, tx] }) (vs vx : Value) (hs : a.eval s = vs) (hx : a.eval x = vx) {R : Value → World → Prop}
    (hr : ∃ v w', (Builtin.append_ #[t, tx] o.type #[vs, vx]).run P w = .ok v w' ∧ R v w') (h : ∀ v w', R v w' → wpList P ops Q rest (a.put o.dst v) w') : wpList P ops Q (o :: rest) a w :=
  wpList_plain hgd fun _ hK => wp_append_ex s x t tx ho vs vx hs hx hr fun v w' hR => hK _ _ (h v w' hR)
end
structure RowW (E : TypeId) (sz : Nat) (w : World) (p : Option Addr) (c n : Nat) (xs : List Value) : Prop where
  own : w.ownsRow 0 E sz (.slice p n c) n xs
section
variable {E : TypeId} {sz : Nat} {w w' : World} {p : Option Addr} {c n : Nat} {xs : List Value}
theorem RowW.len (h : RowW E sz w p c n xs) : xs.length = n * sz := h.own.1
theorem RowW.blk (h : RowW E sz w p c n xs) {k : Nat} (hk : k ∈ fpR p) : ∃ arr, w.heap[k]? = some (.cells arr E (0, 0)) := by
  rcases h.own.2 with ⟨q, _⟩ | ⟨g, cap, cur, hv, hb, hg, rest⟩
  · cases q; simp [fpR] at hk
  · cases hv
    obtain rfl : k = g := by simpa [fpR] using hk
    exact ⟨_, hg⟩
theorem RowW.blw (h : RowW E sz w p c n xs) : Blw w (fpR p) := fun k hk => by obtain ⟨arr, e⟩ := h.blk hk; exact lt_of_block e
theorem RowW.keep (h : RowW E sz w p c n xs) (k : Kept (fpR p) w w') : RowW E sz w' p c n xs := by
  refine ⟨h.own.1, ?_⟩
  rcases h.own.2 with q | ⟨g, cap, cur, hv, hb, hg, rest⟩
  · exact .inl q
  · refine .inr ⟨g, cap, cur, hv, hb, ?_, rest⟩
    rw [k.2 g (own_fpR.2 (by rw [hv]; rfl))]
    exact hg
theorem rowW_nil (E : TypeId) (sz : Nat) (w : World) : RowW E sz w none 0 0 [] := ⟨World.ownsRow_nil _ _ _ _⟩
theorem RowW.at (h : RowW E sz w p c n xs) (h0 : 0 < n) : ∃ g, p = some ⟨g, 0, none⟩ ∧ g < w.heap.size ∧ n ≤ c ∧ c ≤ maxLen ∧ (∀ j, j < n * sz → w.cell? ⟨g, j, none⟩ = xs[j]?) ∧ ∀ j, w.frozen? ⟨g, j, none⟩ = false := by
  rcases h.own.2 with ⟨_, q⟩ | ⟨g, cap, cur, hv, _, hg, hc, hm, hs, ht⟩
  · omega
  · cases hv
    refine ⟨g, rfl, lt_of_block hg, hc, hm, fun j hj => ?_, fun j => frozen_of_row w g j _ _ hg⟩
    rw [cell_of_row w g j _ _ _ hg]
    have h1 : cur.toList[j]? = (cur.toList.take (n * sz))[j]? := by rw [List.getElem?_take, if_pos hj]
    rw [ht] at h1
    simpa using h1
theorem RowW.app (h : RowW E sz w p c n xs) {t : TypeId} {z : Value} {bytes : Nat} (ht : Tryz.prog.underlying t = some (.slice E)) (hI : (Tryz.prog.info? E).map (fun i => (i.zero, i.size, i.bytes)) = some (some z, sz, bytes)) (hzs : z.cells.size = sz) (hsz : 0 < sz)
    {gx : Nat} {arr : Array Value} (hx : w.heap[gx]? = some (.cells arr E (0, 0))) (ha : arr.size = sz) (h1 : ∀ u ∈ arr.toList, u.oneCell' = true) (h63 : n + 1 ≤ maxLen) (hb : (n + 1) * bytes ≤ 140737488355328) (ty : TypeId) :
    ∃ v w', (Builtin.append_ #[t, t] ty #[.slice p n c, .slice (some ⟨gx, 0, none⟩) 1 1]).run Tryz.prog w = .ok v w' ∧ ∃ g c', v = .slice (some ⟨g, 0, none⟩) (n + 1) c' ∧ RowW E sz w' (some ⟨g, 0, none⟩) c' (n + 1) (xs ++ arr.toList) ∧ Turn (fpR p) [g] w w' := by
  obtain ⟨i, hi, hz0, hz1, hz2⟩ := info_parts hI
  obtain ⟨v, w', h1, h2, h3, h4, h5⟩ := run_append_own_at (P := Tryz.prog) (w := w) 0 t ty E i z sz bytes ht hi hz0 hz1 hz2 hzs hsz (.slice p n c) n xs h.own ⟨gx, 0, none⟩ 1 1 arr.toList (by rw [Array.length_toList, ha, Nat.one_mul]) (fun j u hu => by
    rw [Go.WideShapes.add_plain, cell_of_row _ _ _ _ _ _ hx, Nat.zero_add]
    simpa using hu) h1 h63 hb (Nat.zero_le _)
  rcases h2.2 with ⟨_, q⟩ | ⟨g, cap, cur, hv, hrest⟩
  · omega
  · refine ⟨v, w', h1, g, cap, hv, ⟨by rw [hv] at h2; exact h2⟩, ⟨h3.os, h3.tape, h3.output, h3.size, fun k hk hn => h3.block k hk fun q => hn (own_fpR.2 q.symm), fun k hk => ?_⟩⟩
    obtain rfl : k = g := by simpa using hk
    rcases h5 with q | q
    · exact .inl (own_fpR.2 (by rw [← q, hv]; rfl))
    · right
      rw [hv] at q
      have := Option.some.inj q
      show w.heap.size ≤ k
      exact Nat.le_of_eq this.symm
end
theorem Turn.widen {F F' A A' : List Nat} {w w' : World} (h : Turn F F' w w') (hF : ∀ k, k ∈ F → k ∈ A) (hA : ∀ k, k ∈ A' → k ∈ A ∨ w.heap.size ≤ k) : Turn A A' w w' :=
  ⟨h.os, h.tape, h.output, h.size, fun k hk hn => h.block k hk fun q => hn (hF k q), hA⟩
theorem turn_alloc (F : List Nat) (w : World) (o : Obj) : Turn F F w (w.alloc o) := ⟨rfl, rfl, rfl, by simp, fun _ hk _ => Below.heap_alloc _ _ _ hk, fun _ h => .inl h⟩
theorem turn_set (b i : Nat) (v : Value) (w : World) : Turn [b] [b] w (w.setCell ⟨b, i, none⟩ v) := ⟨rfl, rfl, rfl, by simp, fun k _ hn => heap_setCell_other _ _ _ _ (by simpa using hn), fun _ h => .inl h⟩
theorem below_turn {F : List Nat} {w w' : World} (h : Below w.heap.size w w') : Turn F F w w' := ⟨h.os, h.tape, h.output, h.size, fun k hk _ => h.block k hk, fun _ q => .inl q⟩
theorem grown_turn {w w' : World} {b : Nat} (h : w.grownBy w' (some b)) : Turn [b] [b] w w' := ⟨h.os, h.tape, h.output, h.size, fun k hk hn => h.block k hk (by simpa using hn), fun _ q => .inl q⟩
theorem ne_ty {w : World} {a b : Nat} {c d : Array Value} {S T : TypeId} {x y : Nat × Nat} (h : w.heap[a]? = some (.cells c S x)) (k : w.heap[b]? = some (.cells d T y)) (hne : (S == T) = false) : a ≠ b := by
  rintro rfl
  rw [h] at k
  cases k
  simp at hne
theorem ne_map {w : World} {a b : Nat} {c : Array Value} {S : TypeId} {x : Nat × Nat} {es : Array MapEntry} {k : Nat} (h : w.heap[a]? = some (.cells c S x)) (m : w.heap[b]? = some (.map es k)) : a ≠ b := by
  rintro rfl
  rw [h] at m
  cases m
theorem keyI : Keyed Tryz.prog 3 := int_keyed Tryz.underlying3
theorem zeroI (w : World) : (zeroValue 3).run Tryz.prog w = .ok (.int .i64 0) w := by kernel_rfl
def iEl : Value → Option (DataW Unit × List MemPlace)
  | .int .i64 x => some (.lit (.int .i64 x), [])
  | _ => none
theorem iEl_is {v : Value} {y : DataW Unit × List MemPlace} (h : iEl v = some y) : ∃ x, v = .int .i64 x ∧ y = (.lit (.int .i64 x), []) := by
  unfold iEl at h
  split at h
  · exact ⟨_, rfl, (Option.some.inj h).symm⟩
  · cases h
theorem iElem_inv {v : Value} {x : Int} {ps : List MemPlace} (h : iEl v = some (.lit (.int .i64 x), ps)) : v = .int .i64 x := by
  obtain ⟨z, rfl, e⟩ := iEl_is h
  injection e with e _
  injection e with e
  injection e with _ e
  rw [e]
def MapI (w : World) (b : Nat) (r : Mk) : Prop :=
  ∃ n, ∃ D : DataW Unit, w.ownsMap Tryz.prog 3 iEl b n D ∧ n ≤ r.length ∧ ∀ c, Wf c → Maps.has D (.int .i64 c) = hasM r c ∧ D.atKey (.int .i64 c) (.lit (.int .i64 0)) = .lit (.int .i64 (plN r c))
section
variable {w w' : World} {b : Nat} {r : Mk}
theorem MapI.lt (h : MapI w b r) : b < w.heap.size := by obtain ⟨n, D, h1, _⟩ := h; exact h1.lt
theorem MapI.keep (h : MapI w b r) (k : w'.heap[b]? = w.heap[b]?) : MapI w' b r := by
  obtain ⟨n, D, ⟨es, clock, hb, x⟩, h2⟩ := h
  exact ⟨n, D, ⟨es, clock, k.trans hb, x⟩, h2⟩
theorem MapI.is (h : MapI w b r) : ∃ es clock, w.heap[b]? = some (.map es clock) := by
  obtain ⟨n, D, ⟨es, clock, hb, x⟩, h2⟩ := h
  exact ⟨es, clock, hb⟩
theorem mapI_new (w : World) : MapI (w.alloc (.map #[] 0)) w.heap.size [] :=
  ⟨0, .map [], World.ownsMap_made w _ _ _, Nat.le_refl _, fun _ _ => ⟨rfl, rfl⟩⟩
theorem MapI.look (h : MapI w b r) {c : Int} (hc : Wf c) : (Instr.lookup 177 (.map (some b)) (.int .i64 c) true).run Tryz.prog w = .ok (.tuple #[.int .i64 (plN r c), .bool (hasM r c)]) w := by
  obtain ⟨n, D, h1, _, h3⟩ := h
  obtain ⟨v, ps, hrun, hv⟩ := h1.look_ok keyI Tryz.underlying177 (zeroI w) (zd := .lit (.int .i64 0)) (zp := []) rfl (keyOf_int_mk Tryz.underlying3 hc)
  rw [(h3 c hc).2] at hv
  rw [hrun, iElem_inv hv, (h3 c hc).1]
theorem lit_ne {c d : Int} (h : c ≠ d) : (Lit.int .i64 d) ≠ (Lit.int .i64 c) := fun e => h (by injection e with _ e2; exact e2.symm)
theorem MapI.lay (h : MapI w b r) {c : Int} (hc : Wf c) (y : Nat) (hn : r.length < maxLen) : ∃ w', (Instr.mapUpdate 177 (.map (some b)) (.int .i64 c) (.int .i64 y)).run Tryz.prog w = .ok () w' ∧ MapI w' b ((c, y) :: r) ∧ Turn [b] [b] w w' := by
  obtain ⟨n, D, h1, h2, h3⟩ := h
  have hk := keyOf_int_mk Tryz.underlying3 hc
  obtain ⟨w', hrun, ho, hg⟩ := h1.update keyI Tryz.underlying177 (by omega) hk (val := .int .i64 y) (d := .lit (.int .i64 y)) (ps := []) rfl
  refine ⟨w', hrun, ⟨_, _, ho, by simp; omega, fun d hd => ?_⟩, grown_turn hg⟩
  rw [hasM_cons, plN_cons]
  by_cases e : c = d
  · subst e
    rw [has_put_same h1.isMap (keyI.key hk), atKey_put_same h1.isMap (keyI.key hk)]
    simp
  · rw [has_put_other (lit_ne e), atKey_put_other (lit_ne e)]
    simp [e, h3 d hd]
end
def insC (i : Ins) : List Value := [.int .i64 i.op, .int .i64 i.n, .float .f64 i.x]
def codC (c : List Ins) : List Value := c.flatMap insC
theorem codC_len (c : List Ins) : (codC c).length = c.length * 3 := by
  unfold codC
  induction c with
  | nil => rfl
  | cons i c ih => rw [List.flatMap_cons, List.length_append, ih]; simp [insC]; omega
theorem codC_one (c : List Ins) : ∀ u ∈ codC c, u.oneCell' = true := fun u hu => by
  obtain ⟨x, _, hx⟩ := List.mem_flatMap.1 hu
  simp [insC] at hx
  rcases hx with rfl | rfl | rfl <;> rfl
theorem codC_snoc (c : List Ins) (i : Ins) : codC (c ++ [i]) = codC c ++ (#[.int .i64 i.op, .int .i64 i.n, .float .f64 i.x] : Array Value).toList := by simp [codC, insC]
theorem codC_at (c : List Ins) : ∀ k, k < c.length → (codC c)[k * 3]? = some (.int .i64 (ci c k).op) ∧ (codC c)[k * 3 + 1]? = some (.int .i64 (ci c k).n) ∧ (codC c)[k * 3 + 2]? = some (.float .f64 (ci c k).x) := by
  induction c with
  | nil => intro k h; exact absurd h (Nat.not_lt_zero k)
  | cons i c ih =>
    intro k h
    have e0 : codC (i :: c) = insC i ++ codC c := rfl
    cases k with
    | zero => simp [e0, insC, ci]
    | succ k =>
      have q := ih k (by simpa using h)
      have el : (insC i).length = 3 := rfl
      have ec : ci (i :: c) (k + 1) = ci c k := by simp [ci]
      have g : ∀ j, (codC (i :: c))[(k + 1) * 3 + j]? = (codC c)[k * 3 + j]? := fun j => by
        rw [e0, show (k + 1) * 3 + j = (insC i).length + (k * 3 + j) by rw [el]; omega, List.getElem?_append_right (Nat.le_add_right _ _), Nat.add_sub_cancel_left]
      rw [ec]
      exact ⟨(g 0).trans q.1, (g 1).trans q.2.1, (g 2).trans q.2.2⟩
theorem RowW.code {w : World} {p : Option Addr} {c : Nat} {l : List Ins} {n : Nat} (hn : l.length = n) (h : RowW 86 3 w p c n (codC l)) : CodeAt w p l := fun k hk => by
  subst hn
  obtain ⟨g, e, hg, _, _, hc, _⟩ := h.at (by omega)
  obtain ⟨c0, c1, c2⟩ := codC_at l k hk
  refine ⟨g, 0, e, hg, ?_, ?_, ?_⟩
  · rw [Nat.zero_add, hc _ (by omega)]; exact c0
  · rw [Nat.zero_add, hc _ (by omega)]; exact c1
  · rw [Nat.zero_add, hc _ (by omega)]; exact c2
structure Bv where
  pi : Option Addr
  ci : Nat
  bm : Nat
  pL : Option Addr
  cL : Nat
  R : List Nat
def fpB (b : Nat) (v : Bv) : List Nat := b :: v.bm :: (fpR v.pi ++ (fpR v.pL ++ v.R))
def Caps (w : World) (R : List Nat) : Prop := ∀ k, k ∈ R → ∃ arr T, w.heap[k]? = some (.cells arr T (0, 0)) ∧ (T = 3 ∨ T = 150)
def cloV (x y z : Nat) : Value := .func (.func 163) #[] #[.pointer (some ⟨x, 0, none⟩), .pointer (some ⟨y, 0, none⟩), .pointer (some ⟨z, 0, none⟩)]
def CloAt (w : World) (b : Nat) (R : List Nat) (t : Int × Nat) (u : Value) : Prop := ∃ x y z, u = cloV x y z ∧ x ∈ R ∧ y ∈ R ∧ z ∈ R ∧ w.heap[x]? = some (.cells #[.pointer (some ⟨b, 0, none⟩)] 150 (0, 0)) ∧ w.heap[y]? = some (.cells #[.int .i64 t.1] 3 (0, 0)) ∧ w.heap[z]? = some (.cells #[.int .i64 t.2] 3 (0, 0))
def boxA (s : Bs) (v : Bv) : Array Value := #[.int .i64 s.tag, .slice v.pi s.code.length v.ci, .int .i64 s.many, .map (some v.bm), .bool (twB s.marks), .slice v.pL s.lat.length v.cL]
structure BAt (w : World) (b : Nat) (s : Bs) (v : Bv) : Prop where
  box : w.heap[b]? = some (.cells (boxA s v) 180 (0, 0))
  ins : RowW 86 3 w v.pi v.ci s.code.length (codC (s.code.map fixI))
  map : MapI w v.bm s.marks
  lat : ∃ vs, RowW 189 1 w v.pL v.cL s.lat.length vs ∧ ∀ j, j < s.lat.length → ∃ u, vs[j]? = some u ∧ CloAt w b v.R (s.lat.getD j (0, 0)) u
  caps : Caps w v.R
  ok : Ok s
def Bld (w : World) (b : Nat) (F : List Nat) (s : Bs) : Prop := ∃ v, BAt w b s v ∧ F = fpB b v
section
variable {w w' : World} {b : Nat} {s : Bs} {v : Bv} {F : List Nat}
theorem mem_fpB {k : Nat} : k ∈ fpB b v ↔ k = b ∨ k = v.bm ∨ k ∈ fpR v.pi ∨ k ∈ fpR v.pL ∨ k ∈ v.R := by simp [fpB]
theorem Caps.keep {R : List Nat} (h : Caps w R) (k : Kept R w w') : Caps w' R := fun i hi => by
  obtain ⟨arr, T, e, q⟩ := h i hi
  exact ⟨arr, T, (k.2 i hi).trans e, q⟩
theorem CloAt.keep {R : List Nat} {t : Int × Nat} {u : Value} (h : CloAt w b R t u) (k : Kept R w w') : CloAt w' b R t u := by
  obtain ⟨x, y, z, e, h1, h2, h3, h4, h5, h6⟩ := h
  exact ⟨x, y, z, e, h1, h2, h3, (k.2 _ h1).trans h4, (k.2 _ h2).trans h5, (k.2 _ h3).trans h6⟩
theorem BAt.blw (h : BAt w b s v) : Blw w (fpB b v) := fun k hk => by
  rcases mem_fpB.1 hk with rfl | rfl | q | q | q
  · exact lt_of_block h.box
  · exact h.map.lt
  · exact h.ins.blw k q
  · obtain ⟨vs, h1, _⟩ := h.lat; exact h1.blw k q
  · obtain ⟨arr, T, e, _⟩ := h.caps k q; exact lt_of_block e
theorem kept_sub {F G : List Nat} (k : Kept F w w') (h : ∀ i, i ∈ G → i ∈ F) : Kept G w w' := ⟨k.1, fun i hi => k.2 i (h i hi)⟩
theorem BAt.keep (h : BAt w b s v) (k : Kept (fpB b v) w w') : BAt w' b s v := by
  have kR : Kept v.R w w' := kept_sub k fun i hi => mem_fpB.2 (.inr (.inr (.inr (.inr hi))))
  refine ⟨(k.2 b (mem_fpB.2 (.inl rfl))).trans h.box, h.ins.keep (kept_sub k fun i hi => mem_fpB.2 (.inr (.inr (.inl hi)))), h.map.keep (k.2 _ (mem_fpB.2 (.inr (.inl rfl)))), ?_, h.caps.keep kR, h.ok⟩
  obtain ⟨vs, h1, h2⟩ := h.lat
  refine ⟨vs, h1.keep (kept_sub k fun i hi => mem_fpB.2 (.inr (.inr (.inr (.inl hi))))), fun j hj => ?_⟩
  obtain ⟨u, e, q⟩ := h2 j hj
  exact ⟨u, e, q.keep kR⟩
theorem BAt.cells (h : BAt w b s v) : b < w.heap.size ∧ w.cell? ⟨b, 0, none⟩ = some (.int .i64 s.tag) ∧ w.cell? ⟨b, 1, none⟩ = some (.slice v.pi s.code.length v.ci) ∧ w.cell? ⟨b, 2, none⟩ = some (.int .i64 s.many) ∧ w.cell? ⟨b, 3, none⟩ = some (.map (some v.bm)) ∧ w.cell? ⟨b, 4, none⟩ = some (.bool (twB s.marks)) ∧ w.cell? ⟨b, 5, none⟩ = some (.slice v.pL s.lat.length v.cL) ∧ ∀ j, w.frozen? ⟨b, j, none⟩ = false := by
  have c : ∀ j, w.cell? ⟨b, j, none⟩ = (boxA s v)[j]? := fun j => cell_of_row w b j _ _ _ h.box
  exact ⟨lt_of_block h.box, c 0, c 1, c 2, c 3, c 4, c 5, fun j => frozen_of_row w b j _ _ h.box⟩
theorem Bld.blw (h : Bld w b F s) : Blw w F := by obtain ⟨v, h, rfl⟩ := h; exact h.blw
theorem Bld.keep (h : Bld w b F s) (k : Kept F w w') : Bld w' b F s := by obtain ⟨v, h, rfl⟩ := h; exact ⟨v, h.keep k, rfl⟩
theorem Bld.on (h : Bld w b F s) (k : Below w.heap.size w w') : Bld w' b F s := h.keep (kept_below k h.blw)
theorem Bld.turn {G G' : List Nat} (h : Bld w b F s) (k : Turn G G' w w') (q : Sep F G) : Bld w' b F s := h.keep (k.kept q h.blw)
theorem Bld.ok (h : Bld w b F s) : Ok s := by obtain ⟨v, h, _⟩ := h; exact h.ok
theorem BAt.apart (h : BAt w b s v) : b ≠ v.bm ∧ b ∉ fpR v.pi ∧ b ∉ fpR v.pL ∧ b ∉ v.R ∧ v.bm ∉ fpR v.pi ∧ v.bm ∉ fpR v.pL ∧ v.bm ∉ v.R ∧ Sep (fpR v.pi) (fpR v.pL) ∧ Sep (fpR v.pi) v.R ∧ Sep (fpR v.pL) v.R := by
  obtain ⟨es, ck, hm⟩ := h.map.is
  obtain ⟨vs, hl, _⟩ := h.lat
  have cT : ∀ k ∈ v.R, ∃ arr T, w.heap[k]? = some (.cells arr T (0, 0)) ∧ (180 == T) = false ∧ (86 == T) = false ∧ (189 == T) = false := fun k hk => by
    obtain ⟨arr, T, e, q⟩ := h.caps k hk
    refine ⟨arr, T, e, ?_⟩
    rcases q with rfl | rfl <;> exact ⟨by decide, by decide, by decide⟩
  refine ⟨ne_map h.box hm, fun q => ?_, fun q => ?_, fun q => ?_, fun q => ?_, fun q => ?_, fun q => ?_, fun k a q => ?_, fun k a q => ?_, fun k a q => ?_⟩
  · obtain ⟨arr, e⟩ := h.ins.blk q; exact ne_ty h.box e (by decide) rfl
  · obtain ⟨arr, e⟩ := hl.blk q; exact ne_ty h.box e (by decide) rfl
  · obtain ⟨arr, T, e, x, _⟩ := cT _ q; exact ne_ty h.box e x rfl
  · obtain ⟨arr, e⟩ := h.ins.blk q; exact ne_map e hm rfl
  · obtain ⟨arr, e⟩ := hl.blk q; exact ne_map e hm rfl
  · obtain ⟨arr, T, e, _⟩ := cT _ q; exact ne_map e hm rfl
  · obtain ⟨arr, e⟩ := h.ins.blk a; obtain ⟨arr2, e2⟩ := hl.blk q; exact ne_ty e e2 (by decide) rfl
  · obtain ⟨arr, e⟩ := h.ins.blk a; obtain ⟨arr2, T, e2, _, x, _⟩ := cT _ q; exact ne_ty e e2 x rfl
  · obtain ⟨arr, e⟩ := hl.blk a; obtain ⟨arr2, T, e2, _, _, x⟩ := cT _ q; exact ne_ty e e2 x rfl
end
end Go.Proofs.YtpboiggakehpoaaGreatDoor.As
namespace Go.Proofs.YtpboiggakehpoaaGreatDoor.As
open Go.ChangeShapes Go.WideShapes Go.ChangeAt Go.RowKit Num Go.Maps
attribute [local go_sem] run_store_float frombits_run bits_run
theorem follows : Tryz.prog.follows .mixedOrders = true := by kernel_rfl
theorem insInfo : (Tryz.prog.info? 86).map (fun i => (i.zero, i.size, i.bytes)) = some (some (.agg #[.int .i64 0, .int .i64 0, .float .f64 0]), 3, 24) := by kernel_rfl
theorem filInfo : (Tryz.prog.info? 189).map (fun i => (i.zero, i.size, i.bytes)) = some (some .nilFunc, 1, 8) := by kernel_rfl
theorem bl1 (w : World) (o : Obj) : Below w.heap.size w (w.alloc o) := (Below.refl _ _).alloc (Nat.le_refl _) o
def lim : Nat := 4398046511000
section
variable {w w' u w3 : World} {b : Nat} {s : Bs} {v : Bv} {F : List Nat}
theorem new_at (t : Int) (w : World) : ∃ F, Bld ((w.alloc (.map #[] 0)).alloc (.cells #[.int .i64 t, .slice none 0 0, .int .i64 0, .map (some w.heap.size), .bool false, .slice none 0 0] 180)) (w.heap.size + 1) F (new t) ∧ Abv w.heap.size F ∧ Below w.heap.size w ((w.alloc (.map #[] 0)).alloc (.cells #[.int .i64 t, .slice none 0 0, .int .i64 0, .map (some w.heap.size), .bool false, .slice none 0 0] 180)) := by
  have e1 : (w.alloc (.map #[] 0)).heap.size = w.heap.size + 1 := by simp
  refine ⟨_, ⟨⟨none, 0, w.heap.size, none, 0, []⟩, ⟨?_, rowW_nil _ _ _, ?_, ⟨[], rowW_nil _ _ _, fun j hj => absurd hj (Nat.not_lt_zero _)⟩, fun k hk => absurd hk (by simp), ok_new t⟩, rfl⟩, fun k hk => ?_, ((Below.refl _ _).alloc (Nat.le_refl _) _).alloc (by simp) _⟩
  · have := heap_alloc_new (w.alloc (.map #[] 0)) (.cells #[.int .i64 t, .slice none 0 0, .int .i64 0, .map (some w.heap.size), .bool false, .slice none 0 0] 180)
    rw [e1] at this
    exact this
  · exact (mapI_new w).keep (Below.heap_alloc _ _ _ (by simp))
  · simp [fpB, fpR] at hk
    omega
set_option maxRecDepth 100000 in
theorem new_any (t : Int) (w : World) : Calls Tryz.prog 122 #[.int .i64 t] w fun e w' => ∃ b F, e = .returned (.pointer (some ⟨b, 0, none⟩)) ∧ Bld w' b F (new t) ∧ Abv w.heap.size F ∧ Below w.heap.size w w' := by
  have hmm := @run_makeMap Tryz.prog
  have HN := Lib.hid (new_at t w)
  go_enter Tryz.func122, Tryz.ntmps122
  go_wp2
  go_ret
  obtain ⟨F, h⟩ := HN.out
  exact ⟨_, F, by simp, h⟩
theorem len_any (h : Bld w b F s) : Calls Tryz.prog 162 #[.pointer (some ⟨b, 0, none⟩)] w fun e w' => e = .returned (.int .i64 s.code.length) ∧ w' = w := by
  obtain ⟨v, h, rfl⟩ := h
  obtain ⟨hb, _, h1, _⟩ := h.cells
  generalize s.code.length = n at *
  clear h
  go_enter Tryz.func162, Tryz.ntmps162
  go_wp2
  go_ret
  exact ⟨rfl, rfl⟩
theorem BAt.put (h : BAt u b s v) {i : Ins} {g c' : Nat} (hr : RowW 86 3 w3 (some ⟨g, 0, none⟩) c' (s.code.length + 1) (codC (s.code.map fixI) ++ (#[.int .i64 i.op, .int .i64 i.n, .float .f64 (fixB i.x)] : Array Value).toList)) (ht : Turn (fpR v.pi) [g] u w3) :
    BAt (w3.setCell ⟨b, 1, none⟩ (.slice (some ⟨g, 0, none⟩) (s.code.length + 1) c')) b (s.add i none) { v with pi := some ⟨g, 0, none⟩, ci := c' } ∧ Turn (fpB b v) (fpB b { v with pi := some ⟨g, 0, none⟩, ci := c' }) u (w3.setCell ⟨b, 1, none⟩ (.slice (some ⟨g, 0, none⟩) (s.code.length + 1) c')) := by
  obtain ⟨a1, a2, a3, a4, a5, a6, a7, a8, a9, a10⟩ := h.apart
  have hblw := h.blw
  have old : ∀ k, k ∈ fpB b v → k ∉ fpR v.pi → w3.heap[k]? = u.heap[k]? := fun k hk hn => ht.block k (hblw k hk) hn
  have mb : b ∈ fpB b v := mem_fpB.2 (.inl rfl)
  have mm : v.bm ∈ fpB b v := mem_fpB.2 (.inr (.inl rfl))
  have mL : ∀ k ∈ fpR v.pL, k ∈ fpB b v := fun k hk => mem_fpB.2 (.inr (.inr (.inr (.inl hk))))
  have mR : ∀ k ∈ v.R, k ∈ fpB b v := fun k hk => mem_fpB.2 (.inr (.inr (.inr (.inr hk))))
  have hbox := (old b mb a2).trans h.box
  have hg := ht.own g (by simp)
  have gb : g ≠ b := by
    rintro rfl
    exact hg.elim a2 fun q => absurd (hblw _ mb) (Nat.not_lt.2 q)
  have kp : ∀ G, (∀ k ∈ G, k ∈ fpB b v) → b ∉ G → Sep G (fpR v.pi) → Kept G u (w3.setCell ⟨b, 1, none⟩ (.slice (some ⟨g, 0, none⟩) (s.code.length + 1) c')) := fun G hG hb hs => ⟨by simpa using ht.size, fun k hk => (heap_setCell_other _ _ _ _ (by rintro rfl; exact hb hk)).trans (old k (hG k hk) (hs k hk))⟩
  have e : (s.add i none).code.length = s.code.length + 1 := by simp [Bs.add]
  have eC : codC ((s.add i none).code.map fixI) = codC (s.code.map fixI) ++ (#[.int .i64 i.op, .int .i64 i.n, .float .f64 (fixB i.x)] : Array Value).toList := by
    show codC ((s.code ++ [i]).map fixI) = _
    rw [List.map_append, List.map_cons, List.map_nil, codC_snoc]
    rfl
  have kR := kp v.R mR a4 a9.symm
  refine ⟨⟨?_, ?_, h.map.keep ((heap_setCell_other _ _ _ _ (Ne.symm a1)).trans (old _ mm a5)), ?_, h.caps.keep kR, h.ok.add i none (by simp)⟩, ⟨ht.os, ht.tape, ht.output, by simpa using ht.size, fun k hk hn => ?_, fun k hk => ?_⟩⟩
  · refine (heap_setCell_same w3 b 1 _ _ _ hbox).trans ?_
    simp [boxA, Bs.add]
  · rw [e, eC]
    exact hr.keep ⟨by simp, fun k hk => heap_setCell_other _ _ _ _ (by
      obtain rfl : k = g := by simpa [fpR] using hk
      exact gb)⟩
  · obtain ⟨vs, l1, l2⟩ := h.lat
    exact ⟨vs, l1.keep (kp _ mL a3 a8.symm), fun j hj => by obtain ⟨y, e1, e2⟩ := l2 j hj; exact ⟨y, e1, e2.keep kR⟩⟩
  · have hn1 : k ≠ b := by rintro rfl; exact hn mb
    exact (heap_setCell_other _ _ _ _ hn1).trans (ht.block k hk fun q => hn (mem_fpB.2 (.inr (.inr (.inl q)))))
  · rcases mem_fpB.1 hk with q | q | q | q | q
    · exact .inl (q ▸ mb)
    · exact .inl (q ▸ mm)
    · obtain rfl : k = g := by simpa [fpR] using q
      exact hg.imp (fun z => mem_fpB.2 (.inr (.inr (.inl z)))) id
    · exact .inl (mL k q)
    · exact .inl (mR k q)
theorem BAt.app (h : BAt u b s v) (i : Ins) {gx : Nat} (hx : u.heap[gx]? = some (.cells #[.int .i64 i.op, .int .i64 i.n, .float .f64 (fixB i.x)] 86 (0, 0))) (hl : s.code.length < lim) (ty : TypeId) :
    ∃ r w3, (Builtin.append_ #[24, 24] ty #[.slice v.pi s.code.length v.ci, .slice (some ⟨gx, 0, none⟩) 1 1]).run Tryz.prog u = .ok r w3 ∧ b < w3.heap.size ∧ w3.frozen? ⟨b, 1, none⟩ = false ∧ w3.cell? ⟨b, 1, none⟩ = some (.slice v.pi s.code.length v.ci) ∧ (∃ g c', r = .slice (some ⟨g, 0, none⟩) (s.code.length + 1) c') ∧ Hid (∃ F', Bld (w3.setCell ⟨b, 1, none⟩ r) b F' (s.add i none) ∧ Turn (fpB b v) F' u (w3.setCell ⟨b, 1, none⟩ r)) := by
  unfold lim at hl
  obtain ⟨r, w3, h1, g, c', rfl, h2, h3⟩ := h.ins.app Tryz.underlying24 insInfo rfl (by decide) hx rfl (fun y hy => by simp at hy; rcases hy with rfl | rfl | rfl <;> rfl) (by unfold maxLen; omega) (by omega) ty
  obtain ⟨q1, q2⟩ := h.put h2 h3
  obtain ⟨a1, a2, _⟩ := h.apart
  have hbox := (h3.block b (lt_of_block h.box) a2).trans h.box
  exact ⟨_, w3, h1, lt_of_block hbox, frozen_of_row _ _ _ _ _ hbox, (cell_of_row _ _ _ _ _ _ hbox).trans rfl, ⟨g, c', rfl⟩, _, ⟨_, q1, rfl⟩, q2⟩
set_option maxRecDepth 100000 in
theorem add_any (h : Bld w b F s) (op n : Int) (hl : s.code.length < lim) : Calls Tryz.prog 147 #[.pointer (some ⟨b, 0, none⟩), .int .i64 op, .int .i64 n] w fun e w' => ∃ F', e = .returned (.tuple #[]) ∧ Bld w' b F' (s.add ⟨op, n, 0⟩ none) ∧ Turn F F' w w' := by
  obtain ⟨v, h, rfl⟩ := h
  obtain ⟨hb, _, h1, _⟩ := h.cells
  have HA := Lib.hid (BAt.app (h.keep (kept_below (bl1 w (.cells #[.int .i64 op, .int .i64 n, .float .f64 0] 86)) h.blw)) ⟨op, n, 0⟩ (gx := w.heap.size) (heap_alloc_new _ _) hl)
  have HT := Lib.hid (turn_alloc (fpB b v) w (.cells #[.int .i64 op, .int .i64 n, .float .f64 0] 86))
  generalize s.code.length = len at *
  clear h
  go_enter Tryz.func147, Tryz.ntmps147
  go_wp2_with (at_builtin; refine wpList_append_ex rfl _ _ _ _ rfl _ _ rfl rfl (by exact HA.out _) ?_; rintro r w3 ⟨k1, k2, k3, ⟨g, c', rfl⟩, k4⟩)
  go_end0
  obtain ⟨F', f1, f2⟩ := k4.out
  exact ⟨F', rfl, f1, HT.out.trans f2⟩
theorem fixed_any (x : Nat) (w : World) : Calls Tryz.prog 161 #[.float .f64 x] w fun e w' => e = .returned (.float .f64 (fixB x)) ∧ w' = w := by
  have H := Lib.hid (isNaN_any x w)
  cases g : nan x
  · rw [fixB_num g]
    rw [g] at H
    go_enter Tryz.func161, Tryz.ntmps161
    go_wp2_with (go_at_call 131; refine H.out.mono ?_; rintro e w' ⟨rfl, hw⟩; subst w')
    go_ret
    exact ⟨rfl, rfl⟩
  · rw [fixB_nan g]
    rw [g] at H
    go_enter Tryz.func161, Tryz.ntmps161
    go_wp2_with (go_at_call 131; refine H.out.mono ?_; rintro e w' ⟨rfl, hw⟩; subst w')
    go_ret
    exact ⟨rfl, rfl⟩
set_option maxRecDepth 100000 in
theorem push_any (h : Bld w b F s) (x : Nat) (hl : s.code.length < lim) : Calls Tryz.prog 144 #[.pointer (some ⟨b, 0, none⟩), .float .f64 x] w fun e w' => ∃ F', e = .returned (.tuple #[]) ∧ Bld w' b F' (s.add ⟨1, 0, x⟩ none) ∧ Turn F F' w w' := by
  obtain ⟨v, h, rfl⟩ := h
  obtain ⟨hb, _, h1, _⟩ := h.cells
  have HA := Lib.hid (BAt.app (h.keep (w' := w.drew.alloc (.cells #[.int .i64 1, .int .i64 0, .float .f64 (fixB x)] 86)) (kept_below (((Same.drew w).below _).trans (bl1 w.drew _)) h.blw)) ⟨1, 0, x⟩ (gx := w.heap.size) (heap_alloc_new w.drew _) hl)
  have HT := Lib.hid (((Same.drew w).turn (fpB b v)).trans (turn_alloc (fpB b v) w.drew (.cells #[.int .i64 1, .int .i64 0, .float .f64 (fixB x)] 86)))
  generalize s.code.length = len at *
  clear h
  go_enter Tryz.func144, Tryz.ntmps144
  refine wp_region_seqE (fun u => u.cell? ⟨b, 1, none⟩ = some (.slice v.pi len v.ci)) ((0, true) :: (1, true) :: (2, true) :: (3, true) :: (4, true) :: (5, true) :: (6, false) :: (7, true) :: (8, false) :: (9, false) :: (10, true) :: (11, true) :: (12, false) :: []) follows (by kernel_rfl) (fun _ _ _ _ _ h => h) h1 ?_
  (repeat (refine wpSeqE_take (v := ?_) rfl (by rfl) (fun wq hSq => ?_) ?_; rotate_left; (focus ((try dsimp only at hSq); go_simp; try with_reducible rfl)); simp only [Act.put, List.setIfInBounds_toArray, List.set_cons_zero, List.set_cons_succ]))
  (refine wpSeqE_do rfl (by rfl) (fun KK hK => ?_); go_simp)
  refine (fixed_any x _).mono ?_
  rintro r u0 ⟨rfl, hu⟩
  subst u0
  refine hK.out _ _ (fun _ => h1) ?_
  (clear hK KK; try simp only [Act.put, List.setIfInBounds_toArray, List.set_cons_zero, List.set_cons_succ])
  (repeat (refine wpSeqE_take (v := ?_) rfl (by rfl) (fun wq hSq => ?_) ?_; rotate_left; (focus ((try dsimp only at hSq); go_simp; try with_reducible rfl)); simp only [Act.put, List.setIfInBounds_toArray, List.set_cons_zero, List.set_cons_succ]))
  (refine wpSeqE_do rfl (by rfl) (fun KK hK => ?_); go_simp)
  refine hK.out _ _ (fun _ => (World.cell?_alloc_old _ _ _ (Nat.ne_of_lt hb)).trans h1) ?_
  (clear hK KK; try simp only [Act.put, List.setIfInBounds_toArray, List.set_cons_zero, List.set_cons_succ])
  refine wpSeqE_do rfl (by rfl) (fun KK hK => ?_)
  refine wp_append_ex _ _ 24 24 rfl (.slice v.pi len v.ci) (.slice (some ⟨w.heap.size, 0, none⟩) 1 1) rfl rfl (by exact HA.out _) ?_
  rintro r w3 ⟨k1, k2, k3, ⟨g, c', rfl⟩, k4⟩
  refine hK.out _ _ (fun _ => k3) ?_
  (clear hK KK; try simp only [Act.put, List.setIfInBounds_toArray, List.set_cons_zero, List.set_cons_succ])
  (repeat (refine wpSeqE_take (v := ?_) rfl (by rfl) (fun wq hSq => ?_) ?_; rotate_left; (focus ((try dsimp only at hSq); go_simp; try with_reducible rfl)); simp only [Act.put, List.setIfInBounds_toArray, List.set_cons_zero, List.set_cons_succ]))
  (refine wpSeqE_do rfl (by rfl) (fun KK hK => ?_); go_simp)
  refine hK.out _ _ (fun hn => absurd rfl hn) ?_
  (clear hK KK; try simp only [Act.put])
  refine wpSeqE_nil ?_
  go_wp2_with fail
  go_end0
  obtain ⟨F', f1, f2⟩ := k4.out
  exact ⟨F', rfl, f1, HT.out.trans f2⟩
end
end Go.Proofs.YtpboiggakehpoaaGreatDoor.As
namespace Go.Proofs.YtpboiggakehpoaaGreatDoor.Tr
open Go.ChangeShapes Go.WideShapes Go.ChangeAt Go.RowKit Num Go.Maps As
open Go.ChangeMaps Go.MapKept
attribute [local go_sem] run_store_float frombits_run bits_run
section
variable {w : World}
theorem raw_n (n : Nat) (w : World) : Calls Tryz.prog 31 #[.int .u64 n] w fun e w' => e = .returned (.float .f64 n) ∧ w' = w := by
  go_enter Tryz.func31, Tryz.ntmps31
  go_wp2
  go_ret
  exact ⟨by simp, rfl⟩
theorem arg_any {p : Option Addr} {c n : Nat} {l : List Nat} (h : FlAt w p l) (hn : l.length = n) (i : Nat) : Calls Tryz.prog 55 #[.slice p n c, .int .i64 i] w fun e w' => e = .returned (.float .f64 (l.getD i 0)) ∧ w' = w := by
  by_cases hlt : i < n
  · obtain ⟨g, o, rfl, hg, hc⟩ := h i (by omega)
    generalize l.getD i 0 = x at *
    have hlt' : (i : Int) < (n : Int) := by omega
    clear h hn
    go_enter Tryz.func55, Tryz.ntmps55
    go_wp2
    go_ret
    exact ⟨rfl, rfl⟩
  · have hlt' : ¬ (i : Int) < (n : Int) := by omega
    have e : l.getD i 0 = 0 := by rw [List.getD_eq_getElem?_getD, List.getElem?_eq_none (by omega)]; rfl
    rw [e]
    clear h hn e
    go_enter Tryz.func55, Tryz.ntmps55
    go_wp2
    go_ret
    exact ⟨rfl, rfl⟩
structure Grf (B : Nat) (W w : World) (p : Option Addr) (c : Nat) (l : List Nat) : Prop where
  own : w.ownsRow B 74 1 (.slice p l.length c) l.length (fls l)
  below : Below B W w
section
variable {B : Nat} {W w : World} {p : Option Addr} {c : Nat} {l : List Nat}
theorem grf_no (h : Below B W w) : Grf B W w none 0 [] := ⟨World.ownsRow_nil _ _ _ _, h⟩
theorem Grf.app {o : Obj} {w3 : World} {v : Value} {x : Nat} (h : Grf B W w p c l) (hB : B ≤ w.heap.size) (hown : w3.ownsRow B 74 1 v (l.length + 1) (fls l ++ [.float .f64 x])) (hg : (w.alloc o).grownBy w3 (Value.slice p l.length c).ownBlock) : ∃ p' c', v = .slice p' (l.length + 1) c' ∧ Grf B W w3 p' c' (l ++ [x]) := by
  have e : l.length + 1 = (l ++ [x]).length := by simp
  have hown' := hown
  rw [← fls_snoc] at hown'
  obtain ⟨p', c', rfl, hr, ha⟩ := ownsRow_based hown'
  rw [fls_len] at hown' ⊢
  rw [e] at hown' ⊢
  refine ⟨p', c', rfl, hown', ?_⟩
  exact (h.below.alloc hB o).grown hg (by simp; omega) (fun j hj => (h.own.lt j hj).1)
theorem Grf.row (h : Grf B W w p c l) : RowAt 74 w p c (fls l) ∧ Abv B (fpR p) := by
  have q := h.own
  obtain ⟨p', c', e, hr, ha⟩ := ownsRow_based q
  injection e with e1 e2 e3
  subst e1 e3
  exact ⟨hr, ha⟩
theorem Grf.on {w' : World} (h : Grf B W w p c l) (k : Below w.heap.size w w') (hB : B ≤ w.heap.size) : Grf B W w' p c l := by
  refine ⟨⟨h.own.1, ?_⟩, h.below.trans (k.mono hB)⟩
  rcases h.own.2 with q | ⟨g, cap, cur, hv, hb, hg, rest⟩
  · exact .inl q
  · exact .inr ⟨g, cap, cur, hv, hb, (k.block g (lt_of_block hg)).trans hg, rest⟩
end
theorem row_fl {w : World} {p : Option Addr} {c : Nat} {l : List Nat} (h : RowAt 74 w p c (fls l)) : FlAt w p l := fun k hk => by
  obtain ⟨g, e, hg, c⟩ := row_at h rfl k hk
  exact ⟨g, 0, e, hg, by rw [Nat.zero_add]; exact c⟩
theorem take_snoc (l : List Nat) (k : Nat) (h : k < l.length) : l.take (k + 1) = l.take k ++ [l.getD k 0] := by
  rw [List.take_succ_eq_append_getElem h]
  simp [h]
set_option maxHeartbeats 2000000 in
set_option maxRecDepth 100000 in
theorem floats_any {p : Option Addr} {n cap : Nat} {l : List Nat} (hn : l.length = n) (h : BtAt w p l) (hm : n ≤ 9223372036854775807) : Calls Tryz.prog 23 #[.slice p n cap] w fun e w' => ∃ q k c, e = .returned (.slice q k c) ∧ Hid (k = min 8 l.length ∧ RowAt 74 w' q c (fls (l.take 8)) ∧ Abv w.heap.size (fpR q) ∧ Below w.heap.size w w') := by
  have HX : Hid (∀ wr, Below w.heap.size w wr → ∀ k, k < n → ∃ g o, p = some ⟨g, o, none⟩ ∧ g < wr.heap.size ∧ wr.cell? ⟨g, o + k, none⟩ = some (.int .u64 ((l.getD k 0 : Nat) : Int))) := fun wr hb k hk => (h.on hb) k (by omega)
  have HT : Hid (∀ k, k < n → l.take (k + 1) = l.take k ++ [l.getD k 0]) := fun k hk => take_snoc l k (by omega)
  have HLN : Hid (l.length = n) := hn
  obtain ⟨i0, hi, hz0, hz1, hz2⟩ := info_parts fInfo
  have HZI := Lib.hid (And.intro hi (And.intro hz0 (And.intro hz1 hz2)))
  have HM := Lib.hid hm
  have hm2 : (n : Int) ≤ 9223372036854775807 := by omega
  clear hi hz0 hz1 hz2 hn h hm
  go_enter Tryz.func23, Tryz.ntmps23
  go_wp2
  go_loopw [3, 4] (fun v vi wr => ∃ (k : Nat) (p' : Option Addr) (c' : Nat), vi = .int .i64 k ∧ v = .slice p' k c' ∧ k ≤ n ∧ k ≤ 8 ∧ Hid (Grf w.heap.size w wr p' c' (l.take k))) (fun _ vi _ => n - (intOf vi).toNat)
  case atStart => exact ⟨0, none, 0, rfl, rfl, Nat.zero_le _, Nat.zero_le _, grf_no (Below.refl _ _)⟩
  case round =>
    obtain ⟨k, p', c', rfl, rfl, hk, hk8, HR⟩ := hrel
    by_cases hlt : k < n
    · by_cases h8 : k < 8
      · have hlt' : (k : Int) < (n : Int) := by omega
        have h8' : (k : Int) < 8 := by omega
        obtain ⟨g, o, hpg, hg, hx⟩ := HX.out _ HR.out.below k hlt
        subst hpg
        have HTK := Lib.hid (HT.out k hlt)
        have HLEN := Lib.hid (show (l.take k).length = k by rw [List.length_take, HLN.out]; omega)
        generalize l.getD k 0 = y at hx HTK
        have HS : Hid (w.heap.size ≤ wr.heap.size) := HR.out.below.size
        have HOW : Hid (wr.ownsRow w.heap.size 74 1 (.slice p' k c') k (fls (l.take k))) := by
          have := HR.out.own
          rw [HLEN.out] at this
          exact this
        clear HX HT
        go_wp2_with (first
          | (go_at_call 31; refine (raw_n _ _).mono ?_; rintro e w' ⟨rfl, hw⟩; subst w')
          | (at_builtin; refine wpList_append_own _ rfl _ _ 56 rfl w.heap.size 74 i0 (.float .f64 0) 1 8 Tryz.underlying56 HZI.out.1 HZI.out.2.1 HZI.out.2.2.1 HZI.out.2.2.2 rfl (by decide) _ k _ rfl (World.ownsRow.alloc HOW.out _) ⟨wr.heap.size, 0, none⟩ 1 1 [.float .f64 y] rfl rfl (cell_one_new _ _ _) (fun u hu => by simp at hu; subst hu; rfl) (by unfold maxLen; omega) (by omega) (by have := HS.out; simp; omega) ?_; intro v3 w3 hown3 hgrow3 hnil3; replace hown3 := Lib.hid hown3; replace hgrow3 := Lib.hid hgrow3; clear hnil3))
        have hap := HR.out.app (o := .cells #[.float .f64 y] 74) (v := v3) (x := y) HS.out (by rw [HLEN.out]; exact hown3.out) (by rw [HLEN.out]; exact hgrow3.out)
        obtain ⟨q2, c2, e2, hap⟩ := hap
        rw [HLEN.out] at e2
        subst e2
        rw [← HTK.out] at hap
        exact ⟨⟨k + 1, q2, c2, by first | rfl | (congr 1), rfl, by omega, by omega, hap⟩, by simp [intOf]; omega⟩
      · have hlt' : (k : Int) < (n : Int) := by omega
        have h8' : ¬ (k : Int) < 8 := by omega
        have e8 : k = 8 := by omega
        have HLEN := Lib.hid (show k = min 8 l.length by rw [HLN.out]; omega)
        have HRR := Lib.hid HR.out.row
        have HBB := Lib.hid HR.out.below
        have HE8 := Lib.hid e8
        clear e8 HR HX HT
        go_wp2
        go_ret
        have hr := HRR.out
        rw [show l.take k = l.take 8 by rw [HE8.out]] at hr
        exact ⟨p', k, c', rfl, HLEN.out, hr.1, hr.2, HBB.out⟩
    · have hlt' : ¬ (k : Int) < (n : Int) := by omega
      have hkn : k = n := by omega
      have HLEN := Lib.hid (show k = min 8 l.length by rw [HLN.out]; omega)
      have HRR := Lib.hid HR.out.row
      have HBB := Lib.hid HR.out.below
      have HE8 := Lib.hid (show l.take k = l.take 8 by rw [List.take_of_length_le (by rw [HLN.out]; omega), List.take_of_length_le (by rw [HLN.out]; omega)])
      clear hkn HR HX HT
      go_wp2
      go_ret
      have hr := HRR.out
      rw [HE8.out] at hr
      exact ⟨p', k, c', rfl, HLEN.out, hr.1, hr.2, HBB.out⟩
def moreV (M : Int) : Int := if M.tmod 4 < 0 then 0 else M.tmod 4
theorem moreV_in (M : Int) : 0 ≤ moreV M ∧ moreV M ≤ 3 := by
  unfold moreV
  have := Int.tmod_lt_of_pos M (b := 4) (by decide)
  split <;> omega
theorem wrap_rem (M : Int) : wrap64 (M.tmod 4) = M.tmod 4 := by
  have := Int.tmod_lt_of_pos M (b := 4) (by decide)
  have := Int.lt_tmod_of_pos M (b := 4) (by decide)
  unfold wrap64
  omega
def totV (d : Wd) (m : Int) : Int := if 256 < d.B + m * d.C + moreV d.M then 256 else d.B + m * d.C + moreV d.M
abbrev wdO (d : Wd) : Obj := .cells #[.int .i64 d.B, .int .i64 d.C, .int .i64 d.M, .slice d.pn d.ln.length d.cn, .slice d.pc d.L.length d.cc] 40
theorem total_any (d : Wd) {m : Int} (hm : m = 1 ∨ m = 2) (hB : 0 ≤ d.B) (hC : 0 ≤ d.C) (hf : d.B + m * d.C ≤ 256) (w : World) : Calls Tryz.prog 19 #[wdV d, .int .i64 m] w fun e w' => e = .returned (.int .i64 (totV d m)) ∧ Below w.heap.size w w' := by
  have h2 := moreV_in d.M
  obtain ⟨B, C, M, pn, ln, cn, pc, L, cc⟩ := d
  simp only at *
  have h1 := wrap_rem M
  obtain ⟨p, hp⟩ : ∃ p, m * C = p := ⟨_, rfl⟩
  have h0 : 0 ≤ p := by rcases hm with rfl | rfl <;> omega
  obtain ⟨t, ht⟩ : ∃ t, totV ⟨B, C, M, pn, ln, cn, pc, L, cc⟩ m = t := ⟨_, rfl⟩
  rw [ht]
  unfold totV at ht
  simp only at ht
  rw [hp] at ht hf
  have h3 : wrap64 p = p := by unfold wrap64; omega
  have h4 : wrap64 (B + p) = B + p := by unfold wrap64; omega
  obtain ⟨r, hr⟩ : ∃ r, M.tmod 4 = r := ⟨_, rfl⟩
  rw [hr] at h1
  by_cases g : r < 0
  · have e : moreV M = 0 := by unfold moreV; rw [hr, if_pos g]
    rw [e, if_neg (by omega)] at ht
    rw [Int.add_zero] at ht
    have h6 : ¬ 256 < B + p := by omega
    subst ht
    clear hm hB hC hf h2 e h0
    go_enter Tryz.func19, Tryz.ntmps19
    go_wp2
    go_ret
    exact ⟨rfl, below_alloc _ _⟩
  · have e : moreV M = r := by unfold moreV; rw [hr, if_neg g]
    rw [e] at ht h2
    have h5 : wrap64 (B + p + r) = B + p + r := by unfold wrap64; omega
    by_cases h6 : 256 < B + p + r
    · rw [if_pos h6] at ht
      subst ht
      clear hm hB hC hf h2 e h0
      go_enter Tryz.func19, Tryz.ntmps19
      go_wp2
      go_ret
      exact ⟨rfl, below_alloc _ _⟩
    · rw [if_neg h6] at ht
      subst ht
      clear hm hB hC hf h2 e h0
      go_enter Tryz.func19, Tryz.ntmps19
      go_wp2
      go_ret
      exact ⟨rfl, below_alloc _ _⟩
end
end Go.Proofs.YtpboiggakehpoaaGreatDoor.Tr
namespace Go.Proofs.YtpboiggakehpoaaGreatDoor.Tr
open Go.ChangeShapes Go.WideShapes Go.ChangeAt Go.RowKit Num Go.Maps As
open Go.ChangeMaps Go.MapKept
attribute [local go_sem] run_store_float frombits_run bits_run
def sB (d : Wd) (m : Int) (i : Nat) : Nat := if ((i : Int) < d.B ∨ d.B + m * d.C ≤ (i : Int)) ∧ 0 < d.ln.length then d.ln.getD (i % d.ln.length) 0 else 0
def lB (d : Wd) (m : Int) : List Nat := (List.range (totV d m).toNat).map (sB d m)
theorem lB_len (d : Wd) (m : Int) : (lB d m).length = (totV d m).toNat := by simp [lB]
theorem lB_take (d : Wd) (m : Int) (k : Nat) (h : k < (totV d m).toNat) : (lB d m).take (k + 1) = (lB d m).take k ++ [sB d m k] := by
  have h2 : k < (lB d m).length := by rw [lB_len]; exact h
  rw [take_snoc _ _ h2]
  congr 2
  simp [lB, h]
theorem lB_at (d : Wd) (m : Int) (k : Nat) (h : k < (totV d m).toNat) : (lB d m).getD k 0 = sB d m k := by simp [lB, h]
theorem owns_drew {B : Nat} {E : TypeId} {s : Nat} {w : World} {v : Value} {n : Nat} {xs : List Value} (h : w.ownsRow B E s v n xs) : w.drew.ownsRow B E s v n xs := h
section
variable {w : World}
set_option maxHeartbeats 4000000 in
set_option maxRecDepth 100000 in
theorem begins_any {d : Wd} (h : WdIn w d) {m : Int} (hm : m = 1 ∨ m = 2) (hB : 0 ≤ d.B) (hC : 1 ≤ d.C) (hf : d.B + m * d.C ≤ 256) : Calls Tryz.prog 17 #[wdV d, .int .i64 m] w fun e w' => ∃ b F, e = .returned (.pointer (some ⟨b, 0, none⟩)) ∧ Hid (Sx.Cel 94 w' b F ((lB d m).map fixB) ∧ Abv w.heap.size F ∧ Below w.heap.size w w') := by
  have HTOT := Lib.hid (total_any d hm hB (by omega) hf)
  have htk : Hid (∀ k, k < (totV d m).toNat → (lB d m).take (k + 1) = (lB d m).take k ++ [sB d m k]) := fun k hk => lB_take d m k hk
  have htl : Hid ((lB d m).take (totV d m).toNat = lB d m) := by show _ = _; rw [List.take_of_length_le (by rw [lB_len]; exact Nat.le_refl _)]
  have hll : Hid ((lB d m).length = (totV d m).toNat) := lB_len d m
  have hsb : Hid (∀ k, sB d m k = if ((k : Int) < d.B ∨ d.B + m * d.C ≤ (k : Int)) ∧ 0 < d.ln.length then d.ln.getD (k % d.ln.length) 0 else 0) := fun k => rfl
  have h2 := moreV_in d.M
  have htv : 1 ≤ totV d m ∧ totV d m ≤ 256 := by
    unfold totV
    have : 1 ≤ m * d.C := by rcases hm with rfl | rfl <;> omega
    split <;> omega
  have HN1 := Lib.hid h.nz
  have HLL := Lib.hid h.ll
  have h0 : 1 ≤ m * d.C := by rcases hm with rfl | rfl <;> omega
  obtain ⟨B, C, M, pn, ln, cn, pc, L, cc⟩ := d
  simp only at *
  generalize lB _ m = l at *
  generalize sB _ m = f at *
  generalize totV _ m = t at *
  obtain ⟨n, rfl⟩ : ∃ n : Nat, t = (n : Int) := ⟨t.toNat, by omega⟩
  rw [Int.toNat_natCast] at *
  obtain ⟨p, hp⟩ : ∃ p, m * C = p := ⟨_, rfl⟩
  have H3 : Hid (wrap64 (m * C) = p) := by show _ = _; rw [hp]; unfold wrap64; omega
  have H4 : Hid (wrap64 (B + p) = B + p) := by show _ = _; rw [← hp]; unfold wrap64; omega
  rw [hp] at hsb hf h0
  obtain ⟨i0, hi, hz0, hz1, hz2⟩ := info_parts fInfo
  have HZI := Lib.hid (And.intro hi (And.intro hz0 (And.intro hz1 hz2)))
  have HX : Hid (∀ wr, Below (w.alloc (.cells #[.int .i64 B, .int .i64 C, .int .i64 M, .slice pn ln.length cn, .slice pc L.length cc] 40)).heap.size (w.alloc (.cells #[.int .i64 B, .int .i64 C, .int .i64 M, .slice pn ln.length cn, .slice pc L.length cc] 40)) wr → wr.cell? ⟨w.heap.size, 0, none⟩ = some (.int .i64 B) ∧ wr.cell? ⟨w.heap.size, 1, none⟩ = some (.int .i64 C) ∧ wr.cell? ⟨w.heap.size, 3, none⟩ = some (.slice pn ln.length cn) ∧ w.heap.size < wr.heap.size) := fun wr k => by
    have hb := (k.block w.heap.size (by simp)).trans (heap_alloc_new w _)
    exact ⟨(cell_of_row _ _ 0 _ _ _ hb).trans rfl, (cell_of_row _ _ 1 _ _ _ hb).trans rfl, (cell_of_row _ _ 3 _ _ _ hb).trans rfl, lt_of_block hb⟩
  clear hi hz0 hz1 hz2 h hp
  go_enter Tryz.func17, Tryz.ntmps17
  go_upto_region 2 with (go_at_call 19; refine (HTOT.out _).mono ?_; rintro e u0 ⟨rfl, HU⟩; have HU := Lib.hid HU)
  obtain ⟨u1, hu1⟩ : ∃ u1, u1 = w.alloc (.cells #[.int .i64 B, .int .i64 C, .int .i64 M, .slice pn ln.length cn, .slice pc L.length cc] 40) := ⟨_, rfl⟩
  have HW1 : Hid (Below w.heap.size w u1 ∧ Below u1.heap.size u1 u0 ∧ u1.heap.size = w.heap.size + 1) := by rw [hu1]; exact ⟨below_alloc _ _, HU.out, by simp⟩
  rw [← hu1] at HX
  clear HU hu1
  go_wp2_with fail
  go_loopw [6, 7] (fun v vi wr => ∃ (k : Nat) (p' : Option Addr) (c' : Nat), vi = .int .i64 k ∧ v = .slice p' k c' ∧ k ≤ n ∧ Hid (Grf u1.heap.size u1 wr p' c' (l.take k))) (fun _ vi _ => n - (intOf vi).toNat)
  case atStart => exact ⟨0, none, 0, rfl, rfl, Nat.zero_le _, grf_no HW1.out.2.1⟩
  case round =>
    obtain ⟨k, p', c', rfl, rfl, hk, HR⟩ := hrel
    have HB : Hid (u1.heap.size ≤ wr.heap.size) := HR.out.below.size
    obtain ⟨x0, x1, x3, x4⟩ := HX.out wr HR.out.below
    by_cases hlt : k < n
    · have hlt' : (k : Int) < (n : Int) := by omega
      have HLEN := Lib.hid (show (l.take k).length = k by rw [List.length_take, hll.out]; omega)
      obtain ⟨y, hy⟩ : ∃ y, f k = y := ⟨_, rfl⟩
      have HTK := Lib.hid (htk.out k hlt)
      rw [hy] at HTK
      have hfk := hsb.out k
      rw [hy] at hfk
      have HOW : Hid (wr.ownsRow u1.heap.size 74 1 (.slice p' k c') k (fls (l.take k))) := by
        have := HR.out.own
        rw [HLEN.out] at this
        exact this
      have h3 := H3.out
      have h4 := H4.out
      by_cases ho : ((k : Int) < B ∨ B + p ≤ (k : Int)) ∧ 0 < ln.length
      · rw [if_pos ho] at hfk
        have hl1 : (0 : Int) < (ln.length : Int) := by omega
        have hl2 : ¬ (ln.length : Int) = 0 := by omega
        have hml : k % ln.length < ln.length := Nat.mod_lt _ ho.2
        obtain ⟨g, o, rfl, hg, hcell⟩ := (HN1.out.on (HW1.out.1.trans (HR.out.below.mono HW1.out.1.size))) (k % ln.length) hml
        rw [← hfk] at hcell
        have hrem : (k : Int).tmod (ln.length : Int) = ((k % ln.length : Nat) : Int) := by rw [Int.tmod_eq_emod_of_nonneg (by omega)]; rfl
        obtain ⟨j, hj⟩ : ∃ j, k % ln.length = j := ⟨_, rfl⟩
        rw [hj] at hrem hcell hml
        have hbd : (j : Int) ≤ 9223372036854775807 := by have := HLL.out; omega
        have HHO := ho.1
        clear ho hfk HTOT hy htk htl hsb hll H3 H4 hj
        have HL1 : Hid (ln.length = ln.length) := rfl
        generalize ln.length = z at *
        have hl3 : ¬ z = 0 := by omega
        clear HL1
        rcases HHO with hc | hc
        all_goals go_upto_region 8 with fail
        all_goals refine wp_region_seq (fun u => u.cell? ⟨w.heap.size, 3, none⟩ = some (.slice (some ⟨g, o, none⟩) z cn) ∧ u.cell? ⟨g, o + j, none⟩ = some (.int .u64 (y : Int))) ((0, true) :: (1, true) :: (2, true) :: (3, true) :: (4, true) :: (5, true) :: (6, true) :: (7, true) :: (8, true) :: (9, false) :: (10, true) :: []) follows (by kernel_rfl) (fun _ _ _ _ _ h => h) ⟨x3, hcell⟩ ?_
        all_goals (repeat ((first | (refine wpSeq_take (v := ?_) rfl (by rfl) (fun wq hSq => ?_) ?_; rotate_left; (focus ((try dsimp only at hSq); go_simp; try with_reducible rfl))) | refine wpSeq_skip rfl (by rfl) ?_); simp only [Act.put, List.setIfInBounds_toArray, List.set_cons_zero, List.set_cons_succ]))
        all_goals (refine wpSeq_do rfl (by rfl) (fun KK hK => ?_); go_simp)
        all_goals refine (raw_n _ _).mono ?_
        all_goals rintro e w5 ⟨rfl, hw5⟩
        all_goals subst w5
        all_goals refine hK.out _ _ ⟨x3, hcell⟩ ?_
        all_goals (clear hK KK; try simp only [Act.put, List.setIfInBounds_toArray, List.set_cons_zero, List.set_cons_succ])
        all_goals (repeat ((first | (refine wpSeq_take (v := ?_) rfl (by rfl) (fun wq hSq => ?_) ?_; rotate_left; (focus ((try dsimp only at hSq); go_simp; try with_reducible rfl))) | refine wpSeq_skip rfl (by rfl) ?_); simp only [Act.put, List.setIfInBounds_toArray, List.set_cons_zero, List.set_cons_succ]))
        all_goals refine wpSeq_nil ?_
        all_goals go_wp2_with (at_builtin; refine wpList_append_own _ rfl _ _ 56 rfl u1.heap.size 74 i0 (.float .f64 0) 1 8 Tryz.underlying56 HZI.out.1 HZI.out.2.1 HZI.out.2.2.1 HZI.out.2.2.2 rfl (by decide) _ k _ rfl (World.ownsRow.alloc (owns_drew HOW.out) _) ⟨wr.heap.size, 0, none⟩ 1 1 [.float .f64 y] rfl rfl (cell_one_new _ _ _) (fun u hu => by simp at hu; subst hu; rfl) (by unfold maxLen; omega) (by omega) (by have := HB.out; simp; omega) ?_; intro v3 w3 hown3 hgrow3 hnil3; replace hown3 := Lib.hid hown3; replace hgrow3 := Lib.hid hgrow3; clear hnil3)
        all_goals obtain ⟨q2, c2, e2, hap⟩ := (HR.out.on ((Same.drew wr).below _) HB.out).app (o := .cells #[.float .f64 y] 74) (v := v3) (x := y) HB.out (by rw [HLEN.out]; exact hown3.out) (by rw [HLEN.out]; exact hgrow3.out)
        all_goals rw [HLEN.out] at e2
        all_goals subst e2
        all_goals rw [← HTK.out] at hap
        all_goals exact ⟨⟨k + 1, q2, c2, by first | rfl | (congr 1), rfl, by omega, hap⟩, by simp [intOf]; omega⟩
      · rw [if_neg ho] at hfk
        subst hfk
        have hc : ¬ (k : Int) < B ∧ ¬ B + p ≤ (k : Int) ∨ ¬ (0 : Int) < (ln.length : Int) := by omega
        clear ho HTOT hy htk htl hsb hll H3 H4
        rcases hc with ⟨hc1, hc2⟩ | hc
        · go_wp2_with (at_builtin; refine wpList_append_own _ rfl _ _ 56 rfl u1.heap.size 74 i0 (.float .f64 0) 1 8 Tryz.underlying56 HZI.out.1 HZI.out.2.1 HZI.out.2.2.1 HZI.out.2.2.2 rfl (by decide) _ k _ rfl (World.ownsRow.alloc HOW.out _) ⟨wr.heap.size, 0, none⟩ 1 1 [.float .f64 0] rfl rfl (cell_one_new _ _ _) (fun u hu => by simp at hu; subst hu; rfl) (by unfold maxLen; omega) (by omega) (by have := HB.out; simp; omega) ?_; intro v3 w3 hown3 hgrow3 hnil3; replace hown3 := Lib.hid hown3; replace hgrow3 := Lib.hid hgrow3; clear hnil3)
          obtain ⟨q2, c2, e2, hap⟩ := HR.out.app (o := .cells #[.float .f64 0] 74) (v := v3) (x := 0) HB.out (by rw [HLEN.out]; exact hown3.out) (by rw [HLEN.out]; exact hgrow3.out)
          rw [HLEN.out] at e2
          subst e2
          rw [← HTK.out] at hap
          first | exact ⟨⟨k + 1, q2, c2, by first | rfl | (congr 1), rfl, by omega, hap⟩, by simp [intOf]; omega⟩ | exact ⟨⟨k + 1, by omega, ⟨q2, c2, rfl, by omega, hap⟩⟩, by simp [intOf]; omega⟩
        · have hc0 : ln.length = 0 := by omega
          by_cases hc1 : (k : Int) < B ∨ B + p ≤ (k : Int)
          · rcases hc1 with hc1 | hc1
            · go_wp2_with (at_builtin; refine wpList_append_own _ rfl _ _ 56 rfl u1.heap.size 74 i0 (.float .f64 0) 1 8 Tryz.underlying56 HZI.out.1 HZI.out.2.1 HZI.out.2.2.1 HZI.out.2.2.2 rfl (by decide) _ k _ rfl (World.ownsRow.alloc HOW.out _) ⟨wr.heap.size, 0, none⟩ 1 1 [.float .f64 0] rfl rfl (cell_one_new _ _ _) (fun u hu => by simp at hu; subst hu; rfl) (by unfold maxLen; omega) (by omega) (by have := HB.out; simp; omega) ?_; intro v3 w3 hown3 hgrow3 hnil3; replace hown3 := Lib.hid hown3; replace hgrow3 := Lib.hid hgrow3; clear hnil3)
              obtain ⟨q2, c2, e2, hap⟩ := HR.out.app (o := .cells #[.float .f64 0] 74) (v := v3) (x := 0) HB.out (by rw [HLEN.out]; exact hown3.out) (by rw [HLEN.out]; exact hgrow3.out)
              rw [HLEN.out] at e2
              subst e2
              rw [← HTK.out] at hap
              first | exact ⟨⟨k + 1, q2, c2, by first | rfl | (congr 1), rfl, by omega, hap⟩, by simp [intOf]; omega⟩ | exact ⟨⟨k + 1, by omega, ⟨q2, c2, rfl, by omega, hap⟩⟩, by simp [intOf]; omega⟩
            · go_wp2_with (at_builtin; refine wpList_append_own _ rfl _ _ 56 rfl u1.heap.size 74 i0 (.float .f64 0) 1 8 Tryz.underlying56 HZI.out.1 HZI.out.2.1 HZI.out.2.2.1 HZI.out.2.2.2 rfl (by decide) _ k _ rfl (World.ownsRow.alloc HOW.out _) ⟨wr.heap.size, 0, none⟩ 1 1 [.float .f64 0] rfl rfl (cell_one_new _ _ _) (fun u hu => by simp at hu; subst hu; rfl) (by unfold maxLen; omega) (by omega) (by have := HB.out; simp; omega) ?_; intro v3 w3 hown3 hgrow3 hnil3; replace hown3 := Lib.hid hown3; replace hgrow3 := Lib.hid hgrow3; clear hnil3)
              obtain ⟨q2, c2, e2, hap⟩ := HR.out.app (o := .cells #[.float .f64 0] 74) (v := v3) (x := 0) HB.out (by rw [HLEN.out]; exact hown3.out) (by rw [HLEN.out]; exact hgrow3.out)
              rw [HLEN.out] at e2
              subst e2
              rw [← HTK.out] at hap
              first | exact ⟨⟨k + 1, q2, c2, by first | rfl | (congr 1), rfl, by omega, hap⟩, by simp [intOf]; omega⟩ | exact ⟨⟨k + 1, by omega, ⟨q2, c2, rfl, by omega, hap⟩⟩, by simp [intOf]; omega⟩
          · have hc2 : ¬ (k : Int) < B ∧ ¬ B + p ≤ (k : Int) := by omega
            obtain ⟨hc3, hc4⟩ := hc2
            go_wp2_with (at_builtin; refine wpList_append_own _ rfl _ _ 56 rfl u1.heap.size 74 i0 (.float .f64 0) 1 8 Tryz.underlying56 HZI.out.1 HZI.out.2.1 HZI.out.2.2.1 HZI.out.2.2.2 rfl (by decide) _ k _ rfl (World.ownsRow.alloc HOW.out _) ⟨wr.heap.size, 0, none⟩ 1 1 [.float .f64 0] rfl rfl (cell_one_new _ _ _) (fun u hu => by simp at hu; subst hu; rfl) (by unfold maxLen; omega) (by omega) (by have := HB.out; simp; omega) ?_; intro v3 w3 hown3 hgrow3 hnil3; replace hown3 := Lib.hid hown3; replace hgrow3 := Lib.hid hgrow3; clear hnil3)
            obtain ⟨q2, c2, e2, hap⟩ := HR.out.app (o := .cells #[.float .f64 0] 74) (v := v3) (x := 0) HB.out (by rw [HLEN.out]; exact hown3.out) (by rw [HLEN.out]; exact hgrow3.out)
            rw [HLEN.out] at e2
            subst e2
            rw [← HTK.out] at hap
            first | exact ⟨⟨k + 1, q2, c2, by first | rfl | (congr 1), rfl, by omega, hap⟩, by simp [intOf]; omega⟩ | exact ⟨⟨k + 1, by omega, ⟨q2, c2, rfl, by omega, hap⟩⟩, by simp [intOf]; omega⟩
    · have hlt' : ¬ (k : Int) < (n : Int) := by omega
      obtain rfl : k = n := by omega
      have HRR := HR.out.row
      rw [htl.out] at HRR
      have hmay : Sx.mayN ((l.length : Nat) : Int) = true := by unfold Sx.mayN; rw [hll.out, decide_eq_true (by omega), decide_eq_true (by omega)]; rfl
      have HOF := Sx.of_some HRR.1 hmay
      rw [hll.out] at HOF
      have HOF := Lib.hid HOF
      have HBL := Lib.hid HR.out.below
      clear HRR hmay HTOT htk htl hsb hll H3 H4 HR
      go_wp2_with (go_at_call 43; refine HOF.out.mono ?_; rintro e u2 ⟨b, F, rfl, q1, q2, q3⟩; have HQ := Lib.hid (And.intro q1 (And.intro q2 q3)); clear q1 q2 q3)
      go_ret
      exact ⟨b, F, rfl, HQ.out.1, HQ.out.2.1.mono (by have := HBL.out.size; have := HW1.out.1.size; omega), (HW1.out.1.trans (HBL.out.mono HW1.out.1.size)).trans (HQ.out.2.2.mono (by have := HBL.out.size; have := HW1.out.1.size; omega))⟩
end
end Go.Proofs.YtpboiggakehpoaaGreatDoor.Tr
namespace Go.Proofs.YtpboiggakehpoaaGreatDoor.As
open Go.ChangeShapes Go.WideShapes Go.ChangeAt Go.RowKit Num Go.Maps
attribute [local go_sem] run_store_float frombits_run bits_run
section
variable {w w' u w3 : World} {b : Nat} {s : Bs} {v : Bv} {F : List Nat}
theorem BAt.lab (h : BAt w b s v) (hm : ¬ s.many = 256) : BAt (w.setCell ⟨b, 2, none⟩ (.int .i64 ((s.many : Int) + 1))) b s.lab v := by
  obtain ⟨a1, a2, a3, a4, _⟩ := h.apart
  have kp : ∀ G, b ∉ G → Kept G w (w.setCell ⟨b, 2, none⟩ (.int .i64 ((s.many : Int) + 1))) := fun G hb => ⟨by simp, fun k hk => heap_setCell_other _ _ _ _ (by rintro rfl; exact hb hk)⟩
  have e : s.lab = { s with many := s.many + 1 } := by unfold Bs.lab; rw [if_neg hm]
  have ok := h.ok.lab
  rw [e] at ok ⊢
  refine ⟨(heap_setCell_same w b 2 _ _ _ h.box).trans (by simp [boxA]), h.ins.keep (kp _ a2), h.map.keep (heap_setCell_other _ _ _ _ (Ne.symm a1)), ?_, h.caps.keep (kp _ a4), ok⟩
  obtain ⟨vs, l1, l2⟩ := h.lat
  exact ⟨vs, l1.keep (kp _ a3), fun j hj => by obtain ⟨y, e1, e2⟩ := l2 j hj; exact ⟨y, e1, e2.keep (kp _ a4)⟩⟩
set_option maxRecDepth 100000 in
theorem label_any (h : Bld w b F s) : Calls Tryz.prog 123 #[.pointer (some ⟨b, 0, none⟩)] w fun e w' => ∃ F', e = .returned (.int .i64 s.labV) ∧ Bld w' b F' s.lab ∧ Turn F F' w w' := by
  have H0 := h
  obtain ⟨v, h, rfl⟩ := h
  obtain ⟨hb, _, _, h2, _, _, _, hf⟩ := h.cells
  have hf2 := hf 2
  have hm := h.ok.many
  unfold Bs.labV
  by_cases h256 : s.many = 256
  · have e1 : s.lab = s := by unfold Bs.lab; rw [if_pos h256]
    rw [if_pos h256, e1]
    rw [h256] at h2
    have HF := Lib.hid H0
    clear h H0 hf hm
    go_enter Tryz.func123, Tryz.ntmps123
    go_wp2
    go_ret
    exact ⟨_, rfl, HF.out, Turn.refl _ _⟩
  · rw [if_neg h256]
    have HB := Lib.hid (h.lab h256)
    have HT : Hid (Turn (fpB b v) (fpB b v) w (w.setCell ⟨b, 2, none⟩ (.int .i64 ((s.many : Int) + 1)))) := Turn.widen (turn_set b 2 _ w) (fun k hk => mem_fpB.2 (.inl (by simpa using hk))) (fun _ hk => .inl hk)
    have hne : ((s.many : Int) == 256) = false := by simp; omega
    generalize s.lab = sl at *
    generalize s.many = m at *
    clear h H0 hf
    go_enter Tryz.func123, Tryz.ntmps123
    go_wp2
    go_ret
    exact ⟨_, by simp, ⟨v, HB.out, rfl⟩, HT.out⟩
theorem len_at {n c : Nat} {p : Option Addr} (h1 : w.cell? ⟨b, 1, none⟩ = some (.slice p n c)) : Calls Tryz.prog 162 #[.pointer (some ⟨b, 0, none⟩)] w fun e w' => e = .returned (.int .i64 n) ∧ w' = w := by
  go_enter Tryz.func162, Tryz.ntmps162
  go_wp2
  go_ret
  exact ⟨rfl, rfl⟩
theorem BAt.marked (h : BAt w b s v) {l : Int} (hw : Wf l) (hn : s.marks.length < maxLen) (hbox : w'.heap[b]? = some (.cells (boxA (s.mark l) v) 180 (0, 0))) (ht : Turn [b] [b] w w') :
    ∃ w4, (Instr.mapUpdate 177 (.map (some v.bm)) (.int .i64 l) (.int .i64 (s.code.length : Nat))).run Tryz.prog w' = .ok () w4 ∧ Hid (BAt w4 b (s.mark l) v ∧ Turn (fpB b v) (fpB b v) w w4) := by
  obtain ⟨a1, a2, a3, a4, a5, a6, a7, _⟩ := h.apart
  have hm : MapI w' v.bm s.marks := h.map.keep (ht.block _ h.map.lt (by simp [Ne.symm a1]))
  obtain ⟨w4, e, m4, t4⟩ := hm.lay hw s.code.length hn
  have hblw := h.blw
  have kp : ∀ G, (∀ k ∈ G, k ∈ fpB b v) → b ∉ G → v.bm ∉ G → Kept G w w4 := fun G hG hb hm => ⟨Nat.le_trans ht.size t4.size, fun k hk => (t4.block k (Nat.lt_of_lt_of_le (hblw k (hG k hk)) ht.size) (by simp; rintro rfl; exact hm hk)).trans (ht.block k (hblw k (hG k hk)) (by simp; rintro rfl; exact hb hk))⟩
  have kR := kp v.R (fun k hk => mem_fpB.2 (.inr (.inr (.inr (.inr hk))))) a4 a7
  refine ⟨w4, e, ⟨(t4.block b (lt_of_block hbox) (by simp [a1])).trans hbox, h.ins.keep (kp _ (fun k hk => mem_fpB.2 (.inr (.inr (.inl hk)))) a2 a5), m4, ?_, h.caps.keep kR, h.ok.mark l⟩, ?_⟩
  · obtain ⟨vs, l1, l2⟩ := h.lat
    exact ⟨vs, l1.keep (kp _ (fun k hk => mem_fpB.2 (.inr (.inr (.inr (.inl hk))))) a3 a6), fun j hj => by obtain ⟨y, e1, e2⟩ := l2 j hj; exact ⟨y, e1, e2.keep kR⟩⟩
  · exact (Turn.widen ht (fun k hk => mem_fpB.2 (.inl (by simpa using hk))) (fun _ hk => .inl hk)).trans (Turn.widen t4 (fun k hk => mem_fpB.2 (.inr (.inl (by simpa using hk)))) (fun _ hk => .inl hk))
set_option maxRecDepth 100000 in
theorem mark_any (h : Bld w b F s) {l : Int} (hw : Wf l) (hn : s.marks.length < maxLen) : Calls Tryz.prog 146 #[.pointer (some ⟨b, 0, none⟩), .int .i64 l] w fun e w' => ∃ F', e = .returned (.tuple #[]) ∧ Bld w' b F' (s.mark l) ∧ Turn F F' w w' := by
  obtain ⟨v, h, rfl⟩ := h
  obtain ⟨hb, _, h1, _, h3, h4, _, hf⟩ := h.cells
  have hlk := h.map.look hw
  have e1 : boxA (s.mark l) v = (boxA s v).setIfInBounds 4 (.bool (hasM s.marks l || twB s.marks)) := rfl
  cases hh : hasM s.marks l
  · rw [hh] at hlk e1
    have e2 : boxA (s.mark l) v = boxA s v := by rw [e1]; simp [boxA]
    obtain ⟨w4, k1, k2⟩ := h.marked (w' := w.drew) hw hn (by rw [e2]; exact h.box) ((Same.drew w).turn _)
    generalize s.code.length = n at *
    clear h e1 e2 hh
    go_enter Tryz.func146, Tryz.ntmps146
    go_wp2
    refine wp_region_seqE (fun u => u.cell? ⟨b, 3, none⟩ = some (.map (some v.bm))) ((0, true) :: (1, true) :: (2, true) :: (3, true) :: (4, true) :: (5, true) :: (6, false) :: (7, false) :: []) follows (by kernel_rfl) (fun _ _ _ _ _ h => h) h3 ?_
    (repeat (refine wpSeqE_take (v := ?_) rfl (by rfl) (fun wq hSq => ?_) ?_; rotate_left; (focus ((try dsimp only at hSq); go_simp; try with_reducible rfl)); simp only [Act.put, List.setIfInBounds_toArray, List.set_cons_zero, List.set_cons_succ]))
    (refine wpSeqE_do rfl (by rfl) (fun KK hK => ?_); go_simp)
    refine (len_at (w := w.drew) h1).mono ?_
    rintro r u0 ⟨rfl, hu⟩
    subst u0
    refine hK.out _ _ (fun _ => h3) ?_
    (clear hK KK; try simp only [Act.put, List.setIfInBounds_toArray, List.set_cons_zero, List.set_cons_succ])
    (refine wpSeqE_do rfl (by rfl) (fun KK hK => ?_); go_simp)
    refine hK.out _ _ (fun hn => absurd rfl hn) ?_
    (clear hK KK; try simp only [Act.put])
    refine wpSeqE_nil ?_
    go_wp2_with fail
    go_end0
    exact ⟨_, rfl, ⟨v, k2.out.1, rfl⟩, k2.out.2⟩
  · rw [hh] at hlk e1
    have hf4 := hf 4
    have hbox : (w.setCell ⟨b, 4, none⟩ (.bool true)).heap[b]? = some (.cells (boxA (s.mark l) v) 180 (0, 0)) := by
      rw [e1]
      exact heap_setCell_same w b 4 _ _ _ h.box
    obtain ⟨w4, k1, k2⟩ := h.marked (w' := (w.setCell ⟨b, 4, none⟩ (.bool true)).drew) hw hn hbox ((turn_set b 4 _ w).trans ((Same.drew _).turn _))
    have g3 : (w.setCell ⟨b, 4, none⟩ (.bool true)).drew.cell? ⟨b, 3, none⟩ = some (.map (some v.bm)) := (cell_of_row (w.setCell ⟨b, 4, none⟩ (.bool true)) b 3 _ _ _ hbox).trans rfl
    have g1 : (w.setCell ⟨b, 4, none⟩ (.bool true)).drew.cell? ⟨b, 1, none⟩ = some (.slice v.pi s.code.length v.ci) := (cell_of_row (w.setCell ⟨b, 4, none⟩ (.bool true)) b 1 _ _ _ hbox).trans rfl
    generalize s.code.length = n at *
    clear h e1 hh hbox
    go_enter Tryz.func146, Tryz.ntmps146
    go_wp2
    refine wp_region_seqE (fun u => u.cell? ⟨b, 3, none⟩ = some (.map (some v.bm))) ((0, true) :: (1, true) :: (2, true) :: (3, true) :: (4, true) :: (5, true) :: (6, false) :: (7, false) :: []) follows (by kernel_rfl) (fun _ _ _ _ _ h => h) g3 ?_
    (repeat (refine wpSeqE_take (v := ?_) rfl (by rfl) (fun wq hSq => ?_) ?_; rotate_left; (focus ((try dsimp only at hSq); go_simp; try with_reducible rfl)); simp only [Act.put, List.setIfInBounds_toArray, List.set_cons_zero, List.set_cons_succ]))
    (refine wpSeqE_do rfl (by rfl) (fun KK hK => ?_); go_simp)
    refine (len_at g1).mono ?_
    rintro r u0 ⟨rfl, hu⟩
    subst u0
    refine hK.out _ _ (fun _ => g3) ?_
    (clear hK KK; try simp only [Act.put, List.setIfInBounds_toArray, List.set_cons_zero, List.set_cons_succ])
    (refine wpSeqE_do rfl (by rfl) (fun KK hK => ?_); go_simp)
    refine hK.out _ _ (fun hn => absurd rfl hn) ?_
    (clear hK KK; try simp only [Act.put])
    refine wpSeqE_nil ?_
    go_wp2_with fail
    go_end0
    exact ⟨_, rfl, ⟨v, k2.out.1, rfl⟩, k2.out.2⟩
theorem BAt.app2 {i : Ins} (h : BAt u b (s.add i none) v) (ok : Ok s) {l : Int} (hw : Wf l) {x y z gx : Nat} (hx : u.heap[x]? = some (.cells #[.pointer (some ⟨b, 0, none⟩)] 150 (0, 0))) (hy : u.heap[y]? = some (.cells #[.int .i64 l] 3 (0, 0))) (hz : u.heap[z]? = some (.cells #[.int .i64 (s.code.length : Nat)] 3 (0, 0)))
    (hg : u.heap[gx]? = some (.cells #[cloV x y z] 189 (0, 0))) (hl : s.code.length < lim) (ty : TypeId) :
    ∃ r w3, (Builtin.append_ #[178, 178] ty #[.slice v.pL s.lat.length v.cL, .slice (some ⟨gx, 0, none⟩) 1 1]).run Tryz.prog u = .ok r w3 ∧ b < w3.heap.size ∧ w3.frozen? ⟨b, 5, none⟩ = false ∧ (w3.cell? ⟨b, 5, none⟩ = some (.slice v.pL s.lat.length v.cL) ∧ w3.cell? ⟨x, 0, none⟩ = some (.pointer (some ⟨b, 0, none⟩))) ∧ (∃ g c', r = .slice (some ⟨g, 0, none⟩) (s.lat.length + 1) c') ∧ Hid (∃ F', Bld (w3.setCell ⟨b, 5, none⟩ r) b F' (s.add i (some l)) ∧ Turn (x :: y :: z :: fpB b v) F' u (w3.setCell ⟨b, 5, none⟩ r)) := by
  unfold lim at hl
  have hls := ok.size
  have elat : (s.add i none).lat = s.lat := rfl
  obtain ⟨vs, l1, l2⟩ := h.lat
  rw [elat] at l1
  obtain ⟨r, w3, h1, g, c', rfl, h2, ht⟩ := l1.app Tryz.underlying178 filInfo rfl (by decide) hg rfl (fun q hq => by simp at hq; subst hq; rfl) (by unfold maxLen; omega) (by omega) ty
  obtain ⟨a1, a2, a3, a4, a5, a6, a7, a8, a9, a10⟩ := h.apart
  have hblw := h.blw
  have old : ∀ k, k < u.heap.size → k ∉ fpR v.pL → w3.heap[k]? = u.heap[k]? := fun k hk hn => ht.block k hk hn
  have mb : b ∈ fpB b v := mem_fpB.2 (.inl rfl)
  have mm : v.bm ∈ fpB b v := mem_fpB.2 (.inr (.inl rfl))
  have mI : ∀ k ∈ fpR v.pi, k ∈ fpB b v := fun k hk => mem_fpB.2 (.inr (.inr (.inl hk)))
  have mR : ∀ k ∈ v.R, k ∈ fpB b v := fun k hk => mem_fpB.2 (.inr (.inr (.inr (.inr hk))))
  have hbox := (old b (lt_of_block h.box) a3).trans h.box
  have hgo := ht.own g (by simp)
  have gb : g ≠ b := by
    rintro rfl
    exact hgo.elim a3 fun q => absurd (hblw _ mb) (Nat.not_lt.2 q)
  have nx : ∀ {k : Nat} {c : Array Value} {T : TypeId}, u.heap[k]? = some (.cells c T (0, 0)) → (189 == T) = false → (180 == T) = false → (w3.setCell ⟨b, 5, none⟩ (.slice (some ⟨g, 0, none⟩) (s.lat.length + 1) c')).heap[k]? = some (.cells c T (0, 0)) ∧ w3.heap[k]? = some (.cells c T (0, 0)) := fun {k c T} hk q1 q2 => by
    have e1 : k ∉ fpR v.pL := fun q => by obtain ⟨arr, e⟩ := l1.blk q; exact ne_ty e hk q1 rfl
    have e2 := (old k (lt_of_block hk) e1).trans hk
    exact ⟨(heap_setCell_other _ _ _ _ (by rintro rfl; exact ne_ty h.box hk q2 rfl)).trans e2, e2⟩
  obtain ⟨hx', hx3⟩ := nx hx (by decide) (by decide)
  obtain ⟨hy', _⟩ := nx hy (by decide) (by decide)
  obtain ⟨hz', _⟩ := nx hz (by decide) (by decide)
  have kp : ∀ G, (∀ k ∈ G, k ∈ fpB b v) → b ∉ G → Sep G (fpR v.pL) → Kept G u (w3.setCell ⟨b, 5, none⟩ (.slice (some ⟨g, 0, none⟩) (s.lat.length + 1) c')) := fun G hG hb hs => ⟨by simpa using ht.size, fun k hk => (heap_setCell_other _ _ _ _ (by rintro rfl; exact hb hk)).trans (old k (hblw k (hG k hk)) (hs k hk))⟩
  have kR := kp v.R mR a4 a10.symm
  have el : (s.add i (some l)).lat = s.lat ++ [(l, s.code.length)] := rfl
  have eln : (s.add i (some l)).lat.length = s.lat.length + 1 := by rw [el]; simp
  refine ⟨_, w3, h1, lt_of_block hbox, frozen_of_row _ _ _ _ _ hbox, ⟨(cell_of_row _ _ _ _ _ _ hbox).trans rfl, (cell_of_row _ _ _ _ _ _ hx3).trans rfl⟩, ⟨g, c', rfl⟩, fpB b { v with pL := some ⟨g, 0, none⟩, cL := c', R := x :: y :: z :: v.R }, ⟨{ v with pL := some ⟨g, 0, none⟩, cL := c', R := x :: y :: z :: v.R }, ⟨?_, h.ins.keep (kp _ mI a2 a8), h.map.keep ((heap_setCell_other _ _ _ _ (Ne.symm a1)).trans (old _ h.map.lt a6)), ?_, ?_, ok.add i (some l) (by rintro l' e; cases e; exact hw)⟩, rfl⟩, ⟨ht.os, ht.tape, ht.output, by simpa using ht.size, fun k hk hn => ?_, fun k hk => ?_⟩⟩
  · refine (heap_setCell_same w3 b 5 _ _ _ hbox).trans ?_
    rw [show boxA (s.add i (some l)) { v with pL := some ⟨g, 0, none⟩, cL := c', R := x :: y :: z :: v.R } = (boxA (s.add i none) v).setIfInBounds 5 (.slice (some ⟨g, 0, none⟩) (s.add i (some l)).lat.length c') from rfl, eln]
  · rw [eln]
    refine ⟨_, h2.keep ⟨by simp, fun k hk => heap_setCell_other _ _ _ _ (by
      obtain rfl : k = g := by simpa [fpR] using hk
      exact gb)⟩, fun j hj => ?_⟩
    have hvl := l1.len
    rw [Nat.mul_one] at hvl
    by_cases hjl : j < s.lat.length
    · obtain ⟨q, e1, X, Y, Z, e2, m1, m2, m3, rest⟩ := l2 j (by rw [elat]; exact hjl)
      refine ⟨q, by rw [List.getElem?_append_left (by omega)]; exact e1, X, Y, Z, e2, by simp [m1], by simp [m2], by simp [m3], ?_⟩
      rw [el, getD_app, if_pos hjl]
      exact ⟨(kR.2 _ m1).trans rest.1, (kR.2 _ m2).trans rest.2.1, (kR.2 _ m3).trans rest.2.2⟩
    · have hj2 : j = s.lat.length := by omega
      subst hj2
      refine ⟨cloV x y z, by rw [← hvl, List.getElem?_append_right (Nat.le_refl _), Nat.sub_self]; rfl, x, y, z, rfl, by simp, by simp, by simp, hx', ?_⟩
      rw [el, getD_app, if_neg (Nat.lt_irrefl _), if_pos rfl]
      exact ⟨hy', hz'⟩
  · intro k hk
    simp only [List.mem_cons] at hk
    rcases hk with rfl | rfl | rfl | q
    · exact ⟨_, _, hx', .inr rfl⟩
    · exact ⟨_, _, hy', .inl rfl⟩
    · exact ⟨_, _, hz', .inl rfl⟩
    · exact h.caps.keep kR k q
  · simp only [List.mem_cons, not_or] at hn
    have hn1 : k ≠ b := by rintro rfl; exact hn.2.2.2 mb
    exact (heap_setCell_other _ _ _ _ hn1).trans (old k hk fun q => hn.2.2.2 (mem_fpB.2 (.inr (.inr (.inr (.inl q))))))
  · simp only [List.mem_cons]
    rcases mem_fpB.1 hk with q | q | q | q | q
    · exact .inl (.inr (.inr (.inr (q ▸ mb))))
    · exact .inl (.inr (.inr (.inr (q ▸ mm))))
    · exact .inl (.inr (.inr (.inr (mI k q))))
    · obtain rfl : k = g := by simpa [fpR] using q
      exact hgo.imp (fun t => .inr (.inr (.inr (mem_fpB.2 (.inr (.inr (.inr (.inl t)))))))) id
    · simp only [List.mem_cons] at q
      rcases q with q | q | q | q
      · exact .inl (.inl q)
      · exact .inl (.inr (.inl q))
      · exact .inl (.inr (.inr (.inl q)))
      · exact .inl (.inr (.inr (.inr (mR k q))))
abbrev cap3 (w : World) (b : Nat) (l n : Int) : World := ((w.alloc (.cells #[.pointer (some ⟨b, 0, none⟩)] 150)).alloc (.cells #[.int .i64 l] 3)).alloc (.cells #[.int .i64 n] 3)
theorem cap3_at (w : World) (b : Nat) (l n : Int) : Below w.heap.size w (cap3 w b l n) ∧ (cap3 w b l n).heap[w.heap.size]? = some (.cells #[.pointer (some ⟨b, 0, none⟩)] 150 (0, 0)) ∧ (cap3 w b l n).heap[w.heap.size + 1]? = some (.cells #[.int .i64 l] 3 (0, 0)) ∧ (cap3 w b l n).heap[w.heap.size + 1 + 1]? = some (.cells #[.int .i64 n] 3 (0, 0)) ∧ (cap3 w b l n).heap.size = w.heap.size + 1 + 1 + 1 := by
  have e1 : (w.alloc (.cells #[.pointer (some ⟨b, 0, none⟩)] 150)).heap.size = w.heap.size + 1 := by simp
  have e2 : ((w.alloc (.cells #[.pointer (some ⟨b, 0, none⟩)] 150)).alloc (.cells #[.int .i64 l] 3)).heap.size = w.heap.size + 1 + 1 := by simp
  have h1 := heap_alloc_new w (.cells #[.pointer (some ⟨b, 0, none⟩)] 150)
  have h2 := heap_alloc_new (w.alloc (.cells #[.pointer (some ⟨b, 0, none⟩)] 150)) (.cells #[.int .i64 l] 3)
  have h3 := heap_alloc_new ((w.alloc (.cells #[.pointer (some ⟨b, 0, none⟩)] 150)).alloc (.cells #[.int .i64 l] 3)) (.cells #[.int .i64 n] 3)
  rw [e1] at h2
  rw [e2] at h3
  exact ⟨((bl1 w _).alloc (by simp) _).alloc (by simp; omega) _, (Below.heap_alloc _ _ _ (by simp; omega)).trans ((Below.heap_alloc _ _ _ (by simp)).trans h1), (Below.heap_alloc _ _ _ (by simp)).trans h2, h3, by simp⟩
theorem to_fin {w2 : World} {i : Ins} {l : Int} {n : Nat} {F2 : List Nat} (h : Bld w b F s) (hw : Wf l) (hl : s.code.length < lim) (hn : s.code.length = n) (q1 : Bld w2 b F2 (s.add i none)) (q2 : Turn F F2 (cap3 w b l n) w2) :
    ∃ p c, w2.cell? ⟨b, 5, none⟩ = some (.slice p s.lat.length c) ∧ w2.cell? ⟨w.heap.size, 0, none⟩ = some (.pointer (some ⟨b, 0, none⟩)) ∧ b < w2.heap.size ∧ w.heap.size < w2.heap.size ∧ b ≠ w2.heap.size ∧ w.heap.size ≠ w2.heap.size ∧
      ∀ ty, ∃ r w3, (Builtin.append_ #[178, 178] ty #[.slice p s.lat.length c, .slice (some ⟨w2.heap.size, 0, none⟩) 1 1]).run Tryz.prog (w2.drew.alloc (.cells #[.func (.func 163) #[] #[.pointer (some ⟨w.heap.size, 0, none⟩), .pointer (some ⟨w.heap.size + 1, 0, none⟩), .pointer (some ⟨w.heap.size + 1 + 1, 0, none⟩)]] 189)) = .ok r w3 ∧ b < w3.heap.size ∧ w3.frozen? ⟨b, 5, none⟩ = false ∧ (w3.cell? ⟨b, 5, none⟩ = some (.slice p s.lat.length c) ∧ w3.cell? ⟨w.heap.size, 0, none⟩ = some (.pointer (some ⟨b, 0, none⟩))) ∧ (∃ g c', r = .slice (some ⟨g, 0, none⟩) (s.lat.length + 1) c') ∧ Hid (∃ F', Bld (w3.setCell ⟨b, 5, none⟩ r) b F' (s.add i (some l)) ∧ Turn F F' w (w3.setCell ⟨b, 5, none⟩ r)) := by
  obtain ⟨v2, q1, rfl⟩ := q1
  obtain ⟨c1, c2, c3, c4, c5⟩ := cap3_at w b l n
  have hF := h.blw
  have nF : ∀ k, w.heap.size ≤ k → k ∉ F := fun k hk q => absurd (hF k q) (Nat.not_lt.2 hk)
  have d2 := (q2.block _ (lt_of_block c2) (nF _ (Nat.le_refl _))).trans c2
  have d3 := (q2.block _ (lt_of_block c3) (nF _ (by omega))).trans c3
  have d4 := (q2.block _ (lt_of_block c4) (nF _ (by omega))).trans c4
  obtain ⟨hb, _, _, _, _, _, h5, _⟩ := q1.cells
  have lx := lt_of_block d2
  refine ⟨v2.pL, v2.cL, h5, (cell_of_row _ _ _ _ _ _ d2).trans rfl, hb, lx, Nat.ne_of_lt hb, Nat.ne_of_lt lx, fun ty => ?_⟩
  have ea := bl1 w2.drew (.cells #[cloV w.heap.size (w.heap.size + 1) (w.heap.size + 1 + 1)] 189)
  have ea2 : Below w2.heap.size w2 (w2.drew.alloc (.cells #[cloV w.heap.size (w.heap.size + 1) (w.heap.size + 1 + 1)] 189)) := ((Same.drew w2).below _).trans ea
  obtain ⟨r, w3, k1, k2, k3, k4, k5, k6⟩ := BAt.app2 (q1.keep (kept_below ea2 q1.blw)) h.ok hw ((ea2.block _ (lt_of_block d2)).trans d2) ((ea2.block _ (lt_of_block d3)).trans d3) ((ea2.block _ (lt_of_block d4)).trans (by rw [hn]; exact d4)) (heap_alloc_new w2.drew _) hl ty
  refine ⟨r, w3, k1, k2, k3, k4, k5, ?_⟩
  obtain ⟨F', f1, f2⟩ := k6.out
  refine ⟨F', f1, Turn.trans ?_ f2⟩
  have t1 : Turn F F w (cap3 w b l n) := below_turn c1
  refine ((t1.trans q2).trans (below_turn ea2)).mono fun k hk => ?_
  simp only [List.mem_cons] at hk
  rcases hk with rfl | rfl | rfl | q
  · exact .inr (Nat.le_refl _)
  · exact .inr (by omega)
  · exact .inr (by omega)
  · exact ((t1.trans q2).own k q)
set_option maxRecDepth 100000 in
theorem to_any (h : Bld w b F s) (op l : Int) (hw : Wf l) (hl : s.code.length < lim) : Calls Tryz.prog 145 #[.pointer (some ⟨b, 0, none⟩), .int .i64 op, .int .i64 l] w fun e w' => ∃ F', e = .returned (.tuple #[]) ∧ Bld w' b F' (s.add ⟨op, 0, 0⟩ (some l)) ∧ Turn F F' w w' := by
  have hb := (h.blw b (by obtain ⟨v, h, rfl⟩ := h; exact mem_fpB.2 (.inl rfl)))
  have HB : Hid (∀ u, Below w.heap.size w u → Bld u b F s) := fun u hu => h.on hu
  have HLEN : Hid (∀ u, Bld u b F s → Calls Tryz.prog 162 #[.pointer (some ⟨b, 0, none⟩)] u fun e w' => e = .returned (.int .i64 s.code.length) ∧ w' = u) := fun u hu => len_any hu
  have HADD : Hid (∀ u, Bld u b F s → Calls Tryz.prog 147 #[.pointer (some ⟨b, 0, none⟩), .int .i64 op, .int .i64 0] u fun e w' => ∃ F', e = .returned (.tuple #[]) ∧ Bld w' b F' (s.add ⟨op, 0, 0⟩ none) ∧ Turn F F' u w') := fun u hu => add_any hu op 0 hl
  obtain ⟨n, hn⟩ : ∃ n, s.code.length = n := ⟨_, rfl⟩
  have HFIN : Hid (∀ w2 F2, Bld w2 b F2 (s.add ⟨op, 0, 0⟩ none) → Turn F F2 (cap3 w b l n) w2 → _) := fun w2 F2 q1 q2 => to_fin h hw hl hn q1 q2
  have HC := Lib.hid (cap3_at w b l n).1
  rw [hn] at HLEN
  clear h hl hw hn
  go_enter Tryz.func145, Tryz.ntmps145
  go_wp2_with (first
    | (go_at_call 162; refine (HLEN.out _ (HB.out _ (by repeat (first | exact Below.refl _ _ | refine Below.alloc ?_ (by simp <;> omega) _)))).mono ?_; rintro e w' ⟨rfl, hw'⟩; subst w'; clear HLEN)
    | (go_at_call 147; refine (HADD.out _ (HB.out _ HC.out)).mono ?_; rintro e w2 ⟨F2, rfl, q1, q2⟩; obtain ⟨p, c, k5, kx, lb, lx, nb, nx, kA⟩ := HFIN.out _ _ q1 q2; have HA := Lib.hid kA; clear q1 q2 kA HFIN HADD))
  refine wp_region_seqE (fun u => u.cell? ⟨b, 5, none⟩ = some (.slice p s.lat.length c) ∧ u.cell? ⟨w.heap.size, 0, none⟩ = some (.pointer (some ⟨b, 0, none⟩))) ((0, true) :: (1, true) :: (2, true) :: (3, true) :: (4, true) :: (5, true) :: (6, false) :: (7, false) :: (8, true) :: (9, true) :: (10, false) :: []) follows (by kernel_rfl) (fun _ _ _ _ _ h => h) ⟨k5, kx⟩ ?_
  (repeat (refine wpSeqE_take (v := ?_) rfl (by rfl) (fun wq hSq => ?_) ?_; rotate_left; (focus ((try dsimp only at hSq); go_simp; try with_reducible rfl)); simp only [Act.put, List.setIfInBounds_toArray, List.set_cons_zero, List.set_cons_succ]))
  (refine wpSeqE_do rfl (by rfl) (fun KK hK => ?_); go_simp)
  refine hK.out _ _ (fun _ => ⟨(World.cell?_alloc_old _ _ _ nb).trans k5, (World.cell?_alloc_old _ _ _ nx).trans kx⟩) ?_
  (clear hK KK; try simp only [Act.put, List.setIfInBounds_toArray, List.set_cons_zero, List.set_cons_succ])
  refine wpSeqE_do rfl (by rfl) (fun KK hK => ?_)
  refine wp_append_ex _ _ 178 178 rfl (.slice p s.lat.length c) (.slice (some ⟨w2.heap.size, 0, none⟩) 1 1) rfl rfl (by exact HA.out _) ?_
  rintro r w3 ⟨k1, k2, k3, ⟨g, c', rfl⟩, k4⟩
  refine hK.out _ _ (fun _ => k3) ?_
  (clear hK KK; try simp only [Act.put, List.setIfInBounds_toArray, List.set_cons_zero, List.set_cons_succ])
  (repeat (refine wpSeqE_take (v := ?_) rfl (by rfl) (fun wq hSq => ?_) ?_; rotate_left; (focus ((try dsimp only at hSq); go_simp; try with_reducible rfl)); simp only [Act.put, List.setIfInBounds_toArray, List.set_cons_zero, List.set_cons_succ]))
  (refine wpSeqE_do rfl (by rfl) (fun KK hK => ?_); go_simp)
  refine hK.out _ _ (fun hn => absurd rfl hn) ?_
  (clear hK KK; try simp only [Act.put])
  refine wpSeqE_nil ?_
  go_wp2_with fail
  go_end0
  obtain ⟨F', f1, f2⟩ := k4.out
  exact ⟨F', rfl, f1, f2⟩
end
end Go.Proofs.YtpboiggakehpoaaGreatDoor.As
namespace Go.Proofs.YtpboiggakehpoaaGreatDoor.As
open Go.ChangeShapes Go.WideShapes Go.ChangeAt Go.RowKit Num Go.Maps
attribute [local go_sem] run_store_float frombits_run bits_run
theorem enter_run {f : FuncId} {fn : Func} (hf : Tryz.prog.funcs[f]? = some fn) (hname : (fn.name == "runtime.NumGoroutine") = false) (hb : fn.body.isSome = true) (args : Array Value) (w : World) : (callFunc f args).run Tryz.prog w = .ok (.enter f args) w := by
  obtain ⟨c, hb⟩ := Option.isSome_iff_exists.1 hb
  have h1 : fn.name ≠ "runtime.NumGoroutine" := by simpa using hname
  simp [callFunc, hf, h1, hb, mark]
section
variable {w w' u w3 : World} {b : Nat} {s : Bs} {v : Bv} {F : List Nat}
theorem has_any {many : Nat} (h2 : w.cell? ⟨b, 2, none⟩ = some (.int .i64 many)) (l : Int) : Calls Tryz.prog 164 #[.pointer (some ⟨b, 0, none⟩), .int .i64 l] w fun e w' => e = .returned (.bool (inB many l)) ∧ w' = w := by
  unfold inB
  by_cases h0 : 0 ≤ l
  · by_cases h1 : l < many
    · go_enter Tryz.func164, Tryz.ntmps164
      go_wp2
      go_ret
      exact ⟨by simp [h1, h0], rfl⟩
    · go_enter Tryz.func164, Tryz.ntmps164
      go_wp2
      go_ret
      exact ⟨by simp [h1], rfl⟩
  · go_enter Tryz.func164, Tryz.ntmps164
    go_wp2
    go_ret
    exact ⟨by simp; omega, rfl⟩
theorem okM_no {many : Nat} {r : Mk} {l : Int} (h : hasM r l = true) (hi : inB many l = false) : okM many r = false := by
  cases q : okM many r
  · rfl
  · have := ((okM_iff many r).1 q).1 l h
    rw [hi] at this
    cases this
theorem okM_tw {many : Nat} {r : Mk} (h : ∀ l, hasM r l = true → inB many l = true) : okM many r = !twB r := by
  cases q : twB r
  · exact (okM_iff many r).2 ⟨h, q⟩
  · cases k : okM many r
    · rfl
    · have := ((okM_iff many r).1 k).2
      rw [q] at this
      cases this
set_option maxRecDepth 100000 in
theorem marks_any (h : Bld w b F s) (hwf : ∀ l, hasM s.marks l = true → Wf l) : Calls Tryz.prog 148 #[.pointer (some ⟨b, 0, none⟩)] w fun e w' => e = .returned (.bool (okM s.many s.marks)) ∧ Below w.heap.size w w' := by
  obtain ⟨v, h, rfl⟩ := h
  obtain ⟨hb, _, _, h2, h3, h4, _, _⟩ := h.cells
  obtain ⟨n, D, hown, hn, hD⟩ := h.map
  have hbm := hown.lt
  have HD := Lib.hid hD
  have HWF := Lib.hid hwf
  clear h hD hn hwf
  go_enter Tryz.func148, Tryz.ntmps148
  go_wp2_with (at_range; refine wpList_range_own _ rfl _ 177 rfl 3 3 keyI Tryz.underlying177 _ v.bm n _ rfl hown ?_; intro w0 hrg0 hg0 hs0)
  go_frame
  have hb0 : Below w.heap.size w w0 := ⟨hg0.os, hg0.tape, hg0.output, hg0.size, fun k hk => hg0.block k hk (by simp)⟩
  go_loopw [3] (fun _ wr => ∃ (left : Lit → Bool) (cnt : Nat), wr.ranges Tryz.prog 3 iEl v.bm w.heap.size n D left cnt ∧ Hid ((∀ kl, left kl = true → Maps.has D kl = true) ∧ (∀ l, Wf l → hasM s.marks l = true → left (.int .i64 l) = false → inB s.many l = true) ∧ Below w.heap.size w wr))
    (fun _ wr => wr.rangeLeft v.bm w.heap.size)
  case atStart =>
    exact ⟨_, _, hrg0, Lib.hid (And.intro (fun _ q => q) (And.intro (fun l hw q z => by rw [(HD.out l hw).1, q] at z; cases z) hb0))⟩
  case round =>
    obtain ⟨left, cnt, hrg, HX⟩ := hrel
    have c2 : wr.cell? ⟨b, 2, none⟩ = some (.int .i64 (s.many : Nat)) := (HX.out.2.2.cell (p := ⟨b, 2, none⟩) hb).trans h2
    have c4 : wr.cell? ⟨b, 4, none⟩ = some (.bool (twB s.marks)) := (HX.out.2.2.cell (p := ⟨b, 4, none⟩) hb).trans h4
    have hbr : b < wr.heap.size := Nat.lt_of_lt_of_le hb HX.out.2.2.size
    clear h2 h3 h4 hown hrg0 hg0 hs0 hb0
    go_wp2_with (at_next; refine wpList_next_ranges _ rfl _ rfl 3 keyI iEl (Value.int .i64) (Value.int .i64) (fun key kl hk => by obtain ⟨x, rfl, _⟩ := Maps.keyOf_int_inv Tryz.underlying3 hk; exact ⟨x, rfl⟩) (fun y z hz => by obtain ⟨x, rfl, _⟩ := iEl_is hz; exact ⟨x, rfl⟩) v.bm w.heap.size n _ _ _ rfl hrg ?_ ?_)
    · intro hc0 hl0
      have HE : Hid (okM s.many s.marks = !twB s.marks) := okM_tw fun l q => HX.out.2.1 l (HWF.out l q) q (hl0 _)
      clear hc0 hl0
      go_wp2
      go_ret
      exact ⟨by rw [HE.out]; rfl, HX.out.2.2⟩
    · intro x c kl y0 y w1 cnt1 hkey hlk hv hat hrg1 hlt hg1 hs1 hen
      obtain ⟨x', ex, rfl, hwx⟩ := Maps.keyOf_int_inv Tryz.underlying3 hkey
      cases ex
      have HN1 : Hid (Below w.heap.size w w1) := ⟨hg1.os.trans HX.out.2.2.os, hg1.tape.trans HX.out.2.2.tape, hg1.output.trans HX.out.2.2.output, Nat.le_trans HX.out.2.2.size hg1.size, fun k hk => (hg1.block k (Nat.lt_of_lt_of_le hk HX.out.2.2.size) (by simp; omega)).trans (HX.out.2.2.block k hk)⟩
      have c2' : w1.cell? ⟨b, 2, none⟩ = some (.int .i64 (s.many : Nat)) := by
        rw [← c2]
        exact World.cell?_of_block (hg1.block b hbr (by simp; omega))
      have HM : Hid (hasM s.marks x = true) := by
        show hasM s.marks x = true
        rw [← (HD.out x hwx).1]
        exact HX.out.1 _ hlk
      have HH := Lib.hid (has_any c2' x)
      have HHL : Hid (∀ l, Wf l → hasM s.marks l = true → (left (.int .i64 l) && !(Lit.int .i64 l).sameKey (.int .i64 x)) = false → inB s.many x = true → inB s.many l = true) := fun l q1 q2 q3 q4 => by
        rw [Bool.and_eq_false_iff] at q3
        rcases q3 with q3 | q3
        · exact HX.out.2.1 l q1 q2 q3
        · have := WideAt.sameKey_eq (by simpa using q3)
          injection this with _ e
          rw [e]
          exact q4
      have hmeas := hrg.left_eq
      clear hkey hlk hv hat c2 c4 hbr hg1 hs1 HD hrg
      cases hin : inB s.many x
      · have HE := Lib.hid (okM_no HM.out hin)
        rw [hin] at HH
        clear hin HHL
        go_wp2_with (go_at_call 164; refine HH.out.mono ?_; rintro e w2 ⟨rfl, hw⟩; subst w2)
        go_ret
        exact ⟨by rw [HE.out]; rfl, HN1.out⟩
      · rw [hin] at HH
        have HIN := Lib.hid hin
        clear hin
        go_wp2_with (go_at_call 164; refine HH.out.mono ?_; rintro e w2 ⟨rfl, hw⟩; subst w2)
        go_roundw
        case rel => exact ⟨_, cnt1, hrg1, Lib.hid (And.intro (fun kl q => HX.out.1 kl (by simp at q; exact q.1)) (And.intro (fun l q1 q2 q3 => HHL.out l q1 q2 q3 HIN.out) HN1.out))⟩
        case measure => rw [hrg1.left_eq, hmeas]; exact hlt
end
end Go.Proofs.YtpboiggakehpoaaGreatDoor.As
namespace Go.Proofs.YtpboiggakehpoaaGreatDoor.As
open Go.ChangeShapes Go.WideShapes Go.ChangeAt Go.RowKit Num Go.Maps
attribute [local go_sem] run_store_float frombits_run bits_run
def setN (l : List Ins) (k : Nat) (n : Int) : List Ins := l.set k { ci l k with n := n }
def fillL (r : Mk) (lat : List (Int × Nat)) (c : List Ins) : List Ins := lat.foldl (fun c t => setN c t.2 (plN r t.1 : Nat)) c
theorem setN_len (l : List Ins) (k : Nat) (n : Int) : (setN l k n).length = l.length := by simp [setN]
theorem fillL_len (r : Mk) : ∀ (lat : List (Int × Nat)) (c : List Ins), (fillL r lat c).length = c.length
  | [], _ => rfl
  | _ :: lat, _ => (fillL_len r lat _).trans (setN_len _ _ _)
theorem fillL_snoc (r : Mk) (lat : List (Int × Nat)) (t : Int × Nat) (c : List Ins) : fillL r (lat ++ [t]) c = setN (fillL r lat c) t.2 (plN r t.1 : Nat) := by simp [fillL]
theorem ci_setN {l : List Ins} {k : Nat} (n : Int) (hk : k < l.length) (j : Nat) : ci (setN l k n) j = if j = k then { ci l k with n := n } else ci l j := by
  unfold setN ci
  rw [List.getD_eq_getElem?_getD, List.getElem?_set]
  by_cases h : j = k
  · subst h
    rw [if_pos rfl, if_pos hk, if_pos rfl]
    rfl
  · rw [if_neg (Ne.symm h), if_neg h, List.getD_eq_getElem?_getD]
theorem codC_setN {l : List Ins} {k : Nat} (n : Int) (hk : k < l.length) : codC (setN l k n) = (codC l).set (k * 3 + 1) (.int .i64 n) := by
  apply List.ext_getElem?
  intro j
  by_cases hj : j < l.length * 3
  · have hL : j / 3 < l.length := by omega
    obtain ⟨c0, c1, c2⟩ := codC_at (setN l k n) (j / 3) (by rw [setN_len]; exact hL)
    obtain ⟨d0, d1, d2⟩ := codC_at l (j / 3) hL
    rw [ci_setN n hk] at c0 c1 c2
    rw [List.getElem?_set, codC_len]
    by_cases hjk : j / 3 = k
    · rw [if_pos hjk] at c0 c1 c2
      subst hjk
      rcases (by omega : j % 3 = 0 ∨ j % 3 = 1 ∨ j % 3 = 2) with q | q | q
      · rw [if_neg (by omega), show j = j / 3 * 3 by omega, Nat.mul_div_cancel _ (by decide : 0 < 3), c0, d0]
      · rw [if_pos (by omega), if_pos (by omega), show j = j / 3 * 3 + 1 by omega, show (j / 3 * 3 + 1) / 3 = j / 3 by omega, c1]
      · rw [if_neg (by omega), show j = j / 3 * 3 + 2 by omega, show (j / 3 * 3 + 2) / 3 = j / 3 by omega, c2, d2]
    · rw [if_neg hjk] at c0 c1 c2
      rw [if_neg (by omega)]
      rcases (by omega : j % 3 = 0 ∨ j % 3 = 1 ∨ j % 3 = 2) with q | q | q
      · rw [show j = j / 3 * 3 by omega, c0, d0]
      · rw [show j = j / 3 * 3 + 1 by omega, c1, d1]
      · rw [show j = j / 3 * 3 + 2 by omega, c2, d2]
  · rw [List.getElem?_eq_none (by rw [codC_len, setN_len]; omega), List.getElem?_eq_none (by rw [List.length_set, codC_len]; omega)]
theorem fillL_at {s : Bs} (ok : Ok s) : ∀ i, i ≤ s.lat.length → ∀ k, k < s.code.length → ci (fillL s.marks (s.lat.take i) (s.code.map fixI)) k = if (∃ t, t ∈ s.lat.take i ∧ t.2 = k) then fixI (s.fin k) else fixI (ci s.code k)
  | 0, _, k, hk => by rw [List.take_zero, if_neg (by simp)]; exact ci_fix _ _
  | i + 1, hi, k, hk => by
    have hi' : i < s.lat.length := by omega
    rw [List.take_succ_eq_append_getElem hi', fillL_snoc]
    obtain ⟨a, b, _⟩ := ok.of _ (List.getElem_mem hi')
    rw [ci_setN _ (by rw [fillL_len, List.length_map]; exact a)]
    by_cases h : k = (s.lat[i]).2
    · have h2 : ∃ t, t ∈ s.lat.take i ++ [s.lat[i]] ∧ t.2 = k := ⟨_, List.mem_append_right _ (List.mem_singleton.2 rfl), h.symm⟩
      rw [if_pos h, if_pos h2, h, fin_to b]
      have := fillL_at ok i (by omega) _ a
      rw [this]
      split
      · rw [fin_to b]; rfl
      · rfl
    · rw [if_neg h, fillL_at ok i (by omega) k hk]
      have e : (∃ t, t ∈ s.lat.take i ++ [s.lat[i]] ∧ t.2 = k) ↔ ∃ t, t ∈ s.lat.take i ∧ t.2 = k := by
        constructor
        · rintro ⟨t, ht, q⟩
          rcases List.mem_append.1 ht with z | z
          · exact ⟨t, z, q⟩
          · rw [List.mem_singleton] at z
            subst z
            exact absurd q.symm h
        · rintro ⟨t, ht, q⟩
          exact ⟨t, List.mem_append_left _ ht, q⟩
      by_cases q : ∃ t, t ∈ s.lat.take i ∧ t.2 = k
      · rw [if_pos q, if_pos (e.2 q)]
      · rw [if_neg q, if_neg (fun z => q (e.1 z))]
theorem fillL_all {s : Bs} (ok : Ok s) : fillL s.marks s.lat (s.code.map fixI) = s.filled.map fixI := by
  refine ci_ext (by rw [fillL_len, List.length_map, List.length_map, filled_len]) fun k hk => ?_
  rw [fillL_len, List.length_map] at hk
  have := fillL_at ok s.lat.length (Nat.le_refl _) k hk
  rw [List.take_length] at this
  rw [this, ci_fix, filled_at hk]
  split
  · rfl
  · rename_i q
    cases hq : s.tos.getD k none with
    | none => rw [fin_no hq]
    | some l => exact absurd ⟨(l, k), ok.tq k hk l hq, rfl⟩ q
section
variable {w w' u w3 : World} {b : Nat} {s : Bs} {v : Bv} {F : List Nat}
theorem fill_enter (args : Array Value) (w : World) : (callFunc 163 args).run Tryz.prog w = .ok (.enter 163 args) w := enter_run Tryz.func163 (by kernel_rfl) (by kernel_rfl) args w
set_option maxRecDepth 100000 in
theorem fill_any {x y z bm g n c k : Nat} {l m : Int} {old : Value} (hx : w.cell? ⟨x, 0, none⟩ = some (.pointer (some ⟨b, 0, none⟩))) (hy : w.cell? ⟨y, 0, none⟩ = some (.int .i64 l)) (hz : w.cell? ⟨z, 0, none⟩ = some (.int .i64 k)) (h3 : w.cell? ⟨b, 3, none⟩ = some (.map (some bm)))
    {has : Bool} (hlk : ∀ u, Same w u → (Instr.lookup 177 (.map (some bm)) (.int .i64 l) true).run Tryz.prog u = .ok (.tuple #[.int .i64 m, .bool has]) u) (hk : k < n) (ho : w.cell? ⟨g, k * 3 + 1, none⟩ = some old) (hf : w.frozen? ⟨g, k * 3 + 1, none⟩ = false) :
    Calls Tryz.prog 163 #[.slice (some ⟨g, 0, none⟩) n c, .pointer (some ⟨x, 0, none⟩), .pointer (some ⟨y, 0, none⟩), .pointer (some ⟨z, 0, none⟩)] w fun e w' => e = .returned (.bool has) ∧ ∃ w0, Same w w0 ∧ w' = w0.setCell ⟨g, k * 3 + 1, none⟩ (.int .i64 m) := by
  have hlx := World.block_lt_of_cell? w _ hx
  have hly := World.block_lt_of_cell? w _ hy
  have hlz := World.block_lt_of_cell? w _ hz
  have hk' : (k : Int) < (n : Int) := by omega
  go_enter Tryz.func163, Tryz.ntmps163
  go_wp2
  have hl2 := hlk _ (Same.drew w)
  clear hlk
  refine wp_region_seq (fun u => u.cell? ⟨x, 0, none⟩ = some (.pointer (some ⟨b, 0, none⟩)) ∧ u.cell? ⟨y, 0, none⟩ = some (.int .i64 l) ∧ u.cell? ⟨b, 3, none⟩ = some (.map (some bm)) ∧ (Instr.lookup 177 (.map (some bm)) (.int .i64 l) true).run Tryz.prog u = .ok (.tuple #[.int .i64 m, .bool has]) u) ((0, true) :: (1, true) :: (2, true) :: (3, true) :: (4, true) :: (5, true) :: (6, true) :: (7, true) :: (8, true) :: (9, true) :: (10, true) :: []) follows (by kernel_rfl) (fun _ _ _ _ _ h => h) ⟨hx, hy, h3, hl2⟩ ?_
  (repeat ((first | (refine wpSeq_take (v := ?_) rfl (by rfl) (fun wq hSq => ?_) ?_; rotate_left; (focus ((try dsimp only at hSq); go_simp; try with_reducible rfl))) | refine wpSeq_skip rfl (by rfl) ?_); simp only [Act.put, List.setIfInBounds_toArray, List.set_cons_zero, List.set_cons_succ]))
  refine wpSeq_nil ?_
  go_wp2_with fail
  go_ret
  exact ⟨rfl, _, Same.drew _, rfl⟩
theorem take_all {r : Mk} {lat : List (Int × Nat)} (h : ∀ j, j < lat.length → hasM r (lat.getD j (0, 0)).1 = true) : (lat.all fun t => hasM r t.1) = true := by
  rw [List.all_eq_true]
  intro t ht
  obtain ⟨j, hj, e⟩ := List.getElem_of_mem ht
  have := h j hj
  rwa [List.getD_eq_getElem?_getD, List.getElem?_eq_getElem hj, Option.getD_some, e] at this
theorem take_no {r : Mk} {lat : List (Int × Nat)} {j : Nat} (hj : j < lat.length) (h : hasM r (lat.getD j (0, 0)).1 = false) : (lat.all fun t => hasM r t.1) = false := by
  cases q : lat.all fun t => hasM r t.1
  · rfl
  · rw [List.all_eq_true] at q
    have := q _ (List.getElem_mem hj)
    rw [List.getD_eq_getElem?_getD, List.getElem?_eq_getElem hj, Option.getD_some] at h
    rw [h] at this
    cases this
theorem RowW.put {E : TypeId} {sz : Nat} {g c n : Nat} {xs : List Value} (h : RowW E sz w (some ⟨g, 0, none⟩) c n xs) (j : Nat) (y : Value) : RowW E sz (w.setCell ⟨g, j, none⟩ y) (some ⟨g, 0, none⟩) c n (xs.set j y) := ⟨(h.own.stored j y).1⟩
set_option maxRecDepth 100000 in
set_option maxHeartbeats 1000000 in
theorem fillIn_any (h : Bld w b F s) {p : Option Addr} {c n : Nat} (hn : s.code.length = n) (hlim : n < lim) (hr : RowW 86 3 w p c n (codC (s.code.map fixI))) (hs : Sep F (fpR p)) : Calls Tryz.prog 149 #[.pointer (some ⟨b, 0, none⟩), .slice p n c] w fun e w' => e = .returned (.bool (s.lat.all fun t => hasM s.marks t.1)) ∧ Hid (∃ cl, cl.length = n ∧ RowW 86 3 w' p c n (codC cl) ∧ ((s.lat.all fun t => hasM s.marks t.1) = true → cl = s.filled.map fixI) ∧ Turn (fpR p) (fpR p) w w') := by
  have ok := h.ok
  have HB := Lib.hid h
  obtain ⟨v, h, rfl⟩ := h
  obtain ⟨hb, _, _, _, _, _, h5, _⟩ := h.cells
  have HV : Hid (∀ u, Turn (fpR p) (fpR p) w u → BAt u b s v) := fun u k => h.keep (k.kept hs h.blw)
  have hnl : s.lat.length ≤ n := hn ▸ ok.size
  have HOK := Lib.hid ok
  have HR := Lib.hid hr
  have HN := Lib.hid hn
  have HL : Hid (n < lim) := hlim
  obtain ⟨nl, hnl2⟩ : ∃ nl, s.lat.length = nl := ⟨_, rfl⟩
  rw [hnl2] at h5 hnl
  have HNL := Lib.hid hnl2
  have hnlI : (nl : Int) ≤ 9223372036854775807 := by unfold lim at hlim; omega
  clear h ok hr hs hn hlim hnl2
  go_enter Tryz.func149, Tryz.ntmps149
  go_wp2
  go_loopw [12] (fun vi wr => ∃ (i : Nat), vi = .int .i64 i ∧ i ≤ nl ∧ Hid (RowW 86 3 wr p c n (codC (fillL s.marks (s.lat.take i) (s.code.map fixI))) ∧ Turn (fpR p) (fpR p) w wr ∧ ∀ j, j < i → hasM s.marks (s.lat.getD j (0, 0)).1 = true)) (fun vi _ => nl - (intOf vi).toNat)
  case atStart => exact ⟨0, rfl, Nat.zero_le _, HR.out, Turn.refl _ _, fun j hj => absurd hj (Nat.not_lt_zero _)⟩
  case round =>
    obtain ⟨i, rfl, hi, HI⟩ := hrel
    by_cases hlt : i < nl
    · have hltI : (i : Int) < (nl : Int) := by omega
      have hv := HV.out _ HI.out.2.1
      obtain ⟨vs, l1, l2⟩ := hv.lat
      have hlti : i < s.lat.length := by rw [HNL.out]; exact hlt
      obtain ⟨u0, e1, x, y, z, rfl, m1, m2, m3, x1, y1, z1⟩ := l2 i hlti
      obtain ⟨gL, eL, hgL, hcL, _, cL, _⟩ := l1.at (by omega)
      have kL : wr.cell? ⟨gL, i, none⟩ = some (cloV x y z) := (cL i (by omega)).trans e1
      have et : s.lat.getD i (0, 0) ∈ s.lat := by
        rw [List.getD_eq_getElem?_getD, List.getElem?_eq_getElem hlti]
        exact List.getElem_mem hlti
      have etk : s.lat.take (i + 1) = s.lat.take i ++ [s.lat.getD i (0, 0)] := by
        rw [List.take_succ_eq_append_getElem hlti, List.getD_eq_getElem?_getD, List.getElem?_eq_getElem hlti]
        rfl
      obtain ⟨q1, q2, q3⟩ := HOK.out.of _ et
      rw [eL]
      have hmap := hv.map
      obtain ⟨hbr, _, _, _, k3, _, _, _⟩ := hv.cells
      have HH : Hid (hasM s.marks (s.lat.getD i (0, 0)).1 = false → (s.lat.all fun t => hasM s.marks t.1) = false) := take_no hlti
      have HQ : Hid (hasM s.marks (s.lat.getD i (0, 0)).1 = true → ∀ j, j < i + 1 → hasM s.marks (s.lat.getD j (0, 0)).1 = true) := fun q j hj => by
        by_cases e : j = i
        · rw [e]; exact q
        · exact HI.out.2.2 j (by omega)
      obtain ⟨l, hl⟩ : ∃ l, (s.lat.getD i (0, 0)).1 = l := ⟨_, rfl⟩
      obtain ⟨k, hk⟩ : ∃ k, (s.lat.getD i (0, 0)).2 = k := ⟨_, rfl⟩
      have eset := fillL_snoc s.marks (s.lat.take i) (s.lat.getD i (0, 0)) (s.code.map fixI)
      rw [hl, hk] at eset
      rw [hk] at q1 z1
      rw [hl] at q3 y1 HH HQ
      have hlen : (fillL s.marks (s.lat.take i) (s.code.map fixI)).length = n := by rw [fillL_len, List.length_map]; exact HN.out
      have hkn : k < n := by rw [← HN.out]; exact q1
      have hrow := HI.out.1
      obtain ⟨g, ep, hg, _, _, cg, fg⟩ := hrow.at (by omega)
      subst ep
      have HF := Lib.hid (fill_any (c := c) (n := n) (k := k) (old := ((codC (fillL s.marks (s.lat.take i) (s.code.map fixI))).getD (k * 3 + 1) (.int .i64 0))) ((cell_of_row _ _ 0 _ _ _ x1).trans rfl) ((cell_of_row _ _ 0 _ _ _ y1).trans rfl) ((cell_of_row _ _ 0 _ _ _ z1).trans rfl) k3 (fun u hu => (hmap.keep (by rw [hu.heap])).look q3) hkn (by rw [cg _ (by omega), List.getD_eq_getElem?_getD, List.getElem?_eq_getElem (by rw [codC_len, hlen]; omega)]; rfl) (fg _))
      have HS : Hid (∀ w0, Same wr w0 → RowW 86 3 (w0.setCell ⟨g, k * 3 + 1, none⟩ (.int .i64 (plN s.marks l : Nat))) (some ⟨g, 0, none⟩) c n (codC (fillL s.marks (s.lat.take (i + 1)) (s.code.map fixI))) ∧ Turn (fpR (some ⟨g, 0, none⟩)) (fpR (some ⟨g, 0, none⟩)) w (w0.setCell ⟨g, k * 3 + 1, none⟩ (.int .i64 (plN s.marks l : Nat)))) := fun w0 h0 => by
        refine ⟨?_, HI.out.2.1.trans ((h0.turn _).trans (turn_set g _ _ w0))⟩
        rw [etk, eset, codC_setN _ (by rw [hlen]; exact hkn)]
        exact (hrow.keep (h0.kept _)).put _ _
      unfold cloV at kL
      have hcall := fill_enter
      cases hh : hasM s.marks l
      · rw [hh] at HF
        have HE := Lib.hid (HH.out hh)
        have HL2 := Lib.hid hlen
        clear HH HQ hh hl hk eset hrow cg fg hmap hv l1 l2 cL e1 x1 y1 z1 q1 q2 q3 etk et m1 m2 m3 hlen HI HV HB HOK HR HN hlti k3 hbr hkn hnl
        go_wp2_with (refine HF.out.mono ?_; rintro e w2 ⟨rfl, w0, h0, hw2⟩; have HZ := Lib.hid (HS.out w0 h0); rw [← hw2] at HZ; clear hw2 h0 HS HF)
        go_ret
        exact ⟨by rw [HE.out]; rfl, fillL s.marks (s.lat.take (i + 1)) (s.code.map fixI), by rw [fillL_len] at *; exact HL2.out, HZ.out.1, (fun q => by rw [HE.out] at q; cases q), HZ.out.2⟩
      · rw [hh] at HF
        have HE := Lib.hid (HQ.out hh)
        clear HH HQ hh hl hk eset hrow cg fg hmap hv l1 l2 cL e1 x1 y1 z1 q1 q2 q3 etk et m1 m2 m3 hlen HI HV HB HOK HR HN hlti k3 hbr hkn hnl
        go_wp2_with (refine HF.out.mono ?_; rintro e w2 ⟨rfl, w0, h0, hw2⟩; have HZ := Lib.hid (HS.out w0 h0); rw [← hw2] at HZ; clear hw2 h0 HS HF)
        exact ⟨⟨i + 1, by first | rfl | (congr 1), by omega, HZ.out.1, HZ.out.2, HE.out⟩, by simp [intOf]; omega⟩
    · have hltI : ¬ (i : Int) < (nl : Int) := by omega
      obtain rfl : i = nl := by omega
      have HE : Hid ((s.lat.all fun t => hasM s.marks t.1) = true) := take_all fun j hj => HI.out.2.2 j (by rw [HNL.out] at hj; exact hj)
      have HZ : Hid (RowW 86 3 wr p c n (codC (s.filled.map fixI)) ∧ Turn (fpR p) (fpR p) w wr) := by
        have := HI.out.1
        rw [← HNL.out, List.take_length, fillL_all HOK.out] at this
        exact ⟨this, HI.out.2.1⟩
      clear HI HV
      go_wp2
      go_ret
      exact ⟨by rw [HE.out]; rfl, _, by rw [List.length_map, filled_len]; exact HN.out, HZ.out.1, fun _ => rfl, HZ.out.2⟩
end
end Go.Proofs.YtpboiggakehpoaaGreatDoor.As
namespace Go.Proofs.YtpboiggakehpoaaGreatDoor.As
open Go.ChangeShapes Go.WideShapes Go.ChangeAt Go.RowKit Num Go.Maps
attribute [local go_sem] run_store_float frombits_run bits_run
section
variable {w w' u w3 : World} {b : Nat} {s : Bs} {v : Bv} {F : List Nat}
theorem cloneI_nil (w : World) : Calls Tryz.prog 108 #[.slice none 0 0] w fun e w' => e = .returned (.slice none 0 0) ∧ w' = w := by
  have hq := fun w => Lib.run_eql_slice_nil (P := Tryz.prog) w 24 86 none 0 0 0 0 Tryz.underlying24
  go_enter Tryz.func108, Tryz.ntmps108
  go_wp2
  go_ret
  exact ⟨rfl, rfl⟩
set_option maxRecDepth 100000 in
theorem cloneI_some {g c n : Nat} {xs : List Value} (hn : xs.length = n * 3) (hx : ∀ j y, xs[j]? = some y → w.cell? ((⟨g, 0, none⟩ : Addr).add j) = some y) (h1 : ∀ y ∈ xs, y.oneCell' = true) (hz : n ≤ 5864062014805) : Calls Tryz.prog 108 #[.slice (some ⟨g, 0, none⟩) n c] w fun e w' => ∃ p' c', e = .returned (.slice p' n c') ∧ w'.ownsRow w.heap.size 86 3 (.slice p' n c') n xs ∧ Below w.heap.size w w' := by
  have hq := fun w c => Lib.run_eql_slice_nil (P := Tryz.prog) w 24 86 (some ⟨g, 0, none⟩) n c 0 0 Tryz.underlying24
  have HX : Hid (∀ j y, xs[j]? = some y → (w.alloc (.cells #[] 86)).cell? ((⟨g, 0, none⟩ : Addr).add j) = some y) := fun j y hj => ((bl1 w _).cell (World.block_lt_of_cell? w _ (hx j y hj))).trans (hx j y hj)
  have H1 := Lib.hid (And.intro h1 (And.intro hn hz))
  have HO : Hid ((w.alloc (.cells #[] 86)).ownsRow w.heap.size 86 3 (.slice (some ⟨w.heap.size, 0, none⟩) 0 0) 0 []) := ⟨rfl, .inr ⟨w.heap.size, 0, #[], rfl, Nat.le_refl _, heap_alloc_new _ _, Nat.le_refl _, Nat.zero_le _, by simp, by simp⟩⟩
  obtain ⟨i0, hi, hz0, hz1, hz2⟩ := info_parts insInfo
  have HZI := Lib.hid (And.intro hi (And.intro hz0 (And.intro hz1 hz2)))
  clear hi hz0 hz1 hz2 hx h1 hz hn
  go_enter Tryz.func108, Tryz.ntmps108
  go_wp2_with (at_builtin; refine wpList_append_own_at _ rfl _ _ 24 rfl w.heap.size 86 i0 _ 3 24 Tryz.underlying24 HZI.out.1 HZI.out.2.1 HZI.out.2.2.1 HZI.out.2.2.2 rfl (by decide) _ 0 [] rfl HO.out ⟨g, 0, none⟩ n _ xs rfl H1.out.2.1 HX.out H1.out.1 (by have := H1.out.2.2; unfold maxLen; omega) (by have := H1.out.2.2; omega) (by simp) ?_; intro v w3 hown hgrow hnil hloc; have HS := Lib.hid (And.intro hown hgrow); clear hown hgrow hnil hloc)
  have ho3 := HS.out.1
  rw [List.nil_append, Nat.zero_add] at ho3
  obtain ⟨p', c', hv⟩ : ∃ p' c', v = .slice p' n c' := by
    rcases ho3.2 with ⟨rfl, h0⟩ | ⟨g, cap, cur, rfl, _⟩
    · exact ⟨none, 0, by rw [h0]⟩
    · exact ⟨_, cap, rfl⟩
  subst hv
  have hb3 : Below w.heap.size w w3 := (bl1 w _).grown HS.out.2 (by simp) (fun j hj => by
    have := hj
    simp [Act.eval, Value.ownBlock] at this
    omega)
  have HF := Lib.hid (And.intro ho3 hb3)
  clear ho3 hb3 HS H1
  go_wp2
  go_ret
  exact ⟨_, _, rfl, HF.out.1, HF.out.2⟩
theorem clone_any {p : Option Addr} {c n : Nat} {l : List Ins} (h : RowW 86 3 w p c n (codC l)) (hn : n < lim) : Calls Tryz.prog 108 #[.slice p n c] w fun e w' => ∃ p' c', e = .returned (.slice p' n c') ∧ Hid (RowW 86 3 w' p' c' n (codC l) ∧ Abv w.heap.size (fpR p') ∧ Below w.heap.size w w') := by
  unfold lim at hn
  rcases h.own.2 with ⟨q, h0⟩ | ⟨g, cap, cur, hv, _, hg, hc, hm, hs, ht⟩
  · cases q
    refine (cloneI_nil w).mono ?_
    rintro e w' ⟨rfl, rfl⟩
    exact ⟨none, 0, rfl, h, fun k hk => by simp [fpR] at hk, Below.refl _ _⟩
  · cases hv
    refine (cloneI_some h.len (fun j y hj => ?_) (codC_one l) (by omega)).mono ?_
    · rw [Go.WideShapes.add_plain, cell_of_row _ _ _ _ _ _ hg, Nat.zero_add]
      have h1 : cur.toList[j]? = (cur.toList.take (n * 3))[j]? := by
        have := (List.getElem?_eq_some_iff.1 hj).1
        rw [h.len] at this
        rw [List.getElem?_take, if_pos this]
      rw [ht, hj] at h1
      simpa using h1
    · rintro e w' ⟨p', c', rfl, k1, k2⟩
      exact ⟨p', c', rfl, ⟨⟨k1.1, k1.2.imp id (fun ⟨g, cap, cur, a1, _, a3⟩ => ⟨g, cap, cur, a1, Nat.zero_le _, a3⟩)⟩⟩, fun k hk => (k1.lt k (own_fpR.1 hk)).1, k2⟩
theorem prog_back {fn : Func} {p r : Tmp} (h : fn.results = #[.cell p 26, .tmp r]) {Q : Ending → World → Prop} {a : Act} {w : World} (g : Nat) (t : Int) (po : Option Addr) (n c : Nat) (e : Int) (hp : a.tmps.getD p undef = .pointer (some ⟨g, 0, none⟩)) (hu : a.tmps.getD r undef = .int .i64 e)
    (hg : w.heap[g]? = some (.cells #[.int .i64 t, .slice po n c] 26 (0, 0))) (hd : a.defers = []) (hR : Q (.returned (.tuple #[.agg #[.int .i64 t, .slice po n c], .int .i64 e])) w) : bodyPost Tryz.prog fn Q .ret a w := by
  refine bodyPost_ret (v := .tuple #[.agg #[.int .i64 t, .slice po n c], .int .i64 e]) ?_ hd hR
  rw [results_cell_tmp h, hp, hu]
  have hl := run_loadVar_row (P := Tryz.prog) w g 26 26 #[.int .i64 t, .slice po n c] (0, 0) _ hg Tryz.underlying26 rfl (by kernel_rfl)
  simp [asAddr, hl, Result.andThen]
structure PrC (w wc : World) (b : Nat) (F : List Nat) (s : Bs) (r q : Nat) (p : Option Addr) (c n : Nat) (cl : List Ins) : Prop where
  bel : Below w.heap.size w wc
  bld : Bld wc b F s
  row : RowW 86 3 wc p c n (codC cl)
  abv : Abv w.heap.size (fpR p)
  res : wc.heap[r]? = some (.cells #[.int .i64 0, .slice none 0 0] 26 (0, 0))
  box : wc.heap[q]? = some (.cells #[.int .i64 s.tag, .slice p n c] 26 (0, 0))
  ne : r ≠ q
  lr : w.heap.size ≤ r
  lq : w.heap.size ≤ q
theorem PrC.on {r q : Nat} {p : Option Addr} {c n : Nat} {cl : List Ins} {wc wd : World} (h : PrC w wc b F s r q p c n cl) (k : Below wc.heap.size wc wd) : PrC w wd b F s r q p c n cl :=
  ⟨h.bel.trans (k.mono h.bel.size), h.bld.on k, h.row.keep (kept_below k h.row.blw), h.abv, (k.block _ (lt_of_block h.res)).trans h.res, (k.block _ (lt_of_block h.box)).trans h.box, h.ne, h.lr, h.lq⟩
theorem PrC.fill {r q : Nat} {p : Option Addr} {c n : Nat} {cl cl' : List Ins} {wc wd : World} (h : PrC w wc b F s r q p c n cl) (hb : Blw w F) (k : Turn (fpR p) (fpR p) wc wd) (hr : RowW 86 3 wd p c n (codC cl')) : PrC w wd b F s r q p c n cl' := by
  have nr : ∀ {x : Nat} {a : Array Value}, wc.heap[x]? = some (.cells a 26 (0, 0)) → wd.heap[x]? = some (.cells a 26 (0, 0)) := fun {x a} e => (k.block _ (lt_of_block e) fun z => by obtain ⟨arr, e2⟩ := h.row.blk z; exact ne_ty e e2 (by decide) rfl).trans e
  exact ⟨h.bel.trans (k.below h.abv h.bel.size), h.bld.turn k (fun x hx z => absurd (hb x hx) (Nat.not_lt.2 (h.abv x z))), hr, h.abv, nr h.res, nr h.box, h.ne, h.lr, h.lq⟩
def PrE (w w' : World) (s : Bs) (t : Int) (p : Option Addr) (n c : Nat) : Prop := Below w.heap.size w w' ∧ Abv w.heap.size (fpR p) ∧ ((s.ans = 0 ∧ t = s.tag ∧ n = s.code.length ∧ RowW 86 3 w' p c n (codC (s.filled.map fixI))) ∨ (s.ans ≠ 0 ∧ t = 0 ∧ p = none ∧ n = 0 ∧ c = 0))
set_option maxRecDepth 100000 in
set_option maxHeartbeats 1000000 in
theorem prog_any (h : Bld w b F s) (hT : Shaped5 w) (hl : s.code.length < lim) (hwf : ∀ l, hasM s.marks l = true → Wf l) : Calls Tryz.prog 126 #[.pointer (some ⟨b, 0, none⟩)] w fun e w' => ∃ t p n c, e = .returned (.tuple #[.agg #[.int .i64 t, .slice p n c], .int .i64 s.ans]) ∧ Hid (PrE w w' s t p n c) := by
  have ok := h.ok
  have HB := Lib.hid h
  have HT := Lib.hid hT
  have HL := Lib.hid hl
  have HBW := Lib.hid h.blw
  have HMK : Hid (∀ u, Bld u b F s → Calls Tryz.prog 148 #[.pointer (some ⟨b, 0, none⟩)] u fun e w' => e = .returned (.bool (okM s.many s.marks)) ∧ Below u.heap.size u w') := fun u hu => marks_any hu hwf
  obtain ⟨v, h, rfl⟩ := h
  obtain ⟨hb, h0, h1, _⟩ := h.cells
  have HCL : Hid (∀ u, Below w.heap.size w u → Calls Tryz.prog 108 #[.slice v.pi s.code.length v.ci] u fun e w' => ∃ p' c', e = .returned (.slice p' s.code.length c') ∧ Hid (RowW 86 3 w' p' c' s.code.length (codC (s.code.map fixI)) ∧ Abv u.heap.size (fpR p') ∧ Below u.heap.size u w')) := fun u hu => clone_any (h.ins.keep (kept_below hu h.ins.blw)) hl
  obtain ⟨n, hn⟩ : ∃ n, s.code.length = n := ⟨_, rfl⟩
  have HN := Lib.hid hn
  rw [hn] at HCL h1
  clear h hT hl hwf hn
  go_enter Tryz.func126, Tryz.ntmps126
  have HA : Hid (Below w.heap.size w (w.alloc (.cells #[.int .i64 0, .slice none 0 0] 26)).drew ∧ b < (w.alloc (.cells #[.int .i64 0, .slice none 0 0] 26)).drew.heap.size) := ⟨(bl1 w _).trans ((Same.drew _).below _), by show b < (w.alloc _).heap.size; simp; omega⟩
  have HCE : Hid (∀ u u3, b < u.heap.size → u.cell? ⟨b, 0, none⟩ = some (.int .i64 s.tag) → u.cell? ⟨b, 1, none⟩ = some (.slice v.pi n v.ci) → Below u.heap.size u u3 → u3.cell? ⟨b, 0, none⟩ = some (.int .i64 s.tag) ∧ u3.cell? ⟨b, 1, none⟩ = some (.slice v.pi n v.ci)) := fun u u3 hb c0 c1 k => ⟨(k.cell (p := ⟨b, 0, none⟩) hb).trans c0, (k.cell (p := ⟨b, 1, none⟩) hb).trans c1⟩
  go_upto_region 1 with fail
  obtain ⟨w1, hw1⟩ : ∃ w1, w1 = w.alloc (.cells #[.int .i64 0, .slice none 0 0] 26) := ⟨_, rfl⟩
  have g0 : w1.cell? ⟨b, 0, none⟩ = some (.int .i64 s.tag) := by rw [hw1]; exact (World.cell?_alloc_old _ _ _ (Nat.ne_of_lt hb)).trans h0
  have g1 : w1.cell? ⟨b, 1, none⟩ = some (.slice v.pi n v.ci) := by rw [hw1]; exact (World.cell?_alloc_old _ _ _ (Nat.ne_of_lt hb)).trans h1
  have HR1 : Hid (w1.heap[w.heap.size]? = some (.cells #[.int .i64 0, .slice none 0 0] 26 (0, 0)) ∧ w1.heap.size = w.heap.size + 1) := ⟨by rw [hw1]; exact heap_alloc_new _ _, by rw [hw1]; simp⟩
  rw [← hw1] at HA ⊢
  clear hw1
  have gb : b < w1.heap.size := HA.out.2
  have gn := Nat.ne_of_lt gb
  have gn' := gn.symm
  go_cut [4] (fun x wc => ∃ q p c, x = .pointer (some ⟨q, 0, none⟩) ∧ Hid (PrC w wc b (fpB b v) s w.heap.size q p c n (s.code.map fixI)))
  case first =>
    have HG1 : Hid (Below w.heap.size w (w1.drew.alloc (.cells #[.int .i64 0, .slice none 0 0] 26))) := HA.out.1.alloc (by show _ ≤ w1.heap.size; rw [HR1.out.2]; omega) _
    go_region_held (fun u => u.cell? ⟨b, 0, none⟩ = some (.int .i64 s.tag) ∧ u.cell? ⟨b, 1, none⟩ = some (.slice v.pi n v.ci)) (go_keep) (first
      | (go_at_call 108; refine (HCL.out (w1.drew.alloc (.cells #[.int .i64 0, .slice none 0 0] 26)) HG1.out).mono ?_; rintro e u3 ⟨p', c', rfl, q⟩; obtain ⟨y0, y1⟩ := HCE.out (w1.drew.alloc (.cells #[.int .i64 0, .slice none 0 0] 26)) u3 (by simp; omega) ((World.cell?_alloc_old w1.drew _ _ (Nat.ne_of_lt gb)).trans g0) ((World.cell?_alloc_old w1.drew _ _ (Nat.ne_of_lt gb)).trans g1) q.out.2.2; have z := (q.out.2.2.block w1.heap.size (by simp)).trans (heap_alloc_new w1.drew _); obtain ⟨z0, z1, zl⟩ := cells2_of z; have zf0 := frozen_of_row _ _ 0 _ _ z; have zf1 := frozen_of_row _ _ 1 _ _ z; have KB := Lib.hid (And.intro q.out z); clear z q)
      | (go_at_call 108; refine (HCL.out w1.drew HA.out.1).mono ?_; rintro e u3 ⟨p', c', rfl, q⟩; obtain ⟨y0, y1⟩ := HCE.out w1.drew u3 gb g0 g1 q.out.2.2; have yb : b < u3.heap.size := Nat.lt_of_lt_of_le gb q.out.2.2.size; have yn := Nat.ne_of_lt yb; have yn' := yn.symm; have KA := Lib.hid q.out; clear q))
    all_goals go_wp2_with fail
    all_goals go_meet
    · refine ⟨_, p', c', rfl, ?_⟩
      have k := bl1 u3 (.cells #[.int .i64 s.tag, .slice p' n c'] 26)
      have hAS := HA.out.1.size
      have e3 : w1.heap.size ≤ u3.heap.size := KA.out.2.2.size
      have b3 : Below w.heap.size w u3 := HA.out.1.trans (KA.out.2.2.mono hAS)
      exact PrC.mk (b3.trans (k.mono b3.size)) (HB.out.on (b3.trans (k.mono b3.size))) (KA.out.1.keep (kept_below k KA.out.1.blw)) (KA.out.2.1.mono hAS) ((k.block _ (by have := HR1.out.2; omega)).trans ((KA.out.2.2.block _ (by show _ < w1.heap.size; have := HR1.out.2; omega)).trans HR1.out.1)) (heap_alloc_new _ _) (by have := HR1.out.2; omega) (Nat.le_refl _) b3.size
    · refine ⟨_, p', c', rfl, ?_⟩
      have t4 : Turn [w1.heap.size] [w1.heap.size] u3 ((u3.setCell ⟨w1.heap.size, 0, none⟩ (.int .i64 s.tag)).setCell ⟨w1.heap.size, 1, none⟩ (.slice p' n c')) := (turn_set w1.heap.size 0 _ u3).trans (turn_set w1.heap.size 1 _ _)
      have hAS := HA.out.1.size
      have hBS := HG1.out.size
      have e3 : w1.heap.size + 1 ≤ u3.heap.size := by have := KB.out.1.2.2.size; simp at this; exact this
      have b3 : Below w.heap.size w u3 := HG1.out.trans (KB.out.1.2.2.mono hBS)
      have b4 : Below w.heap.size w ((u3.setCell ⟨w1.heap.size, 0, none⟩ (.int .i64 s.tag)).setCell ⟨w1.heap.size, 1, none⟩ (.slice p' n c')) := b3.trans (t4.below (fun k hk => by simp at hk; have := HR1.out.2; omega) b3.size)
      have e1 : ((w1.drew.alloc (.cells #[.int .i64 0, .slice none 0 0] 26)).heap[w.heap.size]? = some (.cells #[.int .i64 0, .slice none 0 0] 26 (0, 0))) := (Below.heap_alloc _ _ _ (by show _ < w1.heap.size; have := HR1.out.2; omega)).trans HR1.out.1
      refine PrC.mk b4 (HB.out.on b4) (KB.out.1.1.keep (t4.kept (fun k hk z => ?_) KB.out.1.1.blw)) (KB.out.1.2.1.mono hBS) ((t4.block _ (by have := HR1.out.2; omega) (by simp; have := HR1.out.2; omega)).trans ((KB.out.1.2.2.block _ (by simp; have := HR1.out.2; omega)).trans e1)) ?_ (by have := HR1.out.2; omega) (Nat.le_refl _) (by have := HR1.out.2; omega)
      · have := KB.out.1.2.1 k hk
        simp at this z
        omega
      · exact (heap_setCell_same _ _ 1 _ _ _ (heap_setCell_same _ _ 0 _ _ _ KB.out.2)).trans rfl
  case rest =>
    obtain ⟨q, p, c, rfl, HK⟩ := hcut
    clear HA HCE HR1 HCL g0 g1 gb gn gn' h0 h1
    have HC2 : Hid (∀ u cl, PrC w u b (fpB b v) s w.heap.size q p c n cl → (u.cell? ⟨q, 0, none⟩ = some (.int .i64 s.tag) ∧ u.cell? ⟨q, 1, none⟩ = some (.slice p n c) ∧ q < u.heap.size) ∧ u.cell? ⟨w.heap.size, 0, none⟩ = some (.int .i64 0) ∧ u.cell? ⟨w.heap.size, 1, none⟩ = some (.slice none 0 0) ∧ w.heap.size < u.heap.size ∧ (∀ j, u.frozen? ⟨w.heap.size, j, none⟩ = false) ∧ w.heap.size ≠ q ∧ q ≠ w.heap.size) := fun u cl k => ⟨cells2_of k.box, (cells2_of k.res).1, (cells2_of k.res).2.1, (cells2_of k.res).2.2, fun j => frozen_of_row _ _ _ _ _ k.res, k.ne, k.ne.symm⟩
    have HEND : Hid (∀ u (cl : List Ins) t x y, PrC w u b (fpB b v) s w.heap.size q p c n cl → Below w.heap.size w ((u.setCell ⟨w.heap.size, 0, none⟩ t).setCell ⟨w.heap.size, 1, none⟩ x) ∧ ((u.setCell ⟨w.heap.size, 0, none⟩ t).setCell ⟨w.heap.size, 1, none⟩ x).heap[w.heap.size]? = some (.cells #[t, x] 26 (0, 0)) ∧ (y = cl → RowW 86 3 ((u.setCell ⟨w.heap.size, 0, none⟩ t).setCell ⟨w.heap.size, 1, none⟩ x) p c n (codC y))) := fun u cl t x y k => by
      have t4 := (turn_set w.heap.size 0 t u).trans (turn_set w.heap.size 1 x _)
      refine ⟨k.bel.trans (t4.below (fun i hi => by simp at hi; omega) k.bel.size), (heap_setCell_same _ _ 1 _ _ _ (heap_setCell_same _ _ 0 _ _ _ k.res)).trans rfl, ?_⟩
      rintro rfl
      refine k.row.keep (t4.kept (fun i hi z => ?_) k.row.blw)
      obtain ⟨arr, e⟩ := k.row.blk hi
      simp at z
      subst z
      exact ne_ty e k.res (by decide) rfl
    obtain ⟨⟨c0, c1, cq⟩, r0, r1, lr, fr, ne1, ne2⟩ := HC2.out _ _ HK.out
    have fr0 := fr 0
    have fr1 := fr 1
    clear fr
    cases hm : okM s.many s.marks
    · have HE : Hid (s.ans = 190) := by
        show s.ans = 190
        unfold Bs.ans Bs.ok
        rw [hm]
        rfl
      rw [hm] at HMK
      clear hm
      go_wp2_with (go_at_call 148; refine (HMK.out _ HK.out.bld).mono ?_; rintro e u2 ⟨rfl, hb2⟩; have K2 := Lib.hid (HK.out.on hb2); obtain ⟨⟨c0, c1, cq⟩, r0, r1, lr, fr, ne1, ne2⟩ := HC2.out _ _ K2.out; have fr0 := fr 0; have fr1 := fr 1; clear fr hb2)
      exact prog_back rfl w.heap.size 0 none 0 0 190 rfl rfl (HEND.out _ _ _ _ [] K2.out).2.1 rfl ⟨0, none, 0, 0, by rw [HE.out], (HEND.out _ _ _ _ [] K2.out).1, fun k hk => by simp [fpR] at hk, .inr ⟨by rw [HE.out]; decide, rfl, rfl, rfl, rfl⟩⟩
    · have HFL : Hid (∀ u, PrC w u b (fpB b v) s w.heap.size q p c n (s.code.map fixI) → Calls Tryz.prog 149 #[.pointer (some ⟨b, 0, none⟩), .slice p n c] u fun e w' => e = .returned (.bool (s.lat.all fun t => hasM s.marks t.1)) ∧ Hid (∃ cl, ((s.lat.all fun t => hasM s.marks t.1) = true → cl = s.filled.map fixI) ∧ PrC w w' b (fpB b v) s w.heap.size q p c n cl)) := fun u k => by
        refine (fillIn_any k.bld HN.out (by rw [← HN.out]; exact HL.out) k.row (fun x hx z => absurd (HBW.out x hx) (Nat.not_lt.2 (k.abv x z)))).mono ?_
        rintro e w' ⟨rfl, z⟩
        obtain ⟨cl, _, z2, z3, z4⟩ := z.out
        exact ⟨rfl, cl, z3, k.fill HBW.out z4 z2⟩
      have HALL : Hid ((s.lat.all fun t => hasM s.marks t.1) = s.ok) := by
        show _ = s.ok
        unfold Bs.ok
        rw [hm, Bool.true_and, Bool.eq_iff_iff, all_range, List.all_eq_true]
        exact (ok_lat ok).symm
      rw [HALL.out] at HFL
      rw [hm] at HMK
      clear hm HALL
      cases hk : s.ok
      · have HE : Hid (s.ans = 190) := by
          show s.ans = 190
          unfold Bs.ans
          rw [hk]
          rfl
        rw [hk] at HFL
        clear hk
        go_wp2_with (first
          | (go_at_call 148; refine (HMK.out _ HK.out.bld).mono ?_; rintro e u2 ⟨rfl, hb2⟩; have K2 := Lib.hid (HK.out.on hb2); obtain ⟨⟨c0, c1, cq⟩, r0, r1, lr, fr, ne1, ne2⟩ := HC2.out _ _ K2.out; have fr0 := fr 0; have fr1 := fr 1; clear fr hb2 HMK)
          | (go_at_call 149; refine (HFL.out _ K2.out).mono ?_; rintro e u3 ⟨rfl, z⟩; obtain ⟨cl, _, K3⟩ := z.out; have K3 := Lib.hid K3; obtain ⟨⟨c0, c1, cq⟩, r0, r1, lr, fr, ne1, ne2⟩ := HC2.out _ _ K3.out; have fr0 := fr 0; have fr1 := fr 1; clear fr z HFL))
        exact prog_back rfl w.heap.size 0 none 0 0 190 rfl rfl (HEND.out _ _ _ _ [] K3.out).2.1 rfl ⟨0, none, 0, 0, by rw [HE.out], (HEND.out _ _ _ _ [] K3.out).1, fun k hk => by simp [fpR] at hk, .inr ⟨by rw [HE.out]; decide, rfl, rfl, rfl, rfl⟩⟩
      · have HE : Hid (s.ans = checkE s.tag s.filled) := by
          show s.ans = _
          unfold Bs.ans
          rw [hk]
          rfl
        have HCK : Hid (∀ u, PrC w u b (fpB b v) s w.heap.size q p c n (s.filled.map fixI) → Calls Tryz.prog 15 #[.agg #[.int .i64 s.tag, .slice p n c]] u fun e w' => e = .returned (.int .i64 (checkE s.tag s.filled)) ∧ Below u.heap.size u w') := fun u k => by
          have hln : (s.filled.map fixI).length = n := by rw [List.length_map, filled_len]; exact HN.out
          have := check_any s.tag c (HT.out.on k.bel) (RowW.code hln k.row) (by rw [hln, ← HN.out]; have := HL.out; unfold lim at this; omega)
          rw [hln, checkE_fix] at this
          exact this
        rw [hk] at HFL
        clear hk
        rcases checkE_ways s.tag s.filled with h5 | h5
        · rw [h5] at HE HCK
          clear h5
          go_wp2_with (first
            | (go_at_call 148; refine (HMK.out _ HK.out.bld).mono ?_; rintro e u2 ⟨rfl, hb2⟩; have K2 := Lib.hid (HK.out.on hb2); obtain ⟨⟨c0, c1, cq⟩, r0, r1, lr, fr, ne1, ne2⟩ := HC2.out _ _ K2.out; have fr0 := fr 0; have fr1 := fr 1; clear fr hb2 HMK)
            | (go_at_call 149; refine (HFL.out _ K2.out).mono ?_; rintro e u3 ⟨rfl, z⟩; obtain ⟨cl, zz, K3⟩ := z.out; obtain rfl := zz (by trivial); have K3 := Lib.hid K3; obtain ⟨⟨c0, c1, cq⟩, r0, r1, lr, fr, ne1, ne2⟩ := HC2.out _ _ K3.out; have fr0 := fr 0; have fr1 := fr 1; clear fr z HFL)
            | (go_at_call 15; refine (HCK.out _ K3.out).mono ?_; rintro e u4 ⟨rfl, hb4⟩; have K4 := Lib.hid (K3.out.on hb4); obtain ⟨⟨c0, c1, cq⟩, r0, r1, lr, fr, ne1, ne2⟩ := HC2.out _ _ K4.out; have fr0 := fr 0; have fr1 := fr 1; clear fr hb4 HCK))
          exact prog_back rfl w.heap.size s.tag p n c 0 rfl rfl (HEND.out _ _ _ _ [] K4.out).2.1 rfl ⟨s.tag, p, n, c, by rw [HE.out], (HEND.out _ _ _ _ [] K4.out).1, K4.out.abv, .inl ⟨HE.out, rfl, HN.out.symm, (HEND.out _ _ _ _ _ K4.out).2.2 rfl⟩⟩
        · rw [h5] at HE HCK
          clear h5
          go_wp2_with (first
            | (go_at_call 148; refine (HMK.out _ HK.out.bld).mono ?_; rintro e u2 ⟨rfl, hb2⟩; have K2 := Lib.hid (HK.out.on hb2); obtain ⟨⟨c0, c1, cq⟩, r0, r1, lr, fr, ne1, ne2⟩ := HC2.out _ _ K2.out; have fr0 := fr 0; have fr1 := fr 1; clear fr hb2 HMK)
            | (go_at_call 149; refine (HFL.out _ K2.out).mono ?_; rintro e u3 ⟨rfl, z⟩; obtain ⟨cl, zz, K3⟩ := z.out; obtain rfl := zz (by trivial); have K3 := Lib.hid K3; obtain ⟨⟨c0, c1, cq⟩, r0, r1, lr, fr, ne1, ne2⟩ := HC2.out _ _ K3.out; have fr0 := fr 0; have fr1 := fr 1; clear fr z HFL)
            | (go_at_call 15; refine (HCK.out _ K3.out).mono ?_; rintro e u4 ⟨rfl, hb4⟩; have K4 := Lib.hid (K3.out.on hb4); obtain ⟨⟨c0, c1, cq⟩, r0, r1, lr, fr, ne1, ne2⟩ := HC2.out _ _ K4.out; have fr0 := fr 0; have fr1 := fr 1; clear fr hb4 HCK))
          exact prog_back rfl w.heap.size 0 none 0 0 50 rfl rfl (HEND.out _ _ _ _ [] K4.out).2.1 rfl ⟨0, none, 0, 0, by rw [HE.out], (HEND.out _ _ _ _ [] K4.out).1, fun k hk => by simp [fpR] at hk, .inr ⟨by rw [HE.out]; decide, rfl, rfl, rfl, rfl⟩⟩
end
end Go.Proofs.YtpboiggakehpoaaGreatDoor.As
namespace Go.Proofs.YtpboiggakehpoaaGreatDoor.Tr
open Go.ChangeShapes Go.WideShapes Go.ChangeAt Go.RowKit Num Go.Maps As
open Go.ChangeMaps Go.MapKept
attribute [local go_sem] run_store_float frombits_run bits_run
structure O where
  kind : Int
  code : Int
  n : Int
def opC (l : List O) : List Value := l.flatMap fun o => [.int .i64 o.kind, .int .i64 o.code, .int .i64 o.n]
theorem opC_app (a b : List O) : opC (a ++ b) = opC a ++ opC b := by unfold opC; rw [List.flatMap_append]
abbrev OpsW (w : World) (p : Option Addr) (c n : Nat) (l : List O) : Prop := RowW 153 3 w p c n (opC l)
theorem opInfo : (Tryz.prog.info? 153).map (fun i => (i.zero, i.size, i.bytes)) = some (some (.agg #[.int .i64 0, .int .i64 0, .int .i64 0]), 3, 24) := by kernel_rfl
section
variable {E : TypeId} {sz : Nat} {w w' : World} {p : Option Addr} {c n : Nat} {xs : List Value}
theorem RowW.appN (h : RowW E sz w p c n xs) {t : TypeId} {z : Value} {bytes : Nat} (ht : Tryz.prog.underlying t = some (.slice E)) (hI : (Tryz.prog.info? E).map (fun i => (i.zero, i.size, i.bytes)) = some (some z, sz, bytes)) (hzs : z.cells.size = sz) (hsz : 0 < sz)
    {gx k cx : Nat} {ys : List Value} (hx : RowW E sz w (some ⟨gx, 0, none⟩) cx k ys) (hk : 0 < k) (h1 : ∀ u ∈ ys, u.oneCell' = true) (h63 : n + k ≤ maxLen) (hb : (n + k) * bytes ≤ 140737488355328) (ty : TypeId) :
    ∃ v w', (Builtin.append_ #[t, t] ty #[.slice p n c, .slice (some ⟨gx, 0, none⟩) k cx]).run Tryz.prog w = .ok v w' ∧ ∃ g c', v = .slice (some ⟨g, 0, none⟩) (n + k) c' ∧ RowW E sz w' (some ⟨g, 0, none⟩) c' (n + k) (xs ++ ys) ∧ Turn (fpR p) [g] w w' := by
  obtain ⟨i, hi, hz0, hz1, hz2⟩ := info_parts hI
  obtain ⟨g0, e0, _, _, _, cg, _⟩ := hx.at hk
  cases e0
  obtain ⟨v, w', h1, h2, h3, h4, h5⟩ := run_append_own_at (P := Tryz.prog) (w := w) 0 t ty E i z sz bytes ht hi hz0 hz1 hz2 hzs hsz (.slice p n c) n xs h.own ⟨gx, 0, none⟩ k cx ys hx.len (fun j u hu => by
    rw [Go.WideShapes.add_plain, Nat.zero_add]
    have hj : j < k * sz := by
      rw [← hx.len]
      exact (List.getElem?_eq_some_iff.1 hu).1
    exact (cg j hj).trans hu) h1 h63 hb (Nat.zero_le _)
  rcases h2.2 with ⟨_, q⟩ | ⟨g, cap, cur, hv, hrest⟩
  · omega
  · refine ⟨v, w', h1, g, cap, hv, ⟨by rw [hv] at h2; exact h2⟩, ⟨h3.os, h3.tape, h3.output, h3.size, fun k hk hn => h3.block k hk fun q => hn (own_fpR.2 q.symm), fun k hk => ?_⟩⟩
    obtain rfl : k = g := by simpa using hk
    rcases h5 with q | q
    · exact .inl (own_fpR.2 (by rw [← q, hv]; rfl))
    · right
      rw [hv] at q
      have := Option.some.inj q
      show w.heap.size ≤ k
      exact Nat.le_of_eq this.symm
end
structure Parts (w : World) (b : Nat) (Ls : List (List O)) : Prop where
  lt : b < w.heap.size
  at_ : ∀ i, i < Ls.length → ∃ g c, w.cell? ⟨b, i, none⟩ = some (.slice (some ⟨g, 0, none⟩) (Ls.getD i []).length c) ∧ 0 < (Ls.getD i []).length ∧ OpsW w (some ⟨g, 0, none⟩) c (Ls.getD i []).length (Ls.getD i [])
theorem Parts.on {w w' : World} {b : Nat} {Ls : List (List O)} (h : Parts w b Ls) (k : Below w.heap.size w w') : Parts w' b Ls := by
  refine ⟨Nat.lt_of_lt_of_le h.lt k.size, fun i hi => ?_⟩
  obtain ⟨g, c, h1, h2, h3⟩ := h.at_ i hi
  exact ⟨g, c, (World.cell?_of_block (a := ⟨b, i, none⟩) (k.block b h.lt)).trans h1, h2, h3.keep (kept_below k h3.blw)⟩
def sumL (Ls : List (List O)) : Nat := Ls.flatten.length
theorem sumL_take {Ls : List (List O)} {i : Nat} (h : i < Ls.length) : sumL (Ls.take (i + 1)) = sumL (Ls.take i) + (Ls.getD i []).length ∧ (Ls.take (i + 1)).flatten = (Ls.take i).flatten ++ Ls.getD i [] := by
  have e : Ls.getD i [] = Ls[i] := by simp [List.getD_eq_getElem?_getD, h]
  have e2 : (Ls.take (i + 1)).flatten = (Ls.take i).flatten ++ Ls.getD i [] := by
    rw [List.take_succ_eq_append_getElem h, e, List.flatten_append, List.flatten_singleton]
  exact ⟨by unfold sumL; rw [e2, List.length_append], e2⟩
theorem sumL_le (Ls : List (List O)) (i : Nat) : sumL (Ls.take i) ≤ sumL Ls := by
  unfold sumL
  have : Ls.flatten = (Ls.take i).flatten ++ (Ls.drop i).flatten := by rw [← List.flatten_append, List.take_append_drop]
  rw [this, List.length_append]
  omega
set_option maxRecDepth 100000 in
set_option maxHeartbeats 4000000 in
theorem grow_any (n : Nat) (h0 : 0 < n) (hn : n ≤ 4096) (w : World) : Calls Tryz.prog 160 #[.slice none 0 0, .int .i64 n] w fun e w' => ∃ g c, e = .returned (.slice (some ⟨g, 0, none⟩) 0 c) ∧ Hid (OpsW w' (some ⟨g, 0, none⟩) c 0 [] ∧ w.heap.size ≤ g ∧ Below w.heap.size w w') := by
  obtain ⟨i, hi, hz0, hz1, hz2⟩ := info_parts opInfo
  have HA : Hid (∀ ty, ∃ v w', (Builtin.append_ #[111, 3] ty #[.slice none 0 0, .int .i64 n]).run Tryz.prog w = .ok v w' ∧ ∃ g c : Nat, v = .slice (some ⟨g, 0, none⟩) n c ∧ 0 ≤ (c : Int) ∧ Hid (OpsW w' (some ⟨g, 0, none⟩) c 0 [] ∧ w.heap.size ≤ g ∧ Below w.heap.size w w')) := fun ty => by
    have hge := grownCap_ge w n 0 153
    have hle := grownCap_le_maxLen w n 0 153 (by unfold maxLen; omega)
    have hrun := Lib.run_append_nil_zeros w 111 3 ty 153 i (.agg #[.int .i64 0, .int .i64 0, .int .i64 0]) .i64 .i64 Tryz.underlying111 Tryz.underlying3 hi hz0 n h0 (by rw [hz1]; decide) (by omega) (by rw [hz2]; omega)
    have e3 : (Value.agg #[.int .i64 0, .int .i64 0, .int .i64 0] : Value).cells.size = 3 := by kernel_rfl
    have hs : (Builtin.zeroCells (Value.agg #[.int .i64 0, .int .i64 0, .int .i64 0] : Value).cells n ++ Builtin.zeroCells (Value.agg #[.int .i64 0, .int .i64 0, .int .i64 0] : Value).cells (grownCap w n 0 153 - n)).size = grownCap w n 0 153 * 3 := by
      rw [Array.size_append, size_zeroCells, size_zeroCells, e3]
      omega
    clear e3 hi hz0 hz1 hz2
    generalize Builtin.zeroCells (Value.agg #[.int .i64 0, .int .i64 0, .int .i64 0] : Value).cells n ++ Builtin.zeroCells (Value.agg #[.int .i64 0, .int .i64 0, .int .i64 0] : Value).cells (grownCap w n 0 153 - n) = arr at hrun hs
    generalize grownCap w n 0 153 = c at hrun hs hge hle
    have hR : OpsW (w.drew.alloc (.cells arr 153)) (some ⟨w.heap.size, 0, none⟩) c 0 [] := ⟨⟨by simp [opC], .inr ⟨w.heap.size, c, arr, rfl, Nat.zero_le _, heap_alloc_new w.drew _, Nat.zero_le _, hle, hs, by simp [opC]⟩⟩⟩
    exact ⟨_, _, hrun, w.heap.size, c, rfl, by omega, hR, Nat.le_refl _, ((Same.drew w).below _).trans (bl1 w.drew _)⟩
  clear hi hz0 hz1 hz2
  have hn1 : ¬ (n : Int) < 0 := by omega
  have hn2 : 0 < (n : Int) := by omega
  have hwr : wrap64 (n : Int) = n := by unfold wrap64; omega
  clear h0 hn
  have HA2 := HA
  rw [← hwr] at HA2
  go_enter Tryz.func160, Tryz.ntmps160
  go_wp2_with (at_builtin; first | (refine wpList_append_ex rfl _ _ _ _ rfl _ _ rfl rfl (by exact HA.out _) ?_; rintro r w3 ⟨g, c, rfl, hc0, hR⟩; clear HA) | (refine wpList_append_ex rfl _ _ _ _ rfl _ _ rfl rfl (by exact HA2.out _) ?_; rintro r w3 ⟨g, c, rfl, hc0, hR⟩; clear HA))
  go_ret
  exact ⟨g, c, rfl, hR.out⟩
theorem opC_one (l : List O) : ∀ u ∈ opC l, u.oneCell' = true := by
  intro u hu
  obtain ⟨o, _, h⟩ := List.mem_flatMap.1 hu
  simp only [List.mem_cons, List.not_mem_nil, or_false] at h
  rcases h with rfl | rfl | rfl <;> rfl
set_option maxHeartbeats 4000000 in
set_option maxRecDepth 100000 in
theorem concat_any {w : World} {b k cc : Nat} {Ls : List (List O)} (h : Parts w b Ls) (hk : Ls.length = k) (h0 : 0 < sumL Ls) (hs : sumL Ls ≤ 4096) (hk2 : k ≤ 4096) : Calls Tryz.prog 143 #[.slice (some ⟨b, 0, none⟩) k cc] w fun e w' => ∃ g n c, e = .returned (.slice (some ⟨g, 0, none⟩) n c) ∧ Hid (n = sumL Ls ∧ OpsW w' (some ⟨g, 0, none⟩) c n Ls.flatten ∧ Below w.heap.size w w' ∧ w.heap.size ≤ g) := by
  have HP := Lib.hid h
  have HK := Lib.hid hk
  have HS := Lib.hid hs
  have hbl := h.lt
  obtain ⟨N, hN⟩ : ∃ N, sumL Ls = N := ⟨_, rfl⟩
  have HN := Lib.hid hN
  rw [hN] at hs h0
  have HG := Lib.hid (grow_any N h0 hs w)
  have hN63 : (N : Int) ≤ 4096 := by omega
  have hN0 : 0 < (N : Int) := by omega
  clear h hk hs h0 hN
  go_enter Tryz.func143, Tryz.ntmps143
  go_wp2
  go_loopw [3, 5, 11] (fun vs _ vi wr => ∃ i s : Nat, vi = .int .i64 i ∧ i ≤ k ∧ vs = .int .i64 s ∧ w = wr ∧ Hid (s = sumL (Ls.take i))) (fun _ _ vi _ => k - (intOf vi).toNat)
  case atStart => exact ⟨0, 0, rfl, Nat.zero_le _, rfl, rfl, rfl⟩
  case round =>
    obtain ⟨i, s, rfl, hi, rfl, rfl, HI⟩ := hrel
    by_cases hlt : i < k
    · have hltI : (i : Int) < (k : Int) := by omega
      have hlt' : i < Ls.length := by rw [HK.out]; exact hlt
      obtain ⟨g, c, e1, e2, e3⟩ := HP.out.at_ i hlt'
      obtain ⟨t1, t2⟩ := sumL_take hlt'
      have t3 := sumL_le Ls (i + 1)
      obtain ⟨n, hn⟩ : ∃ n, (Ls.getD i []).length = n := ⟨_, rfl⟩
      rw [hn] at e1 t1
      have hsum : s + n ≤ 4096 := by rw [HI.out, ← t1]; exact Nat.le_trans t3 HS.out
      have HT : Hid (s + n = sumL (Ls.take (i + 1))) := by rw [HI.out]; exact t1.symm
      have hadd : wrap64 ((s : Int) + (n : Int)) = ((s + n : Nat) : Int) := by clear HG HP HI e2 e3 t1 t2 t3 hn hlt' HT HN HK HS; unfold wrap64; omega
      have hneg : ¬ ((s + n : Nat) : Int) < 0 := Int.not_lt.2 (Int.natCast_nonneg _)
      clear HG HP HI e2 e3 t1 t2 t3 hn hlt'
      go_wp2
      refine ⟨⟨i + 1, s + n, ?_, by omega, ?_, ?_, HT.out⟩, by simp [intOf]; omega⟩
      all_goals first | trivial | rfl | (congr 1)
    · have hltI : ¬ (i : Int) < (k : Int) := by omega
      obtain rfl : k = i := by omega
      obtain rfl : N = s := by rw [HI.out, ← HN.out, ← HK.out, List.take_length]
      clear HI
      go_wp2_with (go_at_call 160; refine HG.out.mono ?_; rintro e w1 ⟨g0, c0, rfl, hR⟩; have hw1 : b < w1.heap.size := Nat.lt_of_lt_of_le hbl hR.out.2.2.size; clear HG)
      go_loopw [6, 8, 27] (fun vs _ vi wr => ∃ i s g c : Nat, vi = .int .i64 i ∧ i ≤ k ∧ vs = .slice (some ⟨g, 0, none⟩) s c ∧ Hid (s = sumL (Ls.take i) ∧ OpsW wr (some ⟨g, 0, none⟩) c s (Ls.take i).flatten ∧ w.heap.size ≤ g ∧ Below w.heap.size w wr)) (fun _ _ vi _ => k - (intOf vi).toNat)
      case atStart => exact ⟨0, 0, g0, c0, rfl, Nat.zero_le _, rfl, rfl, hR.out.1, hR.out.2.1, hR.out.2.2⟩
      case round =>
        obtain ⟨i, s, g1, c1, rfl, hi2, rfl, HI⟩ := hrel
        by_cases hlt : i < k
        · have hltI2 : (i : Int) < (k : Int) := by omega
          have hlt' : i < Ls.length := by rw [HK.out]; exact hlt
          obtain ⟨g, c, e1, e2, e3⟩ := (HP.out.on HI.out.2.2.2).at_ i hlt'
          obtain ⟨t1, t2⟩ := sumL_take hlt'
          have t3 := sumL_le Ls (i + 1)
          obtain ⟨n, hn⟩ : ∃ n, (Ls.getD i []).length = n := ⟨_, rfl⟩
          rw [hn] at e1 e2 e3 t1
          have hsum : s + n ≤ 4096 := by rw [HI.out.1, ← t1]; exact Nat.le_trans t3 HS.out
          have HA : Hid (∀ ty, ∃ v w', (Builtin.append_ #[111, 111] ty #[.slice (some ⟨g1, 0, none⟩) s c1, .slice (some ⟨g, 0, none⟩) n c]).run Tryz.prog wr = .ok v w' ∧ ∃ g' n' c' : Nat, v = .slice (some ⟨g', 0, none⟩) n' c' ∧ Hid (n' = sumL (Ls.take (i + 1)) ∧ OpsW w' (some ⟨g', 0, none⟩) c' n' (Ls.take (i + 1)).flatten ∧ w.heap.size ≤ g' ∧ Below w.heap.size w w')) := fun ty => by
            obtain ⟨v, w', q1, g', c', q2, q3, q4⟩ := RowW.appN HI.out.2.1 Tryz.underlying111 opInfo (by kernel_rfl) (by decide) e3 e2 (opC_one _) (by unfold maxLen; omega) (by omega) ty
            have e5 : opC (Ls.take i).flatten ++ opC (Ls.getD i []) = opC (Ls.take (i + 1)).flatten := by rw [t2, opC_app]
            rw [e5] at q3
            have hbw := q4.own g' (by simp)
            exact ⟨v, w', q1, g', s + n, c', q2, by rw [HI.out.1]; exact t1.symm, q3, by have := HI.out.2.2.1; have := HI.out.2.2.2.size; rcases hbw with q | q; simp [fpR] at q; omega; omega, HI.out.2.2.2.trans (q4.below (fun x hx => by simp [fpR] at hx; have := HI.out.2.2.1; omega) HI.out.2.2.2.size)⟩
          clear HP HI e2 e3 t1 t2 t3 hn hlt' hsum
          go_wp2_with (at_builtin; refine wpList_append_ex rfl _ _ _ _ rfl _ _ rfl rfl (by exact HA.out _) ?_; rintro r w3 ⟨g', n', c', rfl, k4⟩; clear HA)
          exact ⟨⟨i + 1, n', g', c', by first | rfl | (congr 1), by omega, rfl, k4.out⟩, by simp [intOf]; omega⟩
        · have hltI2 : ¬ (i : Int) < (k : Int) := by omega
          obtain rfl : k = i := by omega
          have HZ : Hid (s = sumL Ls ∧ OpsW wr (some ⟨g1, 0, none⟩) c1 s Ls.flatten ∧ Below w.heap.size w wr ∧ w.heap.size ≤ g1) := by
            obtain ⟨z1, z2, z3, z4⟩ := HI.out
            rw [← HK.out, List.take_length] at z1 z2
            exact ⟨z1, z2, z4, z3⟩
          clear HI HP
          go_wp2
          go_ret
          exact ⟨g1, s, c1, rfl, HZ.out⟩
end Go.Proofs.YtpboiggakehpoaaGreatDoor.Tr
namespace Go.Proofs.YtpboiggakehpoaaGreatDoor.Tr
open Go.ChangeShapes Go.WideShapes Go.ChangeAt Go.RowKit Num Go.Maps As
open Go.ChangeMaps Go.MapKept
attribute [local go_sem] run_store_float frombits_run bits_run
def Op1 (w : World) (g n c : Nat) (l : List O) : Prop := n = l.length ∧ 0 < n ∧ OpsW w (some ⟨g, 0, none⟩) c n l
theorem Op1.on {w w' : World} {g n c : Nat} {l : List O} (h : Op1 w g n c l) (k : Below w.heap.size w w') : Op1 w' g n c l := ⟨h.1, h.2.1, h.2.2.keep (kept_below k h.2.2.blw)⟩
def Gv (W : World) (l : List O) (e : Ending) (w' : World) : Prop := ∃ g n c, e = .returned (.slice (some ⟨g, 0, none⟩) n c) ∧ Hid (Op1 w' g n c l ∧ Below W.heap.size W w')
structure It where
  g : Nat
  n : Nat
  c : Nat
  l : List O
def It.v (t : It) : Value := .slice (some ⟨t.g, 0, none⟩) t.n t.c
structure Acc (W u : World) (L : List It) : Prop where
  bl : Below W.heap.size W u
  it : ∀ t ∈ L, Op1 u t.g t.n t.c t.l
theorem acc_nil {W u : World} (h : Below W.heap.size W u) : Acc W u [] := ⟨h, fun t ht => by cases ht⟩
theorem Acc.on {W u u' : World} {L : List It} (h : Acc W u L) (k : Below u.heap.size u u') : Acc W u' L := ⟨h.bl.trans (k.mono h.bl.size), fun t ht => (h.it t ht).on k⟩
theorem Acc.more {W u u' : World} {L : List It} {g n c : Nat} {l : List O} (h : Acc W u L) (k : Op1 u' g n c l ∧ Below u.heap.size u u') : Acc W u' (⟨g, n, c, l⟩ :: L) :=
  ⟨(h.on k.2).bl, fun t ht => by rcases List.mem_cons.1 ht with rfl | ht; exact k.1; exact (h.on k.2).it t ht⟩
theorem Acc.also {W u : World} {L : List It} {g n c : Nat} {l : List O} (h : Acc W u L) (k : Op1 u g n c l) : Acc W u (⟨g, n, c, l⟩ :: L) :=
  ⟨h.bl, fun t ht => by rcases List.mem_cons.1 ht with rfl | ht; exact k; exact h.it t ht⟩
theorem Acc.pop {W u : World} {L : List It} {i : It} (h : Acc W u (i :: L)) : Acc W u L := ⟨h.bl, fun t ht => h.it t (List.mem_cons_of_mem _ ht)⟩
theorem Acc.fst {W u : World} {L : List It} {g n c : Nat} {l : List O} (h : Acc W u (⟨g, n, c, l⟩ :: L)) : Op1 u g n c l := h.it _ (List.mem_cons_self ..)
theorem Acc.snd {W u : World} {L : List It} {i : It} {g n c : Nat} {l : List O} (h : Acc W u (i :: ⟨g, n, c, l⟩ :: L)) : Op1 u g n c l := h.pop.fst
theorem Acc.parts {W u : World} {L : List It} (h : Acc W u L) {vs : Array Value} (hv : (L.reverse.map It.v).toArray = vs) {T : TypeId} : Parts (u.alloc (.cells vs T)) u.heap.size (L.reverse.map It.l) := by
  subst hv
  refine ⟨by simp, fun i hi => ?_⟩
  rw [List.length_map] at hi
  have hm : L.reverse[i] ∈ L := List.mem_reverse.1 (List.getElem_mem hi)
  have h1 := (h.it _ hm).on (bl1 u (.cells (L.reverse.map It.v).toArray T))
  have e : (L.reverse.map It.l).getD i [] = L.reverse[i].l := by simp [List.getD_eq_getElem?_getD, List.length_reverse ▸ hi]
  rw [e, ← h1.1]
  refine ⟨L.reverse[i].g, L.reverse[i].c, ?_, h1.2.1, h1.2.2⟩
  rw [cell_of_row _ _ i _ _ _ (heap_alloc_new _ _)]
  rw [List.getElem?_toArray, List.getElem?_map, List.getElem?_eq_getElem hi]
  rfl
theorem join_new {w : World} {b k cc : Nat} {Ls : List (List O)} (h : Parts w b Ls) (hk : Ls.length = k) (h0 : 0 < sumL Ls) (hs : sumL Ls ≤ 4096) (hk2 : k ≤ 4096) : Calls Tryz.prog 124 #[.slice (some ⟨b, 0, none⟩) k cc] w fun e w' => ∃ g n c, e = .returned (.slice (some ⟨g, 0, none⟩) n c) ∧ Hid ((Op1 w' g n c Ls.flatten ∧ Below w.heap.size w w') ∧ w.heap.size ≤ g) := by
  have HC := Lib.hid (concat_any (cc := cc) h hk h0 hs hk2)
  have H0 : Hid (0 < sumL Ls) := h0
  clear h hk h0 hs hk2
  go_enter Tryz.func124, Tryz.ntmps124
  go_wp2_with (go_at_call 143; refine HC.out.mono ?_; rintro e u ⟨g, n, c, rfl, hR⟩; clear HC)
  go_ret
  exact ⟨g, n, c, rfl, ⟨⟨hR.out.1, by rw [hR.out.1]; exact H0.out, hR.out.2.1⟩, hR.out.2.2.1⟩, hR.out.2.2.2⟩
theorem join_parts {w : World} {b k cc : Nat} {Ls : List (List O)} (h : Parts w b Ls) (hk : Ls.length = k) (h0 : 0 < sumL Ls) (hs : sumL Ls ≤ 4096) (hk2 : k ≤ 4096) : Calls Tryz.prog 124 #[.slice (some ⟨b, 0, none⟩) k cc] w fun e w' => Gv w Ls.flatten e w' := by
  refine (join_new h hk h0 hs hk2).mono ?_
  rintro e w' ⟨g, n, c, rfl, hR⟩
  exact ⟨g, n, c, rfl, hR.out.1⟩
theorem join_acc {W u : World} {L : List It} {vs : Array Value} {T : TypeId} {k : Nat} (h : Acc W u L) (hv : (L.reverse.map It.v).toArray = vs) (hk : L.length = k) (h0 : 0 < sumL (L.reverse.map It.l)) (hs : sumL (L.reverse.map It.l) ≤ 4096) (hk2 : k ≤ 4096) : Calls Tryz.prog 124 #[.slice (some ⟨u.heap.size, 0, none⟩) k k] (u.alloc (.cells vs T)) fun e w' => Gv W (L.reverse.map It.l).flatten e w' := by
  refine (join_parts (h.parts hv) (by simpa using hk) h0 hs hk2).mono ?_
  rintro e w' ⟨g, n, c, rfl, hR⟩
  exact ⟨g, n, c, rfl, hR.out.1, h.bl.trans (((bl1 u _).trans (hR.out.2.mono (by simp))).mono h.bl.size)⟩
theorem op_new {w : World} {a b d : Int} : Op1 (w.alloc (.cells #[.int .i64 a, .int .i64 b, .int .i64 d] 153)) w.heap.size 1 1 [⟨a, b, d⟩] :=
  ⟨rfl, by decide, ⟨⟨rfl, .inr ⟨w.heap.size, 1, _, rfl, Nat.zero_le _, heap_alloc_new _ _, Nat.le_refl _, by decide, rfl, rfl⟩⟩⟩⟩
theorem Acc.take {W u : World} {L : List It} (h : Acc W u L) (k : Nat) : Acc W u (L.take k) := ⟨h.bl, fun t ht => h.it t (List.mem_of_mem_take ht)⟩
theorem Acc.drop {W u : World} {L : List It} (h : Acc W u L) (k : Nat) : Acc W u (L.drop k) := ⟨h.bl, fun t ht => h.it t (List.mem_of_mem_drop ht)⟩
theorem Acc.over {W u u' : World} {L : List It} {o : Obj} {g n c : Nat} {l : List O} (h : Acc W u L) (k : Op1 u' g n c l ∧ Below (u.alloc o).heap.size (u.alloc o) u') : Acc W u' (⟨g, n, c, l⟩ :: L) := (h.on (bl1 u o)).more k
section
variable {w : World} {B R : Int}
def oPush (n : Int) : List O := [⟨1, 0, n⟩]
theorem oPush_len (n : Int) : (oPush n).length = 1 := rfl
theorem g_push (n : Int) (w : World) : Calls Tryz.prog 77 #[.int .i64 n] w fun e w' => Gv w (oPush n) e w' := by
  go_enter Tryz.func77, Tryz.ntmps77
  go_wp2
  go_ret
  exact ⟨_, _, _, rfl, op_new, bl1 _ _⟩
def oTo (c : Int) (l : Int) : List O := [⟨2, c, l⟩]
theorem oTo_len (c : Int) (l : Int) : (oTo c l).length = 1 := rfl
theorem g_to (c : Int) (l : Int) (w : World) : Calls Tryz.prog 79 #[.int .i64 c, .int .i64 l] w fun e w' => Gv w (oTo c l) e w' := by
  go_enter Tryz.func79, Tryz.ntmps79
  go_wp2
  go_ret
  exact ⟨_, _, _, rfl, op_new, bl1 _ _⟩
def oMark (l : Int) : List O := [⟨3, 0, l⟩]
theorem oMark_len (l : Int) : (oMark l).length = 1 := rfl
theorem g_mark (l : Int) (w : World) : Calls Tryz.prog 68 #[.int .i64 l] w fun e w' => Gv w (oMark l) e w' := by
  go_enter Tryz.func68, Tryz.ntmps68
  go_wp2
  go_ret
  exact ⟨_, _, _, rfl, op_new, bl1 _ _⟩
def oDo (c : Int) (n : Int) : List O := [⟨0, c, n⟩]
theorem oDo_len (c : Int) (n : Int) : (oDo c n).length = 1 := rfl
theorem g_do (c : Int) (n : Int) (w : World) : Calls Tryz.prog 80 #[.int .i64 c, .int .i64 n] w fun e w' => Gv w (oDo c n) e w' := by
  go_enter Tryz.func80, Tryz.ntmps80
  go_wp2
  go_ret
  exact ⟨_, _, _, rfl, op_new, bl1 _ _⟩
def oOne (n : Int) : List O := oDo (9) (n)
theorem oOne_len (n : Int) : (oOne n).length = 1 := rfl
set_option maxHeartbeats 1000000 in
set_option maxRecDepth 100000 in
theorem g_one (n : Int) (w : World) : Calls Tryz.prog 95 #[.int .i64 n] w fun e w' => Gv w (oOne n) e w' := by
  have A : Hid (Acc w w []) := acc_nil (Below.refl _ _)
  go_enter Tryz.func95, Tryz.ntmps95
  go_wp2_with (first
    | (go_at_call 80; refine (g_do _ _ _).mono ?_; rintro e u ⟨g, n, c, rfl, h⟩; replace A := Lib.hid (A.out.more h.out); clear h))
  go_ret
  exact ⟨g, n, c, rfl, A.out.fst, A.out.bl⟩
def oTwo (n : Int) : List O := oDo (10) (n)
theorem oTwo_len (n : Int) : (oTwo n).length = 1 := rfl
set_option maxHeartbeats 1000000 in
set_option maxRecDepth 100000 in
theorem g_two (n : Int) (w : World) : Calls Tryz.prog 78 #[.int .i64 n] w fun e w' => Gv w (oTwo n) e w' := by
  have A : Hid (Acc w w []) := acc_nil (Below.refl _ _)
  go_enter Tryz.func78, Tryz.ntmps78
  go_wp2_with (first
    | (go_at_call 80; refine (g_do _ _ _).mono ?_; rintro e u ⟨g, n, c, rfl, h⟩; replace A := Lib.hid (A.out.more h.out); clear h))
  go_ret
  exact ⟨g, n, c, rfl, A.out.fst, A.out.bl⟩
def oArg (n : Int) : List O := oDo (6) (n)
theorem oArg_len (n : Int) : (oArg n).length = 1 := rfl
set_option maxHeartbeats 1000000 in
set_option maxRecDepth 100000 in
theorem g_arg (n : Int) (w : World) : Calls Tryz.prog 73 #[.int .i64 n] w fun e w' => Gv w (oArg n) e w' := by
  have A : Hid (Acc w w []) := acc_nil (Below.refl _ _)
  go_enter Tryz.func73, Tryz.ntmps73
  go_wp2_with (first
    | (go_at_call 80; refine (g_do _ _ _).mono ?_; rintro e u ⟨g, n, c, rfl, h⟩; replace A := Lib.hid (A.out.more h.out); clear h))
  go_ret
  exact ⟨g, n, c, rfl, A.out.fst, A.out.bl⟩
def oGet (l : Int) : List O := oDo (7) (l)
theorem oGet_len (l : Int) : (oGet l).length = 1 := rfl
set_option maxHeartbeats 1000000 in
set_option maxRecDepth 100000 in
theorem g_get (l : Int) (w : World) : Calls Tryz.prog 83 #[.int .i64 l] w fun e w' => Gv w (oGet l) e w' := by
  have A : Hid (Acc w w []) := acc_nil (Below.refl _ _)
  go_enter Tryz.func83, Tryz.ntmps83
  go_wp2_with (first
    | (go_at_call 80; refine (g_do _ _ _).mono ?_; rintro e u ⟨g, n, c, rfl, h⟩; replace A := Lib.hid (A.out.more h.out); clear h))
  go_ret
  exact ⟨g, n, c, rfl, A.out.fst, A.out.bl⟩
def oSet (l : Int) : List O := oDo (8) (l)
theorem oSet_len (l : Int) : (oSet l).length = 1 := rfl
set_option maxHeartbeats 1000000 in
set_option maxRecDepth 100000 in
theorem g_set (l : Int) (w : World) : Calls Tryz.prog 82 #[.int .i64 l] w fun e w' => Gv w (oSet l) e w' := by
  have A : Hid (Acc w w []) := acc_nil (Below.refl _ _)
  go_enter Tryz.func82, Tryz.ntmps82
  go_wp2_with (first
    | (go_at_call 80; refine (g_do _ _ _).mono ?_; rintro e u ⟨g, n, c, rfl, h⟩; replace A := Lib.hid (A.out.more h.out); clear h))
  go_ret
  exact ⟨g, n, c, rfl, A.out.fst, A.out.bl⟩
def oRead  : List O := oDo (16) (0)
theorem oRead_len  : (oRead).length = 1 := rfl
set_option maxHeartbeats 1000000 in
set_option maxRecDepth 100000 in
theorem g_read  (w : World) : Calls Tryz.prog 127 #[] w fun e w' => Gv w (oRead) e w' := by
  have A : Hid (Acc w w []) := acc_nil (Below.refl _ _)
  go_enter Tryz.func127, Tryz.ntmps127
  go_wp2_with (first
    | (go_at_call 80; refine (g_do _ _ _).mono ?_; rintro e u ⟨g, n, c, rfl, h⟩; replace A := Lib.hid (A.out.more h.out); clear h))
  go_ret
  exact ⟨g, n, c, rfl, A.out.fst, A.out.bl⟩
def oWrite  : List O := oDo (17) (0)
theorem oWrite_len  : (oWrite).length = 1 := rfl
set_option maxHeartbeats 1000000 in
set_option maxRecDepth 100000 in
theorem g_write  (w : World) : Calls Tryz.prog 85 #[] w fun e w' => Gv w (oWrite) e w' := by
  have A : Hid (Acc w w []) := acc_nil (Below.refl _ _)
  go_enter Tryz.func85, Tryz.ntmps85
  go_wp2_with (first
    | (go_at_call 80; refine (g_do _ _ _).mono ?_; rintro e u ⟨g, n, c, rfl, h⟩; replace A := Lib.hid (A.out.more h.out); clear h))
  go_ret
  exact ⟨g, n, c, rfl, A.out.fst, A.out.bl⟩
def oEmit  : List O := oDo (18) (0)
theorem oEmit_len  : (oEmit).length = 1 := rfl
set_option maxHeartbeats 1000000 in
set_option maxRecDepth 100000 in
theorem g_emit  (w : World) : Calls Tryz.prog 70 #[] w fun e w' => Gv w (oEmit) e w' := by
  have A : Hid (Acc w w []) := acc_nil (Below.refl _ _)
  go_enter Tryz.func70, Tryz.ntmps70
  go_wp2_with (first
    | (go_at_call 80; refine (g_do _ _ _).mono ?_; rintro e u ⟨g, n, c, rfl, h⟩; replace A := Lib.hid (A.out.more h.out); clear h))
  go_ret
  exact ⟨g, n, c, rfl, A.out.fst, A.out.bl⟩
def oHalt  : List O := oDo (20) (0)
theorem oHalt_len  : (oHalt).length = 1 := rfl
set_option maxHeartbeats 1000000 in
set_option maxRecDepth 100000 in
theorem g_halt  (w : World) : Calls Tryz.prog 71 #[] w fun e w' => Gv w (oHalt) e w' := by
  have A : Hid (Acc w w []) := acc_nil (Below.refl _ _)
  go_enter Tryz.func71, Tryz.ntmps71
  go_wp2_with (first
    | (go_at_call 80; refine (g_do _ _ _).mono ?_; rintro e u ⟨g, n, c, rfl, h⟩; replace A := Lib.hid (A.out.more h.out); clear h))
  go_ret
  exact ⟨g, n, c, rfl, A.out.fst, A.out.bl⟩
def oTell (n : Int) : List O := ([oPush (n), oEmit, oHalt]).flatten
theorem oTell_len (n : Int) : (oTell n).length = 3 := rfl
set_option maxHeartbeats 1000000 in
set_option maxRecDepth 100000 in
theorem g_tell (n : Int) (w : World) : Calls Tryz.prog 74 #[.int .i64 n] w fun e w' => Gv w (oTell n) e w' := by
  have A : Hid (Acc w w []) := acc_nil (Below.refl _ _)
  go_enter Tryz.func74, Tryz.ntmps74
  go_wp2_with (first
    | (go_at_call 124; refine (join_acc A.out rfl rfl (Nat.le_of_ble_eq_true rfl) (Nat.le_of_ble_eq_true rfl) (Nat.le_of_ble_eq_true rfl)).mono ?_; rintro e u ⟨g, n, c, rfl, hZ⟩; clear A)
    | (go_at_call 77; refine (g_push _ _).mono ?_; rintro e u ⟨g, n, c, rfl, h⟩; replace A := Lib.hid (A.out.more h.out); clear h)
    | (go_at_call 70; refine (g_emit _).mono ?_; rintro e u ⟨g, n, c, rfl, h⟩; replace A := Lib.hid (A.out.more h.out); clear h)
    | (go_at_call 71; refine (g_halt _).mono ?_; rintro e u ⟨g, n, c, rfl, h⟩; replace A := Lib.hid (A.out.more h.out); clear h))
  go_ret
  exact ⟨g, n, c, rfl, hZ.out.1, hZ.out.2⟩
def oCell (l : Int) (f : Int) : List O := ([oGet (l), oPush (f), oTwo (1)]).flatten
theorem oCell_len (l : Int) (f : Int) : (oCell l f).length = 3 := rfl
set_option maxHeartbeats 1000000 in
set_option maxRecDepth 100000 in
theorem g_cell (l : Int) (f : Int) (w : World) : Calls Tryz.prog 90 #[.int .i64 l, .int .i64 f] w fun e w' => Gv w (oCell l f) e w' := by
  have A : Hid (Acc w w []) := acc_nil (Below.refl _ _)
  go_enter Tryz.func90, Tryz.ntmps90
  go_wp2_with (first
    | (go_at_call 124; refine (join_acc A.out rfl rfl (Nat.le_of_ble_eq_true rfl) (Nat.le_of_ble_eq_true rfl) (Nat.le_of_ble_eq_true rfl)).mono ?_; rintro e u ⟨g, n, c, rfl, hZ⟩; clear A)
    | (go_at_call 83; refine (g_get _ _).mono ?_; rintro e u ⟨g, n, c, rfl, h⟩; replace A := Lib.hid (A.out.more h.out); clear h)
    | (go_at_call 77; refine (g_push _ _).mono ?_; rintro e u ⟨g, n, c, rfl, h⟩; replace A := Lib.hid (A.out.more h.out); clear h)
    | (go_at_call 78; refine (g_two _ _).mono ?_; rintro e u ⟨g, n, c, rfl, h⟩; replace A := Lib.hid (A.out.more h.out); clear h))
  go_ret
  exact ⟨g, n, c, rfl, hZ.out.1, hZ.out.2⟩
def oLoad (l : Int) (f : Int) : List O := ([oCell (l) (f), oRead]).flatten
theorem oLoad_len (l : Int) (f : Int) : (oLoad l f).length = 4 := rfl
set_option maxHeartbeats 1000000 in
set_option maxRecDepth 100000 in
theorem g_load (l : Int) (f : Int) (w : World) : Calls Tryz.prog 69 #[.int .i64 l, .int .i64 f] w fun e w' => Gv w (oLoad l f) e w' := by
  have A : Hid (Acc w w []) := acc_nil (Below.refl _ _)
  go_enter Tryz.func69, Tryz.ntmps69
  go_wp2_with (first
    | (go_at_call 124; refine (join_acc A.out rfl rfl (Nat.le_of_ble_eq_true rfl) (Nat.le_of_ble_eq_true rfl) (Nat.le_of_ble_eq_true rfl)).mono ?_; rintro e u ⟨g, n, c, rfl, hZ⟩; clear A)
    | (go_at_call 90; refine (g_cell _ _ _).mono ?_; rintro e u ⟨g, n, c, rfl, h⟩; replace A := Lib.hid (A.out.more h.out); clear h)
    | (go_at_call 127; refine (g_read _).mono ?_; rintro e u ⟨g, n, c, rfl, h⟩; replace A := Lib.hid (A.out.more h.out); clear h))
  go_ret
  exact ⟨g, n, c, rfl, hZ.out.1, hZ.out.2⟩
def oStore (l : Int) (f : Int) (Ls : List (List O)) : List O := ([(Ls).flatten, oCell (l) (f), oWrite]).flatten
theorem oStore_len (l : Int) (f : Int) (Ls : List (List O)) : (oStore l f Ls).length = sumL Ls + 4 := by simp [oStore, sumL, oWrite_len, oCell_len]; try omega
set_option maxHeartbeats 1000000 in
set_option maxRecDepth 100000 in
theorem g_store {b k cc : Nat} {Ls : List (List O)} (hp : Parts w b Ls) (hk : Ls.length = k) (h0 : 0 < sumL Ls) (h1 : sumL Ls ≤ 100) (h2 : k ≤ 4096) (l : Int) (f : Int) : Calls Tryz.prog 72 #[.int .i64 l, .int .i64 f, .slice (some ⟨b, 0, none⟩) k cc] w fun e w' => Gv w (oStore l f Ls) e w' := by
  have HP : Hid (Parts w b Ls) := hp
  have HK := Lib.hid hk
  have H0 := Lib.hid h0
  have H1 : Hid (sumL Ls ≤ 4096) := Nat.le_trans h1 (by decide)
  have H3 := Lib.hid h1
  have H2 := Lib.hid h2
  clear hp hk h0 h1 h2
  have A : Hid (Acc w w []) := acc_nil (Below.refl _ _)
  go_enter Tryz.func72, Tryz.ntmps72
  go_wp2_with (first
    | (go_at_call 124; refine (join_parts (HP.out.on A.out.bl) HK.out H0.out H1.out H2.out).mono ?_; rintro e u ⟨g, n, c, rfl, h⟩; replace A := Lib.hid (A.out.more h.out); have HJ := Lib.hid (And.intro H0.out H3.out); clear h HP HK H0 H1 H2 H3)
    | (go_at_call 124; refine (join_acc A.out rfl rfl (by have h7 := HJ.out.2; simp [sumL] at h7; simp [sumL, oWrite_len, oCell_len] <;> omega) (by have h7 := HJ.out.2; simp [sumL] at h7; simp [sumL, oWrite_len, oCell_len] <;> omega) (Nat.le_of_ble_eq_true rfl)).mono ?_; rintro e u ⟨g, n, c, rfl, hZ⟩; clear A)
    | (go_at_call 90; refine (g_cell _ _ _).mono ?_; rintro e u ⟨g, n, c, rfl, h⟩; replace A := Lib.hid (A.out.more h.out); clear h)
    | (go_at_call 85; refine (g_write _).mono ?_; rintro e u ⟨g, n, c, rfl, h⟩; replace A := Lib.hid (A.out.more h.out); clear h))
  go_ret
  exact ⟨g, n, c, rfl, hZ.out.1, hZ.out.2⟩
def oEmitPair (l : Int) : List O := ([oLoad (l) (0), oEmit, oLoad (l) (1), oEmit]).flatten
theorem oEmitPair_len (l : Int) : (oEmitPair l).length = 10 := rfl
set_option maxHeartbeats 1000000 in
set_option maxRecDepth 100000 in
theorem g_emitPair (l : Int) (w : World) : Calls Tryz.prog 97 #[.int .i64 l] w fun e w' => Gv w (oEmitPair l) e w' := by
  have A : Hid (Acc w w []) := acc_nil (Below.refl _ _)
  go_enter Tryz.func97, Tryz.ntmps97
  go_wp2_with (first
    | (go_at_call 124; refine (join_acc A.out rfl rfl (Nat.le_of_ble_eq_true rfl) (Nat.le_of_ble_eq_true rfl) (Nat.le_of_ble_eq_true rfl)).mono ?_; rintro e u ⟨g, n, c, rfl, hZ⟩; clear A)
    | (go_at_call 69; refine (g_load _ _ _).mono ?_; rintro e u ⟨g, n, c, rfl, h⟩; replace A := Lib.hid (A.out.more h.out); clear h)
    | (go_at_call 70; refine (g_emit _).mono ?_; rintro e u ⟨g, n, c, rfl, h⟩; replace A := Lib.hid (A.out.more h.out); clear h))
  go_ret
  exact ⟨g, n, c, rfl, hZ.out.1, hZ.out.2⟩
def oEmitKept  : List O := ([oGet (4), oTo (13) (9), oEmitPair (4), oMark (9), oHalt]).flatten
theorem oEmitKept_len  : (oEmitKept).length = 14 := rfl
set_option maxHeartbeats 1000000 in
set_option maxRecDepth 100000 in
theorem g_emitKept  (w : World) : Calls Tryz.prog 94 #[] w fun e w' => Gv w (oEmitKept) e w' := by
  have A : Hid (Acc w w []) := acc_nil (Below.refl _ _)
  go_enter Tryz.func94, Tryz.ntmps94
  go_wp2_with (first
    | (go_at_call 124; refine (join_acc A.out rfl rfl (Nat.le_of_ble_eq_true rfl) (Nat.le_of_ble_eq_true rfl) (Nat.le_of_ble_eq_true rfl)).mono ?_; rintro e u ⟨g, n, c, rfl, hZ⟩; clear A)
    | (go_at_call 83; refine (g_get _ _).mono ?_; rintro e u ⟨g, n, c, rfl, h⟩; replace A := Lib.hid (A.out.more h.out); clear h)
    | (go_at_call 79; refine (g_to _ _ _).mono ?_; rintro e u ⟨g, n, c, rfl, h⟩; replace A := Lib.hid (A.out.more h.out); clear h)
    | (go_at_call 97; refine (g_emitPair _ _).mono ?_; rintro e u ⟨g, n, c, rfl, h⟩; replace A := Lib.hid (A.out.more h.out); clear h)
    | (go_at_call 68; refine (g_mark _ _).mono ?_; rintro e u ⟨g, n, c, rfl, h⟩; replace A := Lib.hid (A.out.more h.out); clear h)
    | (go_at_call 71; refine (g_halt _).mono ?_; rintro e u ⟨g, n, c, rfl, h⟩; replace A := Lib.hid (A.out.more h.out); clear h))
  go_ret
  exact ⟨g, n, c, rfl, hZ.out.1, hZ.out.2⟩
theorem g_spare (_hB : 0 ≤ B ∧ B ≤ 256) (_hR : 0 ≤ R ∧ R ≤ 16)  (w : World) : Calls Tryz.prog 81 #[.agg #[.int .i64 B, .int .i64 R]] w fun e w' => e = .returned (.int .i64 (B)) ∧ Below w.heap.size w w' := by
  go_enter Tryz.func81, Tryz.ntmps81
  go_wp2
  go_ret
  exact ⟨by first | rfl | simp, bl1 _ _⟩
theorem g_count (_hB : 0 ≤ B ∧ B ≤ 256) (_hR : 0 ≤ R ∧ R ≤ 16)  (w : World) : Calls Tryz.prog 76 #[.agg #[.int .i64 B, .int .i64 R]] w fun e w' => e = .returned (.int .i64 (B + 1)) ∧ Below w.heap.size w w' := by
  go_enter Tryz.func76, Tryz.ntmps76
  go_wp2
  go_ret
  exact ⟨by first | rfl | simp, bl1 _ _⟩
theorem g_root (_hB : 0 ≤ B ∧ B ≤ 256) (_hR : 0 ≤ R ∧ R ≤ 16)  (w : World) : Calls Tryz.prog 130 #[.agg #[.int .i64 B, .int .i64 R]] w fun e w' => e = .returned (.int .i64 (B + 2)) ∧ Below w.heap.size w w' := by
  go_enter Tryz.func130, Tryz.ntmps130
  go_wp2
  go_ret
  exact ⟨by first | rfl | simp, bl1 _ _⟩
theorem g_wide (_hB : 0 ≤ B ∧ B ≤ 256) (_hR : 0 ≤ R ∧ R ≤ 16)  (w : World) : Calls Tryz.prog 91 #[.agg #[.int .i64 B, .int .i64 R]] w fun e w' => e = .returned (.int .i64 (R + 1)) ∧ Below w.heap.size w w' := by
  go_enter Tryz.func91, Tryz.ntmps91
  go_wp2
  go_ret
  exact ⟨by first | rfl | simp, bl1 _ _⟩
end
end Go.Proofs.YtpboiggakehpoaaGreatDoor.Tr
