import Derived.Test.YtninicfnhoediaaGreatDoorJ3
import Derived.Test.YtninicfnhoediaaGreatDoorKO
namespace Go.Proofs.YtninicfnhoediaaGreatDoor.Rr
open Go.ChangeShapes Go.WideShapes Go.ChangeAt Go.RowKit Num

theorem RideAt.on {W w : World} {cs : List Ins} {l : List Nat} {ao po : Option Addr} {n k : Nat} (h : RideAt W cs l ao po n k) (q : Below W.heap.size W w) : RideAt w cs l ao po n k := ⟨h.sh.on q, h.hn, h.hk, h.code.on q, h.args.on q, h.cx, h.lx, h.nb, h.kb⟩
theorem RideAt.inX {W : World} {a b c e t th : Int} {cs : List Ins} {l : List Nat} {ao po : Option Addr} {n k : Nat} (h : RideAt W cs l ao po n k) (hm : mayX a b c e k th = true) : InX (newX a b c e t cs l th) := by
  simp only [mayX, Bool.and_eq_true, decide_eq_true_eq] at hm
  refine new_in hm.1.1 (fun j hj => ?_) h.lx (by rw [h.hk]; exact hm.1.2) hm.2
  refine h.cx _ ?_
  have : ci cs j = cs[j] := by simp [ci, hj]
  rw [this]
  exact List.getElem_mem hj
/-- a reader that was made, and a memory made behind it -/
theorem full_of {W w u : World} {bx mb mg : Nat} {x : Rx} {z : Rz} {F : List Nat} {r : Md.Ce.Rd} {ws : List Int} {o : Bool} {n : Int} (h : RawAt w bx x z none F (comC x) r) (a1 : Abv W.heap.size (gX bx z none F)) (hW : Below W.heap.size W w) (hm : MemAt 123 u mb mg ws o n) (hb : Below w.heap.size w u) (ab : w.heap.size ≤ mb) (ag : w.heap.size ≤ mg) (hc : x.cell < 0) : Full u (mb :: mg :: gX bx z none F) bx z mb mg u x ws o n ∧ Turn [] (mb :: mg :: gX bx z none F) W u := by
  have hs := hW.size
  refine ⟨⟨none, r, ⟨F, h.on hb, hm, fun i hi y => ?_, fun i hi y => ?_, Turn.refl _ _⟩, .inl ⟨rfl, hc⟩⟩, ?_⟩
  · have := h.blw i y
    simp only [List.mem_cons, List.not_mem_nil, or_false] at hi
    omega
  · have := h.blwK i y
    simp only [List.mem_cons, List.not_mem_nil, or_false] at hi
    omega
  · refine (Below.turn (hW.trans (hb.mono hs)) []).mono fun i hi => .inr ?_
    simp only [List.mem_cons] at hi
    rcases hi with hi | hi | hi
    · omega
    · omega
    · have := a1 i hi; omega
/-- the steps that a deed tells -/
theorem deed_steps (t : Int) (na : Nat) (m : Mac) (D : Dd) (mk e0 e1 e2 st : Int) (w : World) : (Instr.field 61 (.agg (dC t na m D mk e0 e1 e2 st)) 13).run Tryz.prog w = .ok (.int .i64 st) w := by kernel_rfl
section
variable {W : World} {a b c e th t : Int} {ao : Option Addr} {cs : List Ins} {n cap : Nat} {po : Option Addr} {l : List Nat} {k co : Nat} {pw : Option Addr} {kw cw : Nat} {pp : Option Addr} {kp cp : Nat}
attribute [local go_sem] deed_steps
end
end Go.Proofs.YtninicfnhoediaaGreatDoor.Rr
namespace Go.Proofs.YtninicfnhoediaaGreatDoor.Rr
open Go.ChangeShapes Go.WideShapes Go.ChangeAt Go.RowKit Go.Deep

/-! openings: a ride -/
theorem cellsW : Tryz.prog.cellsOf 53 = 1 := by kernel_rfl
theorem cellsI : Tryz.prog.cellsOf 3 = 1 := by kernel_rfl
theorem cellsIns : Tryz.prog.cellsOf 91 = 3 := by kernel_rfl
theorem cellsPk : Tryz.prog.cellsOf 98 = 2 := by kernel_rfl
theorem cellsCf : Tryz.prog.cellsOf 23 = 4 := by kernel_rfl
theorem cellsPg : Tryz.prog.cellsOf 26 = 2 := by kernel_rfl
theorem cellsLI : Tryz.prog.cellsOf 24 = 1 := by kernel_rfl
theorem cellsLF : Tryz.prog.cellsOf 27 = 1 := by kernel_rfl
theorem cellsLW : Tryz.prog.cellsOf 28 = 1 := by kernel_rfl
theorem cellsLP : Tryz.prog.cellsOf 29 = 1 := by kernel_rfl
theorem cellsRi : Tryz.prog.cellsOf 31 = 10 := by kernel_rfl
theorem bytesI : Tryz.prog.bytesOf 91 = 24 := by kernel_rfl
theorem u64_of {z : Int} (h : (Lit.int .u64 z).wf = true) : u64B z := by
  simp [Lit.wf, IntKind.min, IntKind.max, IntKind.signed, IntKind.bits] at h
  exact ⟨by omega, by omega⟩
theorem i64_of {z : Int} (h : (Lit.int .i64 z).wf = true) : -9223372036854775808 ≤ z ∧ z ≤ 9223372036854775807 := by
  simp [Lit.wf, IntKind.min, IntKind.max, IntKind.signed, IntKind.bits] at h
  exact ⟨by omega, by omega⟩
/-- words, wherever they lie; pokes -/
def UAt (w : World) (p : Option Addr) (l : List Int) : Prop :=
  ∀ i, i < l.length → ∃ g o, p = some ⟨g, o, none⟩ ∧ g < w.heap.size ∧ w.cell? ⟨g, o + i, none⟩ = some (.int .u64 (l.getD i 0))
theorem UAt.on {w w' : World} {p : Option Addr} {l : List Int} (h : UAt w p l) (k : Below w.heap.size w w') : UAt w' p l := fun i hi => by
  obtain ⟨g, o, h1, h2, h3⟩ := h i hi
  exact ⟨g, o, h1, Nat.lt_of_lt_of_le h2 k.size, (k.cell (p := ⟨g, o + i, none⟩) h2).trans h3⟩
def PkAt (w : World) (p : Option Addr) (l : List (Int × Int)) : Prop :=
  ∀ i, i < l.length → ∃ g o, p = some ⟨g, o, none⟩ ∧ g < w.heap.size ∧ w.cell? ⟨g, o + i * 2, none⟩ = some (.int .i64 (l.getD i (0, 0)).1) ∧ w.cell? ⟨g, o + i * 2 + 1, none⟩ = some (.int .u64 (l.getD i (0, 0)).2)
theorem PkAt.on {w w' : World} {p : Option Addr} {l : List (Int × Int)} (h : PkAt w p l) (k : Below w.heap.size w w') : PkAt w' p l := fun i hi => by
  obtain ⟨g, o, h1, h2, h3, h4⟩ := h i hi
  exact ⟨g, o, h1, Nat.lt_of_lt_of_le h2 k.size, (k.cell (p := ⟨g, o + i * 2, none⟩) h2).trans h3, (k.cell (p := ⟨g, o + i * 2 + 1, none⟩) h2).trans h4⟩
section
variable {H : Type} {enc : TypeId × Value → H}
set_option maxRecDepth 100000 in
theorem open_codeT {W : World} {fuel : Nat} {cs : List Value} {x : DataW H × List MemPlace} (hf : DataW.trod enc Tryz.prog W 0 (fun _ => true) true fuel 24 cs = some x) :
    ∃ (ao : Option Addr) (c : List Ins) (cap : Nat), cs = [.slice ao c.length cap] ∧ (∀ i ∈ c, i.x < 18446744073709551616) ∧ CodeAt W ao c ∧ ((∀ z ∈ x.1.weights Tryz.prog 24, z ≤ reachBytes) → c.length * 24 ≤ reachBytes) := by
  rcases open_slice Tryz.underlying24 hf with ⟨hcs, _⟩ | ⟨a, len, cap, m, n, D, Pl, hcs, _, hl, hm, hmm, hd, hx⟩
  · exact ⟨none, [], 0, hcs, fun i hi => (by cases hi), fun i hi => absurd hi (Nat.not_lt_zero i), fun _ => by simp⟩
  · simp only [if_true] at hmm
    have hd1 : x.1 = .slice ((List.range len).map D) ((List.range (m - len)).map fun j => D (len + j)) := congrArg Prod.fst hd
    obtain ⟨b, off, spot⟩ := a
    have hs : 0 < len → spot = none := by
      intro h0
      obtain ⟨cs', h1, _⟩ := hx 0 (by omega)
      rw [cellsIns] at h1
      obtain ⟨_, hlen, hcell⟩ := World.cells?_some h1
      match cs', hlen with
      | [c0, c1, c2], _ =>
        have f0 := hcell 0 (by omega)
        simpa [Addr.add] using World.cell?_spot f0
    have each : ∀ i, i < len → ∃ q : Ins, spot = none ∧ b < W.heap.size ∧ q.x < 18446744073709551616 ∧ W.cell? ⟨b, off + i * 3, none⟩ = some (.int .i64 q.op) ∧ W.cell? ⟨b, off + i * 3 + 1, none⟩ = some (.int .i64 q.n) ∧ W.cell? ⟨b, off + i * 3 + 2, none⟩ = some (.float .f64 q.x) := by
      intro i hi
      obtain ⟨cs', h1, h2⟩ := hx i (by omega)
      rw [cellsIns] at h1
      obtain ⟨_, hlen, hcell⟩ := World.cells?_some h1
      obtain ⟨xs, k, _, _, _, hxl, hg⟩ := DataW.trod_struct Tryz.underlying91 h2
      match xs, hxl, cs', hlen with
      | [y0, y1, y2], _, [c0, c1, c2], _ =>
        have g0 := hg 0 _ rfl
        have g1 := hg 1 _ rfl
        have g2 := hg 2 _ rfl
        simp [cellsI, cellsF] at g0 g1 g2
        obtain ⟨x0, e0, _, _⟩ := DataW.trod_int Tryz.underlying3 g0
        obtain ⟨x1, e1, _, _⟩ := DataW.trod_int Tryz.underlying3 g1
        obtain ⟨x2, e2, hx2⟩ := trod_f64 g2
        simp at e0 e1 e2
        subst e0 e1 e2
        have f0 := hcell 0 (by omega)
        have f1 := hcell 1 (by omega)
        have f2 := hcell 2 (by omega)
        rw [add_add] at f0 f1 f2
        have hspot := hs (by omega)
        subst hspot
        rw [Go.WideShapes.add_plain] at f0 f1 f2
        exact ⟨⟨x0, x1, x2⟩, rfl, World.block_lt_of_cell? W _ f0, hx2, f0, f1, f2⟩
    have : Inhabited Ins := ⟨⟨0, 0, 0⟩⟩
    obtain ⟨q, hq⟩ := choose_lt each
    have hcl : ((List.range len).map q).length = len := by simp
    have hci : ∀ i, i < len → ci ((List.range len).map q) i = q i := fun i hi => by
      unfold ci
      simp [List.getD_eq_getElem?_getD, hi]
    refine ⟨some ⟨b, off, spot⟩, (List.range len).map q, cap, by rw [hcl]; exact hcs, fun i hi => ?_, fun i hi => ?_, fun hz => ?_⟩
    · obtain ⟨j, hj, rfl⟩ := List.mem_map.1 hi
      exact (hq j (List.mem_range.1 hj)).2.2.1
    · rw [hcl] at hi
      rw [hci i hi]
      obtain ⟨rfl, h2, _, r⟩ := hq i hi
      exact ⟨b, off, rfl, h2, r⟩
    · have := hz ((len + (m - len)) * 24) (by
        rw [hd1]
        simp [DataW.weights, Tryz.underlying24, bytesI])
      rw [hcl]
      omega
set_option maxRecDepth 100000 in
theorem open_flsT {W : World} {fuel : Nat} {cs : List Value} {x : DataW H × List MemPlace} (hf : DataW.trod enc Tryz.prog W 0 (fun _ => true) true fuel 27 cs = some x) :
    ∃ (ao : Option Addr) (l : List Nat) (cap : Nat), cs = [.slice ao l.length cap] ∧ (∀ y ∈ l, y < 18446744073709551616) ∧ FlAt W ao l ∧ ((∀ z ∈ x.1.weights Tryz.prog 27, z ≤ reachBytes) → l.length * 8 ≤ reachBytes) := by
  rcases open_slice1 Tryz.underlying27 cellsF hf with ⟨hcs, _⟩ | ⟨a, len, cap, m, n, V, D, Pl, hcs, _, hl, hm, hmm, hd, hx⟩
  · exact ⟨none, [], 0, hcs, fun y hy => (by cases hy), fun i hi => absurd hi (Nat.not_lt_zero i), fun _ => by simp⟩
  · simp only [if_true] at hmm
    have hd1 : x.1 = .slice ((List.range len).map D) ((List.range (m - len)).map fun j => D (len + j)) := congrArg Prod.fst hd
    obtain ⟨b, off, spot⟩ := a
    have hs : 0 < len → spot = none := by
      intro h0
      obtain ⟨h1, _⟩ := hx 0 (by omega)
      simpa [Addr.add] using World.cell?_spot h1
    have each : ∀ i, i < len → ∃ q : Nat, spot = none ∧ b < W.heap.size ∧ q < 18446744073709551616 ∧ W.cell? ⟨b, off + i, none⟩ = some (.float .f64 q) := by
      intro i hi
      obtain ⟨h1, h2⟩ := hx i (by omega)
      obtain ⟨q, e, hq⟩ := trod_f64 h2
      simp at e
      rw [e] at h1
      have hs := hs (by omega)
      subst hs
      rw [Go.WideShapes.add_plain] at h1
      exact ⟨q, rfl, World.block_lt_of_cell? W _ h1, hq, h1⟩
    obtain ⟨q, hq⟩ := choose_lt each
    have hlen : ((List.range len).map q).length = len := by simp
    have hget : ∀ i, i < len → ((List.range len).map q).getD i 0 = q i := fun i hi => by simp [hi]
    refine ⟨some ⟨b, off, spot⟩, (List.range len).map q, cap, by rw [hlen]; exact hcs, fun y hy => ?_, fun i hi => ?_, fun hz => ?_⟩
    · obtain ⟨j, hj, rfl⟩ := List.mem_map.1 hy
      exact (hq j (List.mem_range.1 hj)).2.2.1
    · rw [hlen] at hi
      obtain ⟨rfl, r1, _, r3⟩ := hq i hi
      exact ⟨b, off, rfl, r1, by rw [hget i hi]; exact r3⟩
    · have := hz ((len + (m - len)) * 8) (by
        rw [hd1]
        simp [DataW.weights, Tryz.underlying27, bytesF])
      rw [hlen]
      omega
set_option maxRecDepth 100000 in
theorem open_wordsT {W : World} {fuel : Nat} {cs : List Value} {x : DataW H × List MemPlace} (hf : DataW.trod enc Tryz.prog W 0 (fun _ => true) true fuel 28 cs = some x) :
    ∃ (ao : Option Addr) (l : List Int) (cap : Nat), cs = [.slice ao l.length cap] ∧ okW l ∧ UAt W ao l ∧ l.length ≤ 9223372036854775807 := by
  rcases open_slice1 Tryz.underlying28 cellsW hf with ⟨hcs, _⟩ | ⟨a, len, cap, m, n, V, D, Pl, hcs, _, hl, hm, hmm, hd, hx⟩
  · exact ⟨none, [], 0, hcs, fun y hy => (by cases hy), fun i hi => absurd hi (Nat.not_lt_zero i), Nat.zero_le _⟩
  · simp only [if_true] at hmm
    obtain ⟨b, off, spot⟩ := a
    have hs : 0 < len → spot = none := by
      intro h0
      obtain ⟨h1, _⟩ := hx 0 (by omega)
      simpa [Addr.add] using World.cell?_spot h1
    have each : ∀ i, i < len → ∃ q : Int, spot = none ∧ b < W.heap.size ∧ u64B q ∧ W.cell? ⟨b, off + i, none⟩ = some (.int .u64 q) := by
      intro i hi
      obtain ⟨h1, h2⟩ := hx i (by omega)
      obtain ⟨q, e, _, hq⟩ := DataW.trod_int Tryz.underlying53 h2
      simp at e
      rw [e] at h1
      have hs := hs (by omega)
      subst hs
      rw [Go.WideShapes.add_plain] at h1
      exact ⟨q, rfl, World.block_lt_of_cell? W _ h1, u64_of hq, h1⟩
    obtain ⟨q, hq⟩ := choose_lt each
    have hlen : ((List.range len).map q).length = len := by simp
    have hget : ∀ i, i < len → ((List.range len).map q).getD i 0 = q i := fun i hi => by simp [hi]
    refine ⟨some ⟨b, off, spot⟩, (List.range len).map q, cap, by rw [hlen]; exact hcs, fun y hy => ?_, fun i hi => ?_, by rw [hlen]; exact Nat.le_trans hl hm⟩
    · obtain ⟨j, hj, rfl⟩ := List.mem_map.1 hy
      exact (hq j (List.mem_range.1 hj)).2.2.1
    · rw [hlen] at hi
      obtain ⟨rfl, r1, _, r3⟩ := hq i hi
      exact ⟨b, off, rfl, r1, by rw [hget i hi]; exact r3⟩
set_option maxRecDepth 100000 in
theorem open_pokesT {W : World} {fuel : Nat} {cs : List Value} {x : DataW H × List MemPlace} (hf : DataW.trod enc Tryz.prog W 0 (fun _ => true) true fuel 29 cs = some x) :
    ∃ (ao : Option Addr) (l : List (Int × Int)) (cap : Nat), cs = [.slice ao l.length cap] ∧ (∀ p ∈ l, (-9223372036854775808 ≤ p.1 ∧ p.1 ≤ 9223372036854775807) ∧ u64B p.2) ∧ PkAt W ao l ∧ l.length ≤ 9223372036854775807 := by
  rcases open_slice Tryz.underlying29 hf with ⟨hcs, _⟩ | ⟨a, len, cap, m, n, D, Pl, hcs, _, hl, hm, hmm, hd, hx⟩
  · exact ⟨none, [], 0, hcs, fun i hi => (by cases hi), fun i hi => absurd hi (Nat.not_lt_zero i), Nat.zero_le _⟩
  · simp only [if_true] at hmm
    obtain ⟨b, off, spot⟩ := a
    have hs : 0 < len → spot = none := by
      intro h0
      obtain ⟨cs', h1, _⟩ := hx 0 (by omega)
      rw [cellsPk] at h1
      obtain ⟨_, hlen, hcell⟩ := World.cells?_some h1
      match cs', hlen with
      | [c0, c1], _ =>
        have f0 := hcell 0 (by omega)
        simpa [Addr.add] using World.cell?_spot f0
    have each : ∀ i, i < len → ∃ q : Int × Int, spot = none ∧ b < W.heap.size ∧ ((-9223372036854775808 ≤ q.1 ∧ q.1 ≤ 9223372036854775807) ∧ u64B q.2) ∧ W.cell? ⟨b, off + i * 2, none⟩ = some (.int .i64 q.1) ∧ W.cell? ⟨b, off + i * 2 + 1, none⟩ = some (.int .u64 q.2) := by
      intro i hi
      obtain ⟨cs', h1, h2⟩ := hx i (by omega)
      rw [cellsPk] at h1
      obtain ⟨_, hlen, hcell⟩ := World.cells?_some h1
      obtain ⟨xs, k, _, _, _, hxl, hg⟩ := DataW.trod_struct Tryz.underlying98 h2
      match xs, hxl, cs', hlen with
      | [y0, y1], _, [c0, c1], _ =>
        have g0 := hg 0 _ rfl
        have g1 := hg 1 _ rfl
        simp [cellsI, cellsW] at g0 g1
        obtain ⟨x0, e0, _, w0⟩ := DataW.trod_int Tryz.underlying3 g0
        obtain ⟨x1, e1, _, w1⟩ := DataW.trod_int Tryz.underlying53 g1
        simp at e0 e1
        subst e0 e1
        have f0 := hcell 0 (by omega)
        have f1 := hcell 1 (by omega)
        rw [add_add] at f0 f1
        have hspot := hs (by omega)
        subst hspot
        rw [Go.WideShapes.add_plain] at f0 f1
        exact ⟨(x0, x1), rfl, World.block_lt_of_cell? W _ f0, ⟨i64_of w0, u64_of w1⟩, f0, f1⟩
    obtain ⟨q, hq⟩ := choose_lt each
    have hcl : ((List.range len).map q).length = len := by simp
    have hget : ∀ i, i < len → ((List.range len).map q).getD i (0, 0) = q i := fun i hi => by simp [hi]
    refine ⟨some ⟨b, off, spot⟩, (List.range len).map q, cap, by rw [hcl]; exact hcs, fun i hi => ?_, fun i hi => ?_, by rw [hcl]; exact Nat.le_trans hl hm⟩
    · obtain ⟨j, hj, rfl⟩ := List.mem_map.1 hi
      exact (hq j (List.mem_range.1 hj)).2.2.1
    · rw [hcl] at hi
      rw [hget i hi]
      obtain ⟨rfl, h2, _, r⟩ := hq i hi
      exact ⟨b, off, rfl, h2, r⟩
/-- all of a ride: its parts, what lies behind them -/
structure RideIn (W : World) (a b c e th t : Int) (ao : Option Addr) (cs : List Ins) (cap : Nat) (po : Option Addr) (l : List Nat) (co : Nat) (pw : Option Addr) (lw : List Int) (cw : Nat) (pp : Option Addr) (lp : List (Int × Int)) (cp : Nat) : Prop where
  cx : ∀ i ∈ cs, i.x < 18446744073709551616
  code : CodeAt W ao cs
  lx : ∀ x ∈ l, x < 18446744073709551616
  args : FlAt W po l
  wx : okW lw
  words : UAt W pw lw
  wl : lw.length ≤ 9223372036854775807
  px : ∀ p ∈ lp, (-9223372036854775808 ≤ p.1 ∧ p.1 ≤ 9223372036854775807) ∧ u64B p.2
  pokes : PkAt W pp lp
  pl : lp.length ≤ 9223372036854775807
  nb : cs.length * 24 ≤ reachBytes
  kb : l.length * 8 ≤ reachBytes
set_option maxRecDepth 100000 in
set_option maxHeartbeats 1000000 in
theorem open_ride {W : World} {base : Nat} {v : Value} {d : DataW H} {ps : List MemPlace} (hval : Value.okWide Tryz.prog W .any base 31 v) (h : DataW.Trod enc Tryz.prog W 0 (fun _ => true) true 31 v d ps)
    {ts : List TypeId} {ds : List (DataW H)} (hz : (DataW.weightsEach Tryz.prog ts ds).all (· ≤ reachBytes) = true) {j : Nat} (h1 : ts[j]? = some 31) (h2 : ds[j]? = some d) :
    ∃ a b c e th t ao cs cap po l co pw lw cw pp lp cp, v = .agg (rideV a b c e th t ao cs.length cap po l.length co pw lw.length cw pp lp.length cp) ∧ RideIn W a b c e th t ao cs cap po l co pw lw cw pp lp cp := by
  obtain ⟨csv, rfl, hsz⟩ := okWide_struct Tryz.underlying31 hval
  rw [cellsRi] at hsz
  obtain ⟨lv⟩ := csv
  match lv, hsz with
  | [c0, c1, c2, c3, c4, c5, c6, c7, c8, c9], _ =>
    obtain ⟨fuel, hf⟩ := h
    obtain ⟨xs, n, _, hxd, _, hlen, hg⟩ := DataW.trod_struct Tryz.underlying31 hf
    match xs, hlen with
    | [y0, y1, y2, y3, y4, y5], _ =>
      have g0 := hg 0 _ rfl
      have g1 := hg 1 _ rfl
      have g2 := hg 2 _ rfl
      have g3 := hg 3 _ rfl
      have g4 := hg 4 _ rfl
      have g5 := hg 5 _ rfl
      simp [cellsCf, cellsI, cellsPg, cellsLF, cellsLW, cellsLP, Value.cells] at g0 g1 g2 g3 g4 g5
      obtain ⟨zs, n0, _, _, _, zl, zg⟩ := DataW.trod_struct Tryz.underlying23 g0
      obtain ⟨us, n2, _, hu, _, ul, ug⟩ := DataW.trod_struct Tryz.underlying26 g2
      match zs, zl, us, ul with
      | [z0, z1, z2, z3], _, [u0, u1], _ =>
        have k0 := zg 0 _ rfl
        have k1 := zg 1 _ rfl
        have k2 := zg 2 _ rfl
        have k3 := zg 3 _ rfl
        have m0 := ug 0 _ rfl
        have m1 := ug 1 _ rfl
        simp [cellsI, cellsLI] at k0 k1 k2 k3 m0 m1
        obtain ⟨a, ea, _, _⟩ := DataW.trod_int Tryz.underlying3 k0
        obtain ⟨b, eb, _, _⟩ := DataW.trod_int Tryz.underlying3 k1
        obtain ⟨c, ec, _, _⟩ := DataW.trod_int Tryz.underlying3 k2
        obtain ⟨e, ee, _, _⟩ := DataW.trod_int Tryz.underlying3 k3
        obtain ⟨th, eh, _, _⟩ := DataW.trod_int Tryz.underlying3 g1
        obtain ⟨t, et, _, _⟩ := DataW.trod_int Tryz.underlying3 m0
        obtain ⟨ao, cs, cap, e1, q1, q2, q3⟩ := open_codeT m1
        obtain ⟨po, l, co, e2, r1, r2, r3⟩ := open_flsT g3
        obtain ⟨pw, lw, cw, e3, s1, s2, s3⟩ := open_wordsT g4
        obtain ⟨pp, lp, cp, e4, t1, t2, t3⟩ := open_pokesT g5
        simp at ea eb ec ee eh et e1 e2 e3 e4
        have hd0 : d = .agg [y0.1, y1.1, y2.1, y3.1, y4.1, y5.1] := congrArg Prod.fst hxd
        have hd2 : y2.1 = .agg [u0.1, u1.1] := congrArg Prod.fst hu
        have wt : ∀ z ∈ d.weights Tryz.prog 31, z ≤ reachBytes := fun z hz' => by simpa using List.all_eq_true.1 hz _ (DataW.weights_mem_each h1 h2 z hz')
        rw [hd0, hd2] at wt
        simp [DataW.weights, DataW.weightsEach, Tryz.underlying31, Tryz.underlying26] at wt
        refine ⟨a, b, c, e, th, t, ao, cs, cap, po, l, co, pw, lw, cw, pp, lp, cp, by rw [ea, eb, ec, ee, eh, et, e1, e2, e3, e4], ⟨q1, q2, r1, r2, s1, s2, s3, t1, t2, t3, q3 fun z hz' => wt z ?_, r3 fun z hz' => wt z ?_⟩⟩
        · simp [hz']
        · simp [hz']
end
theorem RideIn.at_ {W : World} {a b c e th t : Int} {ao : Option Addr} {cs : List Ins} {cap : Nat} {po : Option Addr} {l : List Nat} {co : Nat} {pw : Option Addr} {lw : List Int} {cw : Nat} {pp : Option Addr} {lp : List (Int × Int)} {cp : Nat} (h : RideIn W a b c e th t ao cs cap po l co pw lw cw pp lp cp) (hs : Shaped5 W) : RideAt W cs l ao po cs.length l.length := ⟨hs, rfl, rfl, h.code, h.args, h.cx, h.lx, Nat.le_trans h.nb (by decide), Nat.le_trans h.kb (by decide)⟩
end Go.Proofs.YtninicfnhoediaaGreatDoor.Rr
namespace Go.Proofs.YtninicfnhoediaaGreatDoor.Rr
open Go.ChangeShapes Go.WideShapes Go.ChangeAt Go.RowKit Num

/-! both readers, each over words of its own -/
theorem Full.keepG {w w' : World} {G : List Nat} {b mb mg : Nat} {x : Rx} {z : Rz} {ws : List Int} {o : Bool} {n : Int} (h : Full w G b z mb mg w x ws o n) (k : Kept G w w') (k2 : Kept z.KK w w') : Full w' G b z mb mg w' x ws o n := by
  obtain ⟨q, r, ⟨F, h1, h2, h3, h4, t⟩, h5⟩ := h
  have hin : ∀ i ∈ mb :: mg :: gX b z q F, i ∈ G := fun i hi => by
    rcases t.own i hi with y | y
    · exact y
    · have : i < w.heap.size := by
        simp only [List.mem_cons] at hi
        rcases hi with rfl | rfl | hi
        · exact h2.ltB
        · exact h2.ltG
        · exact h1.blw i hi
      omega
  refine ⟨q, r, ⟨F, h1.keep ⟨k.1, fun i hi => k.2 i (hin i (by simp [hi]))⟩ k2, h2.keep (k.2 _ (hin _ (by simp))) (k.2 _ (hin _ (by simp))), h3, h4, ⟨rfl, rfl, rfl, Nat.le_refl _, fun _ _ _ => rfl, fun i hi => .inl (hin i hi)⟩⟩, h5⟩
/-- what the document's reader has of its own to write over -/
def dOwn (bd : Nat) (zd : Dz) (bw gw : Nat) : List Nat := [bd, zd.br, zd.bl, bw, gw]
structure Both (W w : World) (bx : Nat) (z : Rz) (mb mg : Nat) (x : Rx) (ws : List Int) (o : Bool) (n : Int) (bd : Nat) (zd : Dz) (bw gw : Nat) (xd : Rx) (wd : List Int) (nd : Int) : Prop where
  ex : ∃ G qd, Full w G bx z mb mg w x ws o n ∧ Turn [] G W w ∧ Blw w G ∧ Sep z.KK G ∧ Blw w z.KK ∧ DRaw w bd xd zd qd ∧ WdAt w bw gw wd nd ∧ Sep [bw, gw] (dAll bd zd qd) ∧ Sep (bw :: gw :: dAll bd zd qd) G ∧ Sep (dOwn bd zd bw gw) z.KK ∧ Abv W.heap.size (dOwn bd zd bw gw)
section
variable {W w w' : World} {bx : Nat} {z : Rz} {mb mg : Nat} {x : Rx} {ws : List Int} {o : Bool} {n : Int} {bd : Nat} {zd : Dz} {bw gw : Nat} {xd : Rx} {wd : List Int} {nd : Int}
theorem dAll_blw {qd : Rp} (h : DRaw w bd xd zd qd) (k : WdAt w bw gw wd nd) : Blw w (bw :: gw :: dAll bd zd qd) := fun i hi => by
  simp only [List.mem_cons] at hi
  rcases hi with rfl | rfl | hi
  · exact k.ltB
  · exact k.ltG
  · exact h.blw i hi
theorem dOwn_in {qd : Rp} (h : DRaw w bd xd zd qd) : ∀ i ∈ dOwn bd zd bw gw, i ∈ bw :: gw :: dAll bd zd qd := fun i hi => by
  have := h.at_.1
  simp only [dOwn, List.mem_cons, List.not_mem_nil, or_false] at hi
  simp only [dAll, Fr, List.mem_cons, List.mem_append]
  rw [this]
  rcases hi with y | y | y | y | y <;> simp [y]
theorem Both.below (h : Both W w bx z mb mg x ws o n bd zd bw gw xd wd nd) : Below W.heap.size W w := by
  obtain ⟨G, qd, h1, h2, _⟩ := h.ex
  exact (h1.from h2).below
theorem Both.mem (h : Both W w bx z mb mg x ws o n bd zd bw gw xd wd nd) : MemAt 123 w mb mg ws o n := by
  obtain ⟨G, qd, h1, _⟩ := h.ex
  exact h1.mem
theorem Both.words (h : Both W w bx z mb mg x ws o n bd zd bw gw xd wd nd) : WdAt w bw gw wd nd := by
  obtain ⟨G, qd, _, _, _, _, _, _, h7, _⟩ := h.ex
  exact h7
theorem Both.draw (h : Both W w bx z mb mg x ws o n bd zd bw gw xd wd nd) : ∃ qd, DRaw w bd xd zd qd := by
  obtain ⟨G, qd, _, _, _, _, _, h6, _⟩ := h.ex
  exact ⟨qd, h6⟩
theorem Both.raw (h : Both W w bx z mb mg x ws o n bd zd bw gw xd wd nd) : ∃ q F r, RawAt w bx x z q F (comC x) r := by
  obtain ⟨G, qd, h1, _⟩ := h.ex
  exact h1.raw
/-- the program's goes on -/
theorem Both.p (h : Both W w bx z mb mg x ws o n bd zd bw gw xd wd nd) : ∃ G, Full w G bx z mb mg w x ws o n ∧ (Shaped5 W → TabAt w G) ∧ ∀ w' x' ws' o' n', Full w G bx z mb mg w' x' ws' o' n' → Both W w' bx z mb mg x' ws' o' n' bd zd bw gw xd wd nd := by
  obtain ⟨G, qd, h1, h2, h3, h4, h5, h6, h7, h8, h9, h10, h11⟩ := h.ex
  refine ⟨G, h1, fun hs => (show TabAt W [] from ⟨hs, by simp⟩).turn h2, fun w' x' ws' o' n' k => ?_⟩
  obtain ⟨G', k1, k2, k3, k4, k5⟩ := k.rebase
  have hb := dAll_blw h6 h7
  have kD := k2.kept h9 hb
  exact ⟨G', qd, k1, h2.trans k2, k3, k4, k5, h6.keep ⟨kD.1, fun i hi => kD.2 i (by simp [hi])⟩, h7.keep ⟨kD.1, fun i hi => kD.2 i (by simp only [List.mem_cons, List.not_mem_nil, or_false] at hi ⊢; rcases hi with y | y <;> simp [y])⟩, h8, h9.turn hb k2, h10, h11⟩
/-- the document's goes on -/
theorem Both.d (h : Both W w bx z mb mg x ws o n bd zd bw gw xd wd nd) : ∃ R0, DMid w R0 bd zd bw gw w xd wd nd ∧ ∀ w' xd' wd' nd', DMid w R0 bd zd bw gw w' xd' wd' nd' → Both W w' bx z mb mg x ws o n bd zd bw gw xd' wd' nd' := by
  obtain ⟨G, qd, h1, h2, h3, h4, h5, h6, h7, h8, h9, h10, h11⟩ := h.ex
  refine ⟨Fr zd.br qd, ⟨qd, h6, h7, h8, Turn.refl _ _, fun _ hk => .inl hk⟩, fun w' xd' wd' nd' k => ?_⟩
  obtain ⟨qd', k1, k2, k3, k4, k5⟩ := k
  have sO : Sep G (dOwn bd zd bw gw) := fun i hi y => h9 i (dOwn_in h6 i y) hi
  have kG := k4.kept sO h3
  have kK := k4.kept h10.symm h5
  have blW := k4.below h11 h2.size
  refine ⟨G, qd', h1.keepG kG kK, ⟨k4.os.trans h2.os, k4.tape.trans h2.tape, k4.output.trans h2.output, Nat.le_trans h2.size k4.size, fun i hi hn => (blW.block i hi).trans (h2.block i hi hn), fun i hi => h2.own i hi⟩, fun i hi => Nat.lt_of_lt_of_le (h3 i hi) k4.size, h4, fun i hi => Nat.lt_of_lt_of_le (h5 i hi) k4.size, k1, k2, k3, fun i hi y => ?_, h10, h11⟩
  have old : ∀ i, i ∈ bw :: gw :: dAll bd zd qd → i ∈ G → False := fun i => h9 i
  simp only [dAll, List.mem_cons, List.mem_append] at hi old
  rcases hi with q | q | q | q | q | q
  · exact old i (.inl q) y
  · exact old i (.inr (.inl q)) y
  · exact old i (.inr (.inr (.inl q))) y
  · rcases k5 i q with q | q
    · exact old i (.inr (.inr (.inr (.inl q)))) y
    · have := h3 i y
      omega
  · exact old i (.inr (.inr (.inr (.inr (.inl q))))) y
  · exact old i (.inr (.inr (.inr (.inr (.inr q))))) y
theorem Both.on (h : Both W w bx z mb mg x ws o n bd zd bw gw xd wd nd) (k : Below w.heap.size w w') : Both W w' bx z mb mg x ws o n bd zd bw gw xd wd nd := by
  obtain ⟨G, h1, _, h3⟩ := h.p
  exact h3 _ _ _ _ _ (h1.on k)
/-- as they begin -/
theorem both_new {W0 W u w : World} {ao : Option Addr} {cs : List Ins} (hW : Below W0.heap.size W0 W) (h : Bgn W u bx bd x ao cs) (hc : x.cell < 0) (hm : MemAt 123 w mb mg ws o n) (hd : WdAt w bw gw wd nd) (hb : Below u.heap.size u w) (a1 : u.heap.size ≤ mb) (a2 : u.heap.size ≤ mg) (a3 : u.heap.size ≤ bw) (a4 : u.heap.size ≤ gw) (s : Sep [bw, gw] [mb, mg]) : ∃ z zd, zd.cs = cs ∧ Both W0 w bx z mb mg x ws o n bd zd bw gw x wd nd := by
  obtain ⟨z, F, r, zd, qd, k1, k2, k3, k4, k5, k6, k7, k8, k9, k10⟩ := h.p
  have hs := hW.size
  have hu := h.bl.size
  obtain ⟨f1, f2⟩ := full_of k1 (k2.mono hs) (hW.trans (h.bl.mono hs)) hm hb a1 a2 hc
  have D := k5.on hb
  have lD := k5.blw
  have hsz := hb.size
  have lkk := k1.blwK
  refine ⟨z, zd, k4, ⟨_, qd, f1, f2, fun i hi => ?_, fun i hi y => ?_, fun i hi => Nat.lt_of_lt_of_le (lkk i hi) hsz, D, hd, fun i hi y => ?_, fun i hi y => ?_, fun i hi y => ?_, fun i hi => ?_⟩⟩
  · simp only [List.mem_cons] at hi
    rcases hi with rfl | rfl | hi
    · exact hm.ltB
    · exact hm.ltG
    · exact Nat.lt_of_lt_of_le (k1.blw i hi) hsz
  · have := lkk i hi
    simp only [List.mem_cons] at y
    rcases y with y | y | y
    · omega
    · omega
    · exact k1.sep i hi y
  · have := lD i y
    simp only [List.mem_cons, List.not_mem_nil, or_false] at hi
    omega
  · simp only [List.mem_cons] at hi y
    have sm := s i
    simp only [List.mem_cons, List.not_mem_nil, or_false] at sm
    rcases y with y | y | y
    · rcases hi with hi | hi | hi
      · exact sm (.inl hi) (.inl y)
      · exact sm (.inr hi) (.inl y)
      · have := lD i hi; omega
    · rcases hi with hi | hi | hi
      · exact sm (.inl hi) (.inr y)
      · exact sm (.inr hi) (.inr y)
      · have := lD i hi; omega
    · have := k1.blw i y
      rcases hi with hi | hi | hi
      · omega
      · omega
      · exact k9 i y hi
  · have := lkk i y
    have bl := k5.at_.1
    simp only [dOwn, List.mem_cons, List.not_mem_nil, or_false] at hi
    rcases hi with hi | hi | hi | hi | hi
    · exact k10 i y (by simp [hi])
    · exact k10 i y (by simp [hi, Fr])
    · exact k10 i y (by simp [hi, Fr, bl])
    · omega
    · omega
  · have bl := k5.at_.1
    have K6 := k6 i
    simp only [Fr, List.mem_cons] at K6
    simp only [dOwn, List.mem_cons, List.not_mem_nil, or_false] at hi
    rcases hi with hi | hi | hi | hi | hi
    · have := K6 (.inl hi); omega
    · have := K6 (.inr (.inl hi)); omega
    · have := K6 (.inr (.inr (.inl (by rw [bl]; exact hi)))); omega
    · omega
    · omega
end
end Go.Proofs.YtninicfnhoediaaGreatDoor.Rr
namespace Go.Proofs.YtninicfnhoediaaGreatDoor.Rr
open Go.ChangeShapes Go.WideShapes Go.ChangeAt Go.RowKit Num

/-! the words that both find -/
abbrev planO (b : Int) (N : Nat) : Obj := .cells #[.int .i64 0, .int .i64 1, .int .i64 2, .int .i64 3, .int .i64 (3 + b), .int .i64 (N : Int)] 51
/-- as many words for both -/
structure Laid (w w' : World) (N mb mg bw gw : Nat) (ws : List Int) : Prop where
  len : ws.length = N
  ok : okW ws
  mem : MemAt 123 w' mb mg ws false 0
  wds : WdAt w' bw gw ws 0
  am : w.heap.size ≤ mb
  ag : w.heap.size ≤ mg
  aw : w.heap.size ≤ bw
  av : w.heap.size ≤ gw
  sep : Sep [bw, gw] [mb, mg]
  bl : Below w.heap.size w w'
theorem okW_zeros (N : Nat) : okW (List.replicate N 0) := fun v hv => by rw [List.eq_of_mem_replicate hv]; exact ⟨by decide, by decide⟩
theorem poked_nat {ws : List Int} {i : Nat} (h : i < ws.length) (v : Int) : Md.poked ws (i : Int) v = ws.set i v := by
  unfold Md.poked
  rw [if_pos (by simp [hasB]; omega)]
  simp
theorem getD_ok {ws : List Int} (h : okW ws) (i : Nat) : u64B (ws.getD i 0) := by
  by_cases q : i < ws.length
  · have e : ws.getD i 0 = ws[i] := by simp [q]
    rw [e]
    exact h _ (List.getElem_mem q)
  · have e : ws.getD i 0 = 0 := by simp [List.getD_eq_getElem?_getD, List.getElem?_eq_none (Nat.le_of_not_lt q)]
    rw [e]
    exact ⟨by decide, by decide⟩
theorem Laid.put {w u u1 : World} {N mb mg bw gw : Nat} {ws : List Int} (h : Laid w u N mb mg bw gw ws) {i : Nat} (hi : i < N) {v : Int} (hv : u64B v) (k1 : MemAt 123 u1 mb mg (Md.poked ws (i : Int) v) false 0) (k2 : Chg mb mg u u1) : Laid w (u1.setCell ⟨gw, i, none⟩ (.int .u64 v)) N mb mg bw gw (ws.set i v) := by
  have s : ∀ y, y = bw ∨ y = gw → y ≠ mb ∧ y ≠ mg := fun y hy => by
    have := h.sep y (by simpa using hy)
    simpa using this
  rw [poked_nat (by rw [h.len]; exact hi)] at k1
  have w1 : WdAt u1 bw gw ws 0 := h.wds.keep ⟨k2.size, fun y hy => by
    have hy' : y = bw ∨ y = gw := by simpa using hy
    refine k2.block y ?_ (s y hy').1 (s y hy').2
    rcases hy' with rfl | rfl
    · exact h.wds.ltB
    · exact h.wds.ltG⟩
  have b1 : Below w.heap.size w u1 := h.bl.trans (k2.below h.am h.ag h.bl.size)
  exact ⟨by rw [List.length_set]; exact h.len, h.ok.set _ hv, k1.other (fun y => (s gw (.inr rfl)).1 y.symm) (fun y => (s gw (.inr rfl)).2 y.symm) _ _, w1.setW i v, h.am, h.ag, h.aw, h.av, h.sep, b1.setCell h.av _⟩
theorem Laid.drew {w u : World} {N mb mg bw gw : Nat} {ws : List Int} (h : Laid w u N mb mg bw gw ws) : Laid w u.drew N mb mg bw gw ws := ⟨h.len, h.ok, h.mem.drew, ⟨h.wds.box, h.wds.row, h.wds.ne, h.wds.many⟩, h.am, h.ag, h.aw, h.av, h.sep, h.bl.trans ((Same.drew u).below _)⟩
section
variable {W : World} {a b c e : Int} {pw : Option Addr} {lw : List Int} {kw cw : Nat}
set_option maxRecDepth 100000 in
set_option maxHeartbeats 2000000 in
theorem laid_any (hc : Md.cfgB a b c e = true) (hw : UAt W pw lw) (hk : lw.length = kw) (hl : okW lw) (hx : kw ≤ 9223372036854775807) {N : Nat} (hN : 3 + b + 3 * a = (N : Int)) : Calls Tryz.prog 11 #[cfgV a b c e, .slice pw kw cw] W fun r w' => ∃ mb bw, r = .returned (.tuple #[.pointer (some ⟨mb, 0, none⟩), .pointer (some ⟨bw, 0, none⟩)]) ∧ Hid (∃ mg gw ws, Laid W w' N mb mg bw gw ws) := by
  obtain ⟨h1, h2, h3, h4⟩ := Md.cfgB_iff.1 hc
  have n1 : 1 ≤ N ∧ N ≤ 4096 := by omega
  have HP := Lib.hid (fun u => Md.refPlace_any a b c e u)
  simp only [hc, if_true, hN] at HP
  have HM : Hid (∀ u, Calls Tryz.prog 22 #[.int .i64 (N : Int)] u fun e w' => e = .returned (.tuple #[.pointer (some ⟨u.heap.size + 1, 0, none⟩), .int .i64 0]) ∧ MemAt 123 w' (u.heap.size + 1) u.heap.size (List.replicate N 0) false 0 ∧ Below u.heap.size u w') := fun u => Md.new_some N n1.1 n1.2 u
  have HK := fun u => Md.make_words N n1.2 u
  have HWW : Hid (UAt W pw lw ∧ okW lw ∧ lw.length = kw) := ⟨hw, hl, hk⟩
  clear hc h1 h2 h3 h4 hw hl hk hN
  go_enter Tryz.func11, Tryz.ntmps11
  go_upto_region 8 with (first
    | (go_at_call 22; refine (HM.out _).mono ?_; rintro r u2 ⟨rfl, q1, q2⟩; have H2 := Lib.hid (And.intro q1 q2); obtain ⟨p0, p1, p2, p3, p4, p5, lp⟩ := cells6 ((q2.block _ (lt_of_block H1.out.2)).trans H1.out.2); clear q1 q2 HM)
    | (go_at_call 38; refine (HP.out _).mono ?_; rintro r u1 ⟨rfl, q⟩; have H1 : Hid (Below W.heap.size W (u1.alloc (planO b N)) ∧ (u1.alloc (planO b N)).heap[u1.heap.size]? = some (planO b N)) := ⟨(below_chain (below_alloc W _) q).alloc (below_chain (below_alloc W _) q).size _, heap_alloc_new _ _⟩; clear q HP))
  have HL0 : Hid (Laid (u1.alloc (planO b N)) ((u2.alloc (.cells (u64s (List.replicate N 0)).toArray 53)).alloc (.cells #[.slice (some ⟨u2.heap.size, 0, none⟩) N N, .int .i64 0] 70)) N (u1.heap.size + 1 + 1) (u1.heap.size + 1) (u2.heap.size + 1) u2.heap.size (List.replicate N 0)) := by
    have e : (u1.alloc (planO b N)).heap.size = u1.heap.size + 1 := by simp
    obtain ⟨m1, m2⟩ := H2.out
    rw [e] at m1
    have l1 := m1.ltB
    have l2 := m1.ltG
    have k2 : Below u2.heap.size u2 ((u2.alloc (.cells (u64s (List.replicate N 0)).toArray 53)).alloc (.cells #[.slice (some ⟨u2.heap.size, 0, none⟩) N N, .int .i64 0] 70)) := (below_alloc _ _).trans ((below_alloc _ _).mono (by simp))
    refine ⟨by simp, okW_zeros N, m1.on k2, ⟨?_, heap_old (heap_alloc_new _ _), by omega, by simp; exact n1.2⟩, by rw [e]; omega, by rw [e]; omega, by rw [e]; omega, by rw [e]; omega, fun i hi y => ?_, m2.trans (k2.mono m2.size)⟩
    · have := heap_alloc_new (u2.alloc (.cells (u64s (List.replicate N 0)).toArray 53)) (.cells #[.slice (some ⟨u2.heap.size, 0, none⟩) N N, .int .i64 0] 70)
      simpa using this
    · simp only [List.mem_cons, List.not_mem_nil, or_false] at hi y
      omega
  clear H2 p0 p1 p2 p3 p4 p5 lp HK
  generalize u1.heap.size + 1 + 1 = mb at HL0
  generalize u1.heap.size + 1 = mg at HL0
  generalize hbw : u2.heap.size + 1 = bw at HL0
  generalize u2.heap.size = gw at HL0
  clear hbw
  go_wp2_with fail
  go_loopw [11] (fun vi wr => ∃ i : Nat, vi = .int .i64 i ∧ i ≤ N ∧ Hid (∃ ws, Laid (u1.alloc (planO b N)) wr N mb mg bw gw ws)) (fun vi _ => N - (intOf vi).toNat)
  case atStart => exact ⟨0, rfl, Nat.zero_le _, _, HL0.out⟩
  case round =>
    obtain ⟨i, rfl, hi, HR⟩ := hrel
    obtain ⟨ws, hws⟩ := HR.out
    have HR2 := Lib.hid hws
    clear HR hws
    obtain ⟨p0, p1, p2, p3, p4, p5, lp⟩ := cells6 ((HR2.out.bl.block _ (lt_of_block H1.out.2)).trans H1.out.2)
    clear p0 p1 p2 p3 p4
    by_cases hlt : i < N ∧ i < kw
    · have hlt' : (i : Int) < (N : Int) := by omega
      have hlk' : (i : Int) < (kw : Int) := by omega
      obtain ⟨g, off, hp, hg, hcell⟩ := HWW.out.1 i (by rw [HWW.out.2.2]; exact hlt.2)
      have HV : Hid (u64B (lw.getD i 0)) := getD_ok HWW.out.2.1 i
      generalize lw.getD i 0 = v at hcell HV
      subst hp
      have HB : Hid (∀ u, Below (u1.alloc (planO b N)).heap.size (u1.alloc (planO b N)) u → u.cell? ⟨g, off + i, none⟩ = some (.int .u64 v) ∧ g < u.heap.size) := fun u q => by
        have q2 := H1.out.1.trans (q.mono H1.out.1.size)
        exact ⟨(q2.cell (p := ⟨g, off + i, none⟩) hg).trans hcell, Nat.lt_of_lt_of_le hg q2.size⟩
      obtain ⟨x1, x2⟩ := HB.out _ HR2.out.bl
      have HPK := Lib.hid (Md.poke_any HR2.out.mem (i : Int) v)
      have HPUT : Hid (∀ u1', MemAt 123 u1' mb mg (Md.poked ws (i : Int) v) false 0 → Chg mb mg wr u1' → Laid (u1.alloc (planO b N)) (u1'.setCell ⟨gw, i, none⟩ (.int .u64 v)) N mb mg bw gw (ws.set i v) ∧ Below (u1.alloc (planO b N)).heap.size (u1.alloc (planO b N)) u1' ∧ WdAt u1' bw gw ws 0) := fun u' k1 k2 => by
        have b1 := HR2.out.bl.trans (k2.below HR2.out.am HR2.out.ag HR2.out.bl.size)
        refine ⟨HR2.out.put hlt.1 HV.out k1 k2, b1, HR2.out.wds.keep ⟨k2.size, fun y hy => ?_⟩⟩
        have hy' : y = bw ∨ y = gw := by simpa using hy
        have s := HR2.out.sep y hy
        refine k2.block y ?_ (fun q => s (by simp [q])) (fun q => s (by simp [q]))
        rcases hy' with rfl | rfl
        · exact HR2.out.wds.ltB
        · exact HR2.out.wds.ltG
      have hgw : Hid (g ≠ gw) := fun q => by have h1 := HR2.out.av; have h2 := H1.out.1.size; omega
      have HLEN : Hid (ws.length = N) := HR2.out.len
      clear hcell HWW
      go_upto_region 12 with (go_at_call 36; refine HPK.out.mono ?_; rintro r u3 ⟨rfl, q1, q2⟩; have H3 := Lib.hid (HPUT.out _ q1 q2); obtain ⟨y1, y2⟩ := HB.out _ H3.out.2.1; have c0 := H3.out.2.2.cell0; rw [HLEN.out] at c0; have lb := H3.out.2.2.ltB; have f0 := H3.out.2.2.freeG i; have lg := H3.out.2.2.ltG; clear q1 q2 HPK HPUT)
      have hne := H3.out.2.2.ne
      refine wp_region_seq (fun u => u.cell? ⟨g, off + i, none⟩ = some (.int .u64 v) ∧ u.cell? ⟨bw, 0, none⟩ = some (.slice (some ⟨gw, 0, none⟩) N N) )  ((0, true) :: (1, true) :: (2, true) :: (3, true) :: (4, true) :: (5, true) :: (6, true) :: (7, true) :: (8, true) :: (9, true) :: (10, false) :: [])  Md.Cv.follows13 (by kernel_rfl) (fun _ _ _ _ _ h => h)  ⟨y1, c0⟩ ?_
      (repeat (first | (refine wpSeq_take (v := ?_) rfl (by rfl) (fun wq hSq => ?_) ?_; rotate_left; (focus ((try dsimp only at hSq); go_simp; try with_reducible rfl)); simp only [Act.put, List.setIfInBounds_toArray, List.set_cons_zero, List.set_cons_succ]) | (refine wpSeq_skip rfl (by rfl) ?_; simp only [Act.put, List.setIfInBounds_toArray, List.set_cons_zero, List.set_cons_succ])))
      have cw := H3.out.2.2.word (i := i) (by rw [HLEN.out]; exact hlt.1)
      (refine wpSeq_do rfl (by rfl) (fun KK hK => ?_); go_simp)
      refine hK.out _ _ ⟨(World.cell?_setCell_far _ _ _ _ (fun q => hgw.out q.symm)).trans y1, (World.cell?_setCell_far _ _ _ _ (fun q => hne q.symm)).trans c0⟩ ?_
      (clear hK KK; try simp only [Act.put])
      refine wpSeq_nil ?_
      go_wp2_with fail
      exact ⟨⟨i + 1, by first | rfl | (congr 1), by omega, _, H3.out.1.drew⟩, by simp [intOf]; omega⟩
    · have HF : Hid (∃ mg gw ws, Laid W wr N mb mg bw gw ws) := by
        have q := HR2.out
        have hs := H1.out.1.size
        exact ⟨mg, gw, ws, q.len, q.ok, q.mem, q.wds, Nat.le_trans hs q.am, Nat.le_trans hs q.ag, Nat.le_trans hs q.aw, Nat.le_trans hs q.av, q.sep, H1.out.1.trans (q.bl.mono hs)⟩
      by_cases h1 : i < N
      · have h1' : (i : Int) < (N : Int) := by omega
        have h2' : ¬ (i : Int) < (kw : Int) := by omega
        go_wp2_with fail
        go_ret2
        exact ⟨mb, bw, rfl, HF.out⟩
      · have h1' : ¬ (i : Int) < (N : Int) := by omega
        go_wp2_with fail
        go_ret2
        exact ⟨mb, bw, rfl, HF.out⟩
end
/-! what others do ahead of a step -/
/-- the words behind it -/
def pokeW (lp : List (Int × Int)) (i : Nat) (ws : List Int) : List Int := if i < lp.length ∧ 0 ≤ (lp.getD i (0, 0)).1 then ws.set ((lp.getD i (0, 0)).1 % (ws.length : Int)).toNat (lp.getD i (0, 0)).2 else ws
theorem pokeW_len (lp : List (Int × Int)) (i : Nat) (ws : List Int) : (pokeW lp i ws).length = ws.length := by
  unfold pokeW
  split <;> simp
theorem pokeW_ok {lp : List (Int × Int)} (hp : ∀ p ∈ lp, (-9223372036854775808 ≤ p.1 ∧ p.1 ≤ 9223372036854775807) ∧ u64B p.2) (i : Nat) {ws : List Int} (h : okW ws) : okW (pokeW lp i ws) := by
  unfold pokeW
  split
  · next q =>
    refine h.set _ (hp _ ?_).2
    have e : lp.getD i (0, 0) = lp[i] := by simp [q.1]
    rw [e]
    exact List.getElem_mem q.1
  · exact h
section
variable {W w : World} {bx : Nat} {z : Rz} {mb mg : Nat} {x : Rx} {ws : List Int} {o : Bool} {n : Int} {bd : Nat} {zd : Dz} {bw gw : Nat} {xd : Rx} {wd : List Int} {nd : Int} {pp : Option Addr} {lp : List (Int × Int)} {kp cp : Nat}
theorem Both.poke (h : Both W w bx z mb mg x ws o n bd zd bw gw xd wd nd) {i : Nat} (hi : i < ws.length) (v : Int) : Calls Tryz.prog 36 #[.pointer (some ⟨mb, 0, none⟩), .int .i64 (i : Int), .int .u64 v] w fun e w' => e = .returned (.int .i64 0) ∧ Both W w' bx z mb mg x (ws.set i v) o n bd zd bw gw xd wd nd := by
  obtain ⟨G, h1, _, h3⟩ := h.p
  refine (h1.poke (i : Int) v).mono ?_
  rintro e w' ⟨rfl, k⟩
  rw [poked_nat hi] at k
  refine ⟨?_, h3 _ _ _ _ _ k⟩
  have : errP ws (i : Int) = 0 := by unfold errP; rw [if_pos (by simp [hasB]; omega)]
  rw [this]
theorem Both.setW (h : Both W w bx z mb mg x ws o n bd zd bw gw xd wd nd) (i : Nat) (v : Int) : Both W (w.setCell ⟨gw, i, none⟩ (.int .u64 v)) bx z mb mg x ws o n bd zd bw gw xd (wd.set i v) nd := by
  obtain ⟨R0, h1, h3⟩ := h.d
  exact h3 _ _ _ _ (h1.wrds ((turn_set w gw i _).wide (by simp)) (h1.words.setW i v))
set_option maxRecDepth 100000 in
set_option maxHeartbeats 2000000 in
theorem pokes_any (h : Both W w bx z mb mg x ws o n bd zd bw gw xd wd nd) (hpW : PkAt W pp lp) (hk : lp.length = kp) {N : Nat} (hN : 1 ≤ N) (hl : ws.length = N) (hd : wd.length = N) (i : Nat) : Calls Tryz.prog 13 #[.pointer (some ⟨mb, 0, none⟩), .pointer (some ⟨bw, 0, none⟩), .slice pp kp cp, .int .i64 (i : Int)] w fun r w' => r = .returned (.tuple #[]) ∧ Both W w' bx z mb mg x (pokeW lp i ws) o n bd zd bw gw xd (pokeW lp i wd) nd := by
  by_cases hi : i < kp
  · have hi' : (i : Int) < (kp : Int) := by omega
    have hni : ¬ (kp : Int) ≤ (i : Int) := by omega
    obtain ⟨g, off, hp, hg, k1, k2⟩ := hpW i (by omega)
    have HB : Hid (∀ u, Below W.heap.size W u → u.cell? ⟨g, off + i * 2, none⟩ = some (.int .i64 (lp.getD i (0, 0)).1) ∧ u.cell? ⟨g, off + i * 2 + 1, none⟩ = some (.int .u64 (lp.getD i (0, 0)).2) ∧ g < u.heap.size) := fun u q => ⟨(q.cell (p := ⟨g, off + i * 2, none⟩) hg).trans k1, (q.cell (p := ⟨g, off + i * 2 + 1, none⟩) hg).trans k2, Nat.lt_of_lt_of_le hg q.size⟩
    have hW : ∀ ws : List Int, pokeW lp i ws = if 0 ≤ (lp.getD i (0, 0)).1 then ws.set ((lp.getD i (0, 0)).1 % (ws.length : Int)).toNat (lp.getD i (0, 0)).2 else ws := fun ws => by
      unfold pokeW
      by_cases q : 0 ≤ (lp.getD i (0, 0)).1
      · rw [if_pos ⟨by omega, q⟩, if_pos q]
      · rw [if_neg (fun y => q y.2), if_neg q]
    rw [hW, hW]
    generalize (lp.getD i (0, 0)).1 = at0 at HB
    generalize (lp.getD i (0, 0)).2 = v at HB
    clear k1 k2 hW
    subst hp
    obtain ⟨y1, y2, y3⟩ := HB.out _ h.below
    by_cases hat : 0 ≤ at0
    · rw [if_pos hat, if_pos hat]
      have hat' : ¬ at0 < 0 := by omega
      have hnz : ¬ N = 0 := by omega
      obtain ⟨j, hj, hjN⟩ : ∃ j : Nat, at0.tmod (N : Int) = (j : Int) ∧ j < N := by
        rw [Int.tmod_eq_emod_of_nonneg hat]
        have h3 := Int.emod_nonneg at0 (b := (N : Int)) (by omega)
        have h4 := Int.emod_lt_of_pos at0 (show 0 < (N : Int) by omega)
        exact ⟨(at0 % (N : Int)).toNat, by omega, by omega⟩
      have ej : (at0 % (N : Int)).toNat = j := by
        rw [← Int.tmod_eq_emod_of_nonneg hat, hj]
        rfl
      rw [hl, hd, ej]
      have HJ := Lib.hid hj
      have HPK := Lib.hid (h.poke (i := j) (by omega) v)
      have HH := Lib.hid h
      have c0 := h.words.cell0
      have lb := h.words.ltB
      rw [hd] at c0
      clear h hj ej
      go_enter Tryz.func13, Tryz.ntmps13
      go_upto_region 1 with fail
      go_cut [8] (fun v8 wc => v8 = .int .i64 (j : Int) ∧ Hid (wc = w.drew))
      case first =>
        refine wp_region_seq (fun u => u.cell? ⟨g, off + i * 2, none⟩ = some (.int .i64 at0) ∧ u.cell? ⟨bw, 0, none⟩ = some (.slice (some ⟨gw, 0, none⟩) N N) )  ((0, true) :: (1, true) :: (2, true) :: (3, true) :: (4, true) :: (5, true) :: (6, true) :: (7, true) :: (8, true) :: (9, true) :: (10, true) :: (11, true) :: [])  Md.Cv.follows13 (by kernel_rfl) (fun _ _ _ _ _ h => h)  ⟨y1, c0⟩ ?_
        (repeat (first | (refine wpSeq_take (v := ?_) rfl (by rfl) (fun wq hSq => ?_) ?_; rotate_left; (focus ((try dsimp only at hSq); go_simp; try with_reducible rfl)); simp only [Act.put, List.setIfInBounds_toArray, List.set_cons_zero, List.set_cons_succ]) | (refine wpSeq_skip rfl (by rfl) ?_; simp only [Act.put, List.setIfInBounds_toArray, List.set_cons_zero, List.set_cons_succ])))
        refine wpSeq_nil ?_
        rw [HJ.out]
        go_wp2_with fail
        go_meet
        exact ⟨rfl, rfl⟩
      case rest =>
        obtain ⟨rfl, HW⟩ := hcut
        have hw := HW.out
        subst hw
        have HPK2 : Hid (Calls Tryz.prog 36 #[.pointer (some ⟨mb, 0, none⟩), .int .i64 (j : Int), .int .u64 v] w.drew fun e w' => e = .returned (.int .i64 0) ∧ Both W w' bx z mb mg x (ws.set j v) o n bd zd bw gw xd wd nd) := (HH.out.on ((Same.drew w).below _)).poke (by omega) v
        have y1' : w.drew.cell? ⟨g, off + i * 2, none⟩ = some (.int .i64 at0) := y1
        have y2' : w.drew.cell? ⟨g, off + i * 2 + 1, none⟩ = some (.int .u64 v) := y2
        have y3' : g < w.drew.heap.size := y3
        have hjN' : (j : Int) < (N : Int) := by omega
        have hgw : Hid (g ≠ gw) := fun q => by
          obtain ⟨G, qd, _, _, _, _, _, _, _, _, _, _, a⟩ := HH.out.ex
          have := a gw (by simp [dOwn])
          omega
        clear HPK
        go_upto_region 3 with (go_at_call 36; refine HPK2.out.mono ?_; rintro r u3 ⟨rfl, q⟩; have H3 := Lib.hid q; obtain ⟨x1, x2, x3⟩ := HB.out _ q.below; have d0 := q.words.cell0; rw [hd] at d0; have db := q.words.ltB; have df := q.words.freeG j; have dg := q.words.ltG; have dn := q.words.ne; have dw := q.words.word (i := j) (by omega); clear q HPK2)
        refine wp_region_seq (fun u => u.cell? ⟨g, off + i * 2 + 1, none⟩ = some (.int .u64 v) ∧ u.cell? ⟨bw, 0, none⟩ = some (.slice (some ⟨gw, 0, none⟩) N N) )  ((0, true) :: (1, true) :: (2, true) :: (3, true) :: (4, true) :: (5, true) :: (6, true) :: (7, true) :: (8, true) :: (9, true) :: (10, true) :: (11, false) :: [])  Md.Cv.follows13 (by kernel_rfl) (fun _ _ _ _ _ h => h)  ⟨x2, d0⟩ ?_
        (repeat (first | (refine wpSeq_take (v := ?_) rfl (by rfl) (fun wq hSq => ?_) ?_; rotate_left; (focus ((try dsimp only at hSq); go_simp; try with_reducible rfl)); simp only [Act.put, List.setIfInBounds_toArray, List.set_cons_zero, List.set_cons_succ]) | (refine wpSeq_skip rfl (by rfl) ?_; simp only [Act.put, List.setIfInBounds_toArray, List.set_cons_zero, List.set_cons_succ])))
        (refine wpSeq_do rfl (by rfl) (fun KK hK => ?_); go_simp)
        refine hK.out _ _ ⟨(World.cell?_setCell_far _ _ _ _ (fun q => hgw.out q.symm)).trans x2, (World.cell?_setCell_far _ _ _ _ (fun q => dn q.symm)).trans d0⟩ ?_
        (clear hK KK; try simp only [Act.put])
        refine wpSeq_nil ?_
        go_wp2_with fail
        go_end0
        exact ⟨rfl, (H3.out.setW j v).on ((Same.drew _).below _)⟩
    · rw [if_neg hat, if_neg hat]
      have hat' : at0 < 0 := by omega
      have HH := Lib.hid h
      clear h
      go_enter Tryz.func13, Tryz.ntmps13
      go_wp2_with fail
      ((try simp only [Exit.inBlock, Exit.then]); refine bodyPost_ret (results_none rfl _ _ _) rfl ?_)
      exact ⟨rfl, HH.out⟩
  · have hi' : (kp : Int) ≤ (i : Int) := by omega
    have hW : ∀ ws, pokeW lp i ws = ws := fun ws => by
      unfold pokeW
      rw [if_neg (fun y => hi (by omega))]
    rw [hW, hW]
    have HH := Lib.hid h
    clear h hW
    go_enter Tryz.func13, Tryz.ntmps13
    go_wp2_with fail
    ((try simp only [Exit.inBlock, Exit.then]); refine bodyPost_ret (results_none rfl _ _ _) rfl ?_)
    exact ⟨rfl, HH.out⟩
end
end Go.Proofs.YtninicfnhoediaaGreatDoor.Rr
namespace Go.Proofs.YtninicfnhoediaaGreatDoor.Rr
open Go.ChangeShapes Go.WideShapes Go.ChangeAt Go.RowKit Num

/-! P14.5: a reader waits for nobody -/
/-- a ride: all that lies behind it -/
structure RideAll (W : World) (cs : List Ins) (l : List Nat) (ao po : Option Addr) (n k : Nat) (lw : List Int) (pw : Option Addr) (kw : Nat) (lp : List (Int × Int)) (pp : Option Addr) (kp : Nat) : Prop where
  at_ : RideAt W cs l ao po n k
  words : UAt W pw lw
  wx : okW lw
  wl : lw.length = kw
  wb : kw ≤ 9223372036854775807
  pokes : PkAt W pp lp
  px : ∀ p ∈ lp, (-9223372036854775808 ≤ p.1 ∧ p.1 ≤ 9223372036854775807) ∧ u64B p.2
  pl : lp.length = kp
theorem RideAll.on {W w : World} {cs : List Ins} {l : List Nat} {ao po : Option Addr} {n k : Nat} {lw : List Int} {pw : Option Addr} {kw : Nat} {lp : List (Int × Int)} {pp : Option Addr} {kp : Nat} (h : RideAll W cs l ao po n k lw pw kw lp pp kp) (q : Below W.heap.size W w) : RideAll w cs l ao po n k lw pw kw lp pp kp := ⟨h.at_.on q, h.words.on q, h.wx, h.wl, h.wb, h.pokes.on q, h.px, h.pl⟩
theorem RideIn.all {W : World} {a b c e th t : Int} {ao : Option Addr} {cs : List Ins} {cap : Nat} {po : Option Addr} {l : List Nat} {co : Nat} {pw : Option Addr} {lw : List Int} {cw : Nat} {pp : Option Addr} {lp : List (Int × Int)} {cp : Nat} (h : RideIn W a b c e th t ao cs cap po l co pw lw cw pp lp cp) (hs : Shaped5 W) : RideAll W cs l ao po cs.length l.length lw pw lw.length lp pp lp.length := ⟨h.at_ hs, h.words, h.wx, rfl, h.wl, h.pokes, h.px, rfl⟩
set_option maxRecDepth 100000 in
theorem most_any (a b c e : Int) (w : World) (h : 0 ≤ c ∧ c ≤ 1000000) : Calls Tryz.prog 12 #[cfgV a b c e] w fun r w' => r = .returned (.int .i64 (c * 4 + 6)) ∧ Below w.heap.size w w' := by
  go_enter Tryz.func12, Tryz.ntmps12
  go_wp2_with fail
  go_ret
  exact ⟨rfl, below_alloc _ _⟩
/-- the reader in the midst, behind i steps -/
structure WtI (x0 x : Rx) (ws : List Int) (N i : Nat) (n : Int) : Prop where
  inx : InX x
  part : x.part ≠ 4
  st : x.steps = i
  al : Alike x0 x
  ok : okW ws
  len : ws.length = N
  cnt : 0 ≤ n ∧ n ≤ i
theorem plW_alike {x0 x : Rx} (h : Alike x0 x) : plW x = plW x0 := by unfold plW; rw [h.a, h.b]
theorem WtI.poke {x0 x : Rx} {ws : List Int} {N i : Nat} {n : Int} (h : WtI x0 x ws N i n) {lp : List (Int × Int)} (hp : ∀ p ∈ lp, (-9223372036854775808 ≤ p.1 ∧ p.1 ≤ 9223372036854775807) ∧ u64B p.2) : WtI x0 x (pokeW lp i ws) N i n := ⟨h.inx, h.part, h.st, h.al, pokeW_ok hp i h.ok, (pokeW_len _ _ _).trans h.len, h.cnt⟩
theorem WtI.bound {x0 x : Rx} {ws : List Int} {N i : Nat} {n : Int} (h : WtI x0 x ws N i n) : (i : Int) ≤ 4 * x0.m.fuel + 4 := by
  have := h.inx.few_steps.2 h.part
  rw [h.st, h.al.fuel] at this
  exact this
theorem up_in {n : Int} (h : 0 ≤ n ∧ n ≤ 1000000) : up n = n + 1 := Go.IntWalk.wrap64_in (n + 1) ⟨by omega, by omega⟩
/-- a step -/
theorem WtI.step {x0 x : Rx} {ws : List Int} {N i : Nat} {n : Int} (h : WtI x0 x ws N i n) (hf : x0.m.fuel ≤ 100000) {y : Rx} {ws' : List Int} {ac : Bool} (hy : stepX x ws = (y, ws', ac)) {n' : Int} (hn : (if ac then up n else n) = n') : InX y ∧ Alike x0 y ∧ y.steps = ((i + 1 : Nat) : Int) ∧ okW ws' ∧ ws'.length = N ∧ n ≤ n' ∧ n' ≤ n + 1 ∧ (y.part ≠ 4 → WtI x0 y ws' N (i + 1) n') ∧ (y.part = 4 → ws' = ws.set (3 + x0.th).toNat 0) := by
  obtain ⟨k1, k2, k3, k4, k5⟩ := step_in h.inx h.part h.ok
  have hb := h.bound
  have hc := h.cnt
  have hpt := h.inx.part
  have hpn := h.part
  have e0 : (stepX x ws).1 = y := by rw [hy]
  have e1 : (stepX x ws).2.1 = ws' := by rw [hy]
  rw [e0] at k1 k2 k3
  rw [e1] at k4 k5
  have hs : y.steps = ((i + 1 : Nat) : Int) := by rw [k3, h.st]; rfl
  have hm : n ≤ n' ∧ n' ≤ n + 1 := by
    rw [← hn]
    split
    · rw [up_in (by omega)]; omega
    · omega
  refine ⟨k1, h.al.trans k2, hs, k4, k5.trans h.len, hm.1, hm.2, fun q => ⟨k1, q, hs, h.al.trans k2, k4, k5.trans h.len, ⟨by omega, by omega⟩⟩, fun q => ?_⟩
  by_cases p1 : x.part = 1
  · exfalso
    rw [← e0] at q
    unfold stepX comeX tickX at q
    rw [if_pos p1] at q
    revert q
    dsimp only
    split
    · simp [p1]
    · split <;> simp [p1]
  · by_cases p3 : x.part = 3
    · rw [← e1, ← h.al.th]
      unfold stepX
      rw [if_neg p1, if_pos p3]
    · exfalso
      have := (run_in h.inx (by omega) h.ok).2.2.2
      rw [← e0] at q
      unfold stepX at q
      rw [if_neg p1, if_neg p3] at q
      dsimp only at q
      omega
theorem word_left {ws : List Int} {j : Int} (h0 : 0 ≤ j) (h1 : j < (ws.length : Int)) : wordAt (ws.set j.toNat 0) j = 0 := by
  unfold wordAt
  rw [List.getD_eq_getElem?_getD, List.getElem?_set_self (by omega)]
  rfl
end Go.Proofs.YtninicfnhoediaaGreatDoor.Rr
namespace Go.Proofs.YtninicfnhoediaaGreatDoor.Rr
open Go.ChangeShapes Go.WideShapes Go.ChangeAt Go.RowKit Num

section
variable {W w : World} {bx : Nat} {z : Rz} {mb mg : Nat} {x : Rx} {ws : List Int} {o : Bool} {n : Int} {bd : Nat} {zd : Dz} {bw gw : Nat} {xd : Rx} {wd : List Int} {nd : Int}
theorem Both.step (h : Both W w bx z mb mg x ws o n bd zd bw gw xd wd nd) (hs : Shaped5 W) (hI : InX x) (hp : x.part ≠ 4) (hl : plW x ≤ (ws.length : Int)) (hW : okW ws) {y : Rx} {ws' : List Int} {ac : Bool} (hy : stepX x ws = (y, ws', ac)) {n' : Int} (hn : (if ac then up n else n) = n') {ov : Bool} (hov : decide ((y.part : Int) = 4) = ov) : Calls Tryz.prog 14 #[.pointer (some ⟨bx, 0, none⟩), .pointer (some ⟨mb, 0, none⟩)] w fun r w' => r = .returned (.tuple #[.bool ov, .int .i64 0]) ∧ Both W w' bx z mb mg y ws' (!ac) n' bd zd bw gw xd wd nd := by
  obtain ⟨G, h1, h2, h3⟩ := h.p
  refine (step_any h1 (h2 hs) hI hp hl hW hy).mono ?_
  rintro r w' ⟨rfl, k⟩
  rw [hov]
  rw [hn] at k
  exact ⟨rfl, h3 _ _ _ _ _ k⟩
theorem Both.count (h : Both W w bx z mb mg x ws o n bd zd bw gw xd wd nd) : Calls Tryz.prog 24 #[.pointer (some ⟨mb, 0, none⟩)] w fun r w' => r = .returned (.int .i64 n) ∧ w' = w := Md.count_any h.mem
theorem Both.peek0 (h : Both W w bx z mb mg x ws o n bd zd bw gw xd wd nd) {j : Int} (h0 : 0 ≤ j) (h1 : j < (ws.length : Int)) {v : Int} (hv : wordAt ws j = v) : Calls Tryz.prog 25 #[.pointer (some ⟨mb, 0, none⟩), .int .i64 j] w fun r w' => r = .returned (.tuple #[.int .u64 v, .int .i64 0]) ∧ w' = w := by
  have := Md.peek_any h.mem j
  have hh : hasB ws j = true := by simp [hasB]; omega
  have he : errP ws j = 0 := by unfold errP; rw [if_pos hh]
  rw [if_pos hh, he, hv] at this
  exact this
theorem Both.plan (h : Both W w bx z mb mg x ws o n bd zd bw gw xd wd nd) : w.cell? ⟨bd, 2, none⟩ = some (.int .i64 2) ∧ w.cell? ⟨bd, 3, none⟩ = some (.int .i64 3) ∧ w.cell? ⟨bd, 4, none⟩ = some (.int .i64 (3 + xd.b)) ∧ bd < w.heap.size := by
  obtain ⟨qd, k⟩ := h.draw
  exact ⟨(k.cell 2).trans rfl, (k.cell 3).trans rfl, (k.cell 4).trans rfl, k.ltB⟩
theorem Both.deedS (h : Both W w bx z mb mg x ws o n bd zd bw gw xd wd nd) (hI : In0 x) {st : Int} (hst : x.steps = st) : Calls Tryz.prog 20 #[.pointer (some ⟨bx, 0, none⟩)] w fun r w' => ∃ t na m D mk e0 e1 e2, r = .returned (.agg (dC t na m D mk e0 e1 e2 st)) ∧ Below w.heap.size w w' := by
  obtain ⟨q, F, r, k⟩ := h.raw
  refine (Deed_any k hI rfl rfl rfl rfl rfl rfl).mono ?_
  rintro e w' ⟨D, q1, q2, q3⟩
  rw [hst] at q1
  exact ⟨_, _, _, D, _, _, _, _, q1, q3⟩
end
section
variable {W : World} {a b c e th t : Int} {ao : Option Addr} {cs : List Ins} {n cap : Nat} {po : Option Addr} {l : List Nat} {k co : Nat} {pw : Option Addr} {lw : List Int} {kw cw : Nat} {pp : Option Addr} {lp : List (Int × Int)} {kp cp : Nat}
attribute [local go_sem] deed_steps
set_option maxRecDepth 100000 in
set_option maxHeartbeats 4000000 in
theorem waits (h : RideAll W cs l ao po n k lw pw kw lp pp kp) : Calls Tryz.prog 5 #[.agg (rideV a b c e th t ao n cap po k co pw kw cw pp kp cp)] W fun r w' => r = .returned (.bool true) ∧ Below W.heap.size W w' := by
  obtain ⟨w1, hw1⟩ : ∃ w1, w1 = (W.alloc (.cells (rideV a b c e th t ao n cap po k co pw kw cw pp kp cp) 31)) := ⟨_, rfl⟩
  have H0 : Hid (Below W.heap.size W w1 ∧ w1.heap[W.heap.size]? = some (.cells (rideV a b c e th t ao n cap po k co pw kw cw pp kp cp) 31 (0, 0))) := by rw [hw1]; exact ⟨below_alloc _ _, heap_alloc_new _ _⟩
  have HL : Hid (Calls Tryz.prog 9 #[] w1 fun e w' => e = .returned (.bool true) ∧ Below w1.heap.size w1 w') := live_any (h.at_.sh.on H0.out.1)
  have HG : Hid (∀ u, Below w1.heap.size w1 u → Calls Tryz.prog 10 #[.agg (rideV a b c e th t ao n cap po k co pw kw cw pp kp cp)] u fun r w' => ∃ q1 q2, r = .returned (.tuple #[.pointer q1, .pointer q2]) ∧ Hid ((mayX a b c e k th = true ∧ ∃ bx bd, q1 = some ⟨bx, 0, none⟩ ∧ q2 = some ⟨bd, 0, none⟩ ∧ Bgn u w' bx bd (newX a b c e t cs l th) ao cs) ∨ (mayX a b c e k th = false ∧ q1 = none ∧ q2 = none ∧ Below u.heap.size u w'))) := fun u q => begun_any ((h.at_.on H0.out.1).on q)
  have HX := Lib.hid (h.on H0.out.1)
  have HRC : Hid (∀ u, Below w1.heap.size w1 u → u.cell? ⟨W.heap.size, 0, none⟩ = some (.int .i64 a) ∧ u.cell? ⟨W.heap.size, 1, none⟩ = some (.int .i64 b) ∧ u.cell? ⟨W.heap.size, 2, none⟩ = some (.int .i64 c) ∧ u.cell? ⟨W.heap.size, 3, none⟩ = some (.int .i64 e) ∧ u.cell? ⟨W.heap.size, 4, none⟩ = some (.int .i64 th) ∧ u.cell? ⟨W.heap.size, 5, none⟩ = some (.int .i64 t) ∧ u.cell? ⟨W.heap.size, 6, none⟩ = some (.slice ao n cap) ∧ u.cell? ⟨W.heap.size, 7, none⟩ = some (.slice po k co) ∧ u.cell? ⟨W.heap.size, 8, none⟩ = some (.slice pw kw cw) ∧ u.cell? ⟨W.heap.size, 9, none⟩ = some (.slice pp kp cp) ∧ W.heap.size < u.heap.size) := fun u q => ride_cells ((q.block _ (lt_of_block H0.out.2)).trans H0.out.2)
  clear h
  go_enter Tryz.func5, Tryz.ntmps5
  go_upto_region 3 with (first
    | (go_at_call 10; refine (HG.out _ H1.out).mono ?_; rintro r u2 ⟨q1, q2, rfl, H2⟩; clear HG)
    | (go_at_call 9; try simp only [← hw1]; refine HL.out.mono ?_; rintro r u1 ⟨rfl, q⟩; have H1 := Lib.hid q; obtain ⟨x0, x1, x2, x3, x4, x5, x6, x7, x8, x9, xb⟩ := HRC.out _ q; clear q HL))
  clear x0 x1 x2 x3 x4 x5 x6 x7 x8 x9 xb hw1
  rcases H2.out with ⟨hm, bx, bd, rfl, rfl, hB⟩ | ⟨hm, rfl, rfl, hB⟩
  rotate_left
  · have HB := Lib.hid (H0.out.1.trans ((H1.out.trans (hB.mono H1.out.size)).mono H0.out.1.size))
    clear hB H2
    go_wp2_with fail
    go_ret
    exact ⟨rfl, HB.out⟩
  have HI := Lib.hid (HX.out.at_.inX (t := t) hm)
  have hcf : Md.cfgB a b c e = true := by simp only [mayX, Bool.and_eq_true] at hm; exact hm.1.1
  obtain ⟨N, hN⟩ : ∃ N : Nat, 3 + b + 3 * a = (N : Int) := ⟨(3 + b + 3 * a).toNat, by have := Md.cfgB_iff.1 hcf; omega⟩
  have N1 : 1 ≤ N := by have := Md.cfgB_iff.1 hcf; omega
  have HFU : Hid (1 ≤ c ∧ c ≤ 100000) := by have := Md.cfgB_iff.1 hcf; exact ⟨by omega, by omega⟩
  have HB2 : Hid (Below w1.heap.size w1 u2) := H1.out.trans (hB.bl.mono H1.out.size)
  have HLA : Hid (Calls Tryz.prog 11 #[cfgV a b c e, .slice pw kw cw] u2 fun r w' => ∃ mb bw, r = .returned (.tuple #[.pointer (some ⟨mb, 0, none⟩), .pointer (some ⟨bw, 0, none⟩)]) ∧ Hid (∃ mg gw ws, Laid u2 w' N mb mg bw gw ws)) := laid_any hcf ((HX.out.on HB2.out).words) HX.out.wl HX.out.wx HX.out.wb hN
  have HBG := Lib.hid hB
  obtain ⟨x0, x1, x2, x3, x4, x5, x6, x7, x8, x9, xb⟩ := HRC.out _ HB2.out
  clear H2 hB
  go_upto_region 8 with (go_at_call 11; refine HLA.out.mono ?_; rintro r u3 ⟨mb, bw, rfl, H3⟩; clear HLA)
  have HN : Hid (3 + b + 3 * a = (N : Int)) := hN
  have HBO : Hid (∃ mg gw ws z zd, ws.length = N ∧ okW ws ∧ zd.cs = cs ∧ Both w1 u3 bx z mb mg (newX a b c e t cs l th) ws false 0 bd zd bw gw (newX a b c e t cs l th) ws 0) := by
    obtain ⟨mg, gw, ws, q⟩ := H3.out
    obtain ⟨z, zd, k1, k2⟩ := both_new H1.out HBG.out (by show (-1 : Int) < 0; omega) q.mem q.wds q.bl q.am q.ag q.aw q.av q.sep
    exact ⟨mg, gw, ws, z, zd, q.len, q.ok, k1, k2⟩
  obtain ⟨mg, gw, ws, z, zd, hwl, hwo, hzd, hbo⟩ := HBO.out
  have HB3 := Lib.hid hbo
  have HW3 : Hid (ws.length = N ∧ okW ws) := ⟨hwl, hwo⟩
  clear H3 HBO hbo hwl hwo hN hcf hm HBG HB2 x0 x1 x2 x3 x4 x5 x6 x7 x8 x9 xb
  obtain ⟨x0, hx0⟩ : ∃ x0, x0 = newX a b c e t cs l th := ⟨_, rfl⟩
  have HX0 : Hid (x0.m.fuel = c ∧ plW x0 = (N : Int) ∧ x0.th = th ∧ InX x0 ∧ x0.b = b ∧ x0.part = 1 ∧ x0.steps = 0) := by rw [hx0]; exact ⟨rfl, HN.out, rfl, HI.out, rfl, rfl, rfl⟩
  rw [← hx0] at HB3
  clear hx0 HI HN H1
  have HMO : Hid (∀ u, Calls Tryz.prog 12 #[cfgV a b c e] u fun r w' => r = .returned (.int .i64 (c * 4 + 6)) ∧ Below u.heap.size u w') := fun u => most_any a b c e u ⟨by have := HFU.out; omega, by have := HFU.out; omega⟩
  go_wp2_with fail
  go_loopw [8] (fun vi wr => ∃ i : Nat, vi = .int .i64 i ∧ Hid (∃ x ws wd o n nd, WtI x0 x ws N i n ∧ wd.length = N ∧ Both w1 wr bx z mb mg x ws o n bd zd bw gw x0 wd nd)) (fun vi _ => (c * 4 + 6).toNat - (intOf vi).toNat)
  case atStart => exact ⟨0, rfl, x0, ws, ws, false, 0, 0, ⟨HX0.out.2.2.2.1, by rw [HX0.out.2.2.2.2.2.1]; omega, HX0.out.2.2.2.2.2.2, Alike.refl _, HW3.out.2, HW3.out.1, by omega⟩, HW3.out.1, HB3.out⟩
  case round =>
    obtain ⟨i, rfl, HR⟩ := hrel
    clear HB3 HW3
    obtain ⟨x, ws, wd, o, n0, nd, hI, hwd, hB⟩ := HR.out
    have HW := Lib.hid hI
    have HB := Lib.hid hB
    obtain ⟨x0', x1', x2', x3', x4', x5', x6', x7', x8', x9', xb'⟩ := HRC.out _ hB.below
    clear HR hI hB
    have hb := HW.out.bound
    rw [HX0.out.1] at hb
    have hlt : (i : Int) < c * 4 + 6 := by omega
    obtain ⟨y, ws2, ac, hy⟩ : ∃ y ws2 ac, stepX x (pokeW lp i ws) = (y, ws2, ac) := ⟨_, _, _, rfl⟩
    obtain ⟨n', hn'⟩ : ∃ n', (if ac then up n0 else n0) = n' := ⟨_, rfl⟩
    have HS := Lib.hid ((HW.out.poke HX.out.px).step (by rw [HX0.out.1]; exact HFU.out.2) hy hn')
    have HPO : Hid (∀ u, Both w1 u bx z mb mg x ws o n0 bd zd bw gw x0 wd nd → Calls Tryz.prog 13 #[.pointer (some ⟨mb, 0, none⟩), .pointer (some ⟨bw, 0, none⟩), .slice pp kp cp, .int .i64 (i : Int)] u fun r w' => r = .returned (.tuple #[]) ∧ Both w1 w' bx z mb mg x (pokeW lp i ws) o n0 bd zd bw gw x0 (pokeW lp i wd) nd) := fun u q => pokes_any q HX.out.pokes HX.out.pl N1 HW.out.len hwd i
    have HCO : Hid (∀ u x ws o n wd nd, Both w1 u bx z mb mg x ws o n bd zd bw gw x0 wd nd → Calls Tryz.prog 24 #[.pointer (some ⟨mb, 0, none⟩)] u fun r w' => r = .returned (.int .i64 n) ∧ w' = u) := fun u x ws o n wd nd q => q.count
    have c1 : ¬ n' < n0 := by have := HS.out.2.2.2.2.2.1; omega
    have c2 : ¬ n0 + 1 < n' := by have := HS.out.2.2.2.2.2.2.1; omega
    have c3 : 0 ≤ n0 ∧ n0 ≤ i := HW.out.cnt
    have c4 : c ≤ 100000 := HFU.out.2
    by_cases hov : y.part = 4
    · have HST : Hid (∀ u, Both w1 u bx z mb mg x (pokeW lp i ws) o n0 bd zd bw gw x0 (pokeW lp i wd) nd → Calls Tryz.prog 14 #[.pointer (some ⟨bx, 0, none⟩), .pointer (some ⟨mb, 0, none⟩)] u fun r w' => r = .returned (.tuple #[.bool true, .int .i64 0]) ∧ Both w1 w' bx z mb mg y ws2 (!ac) n' bd zd bw gw x0 (pokeW lp i wd) nd) := fun u q => q.step HX.out.at_.sh HW.out.inx HW.out.part (by rw [plW_alike HW.out.al, HX0.out.2.1, pokeW_len, HW.out.len]; omega) (HW.out.poke HX.out.px).ok hy hn' (by rw [hov]; decide)
      have HT : Hid (0 ≤ 3 + th ∧ 3 + th < (ws2.length : Int) ∧ wordAt ws2 (3 + th) = 0 ∧ th < 100) := by
        have t0 := HX0.out.2.2.2.1.th
        rw [HX0.out.2.2.1] at t0
        have ta := HX0.out.2.2.2.1.ca
        have tb := HX0.out.2.2.2.1.cb
        have tp := HX0.out.2.1
        unfold plW at tp
        have e1 := HS.out.2.2.2.2.2.2.2.2 hov
        rw [HX0.out.2.2.1] at e1
        have e2 : (pokeW lp i ws).length = N := (pokeW_len _ _ _).trans HW.out.len
        refine ⟨by omega, by rw [HS.out.2.2.2.2.1]; omega, ?_, by omega⟩
        rw [e1]
        exact word_left (by omega) (by rw [e2]; omega)
      have HPE : Hid (∀ u, Both w1 u bx z mb mg y ws2 (!ac) n' bd zd bw gw x0 (pokeW lp i wd) nd → Calls Tryz.prog 25 #[.pointer (some ⟨mb, 0, none⟩), .int .i64 (3 + th)] u fun r w' => r = .returned (.tuple #[.int .u64 0, .int .i64 0]) ∧ w' = u) := fun u q => q.peek0 HT.out.1 HT.out.2.1 HT.out.2.2.1
      have HDE : Hid (∀ u, Both w1 u bx z mb mg y ws2 (!ac) n' bd zd bw gw x0 (pokeW lp i wd) nd → Calls Tryz.prog 20 #[.pointer (some ⟨bx, 0, none⟩)] u fun r w' => ∃ t na m D mk e0 e1 e2, r = .returned (.agg (dC t na m D mk e0 e1 e2 ((i : Int) + 1))) ∧ Below u.heap.size u w') := fun u q => q.deedS HS.out.1.toIn0 (by rw [HS.out.2.2.1]; rfl)
      have HWR : Hid (IntKind.i64.wrap (3 + th) = 3 + th) := Go.IntWalk.i64_in (3 + th) ⟨by have := HT.out.1; omega, by have := HT.out.2.2.2; omega⟩
      clear hy hn' hov hb
      go_upto_region 17 with (first
        | (go_at_call 12; refine (HMO.out _).mono ?_; rintro r u4 ⟨rfl, q⟩; have H4 := Lib.hid (HB.out.on q); obtain ⟨y0, y1, y2, y3, y4, y5, y6, y7, y8, y9, yb⟩ := HRC.out _ H4.out.below; clear q HMO)
        | (go_at_call 13; refine (HPO.out _ H4.out).mono ?_; rintro r u5 ⟨rfl, q⟩; have H5 := Lib.hid q; clear q HPO)
        | (go_at_call 14; refine (HST.out _ H5.out).mono ?_; rintro r u6 ⟨rfl, q⟩; have H6 := Lib.hid q; clear q HST H5)
        | (go_at_call 24; refine (HCO.out _ _ _ _ _ _ _ H5.out).mono ?_; rintro r u7 ⟨rfl, hw⟩; subst u7)
        | (go_at_call 24; refine (HCO.out _ _ _ _ _ _ _ H6.out).mono ?_; rintro r u7 ⟨rfl, hw⟩; subst u7))
      clear y0 y1 y2 y3 y4 y5 y6 y7 y8 y9 yb x0' x1' x2' x3' x4' x5' x6' x7' x8' x9' xb'
      obtain ⟨y0, y1, y2, y3, y4, y5, y6, y7, y8, y9, yb⟩ := HRC.out _ H6.out.below
      clear y0 y1 y2 y3 y5 y6 y7 y8 y9
      obtain ⟨d2, d3, d4, db⟩ := H6.out.plan
      go_cut [12, 13] (fun v12 v13 wc => v12 = .int .u64 0 ∧ v13 = .int .i64 0 ∧ Hid (Both w1 wc bx z mb mg y ws2 (!ac) n' bd zd bw gw x0 (pokeW lp i wd) nd))
      case first =>
        refine wp_region_seq (fun u => u.cell? ⟨bd, 3, none⟩ = some (.int .i64 3) ∧ u.cell? ⟨W.heap.size, 4, none⟩ = some (.int .i64 th) )  ((0, true) :: (1, true) :: (2, true) :: (3, true) :: (4, true) :: (5, true) :: (6, true) :: (7, true) :: (8, true) :: (9, false) :: (10, true) :: (11, true) :: (12, true) :: (13, true) :: (14, true) :: [])  Md.Cv.follows13 (by kernel_rfl) (fun _ _ _ _ _ h => h)  ⟨d3, y4⟩ ?_
        (repeat (first | (refine wpSeq_take (v := ?_) rfl (by rfl) (fun wq hSq => ?_) ?_; rotate_left; (focus ((try dsimp only at hSq); go_simp; try with_reducible rfl)); simp only [Act.put, List.setIfInBounds_toArray, List.set_cons_zero, List.set_cons_succ]) | (refine wpSeq_skip rfl (by rfl) ?_; simp only [Act.put, List.setIfInBounds_toArray, List.set_cons_zero, List.set_cons_succ])))
        rw [HWR.out]
        (refine wpSeq_do rfl (by rfl) (fun KK hK => ?_); go_simp)
        go_at_call 25
        refine (HPE.out _ (H6.out.on ((Same.drew _).below _))).mono ?_
        rintro r u7 ⟨rfl, hw⟩
        subst u7
        refine hK.out _ _ ⟨d3, y4⟩ ?_
        (clear hK KK; try simp only [Act.put, List.setIfInBounds_toArray, List.set_cons_zero, List.set_cons_succ])
        (repeat (first | (refine wpSeq_take (v := ?_) rfl (by rfl) (fun wq hSq => ?_) ?_; rotate_left; (focus ((try dsimp only at hSq); go_simp; try with_reducible rfl)); simp only [Act.put, List.setIfInBounds_toArray, List.set_cons_zero, List.set_cons_succ]) | (refine wpSeq_skip rfl (by rfl) ?_; simp only [Act.put, List.setIfInBounds_toArray, List.set_cons_zero, List.set_cons_succ])))
        refine wpSeq_nil ?_
        go_wp2_with fail
        go_meet
        exact ⟨rfl, rfl, H6.out.on ((Same.drew _).below _)⟩
      case rest =>
        obtain ⟨rfl, rfl, H7⟩ := hcut
        go_wp2_with (go_at_call 20; refine (HDE.out _ H7.out).mono ?_; rintro r u8 ⟨t', na, m, D, mk, g0, g1, g2, rfl, q⟩; have H8 : Hid (Below W.heap.size W u8) := H0.out.1.trans (((H7.out.on q).below).mono H0.out.1.size); clear q HDE)
        go_ret
        exact ⟨rfl, H8.out⟩
    · have HST : Hid (∀ u, Both w1 u bx z mb mg x (pokeW lp i ws) o n0 bd zd bw gw x0 (pokeW lp i wd) nd → Calls Tryz.prog 14 #[.pointer (some ⟨bx, 0, none⟩), .pointer (some ⟨mb, 0, none⟩)] u fun r w' => r = .returned (.tuple #[.bool false, .int .i64 0]) ∧ Both w1 w' bx z mb mg y ws2 (!ac) n' bd zd bw gw x0 (pokeW lp i wd) nd) := fun u q => q.step HX.out.at_.sh HW.out.inx HW.out.part (by rw [plW_alike HW.out.al, HX0.out.2.1, pokeW_len, HW.out.len]; omega) (HW.out.poke HX.out.px).ok hy hn' (decide_eq_false (by omega))
      have HN : Hid (WtI x0 y ws2 N (i + 1) n' ∧ (pokeW lp i wd).length = N) := ⟨HS.out.2.2.2.2.2.2.2.1 hov, (pokeW_len _ _ _).trans hwd⟩
      clear hy hn' hov hb
      go_wp2_with (first
        | (go_at_call 12; refine (HMO.out _).mono ?_; rintro r u4 ⟨rfl, q⟩; have H4 := Lib.hid (HB.out.on q); obtain ⟨y0, y1, y2, y3, y4, y5, y6, y7, y8, y9, yb⟩ := HRC.out _ H4.out.below; clear q HMO)
        | (go_at_call 13; refine (HPO.out _ H4.out).mono ?_; rintro r u5 ⟨rfl, q⟩; have H5 := Lib.hid q; clear q HPO)
        | (go_at_call 14; refine (HST.out _ H5.out).mono ?_; rintro r u6 ⟨rfl, q⟩; have H6 := Lib.hid q; clear q HST H5)
        | (go_at_call 24; refine (HCO.out _ _ _ _ _ _ _ H5.out).mono ?_; rintro r u7 ⟨rfl, hw⟩; subst u7)
        | (go_at_call 24; refine (HCO.out _ _ _ _ _ _ _ H6.out).mono ?_; rintro r u7 ⟨rfl, hw⟩; subst u7))
      exact ⟨⟨i + 1, by first | rfl | (congr 1), y, ws2, _, _, n', _, HN.out.1, HN.out.2, H6.out⟩, by simp [intOf]; omega⟩
end
end Go.Proofs.YtninicfnhoediaaGreatDoor.Rr
