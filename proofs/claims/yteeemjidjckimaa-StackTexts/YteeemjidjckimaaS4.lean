import Derived.Test.YteeemjidjckimaaS3
import Derived.SizedLaws
namespace Go.Proofs.Yteeemjidjckimaa
open Go.ChangeShapes Go.WideShapes Go.ChangeAt Go.RowKit Go.Deep

theorem cellsO : Try.prog.cellsOf 32 = 3 := by kernel_rfl
theorem bytesO : Try.prog.bytesOf 32 = 32 := by kernel_rfl
theorem cellsS : Try.prog.cellsOf 9 = 1 := by kernel_rfl
/-- a script: len steps, each of two numbers and a text -/
def SopsAt (W : World) (ao : Option Addr) (len : Nat) (K A : Nat → Int) (V : Nat → ByteArray) : Prop :=
  ∀ i, i < len → ∃ b off, ao = some ⟨b, off, none⟩ ∧ b < W.heap.size ∧ W.cell? ⟨b, off + i * 3, none⟩ = some (.int .i64 (K i)) ∧ W.cell? ⟨b, off + i * 3 + 1, none⟩ = some (.int .i64 (A i)) ∧ W.cell? ⟨b, off + i * 3 + 2, none⟩ = some (.string (V i))
section
variable {H : Type} {enc : TypeId × Value → H}
theorem open_sops {W : World} {base : Nat} {v : Value} {d : DataW H} {ps : List MemPlace} (hval : Value.okWide Try.prog W .any base 28 v) (h : DataW.Trod enc Try.prog W 0 (fun _ => true) true 28 v d ps) :
    ∃ ao len cap K A V, v = .slice ao len cap ∧ len ≤ maxLen ∧ (∀ {ts : List TypeId} {ds : List (DataW H)}, (DataW.weightsEach Try.prog ts ds).all (· ≤ reachBytes) = true → ∀ {j : Nat}, ts[j]? = some 28 → ds[j]? = some d → len * 32 ≤ reachBytes) ∧ SopsAt W ao len K A V := by
  obtain ⟨a0, len, cap, rfl⟩ := okWide_slice Try.underlying28 hval
  obtain ⟨fuel, hf⟩ := h
  rcases open_slice Try.underlying28 hf with ⟨hcs, _⟩ | ⟨a, len', cap', m, n, D, Pl, hcs, _, hl, hm, hmm, hd, hx⟩
  · simp [Value.cells] at hcs
    obtain ⟨rfl, rfl, rfl⟩ := hcs
    exact ⟨none, 0, 0, fun _ => 0, fun _ => 0, fun _ => ⟨#[]⟩, rfl, Nat.zero_le _, fun _ _ _ _ => by simp, fun i hi => absurd hi (Nat.not_lt_zero i)⟩
  · simp [Value.cells] at hcs
    obtain ⟨rfl, rfl, rfl⟩ := hcs
    simp only [if_true] at hmm
    have hd1 : d = .slice ((List.range len).map D) ((List.range (m - len)).map fun j => D (len + j)) := congrArg Prod.fst hd
    obtain ⟨b, off, spot⟩ := a
    have hs : 0 < len → spot = none := by
      intro h0
      obtain ⟨cs', h1, _⟩ := hx 0 (by omega)
      rw [cellsO] at h1
      obtain ⟨_, hlen, hcell⟩ := World.cells?_some h1
      match cs', hlen with
      | [c0, c1, c2], _ =>
        have f0 := hcell 0 (by omega)
        simpa [Addr.add] using World.cell?_spot f0
    have each : ∀ i, i < len → ∃ q : Int × Int × ByteArray, spot = none ∧ b < W.heap.size ∧ W.cell? ⟨b, off + i * 3, none⟩ = some (.int .i64 q.1) ∧ W.cell? ⟨b, off + i * 3 + 1, none⟩ = some (.int .i64 q.2.1) ∧ W.cell? ⟨b, off + i * 3 + 2, none⟩ = some (.string q.2.2) := by
      intro i hi
      obtain ⟨cs', h1, h2⟩ := hx i (by omega)
      rw [cellsO] at h1
      obtain ⟨_, hlen, hcell⟩ := World.cells?_some h1
      obtain ⟨xs, k, _, _, _, hxl, hg⟩ := DataW.trod_struct Try.underlying32 h2
      match xs, hxl, cs', hlen with
      | [y0, y1, y2], _, [c0, c1, c2], _ =>
        have g0 := hg 0 _ rfl
        have g1 := hg 1 _ rfl
        have g2 := hg 2 _ rfl
        simp [cellsI, cellsS] at g0 g1 g2
        obtain ⟨x0, e0, _, _⟩ := DataW.trod_int Try.underlying3 g0
        obtain ⟨x1, e1, _, _⟩ := DataW.trod_int Try.underlying3 g1
        obtain ⟨x2, e2, _, _⟩ := DataW.trod_string Try.underlying9 g2
        simp at e0 e1 e2
        subst e0 e1 e2
        have f0 := hcell 0 (by omega)
        have f1 := hcell 1 (by omega)
        have f2 := hcell 2 (by omega)
        rw [add_add] at f0 f1 f2
        have hspot := hs (by omega)
        subst hspot
        rw [Go.WideShapes.add_plain] at f0 f1 f2
        have hb := World.block_lt_of_cell? W _ f0
        exact ⟨(x0, x1, x2), rfl, hb, f0, f1, f2⟩
    obtain ⟨q, hq⟩ := choose_lt each
    refine ⟨some ⟨b, off, spot⟩, len, cap, fun i => (q i).1, fun i => (q i).2.1, fun i => (q i).2.2, rfl, by omega, fun {ts ds} hz {j} h1 h2 => ?_, fun i hi => by
      obtain ⟨rfl, r⟩ := hq i hi
      exact ⟨b, off, rfl, r⟩⟩
    rw [hd1] at h2
    have := sized_slice hz h1 h2 Try.underlying28
    rw [bytesO] at this
    simp at this
    omega
end
/-- a block of three cells -/
theorem cells3 {w : World} {x : Nat} {v0 v1 v2 : Value} {T : TypeId} (h : w.heap[x]? = some (.cells #[v0, v1, v2] T (0, 0))) :
    w.cell? ⟨x, 0, none⟩ = some v0 ∧ w.cell? ⟨x, 1, none⟩ = some v1 ∧ w.cell? ⟨x, 2, none⟩ = some v2 ∧ x < w.heap.size :=
  ⟨by rw [cell_of_row w x 0 _ _ _ h]; rfl, by rw [cell_of_row w x 1 _ _ _ h]; rfl, by rw [cell_of_row w x 2 _ _ _ h]; rfl, lt_of_block h⟩
/-- both stacks, apart from one another and from all that was there -/
structure Play (T E : TypeId) (W w : World) (bm : Nat) (Fm : List Nat) (br : Nat) (Fr : List Nat) (xs : List Value) (l : List Int) (r : Int) : Prop where
  m : Stk T E w bm Fm xs r
  r : Stk 59 3 w br Fr (i64s l) r
  below : Below W.heap.size W w
  am : Abv W.heap.size Fm
  ar : Abv W.heap.size Fr
  ap : Sep Fm Fr
section
variable {T E : TypeId} {W w w' : World} {bm br : Nat} {Fm Fr : List Nat} {xs : List Value} {l : List Int} {r : Int}
theorem Play.onM {F' : List Nat} {xs' : List Value} (h : Play T E W w bm Fm br Fr xs l r) (hm : Stk T E w' bm F' xs' r) (ht : Turn Fm F' w w') : Play T E W w' bm F' br Fr xs' l r :=
  ⟨hm, h.r.turn ht h.ap.symm, turn_chain h.below ht h.am, h.am.turn h.below.size ht, h.ar, (h.ap.symm.turn h.r.blw ht).symm⟩
theorem Play.onR {F' : List Nat} {l' : List Int} (h : Play T E W w bm Fm br Fr xs l r) (hr : Stk 59 3 w' br F' (i64s l') r) (ht : Turn Fr F' w w') : Play T E W w' bm Fm br F' xs l' r :=
  ⟨h.m.turn ht h.ap, hr, turn_chain h.below ht h.ar, h.am, h.ar.turn h.below.size ht, h.ap.turn h.m.blw ht⟩
theorem Play.on (h : Play T E W w bm Fm br Fr xs l r) (hb : Below w.heap.size w w') : Play T E W w' bm Fm br Fr xs l r :=
  ⟨h.m.on hb, h.r.on hb, below_chain h.below hb, h.am, h.ar, h.ap⟩
theorem Play.same (h : Play T E W w bm Fm br Fr xs l r) (hb : Same w w') : Play T E W w' bm Fm br Fr xs l r := h.on (hb.below _)
theorem Play.alloc (h : Play T E W w bm Fm br Fr xs l r) (x : Obj) : Play T E W (w.alloc x) bm Fm br Fr xs l r := h.on ((Below.refl _ _).alloc (Nat.le_refl _) x)
/-- a clone in the stack's place, the old one left -/
theorem Play.clone {w1 : World} {nb : Nat} {F' F2 : List Nat} (h : Play T E W w bm Fm br Fr xs l r) (hm : Stk T E w1 nb F' xs r) (ha : Abv w.heap.size F') (hb : Below w.heap.size w w1) (ht : Turn Fm F2 w1 w') : Play T E W w' nb F' br Fr xs l r :=
  ⟨hm.turn ht (ha.sep h.m.blw), (h.r.on hb).turn ht h.ap.symm, turn_chain (below_chain h.below hb) ht h.am, ha.mono h.below.size, h.ar, ha.sep h.r.blw⟩
/-- a clone changed and left -/
theorem Play.leave {w1 : World} {F' F2 : List Nat} (h : Play T E W w bm Fm br Fr xs l r) (ha : Abv w.heap.size F') (hb : Below w.heap.size w w1) (ht : Turn F' F2 w1 w') : Play T E W w' bm Fm br Fr xs l r :=
  h.on (hb.trans (ht.below ha hb.size))
/-- what lies behind all of these -/
theorem Turn.new {F F' : List Nat} {w w' : World} {x : Obj} (ht : Turn F F' (w.alloc x) w') (hb : Blw w F) : w'.heap[w.heap.size]? = (w.alloc x).heap[w.heap.size]? :=
  ht.block _ (by simp) (fun q => absurd (hb _ q) (Nat.lt_irrefl _))
end
/-- both have come to the same -/
def Goes (W w : World) (bm br : Nat) (r : Int) : Prop := ∃ Fm Fr l, Play 57 3 W w bm Fm br Fr (i64s l) l r
theorem Goes.mk {W w : World} {bm br : Nat} {Fm Fr : List Nat} {l : List Int} {r : Int} (h : Play 57 3 W w bm Fm br Fr (i64s l) l r) : Goes W w bm br r := ⟨_, _, _, h⟩
section
variable {W w : World} {bm br b : Nat} {Fm Fr F : List Nat} {l : List Int} {r : Int}
set_option maxHeartbeats 2000000 in
set_option maxRecDepth 100000 in
theorem stir_any (h : Stk 57 3 w b F (i64s l) r) : Calls Try.prog 15 #[.pointer (some ⟨b, 0, none⟩)] w fun e w' => ∃ F', e = .returned (.tuple #[]) ∧ Turn F F' w w' := by
  have t1 : True := trivial
  have t2 : True := trivial
  have t3 : True := trivial
  have HS := Lib.hid h
  clear h
  go_enter Try.func15, Try.ntmps15
  go_wp2_with (first
    | (go_at_call 32; have _t := t1; refine (iPop_any HS.out).mono ?_; rintro e w1 ⟨F1, rfl, hm, hc⟩; have HS1 := Lib.hid hm; have HT1 := Lib.hid hc; clear hm hc t1)
    | (go_at_call 32; refine (iPop_any HS1.out).mono ?_; rintro e w2 ⟨F2, rfl, hm, hc⟩; have HS2 := Lib.hid hm; have HT2 := Lib.hid (HT1.out.trans hc); clear hm hc HS1 HT1)
    | (go_at_call 30; have _t := t2; refine (iPush_any HS2.out 77).mono ?_; rintro e w3 ⟨F3, rfl, hm, hc⟩; have HS3 := Lib.hid hm; have HT3 := Lib.hid (HT2.out.trans hc); clear hm hc t2)
    | (go_at_call 30; have _t := t3; refine (iPush_any HS3.out 78).mono ?_; rintro e w4 ⟨F4, rfl, hm, hc⟩; have HS4 := Lib.hid hm; have HT4 := Lib.hid (HT3.out.trans hc); clear hm hc t3)
    | (go_at_call 30; refine (iPush_any HS4.out 79).mono ?_; rintro e w5 ⟨F5, rfl, hm, hc⟩; have HT5 := Lib.hid (HT4.out.trans hc); clear hm hc))
  go_end0
  exact ⟨_, rfl, HT5.out⟩
end
end Go.Proofs.Yteeemjidjckimaa
