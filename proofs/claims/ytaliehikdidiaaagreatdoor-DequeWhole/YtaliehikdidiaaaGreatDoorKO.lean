import Derived.Test.YtaliehikdidiaaaGreatDoorTie
import Derived.ProofKit
import Derived.LaidMore
import Derived.OpenShut
import Derived.Handed
import Derived.SizedLaws
import Derived.ChangeSame
import Derived.ChangeVars
import Derived.JoinedOf
import Derived.RowKitTokens
import Derived.LaidLaws
import Derived.LaidHandle
import Derived.MakeChecks
import Derived.Lib.LaidTab
import Derived.Stop.LaidErr
import Derived.Stop.Joined
import Derived.SevenTiedAt
import Derived.ChangeMaps5
import Derived.HandedShaped
import Derived.Deep.Slices
import Derived.Carry
import Derived.Test.YtaliehikdidiaaaGreatDoorC5
import Derived.Test.YtaliehikdidiaaaGreatDoorKJ
namespace Go.Proofs.YtaliehikdidiaaaGreatDoor
open Go.ChangeShapes Go.WideShapes Go.ChangeAt Go.RowKit Go.Deep
open Go.ChangeMaps (open_string shut_string)

theorem ownK : ownKnob Tryz.prog.godebug = none := by kernel_rfl
abbrev laid8 : List (String × DataW Unit) := Rows.dequeMakesRow.laid
section
variable {H : Type} {enc : TypeId × Value → H} {w : World} {base : Nat} {sp : Nat → Bool} {held : Bool}
theorem shps_of {fuel : Nat} {cs : List Value} {p : List MemPlace}
    (h : DataW.trod enc Tryz.prog w base sp held fuel 158 cs = some (.agg (shpT.map fun s => .agg [.lit (.string s.word), .lit (.int .i64 s.kind), .lit (.int .i64 s.lo), .lit (.int .i64 s.hi), .lit (.int .i64 s.takes), .lit (.int .i64 s.lays)]), p)) :
    ∀ i, i < 21 → cs[i * 6]? = some (strB (shp i).word) ∧ cs[i * 6 + 1]? = some (.int .i64 (shp i).kind) ∧ cs[i * 6 + 2]? = some (.int .i64 (shp i).lo) ∧ cs[i * 6 + 3]? = some (.int .i64 (shp i).hi) ∧ cs[i * 6 + 4]? = some (.int .i64 (shp i).takes) ∧ cs[i * 6 + 5]? = some (.int .i64 (shp i).lays) := by
  have hce : Tryz.prog.cellsOf 157 = 6 := by kernel_rfl
  have hct : Tryz.prog.cellsOf 158 = 126 := by kernel_rfl
  have hcs : Tryz.prog.cellsOf 9 = 1 := by kernel_rfl
  have hci : Tryz.prog.cellsOf 3 = 1 := by kernel_rfl
  cases fuel with
  | zero => simp [DataW.trod] at h
  | succ fuel =>
    simp only [DataW.trod, Tryz.underlying158, hce, hct] at h
    split at h
    · obtain ⟨xs, hm, hx⟩ := Option.map_eq_some_iff.1 h
      have hxs := congrArg Prod.fst hx
      intro i hi
      obtain ⟨b, hb, hf⟩ := Lib.mapM_at hm i i (by simp [hi])
      have h2 : (xs.map (·.1))[i]? = some b.1 := by simp [hb]
      have hxs' : xs.map (·.1) = shpT.map fun s => (DataW.agg [.lit (.string s.word), .lit (.int .i64 s.kind), .lit (.int .i64 s.lo), .lit (.int .i64 s.hi), .lit (.int .i64 s.takes), .lit (.int .i64 s.lays)] : DataW H) := by simpa using hxs
      rw [hxs'] at h2
      have hi' : i < shpT.length := hi
      have hsi : shpT[i]? = some (shp i) := by
        unfold shp
        rw [List.getD_eq_getElem?_getD, List.getElem?_eq_getElem hi']
        rfl
      rw [List.getElem?_map, hsi] at h2
      simp only [Option.map_some, Option.some.injEq] at h2
      obtain ⟨ys, n, _, hy, _, hyl, hg⟩ := DataW.trod_struct Tryz.underlying157 hf
      match ys, hyl with
      | [y0, y1, y2, y3, y4, y5], _ =>
        have g0 := hg 0 _ rfl
        have g1 := hg 1 _ rfl
        have g2 := hg 2 _ rfl
        have g3 := hg 3 _ rfl
        have g4 := hg 4 _ rfl
        have g5 := hg 5 _ rfl
        change DataW.trod enc Tryz.prog w base sp held n 9 ((((cs.drop (i * 6)).take 6).drop 0).take (Tryz.prog.cellsOf 9)) = _ at g0
        rw [hcs] at g0
        change DataW.trod enc Tryz.prog w base sp held n 3 ((((cs.drop (i * 6)).take 6).drop 1).take (Tryz.prog.cellsOf 3)) = _ at g1
        rw [hci] at g1
        change DataW.trod enc Tryz.prog w base sp held n 3 ((((cs.drop (i * 6)).take 6).drop 2).take (Tryz.prog.cellsOf 3)) = _ at g2
        rw [hci] at g2
        change DataW.trod enc Tryz.prog w base sp held n 3 ((((cs.drop (i * 6)).take 6).drop 3).take (Tryz.prog.cellsOf 3)) = _ at g3
        rw [hci] at g3
        change DataW.trod enc Tryz.prog w base sp held n 3 ((((cs.drop (i * 6)).take 6).drop 4).take (Tryz.prog.cellsOf 3)) = _ at g4
        rw [hci] at g4
        change DataW.trod enc Tryz.prog w base sp held n 3 ((((cs.drop (i * 6)).take 6).drop 5).take (Tryz.prog.cellsOf 3)) = _ at g5
        rw [hci] at g5
        obtain ⟨s0, a0, b0, _⟩ := DataW.trod_string Tryz.underlying9 g0
        obtain ⟨s1, a1, b1, _⟩ := DataW.trod_int Tryz.underlying3 g1
        obtain ⟨s2, a2, b2, _⟩ := DataW.trod_int Tryz.underlying3 g2
        obtain ⟨s3, a3, b3, _⟩ := DataW.trod_int Tryz.underlying3 g3
        obtain ⟨s4, a4, b4, _⟩ := DataW.trod_int Tryz.underlying3 g4
        obtain ⟨s5, a5, b5, _⟩ := DataW.trod_int Tryz.underlying3 g5
        subst b0 b1 b2 b3 b4 b5
        rw [hy] at h2
        simp only [List.map_cons, List.map_nil, DataW.agg.injEq, List.cons.injEq, DataW.lit.injEq, Lit.string.injEq, Lit.int.injEq, true_and, and_true] at h2
        obtain ⟨e0, e1, e2, e3, e4, e5⟩ := h2
        have get : ∀ (o : Nat) (v : Value), (((cs.drop (i * 6)).take 6).drop o).take 1 = [v] → o < 6 → cs[i * 6 + o]? = some v := fun o v hv ho => by
          have := congrArg (·[0]?) hv
          simpa [List.getElem?_take, List.getElem?_drop, ho] using this
        refine ⟨?_, ?_, ?_, ?_, ?_, ?_⟩
        · have := get 0 _ a0 (by decide)
          rw [Nat.add_zero] at this
          rw [this, e0]
          rfl
        · rw [get 1 _ a1 (by decide), e1]
        · rw [get 2 _ a2 (by decide), e2]
        · rw [get 3 _ a3 (by decide), e3]
        · rw [get 4 _ a4 (by decide), e4]
        · rw [get 5 _ a5 (by decide), e5]
    · cases h
end
theorem shp_data : Rows.laid_beadle_code_shapes (H := Unit) = .agg (shpT.map fun s => .agg [.lit (.string s.word), .lit (.int .i64 s.kind), .lit (.int .i64 s.lo), .lit (.int .i64 s.hi), .lit (.int .i64 s.takes), .lit (.int .i64 s.lays)]) := by kernel_rfl
theorem of_laid8 {W : World} (h : laidMetH Tryz.prog laid8 W) : Shaped5 W := by
  rw [MakeChecks.laidMetH_plain _ _ _ (by kernel_rfl)] at h
  have hshp : laidMet Tryz.prog laid8 W := h
  unfold laid8 at hshp
  rw [show Rows.dequeMakesRow.laid = [((Rows.dequeMakesRow.laid.map (·.1)).getD 0 default, Rows.laid_beadle_code_shapes)] from rfl, shp_data] at hshp
  refine ⟨?_⟩
  · obtain ⟨ps, ⟨g', t', cs, fuel, p, q, hg', ht', hvar, hd, _, _⟩, _⟩ := hshp
    obtain rfl : t' = 158 := (Option.some.inj ((show (Tryz.prog.globals[g']?).map (·.type) = some 158 by rw [← Option.some.inj ((show Tryz.prog.globalNamed ((Rows.dequeMakesRow.laid.map (·.1)).getD 0 default) = some 1 by kernel_rfl).symm.trans hg')]; kernel_rfl).symm.trans ht')).symm
    intro k hk
    obtain ⟨a0, a1, a2, a3, a4, a5⟩ := shps_of hd k hk
    have cell := fun i => World.var?_cell (show Tryz.prog.globalNamed ((Rows.dequeMakesRow.laid.map (·.1)).getD 0 default) = some 1 by kernel_rfl) hvar i
    exact ⟨by rw [cell]; simpa using a0, by rw [cell]; simpa using a1, by rw [cell]; simpa using a2, by rw [cell]; simpa using a3, by rw [cell]; simpa using a4, by rw [cell]; simpa using a5⟩
theorem door_met (os : Os) (args : Array Value) : laidMetH Tryz.prog laid8 ((World.doorLaid Tryz.prog 400 os).forCall (fun _ _ => 0) ⟨#[], args, []⟩).memory :=
  laidMetH_of_parts3 (fuel := 8) (laidMet_of_run' 8 (by kernel_rfl) (by kernel_rfl)) (by kernel_rfl) (by kernel_rfl)
theorem laidOut : laidOutB Tryz.prog = true := by kernel_rfl
section
variable {H : Type} {enc : TypeId × Value → H}
/-- the wrap with a condition of one's own beside the shape of the world -/
theorem wrap5 {a : Assume} {C : Checked} {os : Os} {f : FuncId} {fn : Func} {s : ChangeSpec} {conds : List PathCond} {apart fresh handsOn again : Bool} {X : World → Array Value → Prop}
    (hX : ∀ (w w' : World) (args : Array Value), w.heap = w'.heap → X w args → X w' args)
    (own : ownKnob C.prog.godebug = none) (started : os.Started) (noInit : C.prog.inits.idxOf? f = none) (hfn : C.prog.funcs[f]? = some fn)
    (witness : ∃ (w : World) (tape : Tape) (i : Input), w.os = os ∧ (w.forCall tape i).Shaped C.prog ∧ i.vars = [] ∧ Input.okWide C.prog (w.forCall tape i) .any w.heap.size f i ∧
      ((s.pre enc C.prog fn conds apart (w.forCall tape i).memory i.args ∧ X (w.forCall tape i).memory i.args) ∧ sizedMet enc C.prog fn (OpenSpec.ofChange s) apart (w.forCall tape i).memory i.args) ∧ a.holds C.prog (lone (Frame.enter C.prog f i.args .normal) [] (w.forCall tape i)))
    (contract : ∀ (W : World) (base : Nat) (args : Array Value) (ds gs : List (DataW H)) (before : List MemPlace),
      (∀ (j : Nat) t v, fn.params[j]? = some t → args[j]? = some v → Value.okWide C.prog W .any base t v) →
      DataW.Whole enc C.prog fn.params.toList s.vars apart W args.toList ds gs before →
      (DataW.weightsEach C.prog (fn.params.toList ++ s.plain.varTypes C.prog) (ds ++ gs)).all (· ≤ reachBytes) = true → X W args → W.ShapedOpen C.prog →
      Calls C.prog f args W fun e W' => ∃ v, e = .returned v ∧ s.post enc C.prog fn apart fresh handsOn again W args v W') :
    ReturnsInHanded a C os f .any (fun w args => (s.pre enc C.prog fn conds apart w args ∧ X w args) ∧ sizedMet enc C.prog fn (OpenSpec.ofChange s) apart w args) (s.post enc C.prog fn apart fresh handsOn again) := by
  refine returnsInHanded_of_calls own started noInit witness fun w tape i _ hsh _ hok hpre _ => ?_
  obtain ⟨_, _, _, fn', hfn', _, _, _, _, hval⟩ := hok
  obtain rfl : fn' = fn := Option.some.inj (hfn'.symm.trans hfn)
  obtain ⟨⟨⟨ds, gs, before, hw, _⟩, hx⟩, hz⟩ := hpre
  exact (contract (w.forCall tape i) w.heap.size i.args ds gs before hval (DataW.Whole.of_heap (w' := w.forCall tape i) (by rfl) hw) (hz.weights hw) (hX _ _ _ (by rfl) hx) hsh).mono fun e W' ⟨v, he, hp⟩ => by
    subst he
    exact ChangeSpec.post_blind hp
theorem wf_f64 {b : Nat} (h : (Lit.float .f64 b).wf = true) : b < 18446744073709551616 := by simpa [Lit.wf] using h
theorem trod_f64w {P : Program} {t : TypeId} {w : World} {base : Nat} {sp : Nat → Bool} {held : Bool} {fuel : Nat} {cs : List Value} {x : DataW H × List MemPlace} (ht : P.underlying t = some (.float .f64)) (h : DataW.trod enc P w base sp held fuel t cs = some x) : ∃ b : Nat, cs = [.float .f64 b] ∧ (Lit.float .f64 b).wf = true := by
  cases fuel with
  | zero => simp [DataW.trod] at h
  | succ n =>
    unfold DataW.trod at h
    rw [ht] at h
    split at h <;> simp_all
theorem trod_f64 {w : World} {base : Nat} {sp : Nat → Bool} {held : Bool} {fuel : Nat} {cs : List Value} {x : DataW H × List MemPlace} (h : DataW.trod enc Tryz.prog w base sp held fuel 74 cs = some x) : ∃ b : Nat, cs = [.float .f64 b] ∧ b < 18446744073709551616 := by
  obtain ⟨b, h1, h2⟩ := trod_f64w Tryz.underlying74 h
  exact ⟨b, h1, wf_f64 h2⟩
set_option maxRecDepth 100000 in
theorem open_prog {W : World} {base : Nat} {v : Value} {d : DataW H} {ps : List MemPlace} (hval : Value.okWide Tryz.prog W .any base 26 v) (h : DataW.Trod enc Tryz.prog W 0 (fun _ => true) true 26 v d ps) :
    ∃ (t : Int) (ao : Option Addr) (c : List Ins) (cap : Nat), v = progV t ao c.length cap ∧ (c.length ≤ cap ∧ cap ≤ maxLen ∧ ∀ i ∈ c, i.x < 18446744073709551616) ∧ CodeAt W ao c := by
  have cellsP : Tryz.prog.cellsOf 26 = 2 := by kernel_rfl
  have cellsI : Tryz.prog.cellsOf 3 = 1 := by kernel_rfl
  have cellsF : Tryz.prog.cellsOf 74 = 1 := by kernel_rfl
  have cellsS : Tryz.prog.cellsOf 24 = 1 := by kernel_rfl
  have cellsO : Tryz.prog.cellsOf 90 = 3 := by kernel_rfl
  obtain ⟨cs, rfl, hsz⟩ := okWide_struct Tryz.underlying26 hval
  rw [cellsP] at hsz
  obtain ⟨l⟩ := cs
  match l, hsz with
  | [c0, c1], _ =>
    obtain ⟨fuel, hf⟩ := h
    obtain ⟨xs, n, _, _, _, hlen, hg⟩ := DataW.trod_struct Tryz.underlying26 hf
    match xs, hlen with
    | [y0, y1], _ =>
      have g0 := hg 0 _ rfl
      have g1 := hg 1 _ rfl
      simp [cellsI, cellsS, Value.cells] at g0 g1
      obtain ⟨t, e0, _, _⟩ := DataW.trod_int Tryz.underlying3 g0
      simp at e0
      subst e0
      rcases open_slice Tryz.underlying24 g1 with ⟨hcs, _⟩ | ⟨a, len, cap, m, n, D, Pl, hcs, _, hl, hm, hmm, _, hx⟩
      · simp at hcs
        subst hcs
        exact ⟨t, none, [], 0, rfl, ⟨Nat.le_refl _, Nat.zero_le _, fun i hi => by cases hi⟩, fun i hi => absurd hi (Nat.not_lt_zero i)⟩
      · simp at hcs
        subst hcs
        simp only [if_true] at hmm
        obtain ⟨b, off, spot⟩ := a
        have hs : 0 < len → spot = none := by
          intro h0
          obtain ⟨cs', h1, _⟩ := hx 0 (by omega)
          rw [cellsO] at h1
          obtain ⟨_, hlen, hcell⟩ := World.cells?_some h1
          match cs', hlen with
          | [c0, c1, c2], _ =>
            have f0 := hcell 0 (by omega)
            simpa [Addr.add] using World.cell?_spot f0
        have each : ∀ i, i < len → ∃ q : Ins, spot = none ∧ b < W.heap.size ∧ q.x < 18446744073709551616 ∧ W.cell? ⟨b, off + i * 3, none⟩ = some (.int .i64 q.op) ∧ W.cell? ⟨b, off + i * 3 + 1, none⟩ = some (.int .i64 q.n) ∧ W.cell? ⟨b, off + i * 3 + 2, none⟩ = some (.float .f64 q.x) := by
          intro i hi
          obtain ⟨cs', h1, h2⟩ := hx i (by omega)
          rw [cellsO] at h1
          obtain ⟨_, hlen, hcell⟩ := World.cells?_some h1
          obtain ⟨xs, k, _, _, _, hxl, hg⟩ := DataW.trod_struct Tryz.underlying90 h2
          match xs, hxl, cs', hlen with
          | [y0, y1, y2], _, [c0, c1, c2], _ =>
            have g0 := hg 0 _ rfl
            have g1 := hg 1 _ rfl
            have g2 := hg 2 _ rfl
            simp [cellsI, cellsF] at g0 g1 g2
            obtain ⟨x0, e0, _, _⟩ := DataW.trod_int Tryz.underlying3 g0
            obtain ⟨x1, e1, _, _⟩ := DataW.trod_int Tryz.underlying3 g1
            obtain ⟨x2, e2, hx2⟩ := trod_f64 g2
            simp at e0 e1 e2
            subst e0 e1 e2
            have f0 := hcell 0 (by omega)
            have f1 := hcell 1 (by omega)
            have f2 := hcell 2 (by omega)
            rw [add_add] at f0 f1 f2
            have hspot := hs (by omega)
            subst hspot
            rw [Go.WideShapes.add_plain] at f0 f1 f2
            exact ⟨⟨x0, x1, x2⟩, rfl, World.block_lt_of_cell? W _ f0, hx2, f0, f1, f2⟩
        have : Inhabited Ins := ⟨⟨0, 0, 0⟩⟩
        obtain ⟨q, hq⟩ := choose_lt each
        have hcl : ((List.range len).map q).length = len := by simp
        have hci : ∀ i, i < len → ci ((List.range len).map q) i = q i := fun i hi => by
          unfold ci
          simp [List.getD_eq_getElem?_getD, hi]
        refine ⟨t, some ⟨b, off, spot⟩, (List.range len).map q, cap, by rw [hcl]; rfl, ⟨by rw [hcl]; exact hl, hm, fun i hi => ?_⟩, fun i hi => ?_⟩
        · obtain ⟨j, hj, rfl⟩ := List.mem_map.1 hi
          exact (hq j (List.mem_range.1 hj)).2.2.1
        · rw [hcl] at hi
          rw [hci i hi]
          obtain ⟨rfl, h2, _, r⟩ := hq i hi
          exact ⟨b, off, rfl, h2, r⟩
theorem cellsIn : Tryz.prog.cellsOf 3 = 1 := by kernel_rfl
theorem cellsC : Tryz.prog.cellsOf 48 = 4 := by kernel_rfl
set_option maxRecDepth 100000 in
theorem open_cfg {W : World} {base : Nat} {v : Value} {d : DataW H} {ps : List MemPlace} (hval : Value.okWide Tryz.prog W .any base 48 v) (h : DataW.Trod enc Tryz.prog W 0 (fun _ => true) true 48 v d ps) :
    ∃ a b c e : Int, v = .agg #[.int .i64 a, .int .i64 b, .int .i64 c, .int .i64 e] := by
  obtain ⟨cs, rfl, hsz⟩ := okWide_struct Tryz.underlying48 hval
  rw [cellsC] at hsz
  obtain ⟨l⟩ := cs
  match l, hsz with
  | [c0, c1, c2, c3], _ =>
    obtain ⟨fuel, hf⟩ := h
    obtain ⟨xs, n, _, _, _, hlen, hg⟩ := DataW.trod_struct Tryz.underlying48 hf
    match xs, hlen with
    | [y0, y1, y2, y3], _ =>
      have g0 := hg 0 _ rfl
      have g1 := hg 1 _ rfl
      have g2 := hg 2 _ rfl
      have g3 := hg 3 _ rfl
      simp [cellsIn, Value.cells] at g0 g1 g2 g3
      obtain ⟨a0, e0, _, _⟩ := DataW.trod_int Tryz.underlying3 g0
      obtain ⟨a1, e1, _, _⟩ := DataW.trod_int Tryz.underlying3 g1
      obtain ⟨a2, e2, _, _⟩ := DataW.trod_int Tryz.underlying3 g2
      obtain ⟨a3, e3, _, _⟩ := DataW.trod_int Tryz.underlying3 g3
      simp at e0 e1 e2 e3
      exact ⟨a0, a1, a2, a3, by rw [e0, e1, e2, e3]⟩
theorem cellsF : Tryz.prog.cellsOf 74 = 1 := by kernel_rfl
theorem bytesF : Tryz.prog.bytesOf 74 = 8 := by kernel_rfl
set_option maxRecDepth 100000 in
theorem open_fls {W : World} {base : Nat} {v : Value} {d : DataW H} {ps : List MemPlace} (hval : Value.okWide Tryz.prog W .any base 44 v) (h : DataW.Trod enc Tryz.prog W 0 (fun _ => true) true 44 v d ps) :
    ∃ ao cap l, v = .slice ao l.length cap ∧ (l.length ≤ maxLen ∧ ∀ i, i < l.length → l.getD i 0 < 18446744073709551616) ∧ (∀ {ts : List TypeId} {ds : List (DataW H)}, (DataW.weightsEach Tryz.prog ts ds).all (· ≤ reachBytes) = true → ∀ {j : Nat}, ts[j]? = some 44 → ds[j]? = some d → l.length * 8 ≤ reachBytes) ∧ FlAt W ao l := by
  obtain ⟨a0, len, cap, rfl⟩ := okWide_slice Tryz.underlying44 hval
  obtain ⟨fuel, hf⟩ := h
  rcases open_slice1 Tryz.underlying44 cellsF hf with ⟨hcs, _⟩ | ⟨a, len', cap', m, n, V, D, Pl, hcs, _, hl, hm, hmm, hd, hx⟩
  · simp [Value.cells] at hcs
    obtain ⟨rfl, rfl, rfl⟩ := hcs
    exact ⟨none, 0, [], rfl, ⟨Nat.zero_le _, fun i hi => absurd hi (Nat.not_lt_zero i)⟩, fun _ _ _ _ => by simp, fun i hi => absurd hi (Nat.not_lt_zero i)⟩
  · simp [Value.cells] at hcs
    obtain ⟨rfl, rfl, rfl⟩ := hcs
    simp only [if_true] at hmm
    have hd1 : d = .slice ((List.range len).map D) ((List.range (m - len)).map fun j => D (len + j)) := congrArg Prod.fst hd
    obtain ⟨b, off, spot⟩ := a
    have hs : 0 < len → spot = none := by
      intro h0
      obtain ⟨h1, _⟩ := hx 0 (by omega)
      simpa [Addr.add] using World.cell?_spot h1
    have each : ∀ i, i < len → ∃ q : Nat, spot = none ∧ b < W.heap.size ∧ q < 18446744073709551616 ∧ W.cell? ⟨b, off + i, none⟩ = some (.float .f64 q) := by
      intro i hi
      obtain ⟨h1, h2⟩ := hx i (by omega)
      obtain ⟨q, e, hq⟩ := trod_f64 h2
      simp at e
      rw [e] at h1
      have hs := hs (by omega)
      subst hs
      rw [Go.WideShapes.add_plain] at h1
      exact ⟨q, rfl, World.block_lt_of_cell? W _ h1, hq, h1⟩
    obtain ⟨q, hq⟩ := choose_lt each
    have hlen : ((List.range len).map q).length = len := by simp
    have hget : ∀ i, i < len → ((List.range len).map q).getD i 0 = q i := fun i hi => by simp [hi]
    refine ⟨some ⟨b, off, spot⟩, cap, (List.range len).map q, by rw [hlen], ⟨by rw [hlen]; omega, fun i hi => ?_⟩, fun {ts ds} hz {j} h1 h2 => ?_, fun i hi => ?_⟩
    · rw [hlen] at hi
      rw [hget i hi]
      exact (hq i hi).2.2.1
    · rw [hd1] at h2
      have := sized_slice hz h1 h2 Tryz.underlying44
      rw [bytesF] at this
      simp at this
      rw [hlen]
      omega
    · rw [hlen] at hi
      obtain ⟨rfl, r1, _, r3⟩ := hq i hi
      exact ⟨b, off, rfl, r1, by rw [hget i hi]; exact r3⟩
end
theorem all_of {l : List Nat} {b : Nat} (h : ∀ i, i < l.length → l.getD i 0 < b) : ∀ x ∈ l, x < b := fun x hx => by
  obtain ⟨i, hi, rfl⟩ := List.mem_iff_getElem.1 hx
  have := h i hi
  rwa [List.getD_eq_getElem?_getD, List.getElem?_eq_getElem hi] at this
end Go.Proofs.YtaliehikdidiaaaGreatDoor
