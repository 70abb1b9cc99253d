import Derived.Test.YtaliehikdidiaaaDoorTie
import Derived.ProofKit
import Derived.LaidMore
import Derived.OpenShut
import Derived.Handed
import Derived.SizedLaws
import Derived.ChangeSame
import Derived.ChangeVars
import Derived.JoinedOf
import Derived.RowKitTokens
import Derived.LaidLaws
import Derived.LaidHandle
import Derived.MakeChecks
import Derived.Lib.LaidTab
import Derived.Stop.LaidErr
import Derived.Stop.Joined
import Derived.SevenTiedAt
import Derived.ChangeMaps5
import Derived.HandedShaped
import Derived.Deep.Slices
import Derived.Carry
import Derived.Test.YtaliehikdidiaaaDoorC5
namespace Go.Proofs.YtaliehikdidiaaaDoor
open Go.ChangeShapes Go.WideShapes Go.ChangeAt Go.RowKit Go.Deep
open Go.ChangeMaps (open_string shut_string)

theorem ownK : ownKnob Tryd.prog.godebug = none := by kernel_rfl
abbrev laid8 : List (String × DataW Unit) := Rows.dequeNumbersRow.laid
section
variable {H : Type} {enc : TypeId × Value → H} {w : World} {base : Nat} {sp : Nat → Bool} {held : Bool}
theorem shps_of {fuel : Nat} {cs : List Value} {p : List MemPlace}
    (h : DataW.trod enc Tryd.prog w base sp held fuel 78 cs = some (.agg (shpT.map fun s => .agg [.lit (.string s.word), .lit (.int .i64 s.kind), .lit (.int .i64 s.lo), .lit (.int .i64 s.hi), .lit (.int .i64 s.takes), .lit (.int .i64 s.lays)]), p)) :
    ∀ i, i < 21 → cs[i * 6]? = some (strB (shp i).word) ∧ cs[i * 6 + 1]? = some (.int .i64 (shp i).kind) ∧ cs[i * 6 + 2]? = some (.int .i64 (shp i).lo) ∧ cs[i * 6 + 3]? = some (.int .i64 (shp i).hi) ∧ cs[i * 6 + 4]? = some (.int .i64 (shp i).takes) ∧ cs[i * 6 + 5]? = some (.int .i64 (shp i).lays) := by
  have hce : Tryd.prog.cellsOf 77 = 6 := by kernel_rfl
  have hct : Tryd.prog.cellsOf 78 = 126 := by kernel_rfl
  have hcs : Tryd.prog.cellsOf 9 = 1 := by kernel_rfl
  have hci : Tryd.prog.cellsOf 3 = 1 := by kernel_rfl
  cases fuel with
  | zero => simp [DataW.trod] at h
  | succ fuel =>
    simp only [DataW.trod, Tryd.underlying78, hce, hct] at h
    split at h
    · obtain ⟨xs, hm, hx⟩ := Option.map_eq_some_iff.1 h
      have hxs := congrArg Prod.fst hx
      intro i hi
      obtain ⟨b, hb, hf⟩ := Lib.mapM_at hm i i (by simp [hi])
      have h2 : (xs.map (·.1))[i]? = some b.1 := by simp [hb]
      have hxs' : xs.map (·.1) = shpT.map fun s => (DataW.agg [.lit (.string s.word), .lit (.int .i64 s.kind), .lit (.int .i64 s.lo), .lit (.int .i64 s.hi), .lit (.int .i64 s.takes), .lit (.int .i64 s.lays)] : DataW H) := by simpa using hxs
      rw [hxs'] at h2
      have hi' : i < shpT.length := hi
      have hsi : shpT[i]? = some (shp i) := by
        unfold shp
        rw [List.getD_eq_getElem?_getD, List.getElem?_eq_getElem hi']
        rfl
      rw [List.getElem?_map, hsi] at h2
      simp only [Option.map_some, Option.some.injEq] at h2
      obtain ⟨ys, n, _, hy, _, hyl, hg⟩ := DataW.trod_struct Tryd.underlying77 hf
      match ys, hyl with
      | [y0, y1, y2, y3, y4, y5], _ =>
        have g0 := hg 0 _ rfl
        have g1 := hg 1 _ rfl
        have g2 := hg 2 _ rfl
        have g3 := hg 3 _ rfl
        have g4 := hg 4 _ rfl
        have g5 := hg 5 _ rfl
        change DataW.trod enc Tryd.prog w base sp held n 9 ((((cs.drop (i * 6)).take 6).drop 0).take (Tryd.prog.cellsOf 9)) = _ at g0
        rw [hcs] at g0
        change DataW.trod enc Tryd.prog w base sp held n 3 ((((cs.drop (i * 6)).take 6).drop 1).take (Tryd.prog.cellsOf 3)) = _ at g1
        rw [hci] at g1
        change DataW.trod enc Tryd.prog w base sp held n 3 ((((cs.drop (i * 6)).take 6).drop 2).take (Tryd.prog.cellsOf 3)) = _ at g2
        rw [hci] at g2
        change DataW.trod enc Tryd.prog w base sp held n 3 ((((cs.drop (i * 6)).take 6).drop 3).take (Tryd.prog.cellsOf 3)) = _ at g3
        rw [hci] at g3
        change DataW.trod enc Tryd.prog w base sp held n 3 ((((cs.drop (i * 6)).take 6).drop 4).take (Tryd.prog.cellsOf 3)) = _ at g4
        rw [hci] at g4
        change DataW.trod enc Tryd.prog w base sp held n 3 ((((cs.drop (i * 6)).take 6).drop 5).take (Tryd.prog.cellsOf 3)) = _ at g5
        rw [hci] at g5
        obtain ⟨s0, a0, b0, _⟩ := DataW.trod_string Tryd.underlying9 g0
        obtain ⟨s1, a1, b1, _⟩ := DataW.trod_int Tryd.underlying3 g1
        obtain ⟨s2, a2, b2, _⟩ := DataW.trod_int Tryd.underlying3 g2
        obtain ⟨s3, a3, b3, _⟩ := DataW.trod_int Tryd.underlying3 g3
        obtain ⟨s4, a4, b4, _⟩ := DataW.trod_int Tryd.underlying3 g4
        obtain ⟨s5, a5, b5, _⟩ := DataW.trod_int Tryd.underlying3 g5
        subst b0 b1 b2 b3 b4 b5
        rw [hy] at h2
        simp only [List.map_cons, List.map_nil, DataW.agg.injEq, List.cons.injEq, DataW.lit.injEq, Lit.string.injEq, Lit.int.injEq, true_and, and_true] at h2
        obtain ⟨e0, e1, e2, e3, e4, e5⟩ := h2
        have get : ∀ (o : Nat) (v : Value), (((cs.drop (i * 6)).take 6).drop o).take 1 = [v] → o < 6 → cs[i * 6 + o]? = some v := fun o v hv ho => by
          have := congrArg (·[0]?) hv
          simpa [List.getElem?_take, List.getElem?_drop, ho] using this
        refine ⟨?_, ?_, ?_, ?_, ?_, ?_⟩
        · have := get 0 _ a0 (by decide)
          rw [Nat.add_zero] at this
          rw [this, e0]
          rfl
        · rw [get 1 _ a1 (by decide), e1]
        · rw [get 2 _ a2 (by decide), e2]
        · rw [get 3 _ a3 (by decide), e3]
        · rw [get 4 _ a4 (by decide), e4]
        · rw [get 5 _ a5 (by decide), e5]
    · cases h
end
theorem shp_data : Rows.laid_beadle_code_shapes (H := Unit) = .agg (shpT.map fun s => .agg [.lit (.string s.word), .lit (.int .i64 s.kind), .lit (.int .i64 s.lo), .lit (.int .i64 s.hi), .lit (.int .i64 s.takes), .lit (.int .i64 s.lays)]) := by kernel_rfl
theorem of_laid8 {W : World} (h : laidMetH Tryd.prog laid8 W) : Shaped5 W := by
  rw [MakeChecks.laidMetH_plain _ _ _ (by kernel_rfl)] at h
  have hshp : laidMet Tryd.prog laid8 W := h
  unfold laid8 at hshp
  rw [show Rows.dequeNumbersRow.laid = [((Rows.dequeNumbersRow.laid.map (·.1)).getD 0 default, Rows.laid_beadle_code_shapes)] from rfl, shp_data] at hshp
  refine ⟨?_⟩
  · obtain ⟨ps, ⟨g', t', cs, fuel, p, q, hg', ht', hvar, hd, _, _⟩, _⟩ := hshp
    obtain rfl : t' = 78 := (Option.some.inj ((show (Tryd.prog.globals[g']?).map (·.type) = some 78 by rw [← Option.some.inj ((show Tryd.prog.globalNamed ((Rows.dequeNumbersRow.laid.map (·.1)).getD 0 default) = some 1 by kernel_rfl).symm.trans hg')]; kernel_rfl).symm.trans ht')).symm
    intro k hk
    obtain ⟨a0, a1, a2, a3, a4, a5⟩ := shps_of hd k hk
    have cell := fun i => World.var?_cell (show Tryd.prog.globalNamed ((Rows.dequeNumbersRow.laid.map (·.1)).getD 0 default) = some 1 by kernel_rfl) hvar i
    exact ⟨by rw [cell]; simpa using a0, by rw [cell]; simpa using a1, by rw [cell]; simpa using a2, by rw [cell]; simpa using a3, by rw [cell]; simpa using a4, by rw [cell]; simpa using a5⟩
theorem door_met (os : Os) (args : Array Value) : laidMetH Tryd.prog laid8 ((World.doorLaid Tryd.prog 400 os).forCall (fun _ _ => 0) ⟨#[], args, []⟩).memory :=
  laidMetH_of_parts3 (fuel := 8) (laidMet_of_run' 8 (by kernel_rfl) (by kernel_rfl)) (by kernel_rfl) (by kernel_rfl)
theorem laidOut : laidOutB Tryd.prog = true := by kernel_rfl
section
variable {H : Type} {enc : TypeId × Value → H}
/-- the wrap with a condition of one's own beside the shape of the world -/
theorem wrap5 {a : Assume} {C : Checked} {os : Os} {f : FuncId} {fn : Func} {s : ChangeSpec} {conds : List PathCond} {apart fresh handsOn again : Bool} {X : World → Array Value → Prop}
    (hX : ∀ (w w' : World) (args : Array Value), w.heap = w'.heap → X w args → X w' args)
    (own : ownKnob C.prog.godebug = none) (started : os.Started) (noInit : C.prog.inits.idxOf? f = none) (hfn : C.prog.funcs[f]? = some fn)
    (witness : ∃ (w : World) (tape : Tape) (i : Input), w.os = os ∧ (w.forCall tape i).Shaped C.prog ∧ i.vars = [] ∧ Input.okWide C.prog (w.forCall tape i) .any w.heap.size f i ∧
      ((s.pre enc C.prog fn conds apart (w.forCall tape i).memory i.args ∧ X (w.forCall tape i).memory i.args) ∧ sizedMet enc C.prog fn (OpenSpec.ofChange s) apart (w.forCall tape i).memory i.args) ∧ a.holds C.prog (lone (Frame.enter C.prog f i.args .normal) [] (w.forCall tape i)))
    (contract : ∀ (W : World) (base : Nat) (args : Array Value) (ds gs : List (DataW H)) (before : List MemPlace),
      (∀ (j : Nat) t v, fn.params[j]? = some t → args[j]? = some v → Value.okWide C.prog W .any base t v) →
      DataW.Whole enc C.prog fn.params.toList s.vars apart W args.toList ds gs before →
      (DataW.weightsEach C.prog (fn.params.toList ++ s.plain.varTypes C.prog) (ds ++ gs)).all (· ≤ reachBytes) = true → X W args → W.ShapedOpen C.prog →
      Calls C.prog f args W fun e W' => ∃ v, e = .returned v ∧ s.post enc C.prog fn apart fresh handsOn again W args v W') :
    ReturnsInHanded a C os f .any (fun w args => (s.pre enc C.prog fn conds apart w args ∧ X w args) ∧ sizedMet enc C.prog fn (OpenSpec.ofChange s) apart w args) (s.post enc C.prog fn apart fresh handsOn again) := by
  refine returnsInHanded_of_calls own started noInit witness fun w tape i _ hsh _ hok hpre _ => ?_
  obtain ⟨_, _, _, fn', hfn', _, _, _, _, hval⟩ := hok
  obtain rfl : fn' = fn := Option.some.inj (hfn'.symm.trans hfn)
  obtain ⟨⟨⟨ds, gs, before, hw, _⟩, hx⟩, hz⟩ := hpre
  exact (contract (w.forCall tape i) w.heap.size i.args ds gs before hval (DataW.Whole.of_heap (w' := w.forCall tape i) (by rfl) hw) (hz.weights hw) (hX _ _ _ (by rfl) hx) hsh).mono fun e W' ⟨v, he, hp⟩ => by
    subst he
    exact ChangeSpec.post_blind hp
theorem wf_f64 {b : Nat} (h : (Lit.float .f64 b).wf = true) : b < 18446744073709551616 := by simpa [Lit.wf] using h
theorem trod_f64w {P : Program} {t : TypeId} {w : World} {base : Nat} {sp : Nat → Bool} {held : Bool} {fuel : Nat} {cs : List Value} {x : DataW H × List MemPlace} (ht : P.underlying t = some (.float .f64)) (h : DataW.trod enc P w base sp held fuel t cs = some x) : ∃ b : Nat, cs = [.float .f64 b] ∧ (Lit.float .f64 b).wf = true := by
  cases fuel with
  | zero => simp [DataW.trod] at h
  | succ n =>
    unfold DataW.trod at h
    rw [ht] at h
    split at h <;> simp_all
theorem trod_f64 {w : World} {base : Nat} {sp : Nat → Bool} {held : Bool} {fuel : Nat} {cs : List Value} {x : DataW H × List MemPlace} (h : DataW.trod enc Tryd.prog w base sp held fuel 50 cs = some x) : ∃ b : Nat, cs = [.float .f64 b] ∧ b < 18446744073709551616 := by
  obtain ⟨b, h1, h2⟩ := trod_f64w Tryd.underlying50 h
  exact ⟨b, h1, wf_f64 h2⟩
set_option maxRecDepth 100000 in
theorem open_prog {W : World} {base : Nat} {v : Value} {d : DataW H} {ps : List MemPlace} (hval : Value.okWide Tryd.prog W .any base 24 v) (h : DataW.Trod enc Tryd.prog W 0 (fun _ => true) true 24 v d ps) :
    ∃ (t : Int) (ao : Option Addr) (c : List Ins) (cap : Nat), v = progV t ao c.length cap ∧ (c.length ≤ cap ∧ cap ≤ maxLen ∧ ∀ i ∈ c, i.x < 18446744073709551616) ∧ CodeAt W ao c := by
  have cellsP : Tryd.prog.cellsOf 24 = 2 := by kernel_rfl
  have cellsI : Tryd.prog.cellsOf 3 = 1 := by kernel_rfl
  have cellsF : Tryd.prog.cellsOf 50 = 1 := by kernel_rfl
  have cellsS : Tryd.prog.cellsOf 22 = 1 := by kernel_rfl
  have cellsO : Tryd.prog.cellsOf 63 = 3 := by kernel_rfl
  obtain ⟨cs, rfl, hsz⟩ := okWide_struct Tryd.underlying24 hval
  rw [cellsP] at hsz
  obtain ⟨l⟩ := cs
  match l, hsz with
  | [c0, c1], _ =>
    obtain ⟨fuel, hf⟩ := h
    obtain ⟨xs, n, _, _, _, hlen, hg⟩ := DataW.trod_struct Tryd.underlying24 hf
    match xs, hlen with
    | [y0, y1], _ =>
      have g0 := hg 0 _ rfl
      have g1 := hg 1 _ rfl
      simp [cellsI, cellsS, Value.cells] at g0 g1
      obtain ⟨t, e0, _, _⟩ := DataW.trod_int Tryd.underlying3 g0
      simp at e0
      subst e0
      rcases open_slice Tryd.underlying22 g1 with ⟨hcs, _⟩ | ⟨a, len, cap, m, n, D, Pl, hcs, _, hl, hm, hmm, _, hx⟩
      · simp at hcs
        subst hcs
        exact ⟨t, none, [], 0, rfl, ⟨Nat.le_refl _, Nat.zero_le _, fun i hi => by cases hi⟩, fun i hi => absurd hi (Nat.not_lt_zero i)⟩
      · simp at hcs
        subst hcs
        simp only [if_true] at hmm
        obtain ⟨b, off, spot⟩ := a
        have hs : 0 < len → spot = none := by
          intro h0
          obtain ⟨cs', h1, _⟩ := hx 0 (by omega)
          rw [cellsO] at h1
          obtain ⟨_, hlen, hcell⟩ := World.cells?_some h1
          match cs', hlen with
          | [c0, c1, c2], _ =>
            have f0 := hcell 0 (by omega)
            simpa [Addr.add] using World.cell?_spot f0
        have each : ∀ i, i < len → ∃ q : Ins, spot = none ∧ b < W.heap.size ∧ q.x < 18446744073709551616 ∧ W.cell? ⟨b, off + i * 3, none⟩ = some (.int .i64 q.op) ∧ W.cell? ⟨b, off + i * 3 + 1, none⟩ = some (.int .i64 q.n) ∧ W.cell? ⟨b, off + i * 3 + 2, none⟩ = some (.float .f64 q.x) := by
          intro i hi
          obtain ⟨cs', h1, h2⟩ := hx i (by omega)
          rw [cellsO] at h1
          obtain ⟨_, hlen, hcell⟩ := World.cells?_some h1
          obtain ⟨xs, k, _, _, _, hxl, hg⟩ := DataW.trod_struct Tryd.underlying63 h2
          match xs, hxl, cs', hlen with
          | [y0, y1, y2], _, [c0, c1, c2], _ =>
            have g0 := hg 0 _ rfl
            have g1 := hg 1 _ rfl
            have g2 := hg 2 _ rfl
            simp [cellsI, cellsF] at g0 g1 g2
            obtain ⟨x0, e0, _, _⟩ := DataW.trod_int Tryd.underlying3 g0
            obtain ⟨x1, e1, _, _⟩ := DataW.trod_int Tryd.underlying3 g1
            obtain ⟨x2, e2, hx2⟩ := trod_f64 g2
            simp at e0 e1 e2
            subst e0 e1 e2
            have f0 := hcell 0 (by omega)
            have f1 := hcell 1 (by omega)
            have f2 := hcell 2 (by omega)
            rw [add_add] at f0 f1 f2
            have hspot := hs (by omega)
            subst hspot
            rw [Go.WideShapes.add_plain] at f0 f1 f2
            exact ⟨⟨x0, x1, x2⟩, rfl, World.block_lt_of_cell? W _ f0, hx2, f0, f1, f2⟩
        have : Inhabited Ins := ⟨⟨0, 0, 0⟩⟩
        obtain ⟨q, hq⟩ := choose_lt each
        have hcl : ((List.range len).map q).length = len := by simp
        have hci : ∀ i, i < len → ci ((List.range len).map q) i = q i := fun i hi => by
          unfold ci
          simp [List.getD_eq_getElem?_getD, hi]
        refine ⟨t, some ⟨b, off, spot⟩, (List.range len).map q, cap, by rw [hcl]; rfl, ⟨by rw [hcl]; exact hl, hm, fun i hi => ?_⟩, fun i hi => ?_⟩
        · obtain ⟨j, hj, rfl⟩ := List.mem_map.1 hi
          exact (hq j (List.mem_range.1 hj)).2.2.1
        · rw [hcl] at hi
          rw [hci i hi]
          obtain ⟨rfl, h2, _, r⟩ := hq i hi
          exact ⟨b, off, rfl, h2, r⟩
theorem cellsIn : Tryd.prog.cellsOf 3 = 1 := by kernel_rfl
theorem cellsF : Tryd.prog.cellsOf 50 = 1 := by kernel_rfl
theorem bytesF : Tryd.prog.bytesOf 50 = 8 := by kernel_rfl
end
theorem all_of {l : List Nat} {b : Nat} (h : ∀ i, i < l.length → l.getD i 0 < b) : ∀ x ∈ l, x < b := fun x hx => by
  obtain ⟨i, hi, rfl⟩ := List.mem_iff_getElem.1 hx
  have := h i hi
  rwa [List.getD_eq_getElem?_getD, List.getElem?_eq_getElem hi] at this
end Go.Proofs.YtaliehikdidiaaaDoor
