import Derived.Test.YtninicfnhoediaaGreatDoorTie
import Derived.ProofKit
import Derived.LaidMore
import Derived.OpenShut
import Derived.Handed
import Derived.SizedLaws
import Derived.ChangeSame
import Derived.ChangeVars
import Derived.JoinedOf
import Derived.RowKitTokens
import Derived.LaidLaws
import Derived.LaidHandle
import Derived.MakeChecks
import Derived.Lib.LaidTab
import Derived.Stop.LaidErr
import Derived.Stop.Joined
import Derived.SevenTiedAt
import Derived.ChangeMaps5
import Derived.HandedShaped
import Derived.Deep.Slices
import Derived.Carry
import Derived.Test.YtninicfnhoediaaGreatDoorC5
import Derived.Test.YtninicfnhoediaaGreatDoorKJ
import Derived.Test.YtninicfnhoediaaGreatDoorM2
import Derived.Deep.QuietTactic
import Derived.BigQuiet
import Derived.Laws.CopyRow
import Derived.Deep.RegionWith
import Derived.Test.YtninicfnhoediaaGreatDoorWalkB
import Derived.Deep.WholeRow
import Derived.Deep.RegionHeld
import Derived.Test.YtninicfnhoediaaGreatDoorSq
import Derived.Test.YtninicfnhoediaaGreatDoorKS
import Derived.Test.YtninicfnhoediaaGreatDoorR1
import Derived.Deep.AppendSrc
import Derived.Deep.MidRow
import Derived.Test.YtninicfnhoediaaGreatDoorK9
import Derived.Test.YtninicfnhoediaaGreatDoorK6
import Derived.Test.YtninicfnhoediaaGreatDoorKD
import Derived.Test.YtninicfnhoediaaGreatDoorC7
import Derived.Test.YtninicfnhoediaaGreatDoorKU
import Derived.Laws.MakeOwn
import Derived.Deep.RegionLaw
namespace Go.Proofs.YtninicfnhoediaaGreatDoor
open Go.ChangeShapes Go.WideShapes Go.ChangeAt Go.RowKit Go.Deep
open Go.ChangeMaps (open_string shut_string)
theorem ownK : ownKnob Tryz.prog.godebug = none := by kernel_rfl
abbrev laid8 : List (String × DataW Unit) := Rows.readerStepsRow.laid
section
variable {H : Type} {enc : TypeId × Value → H} {w : World} {base : Nat} {sp : Nat → Bool} {held : Bool}
theorem shps_of {fuel : Nat} {cs : List Value} {p : List MemPlace}
    (h : DataW.trod enc Tryz.prog w base sp held fuel 232 cs = some (.agg (shpT.map fun s => .agg [.lit (.string s.word), .lit (.int .i64 s.kind), .lit (.int .i64 s.lo), .lit (.int .i64 s.hi), .lit (.int .i64 s.takes), .lit (.int .i64 s.lays)]), p)) :
    ∀ i, i < 21 → cs[i * 6]? = some (strB (shp i).word) ∧ cs[i * 6 + 1]? = some (.int .i64 (shp i).kind) ∧ cs[i * 6 + 2]? = some (.int .i64 (shp i).lo) ∧ cs[i * 6 + 3]? = some (.int .i64 (shp i).hi) ∧ cs[i * 6 + 4]? = some (.int .i64 (shp i).takes) ∧ cs[i * 6 + 5]? = some (.int .i64 (shp i).lays) := by
  have hce : Tryz.prog.cellsOf 231 = 6 := by kernel_rfl
  have hct : Tryz.prog.cellsOf 232 = 126 := by kernel_rfl
  have hcs : Tryz.prog.cellsOf 9 = 1 := by kernel_rfl
  have hci : Tryz.prog.cellsOf 3 = 1 := by kernel_rfl
  cases fuel with
  | zero => simp [DataW.trod] at h
  | succ fuel =>
    simp only [DataW.trod, Tryz.underlying232, hce, hct] at h
    split at h
    · obtain ⟨xs, hm, hx⟩ := Option.map_eq_some_iff.1 h
      have hxs := congrArg Prod.fst hx
      intro i hi
      obtain ⟨b, hb, hf⟩ := Lib.mapM_at hm i i (by simp [hi])
      have h2 : (xs.map (·.1))[i]? = some b.1 := by simp [hb]
      have hxs' : xs.map (·.1) = shpT.map fun s => (DataW.agg [.lit (.string s.word), .lit (.int .i64 s.kind), .lit (.int .i64 s.lo), .lit (.int .i64 s.hi), .lit (.int .i64 s.takes), .lit (.int .i64 s.lays)] : DataW H) := by simpa using hxs
      rw [hxs'] at h2
      have hi' : i < shpT.length := hi
      have hsi : shpT[i]? = some (shp i) := by
        unfold shp
        rw [List.getD_eq_getElem?_getD, List.getElem?_eq_getElem hi']
        rfl
      rw [List.getElem?_map, hsi] at h2
      simp only [Option.map_some, Option.some.injEq] at h2
      obtain ⟨ys, n, _, hy, _, hyl, hg⟩ := DataW.trod_struct Tryz.underlying231 hf
      match ys, hyl with
      | [y0, y1, y2, y3, y4, y5], _ =>
        have g0 := hg 0 _ rfl
        have g1 := hg 1 _ rfl
        have g2 := hg 2 _ rfl
        have g3 := hg 3 _ rfl
        have g4 := hg 4 _ rfl
        have g5 := hg 5 _ rfl
        change DataW.trod enc Tryz.prog w base sp held n 9 ((((cs.drop (i * 6)).take 6).drop 0).take (Tryz.prog.cellsOf 9)) = _ at g0
        rw [hcs] at g0
        change DataW.trod enc Tryz.prog w base sp held n 3 ((((cs.drop (i * 6)).take 6).drop 1).take (Tryz.prog.cellsOf 3)) = _ at g1
        rw [hci] at g1
        change DataW.trod enc Tryz.prog w base sp held n 3 ((((cs.drop (i * 6)).take 6).drop 2).take (Tryz.prog.cellsOf 3)) = _ at g2
        rw [hci] at g2
        change DataW.trod enc Tryz.prog w base sp held n 3 ((((cs.drop (i * 6)).take 6).drop 3).take (Tryz.prog.cellsOf 3)) = _ at g3
        rw [hci] at g3
        change DataW.trod enc Tryz.prog w base sp held n 3 ((((cs.drop (i * 6)).take 6).drop 4).take (Tryz.prog.cellsOf 3)) = _ at g4
        rw [hci] at g4
        change DataW.trod enc Tryz.prog w base sp held n 3 ((((cs.drop (i * 6)).take 6).drop 5).take (Tryz.prog.cellsOf 3)) = _ at g5
        rw [hci] at g5
        obtain ⟨s0, a0, b0, _⟩ := DataW.trod_string Tryz.underlying9 g0
        obtain ⟨s1, a1, b1, _⟩ := DataW.trod_int Tryz.underlying3 g1
        obtain ⟨s2, a2, b2, _⟩ := DataW.trod_int Tryz.underlying3 g2
        obtain ⟨s3, a3, b3, _⟩ := DataW.trod_int Tryz.underlying3 g3
        obtain ⟨s4, a4, b4, _⟩ := DataW.trod_int Tryz.underlying3 g4
        obtain ⟨s5, a5, b5, _⟩ := DataW.trod_int Tryz.underlying3 g5
        subst b0 b1 b2 b3 b4 b5
        rw [hy] at h2
        simp only [List.map_cons, List.map_nil, DataW.agg.injEq, List.cons.injEq, DataW.lit.injEq, Lit.string.injEq, Lit.int.injEq, true_and, and_true] at h2
        obtain ⟨e0, e1, e2, e3, e4, e5⟩ := h2
        have get : ∀ (o : Nat) (v : Value), (((cs.drop (i * 6)).take 6).drop o).take 1 = [v] → o < 6 → cs[i * 6 + o]? = some v := fun o v hv ho => by
          have := congrArg (·[0]?) hv
          simpa [List.getElem?_take, List.getElem?_drop, ho] using this
        refine ⟨?_, ?_, ?_, ?_, ?_, ?_⟩
        · have := get 0 _ a0 (by decide)
          rw [Nat.add_zero] at this
          rw [this, e0]
          rfl
        · rw [get 1 _ a1 (by decide), e1]
        · rw [get 2 _ a2 (by decide), e2]
        · rw [get 3 _ a3 (by decide), e3]
        · rw [get 4 _ a4 (by decide), e4]
        · rw [get 5 _ a5 (by decide), e5]
    · cases h
end
theorem shp_data : Rows.laid_beadle_code_shapes (H := Unit) = .agg (shpT.map fun s => .agg [.lit (.string s.word), .lit (.int .i64 s.kind), .lit (.int .i64 s.lo), .lit (.int .i64 s.hi), .lit (.int .i64 s.takes), .lit (.int .i64 s.lays)]) := by kernel_rfl
theorem of_laid8 {W : World} (h : laidMetH Tryz.prog laid8 W) : Shaped5 W := by
  rw [MakeChecks.laidMetH_plain _ _ _ (by kernel_rfl)] at h
  have hshp : laidMet Tryz.prog laid8 W := h
  unfold laid8 at hshp
  rw [show Rows.readerStepsRow.laid = [((Rows.readerStepsRow.laid.map (·.1)).getD 0 default, Rows.laid_beadle_code_shapes)] from rfl, shp_data] at hshp
  refine ⟨?_⟩
  · obtain ⟨ps, ⟨g', t', cs, fuel, p, q, hg', ht', hvar, hd, _, _⟩, _⟩ := hshp
    obtain rfl : t' = 232 := (Option.some.inj ((show (Tryz.prog.globals[g']?).map (·.type) = some 232 by rw [← Option.some.inj ((show Tryz.prog.globalNamed ((Rows.readerStepsRow.laid.map (·.1)).getD 0 default) = some 1 by kernel_rfl).symm.trans hg')]; kernel_rfl).symm.trans ht')).symm
    intro k hk
    obtain ⟨a0, a1, a2, a3, a4, a5⟩ := shps_of hd k hk
    have cell := fun i => World.var?_cell (show Tryz.prog.globalNamed ((Rows.readerStepsRow.laid.map (·.1)).getD 0 default) = some 1 by kernel_rfl) hvar i
    exact ⟨by rw [cell]; simpa using a0, by rw [cell]; simpa using a1, by rw [cell]; simpa using a2, by rw [cell]; simpa using a3, by rw [cell]; simpa using a4, by rw [cell]; simpa using a5⟩
theorem door_met (os : Os) (args : Array Value) : laidMetH Tryz.prog laid8 ((World.doorLaid Tryz.prog 400 os).forCall (fun _ _ => 0) ⟨#[], args, []⟩).memory :=
  laidMetH_of_parts3 (fuel := 8) (laidMet_of_run' 8 (by kernel_rfl) (by kernel_rfl)) (by kernel_rfl) (by kernel_rfl)
theorem laidOut : laidOutB Tryz.prog = true := by kernel_rfl
section
variable {H : Type} {enc : TypeId × Value → H}
/-- the wrap with a condition of one's own beside the shape of the world -/
theorem wrap5 {a : Assume} {C : Checked} {os : Os} {f : FuncId} {fn : Func} {s : ChangeSpec} {conds : List PathCond} {apart fresh handsOn again : Bool} {X : World → Array Value → Prop}
    (hX : ∀ (w w' : World) (args : Array Value), w.heap = w'.heap → X w args → X w' args)
    (own : ownKnob C.prog.godebug = none) (started : os.Started) (noInit : C.prog.inits.idxOf? f = none) (hfn : C.prog.funcs[f]? = some fn)
    (witness : ∃ (w : World) (tape : Tape) (i : Input), w.os = os ∧ (w.forCall tape i).Shaped C.prog ∧ i.vars = [] ∧ Input.okWide C.prog (w.forCall tape i) .any w.heap.size f i ∧
      ((s.pre enc C.prog fn conds apart (w.forCall tape i).memory i.args ∧ X (w.forCall tape i).memory i.args) ∧ sizedMet enc C.prog fn (OpenSpec.ofChange s) apart (w.forCall tape i).memory i.args) ∧ a.holds C.prog (lone (Frame.enter C.prog f i.args .normal) [] (w.forCall tape i)))
    (contract : ∀ (W : World) (base : Nat) (args : Array Value) (ds gs : List (DataW H)) (before : List MemPlace),
      (∀ (j : Nat) t v, fn.params[j]? = some t → args[j]? = some v → Value.okWide C.prog W .any base t v) →
      DataW.Whole enc C.prog fn.params.toList s.vars apart W args.toList ds gs before →
      (DataW.weightsEach C.prog (fn.params.toList ++ s.plain.varTypes C.prog) (ds ++ gs)).all (· ≤ reachBytes) = true → X W args → W.ShapedOpen C.prog →
      Calls C.prog f args W fun e W' => ∃ v, e = .returned v ∧ s.post enc C.prog fn apart fresh handsOn again W args v W') :
    ReturnsInHanded a C os f .any (fun w args => (s.pre enc C.prog fn conds apart w args ∧ X w args) ∧ sizedMet enc C.prog fn (OpenSpec.ofChange s) apart w args) (s.post enc C.prog fn apart fresh handsOn again) := by
  refine returnsInHanded_of_calls own started noInit witness fun w tape i _ hsh _ hok hpre _ => ?_
  obtain ⟨_, _, _, fn', hfn', _, _, _, _, hval⟩ := hok
  obtain rfl : fn' = fn := Option.some.inj (hfn'.symm.trans hfn)
  obtain ⟨⟨⟨ds, gs, before, hw, _⟩, hx⟩, hz⟩ := hpre
  exact (contract (w.forCall tape i) w.heap.size i.args ds gs before hval (DataW.Whole.of_heap (w' := w.forCall tape i) (by rfl) hw) (hz.weights hw) (hX _ _ _ (by rfl) hx) hsh).mono fun e W' ⟨v, he, hp⟩ => by
    subst he
    exact ChangeSpec.post_blind hp
theorem wf_f64 {b : Nat} (h : (Lit.float .f64 b).wf = true) : b < 18446744073709551616 := by simpa [Lit.wf] using h
theorem trod_f64w {P : Program} {t : TypeId} {w : World} {base : Nat} {sp : Nat → Bool} {held : Bool} {fuel : Nat} {cs : List Value} {x : DataW H × List MemPlace} (ht : P.underlying t = some (.float .f64)) (h : DataW.trod enc P w base sp held fuel t cs = some x) : ∃ b : Nat, cs = [.float .f64 b] ∧ (Lit.float .f64 b).wf = true := by
  cases fuel with
  | zero => simp [DataW.trod] at h
  | succ n =>
    unfold DataW.trod at h
    rw [ht] at h
    split at h <;> simp_all
theorem trod_f64 {w : World} {base : Nat} {sp : Nat → Bool} {held : Bool} {fuel : Nat} {cs : List Value} {x : DataW H × List MemPlace} (h : DataW.trod enc Tryz.prog w base sp held fuel 71 cs = some x) : ∃ b : Nat, cs = [.float .f64 b] ∧ b < 18446744073709551616 := by
  obtain ⟨b, h1, h2⟩ := trod_f64w Tryz.underlying71 h
  exact ⟨b, h1, wf_f64 h2⟩
theorem cellsF : Tryz.prog.cellsOf 71 = 1 := by kernel_rfl
theorem bytesF : Tryz.prog.bytesOf 71 = 8 := by kernel_rfl
end
end Go.Proofs.YtninicfnhoediaaGreatDoor
namespace Go.Proofs.YtninicfnhoediaaGreatDoor.Md
open Go.ChangeShapes Go.WideShapes Go.ChangeAt Go.RowKit
set_option maxRecDepth 100000 in
set_option maxHeartbeats 1000000 in
theorem loadAct_any (w : World) (pm pa pt b g k n : Nat) (x : Int) (u : Value) (h0 : w.cell? ⟨pm, 0, none⟩ = some (.pointer (some ⟨b, 0, none⟩))) (h1 : w.cell? ⟨pa, 0, none⟩ = some (.int .i64 k)) (h2 : w.cell? ⟨b, 0, none⟩ = some (.slice (some ⟨g, 0, none⟩) n n)) (h3 : w.cell? ⟨g, k, none⟩ = some (.int .u64 x)) (hk : (k : Int) < (n : Int)) (h4 : w.cell? ⟨pt, 0, none⟩ = some u) (h5 : w.frozen? ⟨pt, 0, none⟩ = false) :
    Calls Tryz.prog 55 #[.pointer (some ⟨pm, 0, none⟩), .pointer (some ⟨pa, 0, none⟩), .pointer (some ⟨pt, 0, none⟩)] w fun e w' => e = .returned (.tuple #[]) ∧ w' = (w.setCell ⟨pt, 0, none⟩ (.int .u64 x)).drew := by
  go_enter Tryz.func55, Tryz.ntmps55
  go_wp2
  go_region
  all_goals (try go_wp2)
  all_goals go_end0
  all_goals exact ⟨rfl, rfl⟩
set_option maxRecDepth 100000 in
set_option maxHeartbeats 1000000 in
theorem storeAct_any (w : World) (pm pa pv b g k n : Nat) (x v : Int) (h0 : w.cell? ⟨pm, 0, none⟩ = some (.pointer (some ⟨b, 0, none⟩))) (h1 : w.cell? ⟨pa, 0, none⟩ = some (.int .i64 k)) (h2 : w.cell? ⟨b, 0, none⟩ = some (.slice (some ⟨g, 0, none⟩) n n)) (h3 : w.cell? ⟨g, k, none⟩ = some (.int .u64 x)) (hk : (k : Int) < (n : Int)) (h4 : w.cell? ⟨pv, 0, none⟩ = some (.int .u64 v)) (h5 : w.frozen? ⟨g, k, none⟩ = false) :
    Calls Tryz.prog 147 #[.pointer (some ⟨pv, 0, none⟩), .pointer (some ⟨pm, 0, none⟩), .pointer (some ⟨pa, 0, none⟩)] w fun e w' => e = .returned (.tuple #[]) ∧ w' = (w.setCell ⟨g, k, none⟩ (.int .u64 v)).drew := by
  go_enter Tryz.func147, Tryz.ntmps147
  go_wp2
  go_region
  all_goals (try go_wp2)
  all_goals go_end0
  all_goals exact ⟨rfl, rfl⟩
end Go.Proofs.YtninicfnhoediaaGreatDoor.Md
namespace Go.Proofs.YtninicfnhoediaaGreatDoor.Md
open Go.ChangeShapes Go.WideShapes Go.ChangeAt Go.RowKit
section
variable {w : World} {b g : Nat} {ws : List Int} {o : Bool} {c : Int}
theorem access_none (h : MemAt 123 w b g ws o c) (i : Int) (hi : hasB ws i = false) (f : Fn) (first cap : Array Value) : Calls Tryz.prog 54 #[.pointer (some ⟨b, 0, none⟩), .int .i64 i, .func f first cap] w fun e w' => e = .returned (.int .i64 30) ∧ w' = w := by
  have HM : Hid (MemAt 123 w b g ws o c) := h
  clear h
  go_enter Tryz.func54, Tryz.ntmps54
  go_wp2_with (go_at_call 56; refine (has_any HM.out _).mono ?_; rw [hi]; rintro e w' ⟨rfl, hw⟩; subst w')
  go_ret
  exact ⟨rfl, rfl⟩
theorem access_spent (h : MemAt 123 w b g ws false c) (i : Int) (hi : hasB ws i = true) (f : Fn) (first cap : Array Value) : Calls Tryz.prog 54 #[.pointer (some ⟨b, 0, none⟩), .int .i64 i, .func f first cap] w fun e w' => e = .returned (.int .i64 31) ∧ w' = w := by
  have HM : Hid (MemAt 123 w b g ws false c) := h
  have h1 := h.cell1
  have hb := h.ltB
  clear h
  go_enter Tryz.func54, Tryz.ntmps54
  go_wp2_with (go_at_call 56; refine (has_any HM.out _).mono ?_; rw [hi]; rintro e w' ⟨rfl, hw⟩; subst w')
  go_ret
  exact ⟨rfl, rfl⟩
theorem access_let (h : MemAt 123 w b g ws true c) (i : Int) (hi : hasB ws i = true) (f : FuncId) (cap : Array Value) (Q : World → Prop) (hcall : ∀ (args : Array Value) (w : World), (callFunc f args).run Tryz.prog w = .ok (.enter f args) w)
    (hf : Calls Tryz.prog f cap ((w.setCell ⟨b, 1, none⟩ (.bool false)).setCell ⟨b, 2, none⟩ (.int .i64 (up c))) fun e w' => e = .returned (.tuple #[]) ∧ Q w') : Calls Tryz.prog 54 #[.pointer (some ⟨b, 0, none⟩), .int .i64 i, .func (.func f) #[] cap] w fun e w' => e = .returned (.int .i64 0) ∧ Q w' := by
  have HM : Hid (MemAt 123 w b g ws true c) := h
  have h1 := h.cell1
  have h2 := h.cell2
  have hb := h.ltB
  have hf1 := h.freeB 1
  have hf2 := h.freeB 2
  have HF := Lib.hid hf
  clear h hf
  unfold up at HF
  go_enter Tryz.func54, Tryz.ntmps54
  go_wp2_with (first | (go_at_call 56; refine (has_any HM.out _).mono ?_; rw [hi]; rintro e w' ⟨rfl, hw⟩; subst w') | (refine HF.out.mono ?_; rintro e w' ⟨rfl, hq⟩))
  go_ret
  exact ⟨rfl, hq⟩
end
end Go.Proofs.YtninicfnhoediaaGreatDoor.Md
namespace Go.Proofs.YtninicfnhoediaaGreatDoor.Md
open Go.ChangeShapes Go.WideShapes Go.ChangeAt Go.RowKit
theorem enter_run {f : FuncId} {fn : Func} (hf : Tryz.prog.funcs[f]? = some fn) (hname : (fn.name == "runtime.NumGoroutine") = false) (hb : fn.body.isSome = true) (args : Array Value) (w : World) : (callFunc f args).run Tryz.prog w = .ok (.enter f args) w := by
  obtain ⟨c, hb⟩ := Option.isSome_iff_exists.1 hb
  have h1 : fn.name ≠ "runtime.NumGoroutine" := by simpa using hname
  simp [callFunc, hf, h1, hb, mark]
section
variable {w : World} {b g : Nat} {ws : List Int} {o : Bool} {c : Int}
/-- the words behind a Poke -/
def poked (ws : List Int) (i v : Int) : List Int := if hasB ws i then ws.set i.toNat v else ws
def stored (ws : List Int) (o : Bool) (i v : Int) : List Int := if hasB ws i && o then ws.set i.toNat v else ws
def spentO (ws : List Int) (o : Bool) (i : Int) : Bool := if hasB ws i then false else o
def spentC (ws : List Int) (o : Bool) (i c : Int) : Int := if hasB ws i && o then up c else c
def toldW (ws : List Int) (o : Bool) (i : Int) : Int := if hasB ws i && o then wordAt ws i else 0
theorem poke_any (h : MemAt 123 w b g ws o c) (i v : Int) : Calls Tryz.prog 36 #[.pointer (some ⟨b, 0, none⟩), .int .i64 i, .int .u64 v] w fun e w' => e = .returned (.int .i64 (errP ws i)) ∧ MemAt 123 w' b g (poked ws i v) o c ∧ Chg b g w w' := by
  have h0 := h.cell0
  have hb := h.ltB
  have hg := h.ltG
  have HM : Hid (MemAt 123 w b g ws o c) := h
  unfold errP poked
  cases hh : hasB ws i
  · clear h
    go_enter Tryz.func36, Tryz.ntmps36
    go_wp2_with (go_at_call 56; refine (has_any HM.out _).mono ?_; rw [hh]; rintro e w' ⟨rfl, hw⟩; subst w')
    go_ret
    exact ⟨rfl, HM.out, Chg.refl _ _ _⟩
  · obtain ⟨k, rfl, hk⟩ := hasB_pos hh
    have hx := h.word hk
    have hf := h.freeG k
    have hk2 : (k : Int) < (ws.length : Int) := by omega
    clear h
    go_enter Tryz.func36, Tryz.ntmps36
    go_wp2_with (go_at_call 56; refine (has_any HM.out _).mono ?_; rw [hh]; rintro e w' ⟨rfl, hw⟩; subst w')
    try go_region
    all_goals (try go_wp2)
    all_goals go_ret
    all_goals exact ⟨rfl, HM.out.setW k v, (Chg.refl _ _ _).setG _ _⟩
set_option maxRecDepth 100000 in
theorem loadAct_at (h : MemAt 123 w b g ws true c) {k : Nat} (hk : k < ws.length) :
    Calls Tryz.prog 55 #[.pointer (some ⟨w.heap.size, 0, none⟩), .pointer (some ⟨w.heap.size + 1, 0, none⟩), .pointer (some ⟨w.heap.size + 1 + 1, 0, none⟩)] (((((w.alloc (.cells #[.pointer (some ⟨b, 0, none⟩)] 37)).alloc (.cells #[.int .i64 k] 3)).alloc (.cells #[.int .u64 0] 53)).setCell ⟨b, 1, none⟩ (.bool false)).setCell ⟨b, 2, none⟩ (.int .i64 (up c))) fun e w' => e = .returned (.tuple #[]) ∧
      (w'.cell? ⟨w.heap.size + 1 + 1, 0, none⟩ = some (.int .u64 (wordAt ws k)) ∧ MemAt 123 w' b g ws false (up c) ∧ Chg b g w w') := by
  have hb := h.ltB
  have hg := h.ltG
  have hv : wordAt ws k = ws[k] := by simp [wordAt, hk]
  have HM0 := (((((h.alloc (.cells #[.pointer (some ⟨b, 0, none⟩)] 37)).alloc (.cells #[.int .i64 k] 3)).alloc (.cells #[.int .u64 0] 53)).setO false).setC (up c))
  have HM := (HM0.other (n := w.heap.size + 1 + 1) (by omega) (by omega) 0 (.int .u64 ws[k])).drew
  have HC := ((((((Chg.refl b g w).alloc (.cells #[.pointer (some ⟨b, 0, none⟩)] 37)).alloc (.cells #[.int .i64 k] 3)).alloc (.cells #[.int .u64 0] 53)).setB 1 (.bool false)).setB 2 (.int .i64 (up c))).setN (n := w.heap.size + 1 + 1) (by omega) 0 (.int .u64 ws[k]) |>.drew
  rw [hv]
  refine (loadAct_any _ w.heap.size (w.heap.size + 1) (w.heap.size + 1 + 1) b g k ws.length ws[k] (.int .u64 0) ?_ ?_ HM0.cell0 (HM0.word hk) (by omega) ?_ ?_).mono ?_
  · simp [go_sem]
  · simp [go_sem]
  · simp [go_sem]
  · simp [go_sem]
  · rintro e w' ⟨he, rfl⟩
    refine ⟨he, ?_, HM, HC⟩
    simp [go_sem]
set_option maxRecDepth 100000 in
theorem storeAct_at (h : MemAt 123 w b g ws true c) (v : Int) {k : Nat} (hk : k < ws.length) :
    Calls Tryz.prog 147 #[.pointer (some ⟨w.heap.size + 1 + 1, 0, none⟩), .pointer (some ⟨w.heap.size, 0, none⟩), .pointer (some ⟨w.heap.size + 1, 0, none⟩)] (((((w.alloc (.cells #[.pointer (some ⟨b, 0, none⟩)] 37)).alloc (.cells #[.int .i64 k] 3)).alloc (.cells #[.int .u64 v] 53)).setCell ⟨b, 1, none⟩ (.bool false)).setCell ⟨b, 2, none⟩ (.int .i64 (up c))) fun e w' => e = .returned (.tuple #[]) ∧
      (MemAt 123 w' b g (ws.set k v) false (up c) ∧ Chg b g w w') := by
  have hb := h.ltB
  have hg := h.ltG
  have HM0 := (((((h.alloc (.cells #[.pointer (some ⟨b, 0, none⟩)] 37)).alloc (.cells #[.int .i64 k] 3)).alloc (.cells #[.int .u64 v] 53)).setO false).setC (up c))
  have HC := ((((((Chg.refl b g w).alloc (.cells #[.pointer (some ⟨b, 0, none⟩)] 37)).alloc (.cells #[.int .i64 k] 3)).alloc (.cells #[.int .u64 v] 53)).setB 1 (.bool false)).setB 2 (.int .i64 (up c))).setG k (.int .u64 v) |>.drew
  refine (storeAct_any _ w.heap.size (w.heap.size + 1) (w.heap.size + 1 + 1) b g k ws.length ws[k] v ?_ ?_ HM0.cell0 (HM0.word hk) (by omega) ?_ (HM0.freeG k)).mono ?_
  · simp [go_sem]
  · simp [go_sem]
  · simp [go_sem]
  · rintro e w' ⟨he, rfl⟩
    exact ⟨he, (HM0.setW k v).drew, HC⟩
set_option maxRecDepth 100000 in
set_option maxHeartbeats 1000000 in
theorem load_any (h : MemAt 123 w b g ws o c) (i : Int) : Calls Tryz.prog 23 #[.pointer (some ⟨b, 0, none⟩), .int .i64 i] w fun e w' => e = .returned (.tuple #[.int .u64 (toldW ws o i), .int .i64 (errA ws o i)]) ∧ MemAt 123 w' b g ws (spentO ws o i) (spentC ws o i c) ∧ Chg b g w w' := by
  have HM : Hid (MemAt 123 w b g ws o c) := h
  clear h
  unfold errA spentO spentC toldW
  cases hh : hasB ws i
  · go_enter Tryz.func23, Tryz.ntmps23
    go_wp2_with (go_at_call 54; refine (access_none (((HM.out.alloc _).alloc _).alloc _) _ hh _ _ _).mono ?_; rintro e w' ⟨rfl, hw⟩; subst w')
    go_ret2
    exact ⟨rfl, ((HM.out.alloc _).alloc _).alloc _, (((Chg.refl _ _ _).alloc _).alloc _).alloc _⟩
  · obtain ⟨k, rfl, hk⟩ := hasB_pos hh
    cases o
    · go_enter Tryz.func23, Tryz.ntmps23
      go_wp2_with (go_at_call 54; refine (access_spent (((HM.out.alloc _).alloc _).alloc _) _ hh _ _ _).mono ?_; rintro e w' ⟨rfl, hw⟩; subst w')
      go_ret2
      exact ⟨rfl, ((HM.out.alloc _).alloc _).alloc _, (((Chg.refl _ _ _).alloc _).alloc _).alloc _⟩
    · have HA := Lib.hid (loadAct_at HM.out hk)
      go_enter Tryz.func23, Tryz.ntmps23
      go_wp2_with (go_at_call 54; refine (access_let (((HM.out.alloc _).alloc _).alloc _) _ hh _ _ _ (enter_run Tryz.func55 (by kernel_rfl) (by kernel_rfl)) HA.out).mono ?_; rintro e w' ⟨rfl, hc, hm, hz⟩; replace hm := Lib.hid hm)
      go_ret2
      exact ⟨rfl, hm.out, hz⟩
set_option maxRecDepth 100000 in
set_option maxHeartbeats 1000000 in
theorem store_any (h : MemAt 123 w b g ws o c) (i v : Int) : Calls Tryz.prog 121 #[.pointer (some ⟨b, 0, none⟩), .int .i64 i, .int .u64 v] w fun e w' => e = .returned (.int .i64 (errA ws o i)) ∧ MemAt 123 w' b g (stored ws o i v) (spentO ws o i) (spentC ws o i c) ∧ Chg b g w w' := by
  have HM : Hid (MemAt 123 w b g ws o c) := h
  clear h
  unfold errA spentO spentC stored
  cases hh : hasB ws i
  · go_enter Tryz.func121, Tryz.ntmps121
    go_wp2_with (go_at_call 54; refine (access_none (((HM.out.alloc _).alloc _).alloc _) _ hh _ _ _).mono ?_; rintro e w' ⟨rfl, hw⟩; subst w')
    go_ret
    exact ⟨rfl, ((HM.out.alloc _).alloc _).alloc _, (((Chg.refl _ _ _).alloc _).alloc _).alloc _⟩
  · obtain ⟨k, rfl, hk⟩ := hasB_pos hh
    cases o
    · go_enter Tryz.func121, Tryz.ntmps121
      go_wp2_with (go_at_call 54; refine (access_spent (((HM.out.alloc _).alloc _).alloc _) _ hh _ _ _).mono ?_; rintro e w' ⟨rfl, hw⟩; subst w')
      go_ret
      exact ⟨rfl, ((HM.out.alloc _).alloc _).alloc _, (((Chg.refl _ _ _).alloc _).alloc _).alloc _⟩
    · have HA := Lib.hid (storeAct_at HM.out v hk)
      go_enter Tryz.func121, Tryz.ntmps121
      go_wp2_with (go_at_call 54; refine (access_let (((HM.out.alloc _).alloc _).alloc _) _ hh _ _ _ (enter_run Tryz.func147 (by kernel_rfl) (by kernel_rfl)) HA.out).mono ?_; rintro e w' ⟨rfl, hm, hz⟩; replace hm := Lib.hid hm)
      go_ret
      exact ⟨rfl, hm.out, hz⟩
end
end Go.Proofs.YtninicfnhoediaaGreatDoor.Md
namespace Go.Proofs.YtninicfnhoediaaGreatDoor.Md
open Go.ChangeShapes Go.WideShapes Go.ChangeAt Go.RowKit
theorem wordInfo : (Tryz.prog.info? 53).map (fun i => (i.zero, i.size, i.bytes)) = some (some (.int .u64 0), 1, 8) := by kernel_rfl
theorem make_words (n : Nat) (hn : n ≤ 4096) (w : World) : (Instr.makeSlice 28 (.int .i64 (n : Int)) (.int .i64 (n : Int))).run Tryz.prog w = .ok (.slice (some ⟨w.heap.size, 0, none⟩) n n) (w.alloc (.cells (u64s (List.replicate n 0)).toArray 53)) := by
  obtain ⟨i, hi, hz0, hz1, hz2⟩ := info_parts wordInfo
  rw [run_make w 28 53 i (.int .u64 0) Tryz.underlying28 hi hz0 .i64 .i64 n n (by omega) (Int.le_refl _) (by rw [hz2]; omega) (by omega)]
  have e : (madeCells (Value.int .u64 0).cells (((n : Int)).toNat * i.size)) = (u64s (List.replicate n 0)).toArray := by
    rw [hz1, Nat.mul_one, Int.toNat_natCast]
    apply Array.toList_inj.1
    rw [show (Value.int .u64 0).cells = #[.int .u64 0] from rfl, toList_madeCells_one]
    simp [u64s]
  rw [e, Int.toNat_natCast]
set_option maxRecDepth 100000 in
theorem new_some (n : Nat) (h1 : 1 ≤ n) (h2 : n ≤ 4096) (w : World) : Calls Tryz.prog 22 #[.int .i64 n] w fun e w' => e = .returned (.tuple #[.pointer (some ⟨w.heap.size + 1, 0, none⟩), .int .i64 0]) ∧ MemAt 123 w' (w.heap.size + 1) w.heap.size (List.replicate n 0) false 0 ∧ Below w.heap.size w w' := by
  have hh : (decide (1 ≤ (n : Int)) && decide ((n : Int) ≤ 4096)) = true := by simp; omega
  have hmk := make_words n h2
  have HN := Lib.hid (And.intro h1 h2)
  clear h1 h2
  go_enter Tryz.func22, Tryz.ntmps22
  go_wp2_with (go_at_call 53; refine (within_any _ _ _).mono ?_; rw [hh]; rintro e w' ⟨rfl, hw⟩; subst w')
  go_ret2
  refine ⟨rfl, ⟨?_, ?_, by omega, by rw [List.length_replicate]; exact HN.out.1, by rw [List.length_replicate]; exact HN.out.2⟩, ((Below.refl _ _).alloc (Nat.le_refl _) _).alloc (by simp) _⟩
  · rw [List.length_replicate]
    have := heap_alloc_new (w.alloc (.cells (u64s (List.replicate n 0)).toArray 53)) (.cells #[.slice (some ⟨w.heap.size, 0, none⟩) n n, .bool false, .int .i64 0] 123)
    simpa using this
  · rw [Below.heap_alloc _ _ _ (by simp)]
    exact heap_alloc_new _ _
end Go.Proofs.YtninicfnhoediaaGreatDoor.Md
namespace Go.Proofs.YtninicfnhoediaaGreatDoor.Md
open Go.ChangeShapes Go.WideShapes Go.ChangeAt Go.RowKit
end Go.Proofs.YtninicfnhoediaaGreatDoor.Md
namespace Go.Proofs.YtninicfnhoediaaGreatDoor.Md
open Go.ChangeShapes Go.WideShapes Go.ChangeAt Go.RowKit
end Go.Proofs.YtninicfnhoediaaGreatDoor.Md
namespace Go.Proofs.YtninicfnhoediaaGreatDoor.Md.Ce
open Go.ChangeShapes Go.WideShapes Go.ChangeAt Go.RowKit Num
attribute [local go_sem] frombits_run bits_run
theorem run_store_float (a : Addr) (m : Mode) (k : FloatKind) (b : Nat) (w : World) : (store a (.float k b) m).run Tryz.prog w = _root_.Go.stored Tryz.prog w a (.float k b) m := run_store Tryz.prog w a _ m rfl
theorem run_store_func (a : Addr) (m : Mode) (f : Fn) (x y : Array Value) (w : World) : (store a (.func f x y) m).run Tryz.prog w = _root_.Go.stored Tryz.prog w a (.func f x y) m := run_store Tryz.prog w a _ m rfl
theorem run_store_nilFunc (a : Addr) (m : Mode) (w : World) : (store a .nilFunc m).run Tryz.prog w = _root_.Go.stored Tryz.prog w a .nilFunc m := run_store Tryz.prog w a _ m rfl
theorem of_int (n : Int) (w : World) : Calls Tryz.prog 60 #[.int .u64 n] w fun e w' => e = .returned (.float .f64 (fixB n.toNat)) ∧ w' = w := by
  go_enter Tryz.func60, Tryz.ntmps60
  go_wp2_with (first | (go_at_call 63; refine (fix_any _ _).mono ?_; rintro e w' ⟨rfl, rfl⟩) | go_in)
  go_ret
  exact ⟨rfl, rfl⟩
/-- of the old blocks those of L alone may have turned -/
structure Ch (L : List Nat) (w w' : World) : Prop where
  os : w'.os = w.os
  tape : w'.tape = w.tape
  output : w'.output = w.output
  size : w.heap.size ≤ w'.heap.size
  block : ∀ k, k < w.heap.size → k ∉ L → w'.heap[k]? = w.heap[k]?
theorem Ch.refl (L : List Nat) (w : World) : Ch L w w := ⟨rfl, rfl, rfl, Nat.le_refl _, fun _ _ _ => rfl⟩
theorem Ch.trans {L : List Nat} {a w c : World} (h : Ch L a w) (k : Ch L w c) : Ch L a c :=
  ⟨k.os.trans h.os, k.tape.trans h.tape, k.output.trans h.output, Nat.le_trans h.size k.size, fun i hi h1 => (k.block i (Nat.lt_of_lt_of_le hi h.size) h1).trans (h.block i hi h1)⟩
theorem Ch.mono {L M : List Nat} {a w : World} (h : Ch L a w) (s : ∀ k, k ∈ L → k ∈ M) : Ch M a w := ⟨h.os, h.tape, h.output, h.size, fun k hk hn => h.block k hk (fun q => hn (s k q))⟩
theorem Ch.alloc {L : List Nat} {a w : World} (h : Ch L a w) (o : Obj) : Ch L a (w.alloc o) := h.trans ⟨rfl, rfl, rfl, by simp, fun k hk _ => Below.heap_alloc _ _ _ hk⟩
theorem Ch.set {L : List Nat} {a w : World} (h : Ch L a w) {b : Nat} (hb : b ∈ L) (j : Nat) (u : Value) : Ch L a (w.setCell ⟨b, j, none⟩ u) :=
  h.trans ⟨rfl, rfl, rfl, by simp, fun k _ h1 => heap_setCell_other _ _ _ _ (fun (e : k = b) => h1 (e ▸ hb))⟩
theorem _root_.Go.Proofs.YtninicfnhoediaaGreatDoor.Chg.ch {b g : Nat} {L : List Nat} {w w' : World} (h : Chg b g w w') (hb : b ∈ L) (hg : g ∈ L) : Ch L w w' :=
  ⟨h.os, h.tape, h.output, h.size, fun k hk hn => h.block k hk (fun e => hn (e ▸ hb)) (fun e => hn (e ▸ hg))⟩
theorem _root_.Go.Proofs.YtninicfnhoediaaGreatDoor.MemAt.ch {T : TypeId} {w w' : World} {b g : Nat} {ws : List Int} {o : Bool} {c : Int} {L : List Nat} (h : MemAt T w b g ws o c) (k : Ch L w w') (h1 : b ∉ L) (h2 : g ∉ L) : MemAt T w' b g ws o c :=
  h.keep (k.block b h.ltB h1) (k.block g h.ltG h2)
/-- may a cell be; where its word is -/
def mayC (c : Int) : Bool := decide (0 ≤ c ∧ c < 256)
def placeI (p c j : Int) : Int := if 0 ≤ p ∧ p ≤ 4096 then p + 3 * c + j else -1
def errC (ws : List Int) (o : Bool) (p c j : Int) : Int := if mayC c then errA ws o (placeI p c j) else 60
def wordC (ws : List Int) (p c j : Int) : Int := wordAt ws (placeI p c j)
theorem mayC_pos {c : Int} (h : mayC c = true) : 0 ≤ c ∧ c < 256 := of_decide_eq_true h
theorem smay_any (p c : Int) (w : World) : Calls Tryz.prog 58 #[.agg #[.int .i64 p, .int .i64 c]] w fun e w' => e = .returned (.bool (mayC c)) ∧ Below w.heap.size w w' := by
  unfold mayC
  by_cases h1 : 0 ≤ c
  · by_cases h2 : c < 256
    · have h1' : ¬ c < 0 := by omega
      go_enter Tryz.func58, Tryz.ntmps58
      go_wp2
      go_ret
      exact ⟨by first | (simp; done) | (simp; omega), (Below.refl _ _).alloc (Nat.le_refl _) _⟩
    · go_enter Tryz.func58, Tryz.ntmps58
      go_wp2
      go_ret
      exact ⟨by first | (simp; done) | (simp; omega), (Below.refl _ _).alloc (Nat.le_refl _) _⟩
  · go_enter Tryz.func58, Tryz.ntmps58
    go_wp2
    go_ret
    exact ⟨by first | (simp; done) | (simp; omega), (Below.refl _ _).alloc (Nat.le_refl _) _⟩
theorem splace_any (p c j : Int) (hc : mayC c = true) (hj : 0 ≤ j ∧ j < 3) (w : World) : Calls Tryz.prog 59 #[.agg #[.int .i64 p, .int .i64 c], .int .i64 j] w fun e w' => e = .returned (.int .i64 (placeI p c j)) ∧ Below w.heap.size w w' := by
  obtain ⟨hc0, hc1⟩ := mayC_pos hc
  obtain ⟨hj0, hj1⟩ := hj
  clear hc
  by_cases h1 : 0 ≤ p
  · by_cases h2 : p ≤ 4096
    · have e : placeI p c j = p + 3 * c + j := by simp [placeI, h1, h2]
      have e1 : wrap64 (3 * c) = 3 * c := Go.IntWalk.wrap64_in _ ⟨by omega, by omega⟩
      have e2 : wrap64 (p + 3 * c) = p + 3 * c := Go.IntWalk.wrap64_in _ ⟨by omega, by omega⟩
      have e3 : wrap64 (p + 3 * c + j) = p + 3 * c + j := Go.IntWalk.wrap64_in _ ⟨by omega, by omega⟩
      have h1' : ¬ p < 0 := by omega
      have h2' : ¬ 4096 < p := by omega
      rw [e]
      clear e hc0 hc1 hj0 hj1
      go_enter Tryz.func59, Tryz.ntmps59
      go_wp2
      go_ret
      exact ⟨rfl, (Below.refl _ _).alloc (Nat.le_refl _) _⟩
    · have e : placeI p c j = -1 := by simp [placeI, h2]
      rw [e]
      clear e hc0 hc1 hj0 hj1
      have h1' : ¬ p < 0 := by omega
      have h2' : 4096 < p := by omega
      go_enter Tryz.func59, Tryz.ntmps59
      go_wp2
      go_ret
      exact ⟨rfl, (Below.refl _ _).alloc (Nat.le_refl _) _⟩
  · have e : placeI p c j = -1 := by simp [placeI, h1]
    rw [e]
    clear e hc0 hc1 hj0 hj1
    have h1' : p < 0 := by omega
    go_enter Tryz.func59, Tryz.ntmps59
    go_wp2
    go_ret
    exact ⟨rfl, (Below.refl _ _).alloc (Nat.le_refl _) _⟩
theorem _root_.Go.Proofs.YtninicfnhoediaaGreatDoor.MemAt.hop {T : TypeId} {w w' : World} {b g : Nat} {ws : List Int} {o : Bool} {c : Int} (h : MemAt T w b g ws o c) (k : Below w.heap.size w w') : MemAt T w' b g ws o c := h.on k
theorem below_step {a w w' : World} (h : Below a.heap.size a w) (k : Below w.heap.size w w') : Below a.heap.size a w' := h.trans (k.mono h.size)
theorem below_alloc_step {a w' : World} {x : Obj} (k : Below (a.alloc x).heap.size (a.alloc x) w') : Below a.heap.size a w' := below_step ((Below.refl _ _).alloc (Nat.le_refl _) x) k
theorem spot_cells {a w' : World} {x y : Value} {T : TypeId} (k : Below (a.alloc (.cells #[x, y] T)).heap.size (a.alloc (.cells #[x, y] T)) w') : w'.cell? ⟨a.heap.size, 0, none⟩ = some x ∧ w'.cell? ⟨a.heap.size, 1, none⟩ = some y ∧ a.heap.size < w'.heap.size :=
  ⟨(k.cell (p := ⟨a.heap.size, 0, none⟩) (by simp)).trans (by simp), (k.cell (p := ⟨a.heap.size, 1, none⟩) (by simp)).trans (by simp), by have := k.size; simp at this; omega⟩
theorem chg_from {a w w' : World} {b g : Nat} (h : Below a.heap.size a w) (k : Chg b g w w') : Chg b g a w' := (Chg.trans ⟨h.os, h.tape, h.output, h.size, fun i hi _ _ => h.block i hi⟩ k)
section
variable {w : World} {b g : Nat} {ws : List Int} {o : Bool} {n : Int}
/-- a load that is let by -/
theorem cload_ok (h : MemAt 123 w b g ws o n) {p c j : Int} (hj : 0 ≤ j ∧ j < 3) (hok : errC ws o p c j = 0) : Calls Tryz.prog 176 #[.agg #[.int .i64 p, .int .i64 c], .pointer (some ⟨b, 0, none⟩), .int .i64 j] w fun e w' => e = .returned (.tuple #[.int .u64 (wordC ws p c j), .int .i64 0]) ∧ MemAt 123 w' b g ws false (up n) ∧ Chg b g w w' := by
  cases hm : mayC c
  · simp [errC, hm] at hok
  · have hA : errA ws o (placeI p c j) = 0 := by simpa [errC, hm] using hok
    have hk : hasB ws (placeI p c j) = true ∧ o = true := by
      unfold errA at hA
      cases q : hasB ws (placeI p c j) <;> cases o <;> simp [q] at hA ⊢
    have H1 := Lib.hid (smay_any p c)
    simp only [hm] at H1
    have H2 := Lib.hid (splace_any p c j hm hj)
    have H3 := Lib.hid (fun (w1 : World) (h1 : Below w.heap.size w w1) => load_any (h.hop h1) (placeI p c j))
    have e1 : toldW ws o (placeI p c j) = wordC ws p c j := by simp [toldW, wordC, hk.1, hk.2]
    have e2 : spentO ws o (placeI p c j) = false := by simp [spentO, hk.1]
    have e3 : spentC ws o (placeI p c j) n = up n := by simp [spentC, hk.1, hk.2]
    simp only [hA, e1, e2, e3] at H3
    generalize wordC ws p c j = x at H3 ⊢
    generalize placeI p c j = i at H2 H3
    clear hA hk e1 e2 e3 hok hm h
    go_enter Tryz.func176, Tryz.ntmps176
    go_wp2_with (first
      | (go_at_call 58; refine (H1.out _).mono ?_; rintro e w1 ⟨rfl, hw⟩; have HB1 := Lib.hid (below_alloc_step hw); obtain ⟨q0, q1, q2⟩ := spot_cells hw; clear hw)
      | (go_at_call 59; refine (H2.out _).mono ?_; rintro e w2 ⟨rfl, hw⟩; have HB2 := Lib.hid (below_step HB1.out hw); clear hw)
      | (go_at_call 23; refine (H3.out _ HB2.out).mono ?_; rintro e w3 ⟨rfl, hm1, hc1⟩; have HM := Lib.hid (And.intro hm1 (chg_from HB2.out hc1)); clear hm1 hc1))
    go_ret2
    exact ⟨rfl, HM.out.1, HM.out.2⟩
theorem errA_told {i : Int} (h : ¬ errA ws o i = 0) : toldW ws o i = 0 ∧ spentO ws o i = o ∧ spentC ws o i n = n := by
  unfold errA at h
  cases q : hasB ws i <;> cases o <;> simp [q] at h <;> simp [toldW, spentO, spentC, q]
theorem cload_no (h : MemAt 123 w b g ws o n) {p c j : Int} (hj : 0 ≤ j ∧ j < 3) (hok : ¬ errC ws o p c j = 0) : Calls Tryz.prog 176 #[.agg #[.int .i64 p, .int .i64 c], .pointer (some ⟨b, 0, none⟩), .int .i64 j] w fun e w' => e = .returned (.tuple #[.int .u64 0, .int .i64 (errC ws o p c j)]) ∧ MemAt 123 w' b g ws o n ∧ Chg b g w w' := by
  have H1 := Lib.hid (smay_any p c)
  cases hm : mayC c
  · have e : errC ws o p c j = 60 := by simp [errC, hm]
    rw [e]
    simp only [hm] at H1
    have HM := Lib.hid h
    clear e hok h hm
    go_enter Tryz.func176, Tryz.ntmps176
    go_wp2_with (go_at_call 58; refine (H1.out _).mono ?_; rintro e w1 ⟨rfl, hw⟩; have HB := Lib.hid (below_alloc_step hw); clear hw)
    go_ret2
    exact ⟨rfl, HM.out.hop HB.out, chg_from HB.out (Chg.refl _ _ _)⟩
  · have e0 : errC ws o p c j = errA ws o (placeI p c j) := by simp [errC, hm]
    rw [e0] at hok ⊢
    simp only [hm] at H1
    obtain ⟨e1, e2, e3⟩ := errA_told (n := n) hok
    have H2 := Lib.hid (splace_any p c j hm hj)
    have H3 := Lib.hid (fun (w1 : World) (h1 : Below w.heap.size w w1) => load_any (h.hop h1) (placeI p c j))
    simp only [e1, e2, e3] at H3
    generalize errA ws o (placeI p c j) = x at H3 ⊢
    generalize placeI p c j = i at H2 H3
    clear e0 e1 e2 e3 hok hm h
    go_enter Tryz.func176, Tryz.ntmps176
    go_wp2_with (first
      | (go_at_call 58; refine (H1.out _).mono ?_; rintro e w1 ⟨rfl, hw⟩; have HB1 := Lib.hid (below_alloc_step hw); obtain ⟨q0, q1, q2⟩ := spot_cells hw; clear hw)
      | (go_at_call 59; refine (H2.out _).mono ?_; rintro e w2 ⟨rfl, hw⟩; have HB2 := Lib.hid (below_step HB1.out hw); clear hw)
      | (go_at_call 23; refine (H3.out _ HB2.out).mono ?_; rintro e w3 ⟨rfl, hm1, hc1⟩; have HM := Lib.hid (And.intro hm1 (chg_from HB2.out hc1)); clear hm1 hc1))
    go_ret2
    exact ⟨rfl, HM.out.1, HM.out.2⟩
end
end Go.Proofs.YtninicfnhoediaaGreatDoor.Md.Ce
namespace Go.Proofs.YtninicfnhoediaaGreatDoor.Md.Ce
open Go.ChangeShapes Go.WideShapes Go.ChangeAt Go.RowKit Num
attribute [local go_sem] run_store_float run_store_func run_store_nilFunc
theorem funcT : ∃ ps rs v, Tryz.prog.underlying 181 = some (.func ps rs v) := ⟨#[104, 37], #[43], false, by kernel_rfl⟩
theorem run_equalIn_func {P : Program} (d : Nat) (t : TypeId) (f : Fn) (x y : Array Value) (w : World) {ps rs : Array TypeId} {v : Bool} (h : P.underlying t = some (.func ps rs v)) : (Op.equalIn (d + 1) t (.func f x y) .nilFunc).run P w = .ok false w := by
  simp [Op.equalIn, run_underlying h]
theorem run_equalIn_nil {P : Program} (d : Nat) (t : TypeId) (w : World) {ps rs : Array TypeId} {v : Bool} (h : P.underlying t = some (.func ps rs v)) : (Op.equalIn (d + 1) t .nilFunc .nilFunc).run P w = .ok true w := by
  simp [Op.equalIn, run_underlying h]
theorem run_equal_func {P : Program} (t : TypeId) (f : Fn) (x y : Array Value) (w : World) {ps rs : Array TypeId} {v : Bool} (h : P.underlying t = some (.func ps rs v)) : (Op.equal t (.func f x y) .nilFunc).run P w = .ok false w := run_equalIn_func 9999 t f x y w h
theorem run_equal_nil {P : Program} (t : TypeId) (w : World) {ps rs : Array TypeId} {v : Bool} (h : P.underlying t = some (.func ps rs v)) : (Op.equal t .nilFunc .nilFunc).run P w = .ok true w := run_equalIn_nil 9999 t w h
theorem run_eql_func (f : Fn) (x y : Array Value) (w : World) : (binOp .eql 181 (.func f x y) .nilFunc).run Tryz.prog w = .ok (.bool false) w := by
  obtain ⟨ps, rs, v, h⟩ := funcT
  simp only [binOp]
  simp [run_equal_func _ f x y w h]
theorem run_eql_nilFunc (w : World) : (binOp .eql 181 .nilFunc .nilFunc).run Tryz.prog w = .ok (.bool true) w := by
  obtain ⟨ps, rs, v, h⟩ := funcT
  simp only [binOp]
  simp [run_equal_nil _ w h]
attribute [local go_sem] run_eql_func run_eql_nilFunc
/-- a read as numbers: where, its stamp, what is next (4: it is over), what it has been told -/
structure Rd where
  p : Int
  c : Int
  s : Int
  k : Nat
  v : Int
  x : Nat
  y : Nat
  n : Int
  t : Bool
def viewF (k : Nat) : FuncId := if k = 0 then 145 else if k = 1 then 177 else if k = 2 then 202 else 178
def recvV (r : Rd) : Value := .agg #[.int .i64 r.p, .int .i64 r.c, .int .u64 r.s]
def nextV (r : Rd) : Value := if r.k < 4 then .func (.func (viewF r.k)) #[recvV r] #[] else .nilFunc
def rboxV (r : Rd) (f : Value) : Array Value := #[f, .int .u64 r.v, .float .f64 r.x, .float .f64 r.y, .int .i64 r.n, .bool r.t]
def RbAt (w : World) (q : Nat) (r : Rd) (f : Value) : Prop := w.heap[q]? = some (.cells (rboxV r f) 183 (0, 0))
def RdAt (w : World) (q : Nat) (r : Rd) : Prop := RbAt w q r (nextV r)
section
variable {w : World} {q : Nat} {r : Rd} {f : Value}
theorem RbAt.lt (h : RbAt w q r f) : q < w.heap.size := lt_of_block h
theorem RbAt.free (h : RbAt w q r f) (j : Nat) : w.frozen? ⟨q, j, none⟩ = false := frozen_of_row w q j _ _ h
theorem RbAt.cell0 (h : RbAt w q r f) : w.cell? ⟨q, 0, none⟩ = some f := by rw [cell_of_row w q 0 _ _ _ h]; rfl
theorem RbAt.cell1 (h : RbAt w q r f) : w.cell? ⟨q, 1, none⟩ = some (.int .u64 r.v) := by rw [cell_of_row w q 1 _ _ _ h]; rfl
theorem RbAt.cell2 (h : RbAt w q r f) : w.cell? ⟨q, 2, none⟩ = some (.float .f64 r.x) := by rw [cell_of_row w q 2 _ _ _ h]; rfl
theorem RbAt.cell3 (h : RbAt w q r f) : w.cell? ⟨q, 3, none⟩ = some (.float .f64 r.y) := by rw [cell_of_row w q 3 _ _ _ h]; rfl
theorem RbAt.cell4 (h : RbAt w q r f) : w.cell? ⟨q, 4, none⟩ = some (.int .i64 r.n) := by rw [cell_of_row w q 4 _ _ _ h]; rfl
theorem RbAt.cell5 (h : RbAt w q r f) : w.cell? ⟨q, 5, none⟩ = some (.bool r.t) := by rw [cell_of_row w q 5 _ _ _ h]; rfl
theorem RbAt.keep {w' : World} (h : RbAt w q r f) (k : w'.heap[q]? = w.heap[q]?) : RbAt w' q r f := k.trans h
theorem RbAt.setF (h : RbAt w q r f) (f' : Value) : RbAt (w.setCell ⟨q, 0, none⟩ f') q r f' := (heap_setCell_same w q 0 _ _ _ h).trans rfl
theorem RbAt.setV (h : RbAt w q r f) (v : Int) : RbAt (w.setCell ⟨q, 1, none⟩ (.int .u64 v)) q { r with v := v } f := (heap_setCell_same w q 1 _ _ _ h).trans rfl
theorem RbAt.setX (h : RbAt w q r f) (x : Nat) : RbAt (w.setCell ⟨q, 2, none⟩ (.float .f64 x)) q { r with x := x } f := (heap_setCell_same w q 2 _ _ _ h).trans rfl
theorem RbAt.setY (h : RbAt w q r f) (y : Nat) : RbAt (w.setCell ⟨q, 3, none⟩ (.float .f64 y)) q { r with y := y } f := (heap_setCell_same w q 3 _ _ _ h).trans rfl
theorem RbAt.setN (h : RbAt w q r f) (n : Int) : RbAt (w.setCell ⟨q, 4, none⟩ (.int .i64 n)) q { r with n := n } f := (heap_setCell_same w q 4 _ _ _ h).trans rfl
theorem RbAt.setT (h : RbAt w q r f) (t : Bool) : RbAt (w.setCell ⟨q, 5, none⟩ (.bool t)) q { r with t := t } f := (heap_setCell_same w q 5 _ _ _ h).trans rfl
theorem RdAt.lt (h : RdAt w q r) : q < w.heap.size := RbAt.lt h
end
/-- which word the step has -/
def wrd (k : Nat) : Int := if k = 1 then 1 else if k = 3 then 2 else 0
theorem wrd_in (k : Nat) : 0 ≤ wrd k ∧ wrd k < 3 := by unfold wrd; split <;> (try split) <;> omega
/-- what a read is behind a word that it was told, but for its count -/
def nx0 (r : Rd) (u : Int) : Rd :=
  if r.k = 0 then { r with v := u, k := if r.s < u then 3 else 1 }
  else if r.k = 1 then { r with x := fixB u.toNat, k := 2 }
  else if r.k = 2 then (if u = r.v then { r with y := r.x, k := 4 } else { r with t := true, k := 3 })
  else { r with y := fixB u.toNat, k := 4 }
def errR (r : Rd) (ws : List Int) (o : Bool) : Int := if r.k < 4 then errC ws o r.p r.c (wrd r.k) else 3
def nxt (r : Rd) (u : Int) : Rd := { nx0 r u with n := up r.n }
def stepR (r : Rd) (ws : List Int) (o : Bool) : Rd := if errR r ws o = 0 then nxt r (wordC ws r.p r.c (wrd r.k)) else r
section
variable {w : World} {b g q : Nat} {ws : List Int} {o : Bool} {n : Int} {r : Rd}
set_option maxRecDepth 100000 in
theorem over_any (h : RdAt w q r) : Calls Tryz.prog 146 #[.pointer (some ⟨q, 0, none⟩)] w fun e w' => e = .returned (.bool (decide (4 ≤ r.k))) ∧ w' = w := by
  have h0 := RbAt.cell0 h
  have hq := RbAt.lt h
  unfold nextV at h0
  by_cases hk : r.k < 4
  · rw [if_pos hk] at h0
    generalize viewF r.k = ff at h0
    generalize recvV r = fr at h0
    have hk' : decide (4 ≤ r.k) = false := decide_eq_false (by omega)
    rw [hk']
    clear h hk hk'
    go_enter Tryz.func146, Tryz.ntmps146
    go_wp2
    go_ret
    exact ⟨rfl, rfl⟩
  · rw [if_neg hk] at h0
    have hk' : decide (4 ≤ r.k) = true := decide_eq_true (by omega)
    rw [hk']
    clear h hk hk'
    go_enter Tryz.func146, Tryz.ntmps146
    go_wp2
    go_ret
    exact ⟨rfl, rfl⟩
set_option maxRecDepth 100000 in
theorem end_any {f : Value} (h : RbAt w q r f) (x : Nat) : Calls Tryz.prog 203 #[.pointer (some ⟨q, 0, none⟩), .float .f64 x] w fun e w' => e = .returned (.tuple #[]) ∧ RbAt w' q { r with y := x } .nilFunc ∧ Ch [q] w w' := by
  have h0 := h.cell0
  have h3 := h.cell3
  have hq := h.lt
  have hf0 := h.free 0
  have hf3 := h.free 3
  have HM := Lib.hid h
  clear h
  go_enter Tryz.func203, Tryz.ntmps203
  go_wp2
  go_end0
  exact ⟨rfl, (HM.out.setY x).setF _, ((Ch.refl _ _).set (by simp) _ _).set (by simp) _ _⟩
end
end Go.Proofs.YtninicfnhoediaaGreatDoor.Md.Ce
namespace Go.Proofs.YtninicfnhoediaaGreatDoor.Md.Ce
open Go.ChangeShapes Go.WideShapes Go.ChangeAt Go.RowKit Num
attribute [local go_sem] run_store_float run_store_func run_store_nilFunc
section
variable {w : World} {b g q : Nat} {ws : List Int} {o : Bool} {n : Int} {r : Rd} {f : Value}
/-- what a call of load leaves, with the view's own block ahead of it -/
theorem view_aft {w1 : World} {x y z : Value} {T : TypeId} (h : RbAt w q r f) (h1 : q ≠ b) (h2 : q ≠ g) (hb : b < w.heap.size) (hg : g < w.heap.size) (hc : Chg b g (w.alloc (.cells #[x, y, z] T)) w1) :
    w1.cell? ⟨w.heap.size, 0, none⟩ = some x ∧ w1.cell? ⟨w.heap.size, 1, none⟩ = some y ∧ w1.cell? ⟨w.heap.size, 2, none⟩ = some z ∧ w.heap.size < w1.heap.size ∧ RbAt w1 q r f ∧ Ch [b, g, q] w w1 := by
  have hq := h.lt
  have hs := hc.size
  simp at hs
  have hx : w1.heap[w.heap.size]? = some (.cells #[x, y, z] T (0, 0)) := (hc.block w.heap.size (by simp) (by omega) (by omega)).trans (heap_alloc_new _ _)
  refine ⟨?_, ?_, ?_, by omega, h.keep ((hc.block q (by simp; omega) h1 h2).trans (Below.heap_alloc _ _ _ hq)), ?_⟩
  · rw [cell_of_row _ _ _ _ _ _ hx]; rfl
  · rw [cell_of_row _ _ _ _ _ _ hx]; rfl
  · rw [cell_of_row _ _ _ _ _ _ hx]; rfl
  · exact ((Ch.refl _ _).alloc _).trans (hc.ch (by simp) (by simp))
set_option maxRecDepth 100000 in
set_option maxHeartbeats 1000000 in
theorem lv_ok (h : MemAt 123 w b g ws o n) (hr : RbAt w q r f) (h1 : q ≠ b) (h2 : q ≠ g) (hk : r.k = 0) (hok : errC ws o r.p r.c 0 = 0) : Calls Tryz.prog 145 #[recvV r, .pointer (some ⟨q, 0, none⟩), .pointer (some ⟨b, 0, none⟩)] w fun e w' => e = .returned (.int .i64 0) ∧ MemAt 123 w' b g ws false (up n) ∧ RbAt w' q (nx0 r (wordC ws r.p r.c 0)) (nextV (nx0 r (wordC ws r.p r.c 0))) ∧ Ch [b, g, q] w w' := by
  have hb := h.ltB
  have hg := h.ltG
  have hq := hr.lt
  have HL := Lib.hid (cload_ok (h.alloc (.cells #[.int .i64 r.p, .int .i64 r.c, .int .u64 r.s] 208)) (p := r.p) (c := r.c) (j := 0) (by omega) hok)
  have HR := Lib.hid hr
  have HN := Lib.hid (And.intro h1 h2)
  unfold recvV
  generalize wordC ws r.p r.c 0 = u at HL ⊢
  clear h hok
  obtain ⟨p, c, s, k, v, x, y, m, t⟩ := r
  simp only at hk HL
  subst hk
  clear hr
  by_cases hu : s < u
  · have hn : nx0 ⟨p, c, s, 0, v, x, y, m, t⟩ u = ⟨p, c, s, 3, u, x, y, m, t⟩ := by simp [nx0, hu]
    rw [hn]
    clear hn
    go_enter Tryz.func145, Tryz.ntmps145
    go_wp2_with (go_at_call 176; refine HL.out.mono ?_; rintro e w1 ⟨rfl, hm, hc⟩; obtain ⟨c0, c1, c2, c3, hrr, hch⟩ := view_aft HR.out HN.out.1 HN.out.2 hb hg hc; have d0 := hrr.cell0; have d1 := hrr.cell1; have d2 := hrr.cell2; have d3 := hrr.cell3; have d5 := hrr.cell5; have dq := hrr.lt; have f0 := hrr.free 0; have f1 := hrr.free 1; have f2 := hrr.free 2; have f5 := hrr.free 5; have HX := Lib.hid (And.intro hm (And.intro hrr hch)); clear hm hc hrr hch)
    go_ret
    exact ⟨rfl, (((HX.out.1.other (Ne.symm HN.out.1) (Ne.symm HN.out.2) _ _).other (Ne.symm HN.out.1) (Ne.symm HN.out.2) _ _).other (Ne.symm HN.out.1) (Ne.symm HN.out.2) _ _), ((HX.out.2.1.setV u).setF _).setF _, ((HX.out.2.2.set (by simp) _ _).set (by simp) _ _).set (by simp) _ _⟩
  · have hn : nx0 ⟨p, c, s, 0, v, x, y, m, t⟩ u = ⟨p, c, s, 1, u, x, y, m, t⟩ := by simp [nx0, hu]
    rw [hn]
    clear hn
    go_enter Tryz.func145, Tryz.ntmps145
    go_wp2_with (go_at_call 176; refine HL.out.mono ?_; rintro e w1 ⟨rfl, hm, hc⟩; obtain ⟨c0, c1, c2, c3, hrr, hch⟩ := view_aft HR.out HN.out.1 HN.out.2 hb hg hc; have d0 := hrr.cell0; have d1 := hrr.cell1; have d2 := hrr.cell2; have d3 := hrr.cell3; have d5 := hrr.cell5; have dq := hrr.lt; have f0 := hrr.free 0; have f1 := hrr.free 1; have f2 := hrr.free 2; have f5 := hrr.free 5; have HX := Lib.hid (And.intro hm (And.intro hrr hch)); clear hm hc hrr hch)
    go_ret
    exact ⟨rfl, ((HX.out.1.other (Ne.symm HN.out.1) (Ne.symm HN.out.2) _ _).other (Ne.symm HN.out.1) (Ne.symm HN.out.2) _ _), (HX.out.2.1.setV u).setF _, (HX.out.2.2.set (by simp) _ _).set (by simp) _ _⟩
set_option maxRecDepth 100000 in
set_option maxHeartbeats 1000000 in
theorem ln_ok (h : MemAt 123 w b g ws o n) (hr : RbAt w q r f) (h1 : q ≠ b) (h2 : q ≠ g) (hk : r.k = 1) (hok : errC ws o r.p r.c 1 = 0) : Calls Tryz.prog 177 #[recvV r, .pointer (some ⟨q, 0, none⟩), .pointer (some ⟨b, 0, none⟩)] w fun e w' => e = .returned (.int .i64 0) ∧ MemAt 123 w' b g ws false (up n) ∧ RbAt w' q (nx0 r (wordC ws r.p r.c 1)) (nextV (nx0 r (wordC ws r.p r.c 1))) ∧ Ch [b, g, q] w w' := by
  have hb := h.ltB
  have hg := h.ltG
  have hq := hr.lt
  have HL := Lib.hid (cload_ok (h.alloc (.cells #[.int .i64 r.p, .int .i64 r.c, .int .u64 r.s] 208)) (p := r.p) (c := r.c) (j := 1) (by omega) hok)
  have HR := Lib.hid hr
  have HN := Lib.hid (And.intro h1 h2)
  unfold recvV
  generalize wordC ws r.p r.c 1 = u at HL ⊢
  clear h hok
  obtain ⟨p, c, s, k, v, x, y, m, t⟩ := r
  simp only at hk HL
  subst hk
  clear hr
  have hn : nx0 ⟨p, c, s, 1, v, x, y, m, t⟩ u = ⟨p, c, s, 2, v, fixB u.toNat, y, m, t⟩ := by simp [nx0]
  rw [hn]
  clear hn
  go_enter Tryz.func177, Tryz.ntmps177
  go_wp2_with (first
    | (go_at_call 176; refine HL.out.mono ?_; rintro e w1 ⟨rfl, hm, hc⟩; obtain ⟨c0, c1, c2, c3, hrr, hch⟩ := view_aft HR.out HN.out.1 HN.out.2 hb hg hc; have d0 := hrr.cell0; have d1 := hrr.cell1; have d2 := hrr.cell2; have d3 := hrr.cell3; have d5 := hrr.cell5; have dq := hrr.lt; have f0 := hrr.free 0; have f1 := hrr.free 1; have f2 := hrr.free 2; have f5 := hrr.free 5; have HX := Lib.hid (And.intro hm (And.intro hrr hch)); clear hm hc hrr hch)
    | (go_at_call 60; refine (of_int _ _).mono ?_; rintro e w2 ⟨rfl, hw⟩; subst w2))
  go_ret
  exact ⟨rfl, ((HX.out.1.other (Ne.symm HN.out.1) (Ne.symm HN.out.2) _ _).other (Ne.symm HN.out.1) (Ne.symm HN.out.2) _ _), (HX.out.2.1.setX _).setF _, (HX.out.2.2.set (by simp) _ _).set (by simp) _ _⟩
set_option maxRecDepth 100000 in
set_option maxHeartbeats 1000000 in
theorem la_ok (h : MemAt 123 w b g ws o n) (hr : RbAt w q r f) (h1 : q ≠ b) (h2 : q ≠ g) (hk : r.k = 2) (hok : errC ws o r.p r.c 0 = 0) : Calls Tryz.prog 202 #[recvV r, .pointer (some ⟨q, 0, none⟩), .pointer (some ⟨b, 0, none⟩)] w fun e w' => e = .returned (.int .i64 0) ∧ MemAt 123 w' b g ws false (up n) ∧ RbAt w' q (nx0 r (wordC ws r.p r.c 0)) (nextV (nx0 r (wordC ws r.p r.c 0))) ∧ Ch [b, g, q] w w' := by
  have hb := h.ltB
  have hg := h.ltG
  have hq := hr.lt
  have HL := Lib.hid (cload_ok (h.alloc (.cells #[.int .i64 r.p, .int .i64 r.c, .int .u64 r.s] 208)) (p := r.p) (c := r.c) (j := 0) (by omega) hok)
  have HR := Lib.hid hr
  have HN := Lib.hid (And.intro h1 h2)
  unfold recvV
  generalize wordC ws r.p r.c 0 = u at HL ⊢
  clear h hok
  obtain ⟨p, c, s, k, v, x, y, m, t⟩ := r
  simp only at hk HL
  subst hk
  clear hr
  by_cases hu : u = v
  · have hn : nx0 ⟨p, c, s, 2, v, x, y, m, t⟩ u = ⟨p, c, s, 4, v, x, x, m, t⟩ := by simp [nx0, hu]
    rw [hn]
    subst hu
    clear hn
    go_enter Tryz.func202, Tryz.ntmps202
    go_wp2_with (first
      | (go_at_call 176; refine HL.out.mono ?_; rintro e w1 ⟨rfl, hm, hc⟩; obtain ⟨c0, c1, c2, c3, hrr, hch⟩ := view_aft HR.out HN.out.1 HN.out.2 hb hg hc; have d0 := hrr.cell0; have d1 := hrr.cell1; have d2 := hrr.cell2; have d3 := hrr.cell3; have d5 := hrr.cell5; have dq := hrr.lt; have f0 := hrr.free 0; have f1 := hrr.free 1; have f2 := hrr.free 2; have f5 := hrr.free 5; have HX := Lib.hid (And.intro hm (And.intro hrr hch)); clear hm hc hrr hch)
      | (go_at_call 203; refine (end_any HX.out.2.1 _).mono ?_; rintro e w2 ⟨rfl, hr2, hc2⟩; have HY := Lib.hid (And.intro (HX.out.1.ch hc2 (by simp; exact Ne.symm HN.out.1) (by simp; exact Ne.symm HN.out.2)) (And.intro hr2 (HX.out.2.2.trans (hc2.mono (by simp))))); clear hr2 hc2 HX))
    go_ret
    exact ⟨rfl, HY.out⟩
  · have hn : nx0 ⟨p, c, s, 2, v, x, y, m, t⟩ u = ⟨p, c, s, 3, v, x, y, m, true⟩ := by simp [nx0, hu]
    rw [hn]
    clear hn
    go_enter Tryz.func202, Tryz.ntmps202
    go_wp2_with (go_at_call 176; refine HL.out.mono ?_; rintro e w1 ⟨rfl, hm, hc⟩; obtain ⟨c0, c1, c2, c3, hrr, hch⟩ := view_aft HR.out HN.out.1 HN.out.2 hb hg hc; have d0 := hrr.cell0; have d1 := hrr.cell1; have d2 := hrr.cell2; have d3 := hrr.cell3; have d5 := hrr.cell5; have dq := hrr.lt; have f0 := hrr.free 0; have f1 := hrr.free 1; have f2 := hrr.free 2; have f5 := hrr.free 5; have HX := Lib.hid (And.intro hm (And.intro hrr hch)); clear hm hc hrr hch)
    go_ret
    exact ⟨rfl, ((HX.out.1.other (Ne.symm HN.out.1) (Ne.symm HN.out.2) _ _).other (Ne.symm HN.out.1) (Ne.symm HN.out.2) _ _), (HX.out.2.1.setT _).setF _, (HX.out.2.2.set (by simp) _ _).set (by simp) _ _⟩
set_option maxRecDepth 100000 in
set_option maxHeartbeats 1000000 in
theorem lw_ok (h : MemAt 123 w b g ws o n) (hr : RbAt w q r f) (h1 : q ≠ b) (h2 : q ≠ g) (hk : r.k = 3) (hok : errC ws o r.p r.c 2 = 0) : Calls Tryz.prog 178 #[recvV r, .pointer (some ⟨q, 0, none⟩), .pointer (some ⟨b, 0, none⟩)] w fun e w' => e = .returned (.int .i64 0) ∧ MemAt 123 w' b g ws false (up n) ∧ RbAt w' q (nx0 r (wordC ws r.p r.c 2)) (nextV (nx0 r (wordC ws r.p r.c 2))) ∧ Ch [b, g, q] w w' := by
  have hb := h.ltB
  have hg := h.ltG
  have hq := hr.lt
  have HL := Lib.hid (cload_ok (h.alloc (.cells #[.int .i64 r.p, .int .i64 r.c, .int .u64 r.s] 208)) (p := r.p) (c := r.c) (j := 2) (by omega) hok)
  have HR := Lib.hid hr
  have HN := Lib.hid (And.intro h1 h2)
  unfold recvV
  generalize wordC ws r.p r.c 2 = u at HL ⊢
  clear h hok
  obtain ⟨p, c, s, k, v, x, y, m, t⟩ := r
  simp only at hk HL
  subst hk
  clear hr
  have hn : nx0 ⟨p, c, s, 3, v, x, y, m, t⟩ u = ⟨p, c, s, 4, v, x, fixB u.toNat, m, t⟩ := by simp [nx0]
  rw [hn]
  clear hn
  go_enter Tryz.func178, Tryz.ntmps178
  go_wp2_with (first
    | (go_at_call 176; refine HL.out.mono ?_; rintro e w1 ⟨rfl, hm, hc⟩; obtain ⟨c0, c1, c2, c3, hrr, hch⟩ := view_aft HR.out HN.out.1 HN.out.2 hb hg hc; have d0 := hrr.cell0; have d1 := hrr.cell1; have d2 := hrr.cell2; have d3 := hrr.cell3; have d5 := hrr.cell5; have dq := hrr.lt; have f0 := hrr.free 0; have f1 := hrr.free 1; have f2 := hrr.free 2; have f5 := hrr.free 5; have HX := Lib.hid (And.intro hm (And.intro hrr hch)); clear hm hc hrr hch)
    | (go_at_call 60; refine (of_int _ _).mono ?_; rintro e w2 ⟨rfl, hw⟩; subst w2)
    | (go_at_call 203; refine (end_any HX.out.2.1 _).mono ?_; rintro e w2 ⟨rfl, hr2, hc2⟩; have HY := Lib.hid (And.intro (HX.out.1.ch hc2 (by simp; exact Ne.symm HN.out.1) (by simp; exact Ne.symm HN.out.2)) (And.intro hr2 (HX.out.2.2.trans (hc2.mono (by simp))))); clear hr2 hc2 HX))
  go_ret
  exact ⟨rfl, HY.out⟩
set_option maxRecDepth 100000 in
set_option maxHeartbeats 1000000 in
theorem lv_no (h : MemAt 123 w b g ws o n) (hr : RbAt w q r f) (h1 : q ≠ b) (h2 : q ≠ g) (hok : ¬ errC ws o r.p r.c 0 = 0) : Calls Tryz.prog 145 #[recvV r, .pointer (some ⟨q, 0, none⟩), .pointer (some ⟨b, 0, none⟩)] w fun e w' => e = .returned (.int .i64 (errC ws o r.p r.c 0)) ∧ MemAt 123 w' b g ws o n ∧ RbAt w' q r f ∧ Ch [b, g, q] w w' := by
  have hb := h.ltB
  have hg := h.ltG
  have HL := Lib.hid (cload_no (h.alloc (.cells #[.int .i64 r.p, .int .i64 r.c, .int .u64 r.s] 208)) (p := r.p) (c := r.c) (j := 0) (by omega) hok)
  have HR := Lib.hid hr
  have HN := Lib.hid (And.intro h1 h2)
  unfold recvV
  generalize errC ws o r.p r.c 0 = x at HL hok ⊢
  clear h hr
  go_enter Tryz.func145, Tryz.ntmps145
  go_wp2_with (go_at_call 176; refine HL.out.mono ?_; rintro e w1 ⟨rfl, hm, hc⟩; obtain ⟨_, _, _, _, hrr, hch⟩ := view_aft HR.out HN.out.1 HN.out.2 hb hg hc; have HX := Lib.hid (And.intro hm (And.intro hrr hch)); clear hm hc hrr hch)
  go_ret
  exact ⟨rfl, HX.out⟩
set_option maxRecDepth 100000 in
set_option maxHeartbeats 1000000 in
theorem ln_no (h : MemAt 123 w b g ws o n) (hr : RbAt w q r f) (h1 : q ≠ b) (h2 : q ≠ g) (hok : ¬ errC ws o r.p r.c 1 = 0) : Calls Tryz.prog 177 #[recvV r, .pointer (some ⟨q, 0, none⟩), .pointer (some ⟨b, 0, none⟩)] w fun e w' => e = .returned (.int .i64 (errC ws o r.p r.c 1)) ∧ MemAt 123 w' b g ws o n ∧ RbAt w' q r f ∧ Ch [b, g, q] w w' := by
  have hb := h.ltB
  have hg := h.ltG
  have HL := Lib.hid (cload_no (h.alloc (.cells #[.int .i64 r.p, .int .i64 r.c, .int .u64 r.s] 208)) (p := r.p) (c := r.c) (j := 1) (by omega) hok)
  have HR := Lib.hid hr
  have HN := Lib.hid (And.intro h1 h2)
  unfold recvV
  generalize errC ws o r.p r.c 1 = x at HL hok ⊢
  clear h hr
  go_enter Tryz.func177, Tryz.ntmps177
  go_wp2_with (go_at_call 176; refine HL.out.mono ?_; rintro e w1 ⟨rfl, hm, hc⟩; obtain ⟨_, _, _, _, hrr, hch⟩ := view_aft HR.out HN.out.1 HN.out.2 hb hg hc; have HX := Lib.hid (And.intro hm (And.intro hrr hch)); clear hm hc hrr hch)
  go_ret
  exact ⟨rfl, HX.out⟩
set_option maxRecDepth 100000 in
set_option maxHeartbeats 1000000 in
theorem la_no (h : MemAt 123 w b g ws o n) (hr : RbAt w q r f) (h1 : q ≠ b) (h2 : q ≠ g) (hok : ¬ errC ws o r.p r.c 0 = 0) : Calls Tryz.prog 202 #[recvV r, .pointer (some ⟨q, 0, none⟩), .pointer (some ⟨b, 0, none⟩)] w fun e w' => e = .returned (.int .i64 (errC ws o r.p r.c 0)) ∧ MemAt 123 w' b g ws o n ∧ RbAt w' q r f ∧ Ch [b, g, q] w w' := by
  have hb := h.ltB
  have hg := h.ltG
  have HL := Lib.hid (cload_no (h.alloc (.cells #[.int .i64 r.p, .int .i64 r.c, .int .u64 r.s] 208)) (p := r.p) (c := r.c) (j := 0) (by omega) hok)
  have HR := Lib.hid hr
  have HN := Lib.hid (And.intro h1 h2)
  unfold recvV
  generalize errC ws o r.p r.c 0 = x at HL hok ⊢
  clear h hr
  go_enter Tryz.func202, Tryz.ntmps202
  go_wp2_with (go_at_call 176; refine HL.out.mono ?_; rintro e w1 ⟨rfl, hm, hc⟩; obtain ⟨_, _, _, _, hrr, hch⟩ := view_aft HR.out HN.out.1 HN.out.2 hb hg hc; have HX := Lib.hid (And.intro hm (And.intro hrr hch)); clear hm hc hrr hch)
  go_ret
  exact ⟨rfl, HX.out⟩
set_option maxRecDepth 100000 in
set_option maxHeartbeats 1000000 in
theorem lw_no (h : MemAt 123 w b g ws o n) (hr : RbAt w q r f) (h1 : q ≠ b) (h2 : q ≠ g) (hok : ¬ errC ws o r.p r.c 2 = 0) : Calls Tryz.prog 178 #[recvV r, .pointer (some ⟨q, 0, none⟩), .pointer (some ⟨b, 0, none⟩)] w fun e w' => e = .returned (.int .i64 (errC ws o r.p r.c 2)) ∧ MemAt 123 w' b g ws o n ∧ RbAt w' q r f ∧ Ch [b, g, q] w w' := by
  have hb := h.ltB
  have hg := h.ltG
  have HL := Lib.hid (cload_no (h.alloc (.cells #[.int .i64 r.p, .int .i64 r.c, .int .u64 r.s] 208)) (p := r.p) (c := r.c) (j := 2) (by omega) hok)
  have HR := Lib.hid hr
  have HN := Lib.hid (And.intro h1 h2)
  unfold recvV
  generalize errC ws o r.p r.c 2 = x at HL hok ⊢
  clear h hr
  go_enter Tryz.func178, Tryz.ntmps178
  go_wp2_with (go_at_call 176; refine HL.out.mono ?_; rintro e w1 ⟨rfl, hm, hc⟩; obtain ⟨_, _, _, _, hrr, hch⟩ := view_aft HR.out HN.out.1 HN.out.2 hb hg hc; have HX := Lib.hid (And.intro hm (And.intro hrr hch)); clear hm hc hrr hch)
  go_ret
  exact ⟨rfl, HX.out⟩
end
end Go.Proofs.YtninicfnhoediaaGreatDoor.Md.Ce
namespace Go.Proofs.YtninicfnhoediaaGreatDoor.Md.Ce
open Go.ChangeShapes Go.WideShapes Go.ChangeAt Go.RowKit Num
attribute [local go_sem] run_store_float run_store_func run_store_nilFunc
section
variable {w : World} {b g q : Nat} {ws : List Int} {o : Bool} {n : Int} {r : Rd}
theorem view_enter (k : Nat) (args : Array Value) (w : World) : (callFunc (viewF k) args).run Tryz.prog w = .ok (.enter (viewF k) args) w := by
  unfold viewF
  split
  · exact enter_run Tryz.func145 (by kernel_rfl) (by kernel_rfl) args w
  split
  · exact enter_run Tryz.func177 (by kernel_rfl) (by kernel_rfl) args w
  split
  · exact enter_run Tryz.func202 (by kernel_rfl) (by kernel_rfl) args w
  · exact enter_run Tryz.func178 (by kernel_rfl) (by kernel_rfl) args w
set_option maxRecDepth 100000 in
set_option maxHeartbeats 1000000 in
theorem rstep_over (h : RdAt w q r) (hk : ¬ r.k < 4) : Calls Tryz.prog 119 #[.pointer (some ⟨q, 0, none⟩), .pointer (some ⟨b, 0, none⟩)] w fun e w' => e = .returned (.tuple #[.bool false, .int .i64 3]) ∧ w' = w := by
  have H1 := Lib.hid (over_any h)
  rw [decide_eq_true (show 4 ≤ r.k by omega)] at H1
  clear h hk
  go_enter Tryz.func119, Tryz.ntmps119
  go_wp2_with (go_at_call 146; refine H1.out.mono ?_; rintro e w1 ⟨rfl, hw⟩; subst w1)
  go_ret2
  exact ⟨rfl, rfl⟩
set_option maxRecDepth 100000 in
set_option maxHeartbeats 1000000 in
theorem rstep_err (h : RdAt w q r) (hk : r.k < 4) {E : Int} (hE : ¬ E = 0) {Q : World → Prop} (hf : Calls Tryz.prog (viewF r.k) #[recvV r, .pointer (some ⟨q, 0, none⟩), .pointer (some ⟨b, 0, none⟩)] w fun e w' => e = .returned (.int .i64 E) ∧ Q w') :
    Calls Tryz.prog 119 #[.pointer (some ⟨q, 0, none⟩), .pointer (some ⟨b, 0, none⟩)] w fun e w' => e = .returned (.tuple #[.bool false, .int .i64 E]) ∧ Q w' := by
  have H1 := Lib.hid (over_any h)
  rw [decide_eq_false (show ¬ 4 ≤ r.k by omega)] at H1
  have h0 := RbAt.cell0 h
  have hq := RbAt.lt h
  have hcall := view_enter r.k
  unfold nextV at h0
  rw [if_pos hk] at h0
  generalize viewF r.k = ff at h0 hf hcall
  generalize recvV r = fr at h0 hf
  have HF := Lib.hid hf
  clear h hk hf
  go_enter Tryz.func119, Tryz.ntmps119
  go_wp2_with (first
    | (go_at_call 146; refine H1.out.mono ?_; rintro e w1 ⟨rfl, hw⟩; subst w1)
    | (refine HF.out.mono ?_; rintro e w' ⟨rfl, hqq⟩; have HQ := Lib.hid hqq; clear hqq))
  go_ret2
  exact ⟨rfl, HQ.out⟩
set_option maxRecDepth 100000 in
set_option maxHeartbeats 1000000 in
theorem rstep_let (h : RdAt w q r) (hk : r.k < 4) {r' : Rd} {Q : World → Prop} (hf : Calls Tryz.prog (viewF r.k) #[recvV r, .pointer (some ⟨q, 0, none⟩), .pointer (some ⟨b, 0, none⟩)] w fun e w' => e = .returned (.int .i64 0) ∧ Q w' ∧ RdAt w' q r') :
    Calls Tryz.prog 119 #[.pointer (some ⟨q, 0, none⟩), .pointer (some ⟨b, 0, none⟩)] w fun e w' => e = .returned (.tuple #[.bool (decide (4 ≤ r'.k)), .int .i64 0]) ∧ ∃ w1, Q w1 ∧ RdAt w1 q r' ∧ w' = w1.setCell ⟨q, 4, none⟩ (.int .i64 (up r'.n)) := by
  have H1 := Lib.hid (over_any h)
  rw [decide_eq_false (show ¬ 4 ≤ r.k by omega)] at H1
  have h0 := RbAt.cell0 h
  have hq := RbAt.lt h
  have hcall := view_enter r.k
  unfold nextV at h0
  rw [if_pos hk] at h0
  generalize viewF r.k = ff at h0 hf hcall
  generalize recvV r = fr at h0 hf
  have HF := Lib.hid hf
  have HO := Lib.hid (fun (w1 : World) (h1 : RdAt w1 q r') => over_any (show RdAt (w1.setCell ⟨q, 4, none⟩ (.int .i64 (up r'.n))) q { r' with n := up r'.n } from RbAt.setN h1 _))
  simp only at HO
  generalize hdd : decide (4 ≤ r'.k) = dd at HO ⊢
  clear h hk hf hdd
  unfold up at HO ⊢
  go_enter Tryz.func119, Tryz.ntmps119
  go_wp2_with (first
    | (go_at_call 146; refine H1.out.mono ?_; rintro e w1 ⟨rfl, hw⟩; subst w1; clear H1)
    | (go_at_call 146; refine (HO.out _ HQ.out.2).mono ?_; rintro e w1 ⟨rfl, hw⟩; subst w1; clear HO)
    | (refine HF.out.mono ?_; rintro e w2 ⟨rfl, hqq, hr2⟩; have d4 := RbAt.cell4 hr2; have f4 := RbAt.free hr2 4; have l4 := RbAt.lt hr2; have HQ := Lib.hid (And.intro hqq hr2); clear hqq hr2 HF))
  go_ret2
  exact ⟨rfl, w2, HQ.out.1, HQ.out.2, rfl⟩
/-- a step of a read, whatever it is -/
theorem view_let (h : MemAt 123 w b g ws o n) (hr : RdAt w q r) (h1 : q ≠ b) (h2 : q ≠ g) (hk : r.k < 4) (hok : errC ws o r.p r.c (wrd r.k) = 0) : Calls Tryz.prog (viewF r.k) #[recvV r, .pointer (some ⟨q, 0, none⟩), .pointer (some ⟨b, 0, none⟩)] w fun e w' => e = .returned (.int .i64 0) ∧ (MemAt 123 w' b g ws false (up n) ∧ Ch [b, g, q] w w') ∧ RdAt w' q (nx0 r (wordC ws r.p r.c (wrd r.k))) := by
  have hc : r.k = 0 ∨ r.k = 1 ∨ r.k = 2 ∨ r.k = 3 := by omega
  rcases hc with hc | hc | hc | hc
  · rw [show viewF r.k = 145 by simp [viewF, hc], show wrd r.k = 0 by simp [wrd, hc]]
    refine (lv_ok h hr h1 h2 hc (by rw [hc] at hok; exact hok)).mono fun e w' ⟨k1, k2, k3, k4⟩ => ⟨k1, ⟨k2, k4⟩, k3⟩
  · rw [show viewF r.k = 177 by simp [viewF, hc], show wrd r.k = 1 by simp [wrd, hc]]
    refine (ln_ok h hr h1 h2 hc (by rw [hc] at hok; exact hok)).mono fun e w' ⟨k1, k2, k3, k4⟩ => ⟨k1, ⟨k2, k4⟩, k3⟩
  · rw [show viewF r.k = 202 by simp [viewF, hc], show wrd r.k = 0 by simp [wrd, hc]]
    refine (la_ok h hr h1 h2 hc (by rw [hc] at hok; exact hok)).mono fun e w' ⟨k1, k2, k3, k4⟩ => ⟨k1, ⟨k2, k4⟩, k3⟩
  · rw [show viewF r.k = 178 by simp [viewF, hc], show wrd r.k = 2 by simp [wrd, hc]]
    refine (lw_ok h hr h1 h2 hc (by rw [hc] at hok; exact hok)).mono fun e w' ⟨k1, k2, k3, k4⟩ => ⟨k1, ⟨k2, k4⟩, k3⟩
theorem view_no (h : MemAt 123 w b g ws o n) (hr : RdAt w q r) (h1 : q ≠ b) (h2 : q ≠ g) (hk : r.k < 4) (hok : ¬ errC ws o r.p r.c (wrd r.k) = 0) : Calls Tryz.prog (viewF r.k) #[recvV r, .pointer (some ⟨q, 0, none⟩), .pointer (some ⟨b, 0, none⟩)] w fun e w' => e = .returned (.int .i64 (errC ws o r.p r.c (wrd r.k))) ∧ MemAt 123 w' b g ws o n ∧ RdAt w' q r ∧ Ch [b, g, q] w w' := by
  have hc : r.k = 0 ∨ r.k = 1 ∨ r.k = 2 ∨ r.k = 3 := by omega
  rcases hc with hc | hc | hc | hc
  · rw [show viewF r.k = 145 by simp [viewF, hc], show wrd r.k = 0 by simp [wrd, hc]]
    exact lv_no h hr h1 h2 (by rw [hc] at hok; exact hok)
  · rw [show viewF r.k = 177 by simp [viewF, hc], show wrd r.k = 1 by simp [wrd, hc]]
    exact ln_no h hr h1 h2 (by rw [hc] at hok; exact hok)
  · rw [show viewF r.k = 202 by simp [viewF, hc], show wrd r.k = 0 by simp [wrd, hc]]
    exact la_no h hr h1 h2 (by rw [hc] at hok; exact hok)
  · rw [show viewF r.k = 178 by simp [viewF, hc], show wrd r.k = 2 by simp [wrd, hc]]
    exact lw_no h hr h1 h2 (by rw [hc] at hok; exact hok)
/-- is it over with this step; what the memory is behind it -/
def endR (r : Rd) (ws : List Int) (o : Bool) : Bool := decide (errR r ws o = 0) && decide (4 ≤ (stepR r ws o).k)
def aftO (e : Int) (o : Bool) : Bool := if e = 0 then false else o
def aftN (e n : Int) : Int := if e = 0 then up n else n
theorem nx0_n (r : Rd) (u : Int) : (nx0 r u).n = r.n := by unfold nx0; split <;> (try split) <;> (try split) <;> (try split) <;> rfl
theorem rstep_any (h : MemAt 123 w b g ws o n) (hr : RdAt w q r) (h1 : q ≠ b) (h2 : q ≠ g) : Calls Tryz.prog 119 #[.pointer (some ⟨q, 0, none⟩), .pointer (some ⟨b, 0, none⟩)] w fun e w' => e = .returned (.tuple #[.bool (endR r ws o), .int .i64 (errR r ws o)]) ∧ MemAt 123 w' b g ws (aftO (errR r ws o) o) (aftN (errR r ws o) n) ∧ RdAt w' q (stepR r ws o) ∧ Ch [b, g, q] w w' := by
  by_cases hk : r.k < 4
  · have eE : errR r ws o = errC ws o r.p r.c (wrd r.k) := by simp [errR, hk]
    by_cases hok : errC ws o r.p r.c (wrd r.k) = 0
    · refine (rstep_let hr hk (view_let h hr h1 h2 hk hok)).mono fun e w' ⟨he, w1, ⟨hm, hch⟩, hr1, hw⟩ => ?_
      have e1 : errR r ws o = 0 := by rw [eE]; exact hok
      have e2 : stepR r ws o = nxt r (wordC ws r.p r.c (wrd r.k)) := by simp [stepR, e1]
      have e3 : endR r ws o = decide (4 ≤ (nx0 r (wordC ws r.p r.c (wrd r.k))).k) := by simp [endR, e1, e2, nxt]
      rw [e3, e2, e1]
      subst hw
      refine ⟨he, ?_, ?_, hch.set (by simp) _ _⟩
      · exact hm.other (Ne.symm h1) (Ne.symm h2) _ _
      · have := RbAt.setN hr1 (up r.n)
        rw [nx0_n]
        exact this
    · refine (rstep_err hr hk hok (view_no h hr h1 h2 hk hok)).mono fun e w' ⟨he, hm, hr1, hch⟩ => ?_
      have e1 : ¬ errR r ws o = 0 := by rw [eE]; exact hok
      have e2 : stepR r ws o = r := by simp [stepR, e1]
      have e3 : endR r ws o = false := by simp [endR, e1]
      rw [e3, e2, aftO, aftN, if_neg e1, if_neg e1, eE]
      exact ⟨he, hm, hr1, hch⟩
  · refine (rstep_over hr hk).mono fun e w' ⟨he, hw⟩ => ?_
    subst hw
    have e1 : errR r ws o = 3 := by simp [errR, hk]
    have e2 : stepR r ws o = r := by simp [stepR, e1]
    have e3 : endR r ws o = false := by simp [endR, e1]
    rw [e3, e2, e1]
    exact ⟨he, h, hr, Ch.refl _ _⟩
theorem value_any (h : RdAt w q r) : Calls Tryz.prog 120 #[.pointer (some ⟨q, 0, none⟩)] w fun e w' => e = .returned (.float .f64 r.y) ∧ w' = w := by
  have h0 := RbAt.cell3 h
  have hb := RbAt.lt h
  clear h
  go_enter Tryz.func120, Tryz.ntmps120
  go_wp2
  go_ret
  exact ⟨rfl, rfl⟩
end
theorem alloc_at {w : World} {x : Obj} {k : Nat} (hk : w.heap.size = k) : (w.alloc x).heap[k]? = some x := by subst hk; exact heap_alloc_new _ _
/-- a plan, of which cells is looked at -/
def planV (a b c d p f : Int) : Value := .agg #[.int .i64 a, .int .i64 b, .int .i64 c, .int .i64 d, .int .i64 p, .int .i64 f]
def newR (p c s : Int) : Rd := ⟨p, c, s, 0, 0, 0, 0, 0, false⟩
set_option maxRecDepth 100000 in
set_option maxHeartbeats 1000000 in
theorem read_any (w : World) (a1 a2 a3 a4 p a6 c s : Int) : Calls Tryz.prog 118 #[planV a1 a2 a3 a4 p a6, .int .i64 c, .int .u64 s] w fun e w' => ∃ q, e = .returned (.pointer (some ⟨q, 0, none⟩)) ∧ w.heap.size ≤ q ∧ RdAt w' q (newR p c s) ∧ Below w.heap.size w w' := by
  unfold planV
  go_enter Tryz.func118, Tryz.ntmps118
  go_wp2
  go_ret
  refine ⟨_, rfl, by omega, ?_, (((Below.refl _ _).alloc (Nat.le_refl _) _).alloc (by simp) _).alloc (by simp; omega) _⟩
  exact alloc_at (by simp)
end Go.Proofs.YtninicfnhoediaaGreatDoor.Md.Ce
namespace Go.Proofs.YtninicfnhoediaaGreatDoor.Md.Ce
open Go.ChangeShapes Go.WideShapes Go.ChangeAt Go.RowKit Num
theorem bl_alloc {a w : World} (h : Below a.heap.size a w) (x : Obj) : Below a.heap.size a (w.alloc x) := h.alloc h.size x
theorem bl_setCell {a w : World} {k : Nat} (h : Below a.heap.size a w) (hk : a.heap.size ≤ k) (j : Nat) (u : Value) : Below a.heap.size a (w.setCell ⟨k, j, none⟩ u) :=
  ⟨h.os, h.tape, h.output, by simpa using h.size, fun i hi => (heap_setCell_other w ⟨k, j, none⟩ i u (by show i ≠ k; omega)).trans (h.block i hi)⟩
theorem bl_setRow {a w : World} {k : Nat} (h : Below a.heap.size a w) (hk : a.heap.size ≤ k) (x : Array Value) : Below a.heap.size a (w.setRow k x) :=
  ⟨h.os, h.tape, h.output, by simpa using h.size, fun i hi => (setRow_other _ _ _ _ (by omega)).trans (h.block i hi)⟩
end Go.Proofs.YtninicfnhoediaaGreatDoor.Md.Ce
namespace Go.Proofs.YtninicfnhoediaaGreatDoor.Md.Ce
open Go.ChangeShapes Go.WideShapes Go.ChangeAt Go.RowKit Num
attribute [local go_sem] run_store_float run_store_func run_store_nilFunc
theorem box2 {w : World} {x : Nat} {v0 v1 : Value} {T : TypeId} (h : w.heap[x]? = some (.cells #[v0, v1] T (0, 0))) : (w.cell? ⟨x, 0, none⟩ = some v0 ∧ w.cell? ⟨x, 1, none⟩ = some v1 ∧ x < w.heap.size) :=
  ⟨by rw [cell_of_row w x 0 _ _ _ h]; rfl, by rw [cell_of_row w x 1 _ _ _ h]; rfl, lt_of_block h⟩
theorem box3 {w : World} {x : Nat} {v0 v1 v2 : Value} {T : TypeId} (h : w.heap[x]? = some (.cells #[v0, v1, v2] T (0, 0))) : (w.cell? ⟨x, 0, none⟩ = some v0 ∧ w.cell? ⟨x, 1, none⟩ = some v1 ∧ w.cell? ⟨x, 2, none⟩ = some v2 ∧ x < w.heap.size) ∧ w.frozen? ⟨x, 0, none⟩ = false ∧ w.frozen? ⟨x, 1, none⟩ = false ∧ w.frozen? ⟨x, 2, none⟩ = false :=
  ⟨⟨by rw [cell_of_row w x 0 _ _ _ h]; rfl, by rw [cell_of_row w x 1 _ _ _ h]; rfl, by rw [cell_of_row w x 2 _ _ _ h]; rfl, lt_of_block h⟩, frozen_of_row w x 0 _ _ h, frozen_of_row w x 1 _ _ h, frozen_of_row w x 2 _ _ h⟩
def tripV (v x y : Int) : Value := .agg #[.int .u64 v, .int .u64 x, .int .u64 y]
def tripC (v x y : Int) : Array Value := #[.int .u64 v, .int .u64 x, .int .u64 y]
theorem trip_back2 {fn : Func} {p u : Tmp} (h : fn.results = #[.cell p 77, .tmp u]) {Q : Ending → World → Prop} {a : Act} {w : World} (g : Nat) (v x y : Int) (e : Int) (hp : a.tmps.getD p undef = .pointer (some ⟨g, 0, none⟩)) (hu : a.tmps.getD u undef = .int .i64 e)
    (hg : w.heap[g]? = some (.cells (tripC v x y) 77 (0, 0))) (hd : a.defers = []) (hR : Q (.returned (.tuple #[tripV v x y, .int .i64 e])) w) : bodyPost Tryz.prog fn Q .ret a w := by
  refine bodyPost_ret (v := .tuple #[tripV v x y, .int .i64 e]) ?_ hd hR
  rw [results_cell_tmp h, hp, hu]
  have hl := run_loadVar_row (P := Tryz.prog) w g 77 77 (tripC v x y) (0, 0) _ hg Tryz.underlying77 rfl (by kernel_rfl)
  simp [asAddr, hl, Result.andThen]
  rfl
theorem trip_set {w : World} {x : Nat} {v0 v1 v2 u0 u1 u2 : Value} {T : TypeId} (h : w.heap[x]? = some (.cells #[v0, v1, v2] T (0, 0))) : (((w.setCell ⟨x, 0, none⟩ u0).setCell ⟨x, 1, none⟩ u1).setCell ⟨x, 2, none⟩ u2).heap[x]? = some (.cells #[u0, u1, u2] T (0, 0)) := by
  have k0 := heap_setCell_same w x 0 _ _ u0 h
  have k1 := heap_setCell_same _ x 1 _ _ u1 k0
  exact (heap_setCell_same _ x 2 _ _ u2 k1).trans rfl
/-- in the midst of a Peek: the answer's own block, the spot's, the list's with the first k words -/
structure Pk (w wr : World) (p c : Int) : Prop where
  below : Below w.heap.size w wr
  ans : wr.heap[w.heap.size + 1]? = some (.cells #[.int .u64 0, .int .u64 0, .int .u64 0] 77 (0, 0))
  spot : wr.heap[w.heap.size + 1 + 1]? = some (.cells #[.int .i64 p, .int .i64 c] 128 (0, 0))
theorem Pk.on {w wr u : World} {p c : Int} (h : Pk w wr p c) (k : Below wr.heap.size wr u) : Pk w u p c :=
  ⟨below_step h.below k, (k.block _ (lt_of_block h.ans)).trans h.ans, (k.block _ (lt_of_block h.spot)).trans h.spot⟩
theorem pk_new {w w1 : World} {A : Obj} {p c : Int} (k : Below (((w.alloc A).alloc (.cells #[.int .u64 0, .int .u64 0, .int .u64 0] 77)).alloc (.cells #[.int .i64 p, .int .i64 c] 128)).heap.size (((w.alloc A).alloc (.cells #[.int .u64 0, .int .u64 0, .int .u64 0] 77)).alloc (.cells #[.int .i64 p, .int .i64 c] 128)) w1) : Pk w w1 p c :=
  ⟨below_step (bl_alloc (bl_alloc (bl_alloc (Below.refl _ _) _) _) _) k, (k.block _ (by simp)).trans ((Below.heap_alloc _ _ _ (by simp)).trans (alloc_at (by simp))), (k.block _ (by simp)).trans (alloc_at (by simp))⟩
/-- the first k of a cell's words -/
def PkL (ws : List Int) (p c : Int) (k : Nat) : List Int := [if 0 < k then wordC ws p c 0 else 0, if 1 < k then wordC ws p c 1 else 0, if 2 < k then wordC ws p c 2 else 0]
theorem PkL_set (ws : List Int) (p c : Int) {k : Nat} (hk : k < 3) : (PkL ws p c k).set k (wordC ws p c k) = PkL ws p c (k + 1) := by
  have : k = 0 ∨ k = 1 ∨ k = 2 := by omega
  rcases this with rfl | rfl | rfl <;> simp [PkL]
theorem pk_store {w u : World} {ws : List Int} {p c : Int} {gl k : Nat} (h : Pk w u p c ∧ u.heap[gl]? = some (.cells (u64s (PkL ws p c k)).toArray 129 (0, 0))) (hg : w.heap.size + 1 + 1 < gl) (hk : k < 3) :
    ((∃ y, u.cell? ⟨gl, k, none⟩ = some (.int .u64 y)) ∧ u.frozen? ⟨gl, k, none⟩ = false ∧ gl < u.heap.size) ∧ Hid (Pk w (u.setCell ⟨gl, k, none⟩ (.int .u64 (wordAt ws (placeI p c k)))) p c ∧ (u.setCell ⟨gl, k, none⟩ (.int .u64 (wordAt ws (placeI p c k)))).heap[gl]? = some (.cells (u64s (PkL ws p c (k + 1))).toArray 129 (0, 0))) := by
  refine ⟨⟨⟨(PkL ws p c k).getD k 0, ?_⟩, frozen_of_row _ _ _ _ _ h.2, lt_of_block h.2⟩, ⟨⟨bl_setCell h.1.below (by omega) _ _, ?_, ?_⟩, ?_⟩⟩
  · rw [cell_of_row _ _ _ _ _ _ h.2]
    have hl : k < (PkL ws p c k).length := by simpa [PkL] using hk
    simp [u64s, hl]
  · exact (heap_setCell_other _ _ _ _ (by show w.heap.size + 1 ≠ gl; omega)).trans h.1.ans
  · exact (heap_setCell_other _ _ _ _ (by show w.heap.size + 1 + 1 ≠ gl; omega)).trans h.1.spot
  · rw [heap_setCell_same _ _ _ _ _ _ h.2, ← PkL_set ws p c hk, ← u64s_set, List.setIfInBounds_toArray]
    rfl
section
variable {w : World} {b g : Nat} {ws : List Int} {o : Bool} {n : Int}
set_option maxRecDepth 100000 in
set_option maxHeartbeats 4000000 in
theorem cpeek_no (a1 a2 a3 a4 p a6 c : Int) (hc : mayC c = false) (w : World) : Calls Tryz.prog 28 #[.pointer (some ⟨b, 0, none⟩), planV a1 a2 a3 a4 p a6, .int .i64 c] w fun e w' => e = .returned (.tuple #[tripV 0 0 0, .int .i64 60]) ∧ Below w.heap.size w w' := by
  have H1 := Lib.hid (smay_any p c)
  simp only [hc] at H1
  unfold planV
  clear hc
  go_enter Tryz.func28, Tryz.ntmps28
  go_wp2_with (go_at_call 58; refine (H1.out _).mono ?_; rintro e w1 ⟨rfl, hw⟩; have HP := Lib.hid (pk_new hw); obtain ⟨⟨q0, q1, q2, q3⟩, q4, q5, q6⟩ := box3 HP.out.ans; clear hw)
  refine trip_back2 rfl (w.heap.size + 1) 0 0 0 60 rfl rfl (trip_set HP.out.ans) rfl ⟨rfl, ?_⟩
  refine bl_setCell (bl_setCell (bl_setCell HP.out.below (by omega) _ _) (by omega) _ _) (by omega) _ _
set_option maxRecDepth 100000 in
set_option maxHeartbeats 4000000 in
theorem cpeek_may (h : MemAt 123 w b g ws o n) (a1 a2 a3 a4 p a6 c : Int) (hc : mayC c = true) : Calls Tryz.prog 28 #[.pointer (some ⟨b, 0, none⟩), planV a1 a2 a3 a4 p a6, .int .i64 c] w fun e w' => (e = .returned (.tuple #[tripV (wordC ws p c 0) (wordC ws p c 1) (wordC ws p c 2), .int .i64 0]) ∧ (∀ j : Nat, j < 3 → hasB ws (placeI p c j) = true) ∨ e = .returned (.tuple #[tripV 0 0 0, .int .i64 30]) ∧ ∃ j : Nat, j < 3 ∧ hasB ws (placeI p c j) = false) ∧ Below w.heap.size w w' := by
  have H1 := Lib.hid (smay_any p c)
  simp only [hc] at H1
  unfold planV
  have HPL := Lib.hid (fun (j : Int) (hj : 0 ≤ j ∧ j < 3) => splace_any p c j hc hj)
  have HPK := Lib.hid (fun (u : World) (k : Below w.heap.size w u) (j : Int) => peek_any (h.on k) j)
  clear h hc
  go_enter Tryz.func28, Tryz.ntmps28
  go_wp2_with (go_at_call 58; refine (H1.out _).mono ?_; rintro e w1 ⟨rfl, hw⟩; have HP := Lib.hid (pk_new hw); clear hw)
  obtain ⟨gl, hgl⟩ : ∃ gl, w1.heap.size = gl := ⟨_, rfl⟩
  have HG : Hid (w.heap.size + 1 + 1 < gl) := by show _ < _; rw [← hgl]; exact lt_of_block HP.out.spot
  have HL0 : Hid (Pk w (w1.alloc (.cells #[.int .u64 0, .int .u64 0, .int .u64 0] 129)) p c ∧ (w1.alloc (.cells #[.int .u64 0, .int .u64 0, .int .u64 0] 129)).heap[gl]? = some (.cells (u64s (PkL ws p c 0)).toArray 129 (0, 0))) := ⟨HP.out.on (bl_alloc (Below.refl _ _) _), alloc_at hgl⟩
  rw [hgl]
  clear HP hgl
  go_loopw [21] (fun vi wr => ∃ k : Nat, vi = .int .i64 k ∧ k ≤ 3 ∧ Hid ((Pk w wr p c ∧ wr.heap[gl]? = some (.cells (u64s (PkL ws p c k)).toArray 129 (0, 0))) ∧ ∀ j : Nat, j < k → hasB ws (placeI p c j) = true)) (fun vi _ => 3 - (intOf vi).toNat)
  case atStart => exact ⟨0, rfl, by omega, HL0.out, fun j hj => absurd hj (Nat.not_lt_zero j)⟩
  case round =>
    clear HL0
    obtain ⟨k, rfl, hk, HR⟩ := hrel
    by_cases hlt : k < 3
    · have hlt' : (k : Int) < 3 := by omega
      obtain ⟨q0, q1, q2⟩ := box2 HR.out.1.1.spot
      have hsz := HR.out.1.1.below.size
      have HPLK := Lib.hid (HPL.out k ⟨by omega, by omega⟩)
      have HAR : Hid (∀ u, Below wr.heap.size wr u → (Pk w u p c ∧ u.heap[gl]? = some (.cells (u64s (PkL ws p c k)).toArray 129 (0, 0)))) := fun u hu => ⟨HR.out.1.1.on hu, (hu.block gl (lt_of_block HR.out.1.2)).trans HR.out.1.2⟩
      cases hh : hasB ws (placeI p c k)
      · have HEX : Hid (∃ j : Nat, j < 3 ∧ hasB ws (placeI p c j) = false) := ⟨k, hlt, hh⟩
        have HPKK := Lib.hid (fun (u : World) (z : Below w.heap.size w u) => HPK.out u z (placeI p c k))
        simp only [errP, hh] at HPKK
        generalize placeI p c k = ii at HPLK HPKK hh
        clear hh hk HR
        go_wp2_with (first
          | (go_at_call 59; refine (HPLK.out _).mono ?_; rintro e w2 ⟨rfl, hw⟩; have HP2 := Lib.hid (HAR.out _ hw); obtain ⟨⟨q0, q1, q2, q3⟩, q4, q5, q6⟩ := box3 HP2.out.1.ans; clear hw)
          | (go_at_call 25; refine (HPKK.out _ HP2.out.1.below).mono ?_; rintro e w3 ⟨rfl, hw⟩; subst w3))
        refine trip_back2 rfl (w.heap.size + 1) 0 0 0 30 rfl rfl (trip_set HP2.out.1.ans) rfl ⟨.inr ⟨rfl, HEX.out⟩, ?_⟩
        exact bl_setCell (bl_setCell (bl_setCell HP2.out.1.below (by omega) _ _) (by omega) _ _) (by omega) _ _
      · have HALL : Hid (∀ j : Nat, j < k + 1 → hasB ws (placeI p c j) = true) := fun j hj => by
          by_cases e : j = k
          · subst e; exact hh
          · exact HR.out.2 j (by omega)
        have HPKK := Lib.hid (fun (u : World) (z : Below w.heap.size w u) => HPK.out u z (placeI p c k))
        simp only [errP, hh] at HPKK
        have HST : Hid (∀ u : World, (Pk w u p c ∧ u.heap[gl]? = some (.cells (u64s (PkL ws p c k)).toArray 129 (0, 0))) → ((∃ y, u.cell? ⟨gl, k, none⟩ = some (.int .u64 y)) ∧ u.frozen? ⟨gl, k, none⟩ = false ∧ gl < u.heap.size) ∧ Hid (Pk w (u.setCell ⟨gl, k, none⟩ (.int .u64 (wordAt ws (placeI p c k)))) p c ∧ (u.setCell ⟨gl, k, none⟩ (.int .u64 (wordAt ws (placeI p c k)))).heap[gl]? = some (.cells (u64s (PkL ws p c (k + 1))).toArray 129 (0, 0)))) := fun u hu => pk_store hu HG.out hlt
        generalize placeI p c k = ii at HPLK HPKK hh HST
        generalize wordAt ws ii = yy at HPKK HST
        clear hh hk HR
        go_wp2_with (first
          | (go_at_call 59; refine (HPLK.out _).mono ?_; rintro e w2 ⟨rfl, hw⟩; have HP2 := Lib.hid (HAR.out _ hw); obtain ⟨⟨⟨y0, q0⟩, q1, q2⟩, HX⟩ := HST.out _ HP2.out; clear hw)
          | (go_at_call 25; refine (HPKK.out _ HP2.out.1.below).mono ?_; rintro e w3 ⟨rfl, hw⟩; subst w3))
        exact ⟨⟨k + 1, by first | rfl | (congr 1), by omega, HX.out, HALL.out⟩, by simp [intOf]; omega⟩
    · have hlt' : ¬ (k : Int) < 3 := by omega
      obtain rfl : k = 3 := by omega
      have HALL := Lib.hid HR.out.2
      have HP2 := Lib.hid HR.out.1
      obtain ⟨⟨q0, q1, q2, q3⟩, q4, q5, q6⟩ := box3 HP2.out.1.ans
      obtain ⟨⟨r0, r1, r2, r3⟩, _⟩ := box3 (v0 := .int .u64 (wordC ws p c 0)) (v1 := .int .u64 (wordC ws p c 1)) (v2 := .int .u64 (wordC ws p c 2)) HP2.out.2
      clear HR HPL HPK hlt hk
      go_wp2
      refine trip_back2 rfl (w.heap.size + 1) (wordC ws p c 0) (wordC ws p c 1) (wordC ws p c 2) 0 rfl rfl (trip_set HP2.out.1.ans) rfl ⟨.inl ⟨rfl, HALL.out⟩, ?_⟩
      exact bl_setCell (bl_setCell (bl_setCell HP2.out.1.below (by omega) _ _) (by omega) _ _) (by omega) _ _
def okP (ws : List Int) (p c : Int) : Bool := hasB ws (placeI p c 0) && hasB ws (placeI p c 1) && hasB ws (placeI p c 2)
def peekE (ws : List Int) (p c : Int) : Int := if mayC c then (if okP ws p c then 0 else 30) else 60
def peekW (ws : List Int) (p c j : Int) : Int := if peekE ws p c = 0 then wordC ws p c j else 0
theorem cpeek_any (h : MemAt 123 w b g ws o n) (a1 a2 a3 a4 p a6 c : Int) : Calls Tryz.prog 28 #[.pointer (some ⟨b, 0, none⟩), planV a1 a2 a3 a4 p a6, .int .i64 c] w fun e w' => e = .returned (.tuple #[tripV (peekW ws p c 0) (peekW ws p c 1) (peekW ws p c 2), .int .i64 (peekE ws p c)]) ∧ Below w.heap.size w w' := by
  cases hc : mayC c
  · have e1 : peekE ws p c = 60 := by simp [peekE, hc]
    have e2 : ∀ j, peekW ws p c j = 0 := fun j => by simp [peekW, e1]
    rw [e2, e2, e2, e1]
    exact cpeek_no a1 a2 a3 a4 p a6 c hc w
  · refine (cpeek_may h a1 a2 a3 a4 p a6 c hc).mono fun e w' ⟨he, hb⟩ => ⟨?_, hb⟩
    rcases he with ⟨he, ha⟩ | ⟨he, j, hj, hn⟩
    · have e1 : peekE ws p c = 0 := by
        have h0 := ha 0 (by omega)
        have h1 := ha 1 (by omega)
        have h2 := ha 2 (by omega)
        simp at h0 h1 h2
        simp [peekE, hc, okP, h0, h1, h2]
      have e2 : ∀ j, peekW ws p c j = wordC ws p c j := fun j => by simp [peekW, e1]
      rw [e2, e2, e2, e1]
      exact he
    · have e0 : okP ws p c = false := by
        have : j = 0 ∨ j = 1 ∨ j = 2 := by omega
        rcases this with rfl | rfl | rfl <;> simp at hn <;> simp [okP, hn]
      have e1 : peekE ws p c = 30 := by simp [peekE, hc, e0]
      have e2 : ∀ j, peekW ws p c j = 0 := fun j => by simp [peekW, e1]
      rw [e2, e2, e2, e1]
      exact he
end
/-- what a triple says of a stamp -/
def atV (v x y s : Int) : Nat := if s < v then fixB y.toNat else fixB x.toNat
set_option maxRecDepth 100000 in
theorem cat_any (v x y s : Int) (w : World) : Calls Tryz.prog 29 #[tripV v x y, .int .u64 s] w fun e w' => e = .returned (.float .f64 (atV v x y s)) ∧ Below w.heap.size w w' := by
  unfold tripV atV
  by_cases h : s < v
  · rw [if_pos h]
    go_enter Tryz.func29, Tryz.ntmps29
    go_wp2_with (go_at_call 60; refine (of_int _ _).mono ?_; rintro e w2 ⟨rfl, hw⟩; subst w2)
    go_ret
    exact ⟨rfl, (by repeat (first | exact Below.refl _ _ | refine bl_drew ?_ | refine bl_drewN _ ?_ | refine bl_alloc ?_ _ | refine bl_setCell ?_ (by simp) _ _ | refine bl_setRow ?_ (by simp) _))⟩
  · rw [if_neg h]
    go_enter Tryz.func29, Tryz.ntmps29
    go_wp2_with (go_at_call 60; refine (of_int _ _).mono ?_; rintro e w2 ⟨rfl, hw⟩; subst w2)
    go_ret
    exact ⟨rfl, (by repeat (first | exact Below.refl _ _ | refine bl_drew ?_ | refine bl_drewN _ ?_ | refine bl_alloc ?_ _ | refine bl_setCell ?_ (by simp) _ _ | refine bl_setRow ?_ (by simp) _))⟩
end Go.Proofs.YtninicfnhoediaaGreatDoor.Md.Ce
namespace Go.Proofs.YtninicfnhoediaaGreatDoor.Md.Cv
open Go.ChangeShapes Go.WideShapes Go.ChangeAt Go.RowKit
theorem follows13 : Tryz.prog.follows .mixedOrders = true := by kernel_rfl
/-- a plan, as a value -/
def plnV (a b c d e f : Int) : Value := .agg #[.int .i64 a, .int .i64 b, .int .i64 c, .int .i64 d, .int .i64 e, .int .i64 f]
def passV (t : Int) : Int := IntKind.u64.wrap (t + 1)
theorem cell_kept {w w' : World} {b : Nat} (e : w'.heap[b]? = w.heap[b]?) (o : Nat) : w'.cell? ⟨b, o, none⟩ = w.cell? ⟨b, o, none⟩ := by simp [World.cell?, e]
theorem tb_drew {B : Nat} {a w : World} (h : Below B a w) : Below B a w.drew := ⟨h.os, h.tape, h.output, h.size, h.block⟩
theorem tb_alloc {a w : World} (h : Below a.heap.size a w) (x : Obj) : Below a.heap.size a (w.alloc x) := h.alloc h.size x
theorem alloc_at {w : World} {x : Obj} {k : Nat} (hk : w.heap.size = k) : (w.alloc x).heap[k]? = some x := by subst hk; exact heap_alloc_new _ _
/-- blocks of two types are two -/
theorem ne_ty {w : World} {a b : Nat} {c d : Array Value} {S T : TypeId} {x y : Nat × Nat} (h : w.heap[a]? = some (.cells c S x)) (k : w.heap[b]? = some (.cells d T y)) (hne : (S == T) = false) : a ≠ b := by
  rintro rfl
  rw [h] at k
  cases k
  simp at hne
/-- nothing old but three blocks has turned -/
structure Ch3 (b g l : Nat) (w w' : World) : Prop where
  os : w'.os = w.os
  tape : w'.tape = w.tape
  output : w'.output = w.output
  size : w.heap.size ≤ w'.heap.size
  block : ∀ k, k < w.heap.size → k ≠ b → k ≠ g → k ≠ l → w'.heap[k]? = w.heap[k]?
section
variable {b g l : Nat} {a w c : World}
theorem Ch3.refl (b g l : Nat) (w : World) : Ch3 b g l w w := ⟨rfl, rfl, rfl, Nat.le_refl _, fun _ _ _ _ _ => rfl⟩
theorem Ch3.trans (h : Ch3 b g l a w) (k : Ch3 b g l w c) : Ch3 b g l a c :=
  ⟨k.os.trans h.os, k.tape.trans h.tape, k.output.trans h.output, Nat.le_trans h.size k.size, fun i hi h1 h2 h3 => (k.block i (Nat.lt_of_lt_of_le hi h.size) h1 h2 h3).trans (h.block i hi h1 h2 h3)⟩
theorem Ch3.chg (h : Ch3 b g l a w) (k : Chg b g w c) : Ch3 b g l a c := h.trans ⟨k.os, k.tape, k.output, k.size, fun i hi h1 h2 _ => k.block i hi h1 h2⟩
theorem Ch3.on (h : Ch3 b g l a w) (k : Below w.heap.size w c) : Ch3 b g l a c := h.trans ⟨k.os, k.tape, k.output, k.size, fun i hi _ _ _ => k.block i hi⟩
theorem Ch3.set (h : Ch3 b g l a w) (j : Nat) (u : Value) : Ch3 b g l a (w.setCell ⟨l, j, none⟩ u) := h.trans ⟨rfl, rfl, rfl, by simp, fun k _ _ _ h3 => heap_setCell_other _ _ _ _ h3⟩
end
theorem chg_from {a w w' : World} {b g : Nat} (h : Below a.heap.size a w) (k : Chg b g w w') : Chg b g a w' := (Chg.trans ⟨h.os, h.tape, h.output, h.size, fun i hi _ _ => h.block i hi⟩ k)
theorem below_step {a w w' : World} (h : Below a.heap.size a w) (k : Below w.heap.size w w') : Below a.heap.size a w' := h.trans (k.mono h.size)
/-- may a thread be; where its word is -/
def may8 (t : Int) : Bool := decide (0 ≤ t ∧ t < 8)
def plc (p t : Int) : Int := if 0 ≤ p ∧ p ≤ 4096 then p + t else -1
theorem may8_pos {t : Int} (h : may8 t = true) : 0 ≤ t ∧ t < 8 := of_decide_eq_true h
theorem smay_any (p t : Int) (w : World) : Calls Tryz.prog 116 #[.agg #[.int .i64 p, .int .i64 t]] w fun e w' => e = .returned (.bool (may8 t)) ∧ Below w.heap.size w w' := by
  unfold may8
  by_cases h1 : 0 ≤ t
  · by_cases h2 : t < 8
    · go_enter Tryz.func116, Tryz.ntmps116
      go_wp2
      go_ret
      exact ⟨by first | (simp; done) | (simp; omega), (Below.refl _ _).alloc (Nat.le_refl _) _⟩
    · go_enter Tryz.func116, Tryz.ntmps116
      go_wp2
      go_ret
      exact ⟨by first | (simp; done) | (simp; omega), (Below.refl _ _).alloc (Nat.le_refl _) _⟩
  · go_enter Tryz.func116, Tryz.ntmps116
    go_wp2
    go_ret
    exact ⟨by first | (simp; done) | (simp; omega), (Below.refl _ _).alloc (Nat.le_refl _) _⟩
theorem splace_any (p t : Int) (ht : may8 t = true) (w : World) : Calls Tryz.prog 122 #[.agg #[.int .i64 p, .int .i64 t]] w fun e w' => e = .returned (.int .i64 (plc p t)) ∧ Below w.heap.size w w' := by
  obtain ⟨ht0, ht1⟩ := may8_pos ht
  clear ht
  by_cases h1 : 0 ≤ p
  · by_cases h2 : p ≤ 4096
    · have e : plc p t = p + t := by simp [plc, h1, h2]
      have e1 : wrap64 (p + t) = p + t := Go.IntWalk.wrap64_in _ ⟨by omega, by omega⟩
      have h1' : ¬ p < 0 := by omega
      have h2' : ¬ 4096 < p := by omega
      rw [e]
      clear e ht0 ht1
      go_enter Tryz.func122, Tryz.ntmps122
      go_wp2
      go_ret
      exact ⟨rfl, (Below.refl _ _).alloc (Nat.le_refl _) _⟩
    · have e : plc p t = -1 := by simp [plc, h2]
      rw [e]
      clear e ht0 ht1
      have h1' : ¬ p < 0 := by omega
      have h2' : 4096 < p := by omega
      go_enter Tryz.func122, Tryz.ntmps122
      go_wp2
      go_ret
      exact ⟨rfl, (Below.refl _ _).alloc (Nat.le_refl _) _⟩
  · have e : plc p t = -1 := by simp [plc, h1]
    rw [e]
    clear e ht0 ht1
    have h1' : p < 0 := by omega
    go_enter Tryz.func122, Tryz.ntmps122
    go_wp2
    go_ret
    exact ⟨rfl, (Below.refl _ _).alloc (Nat.le_refl _) _⟩
theorem wordOf_any (k : Int) (w : World) : Calls Tryz.prog 144 #[.int .u64 k] w fun e w' => e = .returned (.int .u64 (passV k)) ∧ w' = w := by
  unfold passV
  go_enter Tryz.func144, Tryz.ntmps144
  go_wp2
  go_ret
  exact ⟨rfl, rfl⟩
/-- a coming: where the stamp is, the census, the thread, how many accesses are done, the claim, the stamp -/
structure Cs where
  A : Int
  B : Int
  T : Int
  N : Int
  K : Int
  S : Int
def CmAt (w : World) (x : Nat) (c : Cs) : Prop := w.heap[x]? = some (.cells #[.int .i64 c.A, .int .i64 c.B, .int .i64 c.T, .int .i64 c.N, .int .u64 c.K, .int .u64 c.S] 180 (0, 0))
section
variable {w w' : World} {x : Nat} {c : Cs}
theorem CmAt.lt (h : CmAt w x c) : x < w.heap.size := lt_of_block h
theorem CmAt.keep (h : CmAt w x c) (e : w'.heap[x]? = w.heap[x]?) : CmAt w' x c := e.trans h
theorem CmAt.on (h : CmAt w x c) (k : Below w.heap.size w w') : CmAt w' x c := h.keep (k.block x h.lt)
theorem CmAt.cells (h : CmAt w x c) : w.cell? ⟨x, 0, none⟩ = some (.int .i64 c.A) ∧ w.cell? ⟨x, 1, none⟩ = some (.int .i64 c.B) ∧ w.cell? ⟨x, 2, none⟩ = some (.int .i64 c.T) ∧ w.cell? ⟨x, 3, none⟩ = some (.int .i64 c.N) ∧ w.cell? ⟨x, 4, none⟩ = some (.int .u64 c.K) ∧ w.cell? ⟨x, 5, none⟩ = some (.int .u64 c.S) ∧ x < w.heap.size ∧ w.frozen? ⟨x, 3, none⟩ = false ∧ w.frozen? ⟨x, 4, none⟩ = false ∧ w.frozen? ⟨x, 5, none⟩ = false :=
  ⟨by rw [cell_of_row w x 0 _ _ _ h]; rfl, by rw [cell_of_row w x 1 _ _ _ h]; rfl, by rw [cell_of_row w x 2 _ _ _ h]; rfl, by rw [cell_of_row w x 3 _ _ _ h]; rfl, by rw [cell_of_row w x 4 _ _ _ h]; rfl, by rw [cell_of_row w x 5 _ _ _ h]; rfl, lt_of_block h, frozen_of_row w x 3 _ _ h, frozen_of_row w x 4 _ _ h, frozen_of_row w x 5 _ _ h⟩
theorem CmAt.setN (h : CmAt w x c) (v : Int) : CmAt (w.setCell ⟨x, 3, none⟩ (.int .i64 v)) x { c with N := v } := (heap_setCell_same w x 3 _ _ _ h).trans rfl
theorem CmAt.setK (h : CmAt w x c) (v : Int) : CmAt (w.setCell ⟨x, 4, none⟩ (.int .u64 v)) x { c with K := v } := (heap_setCell_same w x 4 _ _ _ h).trans rfl
theorem CmAt.setS (h : CmAt w x c) (v : Int) : CmAt (w.setCell ⟨x, 5, none⟩ (.int .u64 v)) x { c with S := v } := (heap_setCell_same w x 5 _ _ _ h).trans rfl
theorem stampC_any (h : CmAt w x c) : Calls Tryz.prog 94 #[.pointer (some ⟨x, 0, none⟩)] w fun e w' => e = .returned (.int .u64 c.S) ∧ w' = w := by
  obtain ⟨h0, h1, h2, h3, h4, h5, h6, _⟩ := h.cells
  clear h
  go_enter Tryz.func94, Tryz.ntmps94
  go_wp2
  go_ret
  exact ⟨rfl, rfl⟩
theorem overC_any (h : CmAt w x c) : Calls Tryz.prog 115 #[.pointer (some ⟨x, 0, none⟩)] w fun e w' => e = .returned (.bool (decide (c.N = 3))) ∧ w' = w := by
  obtain ⟨h0, h1, h2, h3, h4, h5, h6, _⟩ := h.cells
  clear h
  go_enter Tryz.func115, Tryz.ntmps115
  go_wp2
  go_ret
  exact ⟨rfl, rfl⟩
theorem come_any (a0 a1 a2 a3 a4 a5 t : Int) (w : World) : Calls Tryz.prog 76 #[plnV a0 a1 a2 a3 a4 a5, .int .i64 t] w fun e w' => ∃ x, e = .returned (.pointer (some ⟨x, 0, none⟩)) ∧ w.heap.size ≤ x ∧ CmAt w' x ⟨a2, a3, t, 0, 0, 0⟩ ∧ Below w.heap.size w w' := by
  unfold plnV
  go_enter Tryz.func76, Tryz.ntmps76
  go_wp2
  go_ret
  exact ⟨_, rfl, by simp, alloc_at (by simp), tb_alloc (tb_alloc (Below.refl _ _) _) _⟩
end
end Go.Proofs.YtninicfnhoediaaGreatDoor.Md.Cv
namespace Go.Proofs.YtninicfnhoediaaGreatDoor.Md.Cv
open Go.ChangeShapes Go.WideShapes Go.ChangeAt Go.RowKit
theorem ok_facts {ws : List Int} {o : Bool} {i : Int} (h : errA ws o i = 0) : (∀ v, stored ws o i v = ws.set i.toNat v) ∧ spentO ws o i = false ∧ (∀ n, spentC ws o i n = up n) ∧ toldW ws o i = wordAt ws i ∧ hasB ws i = true ∧ o = true := by
  have hk : hasB ws i = true ∧ o = true := by
    unfold errA at h
    cases q : hasB ws i <;> cases o <;> simp [q] at h ⊢
  obtain ⟨h1, rfl⟩ := hk
  exact ⟨fun v => by simp [stored, h1], by simp [spentO, h1], fun n => by simp [spentC, h1], by simp [toldW, h1], h1, rfl⟩
theorem no_facts {ws : List Int} {o : Bool} {i : Int} (h : ¬ errA ws o i = 0) : (∀ v, stored ws o i v = ws) ∧ spentO ws o i = o ∧ (∀ n, spentC ws o i n = n) ∧ toldW ws o i = 0 := by
  have hk : (hasB ws i && o) = false := by
    unfold errA at h
    cases q : hasB ws i <;> cases o <;> simp [q] at h ⊢
  refine ⟨fun v => by simp [stored, hk], ?_, fun n => by simp [spentC, hk], by simp [toldW, hk]⟩
  unfold spentO
  cases q : hasB ws i <;> cases o <;> simp_all
/-- what an access of a coming does -/
def cI (c : Cs) : Int := if c.N = 1 then plc c.B c.T else c.A
def aW (c : Cs) (ws : List Int) (o : Bool) : List Int := if c.N = 1 then stored ws o (plc c.B c.T) (passV c.K) else ws
def aC (c : Cs) (ws : List Int) (o : Bool) : Cs := ⟨c.A, c.B, c.T, c.N, if c.N = 0 then toldW ws o c.A else c.K, if c.N = 2 then toldW ws o c.A else c.S⟩
section
variable {w : World} {b g x : Nat} {ws : List Int} {o : Bool} {n : Int} {c : Cs}
theorem CmAt.ne (h : CmAt w x c) (m : MemAt 123 w b g ws o n) : x ≠ b ∧ x ≠ g := ⟨ne_ty h m.box rfl, ne_ty h m.row rfl⟩
set_option maxRecDepth 100000 in
set_option maxHeartbeats 1000000 in
theorem acc0_any (h : MemAt 123 w b g ws o n) {A B T K S : Int} (hx : CmAt w x ⟨A, B, T, 0, K, S⟩) : Calls Tryz.prog 117 #[.pointer (some ⟨x, 0, none⟩), .pointer (some ⟨b, 0, none⟩)] w fun e w' => e = .returned (.int .i64 (errA ws o A)) ∧ MemAt 123 w' b g ws (spentO ws o A) (spentC ws o A n) ∧ CmAt w' x ⟨A, B, T, 0, toldW ws o A, S⟩ ∧ Ch3 b g x w w' := by
  have HN := Lib.hid (hx.ne h)
  have HM := Lib.hid h
  have HX := Lib.hid hx
  obtain ⟨h0, h1, h2, h3, h4, h5, h6, h7, h8, h9⟩ := hx.cells
  clear h hx
  dsimp only at h0 h1 h2 h3 h4 h5
  go_enter Tryz.func117, Tryz.ntmps117
  go_wp2_with (go_at_call 23; refine (load_any HM.out _).mono ?_; rintro e w1 ⟨rfl, hm, hc⟩; have HM1 := Lib.hid hm; have HC1 := Lib.hid hc; have HX1 := Lib.hid (HX.out.keep (hc.block x h6 HN.out.1 HN.out.2)); obtain ⟨k0, k1, k2, k3, k4, k5, k6, k7, k8, k9⟩ := HX1.out.cells; clear hm hc)
  go_ret
  exact ⟨rfl, HM1.out.other HN.out.1.symm HN.out.2.symm _ _, HX1.out.setK _, ((Ch3.refl _ _ _ _).chg HC1.out).set _ _⟩
set_option maxRecDepth 100000 in
set_option maxHeartbeats 1000000 in
theorem acc2_any (h : MemAt 123 w b g ws o n) {A B T K S : Int} (hx : CmAt w x ⟨A, B, T, 2, K, S⟩) : Calls Tryz.prog 117 #[.pointer (some ⟨x, 0, none⟩), .pointer (some ⟨b, 0, none⟩)] w fun e w' => e = .returned (.int .i64 (errA ws o A)) ∧ MemAt 123 w' b g ws (spentO ws o A) (spentC ws o A n) ∧ CmAt w' x ⟨A, B, T, 2, K, toldW ws o A⟩ ∧ Ch3 b g x w w' := by
  have HN := Lib.hid (hx.ne h)
  have HM := Lib.hid h
  have HX := Lib.hid hx
  obtain ⟨h0, h1, h2, h3, h4, h5, h6, h7, h8, h9⟩ := hx.cells
  clear h hx
  dsimp only at h0 h1 h2 h3 h4 h5
  go_enter Tryz.func117, Tryz.ntmps117
  go_wp2_with (go_at_call 23; refine (load_any HM.out _).mono ?_; rintro e w1 ⟨rfl, hm, hc⟩; have HM1 := Lib.hid hm; have HC1 := Lib.hid hc; have HX1 := Lib.hid (HX.out.keep (hc.block x h6 HN.out.1 HN.out.2)); obtain ⟨k0, k1, k2, k3, k4, k5, k6, k7, k8, k9⟩ := HX1.out.cells; clear hm hc)
  go_ret
  exact ⟨rfl, HM1.out.other HN.out.1.symm HN.out.2.symm _ _, HX1.out.setS _, ((Ch3.refl _ _ _ _).chg HC1.out).set _ _⟩
set_option maxRecDepth 100000 in
set_option maxHeartbeats 2000000 in
theorem acc1_any (h : MemAt 123 w b g ws o n) {A B T K S : Int} (hx : CmAt w x ⟨A, B, T, 1, K, S⟩) (hmay : may8 T = true) : Calls Tryz.prog 117 #[.pointer (some ⟨x, 0, none⟩), .pointer (some ⟨b, 0, none⟩)] w fun e w' => e = .returned (.int .i64 (errA ws o (plc B T))) ∧ MemAt 123 w' b g (stored ws o (plc B T) (passV K)) (spentO ws o (plc B T)) (spentC ws o (plc B T) n) ∧ CmAt w' x ⟨A, B, T, 1, K, S⟩ ∧ Ch3 b g x w w' := by
  have HN := Lib.hid (hx.ne h)
  have HM := Lib.hid h
  have HX := Lib.hid hx
  have HY := Lib.hid hmay
  obtain ⟨h0, h1, h2, h3, h4, h5, h6, h7, h8, h9⟩ := hx.cells
  clear h hx hmay
  dsimp only at h0 h1 h2 h3 h4 h5
  go_enter Tryz.func117, Tryz.ntmps117
  go_wp2
  refine wp_region_seq (fun w' => w'.cell? ⟨x, 1, none⟩ = some (.int .i64 B) ∧ w'.cell? ⟨x, 2, none⟩ = some (.int .i64 T) ∧ w'.cell? ⟨x, 4, none⟩ = some (.int .u64 K)) ((0, true) :: (1, true) :: (2, true) :: (3, true) :: (4, true) :: (6, true) :: (7, true) :: (8, true) :: (9, true) :: (5, false) :: (10, false) :: (11, false) :: (12, true) :: []) follows13 (by kernel_rfl) (fun _ _ _ _ _ h => h) ⟨h1, h2, h4⟩ ?_
  repeat (refine wpSeq_take (v := ?_) rfl (by rfl) (fun wq hSq => ?_) ?_; rotate_left; (focus ((try dsimp only at hSq); go_simp; try with_reducible rfl)); simp only [Act.put, List.setIfInBounds_toArray, List.set_cons_zero, List.set_cons_succ])
  refine wpSeq_do rfl (by rfl) (fun KK hK => ?_)
  go_simp
  refine (splace_any B T HY.out _).mono ?_
  rintro e w1 ⟨rfl, hb⟩
  have HB1 : Hid (Below w.heap.size w w1) := below_step (tb_drew (Below.refl _ _)) hb
  have HX1 := Lib.hid (HX.out.on HB1.out)
  obtain ⟨k0, k1, k2, k3, k4, k5, k6, _⟩ := HX1.out.cells
  refine hK.out _ _ ⟨k1, k2, k4⟩ ?_
  clear hK KK hb
  try simp only [Act.put, List.setIfInBounds_toArray, List.set_cons_zero, List.set_cons_succ]
  refine wpSeq_do rfl (by rfl) (fun KK hK => ?_)
  go_simp
  refine (wordOf_any K _).mono ?_
  rintro e w2 ⟨rfl, hw⟩
  subst w2
  refine hK.out _ _ ⟨k1, k2, k4⟩ ?_
  clear hK KK
  try simp only [Act.put, List.setIfInBounds_toArray, List.set_cons_zero, List.set_cons_succ]
  refine wpSeq_do rfl (by rfl) (fun KK hK => ?_)
  go_simp
  refine (store_any (HM.out.on HB1.out) _ _).mono ?_
  rintro e w2 ⟨rfl, hm, hc⟩
  have HM2 := Lib.hid hm
  have HC2 := Lib.hid hc
  have HX2 := Lib.hid (HX1.out.keep (hc.block x k6 HN.out.1 HN.out.2))
  clear hm hc
  obtain ⟨j0, j1, j2, j3, j4, j5, j6, _⟩ := HX2.out.cells
  refine hK.out _ _ ⟨j1, j2, j4⟩ ?_
  clear hK KK
  try simp only [Act.put, List.setIfInBounds_toArray, List.set_cons_zero, List.set_cons_succ]
  repeat (refine wpSeq_take (v := ?_) rfl (by rfl) (fun wq hSq => ?_) ?_; rotate_left; (focus ((try dsimp only at hSq); go_simp; try with_reducible rfl)); simp only [Act.put, List.setIfInBounds_toArray, List.set_cons_zero, List.set_cons_succ])
  refine wpSeq_nil ?_
  go_wp2
  go_ret
  exact ⟨rfl, HM2.out, HX2.out, ((Ch3.refl _ _ _ _).on HB1.out).chg HC2.out⟩
theorem access_any (h : MemAt 123 w b g ws o n) (hx : CmAt w x c) (hN : c.N = 0 ∨ c.N = 1 ∨ c.N = 2) (hmay : may8 c.T = true) : Calls Tryz.prog 117 #[.pointer (some ⟨x, 0, none⟩), .pointer (some ⟨b, 0, none⟩)] w fun e w' => e = .returned (.int .i64 (errA ws o (cI c))) ∧ MemAt 123 w' b g (aW c ws o) (spentO ws o (cI c)) (spentC ws o (cI c) n) ∧ CmAt w' x (aC c ws o) ∧ Ch3 b g x w w' := by
  obtain ⟨A, B, T, N, K, S⟩ := c
  dsimp only at hN hmay
  rcases hN with rfl | rfl | rfl
  · exact acc0_any h hx
  · exact acc1_any h hx hmay
  · exact acc2_any h hx
end
end Go.Proofs.YtninicfnhoediaaGreatDoor.Md.Cv
namespace Go.Proofs.YtninicfnhoediaaGreatDoor.Md.Cv
open Go.ChangeShapes Go.WideShapes Go.ChangeAt Go.RowKit
/-- a coming's step: the error, the answer, the words, whether the memory is open, the count, the coming -/
def cE (c : Cs) (ws : List Int) (o : Bool) : Int := if c.N = 3 then 3 else if may8 c.T then errA ws o (cI c) else 100
def cO (c : Cs) (ws : List Int) (o : Bool) : Bool := decide (cE c ws o = 0) && decide (c.N = 2)
def cW (c : Cs) (ws : List Int) (o : Bool) : List Int := if cE c ws o = 0 then (if c.N = 1 then ws.set (plc c.B c.T).toNat (passV c.K) else ws) else ws
def cP (c : Cs) (ws : List Int) (o : Bool) : Bool := if cE c ws o = 0 then false else o
def cQ (c : Cs) (ws : List Int) (o : Bool) (n : Int) : Int := if cE c ws o = 0 then up n else n
def cC (c : Cs) (ws : List Int) (o : Bool) : Cs := if cE c ws o = 0 then ⟨c.A, c.B, c.T, c.N + 1, if c.N = 0 then wordAt ws c.A else c.K, if c.N = 2 then wordAt ws c.A else c.S⟩ else c
/-- what holds of every coming -/
structure COk (c : Cs) : Prop where
  n : c.N = 0 ∨ c.N = 1 ∨ c.N = 2 ∨ c.N = 3
  k : c.N = 0 → c.K = 0
  s : c.N ≠ 3 → c.S = 0
theorem aW_ok {c : Cs} {ws : List Int} {o : Bool} (h : errA ws o (cI c) = 0) : aW c ws o = if c.N = 1 then ws.set (plc c.B c.T).toNat (passV c.K) else ws := by
  unfold aW cI at *
  by_cases q : c.N = 1
  · rw [if_pos q] at h ⊢
    rw [if_pos q, (ok_facts h).1]
  · rw [if_neg q, if_neg q]
theorem aW_no {c : Cs} {ws : List Int} {o : Bool} (h : ¬ errA ws o (cI c) = 0) : aW c ws o = ws := by
  unfold aW cI at *
  by_cases q : c.N = 1
  · rw [if_pos q] at h ⊢
    exact (no_facts h).1 _
  · rw [if_neg q]
theorem aC_ok {c : Cs} {ws : List Int} {o : Bool} (h : errA ws o (cI c) = 0) : aC c ws o = ⟨c.A, c.B, c.T, c.N, if c.N = 0 then wordAt ws c.A else c.K, if c.N = 2 then wordAt ws c.A else c.S⟩ := by
  unfold aC cI at *
  by_cases q : c.N = 1
  · rw [if_neg (by omega), if_neg (by omega), if_neg (by omega), if_neg (by omega)]
  · rw [if_neg q] at h
    rw [(ok_facts h).2.2.2.1]
theorem aC_no {c : Cs} {ws : List Int} {o : Bool} (hc : COk c) (h : ¬ errA ws o (cI c) = 0) : aC c ws o = c := by
  have hn := hc.n
  have hk := hc.k
  have hs := hc.s
  obtain ⟨A, B, T, N, K, S⟩ := c
  unfold aC cI at *
  dsimp only at *
  by_cases q : N = 1
  · rw [if_neg (by omega), if_neg (by omega)]
  · rw [if_neg q] at h
    rw [(no_facts h).2.2.2]
    by_cases q0 : N = 0
    · rw [if_pos q0, if_neg (by omega), hk q0]
    · rw [if_neg q0]
      by_cases q2 : N = 2
      · rw [if_pos q2, hs (by omega)]
      · rw [if_neg q2]
section
variable {w : World} {b g x : Nat} {ws : List Int} {o : Bool} {n : Int} {c : Cs}
set_option maxRecDepth 100000 in
theorem cstep_over (hx : CmAt w x c) (hN : c.N = 3) (b : Nat) : Calls Tryz.prog 82 #[.pointer (some ⟨x, 0, none⟩), .pointer (some ⟨b, 0, none⟩)] w fun e w' => e = .returned (.tuple #[.bool false, .int .i64 3]) ∧ w' = w := by
  have HO := Lib.hid (overC_any hx)
  simp only [hN, decide_true] at HO
  clear hx hN
  go_enter Tryz.func82, Tryz.ntmps82
  go_wp2_with (go_at_call 115; refine HO.out.mono ?_; rintro e w1 ⟨rfl, hw⟩; subst w1)
  go_ret2
  exact ⟨rfl, rfl⟩
set_option maxRecDepth 100000 in
theorem cstep_may (hx : CmAt w x c) (hN : c.N ≠ 3) (hm : may8 c.T = false) (b : Nat) : Calls Tryz.prog 82 #[.pointer (some ⟨x, 0, none⟩), .pointer (some ⟨b, 0, none⟩)] w fun e w' => e = .returned (.tuple #[.bool false, .int .i64 100]) ∧ Below w.heap.size w w' := by
  have HO := Lib.hid (overC_any hx)
  simp only [decide_eq_false hN] at HO
  have HY := Lib.hid (smay_any c.B c.T)
  simp only [hm] at HY
  obtain ⟨h0, h1, h2, h3, h4, h5, h6, h7, h8, h9⟩ := hx.cells
  clear hx hN hm
  go_enter Tryz.func82, Tryz.ntmps82
  go_wp2_with (first
    | (go_at_call 115; refine HO.out.mono ?_; rintro e w1 ⟨rfl, hw⟩; subst w1)
    | (go_at_call 116; refine (HY.out _).mono ?_; rintro e w1 ⟨rfl, hb⟩; have HB := Lib.hid hb; clear hb))
  go_ret2
  exact ⟨rfl, HB.out⟩
set_option maxRecDepth 100000 in
set_option maxHeartbeats 1000000 in
theorem cstep_go (h : MemAt 123 w b g ws o n) (hx : CmAt w x c) (hN : c.N = 0 ∨ c.N = 1 ∨ c.N = 2) (hm : may8 c.T = true) {er : Int} (her : errA ws o (cI c) = er) : Calls Tryz.prog 82 #[.pointer (some ⟨x, 0, none⟩), .pointer (some ⟨b, 0, none⟩)] w fun e w' => e = .returned (.tuple #[.bool (decide (er = 0) && decide (c.N = 2)), .int .i64 er]) ∧ MemAt 123 w' b g (aW c ws o) (spentO ws o (cI c)) (spentC ws o (cI c) n) ∧ CmAt w' x (if er = 0 then ⟨c.A, c.B, c.T, c.N + 1, (aC c ws o).K, (aC c ws o).S⟩ else aC c ws o) ∧ Ch3 b g x w w' := by
  have HO := Lib.hid (overC_any hx)
  rw [decide_eq_false (show ¬ c.N = 3 by omega)] at HO
  have HY := Lib.hid (smay_any c.B c.T)
  simp only [hm] at HY
  have HA := Lib.hid (fun w1 (hb : Below w.heap.size w w1) => access_any (h.on hb) (hx.on hb) hN hm)
  rw [her] at HA
  obtain ⟨h0, h1, h2, h3, h4, h5, h6, h7, h8, h9⟩ := hx.cells
  have HQ := Lib.hid (hx.ne h)
  clear h hx hm her
  by_cases q : er = 0
  · subst q
    rw [if_pos rfl, decide_eq_true rfl, Bool.true_and]
    have hN' : wrap64 (c.N + 1) = c.N + 1 := Go.IntWalk.wrap64_in _ ⟨by omega, by omega⟩
    have hN2 : decide (c.N + 1 = 3) = decide (c.N = 2) := by rw [decide_eq_decide]; omega
    have HN2 := Lib.hid hN2
    clear hN hN2
    go_enter Tryz.func82, Tryz.ntmps82
    go_wp2_with (first
      | (go_at_call 115; refine HO.out.mono ?_; rintro e w1 ⟨rfl, hw⟩; subst w1; clear HO)
      | (go_at_call 116; refine (HY.out _).mono ?_; rintro e w1 ⟨rfl, hb⟩; have HB := Lib.hid hb; clear hb)
      | (go_at_call 117; refine (HA.out _ HB.out).mono ?_; rintro e w2 ⟨rfl, hm, hx, hc⟩; have HM2 := Lib.hid hm; have HX2 := Lib.hid hx; have HC2 := Lib.hid ((Ch3.refl _ _ _ _).on HB.out |>.trans hc); have k3 : w2.cell? ⟨x, 3, none⟩ = some (.int .i64 c.N) := hx.cells.2.2.2.1; have k6 : x < w2.heap.size := hx.lt; have k7 : w2.frozen? ⟨x, 3, none⟩ = false := hx.cells.2.2.2.2.2.2.2.1; clear hm hx hc)
      | (go_at_call 115; refine (overC_any (HX2.out.setN (c.N + 1))).mono ?_; dsimp only; rw [HN2.out]; rintro e w3 ⟨rfl, hw⟩; subst w3))
    go_ret2
    exact ⟨rfl, HM2.out.other HQ.out.1.symm HQ.out.2.symm _ _, HX2.out.setN _, HC2.out.set _ _⟩
  · rw [if_neg q, decide_eq_false q, Bool.false_and]
    clear hN
    go_enter Tryz.func82, Tryz.ntmps82
    go_wp2_with (first
      | (go_at_call 115; refine HO.out.mono ?_; rintro e w1 ⟨rfl, hw⟩; subst w1; clear HO)
      | (go_at_call 116; refine (HY.out _).mono ?_; rintro e w1 ⟨rfl, hb⟩; have HB := Lib.hid hb; clear hb)
      | (go_at_call 117; refine (HA.out _ HB.out).mono ?_; rintro e w2 ⟨rfl, hm, hx, hc⟩; have HM2 := Lib.hid hm; have HX2 := Lib.hid hx; have HC2 := Lib.hid ((Ch3.refl _ _ _ _).on HB.out |>.trans hc); clear hm hx hc))
    go_ret2
    exact ⟨rfl, HM2.out, HX2.out, HC2.out⟩
theorem cstep_any (h : MemAt 123 w b g ws o n) (hx : CmAt w x c) (hc : COk c) : Calls Tryz.prog 82 #[.pointer (some ⟨x, 0, none⟩), .pointer (some ⟨b, 0, none⟩)] w fun e w' => e = .returned (.tuple #[.bool (cO c ws o), .int .i64 (cE c ws o)]) ∧ MemAt 123 w' b g (cW c ws o) (cP c ws o) (cQ c ws o n) ∧ CmAt w' x (cC c ws o) ∧ Ch3 b g x w w' := by
  by_cases h3 : c.N = 3
  · have e : cE c ws o = 3 := by simp [cE, h3]
    unfold cO cW cP cQ cC
    rw [e]
    refine (cstep_over hx h3 b).mono ?_
    rintro r w' ⟨rfl, rfl⟩
    exact ⟨by simp, by simpa using h, by simpa using hx, Ch3.refl _ _ _ _⟩
  · cases hm : may8 c.T
    · have e : cE c ws o = 100 := by simp [cE, h3, hm]
      unfold cO cW cP cQ cC
      rw [e]
      refine (cstep_may hx h3 hm b).mono ?_
      rintro r w' ⟨rfl, hb⟩
      exact ⟨by simp, by simpa using h.on hb, by simpa using hx.on hb, (Ch3.refl _ _ _ _).on hb⟩
    · have e : cE c ws o = errA ws o (cI c) := by simp [cE, h3, hm]
      have hN : c.N = 0 ∨ c.N = 1 ∨ c.N = 2 := by have := hc.n; omega
      unfold cO cW cP cQ cC
      rw [e]
      refine (cstep_go h hx hN hm rfl).mono ?_
      rintro r w' ⟨rfl, hm', hx', hch⟩
      refine ⟨rfl, ?_, ?_, hch⟩
      · by_cases q : errA ws o (cI c) = 0
        · rw [if_pos q, if_pos q, if_pos q]
          have f := ok_facts q
          rw [aW_ok q, f.2.1, f.2.2.1] at hm'
          exact hm'
        · rw [if_neg q, if_neg q, if_neg q]
          have f := no_facts q
          rw [aW_no q, f.2.1, f.2.2.1] at hm'
          exact hm'
      · by_cases q : errA ws o (cI c) = 0
        · rw [if_pos q] at hx' ⊢
          rw [aC_ok q] at hx'
          exact hx'
        · rw [if_neg q] at hx' ⊢
          rw [aC_no hc q] at hx'
          exact hx'
end
end Go.Proofs.YtninicfnhoediaaGreatDoor.Md.Cv
namespace Go.Proofs.YtninicfnhoediaaGreatDoor.Md.Cv
open Go.ChangeShapes Go.WideShapes Go.ChangeAt Go.RowKit
section
variable {w : World} {b g x : Nat} {ws : List Int} {o : Bool} {n : Int}
/-- what Leave does -/
def lE (ws : List Int) (o : Bool) (p t : Int) : Int := if may8 t then errA ws o (plc p t) else 100
def lW (ws : List Int) (o : Bool) (p t : Int) : List Int := if may8 t then stored ws o (plc p t) 0 else ws
def lO (ws : List Int) (o : Bool) (p t : Int) : Bool := if may8 t then spentO ws o (plc p t) else o
def lC (ws : List Int) (o : Bool) (p t n : Int) : Int := if may8 t then spentC ws o (plc p t) n else n
set_option maxRecDepth 100000 in
set_option maxHeartbeats 1000000 in
theorem leave_any (h : MemAt 123 w b g ws o n) (a0 a1 a2 a3 a4 a5 t : Int) : Calls Tryz.prog 85 #[.pointer (some ⟨b, 0, none⟩), plnV a0 a1 a2 a3 a4 a5, .int .i64 t] w fun e w' => e = .returned (.int .i64 (lE ws o a3 t)) ∧ MemAt 123 w' b g (lW ws o a3 t) (lO ws o a3 t) (lC ws o a3 t n) ∧ Chg b g w w' := by
  unfold plnV lE lW lO lC
  have HM := Lib.hid h
  clear h
  have HY := Lib.hid (smay_any a3 t)
  cases hm : may8 t
  · simp only [hm] at HY
    go_enter Tryz.func85, Tryz.ntmps85
    go_wp2_with (go_at_call 116; refine (HY.out _).mono ?_; rintro e w1 ⟨rfl, hb⟩; have HB := Lib.hid (below_step (tb_alloc (tb_alloc (Below.refl w.heap.size w) _) _) hb); clear hb)
    go_ret
    exact ⟨rfl, HM.out.on HB.out, chg_from HB.out (Chg.refl _ _ _)⟩
  · simp only [hm] at HY
    have HPL := Lib.hid (splace_any a3 t hm)
    go_enter Tryz.func85, Tryz.ntmps85
    go_wp2_with (first
      | (go_at_call 116; refine (HY.out _).mono ?_; rintro e w1 ⟨rfl, hb⟩; have HB := Lib.hid (below_step (tb_alloc (tb_alloc (Below.refl w.heap.size w) _) _) hb); obtain ⟨z0, z1⟩ : w1.cell? ⟨w.heap.size + 1, 0, none⟩ = some (.int .i64 a3) ∧ w1.cell? ⟨w.heap.size + 1, 1, none⟩ = some (.int .i64 t) := ⟨(hb.cell (p := ⟨w.heap.size + 1, 0, none⟩) (by simp)).trans (by simp [go_sem]), (hb.cell (p := ⟨w.heap.size + 1, 1, none⟩) (by simp)).trans (by simp [go_sem])⟩; clear hb)
      | (go_at_call 122; refine (HPL.out _).mono ?_; rintro e w2 ⟨rfl, hb⟩; have HB2 := Lib.hid (below_step HB.out hb); clear hb)
      | (go_at_call 121; refine (store_any (HM.out.on HB2.out) _ _).mono ?_; rintro e w3 ⟨rfl, hm3, hc⟩; have HX := Lib.hid (And.intro hm3 (chg_from HB2.out hc)); clear hm3 hc))
    go_ret
    exact ⟨rfl, HX.out⟩
end
end Go.Proofs.YtninicfnhoediaaGreatDoor.Md.Cv
namespace Go.Proofs.YtninicfnhoediaaGreatDoor.Rr
open Go.ChangeShapes Go.WideShapes Go.ChangeAt Go.RowKit Num
structure Rx where
  a : Int
  b : Int
  th : Int
  tag : Int
  args : List Nat
  m : Mac
  steps : Int
  part : Nat
  sub : Nat
  claim : Int
  stamp : Int
  cell : Int
  ver : Int
  now : Int
def u64B (v : Int) : Prop := 0 ≤ v ∧ v < 18446744073709551616
def okW (ws : List Int) : Prop := ∀ v ∈ ws, u64B v
theorem okW.at {ws : List Int} (h : okW ws) (i : Int) : u64B (wordAt ws i) := by
  unfold wordAt
  rw [List.getD_eq_getElem?_getD]
  cases e : ws[i.toNat]? with
  | none => exact ⟨by decide, by decide⟩
  | some v => exact h v (List.mem_of_getElem? e)
theorem okW.set {ws : List Int} (h : okW ws) (i : Nat) {v : Int} (hv : u64B v) : okW (ws.set i v) := fun u hu => (List.mem_or_eq_of_mem_set hu).elim (h u) (fun e => e ▸ hv)
theorem pass_in (v : Int) : u64B (Md.Cv.passV v) := by
  unfold Md.Cv.passV u64B
  rw [IntKind.wrap_u64]
  omega
/-- how many words; where the cell's word j is -/
def plW (x : Rx) : Int := 3 + x.b + 3 * x.a
def atW (x : Rx) (j : Int) : Int := 3 + x.b + 3 * x.cell + j
/-- a step of a read -/
def readX (x : Rx) (ws : List Int) : Rx :=
  if x.sub = 0 then { x with ver := wordAt ws (atW x 0), sub := if x.stamp < wordAt ws (atW x 0) then 3 else 1 }
  else if x.sub = 1 then { x with now := wordAt ws (atW x 1), sub := 2 }
  else if x.sub = 2 then (if wordAt ws (atW x 0) = x.ver then { x with m := giveM x.m (fixB x.now.toNat), cell := -1, sub := 3 } else { x with sub := 3 })
  else { x with m := giveM x.m (fixB (wordAt ws (atW x 2)).toNat), cell := -1 }
/-- a step of its running; whether it had an access -/
def begX (x : Rx) : Rx := { x with m := (stepM x.m).1, cell := (stepM x.m).2.cell, sub := 0 }
def runX (x : Rx) (ws : List Int) : Rx × Bool :=
  if 0 ≤ x.cell then (readX x ws, true)
  else if (stepM x.m).2.kind = 1 then (readX (begX x) ws, true)
  else ({ x with m := (stepM x.m).1, part := if (stepM x.m).2.kind = 4 then 3 else 2 }, false)
def tickX (x : Rx) : Rx := { x with steps := x.steps + 1 }
/-- a step of its coming; its leaving -/
def comeX (x : Rx) (ws : List Int) : Rx × List Int :=
  if x.sub = 0 then ({ x with claim := wordAt ws 2, sub := 1 }, ws)
  else if x.sub = 1 then ({ x with sub := 2 }, ws.set (3 + x.th).toNat (Md.Cv.passV x.claim))
  else ({ x with stamp := wordAt ws 2, part := 2 }, ws)
def leaveX (x : Rx) : Rx := { x with part := 4 }
/-- a step: the reader, the words, whether it had an access -/
def stepX (x : Rx) (ws : List Int) : Rx × List Int × Bool :=
  if x.part = 1 then ((comeX (tickX x) ws).1, (comeX (tickX x) ws).2, true)
  else if x.part = 3 then (leaveX (tickX x), ws.set (3 + x.th).toNat 0, true)
  else ((runX (tickX x) ws).1, ws, (runX (tickX x) ws).2)
/-- what stays of a reader, whatever it does -/
structure Alike (x y : Rx) : Prop where
  a : y.a = x.a
  b : y.b = x.b
  th : y.th = x.th
  tag : y.tag = x.tag
  args : y.args = x.args
  fuel : y.m.fuel = x.m.fuel
theorem Alike.refl (x : Rx) : Alike x x := ⟨rfl, rfl, rfl, rfl, rfl, rfl⟩
theorem Alike.trans {x y z : Rx} (h : Alike x y) (k : Alike y z) : Alike x z := ⟨k.a.trans h.a, k.b.trans h.b, k.th.trans h.th, k.tag.trans h.tag, k.args.trans h.args, k.fuel.trans h.fuel⟩
/-- what holds of every reader; how many steps there were -/
structure In0 (x : Rx) : Prop where
  ca : 1 ≤ x.a ∧ x.a ≤ 256
  cb : 1 ≤ x.b ∧ x.b ≤ 8
  cel : x.m.cells = x.a
  th : 0 ≤ x.th ∧ x.th < x.b
  inv : Inv x.m
  few : x.args.length ≤ 8
  part : 1 ≤ x.part ∧ x.part ≤ 4
  p1 : x.part = 1 → x.sub ≤ 2 ∧ x.cell = -1 ∧ x.stamp = 0 ∧ (x.sub = 0 → x.claim = 0) ∧ x.m.how = 0 ∧ ¬ 0 ≤ x.m.wait
  p2 : x.part = 2 → x.m.how = 0 ∧ ((x.cell = -1 ∧ ¬ 0 ≤ x.m.wait) ∨ (0 ≤ x.cell ∧ x.m.wait = x.cell ∧ 1 ≤ x.sub ∧ x.sub ≤ 3))
  p3 : x.part = 3 ∨ x.part = 4 → x.m.how ≠ 0 ∧ x.cell = -1 ∧ ¬ 0 ≤ x.m.wait
  k : u64B x.claim
  s : u64B x.stamp
  v : u64B x.ver
  n : u64B x.now
structure InX (x : Rx) : Prop extends In0 x where
  pos : 0 ≤ x.steps
  s1 : x.part = 1 → x.steps = x.sub
  s2 : x.part = 2 → (x.cell = -1 → x.steps ≤ 3 + 4 * x.m.used) ∧ (0 ≤ x.cell → x.steps ≤ 4 * x.m.used - 1 + x.sub)
  s3 : x.part = 3 → x.steps ≤ 4 * x.m.fuel + 4
  s4 : x.part = 4 → x.steps ≤ 4 * x.m.fuel + 5
theorem In0.tick {x : Rx} (h : In0 x) : In0 (tickX x) := ⟨h.ca, h.cb, h.cel, h.th, h.inv, h.few, h.part, h.p1, h.p2, h.p3, h.k, h.s, h.v, h.n⟩
section
variable {x : Rx} {ws : List Int}
theorem In0.celB (h : In0 x) : -1 ≤ x.cell ∧ x.cell < x.a := by
  have h1 := h.ca
  have hp := h.part
  rcases (by omega : x.part = 1 ∨ x.part = 2 ∨ x.part = 3 ∨ x.part = 4) with e | e | e | e
  · have := (h.p1 e).2.1; omega
  · rcases (h.p2 e).2 with q | q
    · omega
    · have := h.inv.wait
      have := h.cel
      omega
  · have := (h.p3 (.inl e)).2.1; omega
  · have := (h.p3 (.inr e)).2.1; omega
theorem fix_lt (v : Int) (h : u64B v) : fixB v.toNat < 18446744073709551616 := fixB_lt (by have := h.2; have := h.1; omega)
/-- a read's step, the read being at its beginning or under way -/
theorem read_in (hI : Inv x.m) (hc : 0 ≤ x.cell) (hw : x.m.wait = x.cell) (hs : x.sub ≤ 3) (h0 : x.m.how = 0) (hn : u64B x.now) (hv : u64B x.ver) (hW : okW ws) :
    Alike x (readX x ws) ∧ Inv (readX x ws).m ∧ (readX x ws).m.cells = x.m.cells ∧ (readX x ws).m.how = 0 ∧ (readX x ws).m.used = x.m.used ∧ (readX x ws).part = x.part ∧ (readX x ws).steps = x.steps ∧ (readX x ws).stamp = x.stamp ∧ (readX x ws).claim = x.claim ∧ u64B (readX x ws).now ∧ u64B (readX x ws).ver ∧
      (((readX x ws).cell = -1 ∧ ¬ 0 ≤ (readX x ws).m.wait ∧ x.sub ≥ 2) ∨ ((readX x ws).cell = x.cell ∧ (readX x ws).m = x.m ∧ x.sub + 1 ≤ (readX x ws).sub ∧ (readX x ws).sub ≤ 3)) := by
  have hw0 : 0 ≤ x.m.wait := by omega
  have G : ∀ y : Int, u64B y → Inv (giveM x.m (fixB y.toNat)) ∧ (giveM x.m (fixB y.toNat)).cells = x.m.cells ∧ (giveM x.m (fixB y.toNat)).how = 0 ∧ (giveM x.m (fixB y.toNat)).used = x.m.used ∧ ¬ 0 ≤ (giveM x.m (fixB y.toNat)).wait ∧ (giveM x.m (fixB y.toNat)).fuel = x.m.fuel := fun y hy => by
    obtain ⟨q1, q2, q3, q4⟩ := give_goes hw0 (fixB y.toNat)
    exact ⟨inv_give hI (fix_lt y hy), q4.cells, q2.trans h0, q3, q1, q4.fuel⟩
  unfold readX
  split
  · refine ⟨⟨rfl, rfl, rfl, rfl, rfl, rfl⟩, hI, rfl, h0, rfl, rfl, rfl, rfl, rfl, hn, hW.at _, .inr ⟨rfl, rfl, ?_, ?_⟩⟩
    · dsimp only; split <;> omega
    · dsimp only; split <;> omega
  · split
    · exact ⟨⟨rfl, rfl, rfl, rfl, rfl, rfl⟩, hI, rfl, h0, rfl, rfl, rfl, rfl, rfl, hW.at _, hv, .inr ⟨rfl, rfl, by dsimp only; omega, by dsimp only; omega⟩⟩
    · split
      · split
        · obtain ⟨q1, q2, q3, q4, q5, q6⟩ := G _ hn
          exact ⟨⟨rfl, rfl, rfl, rfl, rfl, q6⟩, q1, q2, q3, q4, rfl, rfl, rfl, rfl, hn, hv, .inl ⟨rfl, q5, by omega⟩⟩
        · exact ⟨⟨rfl, rfl, rfl, rfl, rfl, rfl⟩, hI, rfl, h0, rfl, rfl, rfl, rfl, rfl, hn, hv, .inr ⟨rfl, rfl, by dsimp only; omega, by dsimp only; omega⟩⟩
      · obtain ⟨q1, q2, q3, q4, q5, q6⟩ := G (wordAt ws (atW x 2)) (hW.at _)
        exact ⟨⟨rfl, rfl, rfl, rfl, rfl, q6⟩, q1, q2, q3, q4, rfl, rfl, rfl, rfl, hn, hv, .inl ⟨rfl, q5, by omega⟩⟩
/-- a step of its running -/
theorem run_in (h : InX x) (hp : x.part = 2) (hW : okW ws) : InX (runX (tickX x) ws).1 ∧ Alike x (runX (tickX x) ws).1 ∧ (runX (tickX x) ws).1.steps = x.steps + 1 ∧ ((runX (tickX x) ws).1.part = 2 ∨ (runX (tickX x) ws).1.part = 3) := by
  obtain ⟨h0, hq⟩ := h.p2 hp
  obtain ⟨hs1, hs2⟩ := h.s2 hp
  have hu := h.inv.used
  have hf := h.inv.fuel
  have hpos := h.pos
  rcases hq with ⟨hc, hw⟩ | ⟨hc, hw, hs1', hs3⟩
  · have nc : ¬ 0 ≤ x.cell := by omega
    have hst := hs1 hc
    obtain ⟨lk, tr⟩ := step_turns h.inv hw h0
    have hI := inv_step h.inv
    rcases tr with ⟨k4, e1, e2⟩ | ⟨k1, e1, e2, e3, e4⟩ | ⟨k0, e1, e2, e3⟩
    · have k1 : ¬ (stepM x.m).2.kind = 1 := by omega
      have E : runX (tickX x) ws = ({ tickX x with m := (stepM x.m).1, part := 3 }, false) := by
        unfold runX; rw [if_neg (show ¬ 0 ≤ (tickX x).cell from nc), if_neg (show ¬ (stepM (tickX x).m).2.kind = 1 from k1), if_pos (show (stepM (tickX x).m).2.kind = 4 from k4)]; rfl
      rw [E]
      exact ⟨⟨⟨h.ca, h.cb, lk.cells.trans h.cel, h.th, hI, h.few, by dsimp only; omega, (fun e => by cases e), (fun e => by cases e), fun _ => ⟨e1, hc, e2⟩, h.k, h.s, h.v, h.n⟩, by show 0 ≤ x.steps + 1; omega, (fun e => by cases e), (fun e => by cases e), (fun _ => by show x.steps + 1 ≤ 4 * (stepM x.m).1.fuel + 4; rw [lk.fuel]; omega), (fun e => by cases e)⟩, ⟨rfl, rfl, rfl, rfl, rfl, lk.fuel⟩, rfl, .inr rfl⟩
    · have E : runX (tickX x) ws = (readX (begX (tickX x)) ws, true) := by
        unfold runX; rw [if_neg (show ¬ 0 ≤ (tickX x).cell from nc), if_pos (show (stepM (tickX x).m).2.kind = 1 from k1)]
      obtain ⟨q1, q2, q3, q4, q5, q6, q7, q8, q9, q10, q11, q12⟩ := read_in (x := begX (tickX x)) (ws := ws) hI (by show 0 ≤ (stepM x.m).2.cell; omega) (by show (stepM x.m).1.wait = (stepM x.m).2.cell; omega) (by show (0 : Nat) ≤ 3; omega) e3 h.n h.v hW
      rw [E]
      have s7 : (readX (begX (tickX x)) ws).steps = x.steps + 1 := q7
      have s5 : (readX (begX (tickX x)) ws).m.used = x.m.used + 1 := q5.trans e4
      have s6 : (readX (begX (tickX x)) ws).part = 2 := q6.trans hp
      obtain ⟨z1, z2, z3, z4⟩ : (readX (begX (tickX x)) ws).cell = (stepM x.m).2.cell ∧ (readX (begX (tickX x)) ws).m = (stepM x.m).1 ∧ 1 ≤ (readX (begX (tickX x)) ws).sub ∧ (readX (begX (tickX x)) ws).sub ≤ 3 := by
        rcases q12 with ⟨_, _, z⟩ | ⟨z1, z2, z3, z4⟩
        · exact absurd z (by show ¬ (0 : Nat) ≥ 2; omega)
        · exact ⟨z1, z2, z3, z4⟩
      refine ⟨⟨⟨by rw [q1.a]; exact h.ca, by rw [q1.b]; exact h.cb, by rw [q3, q1.a]; exact lk.cells.trans h.cel, by rw [q1.th, q1.b]; exact h.th, q2, by rw [q1.args]; exact h.few, by dsimp only; omega, (fun e => by dsimp only at e; omega), fun _ => ⟨q4, .inr ⟨by dsimp only; omega, by dsimp only; rw [z1, z2]; omega, z3, z4⟩⟩, (fun e => by dsimp only at e; omega), by rw [q9]; exact h.k, by rw [q8]; exact h.s, q11, q10⟩, by dsimp only; omega, (fun e => by dsimp only at e; omega), fun _ => ⟨fun e => by dsimp only at e; omega, fun _ => by dsimp only; omega⟩, (fun e => by dsimp only at e; omega), (fun e => by dsimp only at e; omega)⟩, ⟨q1.a, q1.b, q1.th, q1.tag, q1.args, q1.fuel.trans lk.fuel⟩, s7, .inl s6⟩
    · have k1 : ¬ (stepM x.m).2.kind = 1 := by omega
      have k4 : ¬ (stepM x.m).2.kind = 4 := by omega
      have E : runX (tickX x) ws = ({ tickX x with m := (stepM x.m).1, part := 2 }, false) := by
        unfold runX; rw [if_neg (show ¬ 0 ≤ (tickX x).cell from nc), if_neg (show ¬ (stepM (tickX x).m).2.kind = 1 from k1), if_neg (show ¬ (stepM (tickX x).m).2.kind = 4 from k4)]; rfl
      rw [E]
      exact ⟨⟨⟨h.ca, h.cb, lk.cells.trans h.cel, h.th, hI, h.few, by dsimp only; omega, (fun e => by cases e), fun _ => ⟨e2, .inl ⟨hc, e1⟩⟩, (fun e => by rcases e with e | e <;> cases e), h.k, h.s, h.v, h.n⟩, by show 0 ≤ x.steps + 1; omega, (fun e => by cases e), fun _ => ⟨fun _ => by show x.steps + 1 ≤ 3 + 4 * (stepM x.m).1.used; omega, fun e => absurd e nc⟩, (fun e => by cases e), (fun e => by cases e)⟩, ⟨rfl, rfl, rfl, rfl, rfl, lk.fuel⟩, rfl, .inl rfl⟩
  · have hst := hs2 hc
    have E : runX (tickX x) ws = (readX (tickX x) ws, true) := by
      unfold runX; rw [if_pos (show 0 ≤ (tickX x).cell from hc)]
    obtain ⟨q1, q2, q3, q4, q5, q6, q7, q8, q9, q10, q11, q12⟩ := read_in (x := tickX x) (ws := ws) h.inv hc hw hs3 h0 h.n h.v hW
    rw [E]
    have s7 : (readX (tickX x) ws).steps = x.steps + 1 := q7
    have s5 : (readX (tickX x) ws).m.used = x.m.used := q5
    have s6 : (readX (tickX x) ws).part = 2 := q6.trans hp
    have Z : ((readX (tickX x) ws).cell = -1 ∧ ¬ 0 ≤ (readX (tickX x) ws).m.wait ∧ 2 ≤ x.sub) ∨ ((readX (tickX x) ws).cell = x.cell ∧ (readX (tickX x) ws).m = x.m ∧ x.sub + 1 ≤ (readX (tickX x) ws).sub ∧ (readX (tickX x) ws).sub ≤ 3) := q12
    refine ⟨⟨⟨by rw [q1.a]; exact h.ca, by rw [q1.b]; exact h.cb, by rw [q3, q1.a]; exact h.cel, by rw [q1.th, q1.b]; exact h.th, q2, by rw [q1.args]; exact h.few, by dsimp only; omega, (fun e => by dsimp only at e; omega), fun _ => ⟨q4, ?_⟩, (fun e => by dsimp only at e; omega), by rw [q9]; exact h.k, by rw [q8]; exact h.s, q11, q10⟩, by dsimp only; omega, (fun e => by dsimp only at e; omega), fun _ => ⟨fun e => ?_, fun e => ?_⟩, (fun e => by dsimp only at e; omega), (fun e => by dsimp only at e; omega)⟩, ⟨q1.a, q1.b, q1.th, q1.tag, q1.args, q1.fuel⟩, s7, .inl s6⟩
    · rcases Z with ⟨z1, z2, _⟩ | ⟨z1, z2, z3, z4⟩
      · exact .inl ⟨z1, z2⟩
      · exact .inr ⟨by dsimp only; rw [z1]; exact hc, by dsimp only; rw [z1, z2]; exact hw, by dsimp only; omega, z4⟩
    · dsimp only at e ⊢
      rcases Z with ⟨z1, z2, _⟩ | ⟨z1, z2, z3, z4⟩
      · omega
      · omega
    · dsimp only at e ⊢
      rcases Z with ⟨z1, z2, _⟩ | ⟨z1, z2, z3, z4⟩
      · omega
      · omega
theorem step_in (h : InX x) (hp : x.part ≠ 4) (hW : okW ws) : InX (stepX x ws).1 ∧ Alike x (stepX x ws).1 ∧ (stepX x ws).1.steps = x.steps + 1 ∧ okW (stepX x ws).2.1 ∧ (stepX x ws).2.1.length = ws.length := by
  have hP := h.part
  have hpos := h.pos
  rcases (by omega : x.part = 1 ∨ x.part = 2 ∨ x.part = 3) with e | e | e
  · obtain ⟨c1, c2, c3, c4, c6, c7⟩ := h.p1 e
    have c5 := h.s1 e
    rcases (by omega : x.sub = 0 ∨ x.sub = 1 ∨ x.sub = 2) with d | d | d
    · have E : stepX x ws = ({ tickX x with claim := wordAt ws 2, sub := 1 }, ws, true) := by unfold stepX comeX; rw [if_pos e, if_pos (show (tickX x).sub = 0 from d)]
      rw [E]
      exact ⟨⟨⟨h.ca, h.cb, h.cel, h.th, h.inv, h.few, hP, fun _ => ⟨by show (1 : Nat) ≤ 2; omega, c2, c3, (fun q => by cases q), c6, c7⟩, (fun q => by have q' : x.part = 2 := q; omega), h.p3, hW.at _, h.s, h.v, h.n⟩, by show 0 ≤ x.steps + 1; omega, (fun _ => by show x.steps + 1 = 1; omega), (fun q => by have q' : x.part = 2 := q; omega), (fun q => by have q' : x.part = 3 := q; omega), (fun q => by have q' : x.part = 4 := q; omega)⟩, ⟨rfl, rfl, rfl, rfl, rfl, rfl⟩, rfl, hW, rfl⟩
    · have E : stepX x ws = ({ tickX x with sub := 2 }, ws.set (3 + x.th).toNat (Md.Cv.passV x.claim), true) := by unfold stepX comeX; rw [if_pos e, if_neg (show ¬ (tickX x).sub = 0 by show ¬ x.sub = 0; omega), if_pos (show (tickX x).sub = 1 from d)]; rfl
      rw [E]
      exact ⟨⟨⟨h.ca, h.cb, h.cel, h.th, h.inv, h.few, hP, fun _ => ⟨by show (2 : Nat) ≤ 2; omega, c2, c3, (fun q => by cases q), c6, c7⟩, (fun q => by have q' : x.part = 2 := q; omega), h.p3, h.k, h.s, h.v, h.n⟩, by show 0 ≤ x.steps + 1; omega, (fun _ => by show x.steps + 1 = 2; omega), (fun q => by have q' : x.part = 2 := q; omega), (fun q => by have q' : x.part = 3 := q; omega), (fun q => by have q' : x.part = 4 := q; omega)⟩, ⟨rfl, rfl, rfl, rfl, rfl, rfl⟩, rfl, hW.set _ (pass_in _), by simp⟩
    · have E : stepX x ws = ({ tickX x with stamp := wordAt ws 2, part := 2 }, ws, true) := by unfold stepX comeX; rw [if_pos e, if_neg (show ¬ (tickX x).sub = 0 by show ¬ x.sub = 0; omega), if_neg (show ¬ (tickX x).sub = 1 by show ¬ x.sub = 1; omega)]
      rw [E]
      have hu := h.inv.used
      exact ⟨⟨⟨h.ca, h.cb, h.cel, h.th, h.inv, h.few, by dsimp only; omega, (fun q => by cases q), fun _ => ⟨c6, .inl ⟨c2, c7⟩⟩, (fun q => by rcases q with q | q <;> cases q), h.k, hW.at _, h.v, h.n⟩, by show 0 ≤ x.steps + 1; omega, (fun q => by cases q), fun _ => ⟨fun _ => by show x.steps + 1 ≤ 3 + 4 * x.m.used; omega, fun q => by have q' : 0 ≤ x.cell := q; omega⟩, (fun q => by cases q), (fun q => by cases q)⟩, ⟨rfl, rfl, rfl, rfl, rfl, rfl⟩, rfl, hW, rfl⟩
  · have E : stepX x ws = ((runX (tickX x) ws).1, ws, (runX (tickX x) ws).2) := by unfold stepX; rw [if_neg (by omega), if_neg (by omega)]
    obtain ⟨q1, q2, q3, _⟩ := run_in h e hW
    rw [E]
    exact ⟨q1, q2, q3, hW, rfl⟩
  · have E : stepX x ws = (leaveX (tickX x), ws.set (3 + x.th).toNat 0, true) := by unfold stepX; rw [if_neg (by omega), if_pos e]
    obtain ⟨c1, c2, c3⟩ := h.p3 (.inl e)
    have c4 := h.s3 e
    rw [E]
    exact ⟨⟨⟨h.ca, h.cb, h.cel, h.th, h.inv, h.few, ⟨by show 1 ≤ 4; omega, by show 4 ≤ 4; omega⟩, (fun q => by cases q), (fun q => by cases q), fun _ => ⟨c1, c2, c3⟩, h.k, h.s, h.v, h.n⟩, by show 0 ≤ x.steps + 1; omega, (fun q => by cases q), (fun q => by cases q), (fun q => by cases q), (fun _ => by show x.steps + 1 ≤ 4 * x.m.fuel + 5; omega)⟩, ⟨rfl, rfl, rfl, rfl, rfl, rfl⟩, rfl, hW.set _ ⟨by decide, by decide⟩, by simp⟩
/-- how many steps there are, at most -/
theorem InX.few_steps (h : InX x) : x.steps ≤ 4 * x.m.fuel + 5 ∧ (x.part ≠ 4 → x.steps ≤ 4 * x.m.fuel + 4) := by
  have hP := h.part
  have hu := h.inv.used
  have hf := h.inv.fuel
  rcases (by omega : x.part = 1 ∨ x.part = 2 ∨ x.part = 3 ∨ x.part = 4) with e | e | e | e
  · have := h.s1 e; have := h.p1 e; omega
  · have := h.s2 e; have := h.p2 e; omega
  · have := h.s3 e; omega
  · have := h.s4 e; omega
end
end Go.Proofs.YtninicfnhoediaaGreatDoor.Rr
namespace Go.Proofs.YtninicfnhoediaaGreatDoor.Rr
open Go.ChangeShapes Go.WideShapes Go.ChangeAt Go.RowKit Num
structure Rz where
  bm : Nat
  K : List Nat
  xc : Nat
  pa : Option Addr
  ca : Nat
def Rz.KK (z : Rz) : List Nat := z.K ++ fpR z.pa
def ptrV (q : Option Nat) : Value := .pointer (q.map fun n => ⟨n, 0, none⟩)
def gX (b : Nat) (z : Rz) (q : Option Nat) (F : List Nat) : List Nat := b :: z.xc :: (q.toList ++ F)
def xboxV (x : Rx) (z : Rz) (q : Option Nat) : Array Value := #[.int .i64 0, .int .i64 1, .int .i64 2, .int .i64 3, .int .i64 (3 + x.b), .int .i64 (3 + x.b + 3 * x.a), .pointer (some ⟨z.bm, 0, none⟩), .int .i64 x.steps, .int .i64 x.tag, .slice z.pa x.args.length z.ca, .int .i64 x.th, .int .i64 (x.part : Int), .pointer (some ⟨z.xc, 0, none⟩), ptrV q]
structure RawAt (w : World) (b : Nat) (x : Rx) (z : Rz) (q : Option Nat) (F : List Nat) (c : Md.Cv.Cs) (r : Md.Ce.Rd) : Prop where
  box : w.heap[b]? = some (.cells (xboxV x z q) 106 (0, 0))
  mac : Mc w z.bm F z.K x.m
  com : Md.Cv.CmAt w z.xc c
  rd : ∀ n, q = some n → Md.Ce.RdAt w n r
  arg : RowAt 71 w z.pa z.ca (fls x.args)
  sf : Sep (b :: z.xc :: q.toList) F
  sk : Sep (b :: z.xc :: q.toList) z.KK
  fa : Sep (fpR z.pa) F
theorem rdAt_keep {w w' : World} {n : Nat} {r : Md.Ce.Rd} (h : Md.Ce.RdAt w n r) (k : w'.heap[n]? = w.heap[n]?) : Md.Ce.RdAt w' n r := Md.Ce.RbAt.keep h k
theorem turn_wide {F F' : List Nat} {w w' : World} (t : Turn F F' w w') (A : List Nat) : Turn (A ++ F) (A ++ F') w w' :=
  ⟨t.os, t.tape, t.output, t.size, fun k hk hn => t.block k hk (fun q => hn (List.mem_append.2 (.inr q))), fun k hk => (List.mem_append.1 hk).elim (fun q => .inl (List.mem_append.2 (.inl q))) (fun q => (t.own k q).imp (fun y => List.mem_append.2 (.inr y)) id)⟩
theorem turn_of {L F : List Nat} {w w' : World} (o1 : w'.os = w.os) (o2 : w'.tape = w.tape) (o3 : w'.output = w.output) (hs : w.heap.size ≤ w'.heap.size) (hL : ∀ k, k ∈ L → k ∈ F) (hb : ∀ k, k < w.heap.size → k ∉ L → w'.heap[k]? = w.heap[k]?) : Turn F F w w' :=
  ⟨o1, o2, o3, hs, fun k hk hn => hb k hk (fun q => hn (hL k q)), fun _ h => .inl h⟩
section
variable {w w' : World} {b : Nat} {x : Rx} {z : Rz} {q : Option Nat} {F : List Nat} {c : Md.Cv.Cs} {r : Md.Ce.Rd}
theorem RawAt.ltB (h : RawAt w b x z q F c r) : b < w.heap.size := lt_of_block h.box
theorem RawAt.blw (h : RawAt w b x z q F c r) : Blw w (gX b z q F) := fun k hk => by
  simp only [gX, List.mem_cons, List.mem_append, Option.mem_toList] at hk
  rcases hk with rfl | rfl | hk | hk
  · exact h.ltB
  · exact h.com.lt
  · exact Md.Ce.RdAt.lt (h.rd k hk)
  · exact h.mac.blw k hk
theorem RawAt.blwK (h : RawAt w b x z q F c r) : Blw w z.KK := fun k hk => by
  rcases List.mem_append.1 hk with hk | hk
  · exact h.mac.blwK k hk
  · exact h.arg.blw k hk
theorem RawAt.sep (h : RawAt w b x z q F c r) : Sep z.KK (gX b z q F) := fun k hk hq => by
  have hX := h.sk.symm k hk
  have hF : k ∉ F := fun q => by
    rcases List.mem_append.1 hk with hk | hk
    · exact h.mac.sepK k hk q
    · exact h.fa k hk q
  simp only [gX, List.mem_cons, List.mem_append] at hq hX
  rcases hq with rfl | rfl | hq | hq
  · exact hX (.inl rfl)
  · exact hX (.inr (.inl rfl))
  · exact hX (.inr (.inr hq))
  · exact hF hq
theorem in_b {b : Nat} {z : Rz} {q : Option Nat} {F : List Nat} : b ∈ gX b z q F := by simp [gX]
theorem in_c {b : Nat} {z : Rz} {q : Option Nat} {F : List Nat} : z.xc ∈ gX b z q F := by simp [gX]
theorem in_q {b n : Nat} {z : Rz} {q : Option Nat} {F : List Nat} (h : q = some n) : n ∈ gX b z q F := by simp [gX, h]
theorem in_F {b k : Nat} {z : Rz} {q : Option Nat} {F : List Nat} (h : k ∈ F) : k ∈ gX b z q F := by simp [gX, h]
theorem RawAt.keep (h : RawAt w b x z q F c r) (k : Kept (gX b z q F) w w') (k2 : Kept z.KK w w') : RawAt w' b x z q F c r :=
  ⟨(k.2 b in_b).trans h.box, h.mac.keep ⟨k.1, fun i hi => k.2 i (in_F hi)⟩ ⟨k.1, fun i hi => k2.2 i (List.mem_append.2 (.inl hi))⟩, h.com.keep (k.2 _ in_c), fun n hn => rdAt_keep (h.rd n hn) (k.2 n (in_q hn)), h.arg.keep ⟨k.1, fun i hi => k2.2 i (List.mem_append.2 (.inr hi))⟩, h.sf, h.sk, h.fa⟩
theorem RawAt.on (h : RawAt w b x z q F c r) (k : Below w.heap.size w w') : RawAt w' b x z q F c r := h.keep (kept_below k h.blw) (kept_below k h.blwK)
theorem RawAt.cell (h : RawAt w b x z q F c r) (j : Nat) : w.cell? ⟨b, j, none⟩ = (xboxV x z q)[j]? := cell_of_row w b j _ _ _ h.box
theorem RawAt.free (h : RawAt w b x z q F c r) (j : Nat) : w.frozen? ⟨b, j, none⟩ = false := frozen_of_row w b j _ _ h.box
theorem RawAt.bc (h : RawAt w b x z q F c r) : b ≠ z.xc := Md.Cv.ne_ty h.box h.com (by decide)
theorem RawAt.bq (h : RawAt w b x z q F c r) {n : Nat} (hn : q = some n) : b ≠ n := Md.Cv.ne_ty h.box (h.rd n hn) (by decide)
theorem RawAt.cq (h : RawAt w b x z q F c r) {n : Nat} (hn : q = some n) : z.xc ≠ n := Md.Cv.ne_ty h.com (h.rd n hn) (by decide)
theorem RawAt.nF (h : RawAt w b x z q F c r) {k : Nat} (hk : k = b ∨ k = z.xc ∨ q = some k) : k ∉ F := h.sf k (by simpa using hk)
theorem RawAt.nK (h : RawAt w b x z q F c r) {k : Nat} (hk : k = b ∨ k = z.xc ∨ q = some k) : k ∉ z.KK := h.sk k (by simpa using hk)
theorem keptB {F : List Nat} {w : World} {b j : Nat} {v : Value} (h : b ∉ F) : Kept F w (w.setCell ⟨b, j, none⟩ v) := ⟨by simp, fun i hi => heap_setCell_other _ _ _ _ (fun (e : i = b) => h (e ▸ hi))⟩
/-- a store into its box -/
theorem RawAt.put (h : RawAt w b x z q F c r) (j : Nat) (v : Value) (x' : Rx) (e : (xboxV x z q).setIfInBounds j v = xboxV x' z q) (hm : x'.m = x.m) (ha : x'.args = x.args) : RawAt (w.setCell ⟨b, j, none⟩ v) b x' z q F c r := by
  have kF : Kept F w (w.setCell ⟨b, j, none⟩ v) := keptB (h.nF (.inl rfl))
  have kK : Kept z.KK w (w.setCell ⟨b, j, none⟩ v) := keptB (h.nK (.inl rfl))
  refine ⟨?_, by rw [hm]; exact h.mac.keep kF ⟨kK.1, fun i hi => kK.2 i (List.mem_append.2 (.inl hi))⟩, h.com.keep (heap_setCell_other _ _ _ _ (fun (e : z.xc = b) => h.bc e.symm)), fun n hn => rdAt_keep (h.rd n hn) (heap_setCell_other _ _ _ _ (fun (e : n = b) => h.bq hn e.symm)), by rw [ha]; exact h.arg.keep ⟨kK.1, fun i hi => kK.2 i (List.mem_append.2 (.inr hi))⟩, h.sf, h.sk, h.fa⟩
  rw [← e]
  exact heap_setCell_same w b j _ _ v h.box
/-- another read is begun, or the one that was is over -/
theorem RawAt.putQ (h : RawAt w b x z q F c r) (q' : Option Nat) (r' : Md.Ce.Rd) (hq : ∀ n, q' = some n → Md.Ce.RdAt w n r' ∧ n ∉ F ∧ n ∉ z.KK) : RawAt (w.setCell ⟨b, 13, none⟩ (ptrV q')) b x z q' F c r' := by
  have kF : Kept F w (w.setCell ⟨b, 13, none⟩ (ptrV q')) := keptB (h.nF (.inl rfl))
  have kK : Kept z.KK w (w.setCell ⟨b, 13, none⟩ (ptrV q')) := keptB (h.nK (.inl rfl))
  have nq : ∀ n, q' = some n → b ≠ n := fun n hn => Md.Cv.ne_ty h.box (hq n hn).1 (by decide)
  refine ⟨?_, h.mac.keep kF ⟨kK.1, fun i hi => kK.2 i (List.mem_append.2 (.inl hi))⟩, h.com.keep (heap_setCell_other _ _ _ _ (fun (e : z.xc = b) => h.bc e.symm)), fun n hn => rdAt_keep (hq n hn).1 (heap_setCell_other _ _ _ _ (fun (e : n = b) => nq n hn e.symm)), h.arg.keep ⟨kK.1, fun i hi => kK.2 i (List.mem_append.2 (.inr hi))⟩, fun k hk => ?_, fun k hk => ?_, h.fa⟩
  · exact heap_setCell_same w b 13 _ _ _ h.box
  · simp only [List.mem_cons, Option.mem_toList] at hk
    rcases hk with hk | hk | hk
    · exact h.nF (.inl hk)
    · exact h.nF (.inr (.inl hk))
    · exact (hq k hk).2.1
  · simp only [List.mem_cons, Option.mem_toList] at hk
    rcases hk with hk | hk | hk
    · exact h.nK (.inl hk)
    · exact h.nK (.inr (.inl hk))
    · exact (hq k hk).2.2
/-- its machine has gone on -/
theorem RawAt.mach (h : RawAt w b x z q F c r) {m' : Mac} (g : Gm w F z.bm z.K w' m') : ∃ F', RawAt w' b { x with m := m' } z q F' c r ∧ Turn F F' w w' := by
  obtain ⟨F', hM, t⟩ := g.mc
  have lX : Blw w (b :: z.xc :: q.toList) := fun k hk => h.blw k (by simp only [gX, List.mem_cons, List.mem_append] at hk ⊢; rcases hk with hk | hk | hk <;> simp [hk])
  have kX : Kept (b :: z.xc :: q.toList) w w' := t.kept h.sf lX
  have kA : Kept (fpR z.pa) w w' := t.kept h.fa h.arg.blw
  exact ⟨F', ⟨(kX.2 b (by simp)).trans h.box, hM, h.com.keep (kX.2 _ (by simp)), fun n hn => rdAt_keep (h.rd n hn) (kX.2 n (by simp [hn])), h.arg.keep kA, h.sf.turn lX t, h.sk, h.fa.turn h.arg.blw t⟩, t⟩
end
/-- a reader and the memory that it goes over, in the midst of what began at W with the blocks G0 -/
def Mid (W : World) (G0 : List Nat) (b : Nat) (z : Rz) (mb mg : Nat) (w : World) (x : Rx) (q : Option Nat) (c : Md.Cv.Cs) (r : Md.Ce.Rd) (ws : List Int) (o : Bool) (n : Int) : Prop :=
  ∃ F, RawAt w b x z q F c r ∧ MemAt 123 w mb mg ws o n ∧ Sep [mb, mg] (gX b z q F) ∧ Sep [mb, mg] z.KK ∧ Turn G0 (mb :: mg :: gX b z q F) W w
section
variable {W w w' : World} {G0 : List Nat} {b mb mg : Nat} {x : Rx} {z : Rz} {q : Option Nat} {c : Md.Cv.Cs} {r : Md.Ce.Rd} {ws : List Int} {o : Bool} {n : Int}
theorem Mid.mem (h : Mid W G0 b z mb mg w x q c r ws o n) : MemAt 123 w mb mg ws o n := by obtain ⟨F, _, h2, _⟩ := h; exact h2
theorem Mid.com (h : Mid W G0 b z mb mg w x q c r ws o n) : Md.Cv.CmAt w z.xc c := by obtain ⟨F, h1, _⟩ := h; exact h1.com
theorem Mid.rd (h : Mid W G0 b z mb mg w x q c r ws o n) {k : Nat} (hk : q = some k) : Md.Ce.RdAt w k r := by obtain ⟨F, h1, _⟩ := h; exact h1.rd k hk
theorem Mid.cell (h : Mid W G0 b z mb mg w x q c r ws o n) (j : Nat) : w.cell? ⟨b, j, none⟩ = (xboxV x z q)[j]? := by obtain ⟨F, h1, _⟩ := h; exact h1.cell j
theorem Mid.free (h : Mid W G0 b z mb mg w x q c r ws o n) (j : Nat) : w.frozen? ⟨b, j, none⟩ = false := by obtain ⟨F, h1, _⟩ := h; exact h1.free j
theorem Mid.ltB (h : Mid W G0 b z mb mg w x q c r ws o n) : b < w.heap.size := by obtain ⟨F, h1, _⟩ := h; exact h1.ltB
theorem Mid.size (h : Mid W G0 b z mb mg w x q c r ws o n) : W.heap.size ≤ w.heap.size := by obtain ⟨F, _, _, _, _, t⟩ := h; exact t.size
theorem Mid.on (h : Mid W G0 b z mb mg w x q c r ws o n) (k : Below w.heap.size w w') : Mid W G0 b z mb mg w' x q c r ws o n := by
  obtain ⟨F, h1, h2, h3, h4, t⟩ := h
  exact ⟨F, h1.on k, h2.on k, h3, h4, t.trans (Below.turn k _)⟩
theorem Mid.alloc (h : Mid W G0 b z mb mg w x q c r ws o n) (y : Obj) : Mid W G0 b z mb mg (w.alloc y) x q c r ws o n := h.on (below_alloc _ y)
theorem Mid.same (h : Mid W G0 b z mb mg w x q c r ws o n) (k : Same w w') : Mid W G0 b z mb mg w' x q c r ws o n := h.on (k.below _)
theorem Mid.drew (h : Mid W G0 b z mb mg w x q c r ws o n) : Mid W G0 b z mb mg w.drew x q c r ws o n := h.same (Same.drew w)
/-- the memory alone has turned -/
theorem Mid.put (h : Mid W G0 b z mb mg w x q c r ws o n) (j : Nat) (v : Value) (x' : Rx) (e : (xboxV x z q).setIfInBounds j v = xboxV x' z q) (hm : x'.m = x.m) (ha : x'.args = x.args) : Mid W G0 b z mb mg (w.setCell ⟨b, j, none⟩ v) x' q c r ws o n := by
  obtain ⟨F, h1, h2, h3, h4, t⟩ := h
  refine ⟨F, h1.put j v x' e hm ha, h2.other (fun e => h3 mb (by simp) (e ▸ in_b)) (fun e => h3 mg (by simp) (e ▸ in_b)) j v, h3, h4, t.trans (turn_of (L := [b]) rfl rfl rfl (by simp) (fun k hk => ?_) fun k _ hn => heap_setCell_other _ _ _ _ (by simpa using hn))⟩
  simp at hk
  subst hk
  simp [gX]
theorem Mid.memb {ws' : List Int} {o' : Bool} {n' : Int} (h : Mid W G0 b z mb mg w x q c r ws o n) (k : Chg mb mg w w') (hm : MemAt 123 w' mb mg ws' o' n') : Mid W G0 b z mb mg w' x q c r ws' o' n' := by
  obtain ⟨F, h1, h2, h3, h4, t⟩ := h
  refine ⟨F, h1.keep ⟨k.size, fun i hi => k.block i (h1.blw i hi) (fun e => h3 mb (by simp) (e ▸ hi)) (fun e => h3 mg (by simp) (e ▸ hi))⟩ ⟨k.size, fun i hi => k.block i (h1.blwK i hi) (fun e => h4 mb (by simp) (e ▸ hi)) (fun e => h4 mg (by simp) (e ▸ hi))⟩, hm, h3, h4, t.trans (turn_of (L := [mb, mg]) k.os k.tape k.output k.size (fun i hi => ?_) fun i hi hn => k.block i hi (fun e => hn (by simp [e])) (fun e => hn (by simp [e])))⟩
  simp only [List.mem_cons, List.not_mem_nil, or_false] at hi
  rcases hi with rfl | rfl <;> simp
/-- the memory and its coming have -/
theorem Mid.comes {ws' : List Int} {o' : Bool} {n' : Int} {c' : Md.Cv.Cs} (h : Mid W G0 b z mb mg w x q c r ws o n) (k : Md.Cv.Ch3 mb mg z.xc w w') (hm : MemAt 123 w' mb mg ws' o' n') (hc : Md.Cv.CmAt w' z.xc c') : Mid W G0 b z mb mg w' x q c' r ws' o' n' := by
  obtain ⟨F, h1, h2, h3, h4, t⟩ := h
  have G : ∀ i, i ∈ gX b z q F → i ≠ z.xc → w'.heap[i]? = w.heap[i]? := fun i hi hn => k.block i (h1.blw i hi) (fun e => h3 mb (by simp) (e ▸ hi)) (fun e => h3 mg (by simp) (e ▸ hi)) hn
  have G2 : ∀ i, i ∈ z.KK → w'.heap[i]? = w.heap[i]? := fun i hi => k.block i (h1.blwK i hi) (fun e => h4 mb (by simp) (e ▸ hi)) (fun e => h4 mg (by simp) (e ▸ hi)) (fun e => h1.nK (.inr (.inl rfl)) (e ▸ hi))
  refine ⟨F, ⟨(G b in_b h1.bc).trans h1.box, h1.mac.keep ⟨k.size, fun i hi => G i (in_F hi) (fun e => h1.nF (.inr (.inl rfl)) (e ▸ hi))⟩ ⟨k.size, fun i hi => G2 i (List.mem_append.2 (.inl hi))⟩, hc, fun i hi => rdAt_keep (h1.rd i hi) (G i (in_q hi) (fun e => h1.cq hi e.symm)), h1.arg.keep ⟨k.size, fun i hi => G2 i (List.mem_append.2 (.inr hi))⟩, h1.sf, h1.sk, h1.fa⟩, hm, h3, h4, t.trans (turn_of (L := [mb, mg, z.xc]) k.os k.tape k.output k.size (fun i hi => ?_) fun i hi hn => k.block i hi (fun e => hn (by simp [e])) (fun e => hn (by simp [e])) (fun e => hn (by simp [e])))⟩
  simp only [List.mem_cons, List.not_mem_nil, or_false] at hi
  rcases hi with rfl | rfl | rfl <;> simp [gX]
/-- the memory and its read have -/
theorem Mid.reads {ws' : List Int} {o' : Bool} {n' : Int} {r' : Md.Ce.Rd} {i0 : Nat} (h : Mid W G0 b z mb mg w x q c r ws o n) (hq : q = some i0) (k : Md.Ce.Ch [mb, mg, i0] w w') (hm : MemAt 123 w' mb mg ws' o' n') (hr : Md.Ce.RdAt w' i0 r') : Mid W G0 b z mb mg w' x q c r' ws' o' n' := by
  obtain ⟨F, h1, h2, h3, h4, t⟩ := h
  have G : ∀ i, i ∈ gX b z q F → i ≠ i0 → w'.heap[i]? = w.heap[i]? := fun i hi hn => k.block i (h1.blw i hi) (fun e => by
    simp only [List.mem_cons, List.not_mem_nil, or_false] at e
    rcases e with e | e | e
    · exact h3 mb (by simp) (e ▸ hi)
    · exact h3 mg (by simp) (e ▸ hi)
    · exact hn e)
  have G2 : ∀ i, i ∈ z.KK → w'.heap[i]? = w.heap[i]? := fun i hi => k.block i (h1.blwK i hi) (fun e => by
    simp only [List.mem_cons, List.not_mem_nil, or_false] at e
    rcases e with e | e | e
    · exact h4 mb (by simp) (e ▸ hi)
    · exact h4 mg (by simp) (e ▸ hi)
    · exact h1.nK (k := i0) (.inr (.inr hq)) (e ▸ hi))
  refine ⟨F, ⟨(G b in_b (h1.bq hq)).trans h1.box, h1.mac.keep ⟨k.size, fun i hi => G i (in_F hi) (fun e => h1.nF (k := i0) (.inr (.inr hq)) (e ▸ hi))⟩ ⟨k.size, fun i hi => G2 i (List.mem_append.2 (.inl hi))⟩, h1.com.keep (G _ in_c (h1.cq hq)), fun i hi => ?_, h1.arg.keep ⟨k.size, fun i hi => G2 i (List.mem_append.2 (.inr hi))⟩, h1.sf, h1.sk, h1.fa⟩, hm, h3, h4, t.trans (turn_of (L := [mb, mg, i0]) k.os k.tape k.output k.size (fun i hi => ?_) fun i hi hn => k.block i hi hn)⟩
  · obtain rfl : i0 = i := by rw [hq] at hi; exact Option.some.inj hi
    exact hr
  · simp only [List.mem_cons, List.not_mem_nil, or_false] at hi
    rcases hi with rfl | rfl | rfl <;> simp [gX, hq]
/-- a read is begun: its object is new -/
theorem Mid.readNew {w1 : World} {r' : Md.Ce.Rd} {i0 : Nat} (h : Mid W G0 b z mb mg w x q c r ws o n) (k : Below w.heap.size w w1) (hi : w.heap.size ≤ i0) (hr : Md.Ce.RdAt w1 i0 r') : Mid W G0 b z mb mg (w1.setCell ⟨b, 13, none⟩ (.pointer (some ⟨i0, 0, none⟩))) x (some i0) c r' ws o n := by
  have hs := h.size
  obtain ⟨F, h1, h2, h3, h4, t⟩ := h
  have nG : i0 ∉ gX b z q F := fun y => absurd (h1.blw i0 y) (Nat.not_lt.2 hi)
  have nK : i0 ∉ z.KK := fun y => absurd (h1.blwK i0 y) (Nat.not_lt.2 hi)
  have g1 := (h1.on k).putQ (some i0) r' (fun n hn => by cases hn; exact ⟨hr, fun y => nG (in_F y), nK⟩)
  have m1 := h2.on k
  have tt : Turn (mb :: mg :: gX b z q F) (mb :: mg :: gX b z q F) w1 (w1.setCell ⟨b, 13, none⟩ (.pointer (some ⟨i0, 0, none⟩))) := ⟨rfl, rfl, rfl, by simp, fun i _ hn => heap_setCell_other _ _ _ _ (fun (e : i = b) => hn (by simp [e, gX])), fun i hy => .inl hy⟩
  refine ⟨F, g1, m1.other (fun e => h3 mb (by simp) (e ▸ in_b)) (fun e => h3 mg (by simp) (e ▸ in_b)) 13 _, fun i hi2 hy => ?_, h4, ((t.trans (Below.turn k _)).trans tt).mono fun i hy => ?_⟩
  · simp only [gX, List.mem_cons, List.mem_append, Option.mem_toList] at hy
    rcases hy with hy | hy | hy | hy
    · exact h3 i hi2 (by simp [gX, hy])
    · exact h3 i hi2 (by simp [gX, hy])
    · have e : i0 = i := by simpa using hy
      have l : i < w.heap.size := by
        simp only [List.mem_cons, List.not_mem_nil, or_false] at hi2
        rcases hi2 with rfl | rfl
        · exact h2.ltB
        · exact h2.ltG
      omega
    · exact h3 i hi2 (by simp [gX, hy])
  · by_cases e : i = i0
    · subst e
      exact .inr (Nat.le_trans hs hi)
    · refine (t.own i ?_)
      simp only [gX, List.mem_cons, List.mem_append, Option.mem_toList] at hy ⊢
      rcases hy with hy | hy | hy | hy | hy | hy
      · simp [hy]
      · simp [hy]
      · simp [hy]
      · simp [hy]
      · exact absurd (by simpa using hy : i0 = i) (fun y => e y.symm)
      · simp [hy]
/-- the read is over -/
theorem Mid.readOver (h : Mid W G0 b z mb mg w x q c r ws o n) : Mid W G0 b z mb mg (w.setCell ⟨b, 13, none⟩ (.pointer none)) x none c r ws o n := by
  obtain ⟨F, h1, h2, h3, h4, t⟩ := h
  have sub : ∀ i, i ∈ gX b z none F → i ∈ gX b z q F := fun i hy => by
    simp only [gX, List.mem_cons, List.mem_append, Option.toList_none, List.not_mem_nil, false_or] at hy ⊢
    rcases hy with hy | hy | hy <;> simp [hy]
  have tt : Turn (mb :: mg :: gX b z q F) (mb :: mg :: gX b z q F) w (w.setCell ⟨b, 13, none⟩ (.pointer none)) := ⟨rfl, rfl, rfl, by simp, fun i _ hn => heap_setCell_other _ _ _ _ (fun (e : i = b) => hn (by simp [e, gX])), fun i hy => .inl hy⟩
  refine ⟨F, h1.putQ none r (fun n hn => by cases hn), h2.other (fun e => h3 mb (by simp) (e ▸ in_b)) (fun e => h3 mg (by simp) (e ▸ in_b)) 13 _, fun i hi hy => h3 i hi (sub i hy), h4, (t.trans tt).mono fun i hy => t.own i ?_⟩
  simp only [List.mem_cons] at hy ⊢
  exact hy.imp id (Or.imp id (sub i))
/-- its machine: what it may do, and what is then -/
theorem Mid.mach (h : Mid W G0 b z mb mg w x q c r ws o n) : ∃ F, Gm w F z.bm z.K w x.m ∧ (TabAt W G0 → TabAt w F) ∧ ∀ w' m', Gm w F z.bm z.K w' m' → Mid W G0 b z mb mg w' { x with m := m' } q c r ws o n := by
  obtain ⟨F, h1, h2, h3, h4, t⟩ := h
  refine ⟨F, h1.mac.gm, fun hT => ?_, fun w' m' g => ?_⟩
  · have := hT.turn t
    exact ⟨this.1, fun y => this.2 (by simp [gX, y])⟩
  · obtain ⟨F', g1, tF⟩ := h1.mach g
    have nm : ∀ i, i ∈ [mb, mg] → i ∉ F := fun i hi y => h3 i hi (in_F y)
    have lX : Blw w (mb :: mg :: b :: z.xc :: q.toList) := fun k hk => by
      simp only [List.mem_cons, Option.mem_toList] at hk
      rcases hk with rfl | rfl | hk | hk | hk
      · exact h2.ltB
      · exact h2.ltG
      · exact h1.blw k (by simp [gX, hk])
      · exact h1.blw k (by simp [gX, hk])
      · exact h1.blw k (in_q hk)
    have sp : Sep [mb, mg] F' := Sep.turn (fun i hi y => nm i hi y) (fun k hk => lX k (by simp only [List.mem_cons, List.not_mem_nil, or_false] at hk; rcases hk with hk | hk <;> simp [hk])) tF
    refine ⟨F', g1, h2.keep (tF.block mb h2.ltB (nm mb (by simp))) (tF.block mg h2.ltG (nm mg (by simp))), fun i hi hy => ?_, h4, t.trans ?_⟩
    · simp only [gX, List.mem_cons, List.mem_append] at hy
      rcases hy with hy | hy | hy | hy
      · exact h3 i hi (by simp [gX, hy])
      · exact h3 i hi (by simp [gX, hy])
      · exact h3 i hi (by simp [gX]; simp at hy; simp [hy])
      · exact sp i hi hy
    · have := turn_wide tF (mb :: mg :: b :: z.xc :: q.toList)
      simpa [gX] using this
end
end Go.Proofs.YtninicfnhoediaaGreatDoor.Rr
namespace Go.Proofs.YtninicfnhoediaaGreatDoor.Rr
open Go.ChangeShapes Go.WideShapes Go.ChangeAt Go.RowKit Num
def comN (x : Rx) : Int := if x.part = 1 then (x.sub : Int) else 3
def comC (x : Rx) : Md.Cv.Cs := ⟨2, 3, x.th, comN x, x.claim, x.stamp⟩
structure RdLike (x : Rx) (r : Md.Ce.Rd) : Prop where
  p : r.p = 3 + x.b
  c : r.c = x.cell
  s : r.s = x.stamp
  k : r.k = x.sub
  v : x.sub = 1 ∨ x.sub = 2 → r.v = x.ver
  x : x.sub = 2 → r.x = fixB x.now.toNat
def RdOk (x : Rx) (q : Option Nat) (r : Md.Ce.Rd) : Prop := (q = none ∧ x.cell < 0) ∨ ((∃ i, q = some i) ∧ 0 ≤ x.cell ∧ RdLike x r)
section
variable {x : Rx} {ws : List Int}
theorem hasB_of {ws : List Int} {i : Int} (h : 0 ≤ i) (k : i < (ws.length : Int)) : hasB ws i = true := decide_eq_true ⟨h, k⟩
theorem errA_of {ws : List Int} {i : Int} (h : 0 ≤ i) (k : i < (ws.length : Int)) : errA ws true i = 0 := by unfold errA; rw [hasB_of h k]; rfl
theorem com_ok (hI : In0 x) : Md.Cv.COk (comC x) := by
  refine ⟨?_, fun h => ?_, fun h => ?_⟩
  · show comN x = 0 ∨ comN x = 1 ∨ comN x = 2 ∨ comN x = 3
    unfold comN
    by_cases e : x.part = 1
    · have := (hI.p1 e).1
      rw [if_pos e]
      omega
    · rw [if_neg e]; omega
  · have h' : comN x = 0 := h
    unfold comN at h'
    by_cases e : x.part = 1
    · rw [if_pos e] at h'
      exact (hI.p1 e).2.2.2.1 (by omega)
    · rw [if_neg e] at h'; omega
  · have h' : comN x ≠ 3 := h
    unfold comN at h'
    by_cases e : x.part = 1
    · exact (hI.p1 e).2.2.1
    · rw [if_neg e] at h'; exact absurd rfl h'
/-- a step of its coming, both ways told -/
theorem com_step (hI : In0 x) (hp : x.part = 1) (hl : plW x ≤ (ws.length : Int)) (n : Int) : Md.Cv.cE (comC x) ws true = 0 ∧ Md.Cv.cO (comC x) ws true = decide (x.sub = 2) ∧ Md.Cv.cW (comC x) ws true = (comeX x ws).2 ∧ Md.Cv.cP (comC x) ws true = false ∧ Md.Cv.cQ (comC x) ws true n = up n ∧ Md.Cv.cC (comC x) ws true = comC (comeX x ws).1 := by
  have hs := (hI.p1 hp).1
  have ht := hI.th
  have hb := hI.cb
  have ha := hI.ca
  have hN : (comC x).N = (x.sub : Int) := by show comN x = _; unfold comN; rw [if_pos hp]
  have hpl : Md.Cv.plc 3 x.th = 3 + x.th := by unfold Md.Cv.plc; rw [if_pos (by omega)]
  unfold plW at hl
  have hE : Md.Cv.cE (comC x) ws true = 0 := by
    unfold Md.Cv.cE
    rw [if_neg (by rw [hN]; omega), show Md.Cv.may8 (comC x).T = true from decide_eq_true (by show 0 ≤ x.th ∧ x.th < 8; omega), if_pos rfl]
    unfold Md.Cv.cI
    split
    · show errA ws true (Md.Cv.plc 3 x.th) = 0
      rw [hpl]
      exact errA_of (by omega) (by omega)
    · exact errA_of (by show (0 : Int) ≤ 2; omega) (by show (2 : Int) < _; omega)
  refine ⟨hE, ?_, ?_, ?_, ?_, ?_⟩
  · unfold Md.Cv.cO
    rw [hE, hN]
    simp
    omega
  · unfold Md.Cv.cW comeX
    rw [if_pos hE, hN]
    rcases (by omega : x.sub = 0 ∨ x.sub = 1 ∨ x.sub = 2) with d | d | d
    · rw [if_neg (by omega), if_pos d]
    · rw [if_pos (by omega), if_neg (by omega), if_pos d]
      show ws.set (Md.Cv.plc 3 x.th).toNat _ = _
      rw [hpl]
      rfl
    · rw [if_neg (by omega), if_neg (by omega), if_neg (by omega)]
  · unfold Md.Cv.cP; rw [if_pos hE]
  · unfold Md.Cv.cQ; rw [if_pos hE]
  · unfold Md.Cv.cC comeX
    rw [if_pos hE, hN]
    rcases (by omega : x.sub = 0 ∨ x.sub = 1 ∨ x.sub = 2) with d | d | d
    · rw [if_pos (by omega), if_neg (by omega), if_pos d]
      simp [comC, comN, hp, d]
    · rw [if_neg (by omega), if_neg (by omega), if_neg (by omega), if_pos d]
      simp [comC, comN, hp, d]
    · rw [if_neg (by omega), if_pos (by omega), if_neg (by omega), if_neg (by omega)]
      simp [comC, comN, d]
theorem come_box (x : Rx) (ws : List Int) : (comeX x ws).1.m = x.m ∧ (comeX x ws).1.args = x.args ∧ (comeX x ws).1.a = x.a ∧ (comeX x ws).1.b = x.b ∧ (comeX x ws).1.th = x.th ∧ (comeX x ws).1.tag = x.tag ∧ (comeX x ws).1.steps = x.steps ∧ (comeX x ws).1.cell = x.cell ∧ (x.sub = 0 ∨ x.sub = 1 → (comeX x ws).1.part = x.part) ∧ (x.sub = 2 → (comeX x ws).1.part = 2) := by
  unfold comeX
  split
  · exact ⟨rfl, rfl, rfl, rfl, rfl, rfl, rfl, rfl, fun _ => rfl, fun h => by omega⟩
  · split
    · exact ⟨rfl, rfl, rfl, rfl, rfl, rfl, rfl, rfl, fun _ => rfl, fun h => by omega⟩
    · exact ⟨rfl, rfl, rfl, rfl, rfl, rfl, rfl, rfl, fun h => by omega, fun h => rfl⟩
/-- a step of its read -/
theorem read_rel {r : Md.Ce.Rd} (ha : 1 ≤ x.a ∧ x.a ≤ 256) (hb : 1 ≤ x.b ∧ x.b ≤ 8) (hn : u64B x.now) (h : RdLike x r) (hc : 0 ≤ x.cell) (hca : x.cell < x.a) (hs : x.sub ≤ 3) (hl : plW x ≤ (ws.length : Int)) (hW : okW ws) : Md.Ce.errR r ws true = 0 ∧
    (((readX x ws).cell = -1 ∧ Md.Ce.endR r ws true = true ∧ (readX x ws).m = giveM x.m (Md.Ce.stepR r ws true).y ∧ (Md.Ce.stepR r ws true).y < 18446744073709551616) ∨ ((readX x ws).cell = x.cell ∧ Md.Ce.endR r ws true = false ∧ (readX x ws).m = x.m ∧ RdLike (readX x ws) (Md.Ce.stepR r ws true))) := by
  have hk : r.k = x.sub := h.k
  unfold plW at hl
  have P : ∀ j : Int, Md.Ce.placeI r.p r.c j = atW x j := fun j => by
    rw [h.p, h.c]; unfold Md.Ce.placeI atW; rw [if_pos (by omega)]
  have hw := Md.Ce.wrd_in r.k
  have A : Md.Ce.errR r ws true = 0 := by
    unfold Md.Ce.errR Md.Ce.errC
    rw [if_pos (by omega), show Md.Ce.mayC r.c = true from decide_eq_true (by rw [h.c]; omega), if_pos rfl, P]
    unfold atW
    exact errA_of (by omega) (by omega)
  have S : Md.Ce.stepR r ws true = Md.Ce.nxt r (wordAt ws (atW x (Md.Ce.wrd x.sub))) := by
    unfold Md.Ce.stepR Md.Ce.wordC
    rw [if_pos A, P, hk]
  refine ⟨A, ?_⟩
  unfold Md.Ce.endR
  rw [A, S]
  rcases (by omega : x.sub = 0 ∨ x.sub = 1 ∨ x.sub = 2 ∨ x.sub = 3) with d | d | d | d
  · have W0 : Md.Ce.wrd x.sub = 0 := by rw [d]; rfl
    rw [W0]
    generalize hu : wordAt ws (atW x 0) = u
    have N : Md.Ce.nxt r u = { r with v := u, k := (if x.stamp < u then 3 else 1), n := up r.n } := by unfold Md.Ce.nxt Md.Ce.nx0; rw [if_pos (by omega), h.s]
    have R : readX x ws = { x with ver := u, sub := if x.stamp < u then 3 else 1 } := by unfold readX; rw [if_pos d, hu]
    rw [N, R]
    have k4 : ¬ 4 ≤ (if x.stamp < u then 3 else 1 : Nat) := by split <;> omega
    exact .inr ⟨rfl, by simp [k4], rfl, ⟨h.p, h.c, h.s, rfl, fun _ => rfl, fun e => by dsimp only at e; split at e <;> omega⟩⟩
  · have W1 : Md.Ce.wrd x.sub = 1 := by rw [d]; rfl
    rw [W1]
    generalize hu : wordAt ws (atW x 1) = u
    have N : Md.Ce.nxt r u = { r with x := fixB u.toNat, k := 2, n := up r.n } := by unfold Md.Ce.nxt Md.Ce.nx0; rw [if_neg (by omega), if_pos (by omega)]
    have R : readX x ws = { x with now := u, sub := 2 } := by unfold readX; rw [if_neg (by omega), if_pos d, hu]
    rw [N, R]
    exact .inr ⟨rfl, by simp, rfl, ⟨h.p, h.c, h.s, rfl, fun _ => h.v (.inl d), fun _ => rfl⟩⟩
  · have W2 : Md.Ce.wrd x.sub = 0 := by rw [d]; rfl
    rw [W2]
    generalize hu : wordAt ws (atW x 0) = u
    have hv := h.v (.inr d)
    by_cases e : u = x.ver
    · have N : Md.Ce.nxt r u = { r with y := r.x, k := 4, n := up r.n } := by unfold Md.Ce.nxt Md.Ce.nx0; rw [if_neg (by omega), if_neg (by omega), if_pos (by omega), if_pos (e.trans hv.symm)]
      have R : readX x ws = { x with m := giveM x.m (fixB x.now.toNat), cell := -1, sub := 3 } := by unfold readX; rw [if_neg (by omega), if_neg (by omega), if_pos d, hu, if_pos e]
      rw [N, R]
      exact .inl ⟨rfl, by simp, by rw [h.x d], by show r.x < _; rw [h.x d]; exact fix_lt _ hn⟩
    · have N : Md.Ce.nxt r u = { r with t := true, k := 3, n := up r.n } := by unfold Md.Ce.nxt Md.Ce.nx0; rw [if_neg (by omega), if_neg (by omega), if_pos (by omega), if_neg (fun y => e (y.trans hv))]
      have R : readX x ws = { x with sub := 3 } := by unfold readX; rw [if_neg (by omega), if_neg (by omega), if_pos d, hu, if_neg e]
      rw [N, R]
      exact .inr ⟨rfl, by simp, rfl, ⟨h.p, h.c, h.s, rfl, fun y => by dsimp only at y; omega, fun y => by dsimp only at y; omega⟩⟩
  · have W3 : Md.Ce.wrd x.sub = 2 := by rw [d]; rfl
    rw [W3]
    have hu64 := hW.at (atW x 2)
    generalize hu : wordAt ws (atW x 2) = u at hu64 ⊢
    have N : Md.Ce.nxt r u = { r with y := fixB u.toNat, k := 4, n := up r.n } := by unfold Md.Ce.nxt Md.Ce.nx0; rw [if_neg (by omega), if_neg (by omega), if_neg (by omega)]
    have R : readX x ws = { x with m := giveM x.m (fixB u.toNat), cell := -1 } := by unfold readX; rw [if_neg (by omega), if_neg (by omega), if_neg (by omega), hu]
    rw [N, R]
    exact .inl ⟨rfl, by simp, rfl, fix_lt _ hu64⟩
end
end Go.Proofs.YtninicfnhoediaaGreatDoor.Rr
namespace Go.Proofs.YtninicfnhoediaaGreatDoor.Rr
open Go.ChangeShapes Go.WideShapes Go.ChangeAt Go.RowKit Num
section
variable {W w : World} {G0 : List Nat} {b mb mg : Nat} {x : Rx} {z : Rz} {q : Option Nat} {c : Md.Cv.Cs} {r : Md.Ce.Rd} {ws : List Int} {o : Bool} {n : Int}
theorem over_any (h : Mid W G0 b z mb mg w x q c r ws o n) : Calls Tryz.prog 40 #[.pointer (some ⟨b, 0, none⟩)] w fun e w' => e = .returned (.bool (decide ((x.part : Int) = 4))) ∧ w' = w := by
  have h11 : w.cell? ⟨b, 11, none⟩ = some (.int .i64 (x.part : Int)) := (h.cell 11).trans rfl
  have hb := h.ltB
  clear h
  go_enter Tryz.func40, Tryz.ntmps40
  go_wp2
  go_ret
  exact ⟨rfl, rfl⟩
theorem fits_any (h : Mid W G0 b z mb mg w x q c r ws o n) : Calls Tryz.prog 39 #[.pointer (some ⟨b, 0, none⟩), .pointer (some ⟨mb, 0, none⟩)] w fun e w' => e = .returned (.bool (decide (plW x ≤ (ws.length : Int)))) ∧ Same w w' := by
  have h5 : w.cell? ⟨b, 5, none⟩ = some (.int .i64 (plW x)) := (h.cell 5).trans rfl
  have hb := h.ltB
  have HL := Lib.hid (Md.len_any h.drew.mem)
  generalize plW x = pl at h5 ⊢
  clear h
  go_enter Tryz.func39, Tryz.ntmps39
  go_wp2_with fail
  refine wp_region_seq (fun u => u.cell? ⟨b, 5, none⟩ = some (.int .i64 pl) )  ((0, true) :: (2, true) :: (3, true) :: (4, true) :: (5, true) :: (6, true) :: (1, false) :: (7, true) :: (8, true) :: [])  Md.Cv.follows13 (by kernel_rfl) (fun _ _ _ _ _ h => h)  h5 ?_
  (repeat (first | (refine wpSeq_take (v := ?_) rfl (by rfl) (fun wq hSq => ?_) ?_; rotate_left; (focus ((try dsimp only at hSq); go_simp; try with_reducible rfl)); simp only [Act.put, List.setIfInBounds_toArray, List.set_cons_zero, List.set_cons_succ]) | (refine wpSeq_skip rfl (by rfl) ?_; simp only [Act.put, List.setIfInBounds_toArray, List.set_cons_zero, List.set_cons_succ])))
  (refine wpSeq_do rfl (by rfl) (fun KK hK => ?_); go_simp)
  refine HL.out.mono ?_
  rintro e w1 ⟨rfl, hw⟩
  subst w1
  refine hK.out _ _ h5 ?_
  (clear hK KK; try simp only [Act.put, List.setIfInBounds_toArray, List.set_cons_zero, List.set_cons_succ])
  (repeat (first | (refine wpSeq_take (v := ?_) rfl (by rfl) (fun wq hSq => ?_) ?_; rotate_left; (focus ((try dsimp only at hSq); go_simp; try with_reducible rfl)); simp only [Act.put, List.setIfInBounds_toArray, List.set_cons_zero, List.set_cons_succ]) | (refine wpSeq_skip rfl (by rfl) ?_; simp only [Act.put, List.setIfInBounds_toArray, List.set_cons_zero, List.set_cons_succ])))
  refine wpSeq_nil ?_
  go_wp2_with fail
  go_ret
  exact ⟨rfl, Same.drew _⟩
theorem open_any (h : Mid W G0 b z mb mg w x q c r ws o n) (h0 : 0 ≤ x.steps) (h1 : x.steps ≤ 100000) : Calls Tryz.prog 41 #[.pointer (some ⟨b, 0, none⟩), .pointer (some ⟨mb, 0, none⟩)] w fun e w' => e = .returned (.tuple #[]) ∧ Mid W G0 b z mb mg w' (tickX x) q c r ws true n := by
  have HL := Lib.hid (Md.open_any h.mem)
  have HD : Hid (∀ w', MemAt 123 w' mb mg ws true n → Chg mb mg w w' → Mid W G0 b z mb mg w' x q c r ws true n) := fun w' k1 k2 => h.memb k2 k1
  have HP : Hid (∀ w', Mid W G0 b z mb mg w' x q c r ws true n → Mid W G0 b z mb mg (w'.setCell ⟨b, 7, none⟩ (.int .i64 (x.steps + 1))) (tickX x) q c r ws true n) := fun w' k => k.put 7 _ (tickX x) rfl rfl rfl
  clear h
  go_enter Tryz.func41, Tryz.ntmps41
  go_wp2_with (go_at_call 81; refine HL.out.mono ?_; rintro e w1 ⟨rfl, k1, k2⟩; have HQ := Lib.hid (HD.out _ k1 k2); have e7 : w1.cell? ⟨b, 7, none⟩ = some (.int .i64 x.steps) := (HQ.out.cell 7).trans rfl; have f7 := HQ.out.free 7; have lb := HQ.out.ltB; clear k1 k2 HL HD)
  go_end0
  exact ⟨rfl, HP.out _ HQ.out⟩
set_option maxRecDepth 100000 in
theorem come_any (h : Mid W G0 b z mb mg w x q (comC x) r ws true n) (hI : In0 x) (hp : x.part = 1) (hl : plW x ≤ (ws.length : Int)) : Calls Tryz.prog 42 #[.pointer (some ⟨b, 0, none⟩), .pointer (some ⟨mb, 0, none⟩)] w fun e w' => e = .returned (.tuple #[]) ∧ Mid W G0 b z mb mg w' (comeX x ws).1 q (comC (comeX x ws).1) r (comeX x ws).2 false (up n) := by
  obtain ⟨f1, f2, f3, f4, f5, f6⟩ := com_step hI hp hl n
  have HS := Lib.hid (Md.Cv.cstep_any h.mem h.com (com_ok hI))
  rw [f1, f2, f3, f4, f5, f6] at HS
  have hs2 := (hI.p1 hp).1
  obtain ⟨g1, g2, g3, g4, g5, g6, g7, g8, g9, g10⟩ := come_box x ws
  have h12 : w.cell? ⟨b, 12, none⟩ = some (.pointer (some ⟨z.xc, 0, none⟩)) := (h.cell 12).trans rfl
  have hb := h.ltB
  have HD : Hid (∀ w', MemAt 123 w' mb mg (comeX x ws).2 false (up n) → Md.Cv.CmAt w' z.xc (comC (comeX x ws).1) → Md.Cv.Ch3 mb mg z.xc w w' → Mid W G0 b z mb mg w' x q (comC (comeX x ws).1) r (comeX x ws).2 false (up n)) := fun w' k1 k2 k3 => h.comes k3 k1 k2
  by_cases d : x.sub = 2
  · have HP : Hid (∀ w', Mid W G0 b z mb mg w' x q (comC (comeX x ws).1) r (comeX x ws).2 false (up n) → Mid W G0 b z mb mg (w'.setCell ⟨b, 11, none⟩ (.int .i64 2)) (comeX x ws).1 q (comC (comeX x ws).1) r (comeX x ws).2 false (up n)) := fun w' k => k.put 11 _ _ (by unfold xboxV; rw [g2, g3, g4, g5, g6, g7, g10 d]; rfl) g1 g2
    rw [decide_eq_true d] at HS
    clear h f1 f2 f3 f4 f5 f6 g1 g2 g3 g4 g5 g6 g7 g8 g9 g10
    go_enter Tryz.func42, Tryz.ntmps42
    go_wp2_with (go_at_call 82; refine HS.out.mono ?_; rintro e w1 ⟨rfl, k1, k2, k3⟩; have HQ := Lib.hid (HD.out _ k1 k2 k3); have e11 : w1.cell? ⟨b, 11, none⟩ = some (.int .i64 (x.part : Int)) := (HQ.out.cell 11).trans rfl; have f11 := HQ.out.free 11; have lb := HQ.out.ltB; clear k1 k2 k3 HS HD)
    go_end0
    exact ⟨rfl, HP.out _ HQ.out⟩
  · have HP : Hid (∀ w', Mid W G0 b z mb mg w' x q (comC (comeX x ws).1) r (comeX x ws).2 false (up n) → Mid W G0 b z mb mg w' (comeX x ws).1 q (comC (comeX x ws).1) r (comeX x ws).2 false (up n)) := fun w' k => by
      obtain ⟨F, k1, k2⟩ := k
      exact ⟨F, ⟨by have := k1.box; unfold xboxV at this ⊢; rw [g2, g3, g4, g5, g6, g7, g9 (by omega)]; exact this, by rw [g1]; exact k1.mac, k1.com, k1.rd, by rw [g2]; exact k1.arg, k1.sf, k1.sk, k1.fa⟩, k2⟩
    rw [decide_eq_false d] at HS
    clear h f1 f2 f3 f4 f5 f6 g1 g2 g3 g4 g5 g6 g7 g8 g9 g10
    go_enter Tryz.func42, Tryz.ntmps42
    go_wp2_with (go_at_call 82; refine HS.out.mono ?_; rintro e w1 ⟨rfl, k1, k2, k3⟩; have HQ := Lib.hid (HD.out _ k1 k2 k3); clear k1 k2 k3 HS HD)
    go_end0
    exact ⟨rfl, HP.out _ HQ.out⟩
set_option maxRecDepth 100000 in
theorem leave_any (h : Mid W G0 b z mb mg w x q c r ws true n) (hI : In0 x) (hl : plW x ≤ (ws.length : Int)) : Calls Tryz.prog 44 #[.pointer (some ⟨b, 0, none⟩), .pointer (some ⟨mb, 0, none⟩)] w fun e w' => e = .returned (.tuple #[]) ∧ Mid W G0 b z mb mg w' (leaveX x) q c r (ws.set (3 + x.th).toNat 0) false (up n) := by
  have ht := hI.th
  have hb8 := hI.cb
  have ha := hI.ca
  have hm8 : Md.Cv.may8 x.th = true := decide_eq_true (by omega)
  have hpl : Md.Cv.plc 3 x.th = 3 + x.th := by unfold Md.Cv.plc; rw [if_pos (by omega)]
  unfold plW at hl
  have hE : errA ws true (3 + x.th) = 0 := errA_of (by omega) (by omega)
  obtain ⟨f1, f2, f3, _⟩ := Md.Cv.ok_facts hE
  have HL := Lib.hid (Md.Cv.leave_any h.drew.mem 0 1 2 3 (3 + x.b) (3 + x.b + 3 * x.a) x.th)
  unfold Md.Cv.lE Md.Cv.lW Md.Cv.lO Md.Cv.lC Md.Cv.plnV at HL
  rw [hm8, if_pos rfl, if_pos rfl, if_pos rfl, if_pos rfl, hpl, hE, f1, f2, f3] at HL
  have h0 : w.cell? ⟨b, 0, none⟩ = some (.int .i64 0) := (h.cell 0).trans rfl
  have h1 : w.cell? ⟨b, 1, none⟩ = some (.int .i64 1) := (h.cell 1).trans rfl
  have h2 : w.cell? ⟨b, 2, none⟩ = some (.int .i64 2) := (h.cell 2).trans rfl
  have h3 : w.cell? ⟨b, 3, none⟩ = some (.int .i64 3) := (h.cell 3).trans rfl
  have h4 : w.cell? ⟨b, 4, none⟩ = some (.int .i64 (3 + x.b)) := (h.cell 4).trans rfl
  have h5 : w.cell? ⟨b, 5, none⟩ = some (.int .i64 (3 + x.b + 3 * x.a)) := (h.cell 5).trans rfl
  have h10 : w.cell? ⟨b, 10, none⟩ = some (.int .i64 x.th) := (h.cell 10).trans rfl
  have hb := h.ltB
  have HD : Hid (∀ w', MemAt 123 w' mb mg (ws.set (3 + x.th).toNat 0) false (up n) → Chg mb mg w.drew w' → Mid W G0 b z mb mg w' x q c r (ws.set (3 + x.th).toNat 0) false (up n)) := fun w' k1 k2 => h.drew.memb k2 k1
  have HP : Hid (∀ w', Mid W G0 b z mb mg w' x q c r (ws.set (3 + x.th).toNat 0) false (up n) → Mid W G0 b z mb mg (w'.setCell ⟨b, 11, none⟩ (.int .i64 4)) (leaveX x) q c r (ws.set (3 + x.th).toNat 0) false (up n)) := fun w' k => k.put 11 _ (leaveX x) rfl rfl rfl
  clear h f1 f2 f3 hm8 hpl hE hl
  have HE4 : Hid (∀ w', Mid W G0 b z mb mg w' x q c r (ws.set (3 + x.th).toNat 0) false (up n) → w'.cell? ⟨b, 4, none⟩ = some (.int .i64 (3 + x.b))) := fun w' k => (k.cell 4).trans rfl
  have HE5 : Hid (∀ w', Mid W G0 b z mb mg w' x q c r (ws.set (3 + x.th).toNat 0) false (up n) → w'.cell? ⟨b, 5, none⟩ = some (.int .i64 (3 + x.b + 3 * x.a))) := fun w' k => (k.cell 5).trans rfl
  generalize 3 + x.b + 3 * x.a = p5 at *
  generalize 3 + x.b = p4 at *
  go_enter Tryz.func44, Tryz.ntmps44
  go_wp2_with fail
  refine wp_region_seq (fun u => u.cell? ⟨b, 0, none⟩ = some (.int .i64 0) ∧ u.cell? ⟨b, 1, none⟩ = some (.int .i64 1) ∧ u.cell? ⟨b, 2, none⟩ = some (.int .i64 2) ∧ u.cell? ⟨b, 3, none⟩ = some (.int .i64 3) ∧ u.cell? ⟨b, 4, none⟩ = some (.int .i64 p4) ∧ u.cell? ⟨b, 5, none⟩ = some (.int .i64 p5) ∧ u.cell? ⟨b, 10, none⟩ = some (.int .i64 x.th) )  ((0, true) :: (1, true) :: (2, true) :: (3, true) :: (4, true) :: (5, true) :: (6, true) :: (7, true) :: (8, true) :: (9, true) :: (10, false) :: [])  Md.Cv.follows13 (by kernel_rfl) (fun _ _ _ _ _ h => h)  ⟨h0, h1, h2, h3, h4, h5, h10⟩ ?_
  (repeat (first | (refine wpSeq_take (v := ?_) rfl (by rfl) (fun wq hSq => ?_) ?_; rotate_left; (focus ((try dsimp only at hSq); go_simp; try with_reducible rfl)); simp only [Act.put, List.setIfInBounds_toArray, List.set_cons_zero, List.set_cons_succ]) | (refine wpSeq_skip rfl (by rfl) ?_; simp only [Act.put, List.setIfInBounds_toArray, List.set_cons_zero, List.set_cons_succ])))
  (refine wpSeq_do rfl (by rfl) (fun KK hK => ?_); go_simp)
  refine HL.out.mono ?_
  rintro e w1 ⟨rfl, k1, k2⟩
  have HQ := Lib.hid (HD.out _ k1 k2)
  have e11 : w1.cell? ⟨b, 11, none⟩ = some (.int .i64 (x.part : Int)) := (HQ.out.cell 11).trans rfl
  have f11 := HQ.out.free 11
  have lb := HQ.out.ltB
  clear k1 k2 HL HD
  refine hK.out _ _ ⟨(HQ.out.cell 0).trans rfl, (HQ.out.cell 1).trans rfl, (HQ.out.cell 2).trans rfl, (HQ.out.cell 3).trans rfl, HE4.out _ HQ.out, HE5.out _ HQ.out, (HQ.out.cell 10).trans rfl⟩ ?_
  (clear hK KK; try simp only [Act.put, List.setIfInBounds_toArray, List.set_cons_zero, List.set_cons_succ])
  refine wpSeq_nil ?_
  go_wp2_with fail
  go_end0
  exact ⟨rfl, HP.out _ HQ.out⟩
end
end Go.Proofs.YtninicfnhoediaaGreatDoor.Rr
namespace Go.Proofs.YtninicfnhoediaaGreatDoor.Rr
open Go.ChangeShapes Go.WideShapes Go.ChangeAt Go.RowKit Num
attribute [local go_sem] run_store_float
section
variable {W w : World} {G0 : List Nat} {b mb mg : Nat} {x : Rx} {z : Rz} {q : Option Nat} {c : Md.Cv.Cs} {r : Md.Ce.Rd} {ws : List Int} {o : Bool} {n : Int}
/-- the cells of its box that nobody changes -/
theorem Mid.plan (h : Mid W G0 b z mb mg w x q c r ws o n) {p4 p5 : Int} (h4 : 3 + x.b = p4) (h5 : 3 + x.b + 3 * x.a = p5) : (w.cell? ⟨b, 0, none⟩ = some (.int .i64 0) ∧ w.cell? ⟨b, 1, none⟩ = some (.int .i64 1) ∧ w.cell? ⟨b, 2, none⟩ = some (.int .i64 2) ∧ w.cell? ⟨b, 3, none⟩ = some (.int .i64 3) ∧ w.cell? ⟨b, 4, none⟩ = some (.int .i64 p4) ∧ w.cell? ⟨b, 5, none⟩ = some (.int .i64 p5)) ∧ w.cell? ⟨b, 6, none⟩ = some (.pointer (some ⟨z.bm, 0, none⟩)) ∧ w.cell? ⟨b, 12, none⟩ = some (.pointer (some ⟨z.xc, 0, none⟩)) ∧ w.cell? ⟨b, 13, none⟩ = some (ptrV q) ∧ b < w.heap.size ∧ w.frozen? ⟨b, 13, none⟩ = false := by
  subst h4 h5
  exact ⟨⟨(h.cell 0).trans rfl, (h.cell 1).trans rfl, (h.cell 2).trans rfl, (h.cell 3).trans rfl, (h.cell 4).trans rfl, (h.cell 5).trans rfl⟩, (h.cell 6).trans rfl, (h.cell 12).trans rfl, (h.cell 13).trans rfl, h.ltB, h.free 13⟩
theorem Mid.step (h : Mid W G0 b z mb mg w x q c r ws o n) (hT : TabAt W G0) (hI : Inv x.m) {M : Mac} {A : Ask} (hM : (stepM x.m).1 = M) (hA : (stepM x.m).2 = A) : Calls Tryz.prog 104 #[.pointer (some ⟨z.bm, 0, none⟩)] w fun e w' => e = .returned (.agg #[.int .i64 A.kind, .int .i64 A.cell, .float .f64 A.x, .bool A.first]) ∧ Mid W G0 b z mb mg w' { x with m := M } q c r ws o n := by
  obtain ⟨F, g, tb, go⟩ := h.mach
  subst hM hA
  refine (step_any g (tb hT) hI).mono ?_
  rintro e w' ⟨rfl, k⟩
  exact ⟨rfl, go _ _ k⟩
theorem Mid.give (h : Mid W G0 b z mb mg w x q c r ws o n) (hI : Inv x.m) (y : Nat) {M : Mac} (hM : giveM x.m y = M) : Calls Tryz.prog 106 #[.pointer (some ⟨z.bm, 0, none⟩), .float .f64 y] w fun e w' => e = .returned (.int .i64 (giveE x.m)) ∧ Mid W G0 b z mb mg w' { x with m := M } q c r ws o n := by
  obtain ⟨F, g, tb, go⟩ := h.mach
  subst hM
  refine (give_any g hI y).mono ?_
  rintro e w' ⟨rfl, k⟩
  exact ⟨rfl, go _ _ k⟩
set_option maxRecDepth 100000 in
set_option maxHeartbeats 1000000 in
theorem instr_read (h : Mid W G0 b z mb mg w x none c r ws o n) (hT : TabAt W G0) (hI : Inv x.m) {M : Mac} {A : Ask} (hM : (stepM x.m).1 = M) (hA : (stepM x.m).2 = A) (hk : A.kind = 1) : Calls Tryz.prog 83 #[.pointer (some ⟨b, 0, none⟩)] w fun e w' => e = .returned (.tuple #[]) ∧ ∃ i0, Mid W G0 b z mb mg w' { x with m := M } (some i0) c (Md.Ce.newR (3 + x.b) A.cell c.S) ws o n := by
  have HS := Lib.hid (h.step hT hI hM hA)
  rw [hk] at HS
  have h6 : w.cell? ⟨b, 6, none⟩ = some (.pointer (some ⟨z.bm, 0, none⟩)) := (h.cell 6).trans rfl
  have hb := h.ltB
  clear h hM hA hT hI
  generalize h4 : 3 + x.b = p4
  generalize h5 : 3 + x.b + 3 * x.a = p5
  have HP : Hid (3 + x.b = p4 ∧ 3 + x.b + 3 * x.a = p5) := ⟨h4, h5⟩
  clear h4 h5
  have HR := Lib.hid (fun (v : World) => Md.Ce.read_any v 0 1 2 3 p4 p5 A.cell c.S)
  unfold Md.Ce.planV at HR
  go_enter Tryz.func83, Tryz.ntmps83
  go_wp2_with (go_at_call 104; refine HS.out.mono ?_; rintro e w1 ⟨rfl, k⟩; have HQ := Lib.hid k; have lb := k.ltB; clear k HS)
  obtain ⟨w2, hw2⟩ : ∃ w2, w2 = w1.alloc (.cells #[.int .i64 1, .int .i64 A.cell, .float .f64 A.x, .bool A.first] 112) := ⟨_, rfl⟩
  rw [← hw2]
  have HU := Lib.hid ((HQ.out.alloc (.cells #[.int .i64 1, .int .i64 A.cell, .float .f64 A.x, .bool A.first] 112)).drew)
  rw [← hw2] at HU
  have eA : w2.cell? ⟨w1.heap.size, 1, none⟩ = some (.int .i64 A.cell) := by rw [hw2]; simp [go_sem]
  have lA : w1.heap.size < w2.heap.size := by rw [hw2]; simp
  clear hw2 HQ
  obtain ⟨⟨e0, e1, e2, e3, e4, e5⟩, e6, e12, e13, eb, _⟩ := HU.out.plan HP.out.1 HP.out.2
  refine wp_region_seq (fun u => (u.cell? ⟨b, 0, none⟩ = some (.int .i64 0) ∧ u.cell? ⟨b, 1, none⟩ = some (.int .i64 1) ∧ u.cell? ⟨b, 2, none⟩ = some (.int .i64 2) ∧ u.cell? ⟨b, 3, none⟩ = some (.int .i64 3) ∧ u.cell? ⟨b, 4, none⟩ = some (.int .i64 p4) ∧ u.cell? ⟨b, 5, none⟩ = some (.int .i64 p5)) ∧ u.cell? ⟨b, 12, none⟩ = some (.pointer (some ⟨z.xc, 0, none⟩)) ∧ u.cell? ⟨w1.heap.size, 1, none⟩ = some (.int .i64 A.cell) )  ((0, true) :: (1, true) :: (2, true) :: (3, true) :: (4, true) :: (5, true) :: (6, true) :: (7, true) :: (8, true) :: (9, true) :: (10, true) :: (11, true) :: (12, false) :: (13, false) :: (14, true) :: (15, true) :: (16, false) :: [])  Md.Cv.follows13 (by kernel_rfl) (fun _ _ _ _ _ h => h)  ⟨⟨e0, e1, e2, e3, e4, e5⟩, e12, eA⟩ ?_
  (repeat (first | (refine wpSeq_take (v := ?_) rfl (by rfl) (fun wq hSq => ?_) ?_; rotate_left; (focus ((try dsimp only at hSq); go_simp; try with_reducible rfl)); simp only [Act.put, List.setIfInBounds_toArray, List.set_cons_zero, List.set_cons_succ]) | (refine wpSeq_skip rfl (by rfl) ?_; simp only [Act.put, List.setIfInBounds_toArray, List.set_cons_zero, List.set_cons_succ])))
  (refine wpSeq_do rfl (by rfl) (fun KK hK => ?_); go_simp)
  refine (Md.Cv.stampC_any HU.out.com).mono ?_
  rintro e u1 ⟨rfl, hw⟩
  subst u1
  refine hK.out _ _ ⟨⟨e0, e1, e2, e3, e4, e5⟩, e12, eA⟩ ?_
  (clear hK KK; try simp only [Act.put, List.setIfInBounds_toArray, List.set_cons_zero, List.set_cons_succ])
  (refine wpSeq_do rfl (by rfl) (fun KK hK => ?_); go_simp)
  refine (HR.out _).mono ?_
  rintro e u3 ⟨i0, rfl, k1, k2, k3⟩
  have HV := Lib.hid (HU.out.on k3)
  have HN := Lib.hid (HU.out.readNew k3 k1 k2)
  have eA3 : u3.cell? ⟨w1.heap.size, 1, none⟩ = some (.int .i64 A.cell) := (k3.cell (p := ⟨w1.heap.size, 1, none⟩) lA).trans eA
  obtain ⟨⟨g0, g1, g2, g3, g4, g5⟩, g6, g12, g13, gb, g14⟩ := HV.out.plan HP.out.1 HP.out.2
  refine hK.out _ _ ⟨⟨g0, g1, g2, g3, g4, g5⟩, g12, eA3⟩ ?_
  (clear hK KK; try simp only [Act.put, List.setIfInBounds_toArray, List.set_cons_zero, List.set_cons_succ])
  (repeat (first | (refine wpSeq_take (v := ?_) rfl (by rfl) (fun wq hSq => ?_) ?_; rotate_left; (focus ((try dsimp only at hSq); go_simp; try with_reducible rfl)); simp only [Act.put, List.setIfInBounds_toArray, List.set_cons_zero, List.set_cons_succ]) | (refine wpSeq_skip rfl (by rfl) ?_; simp only [Act.put, List.setIfInBounds_toArray, List.set_cons_zero, List.set_cons_succ])))
  (refine wpSeq_do rfl (by rfl) (fun KK hK => ?_); go_simp)
  obtain ⟨⟨y0, y1, y2, y3, y4, y5⟩, _, y12, _, _, _⟩ := HN.out.plan HP.out.1 HP.out.2
  refine hK.out _ _ ⟨⟨y0, y1, y2, y3, y4, y5⟩, y12, (Md.Cv.cell_kept (heap_setCell_other _ _ _ _ (fun (e : w1.heap.size = b) => by omega)) 1).trans eA3⟩ ?_
  (clear hK KK; try simp only [Act.put, List.setIfInBounds_toArray, List.set_cons_zero, List.set_cons_succ])
  refine wpSeq_nil ?_
  go_wp2_with fail
  go_end0
  exact ⟨rfl, i0, HN.out⟩
set_option maxRecDepth 100000 in
set_option maxHeartbeats 1000000 in
theorem instr_end (h : Mid W G0 b z mb mg w x q c r ws o n) (hT : TabAt W G0) (hI : Inv x.m) {M : Mac} {A : Ask} (hM : (stepM x.m).1 = M) (hA : (stepM x.m).2 = A) (hk : A.kind = 4) : Calls Tryz.prog 83 #[.pointer (some ⟨b, 0, none⟩)] w fun e w' => e = .returned (.tuple #[]) ∧ Mid W G0 b z mb mg w' { x with m := M, part := 3 } q c r ws o n := by
  have HS := Lib.hid (h.step hT hI hM hA)
  rw [hk] at HS
  have h6 : w.cell? ⟨b, 6, none⟩ = some (.pointer (some ⟨z.bm, 0, none⟩)) := (h.cell 6).trans rfl
  have hb := h.ltB
  have HD : Hid (∀ w1 y, Mid W G0 b z mb mg w1 { x with m := M } q c r ws o n → Mid W G0 b z mb mg ((w1.setCell ⟨b, 11, none⟩ (.int .i64 3)).alloc y) { x with m := M, part := 3 } q c r ws o n) := fun w1 y k => (k.put 11 (.int .i64 3) { x with m := M, part := 3 } rfl rfl rfl).alloc y
  clear h hM hA hT hI
  go_enter Tryz.func83, Tryz.ntmps83
  go_wp2_with (go_at_call 104; refine HS.out.mono ?_; rintro e w1 ⟨rfl, k⟩; have HQ := Lib.hid k; have lb := k.ltB; have e11 : w1.cell? ⟨b, 11, none⟩ = some (.int .i64 (x.part : Int)) := (k.cell 11).trans rfl; have f11 := k.free 11; clear k HS)
  go_end0
  exact ⟨rfl, HD.out _ _ HQ.out⟩
set_option maxRecDepth 100000 in
set_option maxHeartbeats 1000000 in
theorem instr_go (h : Mid W G0 b z mb mg w x q c r ws o n) (hT : TabAt W G0) (hI : Inv x.m) {M : Mac} {A : Ask} (hM : (stepM x.m).1 = M) (hA : (stepM x.m).2 = A) (h1 : (A.kind == 1) = false) (h4 : (A.kind == 4) = false) : Calls Tryz.prog 83 #[.pointer (some ⟨b, 0, none⟩)] w fun e w' => e = .returned (.tuple #[]) ∧ Mid W G0 b z mb mg w' { x with m := M } q c r ws o n := by
  have HS := Lib.hid (h.step hT hI hM hA)
  have h6 : w.cell? ⟨b, 6, none⟩ = some (.pointer (some ⟨z.bm, 0, none⟩)) := (h.cell 6).trans rfl
  have hb := h.ltB
  clear h hM hA hT hI
  go_enter Tryz.func83, Tryz.ntmps83
  go_wp2_with (go_at_call 104; refine HS.out.mono ?_; rintro e w1 ⟨rfl, k⟩; have HQ := Lib.hid k; clear k HS)
  go_end0
  exact ⟨rfl, HQ.out.alloc _⟩
/-- a step of its read that doesn't end it; one that does -/
theorem Mid.nq (h : Mid W G0 b z mb mg w x q c r ws o n) {i0 : Nat} (hq : q = some i0) : i0 ≠ mb ∧ i0 ≠ mg := by
  obtain ⟨F, h1, _, h3, _⟩ := h
  exact ⟨fun e => h3 mb (by simp) (e ▸ in_q hq), fun e => h3 mg (by simp) (e ▸ in_q hq)⟩
set_option maxRecDepth 100000 in
set_option maxHeartbeats 1000000 in
theorem read_on {i0 : Nat} (h : Mid W G0 b z mb mg w x (some i0) c r ws true n) (hE : Md.Ce.errR r ws true = 0) (hD : Md.Ce.endR r ws true = false) : Calls Tryz.prog 84 #[.pointer (some ⟨b, 0, none⟩), .pointer (some ⟨mb, 0, none⟩)] w fun e w' => e = .returned (.tuple #[]) ∧ Mid W G0 b z mb mg w' x (some i0) c (Md.Ce.stepR r ws true) ws false (up n) := by
  have HS := Lib.hid (Md.Ce.rstep_any h.mem (h.rd rfl) (h.nq rfl).1 (h.nq rfl).2)
  rw [hE, hD] at HS
  have HQ0 : Hid (∀ w', MemAt 123 w' mb mg ws false (up n) → Md.Ce.RdAt w' i0 (Md.Ce.stepR r ws true) → Md.Ce.Ch [mb, mg, i0] w w' → Mid W G0 b z mb mg w' x (some i0) c (Md.Ce.stepR r ws true) ws false (up n)) := fun w' k1 k2 k3 => h.reads rfl k3 k1 k2
  have h13 : w.cell? ⟨b, 13, none⟩ = some (.pointer (some ⟨i0, 0, none⟩)) := (h.cell 13).trans rfl
  have hb := h.ltB
  unfold Md.Ce.aftO Md.Ce.aftN at HS
  rw [if_pos rfl, if_pos rfl] at HS
  clear h hE hD
  go_enter Tryz.func84, Tryz.ntmps84
  go_wp2_with (go_at_call 119; refine HS.out.mono ?_; rintro e w1 ⟨rfl, k1, k2, k3⟩; have HQ := Lib.hid (HQ0.out _ k1 k2 k3); clear k1 k2 k3 HS)
  go_end0
  exact ⟨rfl, HQ.out⟩
set_option maxRecDepth 100000 in
set_option maxHeartbeats 1000000 in
theorem read_end {i0 : Nat} (h : Mid W G0 b z mb mg w x (some i0) c r ws true n) (hI : Inv x.m) (hE : Md.Ce.errR r ws true = 0) (hD : Md.Ce.endR r ws true = true) {M : Mac} (hM : giveM x.m (Md.Ce.stepR r ws true).y = M) : Calls Tryz.prog 84 #[.pointer (some ⟨b, 0, none⟩), .pointer (some ⟨mb, 0, none⟩)] w fun e w' => e = .returned (.tuple #[]) ∧ Mid W G0 b z mb mg w' { x with m := M } none c (Md.Ce.stepR r ws true) ws false (up n) := by
  have HS := Lib.hid (Md.Ce.rstep_any h.mem (h.rd rfl) (h.nq rfl).1 (h.nq rfl).2)
  rw [hE, hD] at HS
  have HQ0 : Hid (∀ w', MemAt 123 w' mb mg ws false (up n) → Md.Ce.RdAt w' i0 (Md.Ce.stepR r ws true) → Md.Ce.Ch [mb, mg, i0] w w' → Mid W G0 b z mb mg w' x (some i0) c (Md.Ce.stepR r ws true) ws false (up n)) := fun w' k1 k2 k3 => h.reads rfl k3 k1 k2
  have HG : Hid (∀ w', Mid W G0 b z mb mg w' x (some i0) c (Md.Ce.stepR r ws true) ws false (up n) → Calls Tryz.prog 106 #[.pointer (some ⟨z.bm, 0, none⟩), .float .f64 (Md.Ce.stepR r ws true).y] w' fun e w2 => e = .returned (.int .i64 (giveE x.m)) ∧ Mid W G0 b z mb mg w2 { x with m := M } (some i0) c (Md.Ce.stepR r ws true) ws false (up n)) := fun w' k => k.give hI _ hM
  have h13 : w.cell? ⟨b, 13, none⟩ = some (.pointer (some ⟨i0, 0, none⟩)) := (h.cell 13).trans rfl
  have hb := h.ltB
  unfold Md.Ce.aftO Md.Ce.aftN at HS
  rw [if_pos rfl, if_pos rfl] at HS
  clear h hE hD hM
  generalize Md.Ce.stepR r ws true = r' at *
  generalize giveE x.m = ge at *
  go_enter Tryz.func84, Tryz.ntmps84
  go_wp2_with (go_at_call 119; refine HS.out.mono ?_; rintro e w1 ⟨rfl, k1, k2, k3⟩; have HQ := Lib.hid (HQ0.out _ k1 k2 k3); clear k1 k2 k3 HS)
  have HU := Lib.hid HQ.out.drew
  have e6 : w1.cell? ⟨b, 6, none⟩ = some (.pointer (some ⟨z.bm, 0, none⟩)) := (HQ.out.cell 6).trans rfl
  have e13 : w1.cell? ⟨b, 13, none⟩ = some (.pointer (some ⟨i0, 0, none⟩)) := (HQ.out.cell 13).trans rfl
  have lb := HQ.out.ltB
  clear HQ HQ0
  refine wp_region_seq (fun u => u.cell? ⟨b, 6, none⟩ = some (.pointer (some ⟨z.bm, 0, none⟩)) ∧ u.cell? ⟨b, 13, none⟩ = some (.pointer (some ⟨i0, 0, none⟩)) )  ((0, true) :: (1, true) :: (2, true) :: (3, true) :: (4, true) :: (5, true) :: (6, true) :: (7, true) :: (8, true) :: (9, false) :: (10, false) :: [])  Md.Cv.follows13 (by kernel_rfl) (fun _ _ _ _ _ h => h)  ⟨e6, e13⟩ ?_
  (repeat (first | (refine wpSeq_take (v := ?_) rfl (by rfl) (fun wq hSq => ?_) ?_; rotate_left; (focus ((try dsimp only at hSq); go_simp; try with_reducible rfl)); simp only [Act.put, List.setIfInBounds_toArray, List.set_cons_zero, List.set_cons_succ]) | (refine wpSeq_skip rfl (by rfl) ?_; simp only [Act.put, List.setIfInBounds_toArray, List.set_cons_zero, List.set_cons_succ])))
  (refine wpSeq_do rfl (by rfl) (fun KK hK => ?_); go_simp)
  refine (Md.Ce.value_any (HU.out.rd rfl)).mono ?_
  rintro e u1 ⟨rfl, hw⟩
  subst u1
  refine hK.out _ _ ⟨e6, e13⟩ ?_
  (clear hK KK; try simp only [Act.put, List.setIfInBounds_toArray, List.set_cons_zero, List.set_cons_succ])
  (refine wpSeq_do rfl (by rfl) (fun KK hK => ?_); go_simp)
  refine (HG.out _ HU.out).mono ?_
  rintro e w2 ⟨rfl, k⟩
  have HV := Lib.hid k
  have l2 := k.ltB
  have d13 : w2.cell? ⟨b, 13, none⟩ = some (.pointer (some ⟨i0, 0, none⟩)) := (k.cell 13).trans rfl
  have f13 := k.free 13
  refine hK.out _ _ ⟨(k.cell 6).trans rfl, d13⟩ ?_
  clear k
  (clear hK KK; try simp only [Act.put, List.setIfInBounds_toArray, List.set_cons_zero, List.set_cons_succ])
  refine wpSeq_nil ?_
  go_wp2_with fail
  go_end0
  exact ⟨rfl, HV.out.readOver⟩
end
end Go.Proofs.YtninicfnhoediaaGreatDoor.Rr
namespace Go.Proofs.YtninicfnhoediaaGreatDoor.Rr
open Go.ChangeShapes Go.WideShapes Go.ChangeAt Go.RowKit Num
/-- a reader and its memory, as the numbers have them -/
def Full (W : World) (G0 : List Nat) (b : Nat) (z : Rz) (mb mg : Nat) (w : World) (x : Rx) (ws : List Int) (o : Bool) (n : Int) : Prop := ∃ q r, Mid W G0 b z mb mg w x q (comC x) r ws o n ∧ RdOk x q r
section
variable {W w : World} {G0 : List Nat} {b mb mg : Nat} {x : Rx} {z : Rz} {q : Option Nat} {c : Md.Cv.Cs} {r : Md.Ce.Rd} {ws : List Int} {o : Bool} {n : Int}
/-- the box has the same numbers -/
theorem Mid.like (h : Mid W G0 b z mb mg w x q c r ws o n) {y : Rx} (e : xboxV y z q = xboxV x z q) (em : y.m = x.m) (ea : y.args = x.args) : Mid W G0 b z mb mg w y q c r ws o n := by
  obtain ⟨F, k1, k2⟩ := h
  exact ⟨F, ⟨by rw [e]; exact k1.box, by rw [em]; exact k1.mac, k1.com, k1.rd, by rw [ea]; exact k1.arg, k1.sf, k1.sk, k1.fa⟩, k2⟩
theorem readX_box (x : Rx) (ws : List Int) : (readX x ws).a = x.a ∧ (readX x ws).b = x.b ∧ (readX x ws).th = x.th ∧ (readX x ws).tag = x.tag ∧ (readX x ws).args = x.args ∧ (readX x ws).steps = x.steps ∧ (readX x ws).part = x.part ∧ (readX x ws).claim = x.claim ∧ (readX x ws).stamp = x.stamp := by
  unfold readX
  split
  · exact ⟨rfl, rfl, rfl, rfl, rfl, rfl, rfl, rfl, rfl⟩
  · split
    · exact ⟨rfl, rfl, rfl, rfl, rfl, rfl, rfl, rfl, rfl⟩
    · split
      · split <;> exact ⟨rfl, rfl, rfl, rfl, rfl, rfl, rfl, rfl, rfl⟩
      · exact ⟨rfl, rfl, rfl, rfl, rfl, rfl, rfl, rfl, rfl⟩
/-- its read's step, in the program -/
theorem read_full {i0 : Nat} (h : Mid W G0 b z mb mg w x (some i0) c r ws true n) (hL : RdLike x r) (ha : 1 ≤ x.a ∧ x.a ≤ 256) (hb : 1 ≤ x.b ∧ x.b ≤ 8) (hn : u64B x.now) (hIm : Inv x.m) (hp : x.part = 2) (hc : 0 ≤ x.cell) (hca : x.cell < x.a) (hs : x.sub ≤ 3) (hcc : c = comC x) (hl : plW x ≤ (ws.length : Int)) (hW : okW ws) : Calls Tryz.prog 84 #[.pointer (some ⟨b, 0, none⟩), .pointer (some ⟨mb, 0, none⟩)] w fun e w' => e = .returned (.tuple #[]) ∧ Full W G0 b z mb mg w' (readX x ws) ws false (up n) := by
  obtain ⟨b1, b2, b3, b4, b5, b6, b7, b8, b9⟩ := readX_box x ws
  have hcom : comC (readX x ws) = c := by
    rw [hcc]; unfold comC comN; rw [b3, b7, b8, b9, if_neg (by omega), if_neg (by omega)]
  obtain ⟨hE, hR⟩ := read_rel ha hb hn hL hc hca hs hl hW
  have hbox : ∀ q', xboxV (readX x ws) z q' = xboxV x z q' := fun q' => by unfold xboxV; rw [b1, b2, b3, b4, b5, b6, b7]
  rcases hR with ⟨c1, c2, c3, c4⟩ | ⟨c1, c2, c3, c4⟩
  · refine (read_end h hIm hE c2 c3.symm).mono ?_
    rintro e w' ⟨rfl, k⟩
    exact ⟨rfl, none, Md.Ce.stepR r ws true, by rw [hcom]; exact k.like (hbox none) rfl b5, .inl ⟨rfl, by omega⟩⟩
  · refine (read_on h hE c2).mono ?_
    rintro e w' ⟨rfl, k⟩
    exact ⟨rfl, some i0, Md.Ce.stepR r ws true, by rw [hcom]; exact k.like (hbox _) c3 b5, .inr ⟨⟨i0, rfl⟩, by omega, c4⟩⟩
end
section
variable {W w : World} {G0 : List Nat} {b mb mg : Nat} {x : Rx} {z : Rz} {ws : List Int} {o : Bool} {n : Int}
set_option maxRecDepth 100000 in
set_option maxHeartbeats 1000000 in
/-- a step of its running, in the program: the read that is under way; a new one; another instruction -/
theorem run_old (h : Full W G0 b z mb mg w x ws true n) (hI : In0 x) (hp : x.part = 2) (hc : 0 ≤ x.cell) (hl : plW x ≤ (ws.length : Int)) (hW : okW ws) : Calls Tryz.prog 43 #[.pointer (some ⟨b, 0, none⟩), .pointer (some ⟨mb, 0, none⟩)] w fun e w' => e = .returned (.tuple #[]) ∧ Full W G0 b z mb mg w' (readX x ws) ws false (up n) := by
  obtain ⟨q, r, h, hR⟩ := h
  rcases hR with ⟨_, hR⟩ | ⟨⟨i0, rfl⟩, _, hL⟩
  · omega
  have h2 := (hI.p2 hp).2
  have HR := Lib.hid (read_full h hL hI.ca hI.cb hI.n hI.inv hp hc hI.celB.2 (by omega) rfl hl hW)
  have h13 : w.cell? ⟨b, 13, none⟩ = some (.pointer (some ⟨i0, 0, none⟩)) := (h.cell 13).trans rfl
  have hb := h.ltB
  clear h hL h2
  go_enter Tryz.func43, Tryz.ntmps43
  go_wp2_with (go_at_call 84; refine HR.out.mono ?_; rintro e w1 ⟨rfl, k⟩; have HQ := Lib.hid k; clear k HR)
  go_end0
  exact ⟨rfl, HQ.out⟩
set_option maxRecDepth 100000 in
set_option maxHeartbeats 1000000 in
theorem run_new (h : Full W G0 b z mb mg w x ws true n) (hT : TabAt W G0) (hI : In0 x) (hp : x.part = 2) (hc : x.cell < 0) (hk : (stepM x.m).2.kind = 1) (hl : plW x ≤ (ws.length : Int)) (hW : okW ws) : Calls Tryz.prog 43 #[.pointer (some ⟨b, 0, none⟩), .pointer (some ⟨mb, 0, none⟩)] w fun e w' => e = .returned (.tuple #[]) ∧ Full W G0 b z mb mg w' (readX (begX x) ws) ws false (up n) := by
  obtain ⟨q, r, h, hR⟩ := h
  obtain rfl : q = none := by
    rcases hR with hR | ⟨_, hR, _⟩
    · exact hR.1
    · omega
  obtain ⟨h0, h2⟩ := hI.p2 hp
  have hw : ¬ 0 ≤ x.m.wait := by omega
  obtain ⟨lk, tr⟩ := step_turns hI.inv hw h0
  have hst : (stepM x.m).2.cell = (stepM x.m).1.wait ∧ 0 ≤ (stepM x.m).1.wait ∧ (stepM x.m).1.how = 0 := by
    rcases tr with ⟨k4, _⟩ | ⟨_, e1, e2, e3, _⟩ | ⟨k0, _⟩
    · omega
    · exact ⟨e1, e2, e3⟩
    · omega
  have hIs := inv_step hI.inv
  have hwc := hIs.wait
  have hcl : (stepM x.m).1.cells = x.a := lk.cells.trans hI.cel
  have HI := Lib.hid (instr_read h hT hI.inv rfl rfl hk)
  have HR : Hid (∀ w' i0, Mid W G0 b z mb mg w' { x with m := (stepM x.m).1 } (some i0) (comC x) (Md.Ce.newR (3 + x.b) (stepM x.m).2.cell (comC x).S) ws true n → Calls Tryz.prog 84 #[.pointer (some ⟨b, 0, none⟩), .pointer (some ⟨mb, 0, none⟩)] w' fun e w' => e = .returned (.tuple #[]) ∧ Full W G0 b z mb mg w' (readX (begX x) ws) ws false (up n)) := fun w' i0 k => by
    have kb : Mid W G0 b z mb mg w' (begX x) (some i0) (comC x) (Md.Ce.newR (3 + x.b) (stepM x.m).2.cell (comC x).S) ws true n := k.like rfl rfl rfl
    exact read_full kb ⟨rfl, rfl, rfl, rfl, (fun e => by have e' : (0 : Nat) = 1 ∨ (0 : Nat) = 2 := e; omega), (fun e => by have e' : (0 : Nat) = 2 := e; omega)⟩ hI.ca hI.cb hI.n hIs hp (by show 0 ≤ (stepM x.m).2.cell; omega) (by show (stepM x.m).2.cell < x.a; omega) (by show (0 : Nat) ≤ 3; omega) (by unfold comC comN; rw [if_neg (by omega), if_neg (show ¬ (begX x).part = 1 by show ¬ x.part = 1; omega)]; rfl) hl hW
  have h13 : w.cell? ⟨b, 13, none⟩ = some (.pointer none) := (h.cell 13).trans rfl
  have hb := h.ltB
  clear h hT h0 h2 hw lk tr hst hIs hwc hcl hk hc hI hp hl hW
  go_enter Tryz.func43, Tryz.ntmps43
  go_wp2_with (first
    | (go_at_call 83; refine HI.out.mono ?_; rintro e w1 ⟨rfl, i0, k⟩; have HQ := Lib.hid k; have e13 : w1.cell? ⟨b, 13, none⟩ = some (.pointer (some ⟨i0, 0, none⟩)) := (k.cell 13).trans rfl; have lb := k.ltB; clear k HI)
    | (go_at_call 84; refine (HR.out _ _ HQ.out).mono ?_; rintro e w2 ⟨rfl, k⟩; have HZ := Lib.hid k; clear k HR))
  go_end0
  exact ⟨rfl, HZ.out⟩
set_option maxRecDepth 100000 in
set_option maxHeartbeats 1000000 in
theorem run_ends (h : Full W G0 b z mb mg w x ws true n) (hT : TabAt W G0) (hI : In0 x) (hp : x.part = 2) (hc : x.cell < 0) (hk : (stepM x.m).2.kind = 4) : Calls Tryz.prog 43 #[.pointer (some ⟨b, 0, none⟩), .pointer (some ⟨mb, 0, none⟩)] w fun e w' => e = .returned (.tuple #[]) ∧ Full W G0 b z mb mg w' { x with m := (stepM x.m).1, part := 3 } ws true n := by
  obtain ⟨q, r, h, hR⟩ := h
  obtain rfl : q = none := by
    rcases hR with hR | ⟨_, hR, _⟩
    · exact hR.1
    · omega
  have HI := Lib.hid (instr_end h hT hI.inv rfl rfl hk)
  have h13 : w.cell? ⟨b, 13, none⟩ = some (.pointer none) := (h.cell 13).trans rfl
  have hb := h.ltB
  have HC : Hid (comC x = comC { x with m := (stepM x.m).1, part := 3 }) := by unfold comC comN; rw [if_neg (by omega), if_neg (by show ¬ (3 : Nat) = 1; omega)]; trivial
  have HX : Hid (x.cell < 0) := hc
  clear h hT hk hI hp hc
  go_enter Tryz.func43, Tryz.ntmps43
  go_wp2_with (go_at_call 83; refine HI.out.mono ?_; rintro e w1 ⟨rfl, k⟩; have HQ := Lib.hid k; have e13 : w1.cell? ⟨b, 13, none⟩ = some (.pointer none) := (k.cell 13).trans rfl; have lb := k.ltB; clear k HI)
  go_end0
  exact ⟨rfl, none, r, by rw [← HC.out]; exact HQ.out, .inl ⟨rfl, HX.out⟩⟩
set_option maxRecDepth 100000 in
set_option maxHeartbeats 1000000 in
theorem run_goes (h : Full W G0 b z mb mg w x ws true n) (hT : TabAt W G0) (hI : In0 x) (hp : x.part = 2) (hc : x.cell < 0) (h1 : (stepM x.m).2.kind ≠ 1) (h4 : (stepM x.m).2.kind ≠ 4) : Calls Tryz.prog 43 #[.pointer (some ⟨b, 0, none⟩), .pointer (some ⟨mb, 0, none⟩)] w fun e w' => e = .returned (.tuple #[]) ∧ Full W G0 b z mb mg w' { x with m := (stepM x.m).1, part := 2 } ws true n := by
  obtain ⟨q, r, h, hR⟩ := h
  obtain rfl : q = none := by
    rcases hR with hR | ⟨_, hR, _⟩
    · exact hR.1
    · omega
  have HI := Lib.hid (instr_go h hT hI.inv rfl rfl (by simpa using h1) (by simpa using h4))
  have h13 : w.cell? ⟨b, 13, none⟩ = some (.pointer none) := (h.cell 13).trans rfl
  have hb := h.ltB
  have HC : Hid (comC x = comC { x with m := (stepM x.m).1, part := 2 }) := by unfold comC comN; rw [if_neg (by omega), if_neg (by show ¬ (2 : Nat) = 1; omega)]; trivial
  have HX : Hid (x.cell < 0 ∧ x.part = 2) := ⟨hc, hp⟩
  clear h hT h1 h4 hI hp hc
  go_enter Tryz.func43, Tryz.ntmps43
  go_wp2_with (go_at_call 83; refine HI.out.mono ?_; rintro e w1 ⟨rfl, k⟩; have HQ := Lib.hid k; have e13 : w1.cell? ⟨b, 13, none⟩ = some (.pointer none) := (k.cell 13).trans rfl; have lb := k.ltB; clear k HI)
  go_end0
  exact ⟨rfl, none, r, by rw [← HC.out]; exact HQ.out.like (by unfold xboxV; rw [HX.out.2]) rfl rfl, .inl ⟨rfl, HX.out.1⟩⟩
/-- all of it -/
theorem run_any (h : Full W G0 b z mb mg w x ws true n) (hT : TabAt W G0) (hI : In0 x) (hp : x.part = 2) (hl : plW x ≤ (ws.length : Int)) (hW : okW ws) : Calls Tryz.prog 43 #[.pointer (some ⟨b, 0, none⟩), .pointer (some ⟨mb, 0, none⟩)] w fun e w' => e = .returned (.tuple #[]) ∧ Full W G0 b z mb mg w' (runX x ws).1 ws (!(runX x ws).2) (if (runX x ws).2 then up n else n) := by
  unfold runX
  by_cases hc : 0 ≤ x.cell
  · rw [if_pos hc]; exact run_old h hI hp hc hl hW
  · rw [if_neg hc]
    by_cases h1 : (stepM x.m).2.kind = 1
    · rw [if_pos h1]; exact run_new h hT hI hp (by omega) h1 hl hW
    · rw [if_neg h1]
      by_cases h4 : (stepM x.m).2.kind = 4
      · rw [if_pos h4]; exact run_ends h hT hI hp (by omega) h4
      · rw [if_neg h4]; exact run_goes h hT hI hp (by omega) h1 h4
theorem Full.mid (h : Full W G0 b z mb mg w x ws o n) : ∃ q c r, Mid W G0 b z mb mg w x q c r ws o n := by
  obtain ⟨q, r, h, _⟩ := h
  exact ⟨q, _, r, h⟩
theorem Full.on {w' : World} (h : Full W G0 b z mb mg w x ws o n) (k : Below w.heap.size w w') : Full W G0 b z mb mg w' x ws o n := by
  obtain ⟨q, r, h, h2⟩ := h
  exact ⟨q, r, h.on k, h2⟩
theorem Full.same {w' : World} (h : Full W G0 b z mb mg w x ws o n) (k : Same w w') : Full W G0 b z mb mg w' x ws o n := h.on (k.below _)
set_option maxRecDepth 100000 in
set_option maxHeartbeats 1000000 in
/-- Step, where it is not -/
theorem step_by {part : Nat} (hpt : x.part = part) (hpp : part = 1 ∨ part = 2 ∨ part = 3) (h : Full W G0 b z mb mg w x ws o n) (hT : TabAt W G0) (hI : InX x) (hl : plW x ≤ (ws.length : Int)) (hW : okW ws) {y : Rx} {ws' : List Int} {ac : Bool} (hy : stepX x ws = (y, ws', ac)) :
    Calls Tryz.prog 14 #[.pointer (some ⟨b, 0, none⟩), .pointer (some ⟨mb, 0, none⟩)] w fun e w' => e = .returned (.tuple #[.bool (decide ((y.part : Int) = 4)), .int .i64 0]) ∧ Full W G0 b z mb mg w' y ws' (!ac) (if ac then up n else n) := by
  obtain ⟨o', ho⟩ : ∃ o', o' = !ac := ⟨_, rfl⟩
  obtain ⟨n', hn⟩ : ∃ n', n' = if ac then up n else n := ⟨_, rfl⟩
  rw [← ho, ← hn]
  have HF : Hid (Calls Tryz.prog 39 #[.pointer (some ⟨b, 0, none⟩), .pointer (some ⟨mb, 0, none⟩)] w fun e w' => e = .returned (.bool true) ∧ Same w w') := by
    obtain ⟨q, c, r, h⟩ := h.mid
    have := fits_any h
    rwa [decide_eq_true hl] at this
  have HO : Hid (∀ w', Same w w' → Calls Tryz.prog 40 #[.pointer (some ⟨b, 0, none⟩)] w' fun e w2 => e = .returned (.bool false) ∧ w2 = w') := fun w' k => by
    obtain ⟨q, c, r, h⟩ := (h.same k).mid
    have := over_any h
    rwa [decide_eq_false (by omega)] at this
  have hfs := hI.few_steps.1
  have hfu := hI.inv.fuel
  have HP : Hid (∀ w', Same w w' → Calls Tryz.prog 41 #[.pointer (some ⟨b, 0, none⟩), .pointer (some ⟨mb, 0, none⟩)] w' fun e w2 => e = .returned (.tuple #[]) ∧ Full W G0 b z mb mg w2 (tickX x) ws true n) := fun w' k => by
    obtain ⟨q, r, h, hR⟩ := h.same k
    refine (open_any h hI.pos (by omega)).mono ?_
    rintro e w2 ⟨rfl, k2⟩
    exact ⟨rfl, q, r, k2, by rcases hR with hR | ⟨h1, h2, h3⟩; exact .inl hR; exact .inr ⟨h1, h2, ⟨h3.p, h3.c, h3.s, h3.k, h3.v, h3.x⟩⟩⟩
  have HZ : Hid (∀ w', Full W G0 b z mb mg w' y ws' o' n' → Calls Tryz.prog 40 #[.pointer (some ⟨b, 0, none⟩)] w' fun e w2 => e = .returned (.bool (decide ((y.part : Int) = 4))) ∧ w2 = w') := fun w' k => by
    obtain ⟨q, c, r, h⟩ := k.mid
    exact over_any h
  have HB : Hid (∀ w', Full W G0 b z mb mg w' (tickX x) ws true n → w'.cell? ⟨b, 11, none⟩ = some (.int .i64 (part : Int)) ∧ b < w'.heap.size) := fun w' k => by
    obtain ⟨q, c, r, h⟩ := k.mid
    exact ⟨(h.cell 11).trans (by show some (Value.int .i64 (x.part : Int)) = _; rw [hpt]), h.ltB⟩
  have HB0 : Hid (b < w.heap.size ∧ ∀ w', Same w w' → b < w'.heap.size) := by
    obtain ⟨q, c, r, h⟩ := h.mid
    exact ⟨h.ltB, fun w' k => by rw [k.heap]; exact h.ltB⟩
  have hb := HB0.out.1
  rcases hpp with rfl | rfl | rfl
  · have HC : Hid (∀ w', Full W G0 b z mb mg w' (tickX x) ws true n → Calls Tryz.prog 42 #[.pointer (some ⟨b, 0, none⟩), .pointer (some ⟨mb, 0, none⟩)] w' fun e w2 => e = .returned (.tuple #[]) ∧ Full W G0 b z mb mg w2 y ws' o' n') := fun w' k => by
      have E : stepX x ws = ((comeX (tickX x) ws).1, (comeX (tickX x) ws).2, true) := by unfold stepX; rw [if_pos hpt]
      rw [E] at hy
      cases hy
      subst ho hn
      obtain ⟨q, r, h, hR⟩ := k
      have hc1 := (hI.p1 hpt).2.1
      obtain ⟨g1, g2, g3, g4, g5, g6, g7, g8, g9, g10⟩ := come_box (tickX x) ws
      have g8' : (comeX (tickX x) ws).1.cell = x.cell := g8
      refine (come_any h hI.tick hpt hl).mono ?_
      rintro e w2 ⟨rfl, k2⟩
      refine ⟨rfl, q, r, k2, ?_⟩
      rcases hR with hR | ⟨_, h2, _⟩
      · exact .inl ⟨hR.1, by rw [g8']; omega⟩
      · have h2' : 0 ≤ x.cell := h2
        omega
    clear h hT hI hl hW hy hpt hfs hfu ho hn
    go_enter Tryz.func14, Tryz.ntmps14
    go_wp2_with (first
      | (go_at_call 40; refine (HZ.out _ H4.out).mono ?_; rintro e w5 ⟨rfl, hw⟩; subst w5; clear HZ)
      | (go_at_call 42; refine (HC.out _ H3.out).mono ?_; rintro e w4 ⟨rfl, k⟩; have H4 := Lib.hid k; clear k HC H3)
      | (go_at_call 41; refine (HP.out _ H1.out).mono ?_; rintro e w3 ⟨rfl, k⟩; have H3 := Lib.hid k; obtain ⟨e11, lb3⟩ := HB.out _ k; clear k HP HB)
      | (go_at_call 40; refine (HO.out _ H1.out).mono ?_; rintro e w2 ⟨rfl, hw⟩; subst w2; clear HO)
      | (go_at_call 39; refine HF.out.mono ?_; rintro e w1 ⟨rfl, k⟩; have H1 := Lib.hid k; have lb1 := HB0.out.2 _ k; clear k HF))
    go_ret2
    exact ⟨rfl, H4.out⟩
  · have HC : Hid (∀ w', Full W G0 b z mb mg w' (tickX x) ws true n → Calls Tryz.prog 43 #[.pointer (some ⟨b, 0, none⟩), .pointer (some ⟨mb, 0, none⟩)] w' fun e w2 => e = .returned (.tuple #[]) ∧ Full W G0 b z mb mg w2 y ws' o' n') := fun w' k => by
      have E : stepX x ws = ((runX (tickX x) ws).1, ws, (runX (tickX x) ws).2) := by unfold stepX; rw [if_neg (by omega), if_neg (by omega)]
      rw [E] at hy
      cases hy
      subst ho hn
      exact run_any k hT hI.tick hpt hl hW
    clear h hT hI hl hW hy hpt hfs hfu ho hn
    go_enter Tryz.func14, Tryz.ntmps14
    go_wp2_with (first
      | (go_at_call 40; refine (HZ.out _ H4.out).mono ?_; rintro e w5 ⟨rfl, hw⟩; subst w5; clear HZ)
      | (go_at_call 43; refine (HC.out _ H3.out).mono ?_; rintro e w4 ⟨rfl, k⟩; have H4 := Lib.hid k; clear k HC H3)
      | (go_at_call 41; refine (HP.out _ H1.out).mono ?_; rintro e w3 ⟨rfl, k⟩; have H3 := Lib.hid k; obtain ⟨e11, lb3⟩ := HB.out _ k; clear k HP HB)
      | (go_at_call 40; refine (HO.out _ H1.out).mono ?_; rintro e w2 ⟨rfl, hw⟩; subst w2; clear HO)
      | (go_at_call 39; refine HF.out.mono ?_; rintro e w1 ⟨rfl, k⟩; have H1 := Lib.hid k; have lb1 := HB0.out.2 _ k; clear k HF))
    go_ret2
    exact ⟨rfl, H4.out⟩
  · have HC : Hid (∀ w', Full W G0 b z mb mg w' (tickX x) ws true n → Calls Tryz.prog 44 #[.pointer (some ⟨b, 0, none⟩), .pointer (some ⟨mb, 0, none⟩)] w' fun e w2 => e = .returned (.tuple #[]) ∧ Full W G0 b z mb mg w2 y ws' o' n') := fun w' k => by
      have E : stepX x ws = (leaveX (tickX x), ws.set (3 + x.th).toNat 0, true) := by unfold stepX; rw [if_neg (by omega), if_pos hpt]
      rw [E] at hy
      cases hy
      subst ho hn
      obtain ⟨q, r, h, hR⟩ := k
      have hc1 := (hI.p3 (.inl hpt)).2.1
      refine (leave_any h hI.tick hl).mono ?_
      rintro e w2 ⟨rfl, k2⟩
      refine ⟨rfl, q, r, ?_, ?_⟩
      · have : comC (leaveX (tickX x)) = comC (tickX x) := by
          unfold comC comN
          rw [if_neg (show ¬ (leaveX (tickX x)).part = 1 by show ¬ 4 = 1; omega), if_neg (show ¬ (tickX x).part = 1 by show ¬ x.part = 1; omega)]
          rfl
        rw [this]
        exact k2
      · rcases hR with hR | ⟨_, h2, _⟩
        · exact .inl hR
        · have h2' : 0 ≤ x.cell := h2
          omega
    clear h hT hI hl hW hy hpt hfs hfu ho hn
    go_enter Tryz.func14, Tryz.ntmps14
    go_wp2_with (first
      | (go_at_call 40; refine (HZ.out _ H4.out).mono ?_; rintro e w5 ⟨rfl, hw⟩; subst w5; clear HZ)
      | (go_at_call 44; refine (HC.out _ H3.out).mono ?_; rintro e w4 ⟨rfl, k⟩; have H4 := Lib.hid k; clear k HC H3)
      | (go_at_call 41; refine (HP.out _ H1.out).mono ?_; rintro e w3 ⟨rfl, k⟩; have H3 := Lib.hid k; obtain ⟨e11, lb3⟩ := HB.out _ k; clear k HP HB)
      | (go_at_call 40; refine (HO.out _ H1.out).mono ?_; rintro e w2 ⟨rfl, hw⟩; subst w2; clear HO)
      | (go_at_call 39; refine HF.out.mono ?_; rintro e w1 ⟨rfl, k⟩; have H1 := Lib.hid k; have lb1 := HB0.out.2 _ k; clear k HF))
    go_ret2
    exact ⟨rfl, H4.out⟩
theorem step_any (h : Full W G0 b z mb mg w x ws o n) (hT : TabAt W G0) (hI : InX x) (hp : x.part ≠ 4) (hl : plW x ≤ (ws.length : Int)) (hW : okW ws) {y : Rx} {ws' : List Int} {ac : Bool} (hy : stepX x ws = (y, ws', ac)) :
    Calls Tryz.prog 14 #[.pointer (some ⟨b, 0, none⟩), .pointer (some ⟨mb, 0, none⟩)] w fun e w' => e = .returned (.tuple #[.bool (decide ((y.part : Int) = 4)), .int .i64 0]) ∧ Full W G0 b z mb mg w' y ws' (!ac) (if ac then up n else n) :=
  step_by rfl (by have := hI.part; omega) h hT hI hl hW hy
end
end Go.Proofs.YtninicfnhoediaaGreatDoor.Rr
namespace Go.Proofs.YtninicfnhoediaaGreatDoor
open Go.ChangeShapes Go.WideShapes Go.ChangeAt Go.RowKit Num
section
variable {P : Program} {w : World}
theorem wp_append_ex {o : Oper} {a : Act} {K : Act → World → Prop} {Q : Exit → Act → World → Prop} (s x : Operand) (t tx : TypeId)
    (ho : o.op = .call { callee := .builtin .append, args := #[s, x], argTypes := #[t, tx] }) (vs vx : Value) (hs : a.eval s = vs) (hx : a.eval x = vx) {R : Value → World → Prop}
    (hr : ∃ v w', (Builtin.append_ #[t, tx] o.type #[vs, vx]).run P w = .ok v w' ∧ R v w') (h : ∀ v w', R v w' → K (a.put o.dst v) w') : o.wp P a w K Q := by
  obtain ⟨v, w', hr, hR⟩ := hr
  unfold Oper.wp execOp
  simp only [ho, resolve, invoke, builtin, Sem.run_bind, Sem.run_pure, Result.andThen_ok, List.map_toArray, List.map_cons, List.map_nil, hs, hx, hr]
  exact h v w' hR
theorem wpList_append_ex {ops : Array Oper} {rest : List Oper} {o : Oper} {a : Act} {Q : Exit → Act → World → Prop} (hgd : o.guard = none) (s x : Operand) (t tx : TypeId)
    (ho : o.op = .call { callee := .builtin .append, args := #[s, x], argTypes := #[t, tx] }) (vs vx : Value) (hs : a.eval s = vs) (hx : a.eval x = vx) {R : Value → World → Prop}
    (hr : ∃ v w', (Builtin.append_ #[t, tx] o.type #[vs, vx]).run P w = .ok v w' ∧ R v w') (h : ∀ v w', R v w' → wpList P ops Q rest (a.put o.dst v) w') : wpList P ops Q (o :: rest) a w :=
  wpList_plain hgd fun _ hK => wp_append_ex s x t tx ho vs vx hs hx hr fun v w' hR => hK _ _ (h v w' hR)
end
def Ro (w : World) (p : Option Addr) (vs : List Value) : Prop := (p = none ∧ vs = []) ∨ ∃ g o, p = some ⟨g, o, none⟩ ∧ w.rangeAt g o vs
theorem Ro.keep {w w' : World} {p : Option Addr} {vs : List Value} (h : Ro w p vs) (k : Kept (fpR p) w w') : Ro w' p vs := by
  rcases h with h | ⟨g, o, rfl, h⟩
  · exact .inl h
  · exact .inr ⟨g, o, rfl, fun j v hv => (World.cell?_of_block (a := ⟨g, o + j, none⟩) (k.2 g (by simp [fpR]))).trans (h j v hv)⟩
theorem Ro.get {w : World} {p : Option Addr} {vs : List Value} (h : Ro w p vs) {j : Nat} {v : Value} (hv : vs[j]? = some v) : ∃ g o, p = some ⟨g, o, none⟩ ∧ w.cell? ⟨g, o + j, none⟩ = some v ∧ g < w.heap.size := by
  rcases h with ⟨_, rfl⟩ | ⟨g, o, rfl, h⟩
  · simp at hv
  · exact ⟨g, o, rfl, h j v hv, World.block_lt_of_cell? w _ (h j v hv)⟩
theorem Ro.nil (w : World) : Ro w none [] := .inl ⟨rfl, rfl⟩
def Rp.rows (q : Rp) : List (Option Addr) := [q.pa, q.ps, q.pc, q.pt, q.pr, q.pb]
def Fr (br : Nat) (q : Rp) : List Nat := br :: q.bl :: q.rows.flatMap fpR
/-- where its instructions lie, if there are any -/
def fpK (q : Rp) (cs : List Ins) : List Nat := if cs = [] then [] else fpR q.pk
theorem CodeAt.keepK {w w' : World} {q : Rp} {cs : List Ins} (h : CodeAt w q.pk cs) (k : Kept (fpK q cs) w w') : CodeAt w' q.pk cs := by
  by_cases e : cs = []
  · subst e
    exact fun j hj => absurd hj (by simp)
  · unfold fpK at k
    rw [if_neg e] at k
    exact h.keep k
structure RefAt (w : World) (br : Nat) (q : Rp) (m : Mac) (cs : List Ins) : Prop where
  box : w.heap[br]? = some (rbO m q)
  loc : RowAt 71 w (some ⟨q.bl, 0, none⟩) q.cl (fls (eight m.loc))
  arg : Ro w q.pa (fls (eight m.args))
  st : Ro w q.ps (fls m.st.reverse)
  cal : Ro w q.pc (i64s m.calls.reverse)
  out : Ro w q.pt (fls m.out)
  rds : Ro w q.pr (m.reads.flatMap tchC)
  buf : Ro w q.pb (m.buf.flatMap tchC)
  cod : CodeAt w q.pk cs
  na : q.na = 8
  nk : q.nk = cs.length
  bad : (q.bad = false ∧ m.code = cs) ∨ (q.bad = true ∧ m.code = [])
  tag : m.upd = (q.tg == 2)
  zc : m.how = 0 → m.cod = 0
  ne : br ≠ q.bl
  ap : ∀ p ∈ q.rows, br ∉ fpR p ∧ q.bl ∉ fpR p
  apk : br ∉ fpK q cs ∧ q.bl ∉ fpK q cs
  lt : Blw w (Fr br q)
  ltk : Blw w (fpK q cs)
  c1 : m.st.length ≤ q.cs
  c2 : m.calls.length ≤ q.cc
  c3 : m.out.length ≤ q.ct
  c4 : m.reads.length ≤ q.cr
  c5 : m.buf.length ≤ q.cb
  nd : (cellsOfL m.buf).Nodup
section
variable {w w' : World} {br : Nat} {q : Rp} {m : Mac} {cs : List Ins}
theorem in_fr {p : Option Addr} (hp : p ∈ q.rows) {x : Nat} (hx : x ∈ fpR p) : x ∈ Fr br q := List.mem_cons_of_mem _ (List.mem_cons_of_mem _ (List.mem_flatMap.2 ⟨p, hp, hx⟩))
theorem RefAt.keep (h : RefAt w br q m cs) (k : Kept (Fr br q) w w') (k2 : Kept (fpK q cs) w w') : RefAt w' br q m cs := by
  have kk : ∀ p ∈ q.rows, Kept (fpR p) w w' := fun p hp => ⟨k.1, fun i hi => k.2 i (in_fr hp hi)⟩
  exact { h with
    box := (k.2 br (by simp [Fr])).trans h.box
    loc := h.loc.keep ⟨k.1, fun i hi => k.2 i (by simp [fpR] at hi; subst hi; simp [Fr])⟩
    arg := h.arg.keep (kk _ (by simp [Rp.rows]))
    st := h.st.keep (kk _ (by simp [Rp.rows]))
    cal := h.cal.keep (kk _ (by simp [Rp.rows]))
    out := h.out.keep (kk _ (by simp [Rp.rows]))
    rds := h.rds.keep (kk _ (by simp [Rp.rows]))
    buf := h.buf.keep (kk _ (by simp [Rp.rows]))
    cod := h.cod.keepK k2
    lt := fun x hx => Nat.lt_of_lt_of_le (h.lt x hx) k.1
    ltk := fun x hx => Nat.lt_of_lt_of_le (h.ltk x hx) k.1 }
theorem RefAt.on (h : RefAt w br q m cs) (k : Below w.heap.size w w') : RefAt w' br q m cs := h.keep (kept_below k h.lt) (kept_below k h.ltk)
end
end Go.Proofs.YtninicfnhoediaaGreatDoor
namespace Go.Proofs.YtninicfnhoediaaGreatDoor
open Go.ChangeShapes Go.WideShapes Go.ChangeAt Go.RowKit Num
attribute [local go_sem] run_store_float
end Go.Proofs.YtninicfnhoediaaGreatDoor
namespace Go.Proofs.YtninicfnhoediaaGreatDoor
open Go.ChangeShapes Go.WideShapes Go.ChangeAt Go.RowKit Num
attribute [local go_sem] run_store_float
end Go.Proofs.YtninicfnhoediaaGreatDoor
namespace Go.Proofs.YtninicfnhoediaaGreatDoor
open Go.ChangeShapes Go.WideShapes Go.ChangeAt Go.RowKit Num
attribute [local go_sem] run_store_float
end Go.Proofs.YtninicfnhoediaaGreatDoor
namespace Go.Proofs.YtninicfnhoediaaGreatDoor
open Go.ChangeShapes Go.WideShapes Go.ChangeAt Go.RowKit Num
attribute [local go_sem] run_store_float
end Go.Proofs.YtninicfnhoediaaGreatDoor
namespace Go.Proofs.YtninicfnhoediaaGreatDoor
open Go.ChangeShapes Go.WideShapes Go.ChangeAt Go.RowKit Num
attribute [local go_sem] run_store_float
end Go.Proofs.YtninicfnhoediaaGreatDoor
namespace Go.Proofs.YtninicfnhoediaaGreatDoor
open Go.ChangeShapes Go.WideShapes Go.ChangeAt Go.RowKit Num
attribute [local go_sem] run_store_float
end Go.Proofs.YtninicfnhoediaaGreatDoor
namespace Go.Proofs.YtninicfnhoediaaGreatDoor
open Go.ChangeShapes Go.WideShapes Go.ChangeAt Go.RowKit Num
attribute [local go_sem] run_store_float
end Go.Proofs.YtninicfnhoediaaGreatDoor
namespace Go.Proofs.YtninicfnhoediaaGreatDoor
open Go.ChangeShapes Go.WideShapes Go.ChangeAt Go.RowKit Num
attribute [local go_sem] run_store_float
end Go.Proofs.YtninicfnhoediaaGreatDoor
namespace Go.Proofs.YtninicfnhoediaaGreatDoor
open Go.ChangeShapes Go.WideShapes Go.ChangeAt Go.RowKit Num
attribute [local go_sem] run_store_float
end Go.Proofs.YtninicfnhoediaaGreatDoor
namespace Go.Proofs.YtninicfnhoediaaGreatDoor
open Go.ChangeShapes Go.WideShapes Go.ChangeAt Go.RowKit Num
attribute [local go_sem] run_store_float
end Go.Proofs.YtninicfnhoediaaGreatDoor
namespace Go.Proofs.YtninicfnhoediaaGreatDoor
open Go.ChangeShapes Go.WideShapes Go.ChangeAt Go.RowKit Num
attribute [local go_sem] run_store_float
end Go.Proofs.YtninicfnhoediaaGreatDoor
namespace Go.Proofs.YtninicfnhoediaaGreatDoor
open Go.ChangeShapes Go.WideShapes Go.ChangeAt Go.RowKit Num
attribute [local go_sem] run_store_float
end Go.Proofs.YtninicfnhoediaaGreatDoor
namespace Go.Proofs.YtninicfnhoediaaGreatDoor
open Go.ChangeShapes Go.WideShapes Go.ChangeAt Go.RowKit Num
attribute [local go_sem] run_store_float
end Go.Proofs.YtninicfnhoediaaGreatDoor
namespace Go.Proofs.YtninicfnhoediaaGreatDoor
open Go.ChangeShapes Go.WideShapes Go.ChangeAt Go.RowKit Num
attribute [local go_sem] run_store_float
end Go.Proofs.YtninicfnhoediaaGreatDoor
namespace Go.Proofs.YtninicfnhoediaaGreatDoor
open Go.ChangeShapes Go.WideShapes Go.ChangeAt Go.RowKit Num
attribute [local go_sem] run_store_float
end Go.Proofs.YtninicfnhoediaaGreatDoor
namespace Go.Proofs.YtninicfnhoediaaGreatDoor
open Go.ChangeShapes Go.WideShapes Go.ChangeAt Go.RowKit Num
attribute [local go_sem] run_store_float
end Go.Proofs.YtninicfnhoediaaGreatDoor
namespace Go.Proofs.YtninicfnhoediaaGreatDoor
open Go.ChangeShapes Go.WideShapes Go.ChangeAt Go.RowKit Num
end Go.Proofs.YtninicfnhoediaaGreatDoor
namespace Go.Proofs.YtninicfnhoediaaGreatDoor
open Go.ChangeShapes Go.WideShapes Go.ChangeAt Go.RowKit Num
attribute [local go_sem] run_store_float
/-- a list of touches, wherever it lies -/
def TlAt (w : World) (p : Option Addr) (l : Wr) : Prop := ∀ k, k < l.length → ∃ g o, p = some ⟨g, o, none⟩ ∧ g < w.heap.size ∧ w.cell? ⟨g, o + k * 2, none⟩ = some (.int .i64 (l.getD k (0, 0)).1) ∧ w.cell? ⟨g, o + k * 2 + 1, none⟩ = some (.float .f64 (l.getD k (0, 0)).2)
theorem Ro.fl {w : World} {p : Option Addr} {l : List Nat} (h : Ro w p (fls l)) : FlAt w p l := fun k hk => by
  obtain ⟨g, o, e, c, hg⟩ := h.get (j := k) (v := .float .f64 (l.getD k 0)) (by unfold fls; rw [List.getElem?_map, List.getD_eq_getElem?_getD, List.getElem?_eq_getElem hk]; rfl)
  exact ⟨g, o, e, hg, c⟩
theorem RowAt.fl {w : World} {p : Option Addr} {c : Nat} {l : List Nat} (h : RowAt 71 w p c (fls l)) : FlAt w p l := fun k hk => by
  obtain ⟨g, e, hg, c⟩ := row_at h rfl k hk
  exact ⟨g, 0, e, hg, by rw [Nat.zero_add]; exact c⟩
theorem TRow.tl {w : World} {p : Option Addr} {c : Nat} {l : Wr} (h : TRow w p c l) : TlAt w p l := fun k hk => by
  obtain ⟨g, e, hg, c0, c1⟩ := trow_at h rfl k hk
  exact ⟨g, 0, e, hg, by rw [Nat.zero_add]; exact c0, by rw [Nat.zero_add]; exact c1⟩
theorem TlAt.on {w w' : World} {p : Option Addr} {l : Wr} (h : TlAt w p l) (hb : Below w.heap.size w w') : TlAt w' p l := fun k hk => by
  obtain ⟨g, o, e, hlt, c0, c1⟩ := h k hk
  exact ⟨g, o, e, Nat.lt_of_lt_of_le hlt hb.size, (hb.cell (p := ⟨g, o + k * 2, none⟩) hlt).trans c0, (hb.cell (p := ⟨g, o + k * 2 + 1, none⟩) hlt).trans c1⟩
end Go.Proofs.YtninicfnhoediaaGreatDoor
namespace Go.Proofs.YtninicfnhoediaaGreatDoor
open Go.ChangeShapes Go.WideShapes Go.ChangeAt Go.RowKit Num
attribute [local go_sem] run_store_float
end Go.Proofs.YtninicfnhoediaaGreatDoor
namespace Go.Proofs.YtninicfnhoediaaGreatDoor
open Go.ChangeShapes Go.WideShapes Go.ChangeAt Go.RowKit Num
attribute [local go_sem] run_store_float
end Go.Proofs.YtninicfnhoediaaGreatDoor
namespace Go.Proofs.YtninicfnhoediaaGreatDoor
open Go.ChangeShapes Go.WideShapes Go.ChangeAt Go.RowKit Num
theorem RowAt.ro {E : TypeId} {w : World} {p : Option Addr} {c : Nat} {xs : List Value} (h : RowAt E w p c xs) : Ro w p xs := by
  rcases h.own.2 with ⟨q, hn⟩ | ⟨g, cap, cur, hv, _, hg, _, _, hsz, hx⟩
  · exact .inl ⟨(Value.slice.inj q).1, List.length_eq_zero_iff.1 hn⟩
  · refine .inr ⟨g, 0, (Value.slice.inj hv).1, fun j v hv => ?_⟩
    rw [← hx, List.getElem?_take] at hv
    split at hv
    · show w.cell? ⟨g, 0 + j, none⟩ = some v
      rw [Nat.zero_add, cell_of_row w g j _ _ _ hg]
      simpa using hv
    · cases hv
theorem loc_row {w : World} {b : Nat} (h : w.heap[b]? = some locO) : RowAt 71 w (some ⟨b, 0, none⟩) 8 (fls (eight fun _ => 0)) :=
  ⟨⟨rfl, .inr ⟨b, 8, _, rfl, Nat.zero_le _, h, Nat.le_refl _, by unfold maxLen; omega, rfl, rfl⟩⟩⟩
theorem fpK_blw {w : World} {q : Rp} {cs : List Ins} (h : CodeAt w q.pk cs) : Blw w (fpK q cs) := fun x hx => by
  unfold fpK at hx
  split at hx
  · cases hx
  · obtain ⟨a, ha, rfl⟩ := mem_fpR.1 hx
    obtain ⟨g, o, e, hlt, _⟩ := h 0 (List.length_pos_iff.2 (by assumption))
    rw [ha] at e
    cases e
    exact hlt
theorem RNew.ref {N w wr : World} {a b c e t : Int} {ao : Option Addr} {n cap : Nat} {l : List Nat} {br bl ca : Nat} {pa : Option Addr} {cs : List Ins} (h : RNew w wr (newM a c e t cs l) { rq0 b t ao n cap (!checkB t cs) bl with pa := pa, na := 8, ca := ca } br (eight (argF l))) (hN : Below N.heap.size N w) (hC : CodeAt N ao cs) (hn : cs.length = n) : RefAt wr br { rq0 b t ao n cap (!checkB t cs) bl with pa := pa, na := 8, ca := ca } (newM a c e t cs l) cs := by
  have hk : Blw N (fpK { rq0 b t ao n cap (!checkB t cs) bl with pa := pa, na := 8, ca := ca } cs) := fpK_blw hC
  have hs := hN.size
  exact {
    box := h.box
    loc := loc_row h.loc
    arg := h.row.ro
    st := Ro.nil _
    cal := Ro.nil _
    out := Ro.nil _
    rds := Ro.nil _
    buf := Ro.nil _
    cod := (hC.on hN).on h.bl
    na := rfl
    nk := hn.symm
    bad := by
      by_cases q : checkB t cs = true
      · exact .inl ⟨by simp [rq0, q], by simp [newM, q]⟩
      · exact .inr ⟨by simp [rq0, q], by simp [newM, q]⟩
    tag := rfl
    zc := fun _ => rfl
    ne := h.ne
    ap := fun p hp => by
      simp only [Rp.rows, rq0, List.mem_cons, List.not_mem_nil, or_false] at hp
      rcases hp with rfl | rfl | rfl | rfl | rfl | rfl
      · exact ⟨h.n1, h.n2⟩
      all_goals exact ⟨by simp [fpR], by simp [fpR]⟩
    apk := ⟨fun x => absurd (hk _ x) (Nat.not_lt.2 (Nat.le_trans hs h.a1)), fun x => absurd (hk _ x) (Nat.not_lt.2 (Nat.le_trans hs h.a2))⟩
    lt := fun x hx => by
      simp only [Fr, Rp.rows, rq0, List.flatMap_cons, List.flatMap_nil, List.mem_cons, List.mem_append] at hx
      rcases hx with rfl | rfl | hx
      · exact lt_of_block h.box
      · exact lt_of_block h.loc
      · exact h.row.blw x (by simpa [fpR] using hx)
    ltk := fun x hx => Nat.lt_of_lt_of_le (hk x hx) (Nat.le_trans hs h.bl.size)
    c1 := Nat.le_refl _
    c2 := Nat.le_refl _
    c3 := Nat.le_refl _
    c4 := Nat.le_refl _
    c5 := Nat.le_refl _
    nd := List.nodup_nil }
theorem RNew.abv {w wr : World} {b t : Int} {ao : Option Addr} {n cap : Nat} {l : List Nat} {br bl ca : Nat} {pa : Option Addr} {m : Mac} {bad : Bool} (h : RNew w wr m { rq0 b t ao n cap bad bl with pa := pa, na := 8, ca := ca } br l) : Abv w.heap.size (Fr br { rq0 b t ao n cap bad bl with pa := pa, na := 8, ca := ca }) := fun x hx => by
  simp only [Fr, Rp.rows, rq0, List.flatMap_cons, List.flatMap_nil, List.mem_cons, List.mem_append] at hx
  rcases hx with rfl | rfl | hx
  · exact h.a1
  · exact h.a2
  · exact h.a3 x (by simpa [fpR] using hx)
end Go.Proofs.YtninicfnhoediaaGreatDoor
namespace Go.Proofs.YtninicfnhoediaaGreatDoor
open Go.ChangeShapes Go.WideShapes Go.ChangeAt Go.RowKit Num
attribute [local go_sem] run_store_float
def insC (i : Ins) : List Value := [.int .i64 i.op, .int .i64 i.n, .float .f64 i.x]
theorem flat_at {α : Type} (f : α → List Value) (s : Nat) (hf : ∀ a, (f a).length = s) : ∀ (n : Nat) (l : List α) (m : α), l[n]? = some m → ∀ j, j < s → (l.flatMap f)[n * s + j]? = (f m)[j]?
  | 0, l, m, hm, j, hj => by
    cases l with
    | nil => simp at hm
    | cons a t =>
      simp at hm
      subst hm
      rw [List.flatMap_cons, Nat.zero_mul, Nat.zero_add, List.getElem?_append_left (by rw [hf]; exact hj)]
  | n + 1, l, m, hm, j, hj => by
    cases l with
    | nil => simp at hm
    | cons a t =>
      rw [List.flatMap_cons, List.getElem?_append_right (by rw [hf, Nat.add_mul]; omega)]
      have e : (n + 1) * s + j - (f a).length = n * s + j := by rw [hf, Nat.add_mul]; omega
      rw [e]
      exact flat_at f s hf n t m (by simpa using hm) j hj
theorem insC_len (c : List Ins) : (c.flatMap insC).length = c.length * 3 := by
  induction c with
  | nil => rfl
  | cons i c ih => rw [List.flatMap_cons, List.length_append, ih]; simp [insC]; omega
theorem insC_one (c : List Ins) : ∀ u ∈ c.flatMap insC, u.oneCell' = true := by
  intro u hu
  obtain ⟨i, _, h⟩ := List.mem_flatMap.1 hu
  simp [insC] at h
  rcases h with rfl | rfl | rfl <;> rfl
theorem codeAt_range {w : World} {g off : Nat} {c : List Ins} (hg : g < w.heap.size) (h : w.rangeAt g off (c.flatMap insC)) : CodeAt w (some ⟨g, off, none⟩) c := fun k hk => by
  have e : ∀ j, j < 3 → w.cell? ⟨g, off + (k * 3 + j), none⟩ = (insC (ci c k))[j]? := fun j hj => by
    have h2 := flat_at insC 3 (fun _ => rfl) k c (ci c k) (ci_lt hk) j hj
    cases hq : (insC (ci c k))[j]? with
    | none =>
      rw [List.getElem?_eq_none_iff] at hq
      simp [insC] at hq
      omega
    | some v => exact h _ _ (h2.trans hq)
  exact ⟨g, off, rfl, hg, e 0 (by decide), e 1 (by decide), e 2 (by decide)⟩
theorem range_codeAt {w : World} {b off : Nat} {c : List Ins} (h : CodeAt w (some ⟨b, off, none⟩) c) : w.rangeAt b off (c.flatMap insC) := fun j v hv => by
  have hj : j < c.length * 3 := by
    have := (List.getElem?_eq_some_iff.1 hv).1
    rwa [insC_len] at this
  have hk : j / 3 < c.length := by omega
  obtain ⟨b', off', e, _, c0, c1, c2⟩ := h (j / 3) hk
  cases e
  have hr : j % 3 < 3 := Nat.mod_lt _ (by decide)
  have e2 := flat_at insC 3 (fun _ => rfl) (j / 3) c (ci c (j / 3)) (ci_lt hk) (j % 3) hr
  rw [show j / 3 * 3 + j % 3 = j by omega, hv] at e2
  have h3 : j % 3 = 0 ∨ j % 3 = 1 ∨ j % 3 = 2 := by omega
  rcases h3 with q | q | q
  · rw [show off + j = off + j / 3 * 3 by omega, c0, e2, q]; rfl
  · rw [show off + j = off + j / 3 * 3 + 1 by omega, c1, e2, q]; rfl
  · rw [show off + j = off + j / 3 * 3 + 2 by omega, c2, e2, q]; rfl
theorem src_code {w : World} {ao : Option Addr} {c : List Ins} (cap : Nat) (h : CodeAt w ao c) : Src Tryz.prog 3 24 (.slice ao c.length cap) c.length (c.flatMap insC) w := by
  cases ao with
  | none =>
    cases c with
    | nil => exact Src.ofNil w Tryz.underlying24 cap
    | cons i c =>
      obtain ⟨b, off, e, _⟩ := h 0 (by simp)
      cases e
  | some a =>
    refine Src.ofSlice w Tryz.underlying24 a c.length cap _ (insC_len c) (fun j u hu => ?_) (insC_one c)
    cases c with
    | nil => simp at hu
    | cons i c =>
      obtain ⟨b, off, e, _⟩ := h 0 (by simp)
      cases e
      rw [Addr.add_mid]
      exact range_codeAt h j u hu
theorem fls_get {l : List Nat} {j : Nat} (hj : j < l.length) : (fls l)[j]? = some (.float .f64 (l.getD j 0)) := by
  unfold fls
  rw [List.getElem?_map, List.getElem?_eq_getElem hj, List.getD_eq_getElem?_getD, List.getElem?_eq_getElem hj]
  rfl
theorem src_fl {w : World} {po : Option Addr} {l : List Nat} (co : Nat) (h : FlAt w po l) : Src Tryz.prog 1 27 (.slice po l.length co) l.length (fls l) w := by
  cases po with
  | none =>
    cases l with
    | nil => exact Src.ofNil w Tryz.underlying27 co
    | cons i c =>
      obtain ⟨b, off, e, _⟩ := h 0 (by simp)
      cases e
  | some a =>
    refine Src.ofSlice w Tryz.underlying27 a l.length co _ (by rw [fls_len, Nat.mul_one]) (fun j u hu => ?_) (fls_one l)
    have hj : j < l.length := by
      have := (List.getElem?_eq_some_iff.1 hu).1
      rwa [fls_len] at this
    obtain ⟨b, off, e, _, c⟩ := h j hj
    cases e
    rw [Addr.add_mid, c, ← hu, fls_get hj]
end Go.Proofs.YtninicfnhoediaaGreatDoor
namespace Go.Proofs.YtninicfnhoediaaGreatDoor.Rr
open Go.ChangeShapes Go.WideShapes Go.ChangeAt Go.RowKit Num
attribute [local go_sem] run_store_float frombits_run bits_run
/-- the first k numbers fixed, the others 0 -/
def rowL (l : List Nat) (k n : Nat) : List Nat := (List.range n).map fun i => if i < k then fixB (l.getD i 0) else 0
theorem rowL_len (l : List Nat) (k n : Nat) : (rowL l k n).length = n := by simp [rowL]
theorem rowL_zero (l : List Nat) (n : Nat) : rowL l 0 n = List.replicate n 0 := by
  apply List.ext_getElem
  · simp [rowL]
  · intro i h1 h2
    simp [rowL]
theorem rowL_all {l : List Nat} {n : Nat} (h : l.length = n) : rowL l n n = l.map fixB := by
  apply List.ext_getElem
  · simp [rowL, h]
  · intro i h1 h2
    have hi : i < n := by simpa [rowL] using h1
    simp [rowL, hi, h]
theorem rowL_set (l : List Nat) (k n : Nat) : (rowL l k n).set k (fixB (l.getD k 0)) = rowL l (k + 1) n := by
  apply List.ext_getElem
  · simp [rowL]
  · intro i h1 h2
    rw [List.getElem_set]
    by_cases e : k = i
    · subst e
      simp [rowL]
    · rw [if_neg e]
      simp only [rowL, List.getElem_map, List.getElem_range]
      by_cases q : i < k
      · rw [if_pos q, if_pos (by omega)]
      · rw [if_neg q, if_neg (by omega)]
theorem fMk (n : Nat) (hn : n ≤ 256) (w : World) : (Instr.makeSlice 27 (.int .i64 (n : Int)) (.int .i64 (n : Int))).run Tryz.prog w = .ok (.slice (some ⟨w.heap.size, 0, none⟩) n n) (w.alloc (.cells (fls (List.replicate n 0)).toArray 71)) := by
  obtain ⟨i, hi, hz0, hz1, hz2⟩ := info_parts fInfo
  rw [run_make w 27 71 i (.float .f64 0) Tryz.underlying27 hi hz0 .i64 .i64 n n (by omega) (Int.le_refl _) (by rw [hz2]; omega) (by omega)]
  have e : (madeCells (.float .f64 0 : Value).cells (((n : Int)).toNat * i.size)) = (fls (List.replicate n 0)).toArray := by
    rw [hz1, Nat.mul_one, Int.toNat_natCast]
    apply Array.toList_inj.1
    rw [show (.float .f64 0 : Value).cells = #[.float .f64 0] from rfl, toList_madeCells_one]
    simp [fls]
  rw [e, Int.toNat_natCast]
theorem row_made {w : World} {l : List Nat} {n : Nat} (hl : l.length = n) (hn : n ≤ 256) : RowAt 71 (w.alloc (.cells (fls l).toArray 71)) (some ⟨w.heap.size, 0, none⟩) n (fls l) := ⟨by
  rw [fls_len, hl]
  exact World.ownsRow_lit w _ n (Nat.zero_le _) (by unfold maxLen; omega) (by rw [List.size_toArray, fls_len, hl, Nat.mul_one])⟩
set_option maxRecDepth 100000 in
set_option maxHeartbeats 1000000 in
theorem fixed_any {w : World} {po : Option Addr} {l : List Nat} {k co : Nat} (hk : l.length = k) (hL : FlAt w po l) (hk8 : k ≤ 8) : Calls Tryz.prog 113 #[.slice po k co] w fun e w' => e = .returned (.slice (some ⟨w.heap.size, 0, none⟩) k k) ∧ RowAt 71 w' (some ⟨w.heap.size, 0, none⟩) k (fls (l.map fixB)) ∧ Below w.heap.size w w' := by
  have hmk := fMk k (by omega) w
  have HL0 : Hid (∀ wr, Below w.heap.size w wr → FlAt wr po l) := fun wr h => hL.on h
  have HE : Hid (rowL l k k = l.map fixB) := rowL_all hk
  have HS0 : Hid (RowAt 71 (w.alloc (.cells (fls (List.replicate k 0)).toArray 71)) (some ⟨w.heap.size, 0, none⟩) k (fls (rowL l 0 k))) := by
    have := row_made (w := w) (rowL_len l 0 k) (by omega)
    rw [rowL_zero] at this ⊢
    exact this
  have HAT : Hid (∀ (v x y s : Int) (w : World), Calls Tryz.prog 29 #[.agg #[.int .u64 v, .int .u64 x, .int .u64 y], .int .u64 s] w fun e w' => e = .returned (.float .f64 (Md.Ce.atV v x y s)) ∧ Below w.heap.size w w') := Md.Ce.cat_any
  have HK : Hid (l.length = k) := hk
  clear hL hk
  go_enter Tryz.func113, Tryz.ntmps113
  go_wp2
  go_loopw [11] (fun vi wr => ∃ i : Nat, vi = .int .i64 i ∧ i ≤ k ∧ Hid (RowAt 71 wr (some ⟨w.heap.size, 0, none⟩) k (fls (rowL l i k))) ∧ Hid (Below w.heap.size w wr)) (fun vi _ => k - (intOf vi).toNat)
  case atStart => exact ⟨0, rfl, Nat.zero_le _, HS0.out, below_alloc w _⟩
  case round =>
    obtain ⟨i, rfl, hi, HR, HB⟩ := hrel
    by_cases hlt : i < k
    · have hlt' : (i : Int) < (k : Int) := by omega
      obtain ⟨g, o, rfl, hg, hx⟩ := HL0.out _ HB.out i (by rw [HK.out]; exact hlt)
      have hAt : Hid (∀ y : Nat, Md.Ce.atV 0 (y : Int) 0 0 = fixB y) := fun y => by unfold Md.Ce.atV; rw [if_neg (by omega)]; rfl
      have HS1 := Lib.hid (rowL_set l i k)
      generalize l.getD i 0 = y at hx HS1
      obtain ⟨r0, r1, r2⟩ := row_get HR.out (j := i) (v := .float .f64 ((rowL l i k).getD i 0)) (by rw [fls_get (by rw [rowL_len]; exact hlt)])
      have HD : Hid (∀ u, Below wr.heap.size wr u → u.cell? ⟨w.heap.size, i, none⟩ = some (.float .f64 ((rowL l i k).getD i 0)) ∧ u.frozen? ⟨w.heap.size, i, none⟩ = false ∧ w.heap.size < u.heap.size ∧ RowAt 71 (u.setCell ⟨w.heap.size, i, none⟩ (.float .f64 (fixB y))) (some ⟨w.heap.size, 0, none⟩) k (fls (rowL l (i + 1) k)) ∧ Below w.heap.size w (u.setCell ⟨w.heap.size, i, none⟩ (.float .f64 (fixB y)))) := fun u hu => by
        have h1 := HR.out.on hu
        obtain ⟨a1, a2, a3⟩ := row_get h1 (j := i) (v := .float .f64 ((rowL l i k).getD i 0)) (by rw [fls_get (by rw [rowL_len]; exact hlt)])
        have q := (row_put h1 i (.float .f64 (fixB y))).1
        rw [fls_set, HS1.out] at q
        exact ⟨a1, a2, a3, q, (HB.out.trans (hu.mono HB.out.size)).setCell (Nat.le_refl _) _⟩
      clear HL0 HS0
      go_wp2_with (go_at_call 29; refine (HAT.out _ _ _ _ _).mono ?_; rintro e u ⟨rfl, hb⟩; rw [hAt.out]; obtain ⟨a1, a2, a3, a4, a5⟩ := HD.out _ hb; have HZ := Lib.hid (And.intro a4 a5); clear a4 a5 hb)
      exact ⟨⟨i + 1, by first | rfl | (congr 1), by omega, HZ.out.1, HZ.out.2⟩, by simp [intOf]; omega⟩
    · have hlt' : ¬ (i : Int) < (k : Int) := by omega
      obtain rfl : i = k := by omega
      have HZ := Lib.hid HR.out
      rw [HE.out] at HZ
      go_wp2
      go_ret
      exact ⟨rfl, HZ.out, HB.out⟩
end Go.Proofs.YtninicfnhoediaaGreatDoor.Rr
namespace Go.Proofs.YtninicfnhoediaaGreatDoor.Rr
open Go.ChangeShapes Go.WideShapes Go.ChangeAt Go.RowKit Num
attribute [local go_sem] run_store_float
/-- a transaction as cells -/
abbrev trC (a b : Int) (bm : Option Addr) (st t : Int) (pa : Option Addr) (n ca : Nat) : Array Value := #[.int .i64 0, .int .i64 1, .int .i64 2, .int .i64 3, .int .i64 (3 + b), .int .i64 (3 + b + 3 * a), .pointer bm, .int .i64 st, .int .i64 t, .slice pa n ca]
abbrev trO (c : Array Value) : Obj := .cells c 102
abbrev trZ : Array Value := #[.int .i64 0, .int .i64 0, .int .i64 0, .int .i64 0, .int .i64 0, .int .i64 0, .pointer none, .int .i64 0, .int .i64 0, .slice none 0 0]
theorem tr_back {fn : Func} {p u : Tmp} (h : fn.results = #[.cell p 102, .tmp u]) {Q : Ending → World → Prop} {a : Act} {w : World} (g : Nat) {v0 v1 v2 v3 v4 v5 v6 v7 v8 v9 : Value} (may : Bool) (hp : a.tmps.getD p undef = .pointer (some ⟨g, 0, none⟩)) (hu : a.tmps.getD u undef = .bool may)
    (hg : w.heap[g]? = some (.cells #[v0, v1, v2, v3, v4, v5, v6, v7, v8, v9] 102 (0, 0))) (hd : a.defers = []) (hR : Q (.returned (.tuple #[.agg #[v0, v1, v2, v3, v4, v5, v6, v7, v8, v9], .bool may])) w) : bodyPost Tryz.prog fn Q .ret a w := by
  refine bodyPost_ret (v := .tuple #[.agg #[v0, v1, v2, v3, v4, v5, v6, v7, v8, v9], .bool may]) ?_ hd hR
  rw [results_cell_tmp h, hp, hu]
  have hl := run_loadVar_row (P := Tryz.prog) w g 102 102 #[v0, v1, v2, v3, v4, v5, v6, v7, v8, v9] (0, 0) _ hg Tryz.underlying102 rfl (by kernel_rfl)
  simp [asAddr, hl, Result.andThen]
abbrev begW (w : World) (a b c e t : Int) (ao : Option Addr) (n cap : Nat) : World := ((w.alloc (cfgO a b c e)).alloc (prgO t ao n cap)).alloc (trO trZ)
theorem heap_old {w : World} {o y : Obj} {k : Nat} (e : w.heap[k]? = some y) : (w.alloc o).heap[k]? = some y := (Below.heap_alloc _ _ _ (Array.getElem?_eq_some_iff.1 e).1).trans e
theorem begW_boxes {w u : World} {a b c e t : Int} {ao : Option Addr} {n cap : Nat} (h : Below (begW w a b c e t ao n cap).heap.size (begW w a b c e t ao n cap) u) :
    u.heap[w.heap.size]? = some (cfgO a b c e) ∧ u.heap[w.heap.size + 1]? = some (prgO t ao n cap) ∧ u.heap[w.heap.size + 1 + 1]? = some (trO trZ) ∧ Below w.heap.size w u := by
  have h0 : (begW w a b c e t ao n cap).heap[w.heap.size]? = some (cfgO a b c e) := heap_old (heap_old (heap_alloc_new _ _))
  have h1 : (begW w a b c e t ao n cap).heap[w.heap.size + 1]? = some (prgO t ao n cap) := heap_old (heap_new (by simp))
  have h2 : (begW w a b c e t ao n cap).heap[w.heap.size + 1 + 1]? = some (trO trZ) := heap_new (by simp)
  refine ⟨(h.block _ (lt_of_block h0)).trans h0, (h.block _ (lt_of_block h1)).trans h1, (h.block _ (lt_of_block h2)).trans h2, ?_⟩
  exact (((below_alloc w _).trans ((below_alloc _ _).mono (by simp))).trans ((below_alloc _ _).mono (by simp; omega))).trans (h.mono (by simp [begW]; omega))
theorem cells10 {w : World} {x : Nat} {v0 v1 v2 v3 v4 v5 v6 v7 v8 v9 : Value} {T : TypeId} (h : w.heap[x]? = some (.cells #[v0, v1, v2, v3, v4, v5, v6, v7, v8, v9] T (0, 0))) : (w.cell? ⟨x, 0, none⟩ = some v0 ∧ w.cell? ⟨x, 1, none⟩ = some v1 ∧ w.cell? ⟨x, 2, none⟩ = some v2 ∧ w.cell? ⟨x, 3, none⟩ = some v3 ∧ w.cell? ⟨x, 4, none⟩ = some v4 ∧ w.cell? ⟨x, 5, none⟩ = some v5 ∧ w.cell? ⟨x, 6, none⟩ = some v6 ∧ w.cell? ⟨x, 7, none⟩ = some v7 ∧ w.cell? ⟨x, 8, none⟩ = some v8 ∧ w.cell? ⟨x, 9, none⟩ = some v9 ∧ x < w.heap.size) ∧ ∀ j, w.frozen? ⟨x, j, none⟩ = false :=
  ⟨⟨(cell_of_row w x 0 _ _ _ h).trans rfl, (cell_of_row w x 1 _ _ _ h).trans rfl, (cell_of_row w x 2 _ _ _ h).trans rfl, (cell_of_row w x 3 _ _ _ h).trans rfl, (cell_of_row w x 4 _ _ _ h).trans rfl, (cell_of_row w x 5 _ _ _ h).trans rfl, (cell_of_row w x 6 _ _ _ h).trans rfl, (cell_of_row w x 7 _ _ _ h).trans rfl, (cell_of_row w x 8 _ _ _ h).trans rfl, (cell_of_row w x 9 _ _ _ h).trans rfl, lt_of_block h⟩, fun j => frozen_of_row w x j _ _ h⟩
theorem set10 {w : World} {x : Nat} {v0 v1 v2 v3 v4 v5 v6 v7 v8 v9 u0 u1 u2 u3 u4 u5 u6 u7 u8 u9 : Value} {T : TypeId} (h : w.heap[x]? = some (.cells #[v0, v1, v2, v3, v4, v5, v6, v7, v8, v9] T (0, 0))) : ((((((((((w.setCell ⟨x, 0, none⟩ u0).setCell ⟨x, 1, none⟩ u1).setCell ⟨x, 2, none⟩ u2).setCell ⟨x, 3, none⟩ u3).setCell ⟨x, 4, none⟩ u4).setCell ⟨x, 5, none⟩ u5).setCell ⟨x, 6, none⟩ u6).setCell ⟨x, 7, none⟩ u7).setCell ⟨x, 8, none⟩ u8).setCell ⟨x, 9, none⟩ u9).heap[x]? = some (.cells #[u0, u1, u2, u3, u4, u5, u6, u7, u8, u9] T (0, 0)) := by
  have h0 := (heap_setCell_same _ x 0 _ _ u0 h).trans (show _ = some (Obj.cells #[u0, v1, v2, v3, v4, v5, v6, v7, v8, v9] T (0, 0)) from rfl)
  have h1 := (heap_setCell_same _ x 1 _ _ u1 h0).trans (show _ = some (Obj.cells #[u0, u1, v2, v3, v4, v5, v6, v7, v8, v9] T (0, 0)) from rfl)
  have h2 := (heap_setCell_same _ x 2 _ _ u2 h1).trans (show _ = some (Obj.cells #[u0, u1, u2, v3, v4, v5, v6, v7, v8, v9] T (0, 0)) from rfl)
  have h3 := (heap_setCell_same _ x 3 _ _ u3 h2).trans (show _ = some (Obj.cells #[u0, u1, u2, u3, v4, v5, v6, v7, v8, v9] T (0, 0)) from rfl)
  have h4 := (heap_setCell_same _ x 4 _ _ u4 h3).trans (show _ = some (Obj.cells #[u0, u1, u2, u3, u4, v5, v6, v7, v8, v9] T (0, 0)) from rfl)
  have h5 := (heap_setCell_same _ x 5 _ _ u5 h4).trans (show _ = some (Obj.cells #[u0, u1, u2, u3, u4, u5, v6, v7, v8, v9] T (0, 0)) from rfl)
  have h6 := (heap_setCell_same _ x 6 _ _ u6 h5).trans (show _ = some (Obj.cells #[u0, u1, u2, u3, u4, u5, u6, v7, v8, v9] T (0, 0)) from rfl)
  have h7 := (heap_setCell_same _ x 7 _ _ u7 h6).trans (show _ = some (Obj.cells #[u0, u1, u2, u3, u4, u5, u6, u7, v8, v9] T (0, 0)) from rfl)
  have h8 := (heap_setCell_same _ x 8 _ _ u8 h7).trans (show _ = some (Obj.cells #[u0, u1, u2, u3, u4, u5, u6, u7, u8, v9] T (0, 0)) from rfl)
  have h9 := (heap_setCell_same _ x 9 _ _ u9 h8).trans (show _ = some (Obj.cells #[u0, u1, u2, u3, u4, u5, u6, u7, u8, u9] T (0, 0)) from rfl)
  exact h9
theorem oth10 {w : World} {x y : Nat} (u0 u1 u2 u3 u4 u5 u6 u7 u8 u9 : Value) (h : y ≠ x) : ((((((((((w.setCell ⟨x, 0, none⟩ u0).setCell ⟨x, 1, none⟩ u1).setCell ⟨x, 2, none⟩ u2).setCell ⟨x, 3, none⟩ u3).setCell ⟨x, 4, none⟩ u4).setCell ⟨x, 5, none⟩ u5).setCell ⟨x, 6, none⟩ u6).setCell ⟨x, 7, none⟩ u7).setCell ⟨x, 8, none⟩ u8).setCell ⟨x, 9, none⟩ u9).heap[y]? = w.heap[y]? := (heap_setCell_other _ _ _ _ h).trans ((heap_setCell_other _ _ _ _ h).trans ((heap_setCell_other _ _ _ _ h).trans ((heap_setCell_other _ _ _ _ h).trans ((heap_setCell_other _ _ _ _ h).trans ((heap_setCell_other _ _ _ _ h).trans ((heap_setCell_other _ _ _ _ h).trans ((heap_setCell_other _ _ _ _ h).trans ((heap_setCell_other _ _ _ _ h).trans (heap_setCell_other _ _ _ _ h)))))))))
theorem bel10 {B : Nat} {a w : World} {x : Nat} (u0 u1 u2 u3 u4 u5 u6 u7 u8 u9 : Value) (h : Below B a w) (hx : B ≤ x) : Below B a ((((((((((w.setCell ⟨x, 0, none⟩ u0).setCell ⟨x, 1, none⟩ u1).setCell ⟨x, 2, none⟩ u2).setCell ⟨x, 3, none⟩ u3).setCell ⟨x, 4, none⟩ u4).setCell ⟨x, 5, none⟩ u5).setCell ⟨x, 6, none⟩ u6).setCell ⟨x, 7, none⟩ u7).setCell ⟨x, 8, none⟩ u8).setCell ⟨x, 9, none⟩ u9) := (((((((((h.setCell hx _).setCell hx _).setCell hx _).setCell hx _).setCell hx _).setCell hx _).setCell hx _).setCell hx _).setCell hx _).setCell hx _
theorem cells6 {w : World} {x : Nat} {v0 v1 v2 v3 v4 v5 : Value} {T : TypeId} (h : w.heap[x]? = some (.cells #[v0, v1, v2, v3, v4, v5] T (0, 0))) : w.cell? ⟨x, 0, none⟩ = some v0 ∧ w.cell? ⟨x, 1, none⟩ = some v1 ∧ w.cell? ⟨x, 2, none⟩ = some v2 ∧ w.cell? ⟨x, 3, none⟩ = some v3 ∧ w.cell? ⟨x, 4, none⟩ = some v4 ∧ w.cell? ⟨x, 5, none⟩ = some v5 ∧ x < w.heap.size :=
  ⟨(cell_of_row w x 0 _ _ _ h).trans rfl, (cell_of_row w x 1 _ _ _ h).trans rfl, (cell_of_row w x 2 _ _ _ h).trans rfl, (cell_of_row w x 3 _ _ _ h).trans rfl, (cell_of_row w x 4 _ _ _ h).trans rfl, (cell_of_row w x 5 _ _ _ h).trans rfl, lt_of_block h⟩
theorem cells4 {w : World} {x : Nat} {v0 v1 v2 v3 : Value} {T : TypeId} (h : w.heap[x]? = some (.cells #[v0, v1, v2, v3] T (0, 0))) : w.cell? ⟨x, 0, none⟩ = some v0 ∧ w.cell? ⟨x, 1, none⟩ = some v1 ∧ w.cell? ⟨x, 2, none⟩ = some v2 ∧ w.cell? ⟨x, 3, none⟩ = some v3 ∧ x < w.heap.size :=
  ⟨(cell_of_row w x 0 _ _ _ h).trans rfl, (cell_of_row w x 1 _ _ _ h).trans rfl, (cell_of_row w x 2 _ _ _ h).trans rfl, (cell_of_row w x 3 _ _ _ h).trans rfl, lt_of_block h⟩
theorem cells2 {w : World} {x : Nat} {v0 v1 : Value} {T : TypeId} (h : w.heap[x]? = some (.cells #[v0, v1] T (0, 0))) : w.cell? ⟨x, 0, none⟩ = some v0 ∧ w.cell? ⟨x, 1, none⟩ = some v1 ∧ x < w.heap.size :=
  ⟨(cell_of_row w x 0 _ _ _ h).trans rfl, (cell_of_row w x 1 _ _ _ h).trans rfl, lt_of_block h⟩
section
variable {w : World} {a b c e t : Int} {ao : Option Addr} {cs : List Ins} {n cap : Nat} {po : Option Addr} {l : List Nat} {k co : Nat}
set_option maxRecDepth 100000 in
set_option maxHeartbeats 1000000 in
/-- begin, where nothing may be -/
theorem begin_no (h : (Md.cfgB a b c e && decide (k ≤ 8)) = false) : Calls Tryz.prog 75 #[cfgV a b c e, .agg #[.int .i64 t, .slice ao n cap], .slice po k co] w fun r w' => r = .returned (.tuple #[.agg trZ, .bool false]) ∧ Below w.heap.size w w' := by
  have HN : Hid (∀ u, Calls Tryz.prog 65 #[cfgV a b c e, .agg #[.int .i64 t, .slice ao n cap], .slice po k co] u fun r w' => r = .returned (.pointer none) ∧ Below u.heap.size u w') := fun u => mnew_nil h
  have HX : Hid (∀ u, Below (begW w a b c e t ao n cap).heap.size (begW w a b c e t ao n cap) u → u.heap[w.heap.size]? = some (cfgO a b c e) ∧ u.heap[w.heap.size + 1]? = some (prgO t ao n cap) ∧ u.heap[w.heap.size + 1 + 1]? = some (trO trZ) ∧ Below w.heap.size w u) := fun u hb => begW_boxes hb
  have HP := Lib.hid (fun u => Md.place_any a b c e u)
  cases hc : Md.cfgB a b c e
  · simp only [hc] at HP
    go_enter Tryz.func75, Tryz.ntmps75
    go_wp2_with (first
      | (go_at_call 65; refine (HN.out _).mono ?_; rintro e u2 ⟨rfl, q⟩; have H2 := Lib.hid (below_chain (H1.out.alloc H1.out.size _) q); obtain ⟨⟨s0, s1, s2, s3, s4, s5, s6, s7, s8, s9, s10⟩, f⟩ := cells10 (HX.out _ H2.out).2.2.1; have f0 := f 0; have f1 := f 1; have f2 := f 2; have f3 := f 3; have f4 := f 4; have f5 := f 5; have f6 := f 6; have f7 := f 7; have f8 := f 8; have f9 := f 9; clear q f)
      | (go_at_call 97; refine (HP.out _).mono ?_; rintro e u1 ⟨rfl, q⟩; have H1 := Lib.hid q; obtain ⟨b0, b1, b2, b3⟩ := HX.out _ q; obtain ⟨c0, c1, c2, c3, c4⟩ := cells4 b0; obtain ⟨d0, d1, d2⟩ := cells2 b1; clear b0 b1 b2 b3 q))
    exact tr_back rfl (w.heap.size + 1 + 1) false rfl rfl (set10 (HX.out _ H2.out).2.2.1) rfl ⟨rfl, bel10 _ _ _ _ _ _ _ _ _ _ (HX.out _ H2.out).2.2.2 (by omega)⟩
  · simp only [hc] at HP
    go_enter Tryz.func75, Tryz.ntmps75
    go_wp2_with (first
      | (go_at_call 65; refine (HN.out _).mono ?_; rintro e u2 ⟨rfl, q⟩; have H2 := Lib.hid (below_chain (H1.out.alloc H1.out.size _) q); obtain ⟨⟨s0, s1, s2, s3, s4, s5, s6, s7, s8, s9, s10⟩, f⟩ := cells10 (HX.out _ H2.out).2.2.1; have f0 := f 0; have f1 := f 1; have f2 := f 2; have f3 := f 3; have f4 := f 4; have f5 := f 5; have f6 := f 6; have f7 := f 7; have f8 := f 8; have f9 := f 9; clear q f)
      | (go_at_call 97; refine (HP.out _).mono ?_; rintro e u1 ⟨rfl, q⟩; have H1 := Lib.hid q; obtain ⟨b0, b1, b2, b3⟩ := HX.out _ q; obtain ⟨c0, c1, c2, c3, c4⟩ := cells4 b0; obtain ⟨d0, d1, d2⟩ := cells2 b1; clear b0 b1 b2 b3 q))
    exact tr_back rfl (w.heap.size + 1 + 1) false rfl rfl (set10 (HX.out _ H2.out).2.2.1) rfl ⟨rfl, bel10 _ _ _ _ _ _ _ _ _ _ (HX.out _ H2.out).2.2.2 (by omega)⟩
set_option maxRecDepth 100000 in
set_option maxHeartbeats 1000000 in
/-- begin, where it may -/
theorem begin_yes (hc : Md.cfgB a b c e = true) (hn : cs.length = n) (hk : l.length = k) (hk8 : k ≤ 8) (hT : Shaped5 w) (hC : CodeAt w ao cs) (hL : FlAt w po l) (hnl : n ≤ 9223372036854775807) : Calls Tryz.prog 75 #[cfgV a b c e, .agg #[.int .i64 t, .slice ao n cap], .slice po k co] w fun r w' => ∃ bm K pa, r = .returned (.tuple #[.agg (trC a b (some ⟨bm, 0, none⟩) 0 t (some ⟨pa, 0, none⟩) k k), .bool true]) ∧ ∃ F, Mc w' bm F K (newM a c e t cs l) ∧ Abv w.heap.size F ∧ Abv w.heap.size K ∧ pa ∉ F ∧ pa ∉ K ∧ w.heap.size ≤ pa ∧ RowAt 71 w' (some ⟨pa, 0, none⟩) k (fls (l.map fixB)) ∧ Below w.heap.size w w' := by
  have HN : Hid (∀ u, Below w.heap.size w u → Calls Tryz.prog 65 #[cfgV a b c e, .agg #[.int .i64 t, .slice ao n cap], .slice po k co] u fun r w' => ∃ bm K, r = .returned (.pointer (some ⟨bm, 0, none⟩)) ∧ Gm u [] bm K w' (newM a c e t cs l) ∧ Abv u.heap.size K) := fun u hb => mnew_any hn hk (hT.on hb) (hC.on hb) (hL.on hb) hnl hc hk8
  have HX : Hid (∀ u, Below (begW w a b c e t ao n cap).heap.size (begW w a b c e t ao n cap) u → u.heap[w.heap.size]? = some (cfgO a b c e) ∧ u.heap[w.heap.size + 1]? = some (prgO t ao n cap) ∧ u.heap[w.heap.size + 1 + 1]? = some (trO trZ) ∧ Below w.heap.size w u) := fun u hb => begW_boxes hb
  have HP := Lib.hid (fun u => Md.place_any a b c e u)
  simp only [hc] at HP
  have HFX : Hid (∀ u, Below w.heap.size w u → Calls Tryz.prog 113 #[.slice po k co] u fun e w' => e = .returned (.slice (some ⟨u.heap.size, 0, none⟩) k k) ∧ RowAt 71 w' (some ⟨u.heap.size, 0, none⟩) k (fls (l.map fixB)) ∧ Below u.heap.size u w') := fun u hb => fixed_any hk (hL.on hb) hk8
  clear hT hC hL hnl hn hk hc
  generalize newM a c e t cs l = m0 at *
  generalize h4 : 3 + b = p4 at *
  generalize h5 : p4 + 3 * a = p5 at *
  go_enter Tryz.func75, Tryz.ntmps75
  go_wp2_with (first
    | (go_at_call 65; refine (HN.out _ ((HX.out _ (H1.out.alloc H1.out.size _)).2.2.2)).mono ?_; rintro e u2 ⟨bm, K, rfl, q1, q2⟩; have G2 := Lib.hid (And.intro q1 q2); have H2 := Lib.hid (below_chain (H1.out.alloc H1.out.size _) q1.fresh); clear q1 q2)
    | (go_at_call 97; refine (HP.out _).mono ?_; rintro e u1 ⟨rfl, q⟩; have H1 := Lib.hid q; obtain ⟨b0, b1, b2, b3⟩ := HX.out _ q; obtain ⟨c0, c1, c2, c3, c4⟩ := cells4 b0; obtain ⟨d0, d1, d2⟩ := cells2 b1; clear b0 b1 b2 b3 q))
  have Hb0 : Hid (u2.heap[u1.heap.size]? = some (.cells #[.int .i64 0, .int .i64 1, .int .i64 2, .int .i64 3, .int .i64 p4, .int .i64 p5] 51)) := (G2.out.1.fresh.block _ (by simp)).trans (heap_alloc_new _ _)
  obtain ⟨m0', m1, m2, m3⟩ := HX.out _ H2.out
  have HB2 : Hid (Below w.heap.size w u2) := m3
  obtain ⟨d20, d21, d22⟩ := cells2 m1
  obtain ⟨e0, e1, e2, e3, e4, e5, e6⟩ := cells6 Hb0.out
  have HTZ : Hid (u2.heap[w.heap.size + 1 + 1]? = some (trO trZ)) := m2
  have HNE := Lib.hid (show u1.heap.size ≠ w.heap.size + 1 + 1 ∧ w.heap.size + 1 + 1 < u1.heap.size by have := H1.out.size; simp at this; omega)
  clear m0' m1 m2 m3
  refine wp_region_seq (fun u => (u.cell? ⟨u1.heap.size, 0, none⟩ = some (.int .i64 0) ∧ u.cell? ⟨u1.heap.size, 1, none⟩ = some (.int .i64 1) ∧ u.cell? ⟨u1.heap.size, 2, none⟩ = some (.int .i64 2) ∧ u.cell? ⟨u1.heap.size, 3, none⟩ = some (.int .i64 3) ∧ u.cell? ⟨u1.heap.size, 4, none⟩ = some (.int .i64 p4) ∧ u.cell? ⟨u1.heap.size, 5, none⟩ = some (.int .i64 p5)) ∧ u.cell? ⟨w.heap.size + 1, 0, none⟩ = some (.int .i64 t) )  ((0, true) :: (1, true) :: (2, true) :: (3, true) :: (4, true) :: (5, false) :: (6, true) :: (7, false) :: (8, true) :: [])  Md.Cv.follows13 (by kernel_rfl) (fun _ _ _ _ _ h => h)  ⟨⟨e0, e1, e2, e3, e4, e5⟩, d20⟩ ?_
  (repeat (first | (refine wpSeq_take (v := ?_) rfl (by rfl) (fun wq hSq => ?_) ?_; rotate_left; (focus ((try dsimp only at hSq); go_simp; try with_reducible rfl)); simp only [Act.put, List.setIfInBounds_toArray, List.set_cons_zero, List.set_cons_succ]) | (refine wpSeq_skip rfl (by rfl) ?_; simp only [Act.put, List.setIfInBounds_toArray, List.set_cons_zero, List.set_cons_succ])))
  (refine wpSeq_do rfl (by rfl) (fun KK hK => ?_); go_simp)
  refine (HFX.out _ (HB2.out.trans ((Same.drew u2).below _))).mono ?_
  rintro e u3 ⟨rfl, q1, q2⟩
  have HR := Lib.hid (And.intro q1 q2)
  have HB3 : Hid (Below w.heap.size w u3 ∧ Below u2.heap.size u2 u3) := ⟨(HB2.out.trans ((Same.drew u2).below _)).trans (q2.mono HB2.out.size), ((Same.drew u2).below _).trans q2⟩
  have HT3 : Hid (u3.heap[w.heap.size + 1 + 1]? = some (trO trZ)) := (HB3.out.2.block _ (lt_of_block HTZ.out)).trans HTZ.out
  obtain ⟨e30, e31, e32, e33, e34, e35, e36⟩ := cells6 ((HB3.out.2.block _ (lt_of_block Hb0.out)).trans Hb0.out)
  have d30 : u3.cell? ⟨w.heap.size + 1, 0, none⟩ = some (.int .i64 t) := (HB3.out.2.cell (p := ⟨w.heap.size + 1, 0, none⟩) d22).trans d20
  obtain ⟨⟨s0, s1, s2, s3, s4, s5, s6, s7, s8, s9, s10⟩, f⟩ := cells10 HT3.out
  have f0 := f 0; have f1 := f 1; have f2 := f 2; have f3 := f 3; have f4 := f 4; have f5 := f 5; have f6 := f 6; have f7 := f 7; have f8 := f 8; have f9 := f 9
  clear q1 q2 f
  refine hK.out _ _ ⟨⟨e30, e31, e32, e33, e34, e35⟩, d30⟩ ?_
  (clear hK KK; try simp only [Act.put, List.setIfInBounds_toArray, List.set_cons_zero, List.set_cons_succ])
  (repeat (first | (refine wpSeq_take (v := ?_) rfl (by rfl) (fun wq hSq => ?_) ?_; rotate_left; (focus ((try dsimp only at hSq); go_simp; try with_reducible rfl)); simp only [Act.put, List.setIfInBounds_toArray, List.set_cons_zero, List.set_cons_succ]) | (refine wpSeq_skip rfl (by rfl) ?_; simp only [Act.put, List.setIfInBounds_toArray, List.set_cons_zero, List.set_cons_succ])))
  (refine wpSeq_do rfl (by rfl) (fun KK hK => ?_); go_simp)
  have O : ∀ j y, y ≠ w.heap.size + 1 + 1 → _ := fun j y hy => Md.Cv.cell_kept (w := u3) (oth10 (.int .i64 0) (.int .i64 1) (.int .i64 2) (.int .i64 3) (.int .i64 p4) (.int .i64 p5) (.pointer (some ⟨bm, 0, none⟩)) (.int .i64 0) (.int .i64 t) (.slice (some ⟨u2.heap.size, 0, none⟩) k k) hy) j
  refine hK.out _ _ ⟨⟨(O 0 _ HNE.out.1).trans e30, (O 1 _ HNE.out.1).trans e31, (O 2 _ HNE.out.1).trans e32, (O 3 _ HNE.out.1).trans e33, (O 4 _ HNE.out.1).trans e34, (O 5 _ HNE.out.1).trans e35⟩, (O 0 _ (by omega)).trans d30⟩ ?_
  clear O
  (clear hK KK; try simp only [Act.put, List.setIfInBounds_toArray, List.set_cons_zero, List.set_cons_succ])
  (repeat (first | (refine wpSeq_take (v := ?_) rfl (by rfl) (fun wq hSq => ?_) ?_; rotate_left; (focus ((try dsimp only at hSq); go_simp; try with_reducible rfl)); simp only [Act.put, List.setIfInBounds_toArray, List.set_cons_zero, List.set_cons_succ]) | (refine wpSeq_skip rfl (by rfl) ?_; simp only [Act.put, List.setIfInBounds_toArray, List.set_cons_zero, List.set_cons_succ])))
  refine wpSeq_nil ?_
  go_wp2_with fail
  subst h4 h5
  refine tr_back rfl (w.heap.size + 1 + 1) true rfl rfl (set10 HT3.out) rfl ⟨bm, K, u2.heap.size, rfl, ?_⟩
  obtain ⟨F, hM, tF⟩ := G2.out.1.mc
  have lo : Abv (u1.alloc (.cells #[.int .i64 0, .int .i64 1, .int .i64 2, .int .i64 3, .int .i64 (3 + b), .int .i64 (3 + b + 3 * a)] 51)).heap.size F := fun i hi => (tF.own i hi).elim (fun q => by simp at q) id
  have lo2 := G2.out.2
  have sz : (u1.alloc (.cells #[.int .i64 0, .int .i64 1, .int .i64 2, .int .i64 3, .int .i64 (3 + b), .int .i64 (3 + b + 3 * a)] 51)).heap.size = u1.heap.size + 1 := by simp
  rw [sz] at lo lo2
  have hne := HNE.out.2
  have hs2 := tF.size
  rw [sz] at hs2
  have kk : ∀ L : List Nat, Blw u2 L → Abv (u1.heap.size + 1) L → Kept L u2 (((((((((((u3.setCell ⟨w.heap.size + 1 + 1, 0, none⟩ (.int .i64 0)).setCell ⟨w.heap.size + 1 + 1, 1, none⟩ (.int .i64 1)).setCell ⟨w.heap.size + 1 + 1, 2, none⟩ (.int .i64 2)).setCell ⟨w.heap.size + 1 + 1, 3, none⟩ (.int .i64 3)).setCell ⟨w.heap.size + 1 + 1, 4, none⟩ (.int .i64 (3 + b))).setCell ⟨w.heap.size + 1 + 1, 5, none⟩ (.int .i64 (3 + b + 3 * a))).setCell ⟨w.heap.size + 1 + 1, 6, none⟩ (.pointer (some ⟨bm, 0, none⟩))).setCell ⟨w.heap.size + 1 + 1, 7, none⟩ (.int .i64 0)).setCell ⟨w.heap.size + 1 + 1, 8, none⟩ (.int .i64 t)).setCell ⟨w.heap.size + 1 + 1, 9, none⟩ (.slice (some ⟨u2.heap.size, 0, none⟩) k k))) := fun L hb ha => ⟨by have := HB3.out.2.size; simpa using this, fun i hi => (oth10 _ _ _ _ _ _ _ _ _ _ (by have := ha i hi; omega)).trans (HB3.out.2.block i (hb i hi))⟩
  refine ⟨F, hM.keep (kk F hM.blw lo) (kk K hM.blwK lo2), fun i hi => by have := lo i hi; omega, fun i hi => by have := lo2 i hi; omega, fun q => absurd (hM.blw _ q) (Nat.lt_irrefl _), fun q => absurd (hM.blwK _ q) (Nat.lt_irrefl _), by omega, HR.out.1.keep ⟨by simp, fun i hi => oth10 _ _ _ _ _ _ _ _ _ _ ?_⟩, bel10 _ _ _ _ _ _ _ _ _ _ HB3.out.1 (by omega)⟩
  simp [fpR] at hi
  omega
end
end Go.Proofs.YtninicfnhoediaaGreatDoor.Rr
namespace Go.Proofs.YtninicfnhoediaaGreatDoor.Rr
open Go.ChangeShapes Go.WideShapes Go.ChangeAt Go.RowKit Num
attribute [local go_sem] run_store_float
/-- a reader at its beginning -/
def newX (a b c e t : Int) (cs : List Ins) (l : List Nat) (th : Int) : Rx := ⟨a, b, th, t, l.map fixB, newM a c e t cs l, 0, 1, 0, 0, 0, -1, 0, 0⟩
theorem new_in {a b c e t : Int} {cs : List Ins} {l : List Nat} {th : Int} (hc : Md.cfgB a b c e = true) (hx : ∀ k, k < cs.length → (ci cs k).x < 18446744073709551616) (hl : ∀ x ∈ l, x < 18446744073709551616) (hk : l.length ≤ 8) (ht : 0 ≤ th ∧ th < b) : InX (newX a b c e t cs l th) := by
  obtain ⟨h1, h2, h3, h4⟩ := Md.cfgB_iff.1 hc
  have z : u64B 0 := ⟨by decide, by decide⟩
  exact ⟨⟨h1, h2, rfl, ht, inv_new hc hx hl, by show (l.map fixB).length ≤ 8; simpa using hk, ⟨by show 1 ≤ 1; omega, by show 1 ≤ 4; omega⟩, fun _ => ⟨by show 0 ≤ 2; omega, rfl, rfl, fun _ => rfl, rfl, by show ¬ (0 : Int) ≤ -1; omega⟩, (fun q => by cases q), (fun q => by rcases q with q | q <;> cases q), z, z, z, z⟩, by show (0 : Int) ≤ 0; omega, fun _ => rfl, (fun q => by cases q), (fun q => by cases q), (fun q => by cases q)⟩
section
variable {w : World} {a b c e t th : Int} {ao : Option Addr} {cs : List Ins} {n cap : Nat} {po : Option Addr} {l : List Nat} {k co : Nat}
def mayX (a b c e : Int) (k : Nat) (th : Int) : Bool := Md.cfgB a b c e && decide (k ≤ 8) && decide (0 ≤ th ∧ th < b)
set_option maxRecDepth 100000 in
set_option maxHeartbeats 1000000 in
theorem new_nil (h : (Md.cfgB a b c e && decide (k ≤ 8)) = false) : Calls Tryz.prog 35 #[cfgV a b c e, .int .i64 th, .agg #[.int .i64 t, .slice ao n cap], .slice po k co] w fun r w' => r = .returned (.pointer none) ∧ Below w.heap.size w w' := by
  have HN : Hid (∀ u, Calls Tryz.prog 75 #[cfgV a b c e, .agg #[.int .i64 t, .slice ao n cap], .slice po k co] u fun r w' => r = .returned (.tuple #[.agg trZ, .bool false]) ∧ Below u.heap.size u w') := fun u => begin_no h
  clear h
  go_enter Tryz.func35, Tryz.ntmps35
  go_wp2_with (go_at_call 75; refine (HN.out _).mono ?_; rintro e u1 ⟨rfl, q⟩; have H1 := Lib.hid (below_chain (((below_alloc w _).trans ((below_alloc _ _).mono (by simp)))) q); clear q HN)
  go_ret
  exact ⟨rfl, H1.out.alloc H1.out.size _⟩
/-- begin's answer -/
def Begun (w w' : World) (bm pa : Nat) (K : List Nat) (k : Nat) (l : List Nat) (m : Mac) : Prop := ∃ F, Mc w' bm F K m ∧ Abv w.heap.size F ∧ Abv w.heap.size K ∧ pa ∉ F ∧ pa ∉ K ∧ w.heap.size ≤ pa ∧ RowAt 71 w' (some ⟨pa, 0, none⟩) k (fls (l.map fixB)) ∧ Below w.heap.size w w'
theorem Begun.on {w w' w2 : World} {bm pa : Nat} {K : List Nat} {k : Nat} {l : List Nat} {m : Mac} (h : Begun w w' bm pa K k l m) (q : Below w'.heap.size w' w2) : Begun w w2 bm pa K k l m := by
  obtain ⟨F, h1, h2, h3, h4, h5, h6, h7, h8⟩ := h
  exact ⟨F, h1.on q, h2, h3, h4, h5, h6, h7.on q, h8.trans (q.mono h8.size)⟩
theorem Begun.below {w w' : World} {bm pa : Nat} {K : List Nat} {k : Nat} {l : List Nat} {m : Mac} (h : Begun w w' bm pa K k l m) : Below w.heap.size w w' := by
  obtain ⟨F, _, _, _, _, _, _, _, h8⟩ := h
  exact h8
theorem Begun.from {w0 w w' : World} {bm pa : Nat} {K : List Nat} {k : Nat} {l : List Nat} {m : Mac} (h : Begun w w' bm pa K k l m) (q : Below w0.heap.size w0 w) : Begun w0 w' bm pa K k l m := by
  obtain ⟨F, h1, h2, h3, h4, h5, h6, h7, h8⟩ := h
  exact ⟨F, h1, h2.mono q.size, h3.mono q.size, h4, h5, Nat.le_trans q.size h6, h7, q.trans (h8.mono q.size)⟩
/-- a reader that is made: nothing of it was there before -/
structure Made (w w' : World) (bx : Nat) (x : Rx) : Prop where
  at_ : ∃ z F r, RawAt w' bx x z none F (comC x) r ∧ Abv w.heap.size (gX bx z none F) ∧ Abv w.heap.size z.KK
  bl : Below w.heap.size w w'
theorem made_of {w u1 u3 : World} {bm pa xc : Nat} {K : List Nat} (hk : l.length = k) (h : Begun w u1 bm pa K k l (newM a c e t cs l)) (hb : Below u1.heap.size u1 u3) (hx : u1.heap.size ≤ xc) (hc : Md.Cv.CmAt u3 xc ⟨2, 3, th, 0, 0, 0⟩) {v : World} (hv : Same (u3.alloc (.cells #[.int .i64 0, .int .i64 1, .int .i64 2, .int .i64 3, .int .i64 (3 + b), .int .i64 (3 + b + 3 * a), .pointer (some ⟨bm, 0, none⟩), .int .i64 0, .int .i64 t, .slice (some ⟨pa, 0, none⟩) k k, .int .i64 th, .int .i64 1, .pointer (some ⟨xc, 0, none⟩), .pointer none] 106)) v) : Made w v u3.heap.size (newX a b c e t cs l th) := by
  obtain ⟨F, h1, h2, h3, h4, h5, h6, h7, h8⟩ := h
  have ha : Below u3.heap.size u3 v := (below_alloc _ _).trans (hv.below _)
  have hb2 : Below u1.heap.size u1 v := hb.trans (ha.mono hb.size)
  have l1 : ∀ i ∈ F, i < u1.heap.size := h1.blw
  have l2 : ∀ i ∈ K, i < u1.heap.size := h1.blwK
  have l3 : pa < u1.heap.size := h7.blw pa (by simp [fpR])
  have hs := hb.size
  have hs8 := h8.size
  refine ⟨⟨⟨bm, K, xc, some ⟨pa, 0, none⟩, k⟩, F, ⟨0, 0, 0, 0, 0, 0, 0, 0, false⟩, ⟨?_, h1.on hb2, hc.on ha, (fun n hn => by cases hn), h7.on hb2, ?_, ?_, ?_⟩, ?_, ?_⟩, h8.trans (hb2.mono hs8)⟩
  · rw [hv.heap]
    refine (heap_alloc_new _ _).trans ?_
    unfold xboxV newX ptrV
    dsimp only
    rw [List.length_map, hk]
    rfl
  · intro i hi q
    have := l1 i q
    simp at hi
    omega
  · intro i hi q
    have q' : i ∈ K ∨ i = pa := by simpa [Rz.KK, fpR] using q
    have := fun z => l2 i z
    simp at hi
    rcases q' with q' | q'
    · have := l2 i q'; omega
    · omega
  · intro i hi q
    simp [fpR] at hi
    subst hi
    exact h4 q
  · intro i hi
    simp only [gX, List.mem_cons, Option.toList_none, List.nil_append] at hi
    rcases hi with hi | hi | hi
    · omega
    · have hi' : i = xc := hi
      omega
    · exact h2 i hi
  · intro i hi
    have q' : i ∈ K ∨ i = pa := by simpa [Rz.KK, fpR] using hi
    rcases q' with q' | q'
    · exact h3 i q'
    · omega
set_option maxRecDepth 100000 in
set_option maxHeartbeats 1000000 in
theorem new_out (hc : Md.cfgB a b c e = true) (hn : cs.length = n) (hk : l.length = k) (hk8 : k ≤ 8) (hT : Shaped5 w) (hC : CodeAt w ao cs) (hL : FlAt w po l) (hnl : n ≤ 9223372036854775807) (ht : ¬ (0 ≤ th ∧ th < b)) : Calls Tryz.prog 35 #[cfgV a b c e, .int .i64 th, .agg #[.int .i64 t, .slice ao n cap], .slice po k co] w fun r w' => r = .returned (.pointer none) ∧ Below w.heap.size w w' := by
  have HN : Hid (∀ u, Below w.heap.size w u → Calls Tryz.prog 75 #[cfgV a b c e, .agg #[.int .i64 t, .slice ao n cap], .slice po k co] u fun r w' => ∃ bm K pa, r = .returned (.tuple #[.agg (trC a b (some ⟨bm, 0, none⟩) 0 t (some ⟨pa, 0, none⟩) k k), .bool true]) ∧ Begun u w' bm pa K k l (newM a c e t cs l)) := fun u hb => begin_yes hc hn hk hk8 (hT.on hb) (hC.on hb) (hL.on hb) hnl
  have HW : Hid (Below w.heap.size w ((w.alloc (cfgO a b c e)).alloc (prgO t ao n cap))) := (below_alloc w _).trans ((below_alloc _ _).mono (by simp))
  clear hc hn hk hk8 hT hC hL hnl
  by_cases h0 : th < 0
  · go_enter Tryz.func35, Tryz.ntmps35
    go_wp2_with (go_at_call 75; refine (HN.out _ HW.out).mono ?_; rintro e u1 ⟨bm, K, pa, rfl, q⟩; have H1 := Lib.hid (q.from HW.out).below; clear q HN)
    go_ret
    exact ⟨rfl, H1.out.alloc H1.out.size _⟩
  · have h1 : b ≤ th := by omega
    go_enter Tryz.func35, Tryz.ntmps35
    go_wp2_with (go_at_call 75; refine (HN.out _ HW.out).mono ?_; rintro e u1 ⟨bm, K, pa, rfl, q⟩; have H1 := Lib.hid (q.from HW.out).below; have e1 : u1.cell? ⟨w.heap.size, 1, none⟩ = some (.int .i64 b) := (newW_boxes4 q.below).2.1; have l1 : w.heap.size < u1.heap.size := (newW_boxes4 q.below).2.2.2.2; clear q HN)
    go_ret
    exact ⟨rfl, H1.out.alloc H1.out.size _⟩
set_option maxRecDepth 100000 in
set_option maxHeartbeats 1000000 in
theorem new_yes (hc : Md.cfgB a b c e = true) (hn : cs.length = n) (hk : l.length = k) (hk8 : k ≤ 8) (hT : Shaped5 w) (hC : CodeAt w ao cs) (hL : FlAt w po l) (hnl : n ≤ 9223372036854775807) (h0 : 0 ≤ th) (h1 : th < b) : Calls Tryz.prog 35 #[cfgV a b c e, .int .i64 th, .agg #[.int .i64 t, .slice ao n cap], .slice po k co] w fun r w' => ∃ bx, r = .returned (.pointer (some ⟨bx, 0, none⟩)) ∧ Made w w' bx (newX a b c e t cs l th) := by
  have HN : Hid (∀ u, Below w.heap.size w u → Calls Tryz.prog 75 #[cfgV a b c e, .agg #[.int .i64 t, .slice ao n cap], .slice po k co] u fun r w' => ∃ bm K pa, r = .returned (.tuple #[.agg (trC a b (some ⟨bm, 0, none⟩) 0 t (some ⟨pa, 0, none⟩) k k), .bool true]) ∧ Begun u w' bm pa K k l (newM a c e t cs l)) := fun u hb => begin_yes hc hn hk hk8 (hT.on hb) (hC.on hb) (hL.on hb) hnl
  have HW : Hid (Below w.heap.size w ((w.alloc (cfgO a b c e)).alloc (prgO t ao n cap))) := (below_alloc w _).trans ((below_alloc _ _).mono (by simp))
  have HMD : Hid (∀ u1 u3 bm pa xc K v, Begun w u1 bm pa K k l (newM a c e t cs l) → Below u1.heap.size u1 u3 → u1.heap.size ≤ xc → Md.Cv.CmAt u3 xc ⟨2, 3, th, 0, 0, 0⟩ → Same (u3.alloc (.cells #[.int .i64 0, .int .i64 1, .int .i64 2, .int .i64 3, .int .i64 (3 + b), .int .i64 (3 + b + 3 * a), .pointer (some ⟨bm, 0, none⟩), .int .i64 0, .int .i64 t, .slice (some ⟨pa, 0, none⟩) k k, .int .i64 th, .int .i64 1, .pointer (some ⟨xc, 0, none⟩), .pointer none] 106)) v → Made w v u3.heap.size (newX a b c e t cs l th)) := fun u1 u3 bm pa xc K v q1 q2 q3 q4 q5 => made_of hk q1 q2 q3 q4 q5
  have HCO : Hid (∀ u, Calls Tryz.prog 76 #[.agg #[.int .i64 0, .int .i64 1, .int .i64 2, .int .i64 3, .int .i64 (3 + b), .int .i64 (3 + b + 3 * a)], .int .i64 th] u fun e w' => ∃ x, e = .returned (.pointer (some ⟨x, 0, none⟩)) ∧ u.heap.size ≤ x ∧ Md.Cv.CmAt w' x ⟨2, 3, th, 0, 0, 0⟩ ∧ Below u.heap.size u w') := fun u => Md.Cv.come_any 0 1 2 3 (3 + b) (3 + b + 3 * a) th u
  clear hc hn hk hk8 hT hC hL hnl
  generalize newX a b c e t cs l th = X at *
  generalize newM a c e t cs l = m0 at *
  have h4 : Hid (∃ p4, p4 = 3 + b) := ⟨_, rfl⟩
  obtain ⟨p5, h5⟩ : ∃ p5, 3 + b + 3 * a = p5 := ⟨_, rfl⟩
  obtain ⟨p4, h4⟩ : ∃ p4, 3 + b = p4 := ⟨_, rfl⟩
  rw [h5, h4] at HMD HCO
  unfold trC at HN
  rw [h5, h4] at HN
  clear h4 h5
  go_enter Tryz.func35, Tryz.ntmps35
  go_wp2_with (go_at_call 75; refine (HN.out _ HW.out).mono ?_; rintro e u1 ⟨bm, K, pa, rfl, q⟩; have H1 := Lib.hid (q.from HW.out); have e1 : u1.cell? ⟨w.heap.size, 1, none⟩ = some (.int .i64 b) := (newW_boxes4 q.below).2.1; have l1 : w.heap.size < u1.heap.size := (newW_boxes4 q.below).2.2.2.2; clear q HN)
  obtain ⟨u2, hu2⟩ : ∃ u2, u2 = u1.alloc (.cells #[.int .i64 0, .int .i64 1, .int .i64 2, .int .i64 3, .int .i64 p4, .int .i64 p5, .pointer (some ⟨bm, 0, none⟩), .int .i64 0, .int .i64 t, .slice (some ⟨pa, 0, none⟩) k k] 102) := ⟨_, rfl⟩
  rw [← hu2]
  have H2 := Lib.hid (H1.out.on (below_alloc u1 (.cells #[.int .i64 0, .int .i64 1, .int .i64 2, .int .i64 3, .int .i64 p4, .int .i64 p5, .pointer (some ⟨bm, 0, none⟩), .int .i64 0, .int .i64 t, .slice (some ⟨pa, 0, none⟩) k k] 102)))
  rw [← hu2] at H2
  obtain ⟨⟨s0, s1, s2, s3, s4, s5, s6, s7, s8, s9, s10⟩, _⟩ := cells10 (show u2.heap[u1.heap.size]? = _ by rw [hu2]; exact heap_alloc_new _ _)
  clear hu2
  refine wp_region_seq (fun u => u.cell? ⟨u1.heap.size, 0, none⟩ = some (.int .i64 0) ∧ u.cell? ⟨u1.heap.size, 1, none⟩ = some (.int .i64 1) ∧ u.cell? ⟨u1.heap.size, 2, none⟩ = some (.int .i64 2) ∧ u.cell? ⟨u1.heap.size, 3, none⟩ = some (.int .i64 3) ∧ u.cell? ⟨u1.heap.size, 4, none⟩ = some (.int .i64 p4) ∧ u.cell? ⟨u1.heap.size, 5, none⟩ = some (.int .i64 p5) ∧ u.cell? ⟨u1.heap.size, 6, none⟩ = some (.pointer (some ⟨bm, 0, none⟩)) ∧ u.cell? ⟨u1.heap.size, 7, none⟩ = some (.int .i64 0) ∧ u.cell? ⟨u1.heap.size, 8, none⟩ = some (.int .i64 t) ∧ u.cell? ⟨u1.heap.size, 9, none⟩ = some (.slice (some ⟨pa, 0, none⟩) k k) )  ((0, true) :: (1, true) :: (2, true) :: (3, true) :: (4, true) :: (5, false) :: (6, true) :: (7, false) :: (8, true) :: [])  Md.Cv.follows13 (by kernel_rfl) (fun _ _ _ _ _ h => h)  ⟨s0, s1, s2, s3, s4, s5, s6, s7, s8, s9⟩ ?_
  (repeat (first | (refine wpSeq_take (v := ?_) rfl (by rfl) (fun wq hSq => ?_) ?_; rotate_left; (focus ((try dsimp only at hSq); go_simp; try with_reducible rfl)); simp only [Act.put, List.setIfInBounds_toArray, List.set_cons_zero, List.set_cons_succ]) | (refine wpSeq_skip rfl (by rfl) ?_; simp only [Act.put, List.setIfInBounds_toArray, List.set_cons_zero, List.set_cons_succ])))
  (refine wpSeq_do rfl (by rfl) (fun KK hK => ?_); go_simp)
  refine (HCO.out _).mono ?_
  rintro e u3 ⟨xc, rfl, q1, q2, q3⟩
  have H3 : Hid (u2.heap.size ≤ xc ∧ Md.Cv.CmAt u3 xc ⟨2, 3, th, 0, 0, 0⟩ ∧ Below u2.heap.size u2 u3) := ⟨q1, q2, ((Same.drew u2).below _).trans q3⟩
  clear q1 q2 q3
  have ck : ∀ (j : Nat) (v : Value), u2.cell? ⟨u1.heap.size, j, none⟩ = some v → u3.cell? ⟨u1.heap.size, j, none⟩ = some v := fun j v hv => (H3.out.2.2.cell (p := ⟨u1.heap.size, j, none⟩) s10).trans hv
  refine hK.out _ _ ⟨ck 0 _ s0, ck 1 _ s1, ck 2 _ s2, ck 3 _ s3, ck 4 _ s4, ck 5 _ s5, ck 6 _ s6, ck 7 _ s7, ck 8 _ s8, ck 9 _ s9⟩ ?_
  (clear hK KK; try simp only [Act.put, List.setIfInBounds_toArray, List.set_cons_zero, List.set_cons_succ])
  (repeat (first | (refine wpSeq_take (v := ?_) rfl (by rfl) (fun wq hSq => ?_) ?_; rotate_left; (focus ((try dsimp only at hSq); go_simp; try with_reducible rfl)); simp only [Act.put, List.setIfInBounds_toArray, List.set_cons_zero, List.set_cons_succ]) | (refine wpSeq_skip rfl (by rfl) ?_; simp only [Act.put, List.setIfInBounds_toArray, List.set_cons_zero, List.set_cons_succ])))
  (refine wpSeq_do rfl (by rfl) (fun KK hK => ?_); go_simp)
  have l3 : u1.heap.size < u3.heap.size := Nat.lt_of_lt_of_le s10 H3.out.2.2.size
  have ck2 : ∀ (o : Obj) (j : Nat) (v : Value), u2.cell? ⟨u1.heap.size, j, none⟩ = some v → (u3.alloc o).cell? ⟨u1.heap.size, j, none⟩ = some v := fun o j v hv => (World.cell?_alloc_old _ _ _ (Nat.ne_of_lt l3)).trans (ck j v hv)
  refine hK.out _ _ ⟨ck2 _ 0 _ s0, ck2 _ 1 _ s1, ck2 _ 2 _ s2, ck2 _ 3 _ s3, ck2 _ 4 _ s4, ck2 _ 5 _ s5, ck2 _ 6 _ s6, ck2 _ 7 _ s7, ck2 _ 8 _ s8, ck2 _ 9 _ s9⟩ ?_
  clear ck ck2
  (clear hK KK; try simp only [Act.put, List.setIfInBounds_toArray, List.set_cons_zero, List.set_cons_succ])
  (repeat (first | (refine wpSeq_take (v := ?_) rfl (by rfl) (fun wq hSq => ?_) ?_; rotate_left; (focus ((try dsimp only at hSq); go_simp; try with_reducible rfl)); simp only [Act.put, List.setIfInBounds_toArray, List.set_cons_zero, List.set_cons_succ]) | (refine wpSeq_skip rfl (by rfl) ?_; simp only [Act.put, List.setIfInBounds_toArray, List.set_cons_zero, List.set_cons_succ])))
  refine wpSeq_nil ?_
  go_wp2_with fail
  go_ret
  exact ⟨_, rfl, HMD.out _ _ _ _ _ _ _ H2.out H3.out.2.2 H3.out.1 H3.out.2.1 (Same.refl _)⟩
end
end Go.Proofs.YtninicfnhoediaaGreatDoor.Rr
