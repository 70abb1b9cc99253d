import Derived.Test.YteinilmecnlanaaGreatDoorTie
import Derived.ProofKit
import Derived.LaidMore
import Derived.OpenShut
import Derived.Handed
import Derived.SizedLaws
import Derived.ChangeSame
import Derived.ChangeVars
import Derived.JoinedOf
import Derived.RowKitTokens
import Derived.LaidLaws
import Derived.LaidHandle
import Derived.MakeChecks
import Derived.Lib.LaidTab
import Derived.Stop.LaidErr
import Derived.Stop.Joined
import Derived.SevenTiedAt
import Derived.ChangeMaps5
import Derived.HandedShaped
import Derived.Deep.Slices
import Derived.Carry
import Derived.Test.YteinilmecnlanaaGreatDoorC5
import Derived.Test.YteinilmecnlanaaGreatDoorKJ
import Derived.Test.YteinilmecnlanaaGreatDoorM2
import Derived.Deep.QuietTactic
import Derived.BigQuiet
import Derived.Laws.CopyRow
import Derived.Deep.RegionWith
import Derived.Test.YteinilmecnlanaaGreatDoorWalkB
import Derived.Deep.WholeRow
import Derived.Deep.RegionHeld
import Derived.Test.YteinilmecnlanaaGreatDoorSq
import Derived.Test.YteinilmecnlanaaGreatDoorKS
import Derived.Test.YteinilmecnlanaaGreatDoorA3
import Derived.Test.YteinilmecnlanaaGreatDoorRF
import Derived.Test.YteinilmecnlanaaGreatDoorKU
import Derived.Laws.MakeOwn
import Derived.Deep.AppendSrc
import Derived.Deep.MidRow
import Derived.Deep.RegionLaw
import Derived.Deep.CutBlock
import Derived.Deep.DeepCutAuto
namespace Go.Proofs.YteinilmecnlanaaGreatDoor
open Go.ChangeShapes Go.WideShapes Go.ChangeAt Go.RowKit Go.Deep
open Go.ChangeMaps (open_string shut_string)
theorem ownK : ownKnob Tryz.prog.godebug = none := by kernel_rfl
abbrev laid8 : List (String × DataW Unit) := Rows.writerStepsRow.laid
section
variable {H : Type} {enc : TypeId × Value → H} {w : World} {base : Nat} {sp : Nat → Bool} {held : Bool}
theorem shps_of {fuel : Nat} {cs : List Value} {p : List MemPlace}
    (h : DataW.trod enc Tryz.prog w base sp held fuel 209 cs = some (.agg (shpT.map fun s => .agg [.lit (.string s.word), .lit (.int .i64 s.kind), .lit (.int .i64 s.lo), .lit (.int .i64 s.hi), .lit (.int .i64 s.takes), .lit (.int .i64 s.lays)]), p)) :
    ∀ i, i < 21 → cs[i * 6]? = some (strB (shp i).word) ∧ cs[i * 6 + 1]? = some (.int .i64 (shp i).kind) ∧ cs[i * 6 + 2]? = some (.int .i64 (shp i).lo) ∧ cs[i * 6 + 3]? = some (.int .i64 (shp i).hi) ∧ cs[i * 6 + 4]? = some (.int .i64 (shp i).takes) ∧ cs[i * 6 + 5]? = some (.int .i64 (shp i).lays) := by
  have hce : Tryz.prog.cellsOf 208 = 6 := by kernel_rfl
  have hct : Tryz.prog.cellsOf 209 = 126 := by kernel_rfl
  have hcs : Tryz.prog.cellsOf 9 = 1 := by kernel_rfl
  have hci : Tryz.prog.cellsOf 3 = 1 := by kernel_rfl
  cases fuel with
  | zero => simp [DataW.trod] at h
  | succ fuel =>
    simp only [DataW.trod, Tryz.underlying209, hce, hct] at h
    split at h
    · obtain ⟨xs, hm, hx⟩ := Option.map_eq_some_iff.1 h
      have hxs := congrArg Prod.fst hx
      intro i hi
      obtain ⟨b, hb, hf⟩ := Lib.mapM_at hm i i (by simp [hi])
      have h2 : (xs.map (·.1))[i]? = some b.1 := by simp [hb]
      have hxs' : xs.map (·.1) = shpT.map fun s => (DataW.agg [.lit (.string s.word), .lit (.int .i64 s.kind), .lit (.int .i64 s.lo), .lit (.int .i64 s.hi), .lit (.int .i64 s.takes), .lit (.int .i64 s.lays)] : DataW H) := by simpa using hxs
      rw [hxs'] at h2
      have hi' : i < shpT.length := hi
      have hsi : shpT[i]? = some (shp i) := by
        unfold shp
        rw [List.getD_eq_getElem?_getD, List.getElem?_eq_getElem hi']
        rfl
      rw [List.getElem?_map, hsi] at h2
      simp only [Option.map_some, Option.some.injEq] at h2
      obtain ⟨ys, n, _, hy, _, hyl, hg⟩ := DataW.trod_struct Tryz.underlying208 hf
      match ys, hyl with
      | [y0, y1, y2, y3, y4, y5], _ =>
        have g0 := hg 0 _ rfl
        have g1 := hg 1 _ rfl
        have g2 := hg 2 _ rfl
        have g3 := hg 3 _ rfl
        have g4 := hg 4 _ rfl
        have g5 := hg 5 _ rfl
        change DataW.trod enc Tryz.prog w base sp held n 9 ((((cs.drop (i * 6)).take 6).drop 0).take (Tryz.prog.cellsOf 9)) = _ at g0
        rw [hcs] at g0
        change DataW.trod enc Tryz.prog w base sp held n 3 ((((cs.drop (i * 6)).take 6).drop 1).take (Tryz.prog.cellsOf 3)) = _ at g1
        rw [hci] at g1
        change DataW.trod enc Tryz.prog w base sp held n 3 ((((cs.drop (i * 6)).take 6).drop 2).take (Tryz.prog.cellsOf 3)) = _ at g2
        rw [hci] at g2
        change DataW.trod enc Tryz.prog w base sp held n 3 ((((cs.drop (i * 6)).take 6).drop 3).take (Tryz.prog.cellsOf 3)) = _ at g3
        rw [hci] at g3
        change DataW.trod enc Tryz.prog w base sp held n 3 ((((cs.drop (i * 6)).take 6).drop 4).take (Tryz.prog.cellsOf 3)) = _ at g4
        rw [hci] at g4
        change DataW.trod enc Tryz.prog w base sp held n 3 ((((cs.drop (i * 6)).take 6).drop 5).take (Tryz.prog.cellsOf 3)) = _ at g5
        rw [hci] at g5
        obtain ⟨s0, a0, b0, _⟩ := DataW.trod_string Tryz.underlying9 g0
        obtain ⟨s1, a1, b1, _⟩ := DataW.trod_int Tryz.underlying3 g1
        obtain ⟨s2, a2, b2, _⟩ := DataW.trod_int Tryz.underlying3 g2
        obtain ⟨s3, a3, b3, _⟩ := DataW.trod_int Tryz.underlying3 g3
        obtain ⟨s4, a4, b4, _⟩ := DataW.trod_int Tryz.underlying3 g4
        obtain ⟨s5, a5, b5, _⟩ := DataW.trod_int Tryz.underlying3 g5
        subst b0 b1 b2 b3 b4 b5
        rw [hy] at h2
        simp only [List.map_cons, List.map_nil, DataW.agg.injEq, List.cons.injEq, DataW.lit.injEq, Lit.string.injEq, Lit.int.injEq, true_and, and_true] at h2
        obtain ⟨e0, e1, e2, e3, e4, e5⟩ := h2
        have get : ∀ (o : Nat) (v : Value), (((cs.drop (i * 6)).take 6).drop o).take 1 = [v] → o < 6 → cs[i * 6 + o]? = some v := fun o v hv ho => by
          have := congrArg (·[0]?) hv
          simpa [List.getElem?_take, List.getElem?_drop, ho] using this
        refine ⟨?_, ?_, ?_, ?_, ?_, ?_⟩
        · have := get 0 _ a0 (by decide)
          rw [Nat.add_zero] at this
          rw [this, e0]
          rfl
        · rw [get 1 _ a1 (by decide), e1]
        · rw [get 2 _ a2 (by decide), e2]
        · rw [get 3 _ a3 (by decide), e3]
        · rw [get 4 _ a4 (by decide), e4]
        · rw [get 5 _ a5 (by decide), e5]
    · cases h
end
theorem shp_data : Rows.laid_beadle_code_shapes (H := Unit) = .agg (shpT.map fun s => .agg [.lit (.string s.word), .lit (.int .i64 s.kind), .lit (.int .i64 s.lo), .lit (.int .i64 s.hi), .lit (.int .i64 s.takes), .lit (.int .i64 s.lays)]) := by kernel_rfl
theorem of_laid8 {W : World} (h : laidMetH Tryz.prog laid8 W) : Shaped5 W := by
  rw [MakeChecks.laidMetH_plain _ _ _ (by kernel_rfl)] at h
  have hshp : laidMet Tryz.prog laid8 W := h
  unfold laid8 at hshp
  rw [show Rows.writerStepsRow.laid = [((Rows.writerStepsRow.laid.map (·.1)).getD 0 default, Rows.laid_beadle_code_shapes)] from rfl, shp_data] at hshp
  refine ⟨?_⟩
  · obtain ⟨ps, ⟨g', t', cs, fuel, p, q, hg', ht', hvar, hd, _, _⟩, _⟩ := hshp
    obtain rfl : t' = 209 := (Option.some.inj ((show (Tryz.prog.globals[g']?).map (·.type) = some 209 by rw [← Option.some.inj ((show Tryz.prog.globalNamed ((Rows.writerStepsRow.laid.map (·.1)).getD 0 default) = some 1 by kernel_rfl).symm.trans hg')]; kernel_rfl).symm.trans ht')).symm
    intro k hk
    obtain ⟨a0, a1, a2, a3, a4, a5⟩ := shps_of hd k hk
    have cell := fun i => World.var?_cell (show Tryz.prog.globalNamed ((Rows.writerStepsRow.laid.map (·.1)).getD 0 default) = some 1 by kernel_rfl) hvar i
    exact ⟨by rw [cell]; simpa using a0, by rw [cell]; simpa using a1, by rw [cell]; simpa using a2, by rw [cell]; simpa using a3, by rw [cell]; simpa using a4, by rw [cell]; simpa using a5⟩
theorem door_met (os : Os) (args : Array Value) : laidMetH Tryz.prog laid8 ((World.doorLaid Tryz.prog 400 os).forCall (fun _ _ => 0) ⟨#[], args, []⟩).memory :=
  laidMetH_of_parts3 (fuel := 8) (laidMet_of_run' 8 (by kernel_rfl) (by kernel_rfl)) (by kernel_rfl) (by kernel_rfl)
theorem laidOut : laidOutB Tryz.prog = true := by kernel_rfl
section
variable {H : Type} {enc : TypeId × Value → H}
/-- the wrap with a condition of one's own beside the shape of the world -/
theorem wrap5 {a : Assume} {C : Checked} {os : Os} {f : FuncId} {fn : Func} {s : ChangeSpec} {conds : List PathCond} {apart fresh handsOn again : Bool} {X : World → Array Value → Prop}
    (hX : ∀ (w w' : World) (args : Array Value), w.heap = w'.heap → X w args → X w' args)
    (own : ownKnob C.prog.godebug = none) (started : os.Started) (noInit : C.prog.inits.idxOf? f = none) (hfn : C.prog.funcs[f]? = some fn)
    (witness : ∃ (w : World) (tape : Tape) (i : Input), w.os = os ∧ (w.forCall tape i).Shaped C.prog ∧ i.vars = [] ∧ Input.okWide C.prog (w.forCall tape i) .any w.heap.size f i ∧
      ((s.pre enc C.prog fn conds apart (w.forCall tape i).memory i.args ∧ X (w.forCall tape i).memory i.args) ∧ sizedMet enc C.prog fn (OpenSpec.ofChange s) apart (w.forCall tape i).memory i.args) ∧ a.holds C.prog (lone (Frame.enter C.prog f i.args .normal) [] (w.forCall tape i)))
    (contract : ∀ (W : World) (base : Nat) (args : Array Value) (ds gs : List (DataW H)) (before : List MemPlace),
      (∀ (j : Nat) t v, fn.params[j]? = some t → args[j]? = some v → Value.okWide C.prog W .any base t v) →
      DataW.Whole enc C.prog fn.params.toList s.vars apart W args.toList ds gs before →
      (DataW.weightsEach C.prog (fn.params.toList ++ s.plain.varTypes C.prog) (ds ++ gs)).all (· ≤ reachBytes) = true → X W args → W.ShapedOpen C.prog →
      Calls C.prog f args W fun e W' => ∃ v, e = .returned v ∧ s.post enc C.prog fn apart fresh handsOn again W args v W') :
    ReturnsInHanded a C os f .any (fun w args => (s.pre enc C.prog fn conds apart w args ∧ X w args) ∧ sizedMet enc C.prog fn (OpenSpec.ofChange s) apart w args) (s.post enc C.prog fn apart fresh handsOn again) := by
  refine returnsInHanded_of_calls own started noInit witness fun w tape i _ hsh _ hok hpre _ => ?_
  obtain ⟨_, _, _, fn', hfn', _, _, _, _, hval⟩ := hok
  obtain rfl : fn' = fn := Option.some.inj (hfn'.symm.trans hfn)
  obtain ⟨⟨⟨ds, gs, before, hw, _⟩, hx⟩, hz⟩ := hpre
  exact (contract (w.forCall tape i) w.heap.size i.args ds gs before hval (DataW.Whole.of_heap (w' := w.forCall tape i) (by rfl) hw) (hz.weights hw) (hX _ _ _ (by rfl) hx) hsh).mono fun e W' ⟨v, he, hp⟩ => by
    subst he
    exact ChangeSpec.post_blind hp
theorem wf_f64 {b : Nat} (h : (Lit.float .f64 b).wf = true) : b < 18446744073709551616 := by simpa [Lit.wf] using h
theorem trod_f64w {P : Program} {t : TypeId} {w : World} {base : Nat} {sp : Nat → Bool} {held : Bool} {fuel : Nat} {cs : List Value} {x : DataW H × List MemPlace} (ht : P.underlying t = some (.float .f64)) (h : DataW.trod enc P w base sp held fuel t cs = some x) : ∃ b : Nat, cs = [.float .f64 b] ∧ (Lit.float .f64 b).wf = true := by
  cases fuel with
  | zero => simp [DataW.trod] at h
  | succ n =>
    unfold DataW.trod at h
    rw [ht] at h
    split at h <;> simp_all
theorem trod_f64 {w : World} {base : Nat} {sp : Nat → Bool} {held : Bool} {fuel : Nat} {cs : List Value} {x : DataW H × List MemPlace} (h : DataW.trod enc Tryz.prog w base sp held fuel 73 cs = some x) : ∃ b : Nat, cs = [.float .f64 b] ∧ b < 18446744073709551616 := by
  obtain ⟨b, h1, h2⟩ := trod_f64w Tryz.underlying73 h
  exact ⟨b, h1, wf_f64 h2⟩
theorem cellsF : Tryz.prog.cellsOf 73 = 1 := by kernel_rfl
theorem bytesF : Tryz.prog.bytesOf 73 = 8 := by kernel_rfl
end
end Go.Proofs.YteinilmecnlanaaGreatDoor
namespace Go.Proofs.YteinilmecnlanaaGreatDoor.Md
open Go.ChangeShapes Go.WideShapes Go.ChangeAt Go.RowKit
set_option maxRecDepth 100000 in
set_option maxHeartbeats 1000000 in
theorem loadAct_any (w : World) (pm pa pt b g k n : Nat) (x : Int) (u : Value) (h0 : w.cell? ⟨pm, 0, none⟩ = some (.pointer (some ⟨b, 0, none⟩))) (h1 : w.cell? ⟨pa, 0, none⟩ = some (.int .i64 k)) (h2 : w.cell? ⟨b, 0, none⟩ = some (.slice (some ⟨g, 0, none⟩) n n)) (h3 : w.cell? ⟨g, k, none⟩ = some (.int .u64 x)) (hk : (k : Int) < (n : Int)) (h4 : w.cell? ⟨pt, 0, none⟩ = some u) (h5 : w.frozen? ⟨pt, 0, none⟩ = false) :
    Calls Tryz.prog 52 #[.pointer (some ⟨pm, 0, none⟩), .pointer (some ⟨pa, 0, none⟩), .pointer (some ⟨pt, 0, none⟩)] w fun e w' => e = .returned (.tuple #[]) ∧ w' = (w.setCell ⟨pt, 0, none⟩ (.int .u64 x)).drew := by
  go_enter Tryz.func52, Tryz.ntmps52
  go_wp2
  go_region
  all_goals (try go_wp2)
  all_goals go_end0
  all_goals exact ⟨rfl, rfl⟩
set_option maxRecDepth 100000 in
set_option maxHeartbeats 1000000 in
theorem storeAct_any (w : World) (pm pa pv b g k n : Nat) (x v : Int) (h0 : w.cell? ⟨pm, 0, none⟩ = some (.pointer (some ⟨b, 0, none⟩))) (h1 : w.cell? ⟨pa, 0, none⟩ = some (.int .i64 k)) (h2 : w.cell? ⟨b, 0, none⟩ = some (.slice (some ⟨g, 0, none⟩) n n)) (h3 : w.cell? ⟨g, k, none⟩ = some (.int .u64 x)) (hk : (k : Int) < (n : Int)) (h4 : w.cell? ⟨pv, 0, none⟩ = some (.int .u64 v)) (h5 : w.frozen? ⟨g, k, none⟩ = false) :
    Calls Tryz.prog 234 #[.pointer (some ⟨pv, 0, none⟩), .pointer (some ⟨pm, 0, none⟩), .pointer (some ⟨pa, 0, none⟩)] w fun e w' => e = .returned (.tuple #[]) ∧ w' = (w.setCell ⟨g, k, none⟩ (.int .u64 v)).drew := by
  go_enter Tryz.func234, Tryz.ntmps234
  go_wp2
  go_region
  all_goals (try go_wp2)
  all_goals go_end0
  all_goals exact ⟨rfl, rfl⟩
set_option maxRecDepth 100000 in
set_option maxHeartbeats 1000000 in
theorem addAct_any (w : World) (pm pa pt pn b g k n : Nat) (x v : Int) (u : Value) (h0 : w.cell? ⟨pm, 0, none⟩ = some (.pointer (some ⟨b, 0, none⟩))) (h1 : w.cell? ⟨pa, 0, none⟩ = some (.int .i64 k)) (h2 : w.cell? ⟨b, 0, none⟩ = some (.slice (some ⟨g, 0, none⟩) n n)) (h3 : w.cell? ⟨g, k, none⟩ = some (.int .u64 x)) (hk : (k : Int) < (n : Int)) (h4 : w.cell? ⟨pt, 0, none⟩ = some u) (h5 : w.frozen? ⟨pt, 0, none⟩ = false)
    (h6 : w.cell? ⟨pn, 0, none⟩ = some (.int .u64 v)) (h7 : w.frozen? ⟨g, k, none⟩ = false) (e1 : pm ≠ pt) (e2 : pa ≠ pt) (e3 : b ≠ pt) (e4 : g ≠ pt) (e5 : pn ≠ pt) :
    Calls Tryz.prog 138 #[.pointer (some ⟨pm, 0, none⟩), .pointer (some ⟨pa, 0, none⟩), .pointer (some ⟨pt, 0, none⟩), .pointer (some ⟨pn, 0, none⟩)] w fun e w' => e = .returned (.tuple #[]) ∧ w' = (((w.setCell ⟨pt, 0, none⟩ (.int .u64 x)).setCell ⟨g, k, none⟩ (.int .u64 (addV x v))).drew).drew := by
  unfold addV
  go_enter Tryz.func138, Tryz.ntmps138
  go_wp2
  go_region
  all_goals (try go_wp2)
  all_goals (try go_region)
  all_goals (try go_wp2)
  all_goals go_end0
  all_goals exact ⟨rfl, rfl⟩
end Go.Proofs.YteinilmecnlanaaGreatDoor.Md
namespace Go.Proofs.YteinilmecnlanaaGreatDoor.Md
open Go.ChangeShapes Go.WideShapes Go.ChangeAt Go.RowKit
section
variable {w : World} {b g : Nat} {ws : List Int} {o : Bool} {c : Int}
theorem access_none (h : MemAt 116 w b g ws o c) (i : Int) (hi : hasB ws i = false) (f : Fn) (first cap : Array Value) : Calls Tryz.prog 51 #[.pointer (some ⟨b, 0, none⟩), .int .i64 i, .func f first cap] w fun e w' => e = .returned (.int .i64 30) ∧ w' = w := by
  have HM : Hid (MemAt 116 w b g ws o c) := h
  clear h
  go_enter Tryz.func51, Tryz.ntmps51
  go_wp2_with (go_at_call 53; refine (has_any HM.out _).mono ?_; rw [hi]; rintro e w' ⟨rfl, hw⟩; subst w')
  go_ret
  exact ⟨rfl, rfl⟩
theorem access_spent (h : MemAt 116 w b g ws false c) (i : Int) (hi : hasB ws i = true) (f : Fn) (first cap : Array Value) : Calls Tryz.prog 51 #[.pointer (some ⟨b, 0, none⟩), .int .i64 i, .func f first cap] w fun e w' => e = .returned (.int .i64 31) ∧ w' = w := by
  have HM : Hid (MemAt 116 w b g ws false c) := h
  have h1 := h.cell1
  have hb := h.ltB
  clear h
  go_enter Tryz.func51, Tryz.ntmps51
  go_wp2_with (go_at_call 53; refine (has_any HM.out _).mono ?_; rw [hi]; rintro e w' ⟨rfl, hw⟩; subst w')
  go_ret
  exact ⟨rfl, rfl⟩
theorem access_let (h : MemAt 116 w b g ws true c) (i : Int) (hi : hasB ws i = true) (f : FuncId) (cap : Array Value) (Q : World → Prop) (hcall : ∀ (args : Array Value) (w : World), (callFunc f args).run Tryz.prog w = .ok (.enter f args) w)
    (hf : Calls Tryz.prog f cap ((w.setCell ⟨b, 1, none⟩ (.bool false)).setCell ⟨b, 2, none⟩ (.int .i64 (up c))) fun e w' => e = .returned (.tuple #[]) ∧ Q w') : Calls Tryz.prog 51 #[.pointer (some ⟨b, 0, none⟩), .int .i64 i, .func (.func f) #[] cap] w fun e w' => e = .returned (.int .i64 0) ∧ Q w' := by
  have HM : Hid (MemAt 116 w b g ws true c) := h
  have h1 := h.cell1
  have h2 := h.cell2
  have hb := h.ltB
  have hf1 := h.freeB 1
  have hf2 := h.freeB 2
  have HF := Lib.hid hf
  clear h hf
  unfold up at HF
  go_enter Tryz.func51, Tryz.ntmps51
  go_wp2_with (first | (go_at_call 53; refine (has_any HM.out _).mono ?_; rw [hi]; rintro e w' ⟨rfl, hw⟩; subst w') | (refine HF.out.mono ?_; rintro e w' ⟨rfl, hq⟩))
  go_ret
  exact ⟨rfl, hq⟩
end
end Go.Proofs.YteinilmecnlanaaGreatDoor.Md
namespace Go.Proofs.YteinilmecnlanaaGreatDoor.Md
open Go.ChangeShapes Go.WideShapes Go.ChangeAt Go.RowKit
theorem enter_run {f : FuncId} {fn : Func} (hf : Tryz.prog.funcs[f]? = some fn) (hname : (fn.name == "runtime.NumGoroutine") = false) (hb : fn.body.isSome = true) (args : Array Value) (w : World) : (callFunc f args).run Tryz.prog w = .ok (.enter f args) w := by
  obtain ⟨c, hb⟩ := Option.isSome_iff_exists.1 hb
  have h1 : fn.name ≠ "runtime.NumGoroutine" := by simpa using hname
  simp [callFunc, hf, h1, hb, mark]
section
variable {w : World} {b g : Nat} {ws : List Int} {o : Bool} {c : Int}
def stored (ws : List Int) (o : Bool) (i v : Int) : List Int := if hasB ws i && o then ws.set i.toNat v else ws
def spentO (ws : List Int) (o : Bool) (i : Int) : Bool := if hasB ws i then false else o
def spentC (ws : List Int) (o : Bool) (i c : Int) : Int := if hasB ws i && o then up c else c
def toldW (ws : List Int) (o : Bool) (i : Int) : Int := if hasB ws i && o then wordAt ws i else 0
set_option maxRecDepth 100000 in
theorem loadAct_at (h : MemAt 116 w b g ws true c) {k : Nat} (hk : k < ws.length) :
    Calls Tryz.prog 52 #[.pointer (some ⟨w.heap.size, 0, none⟩), .pointer (some ⟨w.heap.size + 1, 0, none⟩), .pointer (some ⟨w.heap.size + 1 + 1, 0, none⟩)] (((((w.alloc (.cells #[.pointer (some ⟨b, 0, none⟩)] 37)).alloc (.cells #[.int .i64 k] 3)).alloc (.cells #[.int .u64 0] 53)).setCell ⟨b, 1, none⟩ (.bool false)).setCell ⟨b, 2, none⟩ (.int .i64 (up c))) fun e w' => e = .returned (.tuple #[]) ∧
      (w'.cell? ⟨w.heap.size + 1 + 1, 0, none⟩ = some (.int .u64 (wordAt ws k)) ∧ MemAt 116 w' b g ws false (up c) ∧ Chg b g w w') := by
  have hb := h.ltB
  have hg := h.ltG
  have hv : wordAt ws k = ws[k] := by simp [wordAt, hk]
  have HM0 := (((((h.alloc (.cells #[.pointer (some ⟨b, 0, none⟩)] 37)).alloc (.cells #[.int .i64 k] 3)).alloc (.cells #[.int .u64 0] 53)).setO false).setC (up c))
  have HM := (HM0.other (n := w.heap.size + 1 + 1) (by omega) (by omega) 0 (.int .u64 ws[k])).drew
  have HC := ((((((Chg.refl b g w).alloc (.cells #[.pointer (some ⟨b, 0, none⟩)] 37)).alloc (.cells #[.int .i64 k] 3)).alloc (.cells #[.int .u64 0] 53)).setB 1 (.bool false)).setB 2 (.int .i64 (up c))).setN (n := w.heap.size + 1 + 1) (by omega) 0 (.int .u64 ws[k]) |>.drew
  rw [hv]
  refine (loadAct_any _ w.heap.size (w.heap.size + 1) (w.heap.size + 1 + 1) b g k ws.length ws[k] (.int .u64 0) ?_ ?_ HM0.cell0 (HM0.word hk) (by omega) ?_ ?_).mono ?_
  · simp [go_sem]
  · simp [go_sem]
  · simp [go_sem]
  · simp [go_sem]
  · rintro e w' ⟨he, rfl⟩
    refine ⟨he, ?_, HM, HC⟩
    simp [go_sem]
set_option maxRecDepth 100000 in
theorem storeAct_at (h : MemAt 116 w b g ws true c) (v : Int) {k : Nat} (hk : k < ws.length) :
    Calls Tryz.prog 234 #[.pointer (some ⟨w.heap.size + 1 + 1, 0, none⟩), .pointer (some ⟨w.heap.size, 0, none⟩), .pointer (some ⟨w.heap.size + 1, 0, none⟩)] (((((w.alloc (.cells #[.pointer (some ⟨b, 0, none⟩)] 37)).alloc (.cells #[.int .i64 k] 3)).alloc (.cells #[.int .u64 v] 53)).setCell ⟨b, 1, none⟩ (.bool false)).setCell ⟨b, 2, none⟩ (.int .i64 (up c))) fun e w' => e = .returned (.tuple #[]) ∧
      (MemAt 116 w' b g (ws.set k v) false (up c) ∧ Chg b g w w') := by
  have hb := h.ltB
  have hg := h.ltG
  have HM0 := (((((h.alloc (.cells #[.pointer (some ⟨b, 0, none⟩)] 37)).alloc (.cells #[.int .i64 k] 3)).alloc (.cells #[.int .u64 v] 53)).setO false).setC (up c))
  have HC := ((((((Chg.refl b g w).alloc (.cells #[.pointer (some ⟨b, 0, none⟩)] 37)).alloc (.cells #[.int .i64 k] 3)).alloc (.cells #[.int .u64 v] 53)).setB 1 (.bool false)).setB 2 (.int .i64 (up c))).setG k (.int .u64 v) |>.drew
  refine (storeAct_any _ w.heap.size (w.heap.size + 1) (w.heap.size + 1 + 1) b g k ws.length ws[k] v ?_ ?_ HM0.cell0 (HM0.word hk) (by omega) ?_ (HM0.freeG k)).mono ?_
  · simp [go_sem]
  · simp [go_sem]
  · simp [go_sem]
  · rintro e w' ⟨he, rfl⟩
    exact ⟨he, (HM0.setW k v).drew, HC⟩
set_option maxRecDepth 100000 in
theorem addAct_at (h : MemAt 116 w b g ws true c) (v : Int) {k : Nat} (hk : k < ws.length) :
    Calls Tryz.prog 138 #[.pointer (some ⟨w.heap.size, 0, none⟩), .pointer (some ⟨w.heap.size + 1, 0, none⟩), .pointer (some ⟨w.heap.size + 1 + 1 + 1, 0, none⟩), .pointer (some ⟨w.heap.size + 1 + 1, 0, none⟩)] ((((((w.alloc (.cells #[.pointer (some ⟨b, 0, none⟩)] 37)).alloc (.cells #[.int .i64 k] 3)).alloc (.cells #[.int .u64 v] 53)).alloc (.cells #[.int .u64 0] 53)).setCell ⟨b, 1, none⟩ (.bool false)).setCell ⟨b, 2, none⟩ (.int .i64 (up c))) fun e w' => e = .returned (.tuple #[]) ∧
      (w'.cell? ⟨w.heap.size + 1 + 1 + 1, 0, none⟩ = some (.int .u64 (wordAt ws k)) ∧ MemAt 116 w' b g (ws.set k (addV (wordAt ws k) v)) false (up c) ∧ Chg b g w w') := by
  have hb := h.ltB
  have hg := h.ltG
  have hv : wordAt ws k = ws[k] := by simp [wordAt, hk]
  have HM0 := ((((((h.alloc (.cells #[.pointer (some ⟨b, 0, none⟩)] 37)).alloc (.cells #[.int .i64 k] 3)).alloc (.cells #[.int .u64 v] 53)).alloc (.cells #[.int .u64 0] 53)).setO false).setC (up c))
  have HM := ((HM0.other (n := w.heap.size + 1 + 1 + 1) (by omega) (by omega) 0 (.int .u64 ws[k])).setW k (addV ws[k] v)).drew.drew
  have HC := (((((((Chg.refl b g w).alloc (.cells #[.pointer (some ⟨b, 0, none⟩)] 37)).alloc (.cells #[.int .i64 k] 3)).alloc (.cells #[.int .u64 v] 53)).alloc (.cells #[.int .u64 0] 53)).setB 1 (.bool false)).setB 2 (.int .i64 (up c))).setN (n := w.heap.size + 1 + 1 + 1) (by omega) 0 (.int .u64 ws[k]) |>.setG k (.int .u64 (addV ws[k] v)) |>.drew.drew
  rw [hv]
  refine (addAct_any _ w.heap.size (w.heap.size + 1) (w.heap.size + 1 + 1 + 1) (w.heap.size + 1 + 1) b g k ws.length ws[k] v (.int .u64 0) ?_ ?_ HM0.cell0 (HM0.word hk) (by omega) ?_ ?_ ?_ (HM0.freeG k) (by omega) (by omega) (by omega) (by omega) (by omega)).mono ?_
  · simp [go_sem]
  · simp [go_sem]
  · simp [go_sem]
  · simp [go_sem]
  · simp [go_sem]
  · rintro e w' ⟨he, rfl⟩
    refine ⟨he, ?_, HM, HC⟩
    rw [World.cell?_drew, World.cell?_drew, World.cell?_setCell_other (h := fun e => by have := congrArg Addr.block e; simp at this; omega)]
    simp [go_sem]
set_option maxRecDepth 100000 in
set_option maxHeartbeats 1000000 in
theorem load_any (h : MemAt 116 w b g ws o c) (i : Int) : Calls Tryz.prog 23 #[.pointer (some ⟨b, 0, none⟩), .int .i64 i] w fun e w' => e = .returned (.tuple #[.int .u64 (toldW ws o i), .int .i64 (errA ws o i)]) ∧ MemAt 116 w' b g ws (spentO ws o i) (spentC ws o i c) ∧ Chg b g w w' := by
  have HM : Hid (MemAt 116 w b g ws o c) := h
  clear h
  unfold errA spentO spentC toldW
  cases hh : hasB ws i
  · go_enter Tryz.func23, Tryz.ntmps23
    go_wp2_with (go_at_call 51; refine (access_none (((HM.out.alloc _).alloc _).alloc _) _ hh _ _ _).mono ?_; rintro e w' ⟨rfl, hw⟩; subst w')
    go_ret2
    exact ⟨rfl, ((HM.out.alloc _).alloc _).alloc _, (((Chg.refl _ _ _).alloc _).alloc _).alloc _⟩
  · obtain ⟨k, rfl, hk⟩ := hasB_pos hh
    cases o
    · go_enter Tryz.func23, Tryz.ntmps23
      go_wp2_with (go_at_call 51; refine (access_spent (((HM.out.alloc _).alloc _).alloc _) _ hh _ _ _).mono ?_; rintro e w' ⟨rfl, hw⟩; subst w')
      go_ret2
      exact ⟨rfl, ((HM.out.alloc _).alloc _).alloc _, (((Chg.refl _ _ _).alloc _).alloc _).alloc _⟩
    · have HA := Lib.hid (loadAct_at HM.out hk)
      go_enter Tryz.func23, Tryz.ntmps23
      go_wp2_with (go_at_call 51; refine (access_let (((HM.out.alloc _).alloc _).alloc _) _ hh _ _ _ (enter_run Tryz.func52 (by kernel_rfl) (by kernel_rfl)) HA.out).mono ?_; rintro e w' ⟨rfl, hc, hm, hz⟩; replace hm := Lib.hid hm)
      go_ret2
      exact ⟨rfl, hm.out, hz⟩
set_option maxRecDepth 100000 in
set_option maxHeartbeats 1000000 in
theorem store_any (h : MemAt 116 w b g ws o c) (i v : Int) : Calls Tryz.prog 222 #[.pointer (some ⟨b, 0, none⟩), .int .i64 i, .int .u64 v] w fun e w' => e = .returned (.int .i64 (errA ws o i)) ∧ MemAt 116 w' b g (stored ws o i v) (spentO ws o i) (spentC ws o i c) ∧ Chg b g w w' := by
  have HM : Hid (MemAt 116 w b g ws o c) := h
  clear h
  unfold errA spentO spentC stored
  cases hh : hasB ws i
  · go_enter Tryz.func222, Tryz.ntmps222
    go_wp2_with (go_at_call 51; refine (access_none (((HM.out.alloc _).alloc _).alloc _) _ hh _ _ _).mono ?_; rintro e w' ⟨rfl, hw⟩; subst w')
    go_ret
    exact ⟨rfl, ((HM.out.alloc _).alloc _).alloc _, (((Chg.refl _ _ _).alloc _).alloc _).alloc _⟩
  · obtain ⟨k, rfl, hk⟩ := hasB_pos hh
    cases o
    · go_enter Tryz.func222, Tryz.ntmps222
      go_wp2_with (go_at_call 51; refine (access_spent (((HM.out.alloc _).alloc _).alloc _) _ hh _ _ _).mono ?_; rintro e w' ⟨rfl, hw⟩; subst w')
      go_ret
      exact ⟨rfl, ((HM.out.alloc _).alloc _).alloc _, (((Chg.refl _ _ _).alloc _).alloc _).alloc _⟩
    · have HA := Lib.hid (storeAct_at HM.out v hk)
      go_enter Tryz.func222, Tryz.ntmps222
      go_wp2_with (go_at_call 51; refine (access_let (((HM.out.alloc _).alloc _).alloc _) _ hh _ _ _ (enter_run Tryz.func234 (by kernel_rfl) (by kernel_rfl)) HA.out).mono ?_; rintro e w' ⟨rfl, hm, hz⟩; replace hm := Lib.hid hm)
      go_ret
      exact ⟨rfl, hm.out, hz⟩
set_option maxRecDepth 100000 in
set_option maxHeartbeats 1000000 in
theorem add_any (h : MemAt 116 w b g ws o c) (i v : Int) : Calls Tryz.prog 115 #[.pointer (some ⟨b, 0, none⟩), .int .i64 i, .int .u64 v] w fun e w' => e = .returned (.tuple #[.int .u64 (toldW ws o i), .int .i64 (errA ws o i)]) ∧ MemAt 116 w' b g (stored ws o i (addV (wordAt ws i) v)) (spentO ws o i) (spentC ws o i c) ∧ Chg b g w w' := by
  have HM : Hid (MemAt 116 w b g ws o c) := h
  clear h
  unfold errA spentO spentC toldW stored
  cases hh : hasB ws i
  · go_enter Tryz.func115, Tryz.ntmps115
    go_wp2_with (go_at_call 51; refine (access_none ((((HM.out.alloc _).alloc _).alloc _).alloc _) _ hh _ _ _).mono ?_; rintro e w' ⟨rfl, hw⟩; subst w')
    go_ret2
    exact ⟨rfl, (((HM.out.alloc _).alloc _).alloc _).alloc _, ((((Chg.refl _ _ _).alloc _).alloc _).alloc _).alloc _⟩
  · obtain ⟨k, rfl, hk⟩ := hasB_pos hh
    cases o
    · go_enter Tryz.func115, Tryz.ntmps115
      go_wp2_with (go_at_call 51; refine (access_spent ((((HM.out.alloc _).alloc _).alloc _).alloc _) _ hh _ _ _).mono ?_; rintro e w' ⟨rfl, hw⟩; subst w')
      go_ret2
      exact ⟨rfl, (((HM.out.alloc _).alloc _).alloc _).alloc _, ((((Chg.refl _ _ _).alloc _).alloc _).alloc _).alloc _⟩
    · have HA := Lib.hid (addAct_at HM.out v hk)
      go_enter Tryz.func115, Tryz.ntmps115
      go_wp2_with (go_at_call 51; refine (access_let ((((HM.out.alloc _).alloc _).alloc _).alloc _) _ hh _ _ _ (enter_run Tryz.func138 (by kernel_rfl) (by kernel_rfl)) HA.out).mono ?_; rintro e w' ⟨rfl, hc, hm, hz⟩; replace hm := Lib.hid hm)
      go_ret2
      exact ⟨rfl, hm.out, hz⟩
end
end Go.Proofs.YteinilmecnlanaaGreatDoor.Md
namespace Go.Proofs.YteinilmecnlanaaGreatDoor.Md
open Go.ChangeShapes Go.WideShapes Go.ChangeAt Go.RowKit
theorem wordInfo : (Tryz.prog.info? 53).map (fun i => (i.zero, i.size, i.bytes)) = some (some (.int .u64 0), 1, 8) := by kernel_rfl
def RowAt (w : World) (g : Nat) (ws : List Int) : Prop := w.heap[g]? = some (.cells (u64s ws).toArray 53 (0, 0))
theorem RowAt.lt {w : World} {g : Nat} {ws : List Int} (h : RowAt w g ws) : g < w.heap.size := lt_of_block h
theorem RowAt.word {w : World} {g : Nat} {ws : List Int} (h : RowAt w g ws) {i : Nat} (hi : i < ws.length) : w.cell? ⟨g, i, none⟩ = some (.int .u64 ws[i]) := by
  rw [cell_of_row w g i _ _ _ h]
  simp [u64s, hi]
theorem u64s_len (ws : List Int) : (u64s ws).length = ws.length := by unfold u64s; rw [List.length_map]
theorem make_words (n : Nat) (hn : n ≤ 4096) (w : World) : (Instr.makeSlice 28 (.int .i64 (n : Int)) (.int .i64 (n : Int))).run Tryz.prog w = .ok (.slice (some ⟨w.heap.size, 0, none⟩) n n) (w.alloc (.cells (u64s (List.replicate n 0)).toArray 53)) := by
  obtain ⟨i, hi, hz0, hz1, hz2⟩ := info_parts wordInfo
  rw [run_make w 28 53 i (.int .u64 0) Tryz.underlying28 hi hz0 .i64 .i64 n n (by omega) (Int.le_refl _) (by rw [hz2]; omega) (by omega)]
  have e : (madeCells (Value.int .u64 0).cells (((n : Int)).toNat * i.size)) = (u64s (List.replicate n 0)).toArray := by
    rw [hz1, Nat.mul_one, Int.toNat_natCast]
    apply Array.toList_inj.1
    rw [show (Value.int .u64 0).cells = #[.int .u64 0] from rfl, toList_madeCells_one]
    simp [u64s]
  rw [e, Int.toNat_natCast]
theorem copy_words (w : World) (g : Nat) (ws : List Int) (h : RowAt w g ws) (ty : TypeId) : (Builtin.copy_ #[28, 28] ty #[.slice (some ⟨w.heap.size, 0, none⟩) ws.length ws.length, .slice (some ⟨g, 0, none⟩) ws.length ws.length]).run Tryz.prog (w.alloc (.cells (u64s (List.replicate ws.length 0)).toArray 53)) =
    .ok (goInt ws.length) ((w.alloc (.cells (u64s (List.replicate ws.length 0)).toArray 53)).setRow w.heap.size (u64s ws).toArray) := by
  have hr := run_copy_row (P := Tryz.prog) (w.alloc (.cells (u64s (List.replicate ws.length 0)).toArray 53)) 28 28 ty 53 w.heap.size 0 ws.length ws.length ⟨g, 0, none⟩ ws.length ws.length (u64s (List.replicate ws.length 0)).toArray 53 (u64s ws) Tryz.underlying28 (by kernel_rfl) (heap_alloc_new _ _) (by rw [u64s_len]; exact (Nat.min_self _).symm) (fun j v hj => by
      have hj' : j < ws.length := by
        have := (List.getElem?_eq_some_iff.1 hj).1
        rwa [u64s_len] at this
      have e : (⟨g, 0, none⟩ : Addr).add j = ⟨g, j, none⟩ := by unfold Addr.add; split <;> simp_all
      rw [e, World.cell?_alloc_past _ _ _ h.lt, h.word hj']
      rw [← hj]
      simp [u64s, hj']) (by simp [u64s_len]) (fun v hv => by
      unfold u64s at hv
      obtain ⟨x, _, rfl⟩ := List.mem_map.1 hv
      rfl)
  rw [hr]
  have e : (List.take 0 (u64s (List.replicate ws.length 0)).toArray.toList ++ u64s ws ++ List.drop (0 + (u64s ws).length) (u64s (List.replicate ws.length 0)).toArray.toList) = u64s ws := by
    rw [List.drop_of_length_le (by simp [u64s_len])]
    simp
  rw [e, u64s_len]
section
variable {w : World} {b g : Nat} {ws : List Int} {o : Bool} {c : Int}
set_option maxRecDepth 100000 in
theorem all_any (h : MemAt 116 w b g ws o c) : Calls Tryz.prog 27 #[.pointer (some ⟨b, 0, none⟩)] w fun e w' => e = .returned (.slice (some ⟨w.heap.size, 0, none⟩) ws.length ws.length) ∧ RowAt w' w.heap.size ws ∧ Below w.heap.size w w' := by
  have h0 := h.cell0
  have hb := h.ltB
  have hmk := make_words ws.length h.many
  have hcp := copy_words w g ws h.row
  have HF : Hid (RowAt ((w.alloc (.cells (u64s (List.replicate ws.length 0)).toArray 53)).setRow w.heap.size (u64s ws).toArray) w.heap.size ws) := setRow_heap _ _ _ _ _ _ (heap_alloc_new _ _)
  have HB : Hid (Below w.heap.size w ((w.alloc (.cells (u64s (List.replicate ws.length 0)).toArray 53)).setRow w.heap.size (u64s ws).toArray)) :=
    ((Below.refl _ _).alloc (Nat.le_refl _) _).trans ⟨rfl, rfl, rfl, by simp, fun k hk => setRow_other _ _ _ _ (Nat.ne_of_lt hk)⟩
  clear h
  go_enter Tryz.func27, Tryz.ntmps27
  go_wp2
  go_ret
  exact ⟨rfl, HF.out, HB.out⟩
end
set_option maxRecDepth 100000 in
theorem new_some (n : Nat) (h1 : 1 ≤ n) (h2 : n ≤ 4096) (w : World) : Calls Tryz.prog 22 #[.int .i64 n] w fun e w' => e = .returned (.tuple #[.pointer (some ⟨w.heap.size + 1, 0, none⟩), .int .i64 0]) ∧ MemAt 116 w' (w.heap.size + 1) w.heap.size (List.replicate n 0) false 0 ∧ Below w.heap.size w w' := by
  have hh : (decide (1 ≤ (n : Int)) && decide ((n : Int) ≤ 4096)) = true := by simp; omega
  have hmk := make_words n h2
  have HN := Lib.hid (And.intro h1 h2)
  clear h1 h2
  go_enter Tryz.func22, Tryz.ntmps22
  go_wp2_with (go_at_call 50; refine (within_any _ _ _).mono ?_; rw [hh]; rintro e w' ⟨rfl, hw⟩; subst w')
  go_ret2
  refine ⟨rfl, ⟨?_, ?_, by omega, by rw [List.length_replicate]; exact HN.out.1, by rw [List.length_replicate]; exact HN.out.2⟩, ((Below.refl _ _).alloc (Nat.le_refl _) _).alloc (by simp) _⟩
  · rw [List.length_replicate]
    have := heap_alloc_new (w.alloc (.cells (u64s (List.replicate n 0)).toArray 53)) (.cells #[.slice (some ⟨w.heap.size, 0, none⟩) n n, .bool false, .int .i64 0] 116)
    simpa using this
  · rw [Below.heap_alloc _ _ _ (by simp)]
    exact heap_alloc_new _ _
end Go.Proofs.YteinilmecnlanaaGreatDoor.Md
namespace Go.Proofs.YteinilmecnlanaaGreatDoor.Md
open Go.ChangeShapes Go.WideShapes Go.ChangeAt Go.RowKit
end Go.Proofs.YteinilmecnlanaaGreatDoor.Md
namespace Go.Proofs.YteinilmecnlanaaGreatDoor.Md
open Go.ChangeShapes Go.WideShapes Go.ChangeAt Go.RowKit
theorem new_at (i : Int) (h1 : 1 ≤ i) (h2 : i ≤ 4096) (w : World) : Calls Tryz.prog 22 #[.int .i64 i] w fun e w' => ∃ ws : List Int, e = .returned (.tuple #[.pointer (some ⟨w.heap.size + 1, 0, none⟩), .int .i64 0]) ∧ (ws.length : Int) = i ∧ Hid (ws = List.replicate i.toNat 0) ∧ MemAt 116 w' (w.heap.size + 1) w.heap.size ws false 0 ∧ Below w.heap.size w w' := by
  obtain ⟨n, rfl⟩ : ∃ n : Nat, i = n := ⟨i.toNat, by omega⟩
  exact (new_some n (by omega) (by omega) w).mono fun e w' ⟨he, hm, hb⟩ => ⟨_, he, by rw [List.length_replicate]; rfl, rfl, hm, hb⟩
end Go.Proofs.YteinilmecnlanaaGreatDoor.Md
namespace Go.Proofs.YteinilmecnlanaaGreatDoor.Md.Ce
open Go.ChangeShapes Go.WideShapes Go.ChangeAt Go.RowKit Num
attribute [local go_sem] frombits_run bits_run
theorem run_store_float (a : Addr) (m : Mode) (k : FloatKind) (b : Nat) (w : World) : (store a (.float k b) m).run Tryz.prog w = _root_.Go.stored Tryz.prog w a (.float k b) m := run_store Tryz.prog w a _ m rfl
theorem run_store_func (a : Addr) (m : Mode) (f : Fn) (x y : Array Value) (w : World) : (store a (.func f x y) m).run Tryz.prog w = _root_.Go.stored Tryz.prog w a (.func f x y) m := run_store Tryz.prog w a _ m rfl
theorem run_store_nilFunc (a : Addr) (m : Mode) (w : World) : (store a .nilFunc m).run Tryz.prog w = _root_.Go.stored Tryz.prog w a .nilFunc m := run_store Tryz.prog w a _ m rfl
theorem of_int (n : Int) (w : World) : Calls Tryz.prog 84 #[.int .u64 n] w fun e w' => e = .returned (.float .f64 (fixB n.toNat)) ∧ w' = w := by
  go_enter Tryz.func84, Tryz.ntmps84
  go_wp2_with (first | (go_at_call 57; refine (fix_any _ _).mono ?_; rintro e w' ⟨rfl, rfl⟩) | go_in)
  go_ret
  exact ⟨rfl, rfl⟩
/-- of the old blocks those of L alone may have turned -/
structure Ch (L : List Nat) (w w' : World) : Prop where
  os : w'.os = w.os
  tape : w'.tape = w.tape
  output : w'.output = w.output
  size : w.heap.size ≤ w'.heap.size
  block : ∀ k, k < w.heap.size → k ∉ L → w'.heap[k]? = w.heap[k]?
theorem Ch.refl (L : List Nat) (w : World) : Ch L w w := ⟨rfl, rfl, rfl, Nat.le_refl _, fun _ _ _ => rfl⟩
theorem Ch.trans {L : List Nat} {a w c : World} (h : Ch L a w) (k : Ch L w c) : Ch L a c :=
  ⟨k.os.trans h.os, k.tape.trans h.tape, k.output.trans h.output, Nat.le_trans h.size k.size, fun i hi h1 => (k.block i (Nat.lt_of_lt_of_le hi h.size) h1).trans (h.block i hi h1)⟩
theorem Ch.set {L : List Nat} {a w : World} (h : Ch L a w) {b : Nat} (hb : b ∈ L) (j : Nat) (u : Value) : Ch L a (w.setCell ⟨b, j, none⟩ u) :=
  h.trans ⟨rfl, rfl, rfl, by simp, fun k _ h1 => heap_setCell_other _ _ _ _ (fun (e : k = b) => h1 (e ▸ hb))⟩
theorem _root_.Go.Proofs.YteinilmecnlanaaGreatDoor.Chg.ch {b g : Nat} {L : List Nat} {w w' : World} (h : Chg b g w w') (hb : b ∈ L) (hg : g ∈ L) : Ch L w w' :=
  ⟨h.os, h.tape, h.output, h.size, fun k hk hn => h.block k hk (fun e => hn (e ▸ hb)) (fun e => hn (e ▸ hg))⟩
theorem ch_of {w w' : World} (h : Below w.heap.size w w') (L : List Nat) : Ch L w w' := ⟨h.os, h.tape, h.output, h.size, fun k hk _ => h.block k hk⟩
/-- may a cell be; where its word is -/
def mayC (c : Int) : Bool := decide (0 ≤ c ∧ c < 256)
def placeI (p c j : Int) : Int := if 0 ≤ p ∧ p ≤ 4096 then p + 3 * c + j else -1
def errC (ws : List Int) (o : Bool) (p c j : Int) : Int := if mayC c then errA ws o (placeI p c j) else 60
def wordC (ws : List Int) (p c j : Int) : Int := wordAt ws (placeI p c j)
theorem mayC_pos {c : Int} (h : mayC c = true) : 0 ≤ c ∧ c < 256 := of_decide_eq_true h
theorem smay_any (p c : Int) (w : World) : Calls Tryz.prog 81 #[.agg #[.int .i64 p, .int .i64 c]] w fun e w' => e = .returned (.bool (mayC c)) ∧ Below w.heap.size w w' := by
  unfold mayC
  by_cases h1 : 0 ≤ c
  · by_cases h2 : c < 256
    · have h1' : ¬ c < 0 := by omega
      go_enter Tryz.func81, Tryz.ntmps81
      go_wp2
      go_ret
      exact ⟨by first | (simp; done) | (simp; omega), (Below.refl _ _).alloc (Nat.le_refl _) _⟩
    · go_enter Tryz.func81, Tryz.ntmps81
      go_wp2
      go_ret
      exact ⟨by first | (simp; done) | (simp; omega), (Below.refl _ _).alloc (Nat.le_refl _) _⟩
  · go_enter Tryz.func81, Tryz.ntmps81
    go_wp2
    go_ret
    exact ⟨by first | (simp; done) | (simp; omega), (Below.refl _ _).alloc (Nat.le_refl _) _⟩
theorem splace_any (p c j : Int) (hc : mayC c = true) (hj : 0 ≤ j ∧ j < 3) (w : World) : Calls Tryz.prog 83 #[.agg #[.int .i64 p, .int .i64 c], .int .i64 j] w fun e w' => e = .returned (.int .i64 (placeI p c j)) ∧ Below w.heap.size w w' := by
  obtain ⟨hc0, hc1⟩ := mayC_pos hc
  obtain ⟨hj0, hj1⟩ := hj
  clear hc
  by_cases h1 : 0 ≤ p
  · by_cases h2 : p ≤ 4096
    · have e : placeI p c j = p + 3 * c + j := by simp [placeI, h1, h2]
      have e1 : wrap64 (3 * c) = 3 * c := Go.IntWalk.wrap64_in _ ⟨by omega, by omega⟩
      have e2 : wrap64 (p + 3 * c) = p + 3 * c := Go.IntWalk.wrap64_in _ ⟨by omega, by omega⟩
      have e3 : wrap64 (p + 3 * c + j) = p + 3 * c + j := Go.IntWalk.wrap64_in _ ⟨by omega, by omega⟩
      have h1' : ¬ p < 0 := by omega
      have h2' : ¬ 4096 < p := by omega
      rw [e]
      clear e hc0 hc1 hj0 hj1
      go_enter Tryz.func83, Tryz.ntmps83
      go_wp2
      go_ret
      exact ⟨rfl, (Below.refl _ _).alloc (Nat.le_refl _) _⟩
    · have e : placeI p c j = -1 := by simp [placeI, h2]
      rw [e]
      clear e hc0 hc1 hj0 hj1
      have h1' : ¬ p < 0 := by omega
      have h2' : 4096 < p := by omega
      go_enter Tryz.func83, Tryz.ntmps83
      go_wp2
      go_ret
      exact ⟨rfl, (Below.refl _ _).alloc (Nat.le_refl _) _⟩
  · have e : placeI p c j = -1 := by simp [placeI, h1]
    rw [e]
    clear e hc0 hc1 hj0 hj1
    have h1' : p < 0 := by omega
    go_enter Tryz.func83, Tryz.ntmps83
    go_wp2
    go_ret
    exact ⟨rfl, (Below.refl _ _).alloc (Nat.le_refl _) _⟩
theorem _root_.Go.Proofs.YteinilmecnlanaaGreatDoor.MemAt.hop {T : TypeId} {w w' : World} {b g : Nat} {ws : List Int} {o : Bool} {c : Int} (h : MemAt T w b g ws o c) (k : Below w.heap.size w w') : MemAt T w' b g ws o c := h.on k
theorem below_step {a w w' : World} (h : Below a.heap.size a w) (k : Below w.heap.size w w') : Below a.heap.size a w' := h.trans (k.mono h.size)
theorem below_alloc_step {a w' : World} {x : Obj} (k : Below (a.alloc x).heap.size (a.alloc x) w') : Below a.heap.size a w' := below_step ((Below.refl _ _).alloc (Nat.le_refl _) x) k
theorem spot_cells {a w' : World} {x y : Value} {T : TypeId} (k : Below (a.alloc (.cells #[x, y] T)).heap.size (a.alloc (.cells #[x, y] T)) w') : w'.cell? ⟨a.heap.size, 0, none⟩ = some x ∧ w'.cell? ⟨a.heap.size, 1, none⟩ = some y ∧ a.heap.size < w'.heap.size :=
  ⟨(k.cell (p := ⟨a.heap.size, 0, none⟩) (by simp)).trans (by simp), (k.cell (p := ⟨a.heap.size, 1, none⟩) (by simp)).trans (by simp), by have := k.size; simp at this; omega⟩
theorem chg_from {a w w' : World} {b g : Nat} (h : Below a.heap.size a w) (k : Chg b g w w') : Chg b g a w' := (Chg.trans ⟨h.os, h.tape, h.output, h.size, fun i hi _ _ => h.block i hi⟩ k)
section
variable {w : World} {b g : Nat} {ws : List Int} {o : Bool} {n : Int}
/-- a load that is let by -/
theorem cload_ok (h : MemAt 116 w b g ws o n) {p c j : Int} (hj : 0 ≤ j ∧ j < 3) (hok : errC ws o p c j = 0) : Calls Tryz.prog 211 #[.agg #[.int .i64 p, .int .i64 c], .pointer (some ⟨b, 0, none⟩), .int .i64 j] w fun e w' => e = .returned (.tuple #[.int .u64 (wordC ws p c j), .int .i64 0]) ∧ MemAt 116 w' b g ws false (up n) ∧ Chg b g w w' := by
  cases hm : mayC c
  · simp [errC, hm] at hok
  · have hA : errA ws o (placeI p c j) = 0 := by simpa [errC, hm] using hok
    have hk : hasB ws (placeI p c j) = true ∧ o = true := by
      unfold errA at hA
      cases q : hasB ws (placeI p c j) <;> cases o <;> simp [q] at hA ⊢
    have H1 := Lib.hid (smay_any p c)
    simp only [hm] at H1
    have H2 := Lib.hid (splace_any p c j hm hj)
    have H3 := Lib.hid (fun (w1 : World) (h1 : Below w.heap.size w w1) => load_any (h.hop h1) (placeI p c j))
    have e1 : toldW ws o (placeI p c j) = wordC ws p c j := by simp [toldW, wordC, hk.1, hk.2]
    have e2 : spentO ws o (placeI p c j) = false := by simp [spentO, hk.1]
    have e3 : spentC ws o (placeI p c j) n = up n := by simp [spentC, hk.1, hk.2]
    simp only [hA, e1, e2, e3] at H3
    generalize wordC ws p c j = x at H3 ⊢
    generalize placeI p c j = i at H2 H3
    clear hA hk e1 e2 e3 hok hm h
    go_enter Tryz.func211, Tryz.ntmps211
    go_wp2_with (first
      | (go_at_call 81; refine (H1.out _).mono ?_; rintro e w1 ⟨rfl, hw⟩; have HB1 := Lib.hid (below_alloc_step hw); obtain ⟨q0, q1, q2⟩ := spot_cells hw; clear hw)
      | (go_at_call 83; refine (H2.out _).mono ?_; rintro e w2 ⟨rfl, hw⟩; have HB2 := Lib.hid (below_step HB1.out hw); clear hw)
      | (go_at_call 23; refine (H3.out _ HB2.out).mono ?_; rintro e w3 ⟨rfl, hm1, hc1⟩; have HM := Lib.hid (And.intro hm1 (chg_from HB2.out hc1)); clear hm1 hc1))
    go_ret2
    exact ⟨rfl, HM.out.1, HM.out.2⟩
theorem errA_told {i : Int} (h : ¬ errA ws o i = 0) : toldW ws o i = 0 ∧ spentO ws o i = o ∧ spentC ws o i n = n := by
  unfold errA at h
  cases q : hasB ws i <;> cases o <;> simp [q] at h <;> simp [toldW, spentO, spentC, q]
theorem cload_no (h : MemAt 116 w b g ws o n) {p c j : Int} (hj : 0 ≤ j ∧ j < 3) (hok : ¬ errC ws o p c j = 0) : Calls Tryz.prog 211 #[.agg #[.int .i64 p, .int .i64 c], .pointer (some ⟨b, 0, none⟩), .int .i64 j] w fun e w' => e = .returned (.tuple #[.int .u64 0, .int .i64 (errC ws o p c j)]) ∧ MemAt 116 w' b g ws o n ∧ Chg b g w w' := by
  have H1 := Lib.hid (smay_any p c)
  cases hm : mayC c
  · have e : errC ws o p c j = 60 := by simp [errC, hm]
    rw [e]
    simp only [hm] at H1
    have HM := Lib.hid h
    clear e hok h hm
    go_enter Tryz.func211, Tryz.ntmps211
    go_wp2_with (go_at_call 81; refine (H1.out _).mono ?_; rintro e w1 ⟨rfl, hw⟩; have HB := Lib.hid (below_alloc_step hw); clear hw)
    go_ret2
    exact ⟨rfl, HM.out.hop HB.out, chg_from HB.out (Chg.refl _ _ _)⟩
  · have e0 : errC ws o p c j = errA ws o (placeI p c j) := by simp [errC, hm]
    rw [e0] at hok ⊢
    simp only [hm] at H1
    obtain ⟨e1, e2, e3⟩ := errA_told (n := n) hok
    have H2 := Lib.hid (splace_any p c j hm hj)
    have H3 := Lib.hid (fun (w1 : World) (h1 : Below w.heap.size w w1) => load_any (h.hop h1) (placeI p c j))
    simp only [e1, e2, e3] at H3
    generalize errA ws o (placeI p c j) = x at H3 ⊢
    generalize placeI p c j = i at H2 H3
    clear e0 e1 e2 e3 hok hm h
    go_enter Tryz.func211, Tryz.ntmps211
    go_wp2_with (first
      | (go_at_call 81; refine (H1.out _).mono ?_; rintro e w1 ⟨rfl, hw⟩; have HB1 := Lib.hid (below_alloc_step hw); obtain ⟨q0, q1, q2⟩ := spot_cells hw; clear hw)
      | (go_at_call 83; refine (H2.out _).mono ?_; rintro e w2 ⟨rfl, hw⟩; have HB2 := Lib.hid (below_step HB1.out hw); clear hw)
      | (go_at_call 23; refine (H3.out _ HB2.out).mono ?_; rintro e w3 ⟨rfl, hm1, hc1⟩; have HM := Lib.hid (And.intro hm1 (chg_from HB2.out hc1)); clear hm1 hc1))
    go_ret2
    exact ⟨rfl, HM.out.1, HM.out.2⟩
/-- the words behind a store -/
def storeC (ws : List Int) (p c j v : Int) : List Int := ws.set (placeI p c j).toNat v
theorem cstore_ok (h : MemAt 116 w b g ws o n) {p c j : Int} (v : Int) (hj : 0 ≤ j ∧ j < 3) (hok : errC ws o p c j = 0) : Calls Tryz.prog 241 #[.agg #[.int .i64 p, .int .i64 c], .pointer (some ⟨b, 0, none⟩), .int .i64 j, .int .u64 v] w fun e w' => e = .returned (.int .i64 0) ∧ MemAt 116 w' b g (storeC ws p c j v) false (up n) ∧ Chg b g w w' := by
  cases hm : mayC c
  · simp [errC, hm] at hok
  · have hA : errA ws o (placeI p c j) = 0 := by simpa [errC, hm] using hok
    have hk : hasB ws (placeI p c j) = true ∧ o = true := by
      unfold errA at hA
      cases q : hasB ws (placeI p c j) <;> cases o <;> simp [q] at hA ⊢
    have H1 := Lib.hid (smay_any p c)
    simp only [hm] at H1
    have H2 := Lib.hid (splace_any p c j hm hj)
    have H3 := Lib.hid (fun (w1 : World) (h1 : Below w.heap.size w w1) => store_any (h.hop h1) (placeI p c j) v)
    have e1 : Go.Proofs.YteinilmecnlanaaGreatDoor.Md.stored ws o (placeI p c j) v = storeC ws p c j v := by simp [Go.Proofs.YteinilmecnlanaaGreatDoor.Md.stored, storeC, hk.1, hk.2]
    have e2 : spentO ws o (placeI p c j) = false := by simp [spentO, hk.1]
    have e3 : spentC ws o (placeI p c j) n = up n := by simp [spentC, hk.1, hk.2]
    simp only [hA, e1, e2, e3] at H3
    generalize storeC ws p c j v = x at H3 ⊢
    generalize placeI p c j = i at H2 H3
    clear hA hk e1 e2 e3 hok hm h
    go_enter Tryz.func241, Tryz.ntmps241
    go_wp2_with (first
      | (go_at_call 81; refine (H1.out _).mono ?_; rintro e w1 ⟨rfl, hw⟩; have HB1 := Lib.hid (below_alloc_step hw); obtain ⟨q0, q1, q2⟩ := spot_cells hw; clear hw)
      | (go_at_call 83; refine (H2.out _).mono ?_; rintro e w2 ⟨rfl, hw⟩; have HB2 := Lib.hid (below_step HB1.out hw); clear hw)
      | (go_at_call 222; refine (H3.out _ HB2.out).mono ?_; rintro e w3 ⟨rfl, hm1, hc1⟩; have HM := Lib.hid (And.intro hm1 (chg_from HB2.out hc1)); clear hm1 hc1))
    go_ret
    exact ⟨rfl, HM.out.1, HM.out.2⟩
theorem errA_stored {i v : Int} (h : ¬ errA ws o i = 0) : Go.Proofs.YteinilmecnlanaaGreatDoor.Md.stored ws o i v = ws := by
  unfold errA at h
  cases q : hasB ws i <;> cases o <;> simp [q] at h <;> simp [Go.Proofs.YteinilmecnlanaaGreatDoor.Md.stored, q]
theorem cstore_no (h : MemAt 116 w b g ws o n) {p c j : Int} (v : Int) (hj : 0 ≤ j ∧ j < 3) (hok : ¬ errC ws o p c j = 0) : Calls Tryz.prog 241 #[.agg #[.int .i64 p, .int .i64 c], .pointer (some ⟨b, 0, none⟩), .int .i64 j, .int .u64 v] w fun e w' => e = .returned (.int .i64 (errC ws o p c j)) ∧ MemAt 116 w' b g ws o n ∧ Chg b g w w' := by
  have H1 := Lib.hid (smay_any p c)
  cases hm : mayC c
  · have e : errC ws o p c j = 60 := by simp [errC, hm]
    rw [e]
    simp only [hm] at H1
    have HM := Lib.hid h
    clear e hok h hm
    go_enter Tryz.func241, Tryz.ntmps241
    go_wp2_with (go_at_call 81; refine (H1.out _).mono ?_; rintro e w1 ⟨rfl, hw⟩; have HB := Lib.hid (below_alloc_step hw); clear hw)
    go_ret
    exact ⟨rfl, HM.out.hop HB.out, chg_from HB.out (Chg.refl _ _ _)⟩
  · have e0 : errC ws o p c j = errA ws o (placeI p c j) := by simp [errC, hm]
    rw [e0] at hok ⊢
    simp only [hm] at H1
    obtain ⟨_, e2, e3⟩ := errA_told (n := n) hok
    have e1 := errA_stored (v := v) hok
    have H2 := Lib.hid (splace_any p c j hm hj)
    have H3 := Lib.hid (fun (w1 : World) (h1 : Below w.heap.size w w1) => store_any (h.hop h1) (placeI p c j) v)
    simp only [e1, e2, e3] at H3
    generalize errA ws o (placeI p c j) = x at H3 ⊢
    generalize placeI p c j = i at H2 H3
    clear e0 e1 e2 e3 hok hm h
    go_enter Tryz.func241, Tryz.ntmps241
    go_wp2_with (first
      | (go_at_call 81; refine (H1.out _).mono ?_; rintro e w1 ⟨rfl, hw⟩; have HB1 := Lib.hid (below_alloc_step hw); obtain ⟨q0, q1, q2⟩ := spot_cells hw; clear hw)
      | (go_at_call 83; refine (H2.out _).mono ?_; rintro e w2 ⟨rfl, hw⟩; have HB2 := Lib.hid (below_step HB1.out hw); clear hw)
      | (go_at_call 222; refine (H3.out _ HB2.out).mono ?_; rintro e w3 ⟨rfl, hm1, hc1⟩; have HM := Lib.hid (And.intro hm1 (chg_from HB2.out hc1)); clear hm1 hc1))
    go_ret
    exact ⟨rfl, HM.out.1, HM.out.2⟩
end
end Go.Proofs.YteinilmecnlanaaGreatDoor.Md.Ce
namespace Go.Proofs.YteinilmecnlanaaGreatDoor.Md.Ce
open Go.ChangeShapes Go.WideShapes Go.ChangeAt Go.RowKit Num
theorem run_equalIn_func {P : Program} (d : Nat) (t : TypeId) (f : Fn) (x y : Array Value) (w : World) {ps rs : Array TypeId} {v : Bool} (h : P.underlying t = some (.func ps rs v)) : (Op.equalIn (d + 1) t (.func f x y) .nilFunc).run P w = .ok false w := by
  simp [Op.equalIn, run_underlying h]
theorem run_equalIn_nil {P : Program} (d : Nat) (t : TypeId) (w : World) {ps rs : Array TypeId} {v : Bool} (h : P.underlying t = some (.func ps rs v)) : (Op.equalIn (d + 1) t .nilFunc .nilFunc).run P w = .ok true w := by
  simp [Op.equalIn, run_underlying h]
theorem run_equal_func {P : Program} (t : TypeId) (f : Fn) (x y : Array Value) (w : World) {ps rs : Array TypeId} {v : Bool} (h : P.underlying t = some (.func ps rs v)) : (Op.equal t (.func f x y) .nilFunc).run P w = .ok false w := run_equalIn_func 9999 t f x y w h
theorem run_equal_nil {P : Program} (t : TypeId) (w : World) {ps rs : Array TypeId} {v : Bool} (h : P.underlying t = some (.func ps rs v)) : (Op.equal t .nilFunc .nilFunc).run P w = .ok true w := run_equalIn_nil 9999 t w h
end Go.Proofs.YteinilmecnlanaaGreatDoor.Md.Ce
namespace Go.Proofs.YteinilmecnlanaaGreatDoor.Md.Ce
open Go.ChangeShapes Go.WideShapes Go.ChangeAt Go.RowKit Num
end Go.Proofs.YteinilmecnlanaaGreatDoor.Md.Ce
namespace Go.Proofs.YteinilmecnlanaaGreatDoor.Md.Ce
open Go.ChangeShapes Go.WideShapes Go.ChangeAt Go.RowKit Num
def aftO (e : Int) (o : Bool) : Bool := if e = 0 then false else o
def aftN (e n : Int) : Int := if e = 0 then up n else n
theorem alloc_at {w : World} {x : Obj} {k : Nat} (hk : w.heap.size = k) : (w.alloc x).heap[k]? = some x := by subst hk; exact heap_alloc_new _ _
/-- a plan, of which cells is looked at -/
def planV (a b c d p f : Int) : Value := .agg #[.int .i64 a, .int .i64 b, .int .i64 c, .int .i64 d, .int .i64 p, .int .i64 f]
end Go.Proofs.YteinilmecnlanaaGreatDoor.Md.Ce
namespace Go.Proofs.YteinilmecnlanaaGreatDoor.Md.Ce
open Go.ChangeShapes Go.WideShapes Go.ChangeAt Go.RowKit Num
attribute [local go_sem] run_store_float run_store_func run_store_nilFunc
/-- a write as numbers: where, what it stores (Was, Version, Now), how many were -/
structure Wt where
  p : Int
  c : Int
  a : Int
  v : Int
  z : Int
  d : Nat
theorem bl_alloc {a w : World} (h : Below a.heap.size a w) (x : Obj) : Below a.heap.size a (w.alloc x) := h.alloc h.size x
theorem bl_drew {a w : World} (h : Below a.heap.size a w) : Below a.heap.size a w.drew := ⟨h.os, h.tape, h.output, h.size, h.block⟩
theorem bl_setRow {a w : World} {k : Nat} (h : Below a.heap.size a w) (hk : a.heap.size ≤ k) (x : Array Value) : Below a.heap.size a (w.setRow k x) :=
  ⟨h.os, h.tape, h.output, by simpa using h.size, fun i hi => (setRow_other _ _ _ _ (by omega)).trans (h.block i hi)⟩
theorem chg_cell {b g k : Nat} {u w1 : World} (hc : Chg b g u w1) (hk : k < u.heap.size) (h1 : k ≠ b) (h2 : k ≠ g) (j : Nat) : w1.cell? ⟨k, j, none⟩ = u.cell? ⟨k, j, none⟩ := World.cell?_of_block (a := ⟨k, j, none⟩) (hc.block k hk h1 h2)
def wboxV (t : Wt) : Array Value := #[.int .i64 t.p, .int .i64 t.c, .int .i64 2, .int .u64 t.a, .int .i64 0, .int .u64 t.v, .int .i64 1, .int .u64 t.z, .int .i64 t.d]
def WtAt (w : World) (q : Nat) (t : Wt) : Prop := w.heap[q]? = some (.cells (wboxV t) 242 (0, 0)) ∧ t.d ≤ 3
section
variable {w : World} {q : Nat} {t : Wt}
theorem WtAt.lt (h : WtAt w q t) : q < w.heap.size := lt_of_block h.1
theorem WtAt.free (h : WtAt w q t) (j : Nat) : w.frozen? ⟨q, j, none⟩ = false := frozen_of_row w q j _ _ h.1
theorem WtAt.cell (h : WtAt w q t) (j : Nat) (v : Value) (hj : (wboxV t)[j]? = some v) : w.cell? ⟨q, j, none⟩ = some v := by rw [cell_of_row w q j _ _ _ h.1]; exact hj
theorem WtAt.keep {w' : World} (h : WtAt w q t) (k : w'.heap[q]? = w.heap[q]?) : WtAt w' q t := ⟨k.trans h.1, h.2⟩
theorem WtAt.setD (h : WtAt w q t) (hd : t.d < 3) : WtAt (w.setCell ⟨q, 8, none⟩ (.int .i64 ((t.d + 1 : Nat) : Int))) q { t with d := t.d + 1 } := ⟨(heap_setCell_same w q 8 _ _ _ h.1).trans rfl, hd⟩
end
/-- which word a write's step has, and what it gets -/
def wordW (d : Nat) : Int := if d = 0 then 2 else if d = 1 then 0 else 1
def bitsW (t : Wt) : Int := if t.d = 0 then t.a else if t.d = 1 then t.v else t.z
theorem wordW_in (d : Nat) : 0 ≤ wordW d ∧ wordW d < 3 := by unfold wordW; split <;> (try split) <;> omega
def errW (t : Wt) (ws : List Int) (o : Bool) : Int := if t.d < 3 then errC ws o t.p t.c (wordW t.d) else 3
def stepW (t : Wt) (ws : List Int) (o : Bool) : Wt := if errW t ws o = 0 then { t with d := t.d + 1 } else t
def laidW (t : Wt) (ws : List Int) (o : Bool) : List Int := if errW t ws o = 0 then storeC ws t.p t.c (wordW t.d) (bitsW t) else ws
def endW (t : Wt) (ws : List Int) (o : Bool) : Bool := decide (errW t ws o = 0) && decide (t.d = 2)
section
variable {w : World} {b g q : Nat} {ws : List Int} {o : Bool} {n : Int} {t : Wt}
theorem wover_any (h : WtAt w q t) : Calls Tryz.prog 240 #[.pointer (some ⟨q, 0, none⟩)] w fun e w' => e = .returned (.bool (decide (t.d = 3))) ∧ w' = w := by
  have h8 := h.cell 8 (.int .i64 t.d) rfl
  have hb := h.lt
  have e : decide ((t.d : Int) = 3) = decide (t.d = 3) := by rw [decide_eq_decide]; omega
  rw [← e]
  clear e h
  go_enter Tryz.func240, Tryz.ntmps240
  go_wp2
  go_ret
  exact ⟨by first | rfl | (congr 1), rfl⟩
set_option maxRecDepth 100000 in
set_option maxHeartbeats 1000000 in
theorem wstep_over (h : WtAt w q t) (hk : ¬ t.d < 3) : Calls Tryz.prog 238 #[.pointer (some ⟨q, 0, none⟩), .pointer (some ⟨b, 0, none⟩)] w fun e w' => e = .returned (.tuple #[.bool false, .int .i64 3]) ∧ w' = w := by
  have H1 := Lib.hid (wover_any h)
  rw [decide_eq_true (show t.d = 3 by have := h.2; omega)] at H1
  clear h hk
  go_enter Tryz.func238, Tryz.ntmps238
  go_wp2_with (go_at_call 240; refine H1.out.mono ?_; rintro e w1 ⟨rfl, hw⟩; subst w1)
  go_ret2
  exact ⟨rfl, rfl⟩
set_option maxRecDepth 100000 in
set_option maxHeartbeats 2000000 in
theorem wstep_ok (h : MemAt 116 w b g ws o n) (hr : WtAt w q t) (h1 : q ≠ b) (h2 : q ≠ g) (hd : t.d < 3) (hok : errC ws o t.p t.c (wordW t.d) = 0) : Calls Tryz.prog 238 #[.pointer (some ⟨q, 0, none⟩), .pointer (some ⟨b, 0, none⟩)] w fun e w' => e = .returned (.tuple #[.bool (decide (t.d = 2)), .int .i64 0]) ∧ MemAt 116 w' b g (storeC ws t.p t.c (wordW t.d) (bitsW t)) false (up n) ∧ WtAt w' q { t with d := t.d + 1 } ∧ Ch [b, g, q] w w' := by
  have H1 := Lib.hid (wover_any hr)
  rw [decide_eq_false (show ¬ t.d = 3 by omega)] at H1
  have HS := Lib.hid (fun (u : World) (k : Below w.heap.size w u) => cstore_ok (h.on k) (p := t.p) (c := t.c) (j := wordW t.d) (bitsW t) (wordW_in _) hok)
  have HR := Lib.hid hr
  have HD := Lib.hid hd
  have HN := Lib.hid (And.intro h1 h2)
  have hb := h.ltB
  have hg := h.ltG
  have hq := hr.lt
  have c0 : w.cell? ⟨q, 0, none⟩ = some (.int .i64 t.p) := hr.cell 0 _ rfl
  have c1 : w.cell? ⟨q, 1, none⟩ = some (.int .i64 t.c) := hr.cell 1 _ rfl
  have c2 : w.cell? ⟨q, 2, none⟩ = some (.int .i64 2) := hr.cell 2 _ rfl
  have c3 : w.cell? ⟨q, 3, none⟩ = some (.int .u64 t.a) := hr.cell 3 _ rfl
  have c4 : w.cell? ⟨q, 4, none⟩ = some (.int .i64 0) := hr.cell 4 _ rfl
  have c5 : w.cell? ⟨q, 5, none⟩ = some (.int .u64 t.v) := hr.cell 5 _ rfl
  have c6 : w.cell? ⟨q, 6, none⟩ = some (.int .i64 1) := hr.cell 6 _ rfl
  have c7 : w.cell? ⟨q, 7, none⟩ = some (.int .u64 t.z) := hr.cell 7 _ rfl
  have c8 : w.cell? ⟨q, 8, none⟩ = some (.int .i64 t.d) := hr.cell 8 _ rfl
  have HO := Lib.hid (fun (w1 : World) (k1 : WtAt w1 q { t with d := t.d + 1 }) => wover_any k1)
  have e2 : decide (t.d + 1 = 3) = decide (t.d = 2) := by rw [decide_eq_decide]; omega
  simp only [e2] at HO
  have HA : Hid (∀ (u w1 : World), Below w.heap.size w u → w.heap.size < u.heap.size → Chg b g u w1 → MemAt 116 w1 b g (storeC ws t.p t.c (wordW t.d) (bitsW t)) false (up n) → (w1.cell? ⟨q, 0, none⟩ = some (.int .i64 t.p) ∧ w1.cell? ⟨q, 1, none⟩ = some (.int .i64 t.c) ∧ w1.cell? ⟨w.heap.size, 0, none⟩ = u.cell? ⟨w.heap.size, 0, none⟩ ∧ w1.cell? ⟨w.heap.size, 1, none⟩ = u.cell? ⟨w.heap.size, 1, none⟩ ∧ w1.cell? ⟨q, 8, none⟩ = some (.int .i64 t.d) ∧ w1.frozen? ⟨q, 8, none⟩ = false ∧ q < w1.heap.size) ∧ Hid (WtAt (w1.setCell ⟨q, 8, none⟩ (.int .i64 ((t.d + 1 : Nat) : Int))) q { t with d := t.d + 1 } ∧ MemAt 116 (w1.setCell ⟨q, 8, none⟩ (.int .i64 ((t.d + 1 : Nat) : Int))) b g (storeC ws t.p t.c (wordW t.d) (bitsW t)) false (up n) ∧ Ch [b, g, q] w (w1.setCell ⟨q, 8, none⟩ (.int .i64 ((t.d + 1 : Nat) : Int))))) := fun u w1 k hs hc hm => by
    have k1 : WtAt w1 q t := hr.keep ((hc.block q (Nat.lt_of_lt_of_le hq k.size) h1 h2).trans (k.block q hq))
    exact ⟨⟨k1.cell 0 _ rfl, k1.cell 1 _ rfl, chg_cell hc hs (by omega) (by omega) 0, chg_cell hc hs (by omega) (by omega) 1, k1.cell 8 _ rfl, k1.free 8, k1.lt⟩, k1.setD hd, hm.other (Ne.symm h1) (Ne.symm h2) _ _, ((ch_of k _).trans (hc.ch (by simp) (by simp))).set (by simp) _ _⟩
  clear h hr hok hd e2
  generalize hyy : storeC ws t.p t.c (wordW t.d) (bitsW t) = yy at HS HA ⊢
  clear hyy
  obtain ⟨p, c, a, v, z, d⟩ := t
  simp only [wordW, bitsW] at *
  have hd : d = 0 ∨ d = 1 ∨ d = 2 := by have : d < 3 := HD.out; omega
  rcases hd with rfl | rfl | rfl
  · simp at HS HA HO c8
    go_enter Tryz.func238, Tryz.ntmps238
    go_wp2_with (go_at_call 240; refine H1.out.mono ?_; rintro e w1 ⟨rfl, hw⟩; subst w1; clear H1)
    go_region_held (fun u => u.cell? ⟨q, 0, none⟩ = some (.int .i64 p) ∧ u.cell? ⟨q, 1, none⟩ = some (.int .i64 c) ∧ u.cell? ⟨q, 2, none⟩ = some (.int .i64 2) ∧ u.cell? ⟨q, 3, none⟩ = some (.int .u64 a) ∧ u.cell? ⟨q, 4, none⟩ = some (.int .i64 0) ∧ u.cell? ⟨q, 5, none⟩ = some (.int .u64 v) ∧ u.cell? ⟨q, 6, none⟩ = some (.int .i64 1) ∧ u.cell? ⟨q, 7, none⟩ = some (.int .u64 z) ∧ u.cell? ⟨q, 8, none⟩ = some (.int .i64 0)) (go_keep) (fail)
    go_wp2
    go_region_held (fun u => u.cell? ⟨q, 0, none⟩ = some (.int .i64 p) ∧ u.cell? ⟨q, 1, none⟩ = some (.int .i64 c) ∧ u.cell? ⟨w.heap.size, 0, none⟩ = some (.int .i64 2) ∧ u.cell? ⟨w.heap.size, 1, none⟩ = some (.int .u64 a)) (go_keep) (first | (go_at_call 241; refine (HS.out _ (by repeat (first | exact Below.refl _ _ | refine bl_drew ?_ | refine bl_drewN _ ?_ | refine bl_alloc ?_ _ | refine bl_setCell ?_ (by simp) _ _ | refine bl_setRow ?_ (by simp) _))).mono ?_; rintro e w2 ⟨rfl, hm, hc⟩; obtain ⟨⟨d0, d1, d2, d3, d4, d5, d6⟩, hx⟩ := HA.out _ _ (by repeat (first | exact Below.refl _ _ | refine bl_drew ?_ | refine bl_drewN _ ?_ | refine bl_alloc ?_ _ | refine bl_setCell ?_ (by simp) _ _ | refine bl_setRow ?_ (by simp) _)) (by simp) hc hm; clear hm hc))
    go_wp2_with (go_at_call 240; refine (HO.out _ hx.out.1).mono ?_; rintro e w1 ⟨rfl, hw⟩; subst w1; clear HO)
    go_ret2
    exact ⟨by first | rfl | simp, hx.out.2.1, hx.out.1, hx.out.2.2⟩
  · simp at HS HA HO c8
    go_enter Tryz.func238, Tryz.ntmps238
    go_wp2_with (go_at_call 240; refine H1.out.mono ?_; rintro e w1 ⟨rfl, hw⟩; subst w1; clear H1)
    go_region_held (fun u => u.cell? ⟨q, 0, none⟩ = some (.int .i64 p) ∧ u.cell? ⟨q, 1, none⟩ = some (.int .i64 c) ∧ u.cell? ⟨q, 2, none⟩ = some (.int .i64 2) ∧ u.cell? ⟨q, 3, none⟩ = some (.int .u64 a) ∧ u.cell? ⟨q, 4, none⟩ = some (.int .i64 0) ∧ u.cell? ⟨q, 5, none⟩ = some (.int .u64 v) ∧ u.cell? ⟨q, 6, none⟩ = some (.int .i64 1) ∧ u.cell? ⟨q, 7, none⟩ = some (.int .u64 z) ∧ u.cell? ⟨q, 8, none⟩ = some (.int .i64 1)) (go_keep) (fail)
    go_wp2
    go_region_held (fun u => u.cell? ⟨q, 0, none⟩ = some (.int .i64 p) ∧ u.cell? ⟨q, 1, none⟩ = some (.int .i64 c) ∧ u.cell? ⟨w.heap.size, 0, none⟩ = some (.int .i64 0) ∧ u.cell? ⟨w.heap.size, 1, none⟩ = some (.int .u64 v)) (go_keep) (first | (go_at_call 241; refine (HS.out _ (by repeat (first | exact Below.refl _ _ | refine bl_drew ?_ | refine bl_drewN _ ?_ | refine bl_alloc ?_ _ | refine bl_setCell ?_ (by simp) _ _ | refine bl_setRow ?_ (by simp) _))).mono ?_; rintro e w2 ⟨rfl, hm, hc⟩; obtain ⟨⟨d0, d1, d2, d3, d4, d5, d6⟩, hx⟩ := HA.out _ _ (by repeat (first | exact Below.refl _ _ | refine bl_drew ?_ | refine bl_drewN _ ?_ | refine bl_alloc ?_ _ | refine bl_setCell ?_ (by simp) _ _ | refine bl_setRow ?_ (by simp) _)) (by simp) hc hm; clear hm hc))
    go_wp2_with (go_at_call 240; refine (HO.out _ hx.out.1).mono ?_; rintro e w1 ⟨rfl, hw⟩; subst w1; clear HO)
    go_ret2
    exact ⟨by first | rfl | simp, hx.out.2.1, hx.out.1, hx.out.2.2⟩
  · simp at HS HA HO c8
    go_enter Tryz.func238, Tryz.ntmps238
    go_wp2_with (go_at_call 240; refine H1.out.mono ?_; rintro e w1 ⟨rfl, hw⟩; subst w1; clear H1)
    go_region_held (fun u => u.cell? ⟨q, 0, none⟩ = some (.int .i64 p) ∧ u.cell? ⟨q, 1, none⟩ = some (.int .i64 c) ∧ u.cell? ⟨q, 2, none⟩ = some (.int .i64 2) ∧ u.cell? ⟨q, 3, none⟩ = some (.int .u64 a) ∧ u.cell? ⟨q, 4, none⟩ = some (.int .i64 0) ∧ u.cell? ⟨q, 5, none⟩ = some (.int .u64 v) ∧ u.cell? ⟨q, 6, none⟩ = some (.int .i64 1) ∧ u.cell? ⟨q, 7, none⟩ = some (.int .u64 z) ∧ u.cell? ⟨q, 8, none⟩ = some (.int .i64 2)) (go_keep) (fail)
    go_wp2
    go_region_held (fun u => u.cell? ⟨q, 0, none⟩ = some (.int .i64 p) ∧ u.cell? ⟨q, 1, none⟩ = some (.int .i64 c) ∧ u.cell? ⟨w.heap.size, 0, none⟩ = some (.int .i64 1) ∧ u.cell? ⟨w.heap.size, 1, none⟩ = some (.int .u64 z)) (go_keep) (first | (go_at_call 241; refine (HS.out _ (by repeat (first | exact Below.refl _ _ | refine bl_drew ?_ | refine bl_drewN _ ?_ | refine bl_alloc ?_ _ | refine bl_setCell ?_ (by simp) _ _ | refine bl_setRow ?_ (by simp) _))).mono ?_; rintro e w2 ⟨rfl, hm, hc⟩; obtain ⟨⟨d0, d1, d2, d3, d4, d5, d6⟩, hx⟩ := HA.out _ _ (by repeat (first | exact Below.refl _ _ | refine bl_drew ?_ | refine bl_drewN _ ?_ | refine bl_alloc ?_ _ | refine bl_setCell ?_ (by simp) _ _ | refine bl_setRow ?_ (by simp) _)) (by simp) hc hm; clear hm hc))
    go_wp2_with (go_at_call 240; refine (HO.out _ hx.out.1).mono ?_; rintro e w1 ⟨rfl, hw⟩; subst w1; clear HO)
    go_ret2
    exact ⟨by first | rfl | simp, hx.out.2.1, hx.out.1, hx.out.2.2⟩
set_option maxRecDepth 100000 in
set_option maxHeartbeats 2000000 in
theorem wstep_no (h : MemAt 116 w b g ws o n) (hr : WtAt w q t) (h1 : q ≠ b) (h2 : q ≠ g) (hd : t.d < 3) (hok : ¬ errC ws o t.p t.c (wordW t.d) = 0) : Calls Tryz.prog 238 #[.pointer (some ⟨q, 0, none⟩), .pointer (some ⟨b, 0, none⟩)] w fun e w' => e = .returned (.tuple #[.bool false, .int .i64 (errC ws o t.p t.c (wordW t.d))]) ∧ MemAt 116 w' b g ws o n ∧ WtAt w' q t ∧ Ch [b, g, q] w w' := by
  have H1 := Lib.hid (wover_any hr)
  rw [decide_eq_false (show ¬ t.d = 3 by omega)] at H1
  have HS := Lib.hid (fun (u : World) (k : Below w.heap.size w u) => cstore_no (h.on k) (p := t.p) (c := t.c) (j := wordW t.d) (bitsW t) (wordW_in _) hok)
  have HD := Lib.hid hd
  have hb := h.ltB
  have hg := h.ltG
  have hq := hr.lt
  have c0 : w.cell? ⟨q, 0, none⟩ = some (.int .i64 t.p) := hr.cell 0 _ rfl
  have c1 : w.cell? ⟨q, 1, none⟩ = some (.int .i64 t.c) := hr.cell 1 _ rfl
  have c2 : w.cell? ⟨q, 2, none⟩ = some (.int .i64 2) := hr.cell 2 _ rfl
  have c3 : w.cell? ⟨q, 3, none⟩ = some (.int .u64 t.a) := hr.cell 3 _ rfl
  have c4 : w.cell? ⟨q, 4, none⟩ = some (.int .i64 0) := hr.cell 4 _ rfl
  have c5 : w.cell? ⟨q, 5, none⟩ = some (.int .u64 t.v) := hr.cell 5 _ rfl
  have c6 : w.cell? ⟨q, 6, none⟩ = some (.int .i64 1) := hr.cell 6 _ rfl
  have c7 : w.cell? ⟨q, 7, none⟩ = some (.int .u64 t.z) := hr.cell 7 _ rfl
  have c8 : w.cell? ⟨q, 8, none⟩ = some (.int .i64 t.d) := hr.cell 8 _ rfl
  have HA : Hid (∀ (u w1 : World), Below w.heap.size w u → w.heap.size < u.heap.size → Chg b g u w1 → MemAt 116 w1 b g ws o n → (w1.cell? ⟨q, 0, none⟩ = some (.int .i64 t.p) ∧ w1.cell? ⟨q, 1, none⟩ = some (.int .i64 t.c) ∧ w1.cell? ⟨w.heap.size, 0, none⟩ = u.cell? ⟨w.heap.size, 0, none⟩ ∧ w1.cell? ⟨w.heap.size, 1, none⟩ = u.cell? ⟨w.heap.size, 1, none⟩) ∧ Hid (MemAt 116 w1 b g ws o n ∧ WtAt w1 q t ∧ Ch [b, g, q] w w1)) := fun u w1 k hs hc hm => by
    have k1 : WtAt w1 q t := hr.keep ((hc.block q (Nat.lt_of_lt_of_le hq k.size) h1 h2).trans (k.block q hq))
    exact ⟨⟨k1.cell 0 _ rfl, k1.cell 1 _ rfl, chg_cell hc hs (by omega) (by omega) 0, chg_cell hc hs (by omega) (by omega) 1⟩, hm, hr.keep ((hc.block q (Nat.lt_of_lt_of_le hq k.size) h1 h2).trans (k.block q hq)), ((ch_of k _).trans (hc.ch (by simp) (by simp)))⟩
  clear h hr hd
  generalize errC ws o t.p t.c (wordW t.d) = x at HS hok ⊢
  obtain ⟨p, c, a, v, z, d⟩ := t
  simp only [wordW, bitsW] at *
  have hd : d = 0 ∨ d = 1 ∨ d = 2 := by have : d < 3 := HD.out; omega
  rcases hd with rfl | rfl | rfl
  · simp at HS HA c8
    go_enter Tryz.func238, Tryz.ntmps238
    go_wp2_with (go_at_call 240; refine H1.out.mono ?_; rintro e w1 ⟨rfl, hw⟩; subst w1; clear H1)
    go_region_held (fun u => u.cell? ⟨q, 0, none⟩ = some (.int .i64 p) ∧ u.cell? ⟨q, 1, none⟩ = some (.int .i64 c) ∧ u.cell? ⟨q, 2, none⟩ = some (.int .i64 2) ∧ u.cell? ⟨q, 3, none⟩ = some (.int .u64 a) ∧ u.cell? ⟨q, 4, none⟩ = some (.int .i64 0) ∧ u.cell? ⟨q, 5, none⟩ = some (.int .u64 v) ∧ u.cell? ⟨q, 6, none⟩ = some (.int .i64 1) ∧ u.cell? ⟨q, 7, none⟩ = some (.int .u64 z) ∧ u.cell? ⟨q, 8, none⟩ = some (.int .i64 0)) (go_keep) (fail)
    go_wp2
    go_region_held (fun u => u.cell? ⟨q, 0, none⟩ = some (.int .i64 p) ∧ u.cell? ⟨q, 1, none⟩ = some (.int .i64 c) ∧ u.cell? ⟨w.heap.size, 0, none⟩ = some (.int .i64 2) ∧ u.cell? ⟨w.heap.size, 1, none⟩ = some (.int .u64 a)) (go_keep) (first | (go_at_call 241; refine (HS.out _ (by repeat (first | exact Below.refl _ _ | refine bl_drew ?_ | refine bl_drewN _ ?_ | refine bl_alloc ?_ _ | refine bl_setCell ?_ (by simp) _ _ | refine bl_setRow ?_ (by simp) _))).mono ?_; rintro e w2 ⟨rfl, hm, hc⟩; obtain ⟨⟨d0, d1, d2, d3⟩, hx⟩ := HA.out _ _ (by repeat (first | exact Below.refl _ _ | refine bl_drew ?_ | refine bl_drewN _ ?_ | refine bl_alloc ?_ _ | refine bl_setCell ?_ (by simp) _ _ | refine bl_setRow ?_ (by simp) _)) (by simp) hc hm; clear hm hc))
    go_wp2
    go_ret2
    exact ⟨rfl, hx.out⟩
  · simp at HS HA c8
    go_enter Tryz.func238, Tryz.ntmps238
    go_wp2_with (go_at_call 240; refine H1.out.mono ?_; rintro e w1 ⟨rfl, hw⟩; subst w1; clear H1)
    go_region_held (fun u => u.cell? ⟨q, 0, none⟩ = some (.int .i64 p) ∧ u.cell? ⟨q, 1, none⟩ = some (.int .i64 c) ∧ u.cell? ⟨q, 2, none⟩ = some (.int .i64 2) ∧ u.cell? ⟨q, 3, none⟩ = some (.int .u64 a) ∧ u.cell? ⟨q, 4, none⟩ = some (.int .i64 0) ∧ u.cell? ⟨q, 5, none⟩ = some (.int .u64 v) ∧ u.cell? ⟨q, 6, none⟩ = some (.int .i64 1) ∧ u.cell? ⟨q, 7, none⟩ = some (.int .u64 z) ∧ u.cell? ⟨q, 8, none⟩ = some (.int .i64 1)) (go_keep) (fail)
    go_wp2
    go_region_held (fun u => u.cell? ⟨q, 0, none⟩ = some (.int .i64 p) ∧ u.cell? ⟨q, 1, none⟩ = some (.int .i64 c) ∧ u.cell? ⟨w.heap.size, 0, none⟩ = some (.int .i64 0) ∧ u.cell? ⟨w.heap.size, 1, none⟩ = some (.int .u64 v)) (go_keep) (first | (go_at_call 241; refine (HS.out _ (by repeat (first | exact Below.refl _ _ | refine bl_drew ?_ | refine bl_drewN _ ?_ | refine bl_alloc ?_ _ | refine bl_setCell ?_ (by simp) _ _ | refine bl_setRow ?_ (by simp) _))).mono ?_; rintro e w2 ⟨rfl, hm, hc⟩; obtain ⟨⟨d0, d1, d2, d3⟩, hx⟩ := HA.out _ _ (by repeat (first | exact Below.refl _ _ | refine bl_drew ?_ | refine bl_drewN _ ?_ | refine bl_alloc ?_ _ | refine bl_setCell ?_ (by simp) _ _ | refine bl_setRow ?_ (by simp) _)) (by simp) hc hm; clear hm hc))
    go_wp2
    go_ret2
    exact ⟨rfl, hx.out⟩
  · simp at HS HA c8
    go_enter Tryz.func238, Tryz.ntmps238
    go_wp2_with (go_at_call 240; refine H1.out.mono ?_; rintro e w1 ⟨rfl, hw⟩; subst w1; clear H1)
    go_region_held (fun u => u.cell? ⟨q, 0, none⟩ = some (.int .i64 p) ∧ u.cell? ⟨q, 1, none⟩ = some (.int .i64 c) ∧ u.cell? ⟨q, 2, none⟩ = some (.int .i64 2) ∧ u.cell? ⟨q, 3, none⟩ = some (.int .u64 a) ∧ u.cell? ⟨q, 4, none⟩ = some (.int .i64 0) ∧ u.cell? ⟨q, 5, none⟩ = some (.int .u64 v) ∧ u.cell? ⟨q, 6, none⟩ = some (.int .i64 1) ∧ u.cell? ⟨q, 7, none⟩ = some (.int .u64 z) ∧ u.cell? ⟨q, 8, none⟩ = some (.int .i64 2)) (go_keep) (fail)
    go_wp2
    go_region_held (fun u => u.cell? ⟨q, 0, none⟩ = some (.int .i64 p) ∧ u.cell? ⟨q, 1, none⟩ = some (.int .i64 c) ∧ u.cell? ⟨w.heap.size, 0, none⟩ = some (.int .i64 1) ∧ u.cell? ⟨w.heap.size, 1, none⟩ = some (.int .u64 z)) (go_keep) (first | (go_at_call 241; refine (HS.out _ (by repeat (first | exact Below.refl _ _ | refine bl_drew ?_ | refine bl_drewN _ ?_ | refine bl_alloc ?_ _ | refine bl_setCell ?_ (by simp) _ _ | refine bl_setRow ?_ (by simp) _))).mono ?_; rintro e w2 ⟨rfl, hm, hc⟩; obtain ⟨⟨d0, d1, d2, d3⟩, hx⟩ := HA.out _ _ (by repeat (first | exact Below.refl _ _ | refine bl_drew ?_ | refine bl_drewN _ ?_ | refine bl_alloc ?_ _ | refine bl_setCell ?_ (by simp) _ _ | refine bl_setRow ?_ (by simp) _)) (by simp) hc hm; clear hm hc))
    go_wp2
    go_ret2
    exact ⟨rfl, hx.out⟩
theorem wstep_any (h : MemAt 116 w b g ws o n) (hr : WtAt w q t) (h1 : q ≠ b) (h2 : q ≠ g) : Calls Tryz.prog 238 #[.pointer (some ⟨q, 0, none⟩), .pointer (some ⟨b, 0, none⟩)] w fun e w' => e = .returned (.tuple #[.bool (endW t ws o), .int .i64 (errW t ws o)]) ∧ MemAt 116 w' b g (laidW t ws o) (aftO (errW t ws o) o) (aftN (errW t ws o) n) ∧ WtAt w' q (stepW t ws o) ∧ Ch [b, g, q] w w' := by
  by_cases hd : t.d < 3
  · have eE : errW t ws o = errC ws o t.p t.c (wordW t.d) := by simp [errW, hd]
    by_cases hok : errC ws o t.p t.c (wordW t.d) = 0
    · have e1 : errW t ws o = 0 := by rw [eE]; exact hok
      have e2 : endW t ws o = decide (t.d = 2) := by simp [endW, e1]
      rw [e2, laidW, stepW, if_pos e1, if_pos e1, e1]
      exact wstep_ok h hr h1 h2 hd hok
    · have e1 : ¬ errW t ws o = 0 := by rw [eE]; exact hok
      have e2 : endW t ws o = false := by simp [endW, e1]
      rw [e2, laidW, stepW, aftO, aftN, if_neg e1, if_neg e1, if_neg e1, if_neg e1, eE]
      exact wstep_no h hr h1 h2 hd hok
  · have e1 : errW t ws o = 3 := by simp [errW, hd]
    have e3 : ¬ errW t ws o = 0 := by rw [e1]; decide
    have e2 : endW t ws o = false := by simp [endW, e1]
    rw [e2, laidW, stepW, aftO, aftN, if_neg e3, if_neg e3, if_neg e3, if_neg e3, e1]
    refine (wstep_over hr hd).mono fun e w' ⟨he, hw⟩ => ?_
    subst hw
    exact ⟨he, h, hr, Ch.refl _ _⟩
end
def newW (p c v : Int) (x y : Nat) : Wt := ⟨p, c, fixB x, v, fixB y, 0⟩
set_option maxRecDepth 100000 in
set_option maxHeartbeats 1000000 in
theorem write_any (w : World) (a1 a2 a3 a4 p a6 c v : Int) (x y : Nat) : Calls Tryz.prog 227 #[planV a1 a2 a3 a4 p a6, .int .i64 c, .int .u64 v, .float .f64 x, .float .f64 y] w fun e w' => ∃ q, e = .returned (.pointer (some ⟨q, 0, none⟩)) ∧ w.heap.size ≤ q ∧ WtAt w' q (newW p c v x y) ∧ Below w.heap.size w w' := by
  unfold planV
  go_enter Tryz.func227, Tryz.ntmps227
  go_wp2
  go_region_held (fun u => u.cell? ⟨w.heap.size, 4, none⟩ = some (.int .i64 p)) (go_keep) (first | (go_at_call 155; refine (bits_any _ _).mono ?_; rintro e w1 ⟨rfl, hw⟩; subst w1))
  go_wp2
  go_ret
  refine ⟨_, rfl, by omega, ⟨alloc_at (by simp), Nat.zero_le _⟩, (by repeat (first | exact Below.refl _ _ | refine bl_drew ?_ | refine bl_drewN _ ?_ | refine bl_alloc ?_ _ | refine bl_setCell ?_ (by simp) _ _ | refine bl_setRow ?_ (by simp) _))⟩
end Go.Proofs.YteinilmecnlanaaGreatDoor.Md.Ce
namespace Go.Proofs.YteinilmecnlanaaGreatDoor.Md.Ce
open Go.ChangeShapes Go.WideShapes Go.ChangeAt Go.RowKit Num
attribute [local go_sem] run_store_float run_store_func run_store_nilFunc
def tripV (v x y : Int) : Value := .agg #[.int .u64 v, .int .u64 x, .int .u64 y]
section
variable {w : World} {b g : Nat} {ws : List Int} {o : Bool} {n : Int}
/-- what Now answers -/
def nowV (ws : List Int) (o : Bool) (p c : Int) : Nat := if errC ws o p c 1 = 0 then fixB (wordC ws p c 1).toNat else 0
set_option maxRecDepth 100000 in
set_option maxHeartbeats 1000000 in
theorem cnow_any (h : MemAt 116 w b g ws o n) (a1 a2 a3 a4 p a6 c : Int) : Calls Tryz.prog 185 #[.pointer (some ⟨b, 0, none⟩), planV a1 a2 a3 a4 p a6, .int .i64 c] w fun e w' => e = .returned (.tuple #[.float .f64 (nowV ws o p c), .int .i64 (errC ws o p c 1)]) ∧ MemAt 116 w' b g ws (aftO (errC ws o p c 1) o) (aftN (errC ws o p c 1) n) ∧ Chg b g w w' := by
  unfold planV
  by_cases hok : errC ws o p c 1 = 0
  · have HL := Lib.hid (fun (u : World) (k : Below w.heap.size w u) => cload_ok (h.on k) (p := p) (c := c) (j := 1) (by omega) hok)
    rw [nowV, if_pos hok, hok]
    generalize wordC ws p c 1 = x at HL ⊢
    clear h hok
    go_enter Tryz.func185, Tryz.ntmps185
    go_wp2_with (first
      | (go_at_call 211; refine (HL.out _ (by repeat (first | exact Below.refl _ _ | refine bl_drew ?_ | refine bl_drewN _ ?_ | refine bl_alloc ?_ _ | refine bl_setCell ?_ (by simp) _ _ | refine bl_setRow ?_ (by simp) _))).mono ?_; rintro e w1 ⟨rfl, hm, hc⟩; have HX := Lib.hid (And.intro hm (chg_from (a := w) (by repeat (first | exact Below.refl _ _ | refine bl_drew ?_ | refine bl_drewN _ ?_ | refine bl_alloc ?_ _ | refine bl_setCell ?_ (by simp) _ _ | refine bl_setRow ?_ (by simp) _)) hc)); clear hm hc)
      | (go_at_call 84; refine (of_int _ _).mono ?_; rintro e w2 ⟨rfl, hw⟩; subst w2))
    go_ret2
    exact ⟨rfl, HX.out⟩
  · have HL := Lib.hid (fun (u : World) (k : Below w.heap.size w u) => cload_no (h.on k) (p := p) (c := c) (j := 1) (by omega) hok)
    rw [nowV, aftO, aftN, if_neg hok, if_neg hok, if_neg hok]
    generalize errC ws o p c 1 = x at HL hok ⊢
    clear h
    go_enter Tryz.func185, Tryz.ntmps185
    go_wp2_with (go_at_call 211; refine (HL.out _ (by repeat (first | exact Below.refl _ _ | refine bl_drew ?_ | refine bl_drewN _ ?_ | refine bl_alloc ?_ _ | refine bl_setCell ?_ (by simp) _ _ | refine bl_setRow ?_ (by simp) _))).mono ?_; rintro e w1 ⟨rfl, hm, hc⟩; have HX := Lib.hid (And.intro hm (chg_from (a := w) (by repeat (first | exact Below.refl _ _ | refine bl_drew ?_ | refine bl_drewN _ ?_ | refine bl_alloc ?_ _ | refine bl_setCell ?_ (by simp) _ _ | refine bl_setRow ?_ (by simp) _)) hc)); clear hm hc)
    go_ret2
    exact ⟨rfl, HX.out⟩
end
/-- what a triple says of a stamp -/
def atV (v x y s : Int) : Nat := if s < v then fixB y.toNat else fixB x.toNat
set_option maxRecDepth 100000 in
theorem cat_any (v x y s : Int) (w : World) : Calls Tryz.prog 59 #[tripV v x y, .int .u64 s] w fun e w' => e = .returned (.float .f64 (atV v x y s)) ∧ Below w.heap.size w w' := by
  unfold tripV atV
  by_cases h : s < v
  · rw [if_pos h]
    go_enter Tryz.func59, Tryz.ntmps59
    go_wp2_with (go_at_call 84; refine (of_int _ _).mono ?_; rintro e w2 ⟨rfl, hw⟩; subst w2)
    go_ret
    exact ⟨rfl, (by repeat (first | exact Below.refl _ _ | refine bl_drew ?_ | refine bl_drewN _ ?_ | refine bl_alloc ?_ _ | refine bl_setCell ?_ (by simp) _ _ | refine bl_setRow ?_ (by simp) _))⟩
  · rw [if_neg h]
    go_enter Tryz.func59, Tryz.ntmps59
    go_wp2_with (go_at_call 84; refine (of_int _ _).mono ?_; rintro e w2 ⟨rfl, hw⟩; subst w2)
    go_ret
    exact ⟨rfl, (by repeat (first | exact Below.refl _ _ | refine bl_drew ?_ | refine bl_drewN _ ?_ | refine bl_alloc ?_ _ | refine bl_setCell ?_ (by simp) _ _ | refine bl_setRow ?_ (by simp) _))⟩
end Go.Proofs.YteinilmecnlanaaGreatDoor.Md.Ce
namespace Go.Proofs.YteinilmecnlanaaGreatDoor.Md.Cv
open Go.ChangeShapes Go.WideShapes Go.ChangeAt Go.RowKit
theorem follows13 : Tryz.prog.follows .mixedOrders = true := by kernel_rfl
/-- a plan, as a value -/
def plnV (a b c d e f : Int) : Value := .agg #[.int .i64 a, .int .i64 b, .int .i64 c, .int .i64 d, .int .i64 e, .int .i64 f]
def passV (t : Int) : Int := IntKind.u64.wrap (t + 1)
theorem cell_kept {w w' : World} {b : Nat} (e : w'.heap[b]? = w.heap[b]?) (o : Nat) : w'.cell? ⟨b, o, none⟩ = w.cell? ⟨b, o, none⟩ := by simp [World.cell?, e]
theorem tb_drew {B : Nat} {a w : World} (h : Below B a w) : Below B a w.drew := ⟨h.os, h.tape, h.output, h.size, h.block⟩
theorem tb_alloc {a w : World} (h : Below a.heap.size a w) (x : Obj) : Below a.heap.size a (w.alloc x) := h.alloc h.size x
theorem alloc_at {w : World} {x : Obj} {k : Nat} (hk : w.heap.size = k) : (w.alloc x).heap[k]? = some x := by subst hk; exact heap_alloc_new _ _
/-- blocks of two types are two -/
theorem ne_ty {w : World} {a b : Nat} {c d : Array Value} {S T : TypeId} {x y : Nat × Nat} (h : w.heap[a]? = some (.cells c S x)) (k : w.heap[b]? = some (.cells d T y)) (hne : (S == T) = false) : a ≠ b := by
  rintro rfl
  rw [h] at k
  cases k
  simp at hne
/-- nothing old but three blocks has turned -/
structure Ch3 (b g l : Nat) (w w' : World) : Prop where
  os : w'.os = w.os
  tape : w'.tape = w.tape
  output : w'.output = w.output
  size : w.heap.size ≤ w'.heap.size
  block : ∀ k, k < w.heap.size → k ≠ b → k ≠ g → k ≠ l → w'.heap[k]? = w.heap[k]?
section
variable {b g l : Nat} {a w c : World}
theorem Ch3.refl (b g l : Nat) (w : World) : Ch3 b g l w w := ⟨rfl, rfl, rfl, Nat.le_refl _, fun _ _ _ _ _ => rfl⟩
theorem Ch3.trans (h : Ch3 b g l a w) (k : Ch3 b g l w c) : Ch3 b g l a c :=
  ⟨k.os.trans h.os, k.tape.trans h.tape, k.output.trans h.output, Nat.le_trans h.size k.size, fun i hi h1 h2 h3 => (k.block i (Nat.lt_of_lt_of_le hi h.size) h1 h2 h3).trans (h.block i hi h1 h2 h3)⟩
theorem Ch3.chg (h : Ch3 b g l a w) (k : Chg b g w c) : Ch3 b g l a c := h.trans ⟨k.os, k.tape, k.output, k.size, fun i hi h1 h2 _ => k.block i hi h1 h2⟩
theorem Ch3.on (h : Ch3 b g l a w) (k : Below w.heap.size w c) : Ch3 b g l a c := h.trans ⟨k.os, k.tape, k.output, k.size, fun i hi _ _ _ => k.block i hi⟩
theorem Ch3.set (h : Ch3 b g l a w) (j : Nat) (u : Value) : Ch3 b g l a (w.setCell ⟨l, j, none⟩ u) := h.trans ⟨rfl, rfl, rfl, by simp, fun k _ _ _ h3 => heap_setCell_other _ _ _ _ h3⟩
end
theorem chg_from {a w w' : World} {b g : Nat} (h : Below a.heap.size a w) (k : Chg b g w w') : Chg b g a w' := (Chg.trans ⟨h.os, h.tape, h.output, h.size, fun i hi _ _ => h.block i hi⟩ k)
/-- may a thread be; where its word is -/
def may8 (t : Int) : Bool := decide (0 ≤ t ∧ t < 8)
def plc (p t : Int) : Int := if 0 ≤ p ∧ p ≤ 4096 then p + t else -1
theorem may8_pos {t : Int} (h : may8 t = true) : 0 ≤ t ∧ t < 8 := of_decide_eq_true h
theorem splace_any (p t : Int) (ht : may8 t = true) (w : World) : Calls Tryz.prog 235 #[.agg #[.int .i64 p, .int .i64 t]] w fun e w' => e = .returned (.int .i64 (plc p t)) ∧ Below w.heap.size w w' := by
  obtain ⟨ht0, ht1⟩ := may8_pos ht
  clear ht
  by_cases h1 : 0 ≤ p
  · by_cases h2 : p ≤ 4096
    · have e : plc p t = p + t := by simp [plc, h1, h2]
      have e1 : wrap64 (p + t) = p + t := Go.IntWalk.wrap64_in _ ⟨by omega, by omega⟩
      have h1' : ¬ p < 0 := by omega
      have h2' : ¬ 4096 < p := by omega
      rw [e]
      clear e ht0 ht1
      go_enter Tryz.func235, Tryz.ntmps235
      go_wp2
      go_ret
      exact ⟨rfl, (Below.refl _ _).alloc (Nat.le_refl _) _⟩
    · have e : plc p t = -1 := by simp [plc, h2]
      rw [e]
      clear e ht0 ht1
      have h1' : ¬ p < 0 := by omega
      have h2' : 4096 < p := by omega
      go_enter Tryz.func235, Tryz.ntmps235
      go_wp2
      go_ret
      exact ⟨rfl, (Below.refl _ _).alloc (Nat.le_refl _) _⟩
  · have e : plc p t = -1 := by simp [plc, h1]
    rw [e]
    clear e ht0 ht1
    have h1' : p < 0 := by omega
    go_enter Tryz.func235, Tryz.ntmps235
    go_wp2
    go_ret
    exact ⟨rfl, (Below.refl _ _).alloc (Nat.le_refl _) _⟩
end Go.Proofs.YteinilmecnlanaaGreatDoor.Md.Cv
namespace Go.Proofs.YteinilmecnlanaaGreatDoor.Md.Cv
open Go.ChangeShapes Go.WideShapes Go.ChangeAt Go.RowKit
theorem ok_facts {ws : List Int} {o : Bool} {i : Int} (h : errA ws o i = 0) : (∀ v, stored ws o i v = ws.set i.toNat v) ∧ spentO ws o i = false ∧ (∀ n, spentC ws o i n = up n) ∧ toldW ws o i = wordAt ws i ∧ hasB ws i = true ∧ o = true := by
  have hk : hasB ws i = true ∧ o = true := by
    unfold errA at h
    cases q : hasB ws i <;> cases o <;> simp [q] at h ⊢
  obtain ⟨h1, rfl⟩ := hk
  exact ⟨fun v => by simp [stored, h1], by simp [spentO, h1], fun n => by simp [spentC, h1], by simp [toldW, h1], h1, rfl⟩
theorem no_facts {ws : List Int} {o : Bool} {i : Int} (h : ¬ errA ws o i = 0) : (∀ v, stored ws o i v = ws) ∧ spentO ws o i = o ∧ (∀ n, spentC ws o i n = n) ∧ toldW ws o i = 0 := by
  have hk : (hasB ws i && o) = false := by
    unfold errA at h
    cases q : hasB ws i <;> cases o <;> simp [q] at h ⊢
  refine ⟨fun v => by simp [stored, hk], ?_, fun n => by simp [spentC, hk], by simp [toldW, hk]⟩
  unfold spentO
  cases q : hasB ws i <;> cases o <;> simp_all
end Go.Proofs.YteinilmecnlanaaGreatDoor.Md.Cv
namespace Go.Proofs.YteinilmecnlanaaGreatDoor.Md.Cv
open Go.ChangeShapes Go.WideShapes Go.ChangeAt Go.RowKit
end Go.Proofs.YteinilmecnlanaaGreatDoor.Md.Cv
namespace Go.Proofs.YteinilmecnlanaaGreatDoor.Md.Cv
open Go.ChangeShapes Go.WideShapes Go.ChangeAt Go.RowKit
/-- a scan: the census, how many threads, what is needed, the next thread, the polls -/
structure Ss where
  B : Int
  H : Int
  D : Int
  P : Int
  Q : Int
def ScAt (w : World) (x : Nat) (s : Ss) : Prop := w.heap[x]? = some (.cells #[.int .i64 s.B, .int .i64 s.H, .int .u64 s.D, .int .i64 s.P, .int .i64 s.Q] 228 (0, 0))
def mayH (h : Int) : Bool := decide (1 ≤ h ∧ h ≤ 8)
def letB (d v : Int) : Bool := decide (v = 0) || decide (d < v)
/-- what holds of every scan -/
structure SOk (s : Ss) : Prop where
  p : 0 ≤ s.P
  h : mayH s.H = true → s.P ≤ s.H
def sE (s : Ss) (ws : List Int) (o : Bool) : Int := if mayH s.H then (if s.P = s.H then 3 else errA ws o (plc s.B s.P)) else 100
def sN (s : Ss) (v : Int) : Ss := if letB s.D v then ⟨s.B, s.H, s.D, s.P + 1, s.Q⟩ else ⟨s.B, s.H, s.D, s.P, up s.Q⟩
def sC (s : Ss) (ws : List Int) (o : Bool) : Ss := if sE s ws o = 0 then sN s (wordAt ws (plc s.B s.P)) else s
def sO (s : Ss) (ws : List Int) (o : Bool) : Bool := decide (sE s ws o = 0) && decide ((sC s ws o).P = s.H)
def sP (s : Ss) (ws : List Int) (o : Bool) : Bool := if sE s ws o = 0 then false else o
def sQ (s : Ss) (ws : List Int) (o : Bool) (n : Int) : Int := if sE s ws o = 0 then up n else n
theorem sN_parts (s : Ss) (v : Int) : (sN s v).B = s.B ∧ (sN s v).H = s.H ∧ (sN s v).D = s.D := by
  unfold sN
  split <;> exact ⟨rfl, rfl, rfl⟩
section
variable {w w' : World} {x : Nat} {s : Ss}
theorem ScAt.lt (h : ScAt w x s) : x < w.heap.size := lt_of_block h
theorem ScAt.keep (h : ScAt w x s) (e : w'.heap[x]? = w.heap[x]?) : ScAt w' x s := e.trans h
theorem ScAt.on (h : ScAt w x s) (k : Below w.heap.size w w') : ScAt w' x s := h.keep (k.block x h.lt)
theorem ScAt.cells (h : ScAt w x s) : w.cell? ⟨x, 0, none⟩ = some (.int .i64 s.B) ∧ w.cell? ⟨x, 1, none⟩ = some (.int .i64 s.H) ∧ w.cell? ⟨x, 2, none⟩ = some (.int .u64 s.D) ∧ w.cell? ⟨x, 3, none⟩ = some (.int .i64 s.P) ∧ w.cell? ⟨x, 4, none⟩ = some (.int .i64 s.Q) ∧ x < w.heap.size ∧ w.frozen? ⟨x, 3, none⟩ = false ∧ w.frozen? ⟨x, 4, none⟩ = false :=
  ⟨by rw [cell_of_row w x 0 _ _ _ h]; rfl, by rw [cell_of_row w x 1 _ _ _ h]; rfl, by rw [cell_of_row w x 2 _ _ _ h]; rfl, by rw [cell_of_row w x 3 _ _ _ h]; rfl, by rw [cell_of_row w x 4 _ _ _ h]; rfl, lt_of_block h, frozen_of_row w x 3 _ _ h, frozen_of_row w x 4 _ _ h⟩
theorem ScAt.setP (h : ScAt w x s) (v : Int) : ScAt (w.setCell ⟨x, 3, none⟩ (.int .i64 v)) x ⟨s.B, s.H, s.D, v, s.Q⟩ := (heap_setCell_same w x 3 _ _ _ h).trans rfl
theorem ScAt.setQ (h : ScAt w x s) (v : Int) : ScAt (w.setCell ⟨x, 4, none⟩ (.int .i64 v)) x ⟨s.B, s.H, s.D, s.P, v⟩ := (heap_setCell_same w x 4 _ _ _ h).trans rfl
theorem mayS_any (h : ScAt w x s) : Calls Tryz.prog 224 #[.pointer (some ⟨x, 0, none⟩)] w fun e w' => e = .returned (.bool (mayH s.H)) ∧ w' = w := by
  obtain ⟨h0, h1, h2, h3, h4, h5, _⟩ := h.cells
  clear h
  unfold mayH
  by_cases q1 : 1 ≤ s.H
  · by_cases q2 : s.H ≤ 8
    · go_enter Tryz.func224, Tryz.ntmps224
      go_wp2
      go_ret
      exact ⟨by first | (simp; done) | (simp; omega), rfl⟩
    · go_enter Tryz.func224, Tryz.ntmps224
      go_wp2
      go_ret
      exact ⟨by first | (simp; done) | (simp; omega), rfl⟩
  · go_enter Tryz.func224, Tryz.ntmps224
    go_wp2
    go_ret
    exact ⟨by first | (simp; done) | (simp; omega), rfl⟩
set_option maxRecDepth 100000 in
theorem overS_any (h : ScAt w x s) : Calls Tryz.prog 223 #[.pointer (some ⟨x, 0, none⟩)] w fun e w' => e = .returned (.bool (mayH s.H && decide (s.P = s.H))) ∧ Below w.heap.size w w' := by
  obtain ⟨h0, h1, h2, h3, h4, h5, _⟩ := h.cells
  have HY := Lib.hid (mayS_any (h.on (tb_drew (Below.refl _ _))))
  clear h
  cases hm : mayH s.H
  · rw [hm] at HY
    have q := hm
    go_enter Tryz.func223, Tryz.ntmps223
    go_wp2
    refine wp_region_seq (fun w' => w'.cell? ⟨x, 1, none⟩ = some (.int .i64 s.H) ∧ w'.cell? ⟨x, 3, none⟩ = some (.int .i64 s.P)) ((0, true) :: (1, false) :: (2, true) :: (3, true) :: (4, true) :: (5, true) :: (6, true) :: (7, true) :: (8, true) :: (9, true) :: (10, true) :: (11, true) :: (12, true) :: (13, true) :: []) follows13 (by kernel_rfl) (fun _ _ _ _ _ h => h) ⟨h1, h3⟩ ?_
    repeat (first | (refine wpSeq_take (v := ?_) rfl (by rfl) (fun wq hSq => ?_) ?_; rotate_left; (focus ((try dsimp only at hSq); go_simp; try with_reducible rfl)); simp only [Act.put, List.setIfInBounds_toArray, List.set_cons_zero, List.set_cons_succ]) | (refine wpSeq_skip rfl (by rfl) ?_; simp only [Act.put, List.setIfInBounds_toArray, List.set_cons_zero, List.set_cons_succ]))
    refine wpSeq_do rfl (by rfl) (fun KK hK => ?_)
    go_simp
    refine HY.out.mono ?_
    rintro e w1 ⟨rfl, hw⟩
    subst w1
    refine hK.out _ _ ⟨h1, h3⟩ ?_
    clear hK KK
    try simp only [Act.put, List.setIfInBounds_toArray, List.set_cons_zero, List.set_cons_succ]
    repeat (first | (refine wpSeq_take (v := ?_) rfl (by rfl) (fun wq hSq => ?_) ?_; rotate_left; (focus ((try dsimp only at hSq); go_simp; try with_reducible rfl)); simp only [Act.put, List.setIfInBounds_toArray, List.set_cons_zero, List.set_cons_succ]) | (refine wpSeq_skip rfl (by rfl) ?_; simp only [Act.put, List.setIfInBounds_toArray, List.set_cons_zero, List.set_cons_succ]))
    refine wpSeq_nil ?_
    go_wp2
    go_ret
    exact ⟨by first | rfl | simp [q], tb_drew (Below.refl _ _)⟩
  · rw [hm] at HY
    by_cases q : s.P = s.H
    · rw [decide_eq_true q]
      go_enter Tryz.func223, Tryz.ntmps223
      go_wp2
      refine wp_region_seq (fun w' => w'.cell? ⟨x, 1, none⟩ = some (.int .i64 s.H) ∧ w'.cell? ⟨x, 3, none⟩ = some (.int .i64 s.P)) ((0, true) :: (1, false) :: (2, true) :: (3, true) :: (4, true) :: (5, true) :: (6, true) :: (7, true) :: (8, true) :: (9, true) :: (10, true) :: (11, true) :: (12, true) :: (13, true) :: []) follows13 (by kernel_rfl) (fun _ _ _ _ _ h => h) ⟨h1, h3⟩ ?_
      repeat (first | (refine wpSeq_take (v := ?_) rfl (by rfl) (fun wq hSq => ?_) ?_; rotate_left; (focus ((try dsimp only at hSq); go_simp; try with_reducible rfl)); simp only [Act.put, List.setIfInBounds_toArray, List.set_cons_zero, List.set_cons_succ]) | (refine wpSeq_skip rfl (by rfl) ?_; simp only [Act.put, List.setIfInBounds_toArray, List.set_cons_zero, List.set_cons_succ]))
      refine wpSeq_do rfl (by rfl) (fun KK hK => ?_)
      go_simp
      refine HY.out.mono ?_
      rintro e w1 ⟨rfl, hw⟩
      subst w1
      refine hK.out _ _ ⟨h1, h3⟩ ?_
      clear hK KK
      try simp only [Act.put, List.setIfInBounds_toArray, List.set_cons_zero, List.set_cons_succ]
      repeat (first | (refine wpSeq_take (v := ?_) rfl (by rfl) (fun wq hSq => ?_) ?_; rotate_left; (focus ((try dsimp only at hSq); go_simp; try with_reducible rfl)); simp only [Act.put, List.setIfInBounds_toArray, List.set_cons_zero, List.set_cons_succ]) | (refine wpSeq_skip rfl (by rfl) ?_; simp only [Act.put, List.setIfInBounds_toArray, List.set_cons_zero, List.set_cons_succ]))
      refine wpSeq_nil ?_
      go_wp2
      go_ret
      exact ⟨by first | rfl | simp [q], tb_drew (Below.refl _ _)⟩
    · rw [decide_eq_false q]
      go_enter Tryz.func223, Tryz.ntmps223
      go_wp2
      refine wp_region_seq (fun w' => w'.cell? ⟨x, 1, none⟩ = some (.int .i64 s.H) ∧ w'.cell? ⟨x, 3, none⟩ = some (.int .i64 s.P)) ((0, true) :: (1, false) :: (2, true) :: (3, true) :: (4, true) :: (5, true) :: (6, true) :: (7, true) :: (8, true) :: (9, true) :: (10, true) :: (11, true) :: (12, true) :: (13, true) :: []) follows13 (by kernel_rfl) (fun _ _ _ _ _ h => h) ⟨h1, h3⟩ ?_
      repeat (first | (refine wpSeq_take (v := ?_) rfl (by rfl) (fun wq hSq => ?_) ?_; rotate_left; (focus ((try dsimp only at hSq); go_simp; try with_reducible rfl)); simp only [Act.put, List.setIfInBounds_toArray, List.set_cons_zero, List.set_cons_succ]) | (refine wpSeq_skip rfl (by rfl) ?_; simp only [Act.put, List.setIfInBounds_toArray, List.set_cons_zero, List.set_cons_succ]))
      refine wpSeq_do rfl (by rfl) (fun KK hK => ?_)
      go_simp
      refine HY.out.mono ?_
      rintro e w1 ⟨rfl, hw⟩
      subst w1
      refine hK.out _ _ ⟨h1, h3⟩ ?_
      clear hK KK
      try simp only [Act.put, List.setIfInBounds_toArray, List.set_cons_zero, List.set_cons_succ]
      repeat (first | (refine wpSeq_take (v := ?_) rfl (by rfl) (fun wq hSq => ?_) ?_; rotate_left; (focus ((try dsimp only at hSq); go_simp; try with_reducible rfl)); simp only [Act.put, List.setIfInBounds_toArray, List.set_cons_zero, List.set_cons_succ]) | (refine wpSeq_skip rfl (by rfl) ?_; simp only [Act.put, List.setIfInBounds_toArray, List.set_cons_zero, List.set_cons_succ]))
      refine wpSeq_nil ?_
      go_wp2
      go_ret
      exact ⟨by first | rfl | simp [q], tb_drew (Below.refl _ _)⟩
theorem lets_any (h : ScAt w x s) (v : Int) : Calls Tryz.prog 236 #[.pointer (some ⟨x, 0, none⟩), .int .u64 v] w fun e w' => e = .returned (.bool (letB s.D v)) ∧ w' = w := by
  obtain ⟨h0, h1, h2, h3, h4, h5, _⟩ := h.cells
  clear h
  unfold letB
  by_cases q1 : v = 0
  · rw [decide_eq_true q1, Bool.true_or]
    go_enter Tryz.func236, Tryz.ntmps236
    go_wp2
    go_ret
    exact ⟨by simp, rfl⟩
  · rw [decide_eq_false q1, Bool.false_or]
    by_cases q2 : s.D < v
    · rw [decide_eq_true q2]
      go_enter Tryz.func236, Tryz.ntmps236
      go_wp2
      go_ret
      exact ⟨by simp, rfl⟩
    · rw [decide_eq_false q2]
      go_enter Tryz.func236, Tryz.ntmps236
      go_wp2
      go_ret
      exact ⟨by simp [q1], rfl⟩
theorem look_any (a0 a1 a2 a3 a4 a5 t d : Int) (w : World) : Calls Tryz.prog 187 #[plnV a0 a1 a2 a3 a4 a5, .int .i64 t, .int .u64 d] w fun e w' => ∃ x, e = .returned (.pointer (some ⟨x, 0, none⟩)) ∧ w.heap.size ≤ x ∧ ScAt w' x ⟨a3, t, d, 0, 0⟩ ∧ Below w.heap.size w w' := by
  unfold plnV
  go_enter Tryz.func187, Tryz.ntmps187
  go_wp2
  go_ret
  exact ⟨_, rfl, by simp, alloc_at (by simp), tb_alloc (tb_alloc (Below.refl _ _) _) _⟩
end
section
variable {w : World} {b g x : Nat} {ws : List Int} {o : Bool} {n : Int} {s : Ss}
theorem ScAt.ne (h : ScAt w x s) (m : MemAt 116 w b g ws o n) : x ≠ b ∧ x ≠ g := ⟨ne_ty h m.box rfl, ne_ty h m.row rfl⟩
set_option maxRecDepth 100000 in
set_option maxHeartbeats 2000000 in
theorem sacc_any (h : MemAt 116 w b g ws o n) (hx : ScAt w x s) {k m : Nat} (hk : s.P = k) (hm : s.H = m) (hkm : k < m) (hm8 : m ≤ 8) {er : Int} (her : errA ws o (plc s.B s.P) = er) : Calls Tryz.prog 225 #[.pointer (some ⟨x, 0, none⟩), .pointer (some ⟨b, 0, none⟩)] w fun e w' => e = .returned (.int .i64 er) ∧ MemAt 116 w' b g ws (spentO ws o (plc s.B s.P)) (spentC ws o (plc s.B s.P) n) ∧ ScAt w' x (if er = 0 then sN s (toldW ws o (plc s.B s.P)) else s) ∧ Ch3 b g x w w' := by
  have HN := Lib.hid (hx.ne h)
  have HM := Lib.hid h
  have HX := Lib.hid hx
  have HPL := Lib.hid (splace_any s.B k (decide_eq_true (by omega)))
  obtain ⟨h0, h1, h2, h3, h4, h5, h6, h7⟩ := hx.cells
  rw [hk] at h3
  rw [hm] at h1
  have HLD := Lib.hid (fun w1 (hb : Below w.heap.size w w1) => load_any (h.on hb) (plc s.B k))
  have HHK := Lib.hid hk
  rw [hk] at her ⊢
  rw [her] at HLD
  have HER := Lib.hid her
  clear h hx hk hm her
  go_enter Tryz.func225, Tryz.ntmps225
  go_wp2
  go_step3
  go_wp2
  go_step3
  go_wp2
  go_loopw [12] (fun vi wr => ∃ i : Nat, vi = .int .i64 i ∧ wr = w ∧ i ≤ k) (fun vi _ => k - (intOf vi).toNat)
  case atStart => exact ⟨0, rfl, rfl, Nat.zero_le _⟩
  case round =>
    obtain ⟨i, rfl, rfl, hi⟩ := hrel
    have him : (i : Int) < (m : Int) := by omega
    by_cases hlt : i < k
    · have hlt' : (i : Int) < (k : Int) := by omega
      go_wp2
      exact ⟨⟨i + 1, by first | rfl | (congr 1), by trivial, by omega⟩, by simp [intOf]; omega⟩
    · have e : i = k := by omega
      subst e
      have hlt' : ¬ (i : Int) < (i : Int) := by omega
      clear hlt hi
      by_cases q : er = 0
      · subst q
        obtain ⟨v, hv⟩ : ∃ v, toldW ws o (plc s.B i) = v := ⟨_, rfl⟩
        rw [hv] at HLD
        have HV := Lib.hid hv
        clear hv
        cases hl : letB s.D v
        · go_wp2_with (first
            | (go_at_call 235; refine (HPL.out _).mono ?_; rintro e w1 ⟨rfl, hb⟩; have HB := Lib.hid hb; clear hb)
            | (go_at_call 23; refine (HLD.out _ HB.out).mono ?_; rintro e w2 ⟨rfl, hm, hc⟩; have HM2 := Lib.hid hm; have HC2 := Lib.hid (chg_from HB.out hc); have HX2 := Lib.hid (HX.out.keep (HC2.out.block x h5 HN.out.1 HN.out.2)); obtain ⟨k0, k1, k2, k3, k4, k5, k6, k7⟩ := HX2.out.cells; clear hm hc)
            | (go_at_call 236; refine (lets_any HX2.out v).mono ?_; rw [hl]; rintro e w3 ⟨rfl, hw⟩; subst w3))
          try rw [Exit.noGoto_ret]
          go_ret
          rw [if_pos rfl, HV.out, sN, hl]
          exact ⟨rfl, HM2.out.other HN.out.1.symm HN.out.2.symm _ _, HX2.out.setQ _, ((Ch3.refl _ _ _ _).chg HC2.out).set _ _⟩
        · go_wp2_with (first
            | (go_at_call 235; refine (HPL.out _).mono ?_; rintro e w1 ⟨rfl, hb⟩; have HB := Lib.hid hb; clear hb)
            | (go_at_call 23; refine (HLD.out _ HB.out).mono ?_; rintro e w2 ⟨rfl, hm, hc⟩; have HM2 := Lib.hid hm; have HC2 := Lib.hid (chg_from HB.out hc); have HX2 := Lib.hid (HX.out.keep (HC2.out.block x h5 HN.out.1 HN.out.2)); obtain ⟨k0, k1, k2, k3, k4, k5, k6, k7⟩ := HX2.out.cells; clear hm hc)
            | (go_at_call 236; refine (lets_any HX2.out v).mono ?_; rw [hl]; rintro e w3 ⟨rfl, hw⟩; subst w3))
          try rw [Exit.noGoto_ret]
          go_ret
          rw [if_pos rfl, HV.out, sN, hl, HHK.out]
          exact ⟨rfl, HM2.out.other HN.out.1.symm HN.out.2.symm _ _, HX2.out.setP _, ((Ch3.refl _ _ _ _).chg HC2.out).set _ _⟩
      · go_wp2_with (first
          | (go_at_call 235; refine (HPL.out _).mono ?_; rintro e w1 ⟨rfl, hb⟩; have HB := Lib.hid hb; clear hb)
          | (go_at_call 23; refine (HLD.out _ HB.out).mono ?_; rintro e w2 ⟨rfl, hm, hc⟩; have HM2 := Lib.hid hm; have HC2 := Lib.hid (chg_from HB.out hc); have HX2 := Lib.hid (HX.out.keep (HC2.out.block x h5 HN.out.1 HN.out.2)); clear hm hc))
        try rw [Exit.noGoto_ret]
        go_ret
        rw [if_neg q]
        exact ⟨rfl, HM2.out, HX2.out, (Ch3.refl _ _ _ _).chg HC2.out⟩
end
end Go.Proofs.YteinilmecnlanaaGreatDoor.Md.Cv
namespace Go.Proofs.YteinilmecnlanaaGreatDoor.Md.Cv
open Go.ChangeShapes Go.WideShapes Go.ChangeAt Go.RowKit
section
variable {w : World} {b g x : Nat} {ws : List Int} {o : Bool} {n : Int} {s : Ss}
set_option maxRecDepth 100000 in
theorem sstep_over (hx : ScAt w x s) (hm : mayH s.H = true) (hp : s.P = s.H) (b : Nat) : Calls Tryz.prog 213 #[.pointer (some ⟨x, 0, none⟩), .pointer (some ⟨b, 0, none⟩)] w fun e w' => e = .returned (.tuple #[.bool false, .int .i64 3]) ∧ Below w.heap.size w w' := by
  have HO := Lib.hid (overS_any hx)
  rw [hm, decide_eq_true hp] at HO
  clear hx hm hp
  go_enter Tryz.func213, Tryz.ntmps213
  go_wp2_with (go_at_call 223; refine HO.out.mono ?_; rintro e w1 ⟨rfl, hb⟩; have HB := Lib.hid hb; clear hb)
  go_ret2
  exact ⟨rfl, HB.out⟩
set_option maxRecDepth 100000 in
theorem sstep_may (hx : ScAt w x s) (hm : mayH s.H = false) (b : Nat) : Calls Tryz.prog 213 #[.pointer (some ⟨x, 0, none⟩), .pointer (some ⟨b, 0, none⟩)] w fun e w' => e = .returned (.tuple #[.bool false, .int .i64 100]) ∧ Below w.heap.size w w' := by
  have HO := Lib.hid (overS_any hx)
  rw [hm, Bool.false_and] at HO
  have HY := Lib.hid (fun w1 (hb : Below w.heap.size w w1) => mayS_any (hx.on hb))
  rw [hm] at HY
  clear hx hm
  go_enter Tryz.func213, Tryz.ntmps213
  go_wp2_with (first
    | (go_at_call 223; refine HO.out.mono ?_; rintro e w1 ⟨rfl, hb⟩; have HB := Lib.hid hb; clear hb)
    | (go_at_call 224; refine (HY.out _ HB.out).mono ?_; rintro e w2 ⟨rfl, hw⟩; subst w2))
  go_ret2
  exact ⟨rfl, HB.out⟩
set_option maxRecDepth 100000 in
set_option maxHeartbeats 1000000 in
theorem sstep_go (h : MemAt 116 w b g ws o n) (hx : ScAt w x s) (hok : SOk s) (hm : mayH s.H = true) (hp : s.P ≠ s.H) {er : Int} (her : errA ws o (plc s.B s.P) = er) : Calls Tryz.prog 213 #[.pointer (some ⟨x, 0, none⟩), .pointer (some ⟨b, 0, none⟩)] w fun e w' => e = .returned (.tuple #[.bool (decide (er = 0) && decide ((sN s (toldW ws o (plc s.B s.P))).P = s.H)), .int .i64 er]) ∧ MemAt 116 w' b g ws (spentO ws o (plc s.B s.P)) (spentC ws o (plc s.B s.P) n) ∧ ScAt w' x (if er = 0 then sN s (toldW ws o (plc s.B s.P)) else s) ∧ Ch3 b g x w w' := by
  have HO := Lib.hid (overS_any hx)
  rw [hm, decide_eq_false hp] at HO
  have HY := Lib.hid (fun w1 (hb : Below w.heap.size w w1) => mayS_any (hx.on hb))
  rw [hm] at HY
  have h1 := of_decide_eq_true hm
  have h2 := hok.p
  have h3 := hok.h hm
  have HA := Lib.hid (fun w1 (hb : Below w.heap.size w w1) => sacc_any (h.on hb) (hx.on hb) (k := s.P.toNat) (m := s.H.toNat) (by omega) (by omega) (by omega) (by omega) her)
  have HS := Lib.hid (sN_parts s (toldW ws o (plc s.B s.P)))
  have HM0 := Lib.hid hm
  generalize sN s (toldW ws o (plc s.B s.P)) = s2 at *
  clear h hx hm her h1 h2 h3 hok hp
  by_cases q : er = 0
  · subst q
    rw [if_pos rfl] at HA
    rw [if_pos rfl, decide_eq_true rfl, Bool.true_and]
    go_enter Tryz.func213, Tryz.ntmps213
    go_wp2_with (first
      | (go_at_call 223; refine HO.out.mono ?_; rintro e w1 ⟨rfl, hb⟩; have HB := Lib.hid hb; clear hb HO)
      | (go_at_call 224; refine (HY.out _ HB.out).mono ?_; rintro e w2 ⟨rfl, hw⟩; subst w2)
      | (go_at_call 225; refine (HA.out _ HB.out).mono ?_; rintro e w2 ⟨rfl, hm, hx, hc⟩; have HM2 := Lib.hid hm; have HX2 := Lib.hid hx; have HC2 := Lib.hid ((Ch3.refl _ _ _ _).on HB.out |>.trans hc); clear hm hx hc)
      | (go_at_call 223; refine (overS_any HX2.out).mono ?_; rw [HS.out.2.1, HM0.out, Bool.true_and]; rintro e w3 ⟨rfl, hb⟩; have HB3 := Lib.hid hb; clear hb))
    go_ret2
    exact ⟨rfl, HM2.out.on HB3.out, HX2.out.on HB3.out, HC2.out.on HB3.out⟩
  · rw [if_neg q] at HA
    rw [if_neg q, decide_eq_false q, Bool.false_and]
    go_enter Tryz.func213, Tryz.ntmps213
    go_wp2_with (first
      | (go_at_call 223; refine HO.out.mono ?_; rintro e w1 ⟨rfl, hb⟩; have HB := Lib.hid hb; clear hb HO)
      | (go_at_call 224; refine (HY.out _ HB.out).mono ?_; rintro e w2 ⟨rfl, hw⟩; subst w2)
      | (go_at_call 225; refine (HA.out _ HB.out).mono ?_; rintro e w2 ⟨rfl, hm, hx, hc⟩; have HM2 := Lib.hid hm; have HX2 := Lib.hid hx; have HC2 := Lib.hid ((Ch3.refl _ _ _ _).on HB.out |>.trans hc); clear hm hx hc))
    go_ret2
    exact ⟨rfl, HM2.out, HX2.out, HC2.out⟩
theorem sstep_any (h : MemAt 116 w b g ws o n) (hx : ScAt w x s) (hok : SOk s) : Calls Tryz.prog 213 #[.pointer (some ⟨x, 0, none⟩), .pointer (some ⟨b, 0, none⟩)] w fun e w' => e = .returned (.tuple #[.bool (sO s ws o), .int .i64 (sE s ws o)]) ∧ MemAt 116 w' b g ws (sP s ws o) (sQ s ws o n) ∧ ScAt w' x (sC s ws o) ∧ Ch3 b g x w w' := by
  cases hm : mayH s.H
  · have e : sE s ws o = 100 := by simp [sE, hm]
    unfold sO sP sQ sC
    rw [e]
    refine (sstep_may hx hm b).mono ?_
    rintro r w' ⟨rfl, hb⟩
    exact ⟨by simp, by simpa using h.on hb, by simpa using hx.on hb, (Ch3.refl _ _ _ _).on hb⟩
  · by_cases h3 : s.P = s.H
    · have e : sE s ws o = 3 := by simp [sE, hm, h3]
      unfold sO sP sQ sC
      rw [e]
      refine (sstep_over hx hm h3 b).mono ?_
      rintro r w' ⟨rfl, hb⟩
      exact ⟨by simp, by simpa using h.on hb, by simpa using hx.on hb, (Ch3.refl _ _ _ _).on hb⟩
    · have e : sE s ws o = errA ws o (plc s.B s.P) := by simp [sE, h3, hm]
      unfold sO sP sQ sC
      rw [e]
      refine (sstep_go h hx hok hm h3 rfl).mono ?_
      rintro r w' ⟨rfl, hm', hx', hch⟩
      by_cases q : errA ws o (plc s.B s.P) = 0
      · have f := ok_facts q
        rw [f.2.1, f.2.2.1] at hm'
        rw [if_pos q, f.2.2.2.1] at hx'
        rw [f.2.2.2.1, if_pos q, if_pos q, if_pos q]
        exact ⟨rfl, hm', hx', hch⟩
      · have f := no_facts q
        rw [f.2.1, f.2.2.1] at hm'
        rw [if_neg q] at hx'
        rw [decide_eq_false q, if_neg q, if_neg q, if_neg q]
        exact ⟨rfl, hm', hx', hch⟩
/-- the calls that keep nothing -/
theorem stampM_any (h : MemAt 116 w b g ws o n) (a0 a1 a2 a3 a4 a5 : Int) : Calls Tryz.prog 141 #[.pointer (some ⟨b, 0, none⟩), plnV a0 a1 a2 a3 a4 a5] w fun e w' => e = .returned (.tuple #[.int .u64 (toldW ws o a2), .int .i64 (errA ws o a2)]) ∧ MemAt 116 w' b g ws (spentO ws o a2) (spentC ws o a2 n) ∧ Chg b g w w' := by
  unfold plnV
  have HM := Lib.hid h
  clear h
  go_enter Tryz.func141, Tryz.ntmps141
  go_wp2_with (go_at_call 23; refine (load_any (HM.out.alloc _) _).mono ?_; rintro e w' ⟨rfl, hm, hc⟩; have HX := Lib.hid (And.intro hm (((Chg.refl b g w).alloc _).trans hc)); clear hm hc)
  go_ret2
  exact ⟨rfl, HX.out⟩
theorem publish_any (h : MemAt 116 w b g ws o n) (a0 a1 a2 a3 a4 a5 v : Int) : Calls Tryz.prog 237 #[.pointer (some ⟨b, 0, none⟩), plnV a0 a1 a2 a3 a4 a5, .int .u64 v] w fun e w' => e = .returned (.int .i64 (errA ws o a2)) ∧ MemAt 116 w' b g (stored ws o a2 v) (spentO ws o a2) (spentC ws o a2 n) ∧ Chg b g w w' := by
  unfold plnV
  have HM := Lib.hid h
  clear h
  go_enter Tryz.func237, Tryz.ntmps237
  go_wp2_with (go_at_call 222; refine (store_any (HM.out.alloc _) _ _).mono ?_; rintro e w' ⟨rfl, hm, hc⟩; have HX := Lib.hid (And.intro hm (((Chg.refl b g w).alloc _).trans hc)); clear hm hc)
  go_ret
  exact ⟨rfl, HX.out⟩
end
end Go.Proofs.YteinilmecnlanaaGreatDoor.Md.Cv
namespace Go.Proofs.YteinilmecnlanaaGreatDoor.Rr
open Go.ChangeShapes Go.WideShapes Go.ChangeAt Go.RowKit Num
def u64B (v : Int) : Prop := 0 ≤ v ∧ v < 18446744073709551616
def okW (ws : List Int) : Prop := ∀ v ∈ ws, u64B v
theorem okW.at {ws : List Int} (h : okW ws) (i : Int) : u64B (wordAt ws i) := by
  unfold wordAt
  rw [List.getD_eq_getElem?_getD]
  cases e : ws[i.toNat]? with
  | none => exact ⟨by decide, by decide⟩
  | some v => exact h v (List.mem_of_getElem? e)
theorem okW.set {ws : List Int} (h : okW ws) (i : Nat) {v : Int} (hv : u64B v) : okW (ws.set i v) := fun u hu => (List.mem_or_eq_of_mem_set hu).elim (h u) (fun e => e ▸ hv)
theorem pass_in (v : Int) : u64B (Md.Cv.passV v) := by
  unfold Md.Cv.passV u64B
  rw [IntKind.wrap_u64]
  omega
end Go.Proofs.YteinilmecnlanaaGreatDoor.Rr
namespace Go.Proofs.YteinilmecnlanaaGreatDoor.Ww
open Go.ChangeShapes Go.WideShapes Go.ChangeAt Go.RowKit Num Rr
structure Wx where
  a : Int
  b : Int
  th : Int
  tag : Int
  args : List Nat
  m : Mac
  steps : Int
  part : Nat
  tick : Int
  stamp : Int
  was : List Nat
  at_ : Nat
  num : Int
/-- how many words; where the cell's word j is -/
def plY (x : Wx) : Int := 3 + x.b + 3 * x.a
def atC (x : Wx) (c j : Int) : Int := 3 + x.b + 3 * c + j
def nowN (x : Wx) (ws : List Int) (c : Int) : Nat := fixB (wordAt ws (atC x c 1)).toNat
/-- an instruction; whether it had an access -/
def runY (x : Wx) (ws : List Int) : Wx × Bool :=
  if (stepM x.m).2.kind = 1 then ({ x with m := giveM (stepM x.m).1 (nowN x ws (stepM x.m).2.cell) }, true)
  else if (stepM x.m).2.kind = 3 ∧ (stepM x.m).2.first = true then ({ x with m := (stepM x.m).1, was := x.was ++ [nowN x ws (stepM x.m).2.cell] }, true)
  else if (stepM x.m).2.kind = 4 then ({ x with m := (stepM x.m).1, part := if (stepM x.m).1.how = 1 then 5 else 8 }, false)
  else ({ x with m := (stepM x.m).1 }, false)
/-- a look at a claim -/
def scanY (x : Wx) (ws : List Int) : Wx :=
  if wordAt ws (3 + (x.at_ : Int)) = 0 ∨ x.stamp < wordAt ws (3 + (x.at_ : Int)) then
    (if ((x.at_ + 1 : Nat) : Int) = x.b then { x with at_ := 0, part := if x.m.buf.length = 0 then 7 else 6 } else { x with at_ := x.at_ + 1 })
  else x
/-- a store of the writing back: the cell and the number of the k-th, what the cell had -/
def backW (x : Wx) (ws : List Int) : List Int :=
  if x.at_ % 3 = 0 then ws.set (atC x (x.m.buf.getD (x.at_ / 3) (0, 0)).1 2).toNat ((x.was.getD (x.at_ / 3) 0 : Nat) : Int)
  else if x.at_ % 3 = 1 then ws.set (atC x (x.m.buf.getD (x.at_ / 3) (0, 0)).1 0).toNat (Md.Cv.passV x.stamp)
  else ws.set (atC x (x.m.buf.getD (x.at_ / 3) (0, 0)).1 1).toNat (((x.m.buf.getD (x.at_ / 3) (0, 0)).2 : Nat) : Int)
def backY (x : Wx) : Wx := { x with at_ := x.at_ + 1, part := if x.at_ + 1 = 3 * x.m.buf.length then 7 else 6 }
def tickY (x : Wx) : Wx := { x with steps := x.steps + 1 }
/-- a step: the updater, the words, whether it had an access -/
def stepY0 (x : Wx) (ws : List Int) : Wx × List Int × Bool :=
  if x.part = 1 then ({ x with tick := wordAt ws 0, part := 2 }, ws.set 0 (Md.Cv.passV (wordAt ws 0)), true)
  else if x.part = 2 then ((if wordAt ws 1 = x.tick then { x with part := 3 } else x), ws, true)
  else if x.part = 3 then ({ x with stamp := wordAt ws 2, part := 4 }, ws, true)
  else if x.part = 4 then ((runY x ws).1, ws, (runY x ws).2)
  else if x.part = 5 then (scanY x ws, ws, true)
  else if x.part = 6 then (backY x, backW x ws, true)
  else if x.part = 7 then ({ x with num := wrap64 (Md.Cv.passV x.stamp), part := 8 }, ws.set 2 (Md.Cv.passV x.stamp), true)
  else ({ x with part := 9 }, ws.set 1 (Md.Cv.passV x.tick), true)
def stepY (x : Wx) (ws : List Int) : Wx × List Int × Bool := stepY0 (tickY x) ws
/-- what stays of an updater, whatever it does -/
structure AlikeY (x y : Wx) : Prop where
  a : y.a = x.a
  b : y.b = x.b
  th : y.th = x.th
  tag : y.tag = x.tag
  args : y.args = x.args
  lk : Like x.m y.m
theorem AlikeY.refl (x : Wx) : AlikeY x x := ⟨rfl, rfl, rfl, rfl, rfl, Like.refl _⟩
theorem plY_alike {x y : Wx} (h : AlikeY x y) : plY y = plY x := by unfold plY; rw [h.a, h.b]
/-- what holds of every updater -/
structure InY (x : Wx) : Prop where
  ca : 1 ≤ x.a ∧ x.a ≤ 256
  cb : 1 ≤ x.b ∧ x.b ≤ 8
  cel : x.m.cells = x.a
  th : 0 ≤ x.th ∧ x.th < x.b
  rest : Rest x.m
  few : x.args.length ≤ 8
  part : 1 ≤ x.part ∧ x.part ≤ 9
  tk : u64B x.tick
  sp : u64B x.stamp
  wlen : x.was.length = x.m.buf.length
  wok : ∀ v ∈ x.was, okN v
  run : x.part ≤ 4 → x.m.how = 0
  fin : 5 ≤ x.part → x.m.how ≠ 0
  com : 5 ≤ x.part → x.part ≤ 7 → x.m.how = 1
  at4 : x.part ≤ 4 → x.at_ = 0
  at5 : x.part = 5 → (x.at_ : Int) < x.b
  at6 : x.part = 6 → x.at_ < 3 * x.m.buf.length
theorem InY.tick {x : Wx} (h : InY x) : InY (tickY x) := ⟨h.ca, h.cb, h.cel, h.th, h.rest, h.few, h.part, h.tk, h.sp, h.wlen, h.wok, h.run, h.fin, h.com, h.at4, h.at5, h.at6⟩
theorem now_ok {ws : List Int} (h : okW ws) (x : Wx) (c : Int) : okN (nowN x ws c) := okN_fix (by have := h.at (atC x c 1); have h1 := this.1; have h2 := this.2; omega)
section
variable {x : Wx} {ws : List Int}
/-- an instruction: its machine is as one step alone over the numbers that the cells have now -/
theorem rest_step {m : Mac} (h : Rest m) (hk : (stepM m).2.kind ≠ 1) : Rest (stepM m).1 := by
  have := h.go (s := []) (fun _ hx => by cases hx)
  rw [go_kindN hk] at this
  exact this
theorem rest_give {m : Mac} (h : Rest m) (h0 : m.how = 0) (hk : (stepM m).2.kind = 1) {v : Nat} (hv : okN v) : Rest (giveM (stepM m).1 v) ∧ (giveM (stepM m).1 v).how = 0 ∧ Like m (giveM (stepM m).1 v) ∧ (giveM (stepM m).1 v).used = m.used + 1 ∧ (giveM (stepM m).1 v).buf = m.buf := by
  obtain ⟨lk, tr⟩ := step_turns h.inv h.nw h0
  have hb := step_bufs h.inv h.nw h0
  rcases tr with ⟨k4, _⟩ | ⟨_, e1, e2, e3, e4⟩ | ⟨k0, _⟩
  · omega
  · obtain ⟨g1, g2, g3, g4⟩ := give_goes e2 v
    have eb : (giveM (stepM m).1 v).buf = m.buf := by
      rw [give_bufs]
      rcases hb with ⟨q, _⟩ | ⟨q, _⟩ | ⟨_, e, _⟩ | ⟨q, _⟩ | ⟨q, _⟩
      · omega
      · omega
      · exact e
      · omega
      · omega
    refine ⟨⟨inv_give (inv_step h.inv) hv.2, g1, ?_, ?_⟩, g2.trans e3, lk.trans g4, g3.trans e4, eb⟩
    · rw [eb, (lk.trans g4).cells]; exact h.cel
    · rw [eb]; exact h.nod
  · omega
theorem run_inY (h : InY x) (hp : x.part = 4) (hW : okW ws) : InY (runY x ws).1 ∧ AlikeY x (runY x ws).1 ∧ (runY x ws).1.steps = x.steps := by
  have h0 := h.run (by omega)
  have hR := h.rest
  obtain ⟨lk, tr⟩ := step_turns hR.inv hR.nw h0
  have hb := step_bufs hR.inv hR.nw h0
  unfold runY
  by_cases k1 : (stepM x.m).2.kind = 1
  · rw [if_pos k1]
    obtain ⟨r1, r2, r3, r4, r5⟩ := rest_give hR h0 k1 (now_ok hW x (stepM x.m).2.cell)
    exact ⟨⟨h.ca, h.cb, r3.cells.trans h.cel, h.th, r1, h.few, h.part, h.tk, h.sp, by dsimp only; rw [r5]; exact h.wlen, h.wok, fun _ => r2, (fun q => by dsimp only at q; omega), (fun q => by dsimp only at q; omega), h.at4, (fun q => by dsimp only at q; omega), (fun q => by dsimp only at q; omega)⟩, ⟨rfl, rfl, rfl, rfl, rfl, r3⟩, rfl⟩
  · rw [if_neg k1]
    have rs := rest_step hR k1
    by_cases k3 : (stepM x.m).2.kind = 3 ∧ (stepM x.m).2.first = true
    · rw [if_pos k3]
      have hh : (stepM x.m).1.how = 0 := by
        rcases tr with ⟨k4, _⟩ | ⟨q, _⟩ | ⟨_, _, e, _⟩
        · omega
        · omega
        · exact e
      have hl : (stepM x.m).1.buf.length = x.m.buf.length + 1 := by
        rcases hb with ⟨q, _⟩ | ⟨q, _⟩ | ⟨q, _⟩ | ⟨q, _⟩ | ⟨_, e, f, _⟩
        · omega
        · omega
        · omega
        · omega
        · rw [e, putC_len]
          rw [k3.2] at f
          have hc : hasC x.m.buf (stepM x.m).2.cell = false := by simpa using f.symm
          rw [hc]
          rfl
      refine ⟨⟨h.ca, h.cb, lk.cells.trans h.cel, h.th, rs, h.few, h.part, h.tk, h.sp, ?_, fun v hv => ?_, fun _ => hh, (fun q => by dsimp only at q; omega), (fun q => by dsimp only at q; omega), h.at4, (fun q => by dsimp only at q; omega), (fun q => by dsimp only at q; omega)⟩, ⟨rfl, rfl, rfl, rfl, rfl, lk⟩, rfl⟩
      · dsimp only
        rw [List.length_append, h.wlen, hl]
        rfl
      · rcases List.mem_append.1 hv with q | q
        · exact h.wok v q
        · have q' : v = nowN x ws (stepM x.m).2.cell := by simpa using q
          rw [q']
          exact now_ok hW x _
    · rw [if_neg k3]
      have hl : (stepM x.m).1.buf.length = x.m.buf.length := by
        rcases hb with ⟨_, e⟩ | ⟨_, e⟩ | ⟨_, e, _⟩ | ⟨_, e, _⟩ | ⟨q, e, f, _⟩
        · rw [e]
        · rw [e]
        · rw [e]
        · rw [e]
        · rw [e, putC_len]
          have hc : hasC x.m.buf (stepM x.m).2.cell = true := by
            cases hq : hasC x.m.buf (stepM x.m).2.cell with
            | true => rfl
            | false => exact absurd ⟨q, by rw [f, hq]; rfl⟩ k3
          rw [hc]
          rfl
      by_cases k4 : (stepM x.m).2.kind = 4
      · rw [if_pos k4]
        have hh : (stepM x.m).1.how ≠ 0 := by
          rcases tr with ⟨_, e, _⟩ | ⟨q, _⟩ | ⟨q, _⟩
          · exact e
          · omega
          · omega
        by_cases hc : (stepM x.m).1.how = 1
        · rw [if_pos hc]
          exact ⟨⟨h.ca, h.cb, lk.cells.trans h.cel, h.th, rs, h.few, by dsimp only; omega, h.tk, h.sp, by dsimp only; rw [hl]; exact h.wlen, h.wok, (fun q => by dsimp only at q; omega), fun _ => hh, fun _ _ => hc, (fun q => by dsimp only at q; omega), (fun _ => by dsimp only; rw [h.at4 (by omega)]; have := h.cb; omega), (fun q => by dsimp only at q; omega)⟩, ⟨rfl, rfl, rfl, rfl, rfl, lk⟩, rfl⟩
        · rw [if_neg hc]
          exact ⟨⟨h.ca, h.cb, lk.cells.trans h.cel, h.th, rs, h.few, by dsimp only; omega, h.tk, h.sp, by dsimp only; rw [hl]; exact h.wlen, h.wok, (fun q => by dsimp only at q; omega), fun _ => hh, (fun _ q => by dsimp only at q; omega), (fun q => by dsimp only at q; omega), (fun q => by dsimp only at q; omega), (fun q => by dsimp only at q; omega)⟩, ⟨rfl, rfl, rfl, rfl, rfl, lk⟩, rfl⟩
      · rw [if_neg k4]
        have hh : (stepM x.m).1.how = 0 := by
          rcases tr with ⟨q, _⟩ | ⟨q, _⟩ | ⟨_, _, e, _⟩
          · omega
          · omega
          · exact e
        exact ⟨⟨h.ca, h.cb, lk.cells.trans h.cel, h.th, rs, h.few, h.part, h.tk, h.sp, by dsimp only; rw [hl]; exact h.wlen, h.wok, fun _ => hh, (fun q => by dsimp only at q; omega), (fun q => by dsimp only at q; omega), h.at4, (fun q => by dsimp only at q; omega), (fun q => by dsimp only at q; omega)⟩, ⟨rfl, rfl, rfl, rfl, rfl, lk⟩, rfl⟩
theorem scan_inY (h : InY x) (hp : x.part = 5) : InY (scanY x ws) ∧ AlikeY x (scanY x ws) ∧ (scanY x ws).steps = x.steps := by
  have h5 := h.at5 hp
  unfold scanY
  split
  · split
    · by_cases hl : x.m.buf.length = 0
      · rw [if_pos hl]
        exact ⟨⟨h.ca, h.cb, h.cel, h.th, h.rest, h.few, by dsimp only; omega, h.tk, h.sp, h.wlen, h.wok, (fun q => by dsimp only at q; omega), fun _ => h.fin (by omega), fun _ _ => h.com (by omega) (by omega), (fun q => by dsimp only at q; omega), (fun q => by dsimp only at q; omega), (fun q => by dsimp only at q; omega)⟩, ⟨rfl, rfl, rfl, rfl, rfl, Like.refl _⟩, rfl⟩
      · rw [if_neg hl]
        exact ⟨⟨h.ca, h.cb, h.cel, h.th, h.rest, h.few, by dsimp only; omega, h.tk, h.sp, h.wlen, h.wok, (fun q => by dsimp only at q; omega), fun _ => h.fin (by omega), fun _ _ => h.com (by omega) (by omega), (fun q => by dsimp only at q; omega), (fun q => by dsimp only at q; omega), (fun _ => by dsimp only; omega)⟩, ⟨rfl, rfl, rfl, rfl, rfl, Like.refl _⟩, rfl⟩
    · next hne => exact ⟨⟨h.ca, h.cb, h.cel, h.th, h.rest, h.few, h.part, h.tk, h.sp, h.wlen, h.wok, h.run, h.fin, h.com, (fun q => by dsimp only at q; omega), (fun _ => by dsimp only; omega), (fun q => by dsimp only at q; omega)⟩, ⟨rfl, rfl, rfl, rfl, rfl, Like.refl _⟩, rfl⟩
  · exact ⟨h, AlikeY.refl x, rfl⟩
theorem back_inY (h : InY x) (hp : x.part = 6) (hW : okW ws) : InY (backY x) ∧ AlikeY x (backY x) ∧ okW (backW x ws) ∧ (backW x ws).length = ws.length := by
  have h6 := h.at6 hp
  have hk : x.at_ / 3 < x.m.buf.length := by omega
  have hw : (x.was.getD (x.at_ / 3) 0) < 18446744073709551616 := (getD_all 0 okN_zero x.was h.wok _).2
  have hm : x.m.buf.getD (x.at_ / 3) (0, 0) = x.m.buf[x.at_ / 3] := by simp [hk]
  have hv : (x.m.buf.getD (x.at_ / 3) (0, 0)).2 < 18446744073709551616 := by
    rw [hm]
    exact (h.rest.inv.buf _ (List.getElem_mem hk)).2
  refine ⟨?_, ⟨rfl, rfl, rfl, rfl, rfl, Like.refl _⟩, ?_, ?_⟩
  · unfold backY
    by_cases q : x.at_ + 1 = 3 * x.m.buf.length
    · rw [if_pos q]
      exact ⟨h.ca, h.cb, h.cel, h.th, h.rest, h.few, by dsimp only; omega, h.tk, h.sp, h.wlen, h.wok, (fun q => by dsimp only at q; omega), fun _ => h.fin (by omega), fun _ _ => h.com (by omega) (by omega), (fun q => by dsimp only at q; omega), (fun q => by dsimp only at q; omega), (fun q => by dsimp only at q; omega)⟩
    · rw [if_neg q]
      exact ⟨h.ca, h.cb, h.cel, h.th, h.rest, h.few, by dsimp only; omega, h.tk, h.sp, h.wlen, h.wok, (fun q => by dsimp only at q; omega), fun _ => h.fin (by omega), fun _ _ => h.com (by omega) (by omega), (fun q => by dsimp only at q; omega), (fun q => by dsimp only at q; omega), (fun _ => by dsimp only; omega)⟩
  · unfold backW
    split
    · exact hW.set _ ⟨by omega, by omega⟩
    · split
      · exact hW.set _ (pass_in _)
      · exact hW.set _ ⟨by omega, by omega⟩
  · unfold backW
    split
    · simp
    · split <;> simp
theorem step_inY (h : InY x) (hp : x.part ≠ 9) (hW : okW ws) : InY (stepY x ws).1 ∧ AlikeY x (stepY x ws).1 ∧ (stepY x ws).1.steps = x.steps + 1 ∧ okW (stepY x ws).2.1 ∧ (stepY x ws).2.1.length = ws.length := by
  have hP := h.part
  have t := h.tick
  have e8 : (tickY x).part = x.part := rfl
  unfold stepY stepY0
  rcases (by omega : x.part = 1 ∨ x.part = 2 ∨ x.part = 3 ∨ x.part = 4 ∨ x.part = 5 ∨ x.part = 6 ∨ x.part = 7 ∨ x.part = 8) with e | e | e | e | e | e | e | e
  · rw [if_pos (e8.trans e)]
    exact ⟨⟨h.ca, h.cb, h.cel, h.th, h.rest, h.few, by dsimp only; omega, hW.at _, h.sp, h.wlen, h.wok, fun _ => h.run (by omega), (fun q => by dsimp only at q; omega), (fun q => by dsimp only at q; omega), fun _ => h.at4 (by omega), (fun q => by dsimp only at q; omega), (fun q => by dsimp only at q; omega)⟩, ⟨rfl, rfl, rfl, rfl, rfl, Like.refl _⟩, rfl, hW.set _ (pass_in _), by simp⟩
  · rw [if_neg (by omega), if_pos (e8.trans e)]
    dsimp only
    split
    · exact ⟨⟨h.ca, h.cb, h.cel, h.th, h.rest, h.few, by dsimp only; omega, h.tk, h.sp, h.wlen, h.wok, fun _ => h.run (by omega), (fun q => by dsimp only at q; omega), (fun q => by dsimp only at q; omega), fun _ => h.at4 (by omega), (fun q => by dsimp only at q; omega), (fun q => by dsimp only at q; omega)⟩, ⟨rfl, rfl, rfl, rfl, rfl, Like.refl _⟩, rfl, hW, rfl⟩
    · exact ⟨t, ⟨rfl, rfl, rfl, rfl, rfl, Like.refl _⟩, rfl, hW, rfl⟩
  · rw [if_neg (by omega), if_neg (by omega), if_pos (e8.trans e)]
    exact ⟨⟨h.ca, h.cb, h.cel, h.th, h.rest, h.few, by dsimp only; omega, h.tk, hW.at _, h.wlen, h.wok, fun _ => h.run (by omega), (fun q => by dsimp only at q; omega), (fun q => by dsimp only at q; omega), fun _ => h.at4 (by omega), (fun q => by dsimp only at q; omega), (fun q => by dsimp only at q; omega)⟩, ⟨rfl, rfl, rfl, rfl, rfl, Like.refl _⟩, rfl, hW, rfl⟩
  · rw [if_neg (by omega), if_neg (by omega), if_neg (by omega), if_pos (e8.trans e)]
    obtain ⟨k1, k2, k3⟩ := run_inY t (e8.trans e) hW
    exact ⟨k1, ⟨k2.a, k2.b, k2.th, k2.tag, k2.args, k2.lk⟩, k3, hW, rfl⟩
  · rw [if_neg (by omega), if_neg (by omega), if_neg (by omega), if_neg (by omega), if_pos (e8.trans e)]
    obtain ⟨k1, k2, k3⟩ := scan_inY (ws := ws) t (e8.trans e)
    exact ⟨k1, ⟨k2.a, k2.b, k2.th, k2.tag, k2.args, k2.lk⟩, k3, hW, rfl⟩
  · rw [if_neg (by omega), if_neg (by omega), if_neg (by omega), if_neg (by omega), if_neg (by omega), if_pos (e8.trans e)]
    obtain ⟨k1, k2, k3, k4⟩ := back_inY t (e8.trans e) hW
    exact ⟨k1, ⟨k2.a, k2.b, k2.th, k2.tag, k2.args, k2.lk⟩, rfl, k3, k4⟩
  · rw [if_neg (by omega), if_neg (by omega), if_neg (by omega), if_neg (by omega), if_neg (by omega), if_neg (by omega), if_pos (e8.trans e)]
    exact ⟨⟨h.ca, h.cb, h.cel, h.th, h.rest, h.few, by dsimp only; omega, h.tk, h.sp, h.wlen, h.wok, (fun q => by dsimp only at q; omega), fun _ => h.fin (by omega), (fun _ q => by dsimp only at q; omega), (fun q => by dsimp only at q; omega), (fun q => by dsimp only at q; omega), (fun q => by dsimp only at q; omega)⟩, ⟨rfl, rfl, rfl, rfl, rfl, Like.refl _⟩, rfl, hW.set _ (pass_in _), by simp⟩
  · rw [if_neg (by omega), if_neg (by omega), if_neg (by omega), if_neg (by omega), if_neg (by omega), if_neg (by omega), if_neg (by omega)]
    exact ⟨⟨h.ca, h.cb, h.cel, h.th, h.rest, h.few, by dsimp only; omega, h.tk, h.sp, h.wlen, h.wok, (fun q => by dsimp only at q; omega), fun _ => h.fin (by omega), (fun _ q => by dsimp only at q; omega), (fun q => by dsimp only at q; omega), (fun q => by dsimp only at q; omega), (fun q => by dsimp only at q; omega)⟩, ⟨rfl, rfl, rfl, rfl, rfl, Like.refl _⟩, rfl, hW.set _ (pass_in _), by simp⟩
end
end Go.Proofs.YteinilmecnlanaaGreatDoor.Ww
namespace Go.Proofs.YteinilmecnlanaaGreatDoor.Ww
open Go.ChangeShapes Go.WideShapes Go.ChangeAt Go.RowKit Num Rr
structure Wz where
  bm : Nat
  K : List Nat
  pa : Option Addr
  ca : Nat
def Wz.KK (z : Wz) : List Nat := z.K ++ fpR z.pa
def ptrV (q : Option Nat) : Value := .pointer (q.map fun n => ⟨n, 0, none⟩)
/-- what turns of it, beside its numbers -/
structure Wv where
  ph : Option Addr
  ch : Nat
  qs : Option Nat
  s : Md.Cv.Ss
  qw : Option Nat
  t : Md.Ce.Wt
  bg : Int
  nb : Int
  nx : Value
  F : List Nat
def partF (p : Nat) : FuncId := if p = 1 then 70 else if p = 2 then 100 else if p = 3 then 117 else if p = 4 then 142 else if p = 5 then 188 else if p = 6 then 229 else if p = 7 then 226 else 186
def fnV (f : FuncId) : Value := .func (.func f) #[] #[]
def nextV (p : Nat) : Value := if p = 9 then .nilFunc else fnV (partF p)
def boxY (x : Wx) (z : Wz) (v : Wv) : Array Value := #[.int .i64 0, .int .i64 1, .int .i64 2, .int .i64 3, .int .i64 (3 + x.b), .int .i64 (3 + x.b + 3 * x.a), .int .i64 x.b, .int .i64 x.tag, .slice z.pa x.args.length z.ca, .pointer (some ⟨z.bm, 0, none⟩), .int .i64 x.steps, .int .i64 (x.part : Int), v.nx, .int .u64 x.tick, .int .u64 x.stamp, .slice v.ph x.was.length v.ch, ptrV v.qs, .int .i64 v.bg, ptrV v.qw, .int .u64 v.nb]
def ownY (b : Nat) (v : Wv) : List (List Nat) := [[b], fpR v.ph, v.qs.toList, v.qw.toList, v.F]
def LY (b : Nat) (z : Wz) (v : Wv) : List (List Nat) := [[b], fpR v.ph, v.qs.toList, v.qw.toList, v.F, z.KK]
def gY (b : Nat) (v : Wv) : List Nat := (ownY b v).flatten
structure RawAt (w : World) (b : Nat) (x : Wx) (z : Wz) (v : Wv) : Prop where
  box : w.heap[b]? = some (.cells (boxY x z v) 102 (0, 0))
  mac : Mc w z.bm v.F z.K x.m
  had : RowAt 73 w v.ph v.ch (fls x.was)
  sc : ∀ n, v.qs = some n → Md.Cv.ScAt w n v.s
  wr : ∀ n, v.qw = some n → Md.Ce.WtAt w n v.t
  arg : RowAt 73 w z.pa z.ca (fls x.args)
  apart : Apart (LY b z v)
theorem turn_of {L F : List Nat} {w w' : World} (o1 : w'.os = w.os) (o2 : w'.tape = w.tape) (o3 : w'.output = w.output) (hs : w.heap.size ≤ w'.heap.size) (hL : ∀ k, k ∈ L → k ∈ F) (hb : ∀ k, k < w.heap.size → k ∉ L → w'.heap[k]? = w.heap[k]?) : Turn F F w w' :=
  ⟨o1, o2, o3, hs, fun k hk hn => hb k hk (fun q => hn (hL k q)), fun _ h => .inl h⟩
theorem keptB {F : List Nat} {w : World} {b j : Nat} {v : Value} (h : b ∉ F) : Kept F w (w.setCell ⟨b, j, none⟩ v) := ⟨by simp, fun i hi => heap_setCell_other _ _ _ _ (fun (e : i = b) => h (e ▸ hi))⟩
section
variable {w w' : World} {b : Nat} {x : Wx} {z : Wz} {v : Wv}
theorem mem_gY {k : Nat} : k ∈ gY b v ↔ k = b ∨ k ∈ fpR v.ph ∨ v.qs = some k ∨ v.qw = some k ∨ k ∈ v.F := by
  simp only [gY, ownY, List.flatten_cons, List.flatten_nil, List.append_nil, List.mem_append, List.mem_cons, List.not_mem_nil, or_false, Option.mem_toList]
theorem in_b : b ∈ gY b v := mem_gY.2 (.inl rfl)
theorem in_h {k : Nat} (h : k ∈ fpR v.ph) : k ∈ gY b v := mem_gY.2 (.inr (.inl h))
theorem in_s {k : Nat} (h : v.qs = some k) : k ∈ gY b v := mem_gY.2 (.inr (.inr (.inl h)))
theorem in_w {k : Nat} (h : v.qw = some k) : k ∈ gY b v := mem_gY.2 (.inr (.inr (.inr (.inl h))))
theorem in_F {k : Nat} (h : k ∈ v.F) : k ∈ gY b v := mem_gY.2 (.inr (.inr (.inr (.inr h))))
theorem own_inY {j k : Nat} (hj : j < 5) (h : k ∈ (LY b z v).getD j []) : k ∈ gY b v := by
  match j, hj with
  | 0, _ => exact mem_gY.2 (.inl (by simpa [LY] using h))
  | 1, _ => exact in_h h
  | 2, _ => exact in_s (by simpa [LY] using h)
  | 3, _ => exact in_w (by simpa [LY] using h)
  | 4, _ => exact in_F h
theorem in_ownY {k : Nat} (h : k ∈ gY b v) : ∃ j, j < 5 ∧ k ∈ (LY b z v).getD j [] := by
  rcases mem_gY.1 h with h | h | h | h | h
  · exact ⟨0, by omega, by simp [LY, h]⟩
  · exact ⟨1, by omega, h⟩
  · exact ⟨2, by omega, by simp [LY, h]⟩
  · exact ⟨3, by omega, by simp [LY, h]⟩
  · exact ⟨4, by omega, h⟩
theorem RawAt.ltB (h : RawAt w b x z v) : b < w.heap.size := lt_of_block h.box
theorem RawAt.blwK (h : RawAt w b x z v) : Blw w z.KK := fun k hk => by
  rcases List.mem_append.1 hk with hk | hk
  · exact h.mac.blwK k hk
  · exact h.arg.blw k hk
theorem RawAt.blws (h : RawAt w b x z v) : ∀ j, Blw w ((LY b z v).getD j []) := fun j => by
  match j with
  | 0 => intro k hk; have : k = b := by simpa [LY] using hk
         rw [this]; exact h.ltB
  | 1 => exact h.had.blw
  | 2 => intro k hk; exact (h.sc k (by simpa [LY] using hk)).lt
  | 3 => intro k hk; exact (h.wr k (by simpa [LY] using hk)).lt
  | 4 => exact h.mac.blw
  | 5 => exact h.blwK
  | n + 6 => intro k hk; simp [LY] at hk
theorem RawAt.blw (h : RawAt w b x z v) : Blw w (gY b v) := fun k hk => by
  obtain ⟨j, _, hj⟩ := in_ownY (z := z) hk
  exact h.blws j k hj
/-- all its parts have stayed -/
theorem RawAt.all (h : RawAt w b x z v) (hs : w.heap.size ≤ w'.heap.size) (k : ∀ j, Kept ((LY b z v).getD j []) w w') : RawAt w' b x z v :=
  ⟨((k 0).2 b (by simp [LY])).trans h.box, h.mac.keep (k 4) ⟨hs, fun i hi => (k 5).2 i (List.mem_append.2 (.inl hi))⟩, h.had.keep (k 1), fun n hn => (h.sc n hn).keep ((k 2).2 n (by simp [LY, hn])), fun n hn => (h.wr n hn).keep ((k 3).2 n (by simp [LY, hn])), h.arg.keep ⟨hs, fun i hi => (k 5).2 i (List.mem_append.2 (.inr hi))⟩, h.apart⟩
theorem RawAt.keep (h : RawAt w b x z v) (k : Kept (gY b v) w w') (k2 : Kept z.KK w w') : RawAt w' b x z v :=
  h.all k.1 fun j => by
    by_cases hj : j < 5
    · exact ⟨k.1, fun i hi => k.2 i (own_inY hj hi)⟩
    · by_cases h5 : j = 5
      · subst h5; exact k2
      · exact ⟨k.1, fun i hi => by
          match j, hj, h5, hi with
          | n + 6, _, _, hi => simp [LY] at hi⟩
theorem RawAt.on (h : RawAt w b x z v) (k : Below w.heap.size w w') : RawAt w' b x z v := h.keep (kept_below k h.blw) (kept_below k h.blwK)
theorem RawAt.cell (h : RawAt w b x z v) (j : Nat) : w.cell? ⟨b, j, none⟩ = (boxY x z v)[j]? := cell_of_row w b j _ _ _ h.box
theorem RawAt.free (h : RawAt w b x z v) (j : Nat) : w.frozen? ⟨b, j, none⟩ = false := frozen_of_row w b j _ _ h.box
theorem RawAt.others (h : RawAt w b x z v) {i : Nat} {F' : List Nat} (t : Turn ((LY b z v).getD i []) F' w w') : ∀ j, j ≠ i → Kept ((LY b z v).getD j []) w w' := fun j hj => t.kept (h.apart j i hj) (h.blws j)
/-- a store into its box that changes no part -/
theorem RawAt.put (h : RawAt w b x z v) (j : Nat) (u : Value) (x' : Wx) (v' : Wv) (e : (boxY x z v).setIfInBounds j u = boxY x' z v') (hm : x'.m = x.m ∧ x'.args = x.args ∧ x'.was = x.was) (hv : v'.ph = v.ph ∧ v'.ch = v.ch ∧ v'.qs = v.qs ∧ v'.s = v.s ∧ v'.qw = v.qw ∧ v'.t = v.t ∧ v'.F = v.F) : RawAt (w.setCell ⟨b, j, none⟩ u) b x' z v' := by
  obtain ⟨m1, m2, m3⟩ := hm
  obtain ⟨v1, v2, v3, v4, v5, v6, v7⟩ := hv
  have kk := h.others (i := 0) (turn_set w b j u)
  have eL : LY b z v' = LY b z v := by unfold LY; rw [v1, v3, v5, v7]
  refine ⟨?_, by rw [m1, v7]; exact h.mac.keep (kk 4 (by omega)) ⟨by simp, fun i hi => (kk 5 (by omega)).2 i (List.mem_append.2 (.inl hi))⟩, by rw [m3, v1, v2]; exact h.had.keep (kk 1 (by omega)), fun n hn => by rw [v3] at hn; rw [v4]; exact (h.sc n hn).keep ((kk 2 (by omega)).2 n (by simp [LY, hn])), fun n hn => by rw [v5] at hn; rw [v6]; exact (h.wr n hn).keep ((kk 3 (by omega)).2 n (by simp [LY, hn])), by rw [m2]; exact h.arg.keep ⟨by simp, fun i hi => (kk 5 (by omega)).2 i (List.mem_append.2 (.inr hi))⟩, by rw [eL]; exact h.apart⟩
  rw [← e]
  exact heap_setCell_same w b j _ _ u h.box
/-- a new scan -/
theorem RawAt.putS (h : RawAt w b x z v) {n : Nat} {s : Md.Cv.Ss} (hs : Md.Cv.ScAt w n s) (hg : n ∉ gY b v) (hK : n ∉ z.KK) : RawAt (w.setCell ⟨b, 16, none⟩ (.pointer (some ⟨n, 0, none⟩))) b x z { v with qs := some n, s := s } := by
  have kk := h.others (i := 0) (turn_set w b 16 (.pointer (some ⟨n, 0, none⟩)))
  have nb : n ≠ b := fun e => hg (e ▸ in_b)
  refine ⟨heap_setCell_same w b 16 _ _ _ h.box, h.mac.keep (kk 4 (by omega)) ⟨by simp, fun i hi => (kk 5 (by omega)).2 i (List.mem_append.2 (.inl hi))⟩, h.had.keep (kk 1 (by omega)), fun m hm => ?_, fun m hm => (h.wr m hm).keep ((kk 3 (by omega)).2 m (by simp only [LY]; simpa using hm)), h.arg.keep ⟨by simp, fun i hi => (kk 5 (by omega)).2 i (List.mem_append.2 (.inr hi))⟩, fun i j hij => ?_⟩
  · obtain rfl : n = m := Option.some.inj hm
    exact hs.keep (heap_setCell_other _ _ _ _ nb)
  · have P : ∀ j, j ≠ 2 → (LY b z { v with qs := some n, s := s }).getD j [] = (LY b z v).getD j [] := fun j hj => by
      match j, hj with
      | 0, _ => rfl
      | 1, _ => rfl
      | 3, _ => rfl
      | 4, _ => rfl
      | 5, _ => rfl
      | j + 6, _ => rfl
    have N : ∀ j, j ≠ 2 → n ∉ (LY b z v).getD j [] := fun j hj y => by
      by_cases h5 : j < 5
      · exact hg (own_inY h5 y)
      · match j, h5, y with
        | 5, _, y => exact hK y
        | j + 6, _, y => simp [LY] at y
    by_cases i2 : i = 2
    · subst i2
      rw [P j (by omega)]
      intro k hk y
      have : k = n := by simpa [LY, eq_comm] using hk
      exact N j (by omega) (this ▸ y)
    · rw [P i i2]
      by_cases j2 : j = 2
      · subst j2
        intro k hk y
        have : k = n := by simpa [LY, eq_comm] using y
        exact N i i2 (this ▸ hk)
      · rw [P j j2]
        exact h.apart i j hij
/-- a new write -/
theorem RawAt.putW (h : RawAt w b x z v) {n : Nat} {t : Md.Ce.Wt} (hs : Md.Ce.WtAt w n t) (hg : n ∉ gY b v) (hK : n ∉ z.KK) : RawAt (w.setCell ⟨b, 18, none⟩ (.pointer (some ⟨n, 0, none⟩))) b x z { v with qw := some n, t := t } := by
  have kk := h.others (i := 0) (turn_set w b 18 (.pointer (some ⟨n, 0, none⟩)))
  have nb : n ≠ b := fun e => hg (e ▸ in_b)
  refine ⟨heap_setCell_same w b 18 _ _ _ h.box, h.mac.keep (kk 4 (by omega)) ⟨by simp, fun i hi => (kk 5 (by omega)).2 i (List.mem_append.2 (.inl hi))⟩, h.had.keep (kk 1 (by omega)), fun m hm => (h.sc m hm).keep ((kk 2 (by omega)).2 m (by simp only [LY]; simpa using hm)), fun m hm => ?_, h.arg.keep ⟨by simp, fun i hi => (kk 5 (by omega)).2 i (List.mem_append.2 (.inr hi))⟩, fun i j hij => ?_⟩
  · obtain rfl : n = m := Option.some.inj hm
    exact hs.keep (heap_setCell_other _ _ _ _ nb)
  · have P : ∀ j, j ≠ 3 → (LY b z { v with qw := some n, t := t }).getD j [] = (LY b z v).getD j [] := fun j hj => by
      match j, hj with
      | 0, _ => rfl
      | 1, _ => rfl
      | 2, _ => rfl
      | 4, _ => rfl
      | 5, _ => rfl
      | j + 6, _ => rfl
    have N : ∀ j, j ≠ 3 → n ∉ (LY b z v).getD j [] := fun j hj y => by
      by_cases h5 : j < 5
      · exact hg (own_inY h5 y)
      · match j, h5, y with
        | 5, _, y => exact hK y
        | j + 6, _, y => simp [LY] at y
    by_cases i2 : i = 3
    · subst i2
      rw [P j (by omega)]
      intro k hk y
      have : k = n := by simpa [LY, eq_comm] using hk
      exact N j (by omega) (this ▸ y)
    · rw [P i i2]
      by_cases j2 : j = 3
      · subst j2
        intro k hk y
        have : k = n := by simpa [LY, eq_comm] using y
        exact N i i2 (this ▸ hk)
      · rw [P j j2]
        exact h.apart i j hij
/-- its scan has gone on -/
theorem RawAt.scans (h : RawAt w b x z v) {n : Nat} {s : Md.Cv.Ss} (hn : v.qs = some n) (hs : w.heap.size ≤ w'.heap.size) (k : ∀ j, j ≠ 2 → Kept ((LY b z v).getD j []) w w') (h2 : Md.Cv.ScAt w' n s) : RawAt w' b x z { v with s := s } :=
  ⟨((k 0 (by omega)).2 b (by simp [LY])).trans h.box, h.mac.keep (k 4 (by omega)) ⟨hs, fun i hi => (k 5 (by omega)).2 i (List.mem_append.2 (.inl hi))⟩, h.had.keep (k 1 (by omega)), fun m hm => by have e := hn.symm.trans hm; cases e; exact h2, fun m hm => (h.wr m hm).keep ((k 3 (by omega)).2 m (by simp only [LY]; simpa using hm)), h.arg.keep ⟨hs, fun i hi => (k 5 (by omega)).2 i (List.mem_append.2 (.inr hi))⟩, h.apart⟩
/-- its write has gone on -/
theorem RawAt.writes (h : RawAt w b x z v) {n : Nat} {t : Md.Ce.Wt} (hn : v.qw = some n) (hs : w.heap.size ≤ w'.heap.size) (k : ∀ j, j ≠ 3 → Kept ((LY b z v).getD j []) w w') (h2 : Md.Ce.WtAt w' n t) : RawAt w' b x z { v with t := t } :=
  ⟨((k 0 (by omega)).2 b (by simp [LY])).trans h.box, h.mac.keep (k 4 (by omega)) ⟨hs, fun i hi => (k 5 (by omega)).2 i (List.mem_append.2 (.inl hi))⟩, h.had.keep (k 1 (by omega)), fun m hm => (h.sc m hm).keep ((k 2 (by omega)).2 m (by simp only [LY]; simpa using hm)), fun m hm => by have e := hn.symm.trans hm; cases e; exact h2, h.arg.keep ⟨hs, fun i hi => (k 5 (by omega)).2 i (List.mem_append.2 (.inr hi))⟩, h.apart⟩
/-- its machine has gone on -/
theorem RawAt.mach (h : RawAt w b x z v) {m' : Mac} (g : Gm w v.F z.bm z.K w' m') : ∃ F', RawAt w' b { x with m := m' } z { v with F := F' } ∧ Turn v.F F' w w' := by
  obtain ⟨F', hM, t⟩ := g.mc
  have kk := h.others (i := 4) t
  exact ⟨F', ⟨((kk 0 (by omega)).2 b (by simp [LY])).trans h.box, hM, h.had.keep (kk 1 (by omega)), fun n hn => (h.sc n hn).keep ((kk 2 (by omega)).2 n (by simp only [LY]; simpa using hn)), fun n hn => (h.wr n hn).keep ((kk 3 (by omega)).2 n (by simp only [LY]; simpa using hn)), h.arg.keep ⟨t.size, fun i hi => (kk 5 (by omega)).2 i (List.mem_append.2 (.inr hi))⟩, h.apart.turn (i := 4) h.blws (by simp [LY]) t⟩, t⟩
/-- a number more that a cell had: behind append, and the store of the field -/
theorem RawAt.hads (h : RawAt w b x z v) {w3 : World} {u : Value} {y : Nat} (hown : w3.ownsRow 0 73 1 u (x.was.length + 1) (fls x.was ++ [.float .f64 y])) (hg : w.grownBy w3 (Value.slice v.ph x.was.length v.ch).ownBlock) (hat : u.ownBlock = (Value.slice v.ph x.was.length v.ch).ownBlock ∨ ∃ s, u.ownBlock = some s ∧ w.heap.size ≤ s) :
    ∃ p' c', u = .slice p' (x.was.length + 1) c' ∧ Turn (fpR v.ph) (fpR p') w w3 ∧ RawAt (w3.setCell ⟨b, 15, none⟩ u) b { x with was := x.was ++ [y] } z { v with ph := p', ch := c' } := by
  obtain ⟨p', c', rfl, hr⟩ := ownsRow_slice hown
  have hl : (fls x.was ++ [Value.float .f64 y]).length = x.was.length + 1 := by simp [fls_len]
  rw [hl] at hat ⊢
  have ho : ∀ k, k ∈ fpR p' → k ∈ fpR v.ph ∨ w.heap.size ≤ k := by
    rcases hat with q | ⟨s, q, hs⟩
    · exact own_at (s := w.heap.size) (.inl q) (Nat.le_refl _)
    · exact own_at (n := x.was.length) (c := v.ch) (.inr q) hs
  have t : Turn (fpR v.ph) (fpR p') w w3 := ⟨hg.os, hg.tape, hg.output, hg.size, fun k hk hn => hg.block k hk (fun q => hn (own_fpR.2 q.symm)), ho⟩
  have kk := h.others (i := 1) t
  have hbox : w3.heap[b]? = _ := ((kk 0 (by omega)).2 b (by simp [LY])).trans h.box
  have ap : Apart (LY b z { v with ph := p', ch := c' }) := h.apart.turn (i := 1) h.blws (by simp [LY]) t
  have k2 : ∀ j, j ≠ 0 → ∀ F, F = (LY b z { v with ph := p', ch := c' }).getD j [] → Kept F w3 (w3.setCell ⟨b, 15, none⟩ (.slice p' (x.was.length + 1) c')) := fun j hj F hF => keptB (fun y => ap j 0 hj b (hF ▸ y) (by simp [LY]))
  have tr : ∀ {F}, Kept F w w3 → Kept F w3 (w3.setCell ⟨b, 15, none⟩ (.slice p' (x.was.length + 1) c')) → Kept F w (w3.setCell ⟨b, 15, none⟩ (.slice p' (x.was.length + 1) c')) := fun a c => ⟨Nat.le_trans a.1 c.1, fun i hi => (c.2 i hi).trans (a.2 i hi)⟩
  have k4 := tr (kk 4 (by omega)) (k2 4 (by omega) _ rfl)
  have k5 := tr (kk 5 (by omega)) (k2 5 (by omega) _ rfl)
  refine ⟨p', c', rfl, t, ⟨?_, h.mac.keep k4 ⟨k5.1, fun i hi => k5.2 i (List.mem_append.2 (.inl hi))⟩, ?_, fun n hn => (h.sc n hn).keep ((tr (kk 2 (by omega)) (k2 2 (by omega) _ rfl)).2 n (by simp only [LY]; simpa using hn)), fun n hn => (h.wr n hn).keep ((tr (kk 3 (by omega)) (k2 3 (by omega) _ rfl)).2 n (by simp only [LY]; simpa using hn)), h.arg.keep ⟨k5.1, fun i hi => k5.2 i (List.mem_append.2 (.inr hi))⟩, ap⟩⟩
  · refine (heap_setCell_same w3 b 15 _ _ _ hbox).trans ?_
    have : (x.was ++ [y]).length = x.was.length + 1 := by simp
    unfold boxY
    rw [this]
    rfl
  · rw [fls_snoc]
    exact hr.keep (k2 1 (by omega) _ rfl)
end
/-- an updater and the memory that it goes over, in the midst of what began at W with the blocks G0 -/
def Mid (W : World) (G0 : List Nat) (b : Nat) (z : Wz) (mb mg : Nat) (w : World) (x : Wx) (v : Wv) (ws : List Int) (o : Bool) (n : Int) : Prop :=
  RawAt w b x z v ∧ MemAt 116 w mb mg ws o n ∧ Sep [mb, mg] (gY b v) ∧ Sep [mb, mg] z.KK ∧ Turn G0 (mb :: mg :: gY b v) W w
section
variable {W w w' : World} {G0 : List Nat} {b mb mg : Nat} {x : Wx} {z : Wz} {v : Wv} {ws : List Int} {o : Bool} {n : Int}
theorem Mid.raw (h : Mid W G0 b z mb mg w x v ws o n) : RawAt w b x z v := h.1
theorem Mid.mem (h : Mid W G0 b z mb mg w x v ws o n) : MemAt 116 w mb mg ws o n := h.2.1
theorem Mid.cell (h : Mid W G0 b z mb mg w x v ws o n) (j : Nat) : w.cell? ⟨b, j, none⟩ = (boxY x z v)[j]? := h.1.cell j
theorem Mid.free (h : Mid W G0 b z mb mg w x v ws o n) (j : Nat) : w.frozen? ⟨b, j, none⟩ = false := h.1.free j
theorem Mid.ltB (h : Mid W G0 b z mb mg w x v ws o n) : b < w.heap.size := h.1.ltB
theorem Mid.size (h : Mid W G0 b z mb mg w x v ws o n) : W.heap.size ≤ w.heap.size := h.2.2.2.2.size
theorem Mid.on (h : Mid W G0 b z mb mg w x v ws o n) (k : Below w.heap.size w w') : Mid W G0 b z mb mg w' x v ws o n := by
  obtain ⟨h1, h2, h3, h4, t⟩ := h
  exact ⟨h1.on k, h2.on k, h3, h4, t.trans (Below.turn k _)⟩
theorem Mid.alloc (h : Mid W G0 b z mb mg w x v ws o n) (y : Obj) : Mid W G0 b z mb mg (w.alloc y) x v ws o n := h.on (below_alloc _ y)
theorem Mid.same (h : Mid W G0 b z mb mg w x v ws o n) (k : Same w w') : Mid W G0 b z mb mg w' x v ws o n := h.on (k.below _)
theorem Mid.drew (h : Mid W G0 b z mb mg w x v ws o n) : Mid W G0 b z mb mg w.drew x v ws o n := h.same (Same.drew w)
theorem Mid.put (h : Mid W G0 b z mb mg w x v ws o n) (j : Nat) (u : Value) (x' : Wx) (v' : Wv) (e : (boxY x z v).setIfInBounds j u = boxY x' z v') (hm : x'.m = x.m ∧ x'.args = x.args ∧ x'.was = x.was) (hv : v'.ph = v.ph ∧ v'.ch = v.ch ∧ v'.qs = v.qs ∧ v'.s = v.s ∧ v'.qw = v.qw ∧ v'.t = v.t ∧ v'.F = v.F) : Mid W G0 b z mb mg (w.setCell ⟨b, j, none⟩ u) x' v' ws o n := by
  obtain ⟨h1, h2, h3, h4, t⟩ := h
  have eg : gY b v' = gY b v := by obtain ⟨v1, _, v3, _, v5, _, v7⟩ := hv; unfold gY ownY; rw [v1, v3, v5, v7]
  have tb : Turn (mb :: mg :: gY b v) (mb :: mg :: gY b v) w (w.setCell ⟨b, j, none⟩ u) := turn_of (L := [b]) rfl rfl rfl (by simp) (fun k hk => by
    simp only [List.mem_cons, List.not_mem_nil, or_false] at hk
    subst hk
    exact List.mem_cons_of_mem _ (List.mem_cons_of_mem _ in_b)) fun k _ hn => heap_setCell_other _ _ _ _ (by simpa using hn)
  refine ⟨h1.put j u x' v' e hm hv, h2.other (fun e => h3 mb (by simp) (e ▸ in_b)) (fun e => h3 mg (by simp) (e ▸ in_b)) j u, by rw [eg]; exact h3, h4, ?_⟩
  rw [eg]
  exact t.trans tb
theorem Mid.memb {ws' : List Int} {o' : Bool} {n' : Int} (h : Mid W G0 b z mb mg w x v ws o n) (k : Chg mb mg w w') (hm : MemAt 116 w' mb mg ws' o' n') : Mid W G0 b z mb mg w' x v ws' o' n' := by
  obtain ⟨h1, h2, h3, h4, t⟩ := h
  refine ⟨h1.keep ⟨k.size, fun i hi => k.block i (h1.blw i hi) (fun e => h3 mb (by simp) (e ▸ hi)) (fun e => h3 mg (by simp) (e ▸ hi))⟩ ⟨k.size, fun i hi => k.block i (h1.blwK i hi) (fun e => h4 mb (by simp) (e ▸ hi)) (fun e => h4 mg (by simp) (e ▸ hi))⟩, hm, h3, h4, t.trans (turn_of (L := [mb, mg]) k.os k.tape k.output k.size (fun i hi => ?_) fun i hi hn => k.block i hi (fun e => hn (by simp [e])) (fun e => hn (by simp [e])))⟩
  simp only [List.mem_cons, List.not_mem_nil, or_false] at hi
  rcases hi with rfl | rfl <;> simp
/-- what of its parts stays where the memory and one block turn -/
theorem Mid.rest (h : Mid W G0 b z mb mg w x v ws o n) {i0 i : Nat} (hs : w.heap.size ≤ w'.heap.size) (k : ∀ i, i < w.heap.size → i ∉ [mb, mg, i0] → w'.heap[i]? = w.heap[i]?) (hi : i0 ∈ (LY b z v).getD i []) : ∀ j, j ≠ i → Kept ((LY b z v).getD j []) w w' := fun j hj => by
  obtain ⟨h1, h2, h3, h4, t⟩ := h
  refine ⟨hs, fun q hq => k q (h1.blws j q hq) (fun e => ?_)⟩
  have M : ∀ m, m ∈ [mb, mg] → m ≠ q := fun m hm e => by
    by_cases h5 : j < 5
    · exact h3 m hm (e ▸ own_inY h5 hq)
    · match j, h5, hq with
      | 5, _, hq => exact h4 m hm (e ▸ hq)
      | j + 6, _, hq => simp [LY] at hq
  simp only [List.mem_cons, List.not_mem_nil, or_false] at e
  rcases e with e | e | e
  · exact M mb (by simp) e.symm
  · exact M mg (by simp) e.symm
  · exact h1.apart j i hj q hq (e ▸ hi)
/-- the memory and its scan have turned -/
theorem Mid.scans {ws' : List Int} {o' : Bool} {n' : Int} {i0 : Nat} {s : Md.Cv.Ss} (h : Mid W G0 b z mb mg w x v ws o n) (hq : v.qs = some i0) (k : Md.Cv.Ch3 mb mg i0 w w') (hm : MemAt 116 w' mb mg ws' o' n') (hr : Md.Cv.ScAt w' i0 s) : Mid W G0 b z mb mg w' x { v with s := s } ws' o' n' := by
  have K : ∀ i, i < w.heap.size → i ∉ [mb, mg, i0] → w'.heap[i]? = w.heap[i]? := fun i hi hn => k.block i hi (fun e => hn (by simp [e])) (fun e => hn (by simp [e])) (fun e => hn (by simp [e]))
  have R := h.rest (i0 := i0) (i := 2) k.size K (by simp [LY, hq])
  obtain ⟨h1, h2, h3, h4, t⟩ := h
  refine ⟨h1.scans hq k.size R hr, hm, h3, h4, t.trans (turn_of (L := [mb, mg, i0]) k.os k.tape k.output k.size (fun i hi => ?_) K)⟩
  simp only [List.mem_cons, List.not_mem_nil, or_false] at hi
  rcases hi with rfl | rfl | rfl
  · simp
  · simp
  · exact List.mem_cons_of_mem _ (List.mem_cons_of_mem _ (in_s hq))
/-- the memory and its write have turned -/
theorem Mid.writes {ws' : List Int} {o' : Bool} {n' : Int} {i0 : Nat} {s : Md.Ce.Wt} (h : Mid W G0 b z mb mg w x v ws o n) (hq : v.qw = some i0) (k : Md.Ce.Ch [mb, mg, i0] w w') (hm : MemAt 116 w' mb mg ws' o' n') (hr : Md.Ce.WtAt w' i0 s) : Mid W G0 b z mb mg w' x { v with t := s } ws' o' n' := by
  have R := h.rest (i0 := i0) (i := 3) k.size k.block (by simp [LY, hq])
  obtain ⟨h1, h2, h3, h4, t⟩ := h
  refine ⟨h1.writes hq k.size R hr, hm, h3, h4, t.trans (turn_of (L := [mb, mg, i0]) k.os k.tape k.output k.size (fun i hi => ?_) k.block)⟩
  simp only [List.mem_cons, List.not_mem_nil, or_false] at hi
  rcases hi with rfl | rfl | rfl
  · simp
  · simp
  · exact List.mem_cons_of_mem _ (List.mem_cons_of_mem _ (in_w hq))
/-- a block that is new lies nowhere among its own -/
theorem Mid.new (h : Mid W G0 b z mb mg w x v ws o n) {i0 : Nat} (hi : w.heap.size ≤ i0) : i0 ∉ gY b v ∧ i0 ∉ z.KK ∧ i0 ≠ mb ∧ i0 ≠ mg := by
  obtain ⟨h1, h2, h3, h4, t⟩ := h
  exact ⟨fun y => absurd (h1.blw i0 y) (Nat.not_lt.2 hi), fun y => absurd (h1.blwK i0 y) (Nat.not_lt.2 hi), fun e => by have := h2.ltB; omega, fun e => by have := h2.ltG; omega⟩
theorem Mid.scanNew {w1 : World} {s : Md.Cv.Ss} {i0 : Nat} (h : Mid W G0 b z mb mg w x v ws o n) (k : Below w.heap.size w w1) (hi : w.heap.size ≤ i0) (hr : Md.Cv.ScAt w1 i0 s) : Mid W G0 b z mb mg (w1.setCell ⟨b, 16, none⟩ (.pointer (some ⟨i0, 0, none⟩))) x { v with qs := some i0, s := s } ws o n := by
  obtain ⟨n1, n2, n3, n4⟩ := h.new hi
  have hs := h.size
  obtain ⟨h1, h2, h3, h4, t⟩ := h
  have tt : Turn (mb :: mg :: gY b v) (mb :: mg :: gY b v) w1 (w1.setCell ⟨b, 16, none⟩ (.pointer (some ⟨i0, 0, none⟩))) := ⟨rfl, rfl, rfl, by simp, fun i _ hn => heap_setCell_other _ _ _ _ (fun (e : i = b) => hn (e ▸ List.mem_cons_of_mem _ (List.mem_cons_of_mem _ in_b))), fun i hy => .inl hy⟩
  have G : ∀ i, i ∈ gY b { v with qs := some i0, s := s } → i = i0 ∨ i ∈ gY b v := fun i hy => by
    rcases mem_gY.1 hy with y | y | y | y | y
    · exact .inr (mem_gY.2 (.inl y))
    · exact .inr (in_h y)
    · exact .inl (Option.some.inj y).symm
    · exact .inr (in_w y)
    · exact .inr (in_F y)
  refine ⟨(h1.on k).putS hr n1 n2, (h2.on k).other (fun e => h3 mb (by simp) (e ▸ in_b)) (fun e => h3 mg (by simp) (e ▸ in_b)) 16 _, fun i hi2 hy => ?_, h4, ((t.trans (Below.turn k _)).trans tt).mono fun i hy => ?_⟩
  · rcases G i hy with e | y
    · subst e
      simp only [List.mem_cons, List.not_mem_nil, or_false] at hi2
      omega
    · exact h3 i hi2 y
  · simp only [List.mem_cons] at hy
    rcases hy with y | y | y
    · exact t.own i (by simp [y])
    · exact t.own i (by simp [y])
    · rcases G i y with e | y
      · exact .inr (by omega)
      · exact t.own i (by simp [y])
theorem Mid.writeNew {w1 : World} {s : Md.Ce.Wt} {i0 : Nat} (h : Mid W G0 b z mb mg w x v ws o n) (k : Below w.heap.size w w1) (hi : w.heap.size ≤ i0) (hr : Md.Ce.WtAt w1 i0 s) : Mid W G0 b z mb mg (w1.setCell ⟨b, 18, none⟩ (.pointer (some ⟨i0, 0, none⟩))) x { v with qw := some i0, t := s } ws o n := by
  obtain ⟨n1, n2, n3, n4⟩ := h.new hi
  have hs := h.size
  obtain ⟨h1, h2, h3, h4, t⟩ := h
  have tt : Turn (mb :: mg :: gY b v) (mb :: mg :: gY b v) w1 (w1.setCell ⟨b, 18, none⟩ (.pointer (some ⟨i0, 0, none⟩))) := ⟨rfl, rfl, rfl, by simp, fun i _ hn => heap_setCell_other _ _ _ _ (fun (e : i = b) => hn (e ▸ List.mem_cons_of_mem _ (List.mem_cons_of_mem _ in_b))), fun i hy => .inl hy⟩
  have G : ∀ i, i ∈ gY b { v with qw := some i0, t := s } → i = i0 ∨ i ∈ gY b v := fun i hy => by
    rcases mem_gY.1 hy with y | y | y | y | y
    · exact .inr (mem_gY.2 (.inl y))
    · exact .inr (in_h y)
    · exact .inr (in_s y)
    · exact .inl (Option.some.inj y).symm
    · exact .inr (in_F y)
  refine ⟨(h1.on k).putW hr n1 n2, (h2.on k).other (fun e => h3 mb (by simp) (e ▸ in_b)) (fun e => h3 mg (by simp) (e ▸ in_b)) 18 _, fun i hi2 hy => ?_, h4, ((t.trans (Below.turn k _)).trans tt).mono fun i hy => ?_⟩
  · rcases G i hy with e | y
    · subst e
      simp only [List.mem_cons, List.not_mem_nil, or_false] at hi2
      omega
    · exact h3 i hi2 y
  · simp only [List.mem_cons] at hy
    rcases hy with y | y | y
    · exact t.own i (by simp [y])
    · exact t.own i (by simp [y])
    · rcases G i y with e | y
      · exact .inr (by omega)
      · exact t.own i (by simp [y])
/-- its machine: what it may do, and what is then -/
theorem Mid.mach (h : Mid W G0 b z mb mg w x v ws o n) : Gm w v.F z.bm z.K w x.m ∧ (TabAt W G0 → TabAt w v.F) ∧ ∀ w' m', Gm w v.F z.bm z.K w' m' → ∃ F', Mid W G0 b z mb mg w' { x with m := m' } { v with F := F' } ws o n := by
  obtain ⟨h1, h2, h3, h4, t⟩ := h
  refine ⟨h1.mac.gm, fun hT => ?_, fun w' m' g => ?_⟩
  · have := hT.turn t
    exact ⟨this.1, fun y => this.2 (List.mem_cons_of_mem _ (List.mem_cons_of_mem _ (in_F y)))⟩
  · obtain ⟨F', g1, tF⟩ := h1.mach g
    have nm : ∀ i, i ∈ [mb, mg] → i ∉ v.F := fun i hi y => h3 i hi (in_F y)
    have lM : Blw w [mb, mg] := fun k hk => by
      simp only [List.mem_cons, List.not_mem_nil, or_false] at hk
      rcases hk with rfl | rfl
      · exact h2.ltB
      · exact h2.ltG
    have sp : Sep [mb, mg] F' := Sep.turn (fun i hi y => nm i hi y) lM tF
    have G : ∀ i, i ∈ gY b { v with F := F' } → i ∈ F' ∨ i ∈ gY b v := fun i hy => by
      rcases mem_gY.1 hy with y | y | y | y | y
      · exact .inr (mem_gY.2 (.inl y))
      · exact .inr (in_h y)
      · exact .inr (in_s y)
      · exact .inr (in_w y)
      · exact .inl y
    refine ⟨F', g1, h2.keep (tF.block mb h2.ltB (nm mb (by simp))) (tF.block mg h2.ltG (nm mg (by simp))), fun i hi hy => ?_, h4, t.trans ⟨tF.os, tF.tape, tF.output, tF.size, fun k hk hn => tF.block k hk (fun y => hn (List.mem_cons_of_mem _ (List.mem_cons_of_mem _ (in_F y)))), fun i hy => ?_⟩⟩
    · rcases G i hy with y | y
      · exact sp i hi y
      · exact h3 i hi y
    · simp only [List.mem_cons] at hy
      rcases hy with y | y | y
      · exact .inl (by simp [y])
      · exact .inl (by simp [y])
      · rcases G i y with y | y
        · rcases tF.own i y with y | y
          · exact .inl (List.mem_cons_of_mem _ (List.mem_cons_of_mem _ (in_F y)))
          · exact .inr y
        · exact .inl (by simp [y])
/-- what a cell had is noted: behind append, and the store of the field -/
theorem Mid.hads (h : Mid W G0 b z mb mg w x v ws o n) {w3 : World} {u : Value} {y : Nat} (hown : w3.ownsRow 0 73 1 u (x.was.length + 1) (fls x.was ++ [.float .f64 y])) (hg : w.grownBy w3 (Value.slice v.ph x.was.length v.ch).ownBlock) (hat : u.ownBlock = (Value.slice v.ph x.was.length v.ch).ownBlock ∨ ∃ s, u.ownBlock = some s ∧ w.heap.size ≤ s) :
    ∃ p' c', u = .slice p' (x.was.length + 1) c' ∧ w3.heap[b]? = some (.cells (boxY x z v) 102 (0, 0)) ∧ Mid W G0 b z mb mg (w3.setCell ⟨b, 15, none⟩ u) { x with was := x.was ++ [y] } { v with ph := p', ch := c' } ws o n := by
  obtain ⟨h1, h2, h3, h4, t⟩ := h
  obtain ⟨p', c', e, tH, g1⟩ := h1.hads hown hg hat
  have hbox : w3.heap[b]? = _ := ((h1.others (i := 1) tH 0 (by omega)).2 b (by simp [LY])).trans h1.box
  have nm : ∀ i, i ∈ [mb, mg] → i ∉ fpR v.ph := fun i hi y => h3 i hi (in_h y)
  have lM : Blw w [mb, mg] := fun k hk => by
    simp only [List.mem_cons, List.not_mem_nil, or_false] at hk
    rcases hk with rfl | rfl
    · exact h2.ltB
    · exact h2.ltG
  have sp : Sep [mb, mg] (fpR p') := Sep.turn (fun i hi y => nm i hi y) lM tH
  have G : ∀ i, i ∈ gY b { v with ph := p', ch := c' } → i ∈ fpR p' ∨ i ∈ gY b v := fun i hy => by
    rcases mem_gY.1 hy with y | y | y | y | y
    · exact .inr (mem_gY.2 (.inl y))
    · exact .inl y
    · exact .inr (in_s y)
    · exact .inr (in_w y)
    · exact .inr (in_F y)
  have m3 : MemAt 116 w3 mb mg ws o n := h2.keep (tH.block mb h2.ltB (nm mb (by simp))) (tH.block mg h2.ltG (nm mg (by simp)))
  refine ⟨p', c', e, hbox, g1, m3.other (fun e => h3 mb (by simp) (e ▸ in_b)) (fun e => h3 mg (by simp) (e ▸ in_b)) 15 _, fun i hi hy => ?_, h4, t.trans ⟨tH.os, tH.tape, tH.output, by simpa using tH.size, fun k hk hn => ?_, fun i hy => ?_⟩⟩
  · rcases G i hy with y | y
    · exact sp i hi y
    · exact h3 i hi y
  · have nb : k ≠ b := fun e => hn (e ▸ List.mem_cons_of_mem _ (List.mem_cons_of_mem _ in_b))
    exact (heap_setCell_other _ _ _ _ nb).trans (tH.block k hk (fun y => hn (List.mem_cons_of_mem _ (List.mem_cons_of_mem _ (in_h y)))))
  · simp only [List.mem_cons] at hy
    rcases hy with y | y | y
    · exact .inl (by simp [y])
    · exact .inl (by simp [y])
    · rcases G i y with y | y
      · rcases tH.own i y with y | y
        · exact .inl (List.mem_cons_of_mem _ (List.mem_cons_of_mem _ (in_h y)))
        · exact .inr y
      · exact .inl (by simp [y])
end
end Go.Proofs.YteinilmecnlanaaGreatDoor.Ww
namespace Go.Proofs.YteinilmecnlanaaGreatDoor.Md.Ct
open Go.ChangeShapes Go.WideShapes Go.ChangeAt Go.RowKit
/-- a plan, as a value -/
def plnV (a b c d e f : Int) : Value := .agg #[.int .i64 a, .int .i64 b, .int .i64 c, .int .i64 d, .int .i64 e, .int .i64 f]
/-- let, over whatever it is asked -/
theorem letW_any {f : FuncId} {cap : Array Value} {w : World} {Q : World → Prop} (x y : Int) (z : Int) (hz : (if y = 0 then x else 0) = z) (hcall : ∀ (args : Array Value) (w : World), (callFunc f args).run Tryz.prog w = .ok (.enter f args) w)
    (hf : Calls Tryz.prog f cap w fun e w' => e = .returned (.tuple #[.int .u64 x, .int .i64 y]) ∧ Q w') : Calls Tryz.prog 113 #[.func (.func f) #[] cap] w fun e w' => e = .returned (.tuple #[.int .u64 z, .int .i64 y]) ∧ Q w' := by
  subst hz
  have HF := Lib.hid hf
  clear hf
  by_cases hy : y = 0
  · subst hy
    go_enter Tryz.func113, Tryz.ntmps113
    go_wp2_with (refine HF.out.mono ?_; rintro e w' ⟨rfl, hq⟩)
    go_ret2
    exact ⟨rfl, hq⟩
  · rw [if_neg hy]
    go_enter Tryz.func113, Tryz.ntmps113
    go_wp2_with (refine HF.out.mono ?_; rintro e w' ⟨rfl, hq⟩)
    go_ret2
    exact ⟨rfl, hq⟩
theorem letB_any {f : FuncId} {cap : Array Value} {w : World} {Q : World → Prop} (x : Bool) (y : Int) (z : Bool) (hz : (if y = 0 then x else false) = z) (hcall : ∀ (args : Array Value) (w : World), (callFunc f args).run Tryz.prog w = .ok (.enter f args) w)
    (hf : Calls Tryz.prog f cap w fun e w' => e = .returned (.tuple #[.bool x, .int .i64 y]) ∧ Q w') : Calls Tryz.prog 139 #[.func (.func f) #[] cap] w fun e w' => e = .returned (.tuple #[.bool z, .int .i64 y]) ∧ Q w' := by
  subst hz
  have HF := Lib.hid hf
  clear hf
  by_cases hy : y = 0
  · subst hy
    go_enter Tryz.func139, Tryz.ntmps139
    go_wp2_with (refine HF.out.mono ?_; rintro e w' ⟨rfl, hq⟩)
    go_ret2
    exact ⟨rfl, hq⟩
  · rw [if_neg hy]
    go_enter Tryz.func139, Tryz.ntmps139
    go_wp2_with (refine HF.out.mono ?_; rintro e w' ⟨rfl, hq⟩)
    go_ret2
    exact ⟨rfl, hq⟩
theorem cell_kept {w w' : World} {b : Nat} (e : w'.heap[b]? = w.heap[b]?) (o : Nat) : w'.cell? ⟨b, o, none⟩ = w.cell? ⟨b, o, none⟩ := by simp [World.cell?, e]
end Go.Proofs.YteinilmecnlanaaGreatDoor.Md.Ct
namespace Go.Proofs.YteinilmecnlanaaGreatDoor.Md.Ct
open Go.ChangeShapes Go.WideShapes Go.ChangeAt Go.RowKit
section
variable {w : World} {b g : Nat} {ws : List Int} {o : Bool} {c : Int}
/-- what is told of a word that is looked at -/
def lookB (ws : List Int) (o : Bool) (i t : Int) : Bool := (hasB ws i && o) && decide (wordAt ws i = t)
def passV (t : Int) : Int := IntKind.u64.wrap (t + 1)
theorem told_let (ws : List Int) (o : Bool) (i : Int) : (if errA ws o i = 0 then toldW ws o i else 0) = toldW ws o i := by
  unfold errA toldW
  cases q : hasB ws i <;> cases o <;> simp
theorem look_let (ws : List Int) (o : Bool) (i t : Int) : (if errA ws o i = 0 then decide (toldW ws o i = t) else false) = lookB ws o i t := by
  unfold errA toldW lookB
  cases q : hasB ws i <;> cases o <;> simp
set_option maxRecDepth 100000 in
set_option maxHeartbeats 1000000 in
theorem drawAct_any (h : MemAt 116 w b g ws o c) (pm pp : Nat) (a : Int) (h0 : w.cell? ⟨pm, 0, none⟩ = some (.pointer (some ⟨b, 0, none⟩))) (h1 : w.cell? ⟨pp, 0, none⟩ = some (.int .i64 a)) :
    Calls Tryz.prog 114 #[.pointer (some ⟨pm, 0, none⟩), .pointer (some ⟨pp, 0, none⟩)] w fun e w' => e = .returned (.tuple #[.int .u64 (toldW ws o a), .int .i64 (errA ws o a)]) ∧ MemAt 116 w' b g (stored ws o a (addV (wordAt ws a) 1)) (spentO ws o a) (spentC ws o a c) ∧ Chg b g w w' := by
  have HA := Lib.hid (add_any h a 1)
  clear h
  go_enter Tryz.func114, Tryz.ntmps114
  go_wp2_with (go_at_call 115; refine HA.out.mono ?_; rintro e w' ⟨rfl, hq⟩)
  go_ret2
  exact ⟨rfl, hq⟩
set_option maxRecDepth 100000 in
set_option maxHeartbeats 1000000 in
theorem draw_any (h : MemAt 116 w b g ws o c) (a0 a1 a2 a3 a4 a5 : Int) :
    Calls Tryz.prog 99 #[.pointer (some ⟨b, 0, none⟩), plnV a0 a1 a2 a3 a4 a5] w fun e w' => e = .returned (.tuple #[.int .u64 (toldW ws o a0), .int .i64 (errA ws o a0)]) ∧ MemAt 116 w' b g (stored ws o a0 (addV (wordAt ws a0) 1)) (spentO ws o a0) (spentC ws o a0 c) ∧ Chg b g w w' := by
  unfold plnV
  have HM := Lib.hid h
  clear h
  go_enter Tryz.func99, Tryz.ntmps99
  go_wp2_with (go_at_call 113; refine (letW_any _ _ _ (told_let ..) (enter_run Tryz.func114 (by kernel_rfl) (by kernel_rfl)) (drawAct_any ((HM.out.alloc _).alloc _) _ _ a0 (by simp [go_sem]) (by simp [go_sem]))).mono ?_; rintro e w' ⟨rfl, hm, hc⟩; have HX := Lib.hid (And.intro hm (((Chg.refl b g w).alloc _).alloc _ |>.trans hc)); clear hm hc)
  go_ret2
  exact ⟨rfl, HX.out⟩
set_option maxRecDepth 100000 in
set_option maxHeartbeats 1000000 in
theorem lookAct_any (h : MemAt 116 w b g ws o c) (pm pp pt : Nat) (a t : Int) (nb : pt ≠ b) (ng : pt ≠ g) (h0 : w.cell? ⟨pm, 0, none⟩ = some (.pointer (some ⟨b, 0, none⟩))) (h1 : w.cell? ⟨pp, 1, none⟩ = some (.int .i64 a)) (h2 : w.cell? ⟨pt, 0, none⟩ = some (.int .u64 t)) :
    Calls Tryz.prog 140 #[.pointer (some ⟨pm, 0, none⟩), .pointer (some ⟨pp, 0, none⟩), .pointer (some ⟨pt, 0, none⟩)] w fun e w' => e = .returned (.tuple #[.bool (decide (toldW ws o a = t)), .int .i64 (errA ws o a)]) ∧ MemAt 116 w' b g ws (spentO ws o a) (spentC ws o a c) ∧ Chg b g w w' := by
  have HA := Lib.hid (load_any h a)
  have hlt := World.block_lt_of_cell? w _ h2
  have HN := Lib.hid (And.intro nb ng)
  clear h nb ng
  generalize toldW ws o a = x at *
  by_cases hx : x = t
  · go_enter Tryz.func140, Tryz.ntmps140
    go_wp2_with (go_at_call 23; refine HA.out.mono ?_; rintro e w' ⟨rfl, hm, hc⟩; have q2 : w'.cell? ⟨pt, 0, none⟩ = some (.int .u64 t) := ((cell_kept (hc.block pt hlt HN.out.1 HN.out.2) 0).trans h2); have HX := Lib.hid (And.intro hm hc); clear hm hc)
    go_ret2
    exact ⟨by simp [hx], HX.out⟩
  · go_enter Tryz.func140, Tryz.ntmps140
    go_wp2_with (go_at_call 23; refine HA.out.mono ?_; rintro e w' ⟨rfl, hm, hc⟩; have q2 : w'.cell? ⟨pt, 0, none⟩ = some (.int .u64 t) := ((cell_kept (hc.block pt hlt HN.out.1 HN.out.2) 0).trans h2); have HX := Lib.hid (And.intro hm hc); clear hm hc)
    go_ret2
    exact ⟨by simp [hx], HX.out⟩
set_option maxRecDepth 100000 in
set_option maxHeartbeats 1000000 in
theorem look_any (h : MemAt 116 w b g ws o c) (a0 a1 a2 a3 a4 a5 t : Int) :
    Calls Tryz.prog 116 #[.pointer (some ⟨b, 0, none⟩), plnV a0 a1 a2 a3 a4 a5, .int .u64 t] w fun e w' => e = .returned (.tuple #[.bool (lookB ws o a1 t), .int .i64 (errA ws o a1)]) ∧ MemAt 116 w' b g ws (spentO ws o a1) (spentC ws o a1 c) ∧ Chg b g w w' := by
  unfold plnV
  have HM := Lib.hid h
  have HLT : Hid (b < w.heap.size ∧ g < w.heap.size) := ⟨h.ltB, h.ltG⟩
  clear h
  go_enter Tryz.func116, Tryz.ntmps116
  go_wp2_with (go_at_call 139; refine (letB_any _ _ _ (look_let ..) (enter_run Tryz.func140 (by kernel_rfl) (by kernel_rfl)) (lookAct_any (((HM.out.alloc _).alloc _).alloc _) _ _ _ a1 t (by have := HLT.out; omega) (by have := HLT.out; omega) (by simp [go_sem]) (by simp [go_sem]) (by simp [go_sem]))).mono ?_; rintro e w' ⟨rfl, hm, hc⟩; have HX := Lib.hid (And.intro hm ((((Chg.refl b g w).alloc _).alloc _).alloc _ |>.trans hc)); clear hm hc)
  go_ret2
  exact ⟨rfl, HX.out⟩
set_option maxRecDepth 100000 in
set_option maxHeartbeats 1000000 in
theorem passAct_any (h : MemAt 116 w b g ws o c) (pm pp pt : Nat) (a t : Int) (h0 : w.cell? ⟨pm, 0, none⟩ = some (.pointer (some ⟨b, 0, none⟩))) (h1 : w.cell? ⟨pp, 1, none⟩ = some (.int .i64 a)) (h2 : w.cell? ⟨pt, 0, none⟩ = some (.int .u64 t)) :
    Calls Tryz.prog 221 #[.pointer (some ⟨pt, 0, none⟩), .pointer (some ⟨pm, 0, none⟩), .pointer (some ⟨pp, 0, none⟩)] w fun e w' => e = .returned (.tuple #[.int .u64 (passV t), .int .i64 (errA ws o a)]) ∧ MemAt 116 w' b g (stored ws o a (passV t)) (spentO ws o a) (spentC ws o a c) ∧ Chg b g w w' := by
  have HA := Lib.hid (store_any h a (passV t))
  unfold passV at *
  clear h
  go_enter Tryz.func221, Tryz.ntmps221
  go_wp2_with (go_at_call 222; refine HA.out.mono ?_; rintro e w' ⟨rfl, hm, hc⟩; have HX := Lib.hid (And.intro hm hc); clear hm hc)
  go_ret2
  exact ⟨rfl, HX.out⟩
set_option maxRecDepth 100000 in
set_option maxHeartbeats 1000000 in
theorem pass_any (h : MemAt 116 w b g ws o c) (a0 a1 a2 a3 a4 a5 t : Int) :
    Calls Tryz.prog 212 #[.pointer (some ⟨b, 0, none⟩), plnV a0 a1 a2 a3 a4 a5, .int .u64 t] w fun e w' => e = .returned (.int .i64 (errA ws o a1)) ∧ MemAt 116 w' b g (stored ws o a1 (passV t)) (spentO ws o a1) (spentC ws o a1 c) ∧ Chg b g w w' := by
  unfold plnV
  have HM := Lib.hid h
  obtain ⟨z, hz⟩ : ∃ z, (if errA ws o a1 = 0 then passV t else 0) = z := ⟨_, rfl⟩
  have HZ := Lib.hid hz
  clear hz
  clear h
  go_enter Tryz.func212, Tryz.ntmps212
  go_wp2_with (go_at_call 113; refine (letW_any _ _ z HZ.out (enter_run Tryz.func221 (by kernel_rfl) (by kernel_rfl)) (passAct_any (((HM.out.alloc _).alloc _).alloc _) _ _ _ a1 t (by simp [go_sem]) (by simp [go_sem]) (by simp [go_sem]))).mono ?_; rintro e w' ⟨rfl, hm, hc⟩; have HX := Lib.hid (And.intro hm ((((Chg.refl b g w).alloc _).alloc _).alloc _ |>.trans hc)); clear hm hc)
  go_ret
  exact ⟨rfl, HX.out⟩
end
end Go.Proofs.YteinilmecnlanaaGreatDoor.Md.Ct
namespace Go.Proofs.YteinilmecnlanaaGreatDoor.Ww
open Go.ChangeShapes Go.WideShapes Go.ChangeAt Go.RowKit Num Rr
theorem hasB_of {ws : List Int} {i : Int} (h : 0 ≤ i) (k : i < (ws.length : Int)) : hasB ws i = true := decide_eq_true ⟨h, k⟩
theorem errA_of {ws : List Int} {i : Int} (h : 0 ≤ i) (k : i < (ws.length : Int)) : errA ws true i = 0 := by unfold errA; rw [hasB_of h k]; rfl
def bufC (x : Wx) (k : Nat) : Int := (x.m.buf.getD k (0, 0)).1
def bufX (x : Wx) (k : Nat) : Nat := (x.m.buf.getD k (0, 0)).2
/-- the write of the cell k of its buffer, d of whose words are stored -/
def wtK (x : Wx) (k d : Nat) : Md.Ce.Wt := ⟨3 + x.b, bufC x k, ((x.was.getD k 0 : Nat) : Int), Md.Cv.passV x.stamp, ((bufX x k : Nat) : Int), d⟩
structure VOk (x : Wx) (v : Wv) : Prop where
  nx : v.nx = nextV x.part
  s5 : x.part = 5 → (∃ n, v.qs = some n) ∧ v.s.B = 3 ∧ v.s.H = x.b ∧ v.s.D = x.stamp ∧ v.s.P = (x.at_ : Int)
  b5 : x.part ≤ 5 → v.bg = 0
  w6 : x.part = 6 → (∃ n, v.qw = some n) ∧ v.bg = ((x.at_ / 3 + 1 : Nat) : Int) ∧ v.t = wtK x (x.at_ / 3) (x.at_ % 3)
  nb : wrap64 v.nb = x.num
theorem nextV_ne {p : Nat} (h : p ≠ 9) : nextV p = fnV (partF p) := by unfold nextV; rw [if_neg h]
theorem VOk.tick {x : Wx} {v : Wv} (h : VOk x v) : VOk (tickY x) v := ⟨h.nx, h.s5, h.b5, h.w6, h.nb⟩
section
variable {x : Wx} {ws : List Int}
/-- a look at a claim -/
def letsY (x : Wx) (ws : List Int) : Bool := decide (wordAt ws (3 + (x.at_ : Int)) = 0 ∨ x.stamp < wordAt ws (3 + (x.at_ : Int)))
theorem scan_rel (hI : InY x) (hp : x.part = 5) (hl : plY x ≤ (ws.length : Int)) {s : Md.Cv.Ss} (hB : s.B = 3) (hH : s.H = x.b) (hD : s.D = x.stamp) (hP : s.P = (x.at_ : Int)) (n : Int) :
    Md.Cv.sE s ws true = 0 ∧ Md.Cv.sP s ws true = false ∧ Md.Cv.sQ s ws true n = up n ∧ Md.Cv.SOk s ∧ Md.Cv.sO s ws true = (letsY x ws && decide (((x.at_ + 1 : Nat) : Int) = x.b)) ∧ (letsY x ws = true → Md.Cv.sC s ws true = ⟨3, x.b, x.stamp, ((x.at_ + 1 : Nat) : Int), s.Q⟩) ∧ (letsY x ws = false → Md.Cv.sC s ws true = ⟨3, x.b, x.stamp, (x.at_ : Int), up s.Q⟩) := by
  obtain ⟨B, H, D, P, Q⟩ := s
  dsimp only at hB hH hD hP
  subst hB hH hD hP
  have h5 := hI.at5 hp
  have hb := hI.cb
  have ha := hI.ca
  unfold plY at hl
  have hpl : Md.Cv.plc 3 (x.at_ : Int) = 3 + (x.at_ : Int) := by unfold Md.Cv.plc; rw [if_pos (by omega)]
  have hm : Md.Cv.mayH x.b = true := decide_eq_true ⟨hb.1, hb.2⟩
  have hE : Md.Cv.sE ⟨3, x.b, x.stamp, (x.at_ : Int), Q⟩ ws true = 0 := by
    unfold Md.Cv.sE
    dsimp only
    rw [hm, if_pos rfl, if_neg (by omega), hpl]
    exact errA_of (by omega) (by omega)
  have hC : Md.Cv.sC ⟨3, x.b, x.stamp, (x.at_ : Int), Q⟩ ws true = Md.Cv.sN ⟨3, x.b, x.stamp, (x.at_ : Int), Q⟩ (wordAt ws (3 + (x.at_ : Int))) := by
    unfold Md.Cv.sC
    rw [if_pos hE]
    dsimp only
    rw [hpl]
  have hL : Md.Cv.letB x.stamp (wordAt ws (3 + (x.at_ : Int))) = letsY x ws := by
    unfold Md.Cv.letB letsY
    rw [Bool.eq_iff_iff]
    simp
  have hN : Md.Cv.sN ⟨3, x.b, x.stamp, (x.at_ : Int), Q⟩ (wordAt ws (3 + (x.at_ : Int))) = if letsY x ws then ⟨3, x.b, x.stamp, (x.at_ : Int) + 1, Q⟩ else ⟨3, x.b, x.stamp, (x.at_ : Int), up Q⟩ := by
    unfold Md.Cv.sN
    dsimp only
    rw [hL]
  refine ⟨hE, ?_, ?_, ⟨by dsimp only; omega, fun _ => by dsimp only; omega⟩, ?_, fun q => ?_, fun q => ?_⟩
  · unfold Md.Cv.sP; rw [if_pos hE]
  · unfold Md.Cv.sQ; rw [if_pos hE]
  · unfold Md.Cv.sO
    rw [hE, hC, hN, decide_eq_true rfl, Bool.true_and]
    cases letsY x ws
    · rw [Bool.false_and]
      exact decide_eq_false (by simp; omega)
    · rw [Bool.true_and]
      simp
  · rw [hC, hN, q]
    simp
  · rw [hC, hN, q]
    simp
/-- the scan's step, in the numbers -/
theorem scanY_no (h : letsY x ws = false) : scanY x ws = x := by
  have := of_decide_eq_false h
  unfold scanY
  rw [if_neg this]
theorem scanY_on (h : letsY x ws = true) (hb : ¬ ((x.at_ + 1 : Nat) : Int) = x.b) : scanY x ws = { x with at_ := x.at_ + 1 } := by
  have := of_decide_eq_true h
  unfold scanY
  rw [if_pos this, if_neg hb]
theorem scanY_end (h : letsY x ws = true) (hb : ((x.at_ + 1 : Nat) : Int) = x.b) : scanY x ws = { x with at_ := 0, part := if x.m.buf.length = 0 then 7 else 6 } := by
  have := of_decide_eq_true h
  unfold scanY
  rw [if_pos this, if_pos hb]
theorem okN_fix' {v : Nat} (h : okN v) : fixB v = v := h.1
theorem buf_in (hI : InY x) {k : Nat} (hk : k < x.m.buf.length) : 0 ≤ bufC x k ∧ bufC x k < x.a ∧ okN (bufX x k) := by
  have e : x.m.buf.getD k (0, 0) = x.m.buf[k] := by simp [hk]
  unfold bufC bufX
  rw [e, ← hI.cel]
  exact ⟨(hI.rest.cel _ (List.getElem_mem hk)).1, (hI.rest.cel _ (List.getElem_mem hk)).2, hI.rest.inv.buf _ (List.getElem_mem hk)⟩
theorem was_in (hI : InY x) (k : Nat) : okN (x.was.getD k 0) := getD_all 0 okN_zero x.was hI.wok k
theorem newW_is (hI : InY x) {k : Nat} (hk : k < x.m.buf.length) : Md.Ce.newW (3 + x.b) (bufC x k) (Md.Cv.passV x.stamp) (x.was.getD k 0) (bufX x k) = wtK x k 0 := by
  unfold Md.Ce.newW wtK
  rw [okN_fix' (was_in hI k), okN_fix' (buf_in hI hk).2.2]
/-- a store of the writing back -/
theorem write_rel (hI : InY x) (hp : x.part = 6) (hl : plY x ≤ (ws.length : Int)) (n : Int) : Md.Ce.errW (wtK x (x.at_ / 3) (x.at_ % 3)) ws true = 0 ∧ Md.Ce.laidW (wtK x (x.at_ / 3) (x.at_ % 3)) ws true = backW x ws ∧ Md.Ce.stepW (wtK x (x.at_ / 3) (x.at_ % 3)) ws true = wtK x (x.at_ / 3) (x.at_ % 3 + 1) ∧ Md.Ce.endW (wtK x (x.at_ / 3) (x.at_ % 3)) ws true = decide (x.at_ % 3 = 2) ∧ Md.Ce.aftO (Md.Ce.errW (wtK x (x.at_ / 3) (x.at_ % 3)) ws true) true = false ∧ Md.Ce.aftN (Md.Ce.errW (wtK x (x.at_ / 3) (x.at_ % 3)) ws true) n = up n := by
  have h6 := hI.at6 hp
  have hk : x.at_ / 3 < x.m.buf.length := by omega
  obtain ⟨c1, c2, c3⟩ := buf_in hI hk
  have hb := hI.cb
  have ha := hI.ca
  unfold plY at hl
  have hd : x.at_ % 3 < 3 := Nat.mod_lt _ (by omega)
  have P : ∀ j : Int, Md.Ce.placeI (3 + x.b) (bufC x (x.at_ / 3)) j = 3 + x.b + 3 * bufC x (x.at_ / 3) + j := fun j => by unfold Md.Ce.placeI; rw [if_pos (by omega)]
  have hw := Md.Ce.wordW_in (x.at_ % 3)
  have hE : Md.Ce.errW (wtK x (x.at_ / 3) (x.at_ % 3)) ws true = 0 := by
    unfold Md.Ce.errW Md.Ce.errC wtK
    dsimp only
    rw [if_pos hd, show Md.Ce.mayC (bufC x (x.at_ / 3)) = true from decide_eq_true ⟨c1, by omega⟩, if_pos rfl, P]
    exact errA_of (by omega) (by omega)
  refine ⟨hE, ?_, ?_, ?_, ?_, ?_⟩
  · unfold Md.Ce.laidW
    rw [if_pos hE]
    unfold Md.Ce.storeC Md.Ce.bitsW Md.Ce.wordW wtK backW atC
    dsimp only
    rw [P]
    rcases (by omega : x.at_ % 3 = 0 ∨ x.at_ % 3 = 1 ∨ x.at_ % 3 = 2) with d | d | d
    · simp only [d, if_true]
      rfl
    · simp only [d, if_true, if_neg (show ¬ (1 : Nat) = 0 by omega)]
      rfl
    · simp only [d, if_neg (show ¬ (2 : Nat) = 0 by omega), if_neg (show ¬ (2 : Nat) = 1 by omega)]
      rfl
  · unfold Md.Ce.stepW
    rw [if_pos hE]
    rfl
  · unfold Md.Ce.endW
    rw [hE, decide_eq_true rfl, Bool.true_and]
    rfl
  · unfold Md.Ce.aftO; rw [if_pos hE]
  · unfold Md.Ce.aftN; rw [if_pos hE]
/-- a load of a cell's number -/
theorem now_rel (ha : 1 ≤ x.a ∧ x.a ≤ 256) (hb : 1 ≤ x.b ∧ x.b ≤ 8) (hl : plY x ≤ (ws.length : Int)) {c : Int} (h0 : 0 ≤ c) (h1 : c < x.a) (n : Int) : Md.Ce.errC ws true (3 + x.b) c 1 = 0 ∧ Md.Ce.nowV ws true (3 + x.b) c = nowN x ws c ∧ Md.Ce.aftO (Md.Ce.errC ws true (3 + x.b) c 1) true = false ∧ Md.Ce.aftN (Md.Ce.errC ws true (3 + x.b) c 1) n = up n := by
  unfold plY at hl
  have P : Md.Ce.placeI (3 + x.b) c 1 = 3 + x.b + 3 * c + 1 := by unfold Md.Ce.placeI; rw [if_pos (by omega)]
  have hE : Md.Ce.errC ws true (3 + x.b) c 1 = 0 := by
    unfold Md.Ce.errC
    rw [show Md.Ce.mayC c = true from decide_eq_true ⟨h0, by omega⟩, if_pos rfl, P]
    exact errA_of (by omega) (by omega)
  refine ⟨hE, ?_, ?_, ?_⟩
  · unfold Md.Ce.nowV Md.Ce.wordC nowN atC
    rw [if_pos hE, P]
  · unfold Md.Ce.aftO; rw [if_pos hE]
  · unfold Md.Ce.aftN; rw [if_pos hE]
end
section
variable {W w w' : World} {G0 : List Nat} {b mb mg : Nat} {x : Wx} {z : Wz} {v : Wv} {ws : List Int} {o : Bool} {n : Int}
/-- what its box does not have does not matter -/
theorem RawAt.like (h : RawAt w b x z v) {x' : Wx} (e : boxY x' z v = boxY x z v) (hm : x'.m = x.m) (ha : x'.args = x.args) (hw : x'.was = x.was) : RawAt w b x' z v := ⟨by rw [e]; exact h.box, by rw [hm]; exact h.mac, by rw [hw]; exact h.had, h.sc, h.wr, by rw [ha]; exact h.arg, h.apart⟩
theorem Mid.like (h : Mid W G0 b z mb mg w x v ws o n) {x' : Wx} (e : boxY x' z v = boxY x z v) (hm : x'.m = x.m) (ha : x'.args = x.args) (hw : x'.was = x.was) : Mid W G0 b z mb mg w x' v ws o n := ⟨h.1.like e hm ha hw, h.2⟩
/-- the cells of its box that nobody changes -/
theorem Mid.plan (h : Mid W G0 b z mb mg w x v ws o n) {p4 p5 : Int} (h4 : 3 + x.b = p4) (h5 : 3 + x.b + 3 * x.a = p5) : w.cell? ⟨b, 0, none⟩ = some (.int .i64 0) ∧ w.cell? ⟨b, 1, none⟩ = some (.int .i64 1) ∧ w.cell? ⟨b, 2, none⟩ = some (.int .i64 2) ∧ w.cell? ⟨b, 3, none⟩ = some (.int .i64 3) ∧ w.cell? ⟨b, 4, none⟩ = some (.int .i64 p4) ∧ w.cell? ⟨b, 5, none⟩ = some (.int .i64 p5) := by
  subst h4 h5
  exact ⟨(h.cell 0).trans rfl, (h.cell 1).trans rfl, (h.cell 2).trans rfl, (h.cell 3).trans rfl, (h.cell 4).trans rfl, (h.cell 5).trans rfl⟩
theorem Mid.step (h : Mid W G0 b z mb mg w x v ws o n) (hT : TabAt W G0) (hI : Inv x.m) {M : Mac} {A : Ask} (hM : (stepM x.m).1 = M) (hA : (stepM x.m).2 = A) : Calls Tryz.prog 91 #[.pointer (some ⟨z.bm, 0, none⟩)] w fun e w' => e = .returned (.agg #[.int .i64 A.kind, .int .i64 A.cell, .float .f64 A.x, .bool A.first]) ∧ Hid (∃ F, Mid W G0 b z mb mg w' { x with m := M } { v with F := F } ws o n) := by
  obtain ⟨g, tb, go⟩ := h.mach
  subst hM hA
  refine (step_any g (tb hT) hI).mono ?_
  rintro e w' ⟨rfl, k⟩
  exact ⟨rfl, go _ _ k⟩
theorem Mid.give (h : Mid W G0 b z mb mg w x v ws o n) (hI : Inv x.m) (y : Nat) {M : Mac} (hM : giveM x.m y = M) : Calls Tryz.prog 93 #[.pointer (some ⟨z.bm, 0, none⟩), .float .f64 y] w fun e w' => e = .returned (.int .i64 (giveE x.m)) ∧ Hid (∃ F, Mid W G0 b z mb mg w' { x with m := M } { v with F := F } ws o n) := by
  obtain ⟨g, tb, go⟩ := h.mach
  subst hM
  refine (give_any g hI y).mono ?_
  rintro e w' ⟨rfl, k⟩
  exact ⟨rfl, go _ _ k⟩
end
end Go.Proofs.YteinilmecnlanaaGreatDoor.Ww
namespace Go.Proofs.YteinilmecnlanaaGreatDoor.Ww
open Go.ChangeShapes Go.WideShapes Go.ChangeAt Go.RowKit Num Rr
attribute [local go_sem] run_store_float Md.Ce.run_store_func Md.Ce.run_store_nilFunc
theorem funcT : ∃ ps rs v, Tryz.prog.underlying 98 = some (.func ps rs v) := ⟨#[33, 37], #[], false, by kernel_rfl⟩
theorem run_eql_func (f : Fn) (x y : Array Value) (w : World) : (binOp .eql 98 (.func f x y) .nilFunc).run Tryz.prog w = .ok (.bool false) w := by
  obtain ⟨ps, rs, v, h⟩ := funcT
  simp only [binOp]
  simp [Md.Ce.run_equal_func _ f x y w h]
theorem run_eql_nilFunc (w : World) : (binOp .eql 98 .nilFunc .nilFunc).run Tryz.prog w = .ok (.bool true) w := by
  obtain ⟨ps, rs, v, h⟩ := funcT
  simp only [binOp]
  simp [Md.Ce.run_equal_nil _ w h]
attribute [local go_sem] run_eql_func run_eql_nilFunc
theorem part_enter (p : Nat) (args : Array Value) (w : World) : (callFunc (partF p) args).run Tryz.prog w = .ok (.enter (partF p) args) w := by
  unfold partF
  split
  · exact Md.enter_run Tryz.func70 (by kernel_rfl) (by kernel_rfl) args w
  split
  · exact Md.enter_run Tryz.func100 (by kernel_rfl) (by kernel_rfl) args w
  split
  · exact Md.enter_run Tryz.func117 (by kernel_rfl) (by kernel_rfl) args w
  split
  · exact Md.enter_run Tryz.func142 (by kernel_rfl) (by kernel_rfl) args w
  split
  · exact Md.enter_run Tryz.func188 (by kernel_rfl) (by kernel_rfl) args w
  split
  · exact Md.enter_run Tryz.func229 (by kernel_rfl) (by kernel_rfl) args w
  split
  · exact Md.enter_run Tryz.func226 (by kernel_rfl) (by kernel_rfl) args w
  · exact Md.enter_run Tryz.func186 (by kernel_rfl) (by kernel_rfl) args w
section
variable {W w : World} {G0 : List Nat} {b mb mg : Nat} {x : Wx} {z : Wz} {v : Wv} {ws : List Int} {o : Bool} {n : Int}
theorem over_raw (h : RawAt w b x z v) (hv : v.nx = nextV x.part) : Calls Tryz.prog 39 #[.pointer (some ⟨b, 0, none⟩)] w fun e w' => e = .returned (.bool (decide ((x.part : Int) = 9))) ∧ w' = w := by
  have h12 : w.cell? ⟨b, 12, none⟩ = some v.nx := (h.cell 12).trans rfl
  have hb := h.ltB
  rw [hv] at h12
  unfold nextV at h12
  clear h hv
  by_cases e : x.part = 9
  · rw [if_pos e] at h12
    rw [decide_eq_true (by omega)]
    clear e
    go_enter Tryz.func39, Tryz.ntmps39
    go_wp2
    go_ret
    exact ⟨rfl, rfl⟩
  · rw [if_neg e] at h12
    unfold fnV at h12
    rw [decide_eq_false (by omega)]
    generalize partF x.part = ff at h12
    clear e
    go_enter Tryz.func39, Tryz.ntmps39
    go_wp2
    go_ret
    exact ⟨rfl, rfl⟩
theorem phase_raw (h : RawAt w b x z v) : Calls Tryz.prog 18 #[.pointer (some ⟨b, 0, none⟩)] w fun e w' => e = .returned (.int .i64 (x.part : Int)) ∧ w' = w := by
  have h11 : w.cell? ⟨b, 11, none⟩ = some (.int .i64 (x.part : Int)) := (h.cell 11).trans rfl
  have hb := h.ltB
  clear h
  go_enter Tryz.func18, Tryz.ntmps18
  go_wp2
  go_ret
  exact ⟨rfl, rfl⟩
theorem turnTo_fn (h : Mid W G0 b z mb mg w x v ws o n) (p : Nat) {P : Int} (hP : (p : Int) = P) (f : FuncId) : Calls Tryz.prog 69 #[.pointer (some ⟨b, 0, none⟩), .int .i64 P, .func (.func f) #[] #[]] w fun e w' => e = .returned (.tuple #[]) ∧ Mid W G0 b z mb mg w' { x with part := p } { v with nx := fnV f } ws o n := by
  subst hP
  have h11 : w.cell? ⟨b, 11, none⟩ = some (.int .i64 (x.part : Int)) := (h.cell 11).trans rfl
  have f11 := h.free 11
  have H1 := h.put 11 (.int .i64 (p : Int)) { x with part := p } v rfl ⟨rfl, rfl, rfl⟩ ⟨rfl, rfl, rfl, rfl, rfl, rfl, rfl⟩
  have h12 : (w.setCell ⟨b, 11, none⟩ (.int .i64 (p : Int))).cell? ⟨b, 12, none⟩ = some v.nx := (H1.cell 12).trans rfl
  have f12 := H1.free 12
  have H2 := Lib.hid (H1.put 12 (.func (.func f) #[] #[]) { x with part := p } { v with nx := fnV f } rfl ⟨rfl, rfl, rfl⟩ ⟨rfl, rfl, rfl, rfl, rfl, rfl, rfl⟩)
  have hb := h.ltB
  clear h H1
  go_enter Tryz.func69, Tryz.ntmps69
  go_wp2
  go_end0
  exact ⟨rfl, H2.out⟩
theorem turnTo_nil (h : Mid W G0 b z mb mg w x v ws o n) (p : Nat) {P : Int} (hP : (p : Int) = P) : Calls Tryz.prog 69 #[.pointer (some ⟨b, 0, none⟩), .int .i64 P, .nilFunc] w fun e w' => e = .returned (.tuple #[]) ∧ Mid W G0 b z mb mg w' { x with part := p } { v with nx := .nilFunc } ws o n := by
  subst hP
  have h11 : w.cell? ⟨b, 11, none⟩ = some (.int .i64 (x.part : Int)) := (h.cell 11).trans rfl
  have f11 := h.free 11
  have H1 := h.put 11 (.int .i64 (p : Int)) { x with part := p } v rfl ⟨rfl, rfl, rfl⟩ ⟨rfl, rfl, rfl, rfl, rfl, rfl, rfl⟩
  have h12 : (w.setCell ⟨b, 11, none⟩ (.int .i64 (p : Int))).cell? ⟨b, 12, none⟩ = some v.nx := (H1.cell 12).trans rfl
  have f12 := H1.free 12
  have H2 := Lib.hid (H1.put 12 .nilFunc { x with part := p } { v with nx := .nilFunc } rfl ⟨rfl, rfl, rfl⟩ ⟨rfl, rfl, rfl, rfl, rfl, rfl, rfl⟩)
  have hb := h.ltB
  clear h H1
  go_enter Tryz.func69, Tryz.ntmps69
  go_wp2
  go_end0
  exact ⟨rfl, H2.out⟩
theorem nextStamp_any (h : Mid W G0 b z mb mg w x v ws o n) : Calls Tryz.prog 228 #[.pointer (some ⟨b, 0, none⟩)] w fun e w' => e = .returned (.int .u64 (Md.Cv.passV x.stamp)) ∧ w' = w := by
  have h14 : w.cell? ⟨b, 14, none⟩ = some (.int .u64 x.stamp) := (h.cell 14).trans rfl
  have hb := h.ltB
  clear h
  unfold Md.Cv.passV
  go_enter Tryz.func228, Tryz.ntmps228
  go_wp2
  go_ret
  exact ⟨rfl, rfl⟩
set_option maxRecDepth 100000 in
set_option maxHeartbeats 1000000 in
/-- Drawing -/
theorem draw_any (h : Mid W G0 b z mb mg w x v ws true n) (hl : 0 < (ws.length : Int)) : Calls Tryz.prog 70 #[.pointer (some ⟨b, 0, none⟩), .pointer (some ⟨mb, 0, none⟩)] w fun e w' => e = .returned (.tuple #[]) ∧ Mid W G0 b z mb mg w' { x with tick := wordAt ws 0, part := 2 } { v with nx := fnV 100 } (ws.set 0 (Md.Cv.passV (wordAt ws 0))) false (up n) := by
  have hE : errA ws true 0 = 0 := errA_of (by omega) hl
  obtain ⟨f1, f2, f3, f4, _⟩ := Md.Cv.ok_facts hE
  obtain ⟨y, hy⟩ : ∃ y, wordAt ws 0 = y := ⟨_, rfl⟩
  obtain ⟨ws', hws⟩ : ∃ ws', ws.set 0 (Md.Cv.passV (wordAt ws 0)) = ws' := ⟨_, rfl⟩
  have HD := Lib.hid (Md.Ct.draw_any h.mem 0 1 2 3 (3 + x.b) (3 + x.b + 3 * x.a))
  unfold Md.Ct.plnV at HD
  rw [hE, f1, f2, f3, f4, show ws.set (Int.toNat 0) (addV (wordAt ws 0) 1) = ws' from hws, hy] at HD
  rw [hws, hy]
  have HM : Hid (∀ w', MemAt 116 w' mb mg ws' false (up n) → Chg mb mg w w' → Mid W G0 b z mb mg w' x v ws' false (up n)) := fun w' k1 k2 => h.memb k2 k1
  have HP : Hid (∀ w', Mid W G0 b z mb mg w' x v ws' false (up n) → Mid W G0 b z mb mg (w'.setCell ⟨b, 13, none⟩ (.int .u64 y)) { x with tick := y } v ws' false (up n)) := fun w' k => k.put 13 _ { x with tick := y } v rfl ⟨rfl, rfl, rfl⟩ ⟨rfl, rfl, rfl, rfl, rfl, rfl, rfl⟩
  have HT : Hid (∀ w', Mid W G0 b z mb mg w' { x with tick := y } v ws' false (up n) → Calls Tryz.prog 69 #[.pointer (some ⟨b, 0, none⟩), .int .i64 2, .func (.func 100) #[] #[]] w' fun e w' => e = .returned (.tuple #[]) ∧ Mid W G0 b z mb mg w' { x with tick := y, part := 2 } { v with nx := fnV 100 } ws' false (up n)) := fun w' k => turnTo_fn k 2 rfl 100
  obtain ⟨h0, h1, h2, h3, h4, h5⟩ := h.plan rfl rfl
  have hb := h.ltB
  clear h f1 f2 f3 f4 hE hl hy hws
  generalize 3 + x.b + 3 * x.a = p5 at *
  generalize 3 + x.b = p4 at *
  go_enter Tryz.func70, Tryz.ntmps70
  go_wp2_with (first
    | (go_at_call 69; refine (HT.out _ (HP.out _ HQ.out)).mono ?_; rintro e w2 ⟨rfl, k⟩; have HR := Lib.hid k; clear k HT)
    | (go_at_call 99; refine HD.out.mono ?_; rintro e w1 ⟨rfl, k1, k2⟩; have HQ := Lib.hid (HM.out _ k1 k2); have e13 : w1.cell? ⟨b, 13, none⟩ = some (.int .u64 x.tick) := (HQ.out.cell 13).trans rfl; have f13 := HQ.out.free 13; have lb := HQ.out.ltB; clear k1 k2 HD HM))
  go_end0
  exact ⟨rfl, HR.out⟩
set_option maxRecDepth 100000 in
set_option maxHeartbeats 1000000 in
/-- Waiting -/
theorem wait_any (h : Mid W G0 b z mb mg w x v ws true n) (hl : 1 < (ws.length : Int)) {is : Bool} (his : decide (wordAt ws 1 = x.tick) = is) : Calls Tryz.prog 100 #[.pointer (some ⟨b, 0, none⟩), .pointer (some ⟨mb, 0, none⟩)] w fun e w' => e = .returned (.tuple #[]) ∧ Mid W G0 b z mb mg w' (if is then { x with part := 3 } else x) (if is then { v with nx := fnV 117 } else v) ws false (up n) := by
  have hE : errA ws true 1 = 0 := errA_of (by omega) hl
  obtain ⟨f1, f2, f3, f4, f5, _⟩ := Md.Cv.ok_facts hE
  have HD := Lib.hid (Md.Ct.look_any h.drew.mem 0 1 2 3 (3 + x.b) (3 + x.b + 3 * x.a) x.tick)
  unfold Md.Ct.plnV Md.Ct.lookB at HD
  rw [hE, f2, f3, f5, Bool.true_and, Bool.true_and, his] at HD
  have HM : Hid (∀ w', MemAt 116 w' mb mg ws false (up n) → Chg mb mg w.drew w' → Mid W G0 b z mb mg w' x v ws false (up n)) := fun w' k1 k2 => h.drew.memb k2 k1
  have HT : Hid (∀ w', Mid W G0 b z mb mg w' x v ws false (up n) → Calls Tryz.prog 69 #[.pointer (some ⟨b, 0, none⟩), .int .i64 3, .func (.func 117) #[] #[]] w' fun e w' => e = .returned (.tuple #[]) ∧ Mid W G0 b z mb mg w' { x with part := 3 } { v with nx := fnV 117 } ws false (up n)) := fun w' k => turnTo_fn k 3 rfl 117
  obtain ⟨h0, h1, h2, h3, h4, h5⟩ := h.plan rfl rfl
  have h13 : w.cell? ⟨b, 13, none⟩ = some (.int .u64 x.tick) := (h.cell 13).trans rfl
  have hb := h.ltB
  have HPL : Hid (∀ w', Mid W G0 b z mb mg w' x v ws false (up n) → (w'.cell? ⟨b, 0, none⟩ = some (.int .i64 0) ∧ w'.cell? ⟨b, 1, none⟩ = some (.int .i64 1) ∧ w'.cell? ⟨b, 2, none⟩ = some (.int .i64 2) ∧ w'.cell? ⟨b, 3, none⟩ = some (.int .i64 3) ∧ w'.cell? ⟨b, 4, none⟩ = some (.int .i64 (3 + x.b)) ∧ w'.cell? ⟨b, 5, none⟩ = some (.int .i64 (3 + x.b + 3 * x.a))) ∧ w'.cell? ⟨b, 13, none⟩ = some (.int .u64 x.tick)) := fun w' k => ⟨k.plan rfl rfl, (k.cell 13).trans rfl⟩
  clear h f1 f2 f3 f4 f5 hE hl his
  generalize 3 + x.b + 3 * x.a = p5 at *
  generalize 3 + x.b = p4 at *
  go_enter Tryz.func100, Tryz.ntmps100
  go_wp2_with fail
  refine wp_region_seq (fun u => (u.cell? ⟨b, 0, none⟩ = some (.int .i64 0) ∧ u.cell? ⟨b, 1, none⟩ = some (.int .i64 1) ∧ u.cell? ⟨b, 2, none⟩ = some (.int .i64 2) ∧ u.cell? ⟨b, 3, none⟩ = some (.int .i64 3) ∧ u.cell? ⟨b, 4, none⟩ = some (.int .i64 p4) ∧ u.cell? ⟨b, 5, none⟩ = some (.int .i64 p5)) ∧ u.cell? ⟨b, 13, none⟩ = some (.int .u64 x.tick) )  ((0, true) :: (1, true) :: (2, true) :: (3, true) :: (4, true) :: (5, true) :: (6, true) :: (7, true) :: (8, true) :: (9, false) :: (10, true) :: (11, true) :: (12, true) :: (13, true) :: (14, true) :: [])  Md.Cv.follows13 (by kernel_rfl) (fun _ _ _ _ _ h => h)  ⟨⟨h0, h1, h2, h3, h4, h5⟩, h13⟩ ?_
  (repeat (first | (refine wpSeq_take (v := ?_) rfl (by rfl) (fun wq hSq => ?_) ?_; rotate_left; (focus ((try dsimp only at hSq); go_simp; try with_reducible rfl)); simp only [Act.put, List.setIfInBounds_toArray, List.set_cons_zero, List.set_cons_succ]) | (refine wpSeq_skip rfl (by rfl) ?_; simp only [Act.put, List.setIfInBounds_toArray, List.set_cons_zero, List.set_cons_succ])))
  (refine wpSeq_do rfl (by rfl) (fun KK hK => ?_); go_simp)
  refine HD.out.mono ?_
  rintro e w1 ⟨rfl, k1, k2⟩
  have HQ := Lib.hid (HM.out _ k1 k2)
  have lb := HQ.out.ltB
  clear k1 k2 HD HM
  refine hK.out _ _ (HPL.out _ HQ.out) ?_
  (clear hK KK; try simp only [Act.put, List.setIfInBounds_toArray, List.set_cons_zero, List.set_cons_succ])
  (repeat (first | (refine wpSeq_take (v := ?_) rfl (by rfl) (fun wq hSq => ?_) ?_; rotate_left; (focus ((try dsimp only at hSq); go_simp; try with_reducible rfl)); simp only [Act.put, List.setIfInBounds_toArray, List.set_cons_zero, List.set_cons_succ]) | (refine wpSeq_skip rfl (by rfl) ?_; simp only [Act.put, List.setIfInBounds_toArray, List.set_cons_zero, List.set_cons_succ])))
  refine wpSeq_nil ?_
  cases is
  · go_wp2_with fail
    go_end0
    exact ⟨rfl, HQ.out⟩
  · go_wp2_with (go_at_call 69; refine (HT.out _ HQ.out).mono ?_; rintro e w2 ⟨rfl, k⟩; have HR := Lib.hid k; clear k HT)
    go_end0
    exact ⟨rfl, HR.out⟩
set_option maxRecDepth 100000 in
set_option maxHeartbeats 1000000 in
/-- Marking -/
theorem mark_any (h : Mid W G0 b z mb mg w x v ws true n) (hl : 2 < (ws.length : Int)) : Calls Tryz.prog 117 #[.pointer (some ⟨b, 0, none⟩), .pointer (some ⟨mb, 0, none⟩)] w fun e w' => e = .returned (.tuple #[]) ∧ Mid W G0 b z mb mg w' { x with stamp := wordAt ws 2, part := 4 } { v with nx := fnV 142 } ws false (up n) := by
  have hE : errA ws true 2 = 0 := errA_of (by omega) hl
  obtain ⟨f1, f2, f3, f4, _⟩ := Md.Cv.ok_facts hE
  obtain ⟨y, hy⟩ : ∃ y, wordAt ws 2 = y := ⟨_, rfl⟩
  have HD := Lib.hid (Md.Cv.stampM_any h.mem 0 1 2 3 (3 + x.b) (3 + x.b + 3 * x.a))
  unfold Md.Cv.plnV at HD
  rw [hE, f2, f3, f4, hy] at HD
  rw [hy]
  have HM : Hid (∀ w', MemAt 116 w' mb mg ws false (up n) → Chg mb mg w w' → Mid W G0 b z mb mg w' x v ws false (up n)) := fun w' k1 k2 => h.memb k2 k1
  have HP : Hid (∀ w', Mid W G0 b z mb mg w' x v ws false (up n) → Mid W G0 b z mb mg (w'.setCell ⟨b, 14, none⟩ (.int .u64 y)) { x with stamp := y } v ws false (up n)) := fun w' k => k.put 14 _ { x with stamp := y } v rfl ⟨rfl, rfl, rfl⟩ ⟨rfl, rfl, rfl, rfl, rfl, rfl, rfl⟩
  have HT : Hid (∀ w', Mid W G0 b z mb mg w' { x with stamp := y } v ws false (up n) → Calls Tryz.prog 69 #[.pointer (some ⟨b, 0, none⟩), .int .i64 4, .func (.func 142) #[] #[]] w' fun e w' => e = .returned (.tuple #[]) ∧ Mid W G0 b z mb mg w' { x with stamp := y, part := 4 } { v with nx := fnV 142 } ws false (up n)) := fun w' k => turnTo_fn k 4 rfl 142
  obtain ⟨h0, h1, h2, h3, h4, h5⟩ := h.plan rfl rfl
  have hb := h.ltB
  clear h f1 f2 f3 f4 hE hl hy
  generalize 3 + x.b + 3 * x.a = p5 at *
  generalize 3 + x.b = p4 at *
  go_enter Tryz.func117, Tryz.ntmps117
  go_wp2_with (first
    | (go_at_call 69; refine (HT.out _ (HP.out _ HQ.out)).mono ?_; rintro e w2 ⟨rfl, k⟩; have HR := Lib.hid k; clear k HT)
    | (go_at_call 141; refine HD.out.mono ?_; rintro e w1 ⟨rfl, k1, k2⟩; have HQ := Lib.hid (HM.out _ k1 k2); have e14 : w1.cell? ⟨b, 14, none⟩ = some (.int .u64 x.stamp) := (HQ.out.cell 14).trans rfl; have f14 := HQ.out.free 14; have lb := HQ.out.ltB; clear k1 k2 HD HM))
  go_end0
  exact ⟨rfl, HR.out⟩
set_option maxRecDepth 100000 in
set_option maxHeartbeats 1000000 in
/-- Publishing -/
theorem publish_any (h : Mid W G0 b z mb mg w x v ws true n) (hl : 2 < (ws.length : Int)) : Calls Tryz.prog 226 #[.pointer (some ⟨b, 0, none⟩), .pointer (some ⟨mb, 0, none⟩)] w fun e w' => e = .returned (.tuple #[]) ∧ Mid W G0 b z mb mg w' { x with part := 8 } { v with nx := fnV 186, nb := Md.Cv.passV x.stamp } (ws.set 2 (Md.Cv.passV x.stamp)) false (up n) := by
  have hE : errA ws true 2 = 0 := errA_of (by omega) hl
  obtain ⟨f1, f2, f3, f4, _⟩ := Md.Cv.ok_facts hE
  have HN : Hid (Calls Tryz.prog 228 #[.pointer (some ⟨b, 0, none⟩)] w fun e w' => e = .returned (.int .u64 (Md.Cv.passV x.stamp)) ∧ w' = w) := nextStamp_any h
  obtain ⟨y, hy⟩ : ∃ y, Md.Cv.passV x.stamp = y := ⟨_, rfl⟩
  rw [hy] at HN ⊢
  clear hy
  have H1 := h.put 19 (.int .u64 y) x { v with nb := y } rfl ⟨rfl, rfl, rfl⟩ ⟨rfl, rfl, rfl, rfl, rfl, rfl, rfl⟩
  have h19 : w.cell? ⟨b, 19, none⟩ = some (.int .u64 v.nb) := (h.cell 19).trans rfl
  have f19 := h.free 19
  have hb := h.ltB
  obtain ⟨w1, hw1⟩ : ∃ w1, w1 = w.setCell ⟨b, 19, none⟩ (.int .u64 y) := ⟨_, rfl⟩
  rw [← hw1] at H1
  have HD := Lib.hid (Md.Cv.publish_any H1.drew.mem 0 1 2 3 (3 + x.b) (3 + x.b + 3 * x.a) y)
  unfold Md.Cv.plnV at HD
  obtain ⟨ws', hws⟩ : ∃ ws', ws.set 2 y = ws' := ⟨_, rfl⟩
  rw [hE, f1, f2, f3, show ws.set (Int.toNat 2) y = ws' from hws] at HD
  rw [hws]
  have HM : Hid (∀ w', MemAt 116 w' mb mg ws' false (up n) → Chg mb mg w1.drew w' → Mid W G0 b z mb mg w' x { v with nb := y } ws' false (up n)) := fun w' k1 k2 => H1.drew.memb k2 k1
  have HT : Hid (∀ w', Mid W G0 b z mb mg w' x { v with nb := y } ws' false (up n) → Calls Tryz.prog 69 #[.pointer (some ⟨b, 0, none⟩), .int .i64 8, .func (.func 186) #[] #[]] w' fun e w' => e = .returned (.tuple #[]) ∧ Mid W G0 b z mb mg w' { x with part := 8 } { v with nx := fnV 186, nb := y } ws' false (up n)) := fun w' k => turnTo_fn k 8 rfl 186
  obtain ⟨h0, h1, h2, h3, h4, h5⟩ := H1.plan rfl rfl
  have e19 : w1.cell? ⟨b, 19, none⟩ = some (.int .u64 y) := (H1.cell 19).trans rfl
  have hb1 := H1.ltB
  have HPL : Hid (∀ w', Mid W G0 b z mb mg w' x { v with nb := y } ws' false (up n) → (w'.cell? ⟨b, 0, none⟩ = some (.int .i64 0) ∧ w'.cell? ⟨b, 1, none⟩ = some (.int .i64 1) ∧ w'.cell? ⟨b, 2, none⟩ = some (.int .i64 2) ∧ w'.cell? ⟨b, 3, none⟩ = some (.int .i64 3) ∧ w'.cell? ⟨b, 4, none⟩ = some (.int .i64 (3 + x.b)) ∧ w'.cell? ⟨b, 5, none⟩ = some (.int .i64 (3 + x.b + 3 * x.a))) ∧ w'.cell? ⟨b, 19, none⟩ = some (.int .u64 y)) := fun w' k => ⟨k.plan rfl rfl, (k.cell 19).trans rfl⟩
  have HW1 := Lib.hid hw1
  clear h H1 f1 f2 f3 f4 hE hl hws hw1
  generalize 3 + x.b + 3 * x.a = p5 at *
  generalize 3 + x.b = p4 at *
  go_enter Tryz.func226, Tryz.ntmps226
  go_wp2_with (go_at_call 228; refine HN.out.mono ?_; rintro e u1 ⟨rfl, hw⟩; subst u1; clear HN)
  rw [← HW1.out]
  clear HW1
  refine wp_region_seq (fun u => (u.cell? ⟨b, 0, none⟩ = some (.int .i64 0) ∧ u.cell? ⟨b, 1, none⟩ = some (.int .i64 1) ∧ u.cell? ⟨b, 2, none⟩ = some (.int .i64 2) ∧ u.cell? ⟨b, 3, none⟩ = some (.int .i64 3) ∧ u.cell? ⟨b, 4, none⟩ = some (.int .i64 p4) ∧ u.cell? ⟨b, 5, none⟩ = some (.int .i64 p5)) ∧ u.cell? ⟨b, 19, none⟩ = some (.int .u64 y) )  ((0, true) :: (1, true) :: (2, true) :: (3, true) :: (4, true) :: (5, true) :: (6, true) :: (7, true) :: (8, true) :: (9, false) :: [])  Md.Cv.follows13 (by kernel_rfl) (fun _ _ _ _ _ h => h)  ⟨⟨h0, h1, h2, h3, h4, h5⟩, e19⟩ ?_
  (repeat (first | (refine wpSeq_take (v := ?_) rfl (by rfl) (fun wq hSq => ?_) ?_; rotate_left; (focus ((try dsimp only at hSq); go_simp; try with_reducible rfl)); simp only [Act.put, List.setIfInBounds_toArray, List.set_cons_zero, List.set_cons_succ]) | (refine wpSeq_skip rfl (by rfl) ?_; simp only [Act.put, List.setIfInBounds_toArray, List.set_cons_zero, List.set_cons_succ])))
  (refine wpSeq_do rfl (by rfl) (fun KK hK => ?_); go_simp)
  refine HD.out.mono ?_
  rintro e w2 ⟨rfl, k1, k2⟩
  have HQ := Lib.hid (HM.out _ k1 k2)
  have lb := HQ.out.ltB
  clear k1 k2 HD HM
  refine hK.out _ _ (HPL.out _ HQ.out) ?_
  (clear hK KK; try simp only [Act.put, List.setIfInBounds_toArray, List.set_cons_zero, List.set_cons_succ])
  refine wpSeq_nil ?_
  go_wp2_with (go_at_call 69; refine (HT.out _ HQ.out).mono ?_; rintro e w3 ⟨rfl, k⟩; have HR := Lib.hid k; clear k HT)
  go_end0
  exact ⟨rfl, HR.out⟩
set_option maxRecDepth 100000 in
set_option maxHeartbeats 1000000 in
/-- Passing -/
theorem pass_any (h : Mid W G0 b z mb mg w x v ws true n) (hl : 1 < (ws.length : Int)) : Calls Tryz.prog 186 #[.pointer (some ⟨b, 0, none⟩), .pointer (some ⟨mb, 0, none⟩)] w fun e w' => e = .returned (.tuple #[]) ∧ Mid W G0 b z mb mg w' { x with part := 9 } { v with nx := .nilFunc } (ws.set 1 (Md.Cv.passV x.tick)) false (up n) := by
  have hE : errA ws true 1 = 0 := errA_of (by omega) hl
  obtain ⟨f1, f2, f3, f4, _⟩ := Md.Cv.ok_facts hE
  have HD := Lib.hid (Md.Ct.pass_any h.drew.mem 0 1 2 3 (3 + x.b) (3 + x.b + 3 * x.a) x.tick)
  unfold Md.Ct.plnV at HD
  obtain ⟨ws', hws⟩ : ∃ ws', ws.set 1 (Md.Cv.passV x.tick) = ws' := ⟨_, rfl⟩
  rw [hE, f1, f2, f3, show ws.set (Int.toNat 1) (Md.Ct.passV x.tick) = ws' from hws] at HD
  rw [hws]
  have HM : Hid (∀ w', MemAt 116 w' mb mg ws' false (up n) → Chg mb mg w.drew w' → Mid W G0 b z mb mg w' x v ws' false (up n)) := fun w' k1 k2 => h.drew.memb k2 k1
  have HT : Hid (∀ w', Mid W G0 b z mb mg w' x v ws' false (up n) → Calls Tryz.prog 69 #[.pointer (some ⟨b, 0, none⟩), .int .i64 9, .nilFunc] w' fun e w' => e = .returned (.tuple #[]) ∧ Mid W G0 b z mb mg w' { x with part := 9 } { v with nx := .nilFunc } ws' false (up n)) := fun w' k => turnTo_nil k 9 rfl
  obtain ⟨h0, h1, h2, h3, h4, h5⟩ := h.plan rfl rfl
  have h13 : w.cell? ⟨b, 13, none⟩ = some (.int .u64 x.tick) := (h.cell 13).trans rfl
  have hb := h.ltB
  have HPL : Hid (∀ w', Mid W G0 b z mb mg w' x v ws' false (up n) → (w'.cell? ⟨b, 0, none⟩ = some (.int .i64 0) ∧ w'.cell? ⟨b, 1, none⟩ = some (.int .i64 1) ∧ w'.cell? ⟨b, 2, none⟩ = some (.int .i64 2) ∧ w'.cell? ⟨b, 3, none⟩ = some (.int .i64 3) ∧ w'.cell? ⟨b, 4, none⟩ = some (.int .i64 (3 + x.b)) ∧ w'.cell? ⟨b, 5, none⟩ = some (.int .i64 (3 + x.b + 3 * x.a))) ∧ w'.cell? ⟨b, 13, none⟩ = some (.int .u64 x.tick)) := fun w' k => ⟨k.plan rfl rfl, (k.cell 13).trans rfl⟩
  clear h f1 f2 f3 f4 hE hl hws
  generalize 3 + x.b + 3 * x.a = p5 at *
  generalize 3 + x.b = p4 at *
  go_enter Tryz.func186, Tryz.ntmps186
  go_wp2_with fail
  refine wp_region_seq (fun u => (u.cell? ⟨b, 0, none⟩ = some (.int .i64 0) ∧ u.cell? ⟨b, 1, none⟩ = some (.int .i64 1) ∧ u.cell? ⟨b, 2, none⟩ = some (.int .i64 2) ∧ u.cell? ⟨b, 3, none⟩ = some (.int .i64 3) ∧ u.cell? ⟨b, 4, none⟩ = some (.int .i64 p4) ∧ u.cell? ⟨b, 5, none⟩ = some (.int .i64 p5)) ∧ u.cell? ⟨b, 13, none⟩ = some (.int .u64 x.tick) )  ((0, true) :: (1, true) :: (2, true) :: (3, true) :: (4, true) :: (5, true) :: (6, true) :: (7, true) :: (8, true) :: (9, false) :: [])  Md.Cv.follows13 (by kernel_rfl) (fun _ _ _ _ _ h => h)  ⟨⟨h0, h1, h2, h3, h4, h5⟩, h13⟩ ?_
  (repeat (first | (refine wpSeq_take (v := ?_) rfl (by rfl) (fun wq hSq => ?_) ?_; rotate_left; (focus ((try dsimp only at hSq); go_simp; try with_reducible rfl)); simp only [Act.put, List.setIfInBounds_toArray, List.set_cons_zero, List.set_cons_succ]) | (refine wpSeq_skip rfl (by rfl) ?_; simp only [Act.put, List.setIfInBounds_toArray, List.set_cons_zero, List.set_cons_succ])))
  (refine wpSeq_do rfl (by rfl) (fun KK hK => ?_); go_simp)
  refine HD.out.mono ?_
  rintro e w1 ⟨rfl, k1, k2⟩
  have HQ := Lib.hid (HM.out _ k1 k2)
  have lb := HQ.out.ltB
  clear k1 k2 HD HM
  refine hK.out _ _ (HPL.out _ HQ.out) ?_
  (clear hK KK; try simp only [Act.put, List.setIfInBounds_toArray, List.set_cons_zero, List.set_cons_succ])
  refine wpSeq_nil ?_
  go_wp2_with (go_at_call 69; refine (HT.out _ HQ.out).mono ?_; rintro e w2 ⟨rfl, k⟩; have HR := Lib.hid k; clear k HT)
  go_end0
  exact ⟨rfl, HR.out⟩
end
end Go.Proofs.YteinilmecnlanaaGreatDoor.Ww
namespace Go.Proofs.YteinilmecnlanaaGreatDoor
open Go.ChangeShapes Go.WideShapes Go.ChangeAt Go.RowKit Num
attribute [local go_sem] run_store_float
end Go.Proofs.YteinilmecnlanaaGreatDoor
namespace Go.Proofs.YteinilmecnlanaaGreatDoor
open Go.ChangeShapes Go.WideShapes Go.ChangeAt Go.RowKit Num
attribute [local go_sem] run_store_float
end Go.Proofs.YteinilmecnlanaaGreatDoor
namespace Go.Proofs.YteinilmecnlanaaGreatDoor
open Go.ChangeShapes Go.WideShapes Go.ChangeAt Go.RowKit Num
attribute [local go_sem] run_store_float
end Go.Proofs.YteinilmecnlanaaGreatDoor
namespace Go.Proofs.YteinilmecnlanaaGreatDoor
open Go.ChangeShapes Go.WideShapes Go.ChangeAt Go.RowKit Num
end Go.Proofs.YteinilmecnlanaaGreatDoor
namespace Go.Proofs.YteinilmecnlanaaGreatDoor
open Go.ChangeShapes Go.WideShapes Go.ChangeAt Go.RowKit Num
attribute [local go_sem] run_store_float
theorem Ro.fl {w : World} {p : Option Addr} {l : List Nat} (h : Ro w p (fls l)) : FlAt w p l := fun k hk => by
  obtain ⟨g, o, e, c, hg⟩ := h.get (j := k) (v := .float .f64 (l.getD k 0)) (by unfold fls; rw [List.getElem?_map, List.getD_eq_getElem?_getD, List.getElem?_eq_getElem hk]; rfl)
  exact ⟨g, o, e, hg, c⟩
end Go.Proofs.YteinilmecnlanaaGreatDoor
namespace Go.Proofs.YteinilmecnlanaaGreatDoor
open Go.ChangeShapes Go.WideShapes Go.ChangeAt Go.RowKit Num
attribute [local go_sem] run_store_float
end Go.Proofs.YteinilmecnlanaaGreatDoor
namespace Go.Proofs.YteinilmecnlanaaGreatDoor
open Go.ChangeShapes Go.WideShapes Go.ChangeAt Go.RowKit Num
attribute [local go_sem] run_store_float
end Go.Proofs.YteinilmecnlanaaGreatDoor
namespace Go.Proofs.YteinilmecnlanaaGreatDoor
open Go.ChangeShapes Go.WideShapes Go.ChangeAt Go.RowKit Num
theorem RowAt.ro {E : TypeId} {w : World} {p : Option Addr} {c : Nat} {xs : List Value} (h : RowAt E w p c xs) : Ro w p xs := by
  rcases h.own.2 with ⟨q, hn⟩ | ⟨g, cap, cur, hv, _, hg, _, _, hsz, hx⟩
  · exact .inl ⟨(Value.slice.inj q).1, List.length_eq_zero_iff.1 hn⟩
  · refine .inr ⟨g, 0, (Value.slice.inj hv).1, fun j v hv => ?_⟩
    rw [← hx, List.getElem?_take] at hv
    split at hv
    · show w.cell? ⟨g, 0 + j, none⟩ = some v
      rw [Nat.zero_add, cell_of_row w g j _ _ _ hg]
      simpa using hv
    · cases hv
theorem loc_row {w : World} {b : Nat} (h : w.heap[b]? = some locO) : RowAt 73 w (some ⟨b, 0, none⟩) 8 (fls (eight fun _ => 0)) :=
  ⟨⟨rfl, .inr ⟨b, 8, _, rfl, Nat.zero_le _, h, Nat.le_refl _, by unfold maxLen; omega, rfl, rfl⟩⟩⟩
theorem fpK_blw {w : World} {q : Rp} {cs : List Ins} (h : CodeAt w q.pk cs) : Blw w (fpK q cs) := fun x hx => by
  unfold fpK at hx
  split at hx
  · cases hx
  · obtain ⟨a, ha, rfl⟩ := mem_fpR.1 hx
    obtain ⟨g, o, e, hlt, _⟩ := h 0 (List.length_pos_iff.2 (by assumption))
    rw [ha] at e
    cases e
    exact hlt
theorem RNew.ref {N w wr : World} {a b c e t : Int} {ao : Option Addr} {n cap : Nat} {l : List Nat} {br bl ca : Nat} {pa : Option Addr} {cs : List Ins} (h : RNew w wr (newM a c e t cs l) { rq0 b t ao n cap (!checkB t cs) bl with pa := pa, na := 8, ca := ca } br (eight (argF l))) (hN : Below N.heap.size N w) (hC : CodeAt N ao cs) (hn : cs.length = n) : RefAt wr br { rq0 b t ao n cap (!checkB t cs) bl with pa := pa, na := 8, ca := ca } (newM a c e t cs l) cs := by
  have hk : Blw N (fpK { rq0 b t ao n cap (!checkB t cs) bl with pa := pa, na := 8, ca := ca } cs) := fpK_blw hC
  have hs := hN.size
  exact {
    box := h.box
    loc := loc_row h.loc
    arg := h.row.ro
    st := Ro.nil _
    cal := Ro.nil _
    out := Ro.nil _
    rds := Ro.nil _
    buf := Ro.nil _
    cod := (hC.on hN).on h.bl
    na := rfl
    nk := hn.symm
    bad := by
      by_cases q : checkB t cs = true
      · exact .inl ⟨by simp [rq0, q], by simp [newM, q]⟩
      · exact .inr ⟨by simp [rq0, q], by simp [newM, q]⟩
    tag := rfl
    zc := fun _ => rfl
    ne := h.ne
    ap := fun p hp => by
      simp only [Rp.rows, rq0, List.mem_cons, List.not_mem_nil, or_false] at hp
      rcases hp with rfl | rfl | rfl | rfl | rfl | rfl
      · exact ⟨h.n1, h.n2⟩
      all_goals exact ⟨by simp [fpR], by simp [fpR]⟩
    apk := ⟨fun x => absurd (hk _ x) (Nat.not_lt.2 (Nat.le_trans hs h.a1)), fun x => absurd (hk _ x) (Nat.not_lt.2 (Nat.le_trans hs h.a2))⟩
    lt := fun x hx => by
      simp only [Fr, Rp.rows, rq0, List.flatMap_cons, List.flatMap_nil, List.mem_cons, List.mem_append] at hx
      rcases hx with rfl | rfl | hx
      · exact lt_of_block h.box
      · exact lt_of_block h.loc
      · exact h.row.blw x (by simpa [fpR] using hx)
    ltk := fun x hx => Nat.lt_of_lt_of_le (hk x hx) (Nat.le_trans hs h.bl.size)
    c1 := Nat.le_refl _
    c2 := Nat.le_refl _
    c3 := Nat.le_refl _
    c4 := Nat.le_refl _
    c5 := Nat.le_refl _
    nd := List.nodup_nil }
theorem RNew.abv {w wr : World} {b t : Int} {ao : Option Addr} {n cap : Nat} {l : List Nat} {br bl ca : Nat} {pa : Option Addr} {m : Mac} {bad : Bool} (h : RNew w wr m { rq0 b t ao n cap bad bl with pa := pa, na := 8, ca := ca } br l) : Abv w.heap.size (Fr br { rq0 b t ao n cap bad bl with pa := pa, na := 8, ca := ca }) := fun x hx => by
  simp only [Fr, Rp.rows, rq0, List.flatMap_cons, List.flatMap_nil, List.mem_cons, List.mem_append] at hx
  rcases hx with rfl | rfl | hx
  · exact h.a1
  · exact h.a2
  · exact h.a3 x (by simpa [fpR] using hx)
end Go.Proofs.YteinilmecnlanaaGreatDoor
namespace Go.Proofs.YteinilmecnlanaaGreatDoor
open Go.ChangeShapes Go.WideShapes Go.ChangeAt Go.RowKit Num
attribute [local go_sem] run_store_float
def insC (i : Ins) : List Value := [.int .i64 i.op, .int .i64 i.n, .float .f64 i.x]
theorem flat_at {α : Type} (f : α → List Value) (s : Nat) (hf : ∀ a, (f a).length = s) : ∀ (n : Nat) (l : List α) (m : α), l[n]? = some m → ∀ j, j < s → (l.flatMap f)[n * s + j]? = (f m)[j]?
  | 0, l, m, hm, j, hj => by
    cases l with
    | nil => simp at hm
    | cons a t =>
      simp at hm
      subst hm
      rw [List.flatMap_cons, Nat.zero_mul, Nat.zero_add, List.getElem?_append_left (by rw [hf]; exact hj)]
  | n + 1, l, m, hm, j, hj => by
    cases l with
    | nil => simp at hm
    | cons a t =>
      rw [List.flatMap_cons, List.getElem?_append_right (by rw [hf, Nat.add_mul]; omega)]
      have e : (n + 1) * s + j - (f a).length = n * s + j := by rw [hf, Nat.add_mul]; omega
      rw [e]
      exact flat_at f s hf n t m (by simpa using hm) j hj
theorem insC_len (c : List Ins) : (c.flatMap insC).length = c.length * 3 := by
  induction c with
  | nil => rfl
  | cons i c ih => rw [List.flatMap_cons, List.length_append, ih]; simp [insC]; omega
theorem insC_one (c : List Ins) : ∀ u ∈ c.flatMap insC, u.oneCell' = true := by
  intro u hu
  obtain ⟨i, _, h⟩ := List.mem_flatMap.1 hu
  simp [insC] at h
  rcases h with rfl | rfl | rfl <;> rfl
theorem codeAt_range {w : World} {g off : Nat} {c : List Ins} (hg : g < w.heap.size) (h : w.rangeAt g off (c.flatMap insC)) : CodeAt w (some ⟨g, off, none⟩) c := fun k hk => by
  have e : ∀ j, j < 3 → w.cell? ⟨g, off + (k * 3 + j), none⟩ = (insC (ci c k))[j]? := fun j hj => by
    have h2 := flat_at insC 3 (fun _ => rfl) k c (ci c k) (ci_lt hk) j hj
    cases hq : (insC (ci c k))[j]? with
    | none =>
      rw [List.getElem?_eq_none_iff] at hq
      simp [insC] at hq
      omega
    | some v => exact h _ _ (h2.trans hq)
  exact ⟨g, off, rfl, hg, e 0 (by decide), e 1 (by decide), e 2 (by decide)⟩
theorem range_codeAt {w : World} {b off : Nat} {c : List Ins} (h : CodeAt w (some ⟨b, off, none⟩) c) : w.rangeAt b off (c.flatMap insC) := fun j v hv => by
  have hj : j < c.length * 3 := by
    have := (List.getElem?_eq_some_iff.1 hv).1
    rwa [insC_len] at this
  have hk : j / 3 < c.length := by omega
  obtain ⟨b', off', e, _, c0, c1, c2⟩ := h (j / 3) hk
  cases e
  have hr : j % 3 < 3 := Nat.mod_lt _ (by decide)
  have e2 := flat_at insC 3 (fun _ => rfl) (j / 3) c (ci c (j / 3)) (ci_lt hk) (j % 3) hr
  rw [show j / 3 * 3 + j % 3 = j by omega, hv] at e2
  have h3 : j % 3 = 0 ∨ j % 3 = 1 ∨ j % 3 = 2 := by omega
  rcases h3 with q | q | q
  · rw [show off + j = off + j / 3 * 3 by omega, c0, e2, q]; rfl
  · rw [show off + j = off + j / 3 * 3 + 1 by omega, c1, e2, q]; rfl
  · rw [show off + j = off + j / 3 * 3 + 2 by omega, c2, e2, q]; rfl
theorem src_code {w : World} {ao : Option Addr} {c : List Ins} (cap : Nat) (h : CodeAt w ao c) : Src Tryz.prog 3 24 (.slice ao c.length cap) c.length (c.flatMap insC) w := by
  cases ao with
  | none =>
    cases c with
    | nil => exact Src.ofNil w Tryz.underlying24 cap
    | cons i c =>
      obtain ⟨b, off, e, _⟩ := h 0 (by simp)
      cases e
  | some a =>
    refine Src.ofSlice w Tryz.underlying24 a c.length cap _ (insC_len c) (fun j u hu => ?_) (insC_one c)
    cases c with
    | nil => simp at hu
    | cons i c =>
      obtain ⟨b, off, e, _⟩ := h 0 (by simp)
      cases e
      rw [Addr.add_mid]
      exact range_codeAt h j u hu
theorem fls_get {l : List Nat} {j : Nat} (hj : j < l.length) : (fls l)[j]? = some (.float .f64 (l.getD j 0)) := by
  unfold fls
  rw [List.getElem?_map, List.getElem?_eq_getElem hj, List.getD_eq_getElem?_getD, List.getElem?_eq_getElem hj]
  rfl
theorem src_fl {w : World} {po : Option Addr} {l : List Nat} (co : Nat) (h : FlAt w po l) : Src Tryz.prog 1 27 (.slice po l.length co) l.length (fls l) w := by
  cases po with
  | none =>
    cases l with
    | nil => exact Src.ofNil w Tryz.underlying27 co
    | cons i c =>
      obtain ⟨b, off, e, _⟩ := h 0 (by simp)
      cases e
  | some a =>
    refine Src.ofSlice w Tryz.underlying27 a l.length co _ (by rw [fls_len, Nat.mul_one]) (fun j u hu => ?_) (fls_one l)
    have hj : j < l.length := by
      have := (List.getElem?_eq_some_iff.1 hu).1
      rwa [fls_len] at this
    obtain ⟨b, off, e, _, c⟩ := h j hj
    cases e
    rw [Addr.add_mid, c, ← hu, fls_get hj]
end Go.Proofs.YteinilmecnlanaaGreatDoor
namespace Go.Proofs.YteinilmecnlanaaGreatDoor.Ww
open Go.ChangeShapes Go.WideShapes Go.ChangeAt Go.RowKit Num Rr
attribute [local go_sem] run_store_float Md.Ce.run_store_func Md.Ce.run_store_nilFunc
/-- how a machine ended -/
theorem end_how (a b c : Int) (w : World) : (Instr.field 59 (.agg #[.int .i64 a, .int .i64 b, .int .i64 c]) 0).run Tryz.prog w = .ok (.int .i64 a) w := by kernel_rfl
attribute [local go_sem] end_how
section
variable {W w : World} {G0 : List Nat} {b mb mg : Nat} {x : Wx} {z : Wz} {v : Wv} {ws : List Int} {o : Bool} {n : Int}
set_option maxRecDepth 100000 in
set_option maxHeartbeats 1000000 in
theorem load_any (h : Mid W G0 b z mb mg w x v ws true n) (ha : 1 ≤ x.a ∧ x.a ≤ 256) (hb8 : 1 ≤ x.b ∧ x.b ≤ 8) (hl : plY x ≤ (ws.length : Int)) {c : Int} (h0 : 0 ≤ c) (h1 : c < x.a) {y : Nat} (hy : nowN x ws c = y) : Calls Tryz.prog 172 #[.pointer (some ⟨b, 0, none⟩), .pointer (some ⟨mb, 0, none⟩), .int .i64 c] w fun e w' => e = .returned (.float .f64 y) ∧ Mid W G0 b z mb mg w' x v ws false (up n) ∧ Chg mb mg w w' := by
  obtain ⟨f1, f2, f3, f4⟩ := now_rel ha hb8 hl h0 h1 n
  have HD := Lib.hid (Md.Ce.cnow_any h.mem 0 1 2 3 (3 + x.b) (3 + x.b + 3 * x.a) c)
  unfold Md.Ce.planV at HD
  rw [f2, f3, f4, f1, hy] at HD
  have HM : Hid (∀ w', MemAt 116 w' mb mg ws false (up n) → Chg mb mg w w' → Mid W G0 b z mb mg w' x v ws false (up n) ∧ Chg mb mg w w') := fun w' k1 k2 => ⟨h.memb k2 k1, k2⟩
  obtain ⟨h0, h1, h2, h3, h4, h5⟩ := h.plan rfl rfl
  have hb := h.ltB
  clear h f1 f2 f3 f4 hl ha hb8 hy
  generalize 3 + x.b + 3 * x.a = p5 at *
  generalize 3 + x.b = p4 at *
  go_enter Tryz.func172, Tryz.ntmps172
  go_wp2_with (go_at_call 185; refine HD.out.mono ?_; rintro e w1 ⟨rfl, k1, k2⟩; have HQ := Lib.hid (HM.out _ k1 k2); clear k1 k2 HD HM)
  go_ret
  exact ⟨rfl, HQ.out⟩
set_option maxRecDepth 100000 in
theorem wend_no (h : Mid W G0 b z mb mg w x v ws o n) (hh : (x.m.how != 1) = true) : Calls Tryz.prog 173 #[.pointer (some ⟨b, 0, none⟩)] w fun e w' => e = .returned (.tuple #[]) ∧ Mid W G0 b z mb mg w' { x with part := 8 } { v with nx := fnV 186 } ws o n := by
  have HE : Hid (Calls Tryz.prog 49 #[.pointer (some ⟨z.bm, 0, none⟩)] w fun e w' => e = .returned (.agg #[.int .i64 x.m.how, .int .i64 x.m.cod, .int .i64 x.m.err]) ∧ Below w.heap.size w w') := Go.Proofs.YteinilmecnlanaaGreatDoor.end_any h.raw.mac.gm
  have HT : Hid (∀ w', Below w.heap.size w w' → Calls Tryz.prog 69 #[.pointer (some ⟨b, 0, none⟩), .int .i64 8, .func (.func 186) #[] #[]] w' fun e w' => e = .returned (.tuple #[]) ∧ Mid W G0 b z mb mg w' { x with part := 8 } { v with nx := fnV 186 } ws o n) := fun w' k => turnTo_fn (h.on k) 8 rfl 186
  have h9 : w.cell? ⟨b, 9, none⟩ = some (.pointer (some ⟨z.bm, 0, none⟩)) := (h.cell 9).trans rfl
  have hb := h.ltB
  clear h
  generalize x.m.how = hw at HE hh
  generalize x.m.cod = cd at HE
  generalize x.m.err = er at HE
  go_enter Tryz.func173, Tryz.ntmps173
  go_wp2_with (first
    | (go_at_call 69; refine (HT.out _ HQ.out).mono ?_; rintro e w2 ⟨rfl, k⟩; have HR := Lib.hid k; clear k HT)
    | (go_at_call 49; refine HE.out.mono ?_; rintro e w1 ⟨rfl, k⟩; have HQ := Lib.hid k; clear k HE))
  refine bodyPost_ret (results_none rfl _ _ _) rfl ?_
  exact ⟨rfl, HR.out⟩
set_option maxRecDepth 100000 in
set_option maxHeartbeats 1000000 in
theorem wend_yes (h : Mid W G0 b z mb mg w x v ws o n) (hh : (x.m.how != 1) = false) : Calls Tryz.prog 173 #[.pointer (some ⟨b, 0, none⟩)] w fun e w' => e = .returned (.tuple #[]) ∧ Hid (∃ i, Mid W G0 b z mb mg w' { x with part := 5 } { v with nx := fnV 188, qs := some i, s := ⟨3, x.b, x.stamp, 0, 0⟩ } ws o n) := by
  have HE : Hid (Calls Tryz.prog 49 #[.pointer (some ⟨z.bm, 0, none⟩)] w fun e w' => e = .returned (.agg #[.int .i64 x.m.how, .int .i64 x.m.cod, .int .i64 x.m.err]) ∧ Below w.heap.size w w') := Go.Proofs.YteinilmecnlanaaGreatDoor.end_any h.raw.mac.gm
  have HM := Lib.hid h
  have HL : Hid (∀ u, Calls Tryz.prog 187 #[.agg #[.int .i64 0, .int .i64 1, .int .i64 2, .int .i64 3, .int .i64 (3 + x.b), .int .i64 (3 + x.b + 3 * x.a)], .int .i64 x.b, .int .u64 x.stamp] u fun e w' => ∃ i, e = .returned (.pointer (some ⟨i, 0, none⟩)) ∧ u.heap.size ≤ i ∧ Md.Cv.ScAt w' i ⟨3, x.b, x.stamp, 0, 0⟩ ∧ Below u.heap.size u w') := fun u => Md.Cv.look_any 0 1 2 3 (3 + x.b) (3 + x.b + 3 * x.a) x.b x.stamp u
  have HT : Hid (∀ i w', Mid W G0 b z mb mg w' x { v with qs := some i, s := ⟨3, x.b, x.stamp, 0, 0⟩ } ws o n → Calls Tryz.prog 69 #[.pointer (some ⟨b, 0, none⟩), .int .i64 5, .func (.func 188) #[] #[]] w' fun e w' => e = .returned (.tuple #[]) ∧ Mid W G0 b z mb mg w' { x with part := 5 } { v with nx := fnV 188, qs := some i, s := ⟨3, x.b, x.stamp, 0, 0⟩ } ws o n) := fun i w' k => turnTo_fn k 5 rfl 188
  have h9 : w.cell? ⟨b, 9, none⟩ = some (.pointer (some ⟨z.bm, 0, none⟩)) := (h.cell 9).trans rfl
  have hb := h.ltB
  have HPL : Hid (∀ w' v', Mid W G0 b z mb mg w' x v' ws o n → (w'.cell? ⟨b, 0, none⟩ = some (.int .i64 0) ∧ w'.cell? ⟨b, 1, none⟩ = some (.int .i64 1) ∧ w'.cell? ⟨b, 2, none⟩ = some (.int .i64 2) ∧ w'.cell? ⟨b, 3, none⟩ = some (.int .i64 3) ∧ w'.cell? ⟨b, 4, none⟩ = some (.int .i64 (3 + x.b)) ∧ w'.cell? ⟨b, 5, none⟩ = some (.int .i64 (3 + x.b + 3 * x.a))) ∧ w'.cell? ⟨b, 6, none⟩ = some (.int .i64 x.b) ∧ w'.cell? ⟨b, 14, none⟩ = some (.int .u64 x.stamp)) := fun w' v' k => ⟨k.plan rfl rfl, (k.cell 6).trans rfl, (k.cell 14).trans rfl⟩
  clear h
  generalize x.m.how = hw at HE hh
  generalize x.m.cod = cd at HE
  generalize x.m.err = er at HE
  generalize 3 + x.b + 3 * x.a = p5 at *
  generalize 3 + x.b = p4 at *
  go_enter Tryz.func173, Tryz.ntmps173
  go_wp2_with (go_at_call 49; refine HE.out.mono ?_; rintro e w1 ⟨rfl, k⟩; have HQ := Lib.hid (HM.out.on k); clear k HE)
  clear h9 hb HM
  obtain ⟨⟨h0, h1, h2, h3, h4, h5⟩, h6, h14⟩ := HPL.out _ _ HQ.out
  have hb := HQ.out.ltB
  refine wp_region_seq (fun u => (u.cell? ⟨b, 0, none⟩ = some (.int .i64 0) ∧ u.cell? ⟨b, 1, none⟩ = some (.int .i64 1) ∧ u.cell? ⟨b, 2, none⟩ = some (.int .i64 2) ∧ u.cell? ⟨b, 3, none⟩ = some (.int .i64 3) ∧ u.cell? ⟨b, 4, none⟩ = some (.int .i64 p4) ∧ u.cell? ⟨b, 5, none⟩ = some (.int .i64 p5)) ∧ u.cell? ⟨b, 6, none⟩ = some (.int .i64 x.b) ∧ u.cell? ⟨b, 14, none⟩ = some (.int .u64 x.stamp) )  ((0, true) :: (1, true) :: (2, true) :: (3, true) :: (4, true) :: (5, true) :: (6, true) :: (7, true) :: (8, true) :: (9, true) :: (10, true) :: (11, true) :: (12, true) :: (13, false) :: (14, true) :: (15, true) :: (16, false) :: [])  Md.Cv.follows13 (by kernel_rfl) (fun _ _ _ _ _ h => h)  ⟨⟨h0, h1, h2, h3, h4, h5⟩, h6, h14⟩ ?_
  (repeat (first | (refine wpSeq_take (v := ?_) rfl (by rfl) (fun wq hSq => ?_) ?_; rotate_left; (focus ((try dsimp only at hSq); go_simp; try with_reducible rfl)); simp only [Act.put, List.setIfInBounds_toArray, List.set_cons_zero, List.set_cons_succ]) | (refine wpSeq_skip rfl (by rfl) ?_; simp only [Act.put, List.setIfInBounds_toArray, List.set_cons_zero, List.set_cons_succ])))
  (refine wpSeq_do rfl (by rfl) (fun KK hK => ?_); go_simp)
  refine (HL.out _).mono ?_
  rintro e w2 ⟨i0, rfl, k1, k2, k3⟩
  have HV := Lib.hid (HQ.out.drew.on k3)
  have HN := Lib.hid (HQ.out.drew.scanNew k3 k1 k2)
  have e16 : w2.cell? ⟨b, 16, none⟩ = some (ptrV v.qs) := (HV.out.cell 16).trans rfl
  have f16 := HV.out.free 16
  have lb := HV.out.ltB
  clear k1 k2 k3
  refine hK.out _ _ (HPL.out _ _ HV.out) ?_
  (clear hK KK; try simp only [Act.put, List.setIfInBounds_toArray, List.set_cons_zero, List.set_cons_succ])
  (repeat (first | (refine wpSeq_take (v := ?_) rfl (by rfl) (fun wq hSq => ?_) ?_; rotate_left; (focus ((try dsimp only at hSq); go_simp; try with_reducible rfl)); simp only [Act.put, List.setIfInBounds_toArray, List.set_cons_zero, List.set_cons_succ]) | (refine wpSeq_skip rfl (by rfl) ?_; simp only [Act.put, List.setIfInBounds_toArray, List.set_cons_zero, List.set_cons_succ])))
  (refine wpSeq_do rfl (by rfl) (fun KK hK => ?_); go_simp)
  refine hK.out _ _ (HPL.out _ _ HN.out) ?_
  (clear hK KK; try simp only [Act.put, List.setIfInBounds_toArray, List.set_cons_zero, List.set_cons_succ])
  refine wpSeq_nil ?_
  go_wp2_with (go_at_call 69; refine (HT.out _ _ HN.out).mono ?_; rintro e w3 ⟨rfl, k⟩; have HR := Lib.hid k; clear k HT)
  go_end0
  exact ⟨rfl, i0, HR.out⟩
set_option maxRecDepth 100000 in
set_option maxHeartbeats 1000000 in
/-- an instruction that ends -/
theorem run_end (h : Mid W G0 b z mb mg w x v ws o n) (hT : TabAt W G0) (hI : Inv x.m) {M : Mac} {A : Ask} (hM : (stepM x.m).1 = M) (hA : (stepM x.m).2 = A) (hk : A.kind = 4) {Q : World → Prop} (HE : Hid (∀ u F, Mid W G0 b z mb mg u { x with m := M } { v with F := F } ws o n → Calls Tryz.prog 173 #[.pointer (some ⟨b, 0, none⟩)] u fun e w' => e = .returned (.tuple #[]) ∧ Q w')) : Calls Tryz.prog 142 #[.pointer (some ⟨b, 0, none⟩), .pointer (some ⟨mb, 0, none⟩)] w fun e w' => e = .returned (.tuple #[]) ∧ Q w' := by
  have HS := Lib.hid (h.step hT hI hM hA)
  rw [hk] at HS
  have h9 : w.cell? ⟨b, 9, none⟩ = some (.pointer (some ⟨z.bm, 0, none⟩)) := (h.cell 9).trans rfl
  have hb := h.ltB
  clear h hM hA hT hI hk
  go_enter Tryz.func142, Tryz.ntmps142
  go_wp2_with (first
    | (go_at_call 173; refine (HE.out _ _ HU.out).mono ?_; rintro e w3 ⟨rfl, k⟩; have HR := Lib.hid k; clear k)
    | (go_at_call 91; refine HS.out.mono ?_; rintro e w1 ⟨rfl, k⟩; obtain ⟨F, k⟩ := k.out; have HU := Lib.hid (k.alloc (.cells #[.int .i64 4, .int .i64 A.cell, .float .f64 A.x, .bool A.first] 139)); have lb := k.ltB; clear k HS))
  go_end0
  exact ⟨rfl, HR.out⟩
set_option maxRecDepth 100000 in
set_option maxHeartbeats 1000000 in
/-- an instruction that has no access -/
theorem run_go (h : Mid W G0 b z mb mg w x v ws o n) (hT : TabAt W G0) (hI : Inv x.m) {M : Mac} {A : Ask} (hM : (stepM x.m).1 = M) (hA : (stepM x.m).2 = A) (h1 : (A.kind == 1) = false) (h3 : (A.kind == 3) = false ∨ ((A.kind == 3) = true ∧ A.first = false)) (h4 : (A.kind == 4) = false) : Calls Tryz.prog 142 #[.pointer (some ⟨b, 0, none⟩), .pointer (some ⟨mb, 0, none⟩)] w fun e w' => e = .returned (.tuple #[]) ∧ Hid (∃ F, Mid W G0 b z mb mg w' { x with m := M } { v with F := F } ws o n) := by
  have HS := Lib.hid (h.step hT hI hM hA)
  have h9 : w.cell? ⟨b, 9, none⟩ = some (.pointer (some ⟨z.bm, 0, none⟩)) := (h.cell 9).trans rfl
  have hb := h.ltB
  clear h hM hA hT hI
  obtain ⟨ak, ac, ax, af⟩ := A
  dsimp only at *
  rcases h3 with h3 | ⟨h3, rfl⟩
  · go_enter Tryz.func142, Tryz.ntmps142
    go_wp2_with (go_at_call 91; refine HS.out.mono ?_; rintro e w1 ⟨rfl, k⟩; obtain ⟨F, k⟩ := k.out; have HU := Lib.hid (k.alloc (.cells #[.int .i64 ak, .int .i64 ac, .float .f64 ax, .bool af] 139)); have lb := k.ltB; clear k HS)
    go_end0
    exact ⟨rfl, F, HU.out⟩
  · go_enter Tryz.func142, Tryz.ntmps142
    go_wp2_with (go_at_call 91; refine HS.out.mono ?_; rintro e w1 ⟨rfl, k⟩; obtain ⟨F, k⟩ := k.out; have HU := Lib.hid (k.alloc (.cells #[.int .i64 ak, .int .i64 ac, .float .f64 ax, .bool false] 139)); have lb := k.ltB; clear k HS)
    go_end0
    exact ⟨rfl, F, HU.out⟩
set_option maxRecDepth 100000 in
set_option maxHeartbeats 1000000 in
/-- an instruction that reads -/
theorem run_read (h : Mid W G0 b z mb mg w x v ws true n) (hT : TabAt W G0) (hI : Inv x.m) (hI2 : Inv (stepM x.m).1) (ha : 1 ≤ x.a ∧ x.a ≤ 256) (hb8 : 1 ≤ x.b ∧ x.b ≤ 8) (hl : plY x ≤ (ws.length : Int)) {M : Mac} {A : Ask} (hM : (stepM x.m).1 = M) (hA : (stepM x.m).2 = A) (hk : A.kind = 1) (h0 : 0 ≤ A.cell) (h1 : A.cell < x.a) {y : Nat} (hy : nowN x ws A.cell = y) : Calls Tryz.prog 142 #[.pointer (some ⟨b, 0, none⟩), .pointer (some ⟨mb, 0, none⟩)] w fun e w' => e = .returned (.tuple #[]) ∧ Hid (∃ F, Mid W G0 b z mb mg w' { x with m := giveM M y } { v with F := F } ws false (up n)) := by
  have HS := Lib.hid (h.step hT hI hM hA)
  rw [hk] at HS
  have h9 : w.cell? ⟨b, 9, none⟩ = some (.pointer (some ⟨z.bm, 0, none⟩)) := (h.cell 9).trans rfl
  have hb := h.ltB
  have HLD : Hid (∀ u F, Mid W G0 b z mb mg u { x with m := M } { v with F := F } ws true n → Calls Tryz.prog 172 #[.pointer (some ⟨b, 0, none⟩), .pointer (some ⟨mb, 0, none⟩), .int .i64 A.cell] u fun e w' => e = .returned (.float .f64 y) ∧ Mid W G0 b z mb mg w' { x with m := M } { v with F := F } ws false (up n) ∧ Chg mb mg u w') := fun u F k => load_any k ha hb8 hl h0 h1 hy
  have HGV : Hid (∀ u F, Mid W G0 b z mb mg u { x with m := M } { v with F := F } ws false (up n) → Calls Tryz.prog 93 #[.pointer (some ⟨z.bm, 0, none⟩), .float .f64 y] u fun e w' => e = .returned (.int .i64 (giveE M)) ∧ Hid (∃ F, Mid W G0 b z mb mg w' { x with m := giveM M y } { v with F := F } ws false (up n))) := fun u F k => k.give (hM ▸ hI2) y rfl
  generalize giveE M = gE at HGV
  clear h hM hA hT hI hk hl ha hb8 h0 h1 hy hI2
  go_enter Tryz.func142, Tryz.ntmps142
  go_wp2_with (go_at_call 91; refine HS.out.mono ?_; rintro e w1 ⟨rfl, k⟩; obtain ⟨F, k⟩ := k.out; have HQ := Lib.hid k; have lb := k.ltB; clear k HS)
  obtain ⟨w2, hw2⟩ : ∃ w2, w2 = w1.alloc (.cells #[.int .i64 1, .int .i64 A.cell, .float .f64 A.x, .bool A.first] 139) := ⟨_, rfl⟩
  rw [← hw2]
  have HU := Lib.hid ((HQ.out.alloc (.cells #[.int .i64 1, .int .i64 A.cell, .float .f64 A.x, .bool A.first] 139)).drew)
  rw [← hw2] at HU
  have eA : w2.cell? ⟨w1.heap.size, 1, none⟩ = some (.int .i64 A.cell) := by rw [hw2]; simp [go_sem]
  have lA : w1.heap.size < w2.heap.size := by rw [hw2]; simp
  have HNE : Hid (w1.heap.size ≠ mb ∧ w1.heap.size ≠ mg) := ⟨(HQ.out.new (Nat.le_refl _)).2.2.1, (HQ.out.new (Nat.le_refl _)).2.2.2⟩
  clear hw2 HQ
  have e9 : w2.cell? ⟨b, 9, none⟩ = some (.pointer (some ⟨z.bm, 0, none⟩)) := (HU.out.cell 9).trans rfl
  have eb : b < w2.heap.size := HU.out.ltB
  refine wp_region_seqE (fun u => u.cell? ⟨b, 9, none⟩ = some (.pointer (some ⟨z.bm, 0, none⟩)) ∧ u.cell? ⟨w1.heap.size, 1, none⟩ = some (.int .i64 A.cell) )  ((0, true) :: (1, true) :: (2, true) :: (3, true) :: (4, true) :: (5, true) :: (6, true) :: (7, true) :: (8, false) :: (9, false) :: [])  Md.Cv.follows13 (by kernel_rfl) (fun _ _ _ _ _ h => h)  ⟨e9, eA⟩ ?_
  (repeat (refine wpSeqE_take (v := ?_) rfl (by rfl) (fun wq hSq => ?_) ?_; rotate_left; (focus ((try dsimp only at hSq); go_simp; try with_reducible rfl)); simp only [Act.put, List.setIfInBounds_toArray, List.set_cons_zero, List.set_cons_succ]))
  (refine wpSeqE_do rfl (by rfl) (fun KK hK => ?_); go_simp)
  refine (HLD.out _ _ HU.out).mono ?_
  rintro e w3 ⟨rfl, k1, k2⟩
  have HV := Lib.hid k1
  have g9 : w3.cell? ⟨b, 9, none⟩ = some (.pointer (some ⟨z.bm, 0, none⟩)) := (k1.cell 9).trans rfl
  have gA : w3.cell? ⟨w1.heap.size, 1, none⟩ = some (.int .i64 A.cell) := (Md.Cv.cell_kept (k2.block _ lA HNE.out.1 HNE.out.2) 1).trans eA
  clear k1 k2
  refine hK.out _ _ (fun _ => ⟨g9, gA⟩) ?_
  (clear hK KK; try simp only [Act.put, List.setIfInBounds_toArray, List.set_cons_zero, List.set_cons_succ])
  (refine wpSeqE_do rfl (by rfl) (fun KK hK => ?_); go_simp)
  refine (HGV.out _ _ HV.out).mono ?_
  rintro e w4 ⟨rfl, k⟩
  refine hK.out _ _ (fun hn => absurd rfl hn) ?_
  (clear hK KK; try simp only [Act.put, List.setIfInBounds_toArray, List.set_cons_zero, List.set_cons_succ])
  refine wpSeqE_nil ?_
  go_wp2_with fail
  go_end0
  exact ⟨rfl, k.out⟩
/-- what append answers, for what a cell had -/
theorem Mid.hads2 (h : Mid W G0 b z mb mg w x v ws o n) {k : Nat} (hk : x.was.length = k) {ob : Obj} {w3 : World} {u : Value} {y : Nat} (hown : w3.ownsRow 0 73 1 u (k + 1) (fls x.was ++ [.float .f64 y])) (hg : (w.alloc ob).grownBy w3 (Value.slice v.ph k v.ch).ownBlock) (hat : u.ownBlock = (Value.slice v.ph k v.ch).ownBlock ∨ u.ownBlock = some (w.alloc ob).heap.size) :
    ∃ p' c', u = .slice p' (k + 1) c' ∧ w3.heap[b]? = some (.cells (boxY x z v) 102 (0, 0)) ∧ Mid W G0 b z mb mg (w3.setCell ⟨b, 15, none⟩ (.slice p' (k + 1) c')) { x with was := x.was ++ [y] } { v with ph := p', ch := c' } ws o n := by
  subst hk
  obtain ⟨p', c', e, k1, k2⟩ := h.hads hown ((World.grownBy_alloc w ob _).trans hg) (hat.imp id fun q => ⟨_, q, by simp⟩)
  exact ⟨p', c', e, k1, e ▸ k2⟩
set_option maxRecDepth 100000 in
set_option maxHeartbeats 2000000 in
/-- an instruction that writes a cell for the first time -/
theorem run_first (h : Mid W G0 b z mb mg w x v ws true n) (hT : TabAt W G0) (hI : Inv x.m) (ha : 1 ≤ x.a ∧ x.a ≤ 256) (hb8 : 1 ≤ x.b ∧ x.b ≤ 8) (hl : plY x ≤ (ws.length : Int)) (hfew : x.was.length ≤ 1000) {M : Mac} {A : Ask} (hM : (stepM x.m).1 = M) (hA : (stepM x.m).2 = A) (hk : A.kind = 3) (hf : A.first = true) (h0 : 0 ≤ A.cell) (h1 : A.cell < x.a) {y : Nat} (hy : nowN x ws A.cell = y) : Calls Tryz.prog 142 #[.pointer (some ⟨b, 0, none⟩), .pointer (some ⟨mb, 0, none⟩)] w fun e w' => e = .returned (.tuple #[]) ∧ Hid (∃ F p' c', Mid W G0 b z mb mg w' { x with m := M, was := x.was ++ [y] } { v with F := F, ph := p', ch := c' } ws false (up n)) := by
  have HS := Lib.hid (h.step hT hI hM hA)
  rw [hk, hf] at HS
  have h9 : w.cell? ⟨b, 9, none⟩ = some (.pointer (some ⟨z.bm, 0, none⟩)) := (h.cell 9).trans rfl
  have hb := h.ltB
  have HLD : Hid (∀ u F, Mid W G0 b z mb mg u { x with m := M } { v with F := F } ws true n → Calls Tryz.prog 172 #[.pointer (some ⟨b, 0, none⟩), .pointer (some ⟨mb, 0, none⟩), .int .i64 A.cell] u fun e w' => e = .returned (.float .f64 y) ∧ Mid W G0 b z mb mg w' { x with m := M } { v with F := F } ws false (up n) ∧ Chg mb mg u w') := fun u F k => load_any k ha hb8 hl h0 h1 hy
  obtain ⟨j, hj⟩ : ∃ j, x.was.length = j := ⟨_, rfl⟩
  have HJ := Lib.hid hj
  rw [hj] at hfew
  have HC15 : Hid (∀ u F ws o n, Mid W G0 b z mb mg u { x with m := M } { v with F := F } ws o n → u.cell? ⟨b, 15, none⟩ = some (.slice v.ph j v.ch) ∧ u.ownsRow 0 73 1 (.slice v.ph j v.ch) j (fls x.was)) := fun u F ws o n k => ⟨(k.cell 15).trans (by show some (Value.slice v.ph x.was.length v.ch) = _; rw [hj]), by
    have := k.raw.had.own
    dsimp only at this
    rw [fls_len, hj] at this
    exact this⟩
  obtain ⟨i0, hi, hz0, hz1, hz2⟩ := info_parts fInfo
  have HZI := Lib.hid (And.intro hi (And.intro hz0 (And.intro hz1 hz2)))
  clear h hM hA hT hI hk hl ha hb8 h0 h1 hy hf hi hz0 hz1 hz2 hj
  go_enter Tryz.func142, Tryz.ntmps142
  go_wp2_with (go_at_call 91; refine HS.out.mono ?_; rintro e w1 ⟨rfl, k⟩; obtain ⟨F, k⟩ := k.out; have HQ := Lib.hid k; have lb := k.ltB; clear k HS)
  obtain ⟨w2, hw2⟩ : ∃ w2, w2 = w1.alloc (.cells #[.int .i64 3, .int .i64 A.cell, .float .f64 A.x, .bool true] 139) := ⟨_, rfl⟩
  rw [← hw2]
  have HU := Lib.hid ((HQ.out.alloc (.cells #[.int .i64 3, .int .i64 A.cell, .float .f64 A.x, .bool true] 139)).drew)
  rw [← hw2] at HU
  have eA : w2.cell? ⟨w1.heap.size, 1, none⟩ = some (.int .i64 A.cell) := by rw [hw2]; simp [go_sem]
  have lA : w1.heap.size < w2.heap.size := by rw [hw2]; simp
  have HNE : Hid (w1.heap.size ≠ mb ∧ w1.heap.size ≠ mg) := ⟨(HQ.out.new (Nat.le_refl _)).2.2.1, (HQ.out.new (Nat.le_refl _)).2.2.2⟩
  have HNF : Hid (w1.heap.size ∉ fpR v.ph) := fun q => (HQ.out.new (Nat.le_refl _)).1 (in_h q)
  clear hw2 HQ
  have e15 : w2.cell? ⟨b, 15, none⟩ = some (.slice v.ph j v.ch) := (HC15.out _ _ _ _ _ HU.out).1
  have eb : b < w2.heap.size := HU.out.ltB
  refine wp_region_seqE (fun u => u.cell? ⟨b, 15, none⟩ = some (.slice v.ph j v.ch) ∧ u.cell? ⟨w1.heap.size, 1, none⟩ = some (.int .i64 A.cell) )  ((0, true) :: (1, true) :: (2, true) :: (3, true) :: (4, true) :: (5, true) :: (6, true) :: (7, true) :: (8, true) :: (9, false) :: (10, false) :: (11, false) :: (12, true) :: (13, true) :: (14, false) :: [])  Md.Cv.follows13 (by kernel_rfl) (fun _ _ _ _ _ h => h)  ⟨e15, eA⟩ ?_
  (repeat (refine wpSeqE_take (v := ?_) rfl (by rfl) (fun wq hSq => ?_) ?_; rotate_left; (focus ((try dsimp only at hSq); go_simp; try with_reducible rfl)); simp only [Act.put, List.setIfInBounds_toArray, List.set_cons_zero, List.set_cons_succ]))
  (refine wpSeqE_do rfl (by rfl) (fun KK hK => ?_); go_simp)
  refine (HLD.out _ _ HU.out).mono ?_
  rintro e w3 ⟨rfl, k1, k2⟩
  have HV := Lib.hid k1
  obtain ⟨g15, OD⟩ := HC15.out _ _ _ _ _ k1
  have HOD := Lib.hid OD
  have gA : w3.cell? ⟨w1.heap.size, 1, none⟩ = some (.int .i64 A.cell) := (Md.Cv.cell_kept (k2.block _ lA HNE.out.1 HNE.out.2) 1).trans eA
  have l3 : w1.heap.size < w3.heap.size := Nat.lt_of_lt_of_le lA k2.size
  have b3 : b < w3.heap.size := k1.ltB
  have HMR : Hid (∀ w4 v4 ob, w4.ownsRow 0 73 1 v4 (j + 1) (fls x.was ++ [.float .f64 y]) → (w3.alloc ob).grownBy w4 (Value.slice v.ph j v.ch).ownBlock → (v4.ownBlock = (Value.slice v.ph j v.ch).ownBlock ∨ v4.ownBlock = some (w3.alloc ob).heap.size) → ∃ p' c', v4 = .slice p' (j + 1) c' ∧ w4.heap[b]? = some (.cells (boxY { x with m := M } z { v with F := F }) 102 (0, 0)) ∧ Mid W G0 b z mb mg (w4.setCell ⟨b, 15, none⟩ (.slice p' (j + 1) c')) { x with m := M, was := x.was ++ [y] } { v with F := F, ph := p', ch := c' } ws false (up n)) := fun w4 v4 ob q1 q2 q3 => HV.out.hads2 HJ.out q1 q2 q3
  clear k1 k2 OD HC15
  refine hK.out _ _ (fun _ => ⟨g15, gA⟩) ?_
  (clear hK KK; try simp only [Act.put, List.setIfInBounds_toArray, List.set_cons_zero, List.set_cons_succ])
  (refine wpSeqE_do rfl (by rfl) (fun KK hK => ?_); go_simp)
  have g15a : (w3.alloc (.cells #[.float .f64 y] 73)).cell? ⟨b, 15, none⟩ = some (.slice v.ph j v.ch) := (World.cell?_alloc_old _ _ _ (Nat.ne_of_lt b3)).trans g15
  have gAa : (w3.alloc (.cells #[.float .f64 y] 73)).cell? ⟨w1.heap.size, 1, none⟩ = some (.int .i64 A.cell) := (World.cell?_alloc_old _ _ _ (Nat.ne_of_lt l3)).trans gA
  refine hK.out _ _ (fun _ => ⟨g15a, gAa⟩) ?_
  (clear hK KK; try simp only [Act.put, List.setIfInBounds_toArray, List.set_cons_zero, List.set_cons_succ])
  refine wpSeqE_do rfl (by rfl) (fun KK hK => ?_)
  refine wp_append_ex _ _ 27 27 rfl (.slice v.ph j v.ch) (.slice (some ⟨w3.heap.size, 0, none⟩) 1 1) rfl rfl (run_append_own_at (P := Tryz.prog) (w3.alloc (.cells #[.float .f64 y] 73)) 0 27 27 73 i0 (.float .f64 0) 1 8 Tryz.underlying27 HZI.out.1 HZI.out.2.1 HZI.out.2.2.1 HZI.out.2.2.2 rfl (by decide) _ j (fls x.was) (World.ownsRow.alloc (HOD.out) _) ⟨w3.heap.size, 0, none⟩ 1 1 [.float .f64 y] rfl (cell_one_new w3 _ _) (fun u hu => by simp at hu; subst hu; rfl) (by unfold maxLen; omega) (by omega) (Nat.zero_le _)) ?_
  rintro v4 w4 ⟨hown4, hgrow4, hnil4, hat4⟩
  have gB : w4.cell? ⟨w1.heap.size, 1, none⟩ = some (.int .i64 A.cell) := (Md.Cv.cell_kept (hgrow4.block _ (by simp; omega) (fun q => HNF.out (own_fpR.2 q.symm))) 1).trans gAa
  obtain ⟨p', c', hv4, k1, k2⟩ := HMR.out _ _ _ hown4 hgrow4 hat4
  subst hv4
  have c15 : w4.cell? ⟨b, 15, none⟩ = some (.slice v.ph j v.ch) := by
    rw [cell_of_row w4 _ 15 _ _ _ k1]
    show some (Value.slice v.ph x.was.length v.ch) = _
    rw [HJ.out]
  have f15 := frozen_of_row w4 _ 15 _ _ k1
  have b4 := lt_of_block k1
  have HKK := Lib.hid k2
  clear hown4 hgrow4 hnil4 hat4 k1 k2 HMR
  refine hK.out _ _ (fun _ => ⟨c15, gB⟩) ?_
  (clear hK KK; try simp only [Act.put, List.setIfInBounds_toArray, List.set_cons_zero, List.set_cons_succ])
  (repeat (refine wpSeqE_take (v := ?_) rfl (by rfl) (fun wq hSq => ?_) ?_; rotate_left; (focus ((try dsimp only at hSq); go_simp; try with_reducible rfl)); simp only [Act.put, List.setIfInBounds_toArray, List.set_cons_zero, List.set_cons_succ]))
  (refine wpSeqE_do rfl (by rfl) (fun KK hK => ?_); go_simp)
  refine hK.out _ _ (fun hn => absurd rfl hn) ?_
  (clear hK KK; try simp only [Act.put])
  refine wpSeqE_nil ?_
  go_wp2_with fail
  go_end0
  exact ⟨rfl, F, p', c', HKK.out⟩
end
end Go.Proofs.YteinilmecnlanaaGreatDoor.Ww
namespace Go.Proofs.YteinilmecnlanaaGreatDoor.Ww
open Go.ChangeShapes Go.WideShapes Go.ChangeAt Go.RowKit Num Rr
attribute [local go_sem] run_store_float Md.Ce.run_store_func Md.Ce.run_store_nilFunc
section
variable {W w : World} {G0 : List Nat} {b mb mg : Nat} {x : Wx} {z : Wz} {v : Wv} {ws : List Int} {o : Bool} {n : Int}
set_option maxRecDepth 100000 in
theorem wnext_end (h : Mid W G0 b z mb mg w x v ws o n) (hbg : v.bg = (x.m.buf.length : Int)) : Calls Tryz.prog 214 #[.pointer (some ⟨b, 0, none⟩)] w fun e w' => e = .returned (.tuple #[]) ∧ Mid W G0 b z mb mg w' { x with part := 7 } { v with nx := fnV 226 } ws o n := by
  have HW : Hid (Calls Tryz.prog 47 #[.pointer (some ⟨z.bm, 0, none⟩)] w fun e w' => e = .returned (.slice (some ⟨w.heap.size, 0, none⟩) x.m.buf.length x.m.buf.length) ∧ TRow w' (some ⟨w.heap.size, 0, none⟩) x.m.buf.length x.m.buf ∧ Below w.heap.size w w') := writes_any h.raw.mac.gm
  have HT : Hid (∀ w', Below w.heap.size w w' → Calls Tryz.prog 69 #[.pointer (some ⟨b, 0, none⟩), .int .i64 7, .func (.func 226) #[] #[]] w' fun e w' => e = .returned (.tuple #[]) ∧ Mid W G0 b z mb mg w' { x with part := 7 } { v with nx := fnV 226 } ws o n) := fun w' k => turnTo_fn (h.on k) 7 rfl 226
  have h9 : w.cell? ⟨b, 9, none⟩ = some (.pointer (some ⟨z.bm, 0, none⟩)) := (h.cell 9).trans rfl
  have HC : Hid (∀ u, Below w.heap.size w u → u.cell? ⟨b, 17, none⟩ = some (.int .i64 (x.m.buf.length : Int)) ∧ b < u.heap.size) := fun u k => ⟨((h.on k).cell 17).trans (by show some (Value.int .i64 v.bg) = _; rw [hbg]), (h.on k).ltB⟩
  have hb := h.ltB
  clear h
  generalize x.m.buf.length = bl at *
  go_enter Tryz.func214, Tryz.ntmps214
  go_wp2_with (first
    | (go_at_call 69; refine (HT.out _ HQ.out).mono ?_; rintro e w2 ⟨rfl, k⟩; have HR := Lib.hid k; clear k HT)
    | (go_at_call 47; refine HW.out.mono ?_; rintro e w1 ⟨rfl, k1, k2⟩; have HQ := Lib.hid k2; obtain ⟨e17, lb⟩ := HC.out _ k2; clear k1 k2 HW))
  refine bodyPost_ret (results_none rfl _ _ _) rfl ?_
  exact ⟨rfl, HR.out⟩
set_option maxRecDepth 100000 in
set_option maxHeartbeats 2000000 in
theorem wnext_more (h : Mid W G0 b z mb mg w x v ws o n) (hI : InY x) {k : Nat} (hk : k < x.m.buf.length) (hbg : v.bg = (k : Int)) : Calls Tryz.prog 214 #[.pointer (some ⟨b, 0, none⟩)] w fun e w' => e = .returned (.tuple #[]) ∧ Hid (∃ i, Mid W G0 b z mb mg w' { x with part := 6 } { v with nx := fnV 229, bg := (k : Int) + 1, qw := some i, t := wtK x k 0 } ws o n) := by
  have hfew : (x.m.buf.length : Int) ≤ 32 := by have h1 := hI.rest.inv.few; have h2 := hI.rest.inv.wmax; omega
  have hwl : k < x.was.length := by rw [hI.wlen]; exact hk
  have HW : Hid (Calls Tryz.prog 47 #[.pointer (some ⟨z.bm, 0, none⟩)] w fun e w' => e = .returned (.slice (some ⟨w.heap.size, 0, none⟩) x.m.buf.length x.m.buf.length) ∧ TRow w' (some ⟨w.heap.size, 0, none⟩) x.m.buf.length x.m.buf ∧ Below w.heap.size w w') := writes_any h.raw.mac.gm
  have HTC : Hid (∀ u, TRow u (some ⟨w.heap.size, 0, none⟩) x.m.buf.length x.m.buf → w.heap.size < u.heap.size ∧ u.cell? ⟨w.heap.size, k * 2, none⟩ = some (.int .i64 (bufC x k)) ∧ u.cell? ⟨w.heap.size, k * 2 + 1, none⟩ = some (.float .f64 (bufX x k))) := fun u q => by
    obtain ⟨g, e, l, c1, c2⟩ := trow_at q rfl k hk
    cases e
    exact ⟨l, c1, c2⟩
  have h9 : w.cell? ⟨b, 9, none⟩ = some (.pointer (some ⟨z.bm, 0, none⟩)) := (h.cell 9).trans rfl
  obtain ⟨g, hph, _⟩ := Sx.row_getD h.raw.had k hwl
  have HC : Hid (∀ u, Below w.heap.size w u → Mid W G0 b z mb mg u x v ws o n ∧ (u.cell? ⟨b, 0, none⟩ = some (.int .i64 0) ∧ u.cell? ⟨b, 1, none⟩ = some (.int .i64 1) ∧ u.cell? ⟨b, 2, none⟩ = some (.int .i64 2) ∧ u.cell? ⟨b, 3, none⟩ = some (.int .i64 3) ∧ u.cell? ⟨b, 4, none⟩ = some (.int .i64 (3 + x.b)) ∧ u.cell? ⟨b, 5, none⟩ = some (.int .i64 (3 + x.b + 3 * x.a))) ∧ u.cell? ⟨b, 15, none⟩ = some (.slice (some ⟨g, 0, none⟩) x.was.length v.ch) ∧ u.cell? ⟨b, 17, none⟩ = some (.int .i64 (k : Int)) ∧ u.cell? ⟨g, k, none⟩ = some (.float .f64 (x.was.getD k 0)) ∧ g < u.heap.size ∧ b < u.heap.size) := fun u q => by
    have hu := h.on q
    obtain ⟨g', e, l, c, _⟩ := Sx.row_getD hu.raw.had k hwl
    rw [hph] at e
    cases e
    exact ⟨hu, hu.plan rfl rfl, (hu.cell 15).trans (by show some (Value.slice v.ph x.was.length v.ch) = _; rw [hph]), (hu.cell 17).trans (by show some (Value.int .i64 v.bg) = _; rw [hbg]), c, l, hu.ltB⟩
  have HNS : Hid (∀ u, Below w.heap.size w u → Calls Tryz.prog 228 #[.pointer (some ⟨b, 0, none⟩)] u fun e w' => e = .returned (.int .u64 (Md.Cv.passV x.stamp)) ∧ w' = u) := fun u q => nextStamp_any (h.on q)
  have HWR : Hid (∀ u, Calls Tryz.prog 227 #[.agg #[.int .i64 0, .int .i64 1, .int .i64 2, .int .i64 3, .int .i64 (3 + x.b), .int .i64 (3 + x.b + 3 * x.a)], .int .i64 (bufC x k), .int .u64 (Md.Cv.passV x.stamp), .float .f64 (x.was.getD k 0), .float .f64 (bufX x k)] u fun e w' => ∃ i, e = .returned (.pointer (some ⟨i, 0, none⟩)) ∧ u.heap.size ≤ i ∧ Md.Ce.WtAt w' i (wtK x k 0) ∧ Below u.heap.size u w') := fun u => by
    have := Md.Ce.write_any u 0 1 2 3 (3 + x.b) (3 + x.b + 3 * x.a) (bufC x k) (Md.Cv.passV x.stamp) (x.was.getD k 0) (bufX x k)
    rw [newW_is hI hk] at this
    exact this
  have HT : Hid (∀ i w', Mid W G0 b z mb mg w' x { v with bg := (k : Int) + 1, qw := some i, t := wtK x k 0 } ws o n → Calls Tryz.prog 69 #[.pointer (some ⟨b, 0, none⟩), .int .i64 6, .func (.func 229) #[] #[]] w' fun e w' => e = .returned (.tuple #[]) ∧ Mid W G0 b z mb mg w' { x with part := 6 } { v with nx := fnV 229, bg := (k : Int) + 1, qw := some i, t := wtK x k 0 } ws o n) := fun i w' q => turnTo_fn q 6 rfl 229
  have HP : Hid (∀ i w', Mid W G0 b z mb mg w' x { v with qw := some i, t := wtK x k 0 } ws o n → Mid W G0 b z mb mg (w'.setCell ⟨b, 17, none⟩ (.int .i64 ((k : Int) + 1))) x { v with bg := (k : Int) + 1, qw := some i, t := wtK x k 0 } ws o n ∧ w'.cell? ⟨b, 17, none⟩ = some (.int .i64 (k : Int)) ∧ w'.frozen? ⟨b, 17, none⟩ = false ∧ b < w'.heap.size) := fun i w' q => ⟨q.put 17 _ x _ rfl ⟨rfl, rfl, rfl⟩ ⟨rfl, rfl, rfl, rfl, rfl, rfl, rfl⟩, (q.cell 17).trans (by show some (Value.int .i64 v.bg) = _; rw [hbg]), q.free 17, q.ltB⟩
  have hb := h.ltB
  have hwl2 : (k : Int) < (x.was.length : Int) := by omega
  have hk2 : (k : Int) < (x.m.buf.length : Int) := by omega
  have hne : ((k : Int) == (x.m.buf.length : Int)) = false := by simp; omega
  have hk32 : (k : Int) < 1000 := by omega
  clear h hI hbg hk hwl hph
  generalize x.m.buf.length = bl at *
  generalize x.was.length = wl at *
  generalize x.was.getD k 0 = u0 at *
  generalize bufC x k = c0 at *
  generalize bufX x k = y0 at *
  generalize wtK x k 0 = t0 at *
  generalize Md.Cv.passV x.stamp = s0 at *
  generalize 3 + x.b + 3 * x.a = p5 at *
  generalize 3 + x.b = p4 at *
  go_enter Tryz.func214, Tryz.ntmps214
  go_upto_region 4 with (go_at_call 47; refine HW.out.mono ?_; rintro e w1 ⟨rfl, k1, k2⟩; have HQ := Lib.hid k2; obtain ⟨lg, d0, d1⟩ := HTC.out _ k1; obtain ⟨_, ⟨h0, h1, h2, h3, h4, h5⟩, h15, h17, hg, lg2, lb⟩ := HC.out _ k2; clear k1 k2 HW HTC)
  clear h0 h1 h2 h3 h4 h5 h15 h17 hg lg2 lb h9
  obtain ⟨w2, hw2⟩ : ∃ w2, w2 = w1.alloc (.cells #[.int .i64 c0, .float .f64 y0] 75) := ⟨_, rfl⟩
  rw [← hw2]
  have HB2 : Hid (Below w.heap.size w w2.drew) := by rw [hw2]; exact (HQ.out.alloc HQ.out.size _).trans ((Same.drew _).below _)
  have a0 : w2.cell? ⟨w1.heap.size, 0, none⟩ = some (.int .i64 c0) := by rw [hw2]; simp [go_sem]
  have a1 : w2.cell? ⟨w1.heap.size, 1, none⟩ = some (.float .f64 y0) := by rw [hw2]; simp [go_sem]
  have la : w1.heap.size < w2.heap.size := by rw [hw2]; simp
  clear hw2 lg d0 d1 HQ
  obtain ⟨hm, ⟨h0, h1, h2, h3, h4, h5⟩, h15, h17, hg, lg2, lb⟩ := HC.out _ HB2.out
  have HM := Lib.hid hm
  clear hm
  have lg3 : g < w2.heap.size := lg2
  have lb3 : b < w2.heap.size := lb
  refine wp_region_seqE (fun u => (u.cell? ⟨b, 0, none⟩ = some (.int .i64 0) ∧ u.cell? ⟨b, 1, none⟩ = some (.int .i64 1) ∧ u.cell? ⟨b, 2, none⟩ = some (.int .i64 2) ∧ u.cell? ⟨b, 3, none⟩ = some (.int .i64 3) ∧ u.cell? ⟨b, 4, none⟩ = some (.int .i64 p4) ∧ u.cell? ⟨b, 5, none⟩ = some (.int .i64 p5)) ∧ u.cell? ⟨b, 15, none⟩ = some (.slice (some ⟨g, 0, none⟩) wl v.ch) ∧ u.cell? ⟨b, 17, none⟩ = some (.int .i64 (k : Int)) ∧ u.cell? ⟨g, k, none⟩ = some (.float .f64 u0) ∧ u.cell? ⟨w1.heap.size, 0, none⟩ = some (.int .i64 c0) ∧ u.cell? ⟨w1.heap.size, 1, none⟩ = some (.float .f64 y0) )  ((0, true) :: (1, true) :: (2, true) :: (3, true) :: (4, true) :: (5, true) :: (6, true) :: (7, true) :: (9, true) :: (10, true) :: (11, true) :: (12, true) :: (13, true) :: (14, true) :: (15, true) :: (16, true) :: (17, true) :: (18, true) :: (19, true) :: (20, true) :: (8, false) :: (21, false) :: (22, true) :: (23, true) :: (24, false) :: [])  Md.Cv.follows13 (by kernel_rfl) (fun _ _ _ _ _ h => h)  ⟨⟨h0, h1, h2, h3, h4, h5⟩, h15, h17, hg, a0, a1⟩ ?_
  (repeat (refine wpSeqE_take (v := ?_) rfl (by rfl) (fun wq hSq => ?_) ?_; rotate_left; (focus ((try dsimp only at hSq); go_simp; try with_reducible rfl)); simp only [Act.put, List.setIfInBounds_toArray, List.set_cons_zero, List.set_cons_succ]))
  (refine wpSeqE_do rfl (by rfl) (fun KK hK => ?_); go_simp)
  refine (HNS.out _ HB2.out).mono ?_
  rintro e u1 ⟨rfl, hw⟩
  subst u1
  refine hK.out _ _ (fun _ => ⟨⟨h0, h1, h2, h3, h4, h5⟩, h15, h17, hg, a0, a1⟩) ?_
  (clear hK KK; try simp only [Act.put, List.setIfInBounds_toArray, List.set_cons_zero, List.set_cons_succ])
  (refine wpSeqE_do rfl (by rfl) (fun KK hK => ?_); go_simp)
  refine (HWR.out _).mono ?_
  rintro e w3 ⟨i0, rfl, k1, k2, k3⟩
  have HN := Lib.hid (HM.out.writeNew k3 k1 k2)
  have HV := Lib.hid (HM.out.on k3)
  obtain ⟨q1, q2, q3, q4⟩ := HP.out _ _ HN.out
  have HN2 := Lib.hid q1
  have e18 : w3.cell? ⟨b, 18, none⟩ = some (ptrV v.qw) := (HV.out.cell 18).trans rfl
  have f18 := HV.out.free 18
  have l18 := HV.out.ltB
  have ck : ∀ (g j : Nat) (y : Value), g < w2.heap.size → w2.cell? ⟨g, j, none⟩ = some y → w3.cell? ⟨g, j, none⟩ = some y := fun g j y hg hv => (k3.cell (p := ⟨g, j, none⟩) hg).trans hv
  refine hK.out _ _ (fun _ => ⟨⟨ck _ _ _ lb3 h0, ck _ _ _ lb3 h1, ck _ _ _ lb3 h2, ck _ _ _ lb3 h3, ck _ _ _ lb3 h4, ck _ _ _ lb3 h5⟩, ck _ _ _ lb3 h15, ck _ _ _ lb3 h17, ck _ _ _ lg3 hg, ck _ _ _ la a0, ck _ _ _ la a1⟩) ?_
  clear k1 k2 k3 ck q1
  (clear hK KK; try simp only [Act.put, List.setIfInBounds_toArray, List.set_cons_zero, List.set_cons_succ])
  (repeat (refine wpSeqE_take (v := ?_) rfl (by rfl) (fun wq hSq => ?_) ?_; rotate_left; (focus ((try dsimp only at hSq); go_simp; try with_reducible rfl)); simp only [Act.put, List.setIfInBounds_toArray, List.set_cons_zero, List.set_cons_succ]))
  (refine wpSeqE_do rfl (by rfl) (fun KK hK => ?_); go_simp)
  refine hK.out _ _ (fun hn => absurd rfl hn) ?_
  (clear hK KK; try simp only [Act.put])
  refine wpSeqE_nil ?_
  clear h0 h1 h2 h3 h4 h5 h15 h17 hg lg2 lb a0 a1 la lg3 lb3 e18 f18 l18
  go_wp2_with (go_at_call 69; refine (HT.out _ _ HN2.out).mono ?_; rintro e w4 ⟨rfl, k⟩; have HR := Lib.hid k; clear k HT)
  go_end0
  exact ⟨rfl, i0, HR.out⟩
set_option maxRecDepth 100000 in
set_option maxHeartbeats 1000000 in
/-- a look at a claim; behind the last one the first write -/
theorem scan_any (h : Mid W G0 b z mb mg w x v ws true n) {i0 : Nat} (hq : v.qs = some i0) (hok : Md.Cv.SOk v.s) (hE : Md.Cv.sE v.s ws true = 0) (hP : Md.Cv.sP v.s ws true = false) (hQ : Md.Cv.sQ v.s ws true n = up n) {s' : Md.Cv.Ss} (hC : Md.Cv.sC v.s ws true = s') {dn : Bool} (hO : Md.Cv.sO v.s ws true = dn) {Q : World → Prop} (HQ : Hid (∀ u, Mid W G0 b z mb mg u x { v with s := s' } ws false (up n) → dn = false → Q u)) (HN : Hid (∀ u, Mid W G0 b z mb mg u x { v with s := s' } ws false (up n) → dn = true → Calls Tryz.prog 214 #[.pointer (some ⟨b, 0, none⟩)] u fun e w' => e = .returned (.tuple #[]) ∧ Q w')) : Calls Tryz.prog 188 #[.pointer (some ⟨b, 0, none⟩), .pointer (some ⟨mb, 0, none⟩)] w fun e w' => e = .returned (.tuple #[]) ∧ Q w' := by
  have HS := Lib.hid (Md.Cv.sstep_any h.mem (h.raw.sc i0 hq) hok)
  rw [hE, hP, hQ, hC, hO] at HS
  have HM : Hid (∀ w', MemAt 116 w' mb mg ws false (up n) → Md.Cv.ScAt w' i0 s' → Md.Cv.Ch3 mb mg i0 w w' → Mid W G0 b z mb mg w' x { v with s := s' } ws false (up n)) := fun w' k1 k2 k3 => h.scans hq k3 k1 k2
  have h16 : w.cell? ⟨b, 16, none⟩ = some (.pointer (some ⟨i0, 0, none⟩)) := (h.cell 16).trans (by show some (ptrV v.qs) = _; rw [hq]; rfl)
  have hb := h.ltB
  clear h hok hE hP hQ hC hO hq
  cases dn
  · have HQ2 := Lib.hid (fun u k => HQ.out u k rfl)
    clear HN HQ
    go_enter Tryz.func188, Tryz.ntmps188
    go_wp2_with (go_at_call 213; refine HS.out.mono ?_; rintro e w1 ⟨rfl, k1, k2, k3⟩; have HR := Lib.hid (HQ2.out _ (HM.out _ k1 k2 k3)); clear k1 k2 k3 HS HM)
    go_end0
    exact ⟨rfl, HR.out⟩
  · have HN2 := Lib.hid (fun u k => HN.out u k rfl)
    clear HN HQ
    go_enter Tryz.func188, Tryz.ntmps188
    go_wp2_with (first
      | (go_at_call 214; refine (HN2.out _ HR.out).mono ?_; rintro e w2 ⟨rfl, k⟩; have HZ := Lib.hid k; clear k HN2)
      | (go_at_call 213; refine HS.out.mono ?_; rintro e w1 ⟨rfl, k1, k2, k3⟩; have HR := Lib.hid (HM.out _ k1 k2 k3); clear k1 k2 k3 HS HM))
    go_end0
    exact ⟨rfl, HZ.out⟩
set_option maxRecDepth 100000 in
set_option maxHeartbeats 1000000 in
/-- a store; behind a cell's last one the next write -/
theorem write_any (h : Mid W G0 b z mb mg w x v ws true n) {i0 : Nat} (hq : v.qw = some i0) (hE : Md.Ce.errW v.t ws true = 0) {ws' : List Int} (hL : Md.Ce.laidW v.t ws true = ws') (hO : Md.Ce.aftO (Md.Ce.errW v.t ws true) true = false) (hN : Md.Ce.aftN (Md.Ce.errW v.t ws true) n = up n) {t' : Md.Ce.Wt} (hC : Md.Ce.stepW v.t ws true = t') {dn : Bool} (hD : Md.Ce.endW v.t ws true = dn) {Q : World → Prop} (HQ : Hid (∀ u, Mid W G0 b z mb mg u x { v with t := t' } ws' false (up n) → dn = false → Q u)) (HN : Hid (∀ u, Mid W G0 b z mb mg u x { v with t := t' } ws' false (up n) → dn = true → Calls Tryz.prog 214 #[.pointer (some ⟨b, 0, none⟩)] u fun e w' => e = .returned (.tuple #[]) ∧ Q w')) : Calls Tryz.prog 229 #[.pointer (some ⟨b, 0, none⟩), .pointer (some ⟨mb, 0, none⟩)] w fun e w' => e = .returned (.tuple #[]) ∧ Q w' := by
  have hne : i0 ≠ mb ∧ i0 ≠ mg := by
    obtain ⟨_, _, h3, _⟩ := h
    exact ⟨fun e => h3 mb (by simp) (e ▸ in_w hq), fun e => h3 mg (by simp) (e ▸ in_w hq)⟩
  have HS := Lib.hid (Md.Ce.wstep_any h.mem (h.raw.wr i0 hq) hne.1 hne.2)
  rw [hO, hN, hL, hC, hD, hE] at HS
  have HM : Hid (∀ w', MemAt 116 w' mb mg ws' false (up n) → Md.Ce.WtAt w' i0 t' → Md.Ce.Ch [mb, mg, i0] w w' → Mid W G0 b z mb mg w' x { v with t := t' } ws' false (up n)) := fun w' k1 k2 k3 => h.writes hq k3 k1 k2
  have h18 : w.cell? ⟨b, 18, none⟩ = some (.pointer (some ⟨i0, 0, none⟩)) := (h.cell 18).trans (by show some (ptrV v.qw) = _; rw [hq]; rfl)
  have hb := h.ltB
  clear h hE hL hO hN hC hD hq hne
  cases dn
  · have HQ2 := Lib.hid (fun u k => HQ.out u k rfl)
    clear HN HQ
    go_enter Tryz.func229, Tryz.ntmps229
    go_wp2_with (go_at_call 238; refine HS.out.mono ?_; rintro e w1 ⟨rfl, k1, k2, k3⟩; have HR := Lib.hid (HQ2.out _ (HM.out _ k1 k2 k3)); clear k1 k2 k3 HS HM)
    go_end0
    exact ⟨rfl, HR.out⟩
  · have HN2 := Lib.hid (fun u k => HN.out u k rfl)
    clear HN HQ
    go_enter Tryz.func229, Tryz.ntmps229
    go_wp2_with (first
      | (go_at_call 214; refine (HN2.out _ HR.out).mono ?_; rintro e w2 ⟨rfl, k⟩; have HZ := Lib.hid k; clear k HN2)
      | (go_at_call 238; refine HS.out.mono ?_; rintro e w1 ⟨rfl, k1, k2, k3⟩; have HR := Lib.hid (HM.out _ k1 k2 k3); clear k1 k2 k3 HS HM))
    go_end0
    exact ⟨rfl, HZ.out⟩
end
end Go.Proofs.YteinilmecnlanaaGreatDoor.Ww
namespace Go.Proofs.YteinilmecnlanaaGreatDoor.Ww
open Go.ChangeShapes Go.WideShapes Go.ChangeAt Go.RowKit Num Rr
attribute [local go_sem] run_store_float Md.Ce.run_store_func Md.Ce.run_store_nilFunc
/-- an updater and the memory that it goes over -/
def Full (W : World) (G0 : List Nat) (b : Nat) (z : Wz) (mb mg : Nat) (w : World) (x : Wx) (ws : List Int) (o : Bool) (n : Int) : Prop := ∃ v, Mid W G0 b z mb mg w x v ws o n ∧ VOk x v
section
variable {W w w' : World} {G0 : List Nat} {b mb mg : Nat} {x : Wx} {z : Wz} {ws : List Int} {o : Bool} {n : Int}
theorem Full.on (h : Full W G0 b z mb mg w x ws o n) (k : Below w.heap.size w w') : Full W G0 b z mb mg w' x ws o n := by
  obtain ⟨v, h, h2⟩ := h
  exact ⟨v, h.on k, h2⟩
theorem Full.same (h : Full W G0 b z mb mg w x ws o n) (k : Same w w') : Full W G0 b z mb mg w' x ws o n := h.on (k.below _)
theorem Full.raw (h : Full W G0 b z mb mg w x ws o n) : ∃ v, RawAt w b x z v ∧ VOk x v := by
  obtain ⟨v, h, h2⟩ := h
  exact ⟨v, h.1, h2⟩
/-- writeNext: the k-th cell is next; at_ its first store -/
theorem wnext_any {v : Wv} (h : Mid W G0 b z mb mg w x v ws o n) (hI : InY x) {k : Nat} (hk : k ≤ x.m.buf.length) (hbg : v.bg = (k : Int)) (hnb : wrap64 v.nb = x.num) : Calls Tryz.prog 214 #[.pointer (some ⟨b, 0, none⟩)] w fun e w' => e = .returned (.tuple #[]) ∧ Full W G0 b z mb mg w' { x with at_ := 3 * k, part := if k = x.m.buf.length then 7 else 6 } ws o n := by
  by_cases e : k = x.m.buf.length
  · rw [if_pos e]
    refine (wnext_end h (by rw [hbg, e])).mono ?_
    rintro r w' ⟨rfl, q⟩
    exact ⟨rfl, _, q.like rfl rfl rfl rfl, ⟨rfl, (fun y => by dsimp only at y; omega), (fun y => by dsimp only at y; omega), (fun y => by dsimp only at y; omega), hnb⟩⟩
  · rw [if_neg e]
    refine (wnext_more h hI (by omega) hbg).mono ?_
    rintro r w' ⟨rfl, q⟩
    obtain ⟨i, q⟩ := q.out
    refine ⟨rfl, _, q.like rfl rfl rfl rfl, ⟨rfl, (fun y => by dsimp only at y; omega), (fun y => by dsimp only at y; omega), fun _ => ⟨⟨i, rfl⟩, ?_, ?_⟩, hnb⟩⟩
    · dsimp only
      rw [show 3 * k / 3 = k by omega]
      rfl
    · dsimp only
      rw [show 3 * k / 3 = k by omega, show 3 * k % 3 = 0 by omega]
      rfl
theorem VOk.of {v v' : Wv} {x x' : Wx} (h : VOk x v) (h4 : x.part ≤ 4) (h4' : x'.part ≤ 4) (hn : v'.nx = nextV x'.part) (hb : v'.bg = v.bg) (hnb : v'.nb = v.nb) (hnum : x'.num = x.num) : VOk x' v' :=
  ⟨hn, (fun y => by omega), (fun _ => by rw [hb]; exact h.b5 (by omega)), (fun y => by omega), by rw [hnb, hnum]; exact h.nb⟩
theorem part1_any (h : Full W G0 b z mb mg w x ws true n) (hI : InY x) (hp : x.part = 1) (hl : plY x ≤ (ws.length : Int)) : Calls Tryz.prog 70 #[.pointer (some ⟨b, 0, none⟩), .pointer (some ⟨mb, 0, none⟩)] w fun e w' => e = .returned (.tuple #[]) ∧ Full W G0 b z mb mg w' { x with tick := wordAt ws 0, part := 2 } (ws.set 0 (Md.Cv.passV (wordAt ws 0))) false (up n) := by
  obtain ⟨v, h, hv⟩ := h
  have hb := hI.cb
  have ha := hI.ca
  unfold plY at hl
  refine (draw_any h (by omega)).mono ?_
  rintro r w' ⟨rfl, q⟩
  exact ⟨rfl, _, q, hv.of (by omega) (by show 2 ≤ 4; omega) rfl rfl rfl rfl⟩
theorem part2_any (h : Full W G0 b z mb mg w x ws true n) (hI : InY x) (hp : x.part = 2) (hl : plY x ≤ (ws.length : Int)) : Calls Tryz.prog 100 #[.pointer (some ⟨b, 0, none⟩), .pointer (some ⟨mb, 0, none⟩)] w fun e w' => e = .returned (.tuple #[]) ∧ Full W G0 b z mb mg w' (if wordAt ws 1 = x.tick then { x with part := 3 } else x) ws false (up n) := by
  obtain ⟨v, h, hv⟩ := h
  have hb := hI.cb
  have ha := hI.ca
  unfold plY at hl
  by_cases e : wordAt ws 1 = x.tick
  · rw [if_pos e]
    refine (wait_any h (by omega) (decide_eq_true e)).mono ?_
    rintro r w' ⟨rfl, q⟩
    exact ⟨rfl, _, q, hv.of (by omega) (by show 3 ≤ 4; omega) rfl rfl rfl rfl⟩
  · rw [if_neg e]
    refine (wait_any h (by omega) (decide_eq_false e)).mono ?_
    rintro r w' ⟨rfl, q⟩
    exact ⟨rfl, _, q, hv⟩
theorem part3_any (h : Full W G0 b z mb mg w x ws true n) (hI : InY x) (hp : x.part = 3) (hl : plY x ≤ (ws.length : Int)) : Calls Tryz.prog 117 #[.pointer (some ⟨b, 0, none⟩), .pointer (some ⟨mb, 0, none⟩)] w fun e w' => e = .returned (.tuple #[]) ∧ Full W G0 b z mb mg w' { x with stamp := wordAt ws 2, part := 4 } ws false (up n) := by
  obtain ⟨v, h, hv⟩ := h
  have hb := hI.cb
  have ha := hI.ca
  unfold plY at hl
  refine (mark_any h (by omega)).mono ?_
  rintro r w' ⟨rfl, q⟩
  exact ⟨rfl, _, q, hv.of (by omega) (by show 4 ≤ 4; omega) rfl rfl rfl rfl⟩
/-- where a machine asks for a cell, the cell is one of its own -/
theorem ask_cell (hI : InY x) (hp : x.part = 4) (hk : (stepM x.m).2.kind = 1 ∨ (stepM x.m).2.kind = 3) : 0 ≤ (stepM x.m).2.cell ∧ (stepM x.m).2.cell < x.a := by
  have h0 := hI.run (by omega)
  have hR := hI.rest
  obtain ⟨lk, tr⟩ := step_turns hR.inv hR.nw h0
  have hb := step_bufs hR.inv hR.nw h0
  have hc := hI.cel
  rcases hk with hk | hk
  · rcases tr with ⟨k4, _⟩ | ⟨_, e1, e2, e3, e4⟩ | ⟨k0, _⟩
    · omega
    · have hw := (inv_step hR.inv).wait
      have := lk.cells
      omega
    · omega
  · have := rest_step hR (by omega)
    rcases hb with ⟨q, _⟩ | ⟨q, _⟩ | ⟨q, _⟩ | ⟨q, _⟩ | ⟨_, e, f, _⟩
    · omega
    · omega
    · omega
    · omega
    · have m : (stepM x.m).2.cell ∈ cellsOfL (stepM x.m).1.buf := by
        rw [e]
        exact hasC_mem.1 (by rw [hasC_put]; simp)
      obtain ⟨t, ht, et⟩ := List.mem_map.1 m
      have := this.cel t ht
      have := lk.cells
      omega
theorem part4_any (h : Full W G0 b z mb mg w x ws true n) (hT : TabAt W G0) (hI : InY x) (hp : x.part = 4) (hl : plY x ≤ (ws.length : Int)) : Calls Tryz.prog 142 #[.pointer (some ⟨b, 0, none⟩), .pointer (some ⟨mb, 0, none⟩)] w fun e w' => e = .returned (.tuple #[]) ∧ Full W G0 b z mb mg w' (runY x ws).1 ws (!(runY x ws).2) (if (runY x ws).2 then up n else n) := by
  obtain ⟨v, h, hv⟩ := h
  have hR := hI.rest
  have hfew : x.was.length ≤ 1000 := by rw [hI.wlen]; have h1 := hR.inv.few; have h2 := hR.inv.wmax; omega
  unfold runY
  by_cases k1 : (stepM x.m).2.kind = 1
  · rw [if_pos k1]
    have hc := ask_cell hI hp (.inl k1)
    refine (run_read h hT hR.inv (inv_step hR.inv) hI.ca hI.cb hl rfl rfl k1 hc.1 hc.2 rfl).mono ?_
    rintro r w' ⟨rfl, q⟩
    obtain ⟨F, q⟩ := q.out
    exact ⟨rfl, _, q, hv.of (by omega) (by show x.part ≤ 4; omega) hv.nx rfl rfl rfl⟩
  · rw [if_neg k1]
    by_cases k3 : (stepM x.m).2.kind = 3 ∧ (stepM x.m).2.first = true
    · rw [if_pos k3]
      have hc := ask_cell hI hp (.inr k3.1)
      refine (run_first h hT hR.inv hI.ca hI.cb hl hfew rfl rfl k3.1 k3.2 hc.1 hc.2 rfl).mono ?_
      rintro r w' ⟨rfl, q⟩
      obtain ⟨F, p', c', q⟩ := q.out
      exact ⟨rfl, _, q, hv.of (by omega) (by show x.part ≤ 4; omega) hv.nx rfl rfl rfl⟩
    · rw [if_neg k3]
      by_cases k4 : (stepM x.m).2.kind = 4
      · rw [if_pos k4]
        refine run_end h hT hR.inv rfl rfl k4 (Q := fun w' => Full W G0 b z mb mg w' _ ws true n) (Lib.hid fun u F hu => ?_)
        by_cases hh : (stepM x.m).1.how = 1
        · rw [if_pos hh]
          refine (wend_yes hu (by simp [hh])).mono ?_
          rintro r w' ⟨rfl, q⟩
          obtain ⟨i, q⟩ := q.out
          refine ⟨rfl, _, q, ⟨rfl, fun _ => ⟨⟨i, rfl⟩, rfl, rfl, rfl, ?_⟩, fun _ => hv.b5 (by omega), (fun y => by dsimp only at y; omega), hv.nb⟩⟩
          show (0 : Int) = (x.at_ : Int)
          rw [hI.at4 (by omega)]
          rfl
        · rw [if_neg hh]
          refine (wend_no hu (by simp [hh])).mono ?_
          rintro r w' ⟨rfl, q⟩
          exact ⟨rfl, _, q, ⟨rfl, (fun y => by dsimp only at y; omega), (fun y => by dsimp only at y; omega), (fun y => by dsimp only at y; omega), hv.nb⟩⟩
      · rw [if_neg k4]
        refine (run_go h hT hR.inv rfl rfl (by simpa using k1) ?_ (by simpa using k4)).mono ?_
        · by_cases q3 : (stepM x.m).2.kind = 3
          · refine .inr ⟨by simpa using q3, ?_⟩
            cases hf : (stepM x.m).2.first with
            | false => rfl
            | true => exact absurd ⟨q3, hf⟩ k3
          · exact .inl (by simpa using q3)
        · rintro r w' ⟨rfl, q⟩
          obtain ⟨F, q⟩ := q.out
          exact ⟨rfl, _, q, hv.of (by omega) (by show x.part ≤ 4; omega) hv.nx rfl rfl rfl⟩
theorem part5_any (h : Full W G0 b z mb mg w x ws true n) (hI : InY x) (hp : x.part = 5) (hl : plY x ≤ (ws.length : Int)) : Calls Tryz.prog 188 #[.pointer (some ⟨b, 0, none⟩), .pointer (some ⟨mb, 0, none⟩)] w fun e w' => e = .returned (.tuple #[]) ∧ Full W G0 b z mb mg w' (scanY x ws) ws false (up n) := by
  obtain ⟨v, h, hv⟩ := h
  obtain ⟨⟨i0, hq⟩, e1, e2, e3, e4⟩ := hv.s5 hp
  obtain ⟨g1, g2, g3, g4, g5, g6, g7⟩ := scan_rel (ws := ws) hI hp hl e1 e2 e3 e4 n
  cases hL : letsY x ws with
  | false =>
    refine scan_any h hq g4 g1 g2 g3 (g7 hL) (dn := false) (by rw [g5, hL]; rfl) (Lib.hid fun u k _ => ?_) (Lib.hid fun u k y => by cases y)
    rw [scanY_no hL]
    exact ⟨_, k, ⟨hv.nx, fun _ => ⟨⟨i0, hq⟩, rfl, rfl, rfl, rfl⟩, hv.b5, (fun y => by omega), hv.nb⟩⟩
  | true =>
    by_cases hb : ((x.at_ + 1 : Nat) : Int) = x.b
    · refine scan_any h hq g4 g1 g2 g3 (g6 hL) (dn := true) (by rw [g5, hL]; exact decide_eq_true hb) (Lib.hid fun u k y => by cases y) (Lib.hid fun u k _ => ?_)
      rw [scanY_end hL hb]
      have := wnext_any k hI (k := 0) (Nat.zero_le _) (hv.b5 (by omega)) hv.nb
      have e : (if x.m.buf.length = 0 then 7 else 6) = (if 0 = x.m.buf.length then 7 else 6) := by
        by_cases q : x.m.buf.length = 0
        · rw [if_pos q, if_pos q.symm]
        · rw [if_neg q, if_neg (fun y => q y.symm)]
      rw [e]
      exact this
    · refine scan_any h hq g4 g1 g2 g3 (g6 hL) (dn := false) (by rw [g5, hL]; exact decide_eq_false hb) (Lib.hid fun u k _ => ?_) (Lib.hid fun u k y => by cases y)
      rw [scanY_on hL hb]
      exact ⟨_, k.like rfl rfl rfl rfl, ⟨hv.nx, fun _ => ⟨⟨i0, hq⟩, rfl, rfl, rfl, rfl⟩, hv.b5, (fun y => by dsimp only at y; omega), hv.nb⟩⟩
theorem part6_any (h : Full W G0 b z mb mg w x ws true n) (hI : InY x) (hp : x.part = 6) (hl : plY x ≤ (ws.length : Int)) : Calls Tryz.prog 229 #[.pointer (some ⟨b, 0, none⟩), .pointer (some ⟨mb, 0, none⟩)] w fun e w' => e = .returned (.tuple #[]) ∧ Full W G0 b z mb mg w' (backY x) (backW x ws) false (up n) := by
  obtain ⟨v, h, hv⟩ := h
  obtain ⟨⟨i0, hq⟩, e1, e2⟩ := hv.w6 hp
  have h6 := hI.at6 hp
  obtain ⟨g1, g2, g3, g4, g5, g6⟩ := write_rel (ws := ws) hI hp hl n
  rw [← e2] at g1 g2 g3 g4 g5 g6
  unfold backY
  by_cases d : x.at_ % 3 = 2
  · refine write_any h hq g1 g2 g5 g6 g3 (dn := true) (by rw [g4]; exact decide_eq_true d) (Lib.hid fun u k y => by cases y) (Lib.hid fun u k _ => ?_)
    have := wnext_any k hI (k := x.at_ / 3 + 1) (by omega) e1 hv.nb
    rw [show 3 * (x.at_ / 3 + 1) = x.at_ + 1 by omega] at this
    have e : (if x.at_ + 1 = 3 * x.m.buf.length then 7 else 6) = (if x.at_ / 3 + 1 = x.m.buf.length then 7 else 6) := by
      by_cases q : x.at_ + 1 = 3 * x.m.buf.length
      · rw [if_pos q, if_pos (by omega)]
      · rw [if_neg q, if_neg (by omega)]
    rw [e]
    exact this
  · refine write_any h hq g1 g2 g5 g6 g3 (dn := false) (by rw [g4]; exact decide_eq_false d) (Lib.hid fun u k _ => ?_) (Lib.hid fun u k y => by cases y)
    rw [if_neg (by omega)]
    have a1 : (x.at_ + 1) / 3 = x.at_ / 3 := by omega
    have a2 : (x.at_ + 1) % 3 = x.at_ % 3 + 1 := by omega
    refine ⟨_, k.like (by unfold boxY; dsimp only; rw [hp]) rfl rfl rfl, ⟨by rw [hv.nx, hp], (fun y => by dsimp only at y; omega), (fun y => by dsimp only at y; omega), fun _ => ⟨⟨i0, hq⟩, ?_, ?_⟩, hv.nb⟩⟩
    · dsimp only
      rw [a1]
      exact e1
    · dsimp only
      rw [a1, a2]
      rfl
theorem part7_any (h : Full W G0 b z mb mg w x ws true n) (hI : InY x) (hl : plY x ≤ (ws.length : Int)) : Calls Tryz.prog 226 #[.pointer (some ⟨b, 0, none⟩), .pointer (some ⟨mb, 0, none⟩)] w fun e w' => e = .returned (.tuple #[]) ∧ Full W G0 b z mb mg w' { x with num := wrap64 (Md.Cv.passV x.stamp), part := 8 } (ws.set 2 (Md.Cv.passV x.stamp)) false (up n) := by
  obtain ⟨v, h, hv⟩ := h
  have hb := hI.cb
  have ha := hI.ca
  unfold plY at hl
  refine (publish_any h (by omega)).mono ?_
  rintro r w' ⟨rfl, q⟩
  exact ⟨rfl, _, q.like rfl rfl rfl rfl, ⟨rfl, (fun y => by dsimp only at y; omega), (fun y => by dsimp only at y; omega), (fun y => by dsimp only at y; omega), rfl⟩⟩
theorem part8_any (h : Full W G0 b z mb mg w x ws true n) (hI : InY x) (hl : plY x ≤ (ws.length : Int)) : Calls Tryz.prog 186 #[.pointer (some ⟨b, 0, none⟩), .pointer (some ⟨mb, 0, none⟩)] w fun e w' => e = .returned (.tuple #[]) ∧ Full W G0 b z mb mg w' { x with part := 9 } (ws.set 1 (Md.Cv.passV x.tick)) false (up n) := by
  obtain ⟨v, h, hv⟩ := h
  have hb := hI.cb
  have ha := hI.ca
  unfold plY at hl
  refine (pass_any h (by omega)).mono ?_
  rintro r w' ⟨rfl, q⟩
  exact ⟨rfl, _, q, ⟨rfl, (fun y => by dsimp only at y; omega), (fun y => by dsimp only at y; omega), (fun y => by dsimp only at y; omega), hv.nb⟩⟩
/-- any part -/
theorem part_any (h : Full W G0 b z mb mg w x ws true n) (hT : TabAt W G0) (hI : InY x) (hp : x.part ≠ 9) (hl : plY x ≤ (ws.length : Int)) {y : Wx} {ws' : List Int} {ac : Bool} (hy : stepY0 x ws = (y, ws', ac)) : Calls Tryz.prog (partF x.part) #[.pointer (some ⟨b, 0, none⟩), .pointer (some ⟨mb, 0, none⟩)] w fun e w' => e = .returned (.tuple #[]) ∧ Full W G0 b z mb mg w' y ws' (!ac) (if ac then up n else n) := by
  have hP := hI.part
  unfold stepY0 at hy
  rcases (by omega : x.part = 1 ∨ x.part = 2 ∨ x.part = 3 ∨ x.part = 4 ∨ x.part = 5 ∨ x.part = 6 ∨ x.part = 7 ∨ x.part = 8) with e | e | e | e | e | e | e | e
  · rw [if_pos e] at hy
    cases hy
    rw [e]
    exact part1_any h hI e hl
  · rw [if_neg (by omega), if_pos e] at hy
    cases hy
    rw [e]
    exact part2_any h hI e hl
  · rw [if_neg (by omega), if_neg (by omega), if_pos e] at hy
    cases hy
    rw [e]
    exact part3_any h hI e hl
  · rw [if_neg (by omega), if_neg (by omega), if_neg (by omega), if_pos e] at hy
    cases hy
    rw [e]
    exact part4_any h hT hI e hl
  · rw [if_neg (by omega), if_neg (by omega), if_neg (by omega), if_neg (by omega), if_pos e] at hy
    cases hy
    rw [e]
    exact part5_any h hI e hl
  · rw [if_neg (by omega), if_neg (by omega), if_neg (by omega), if_neg (by omega), if_neg (by omega), if_pos e] at hy
    cases hy
    rw [e]
    exact part6_any h hI e hl
  · rw [if_neg (by omega), if_neg (by omega), if_neg (by omega), if_neg (by omega), if_neg (by omega), if_neg (by omega), if_pos e] at hy
    cases hy
    rw [e]
    exact part7_any h hI hl
  · rw [if_neg (by omega), if_neg (by omega), if_neg (by omega), if_neg (by omega), if_neg (by omega), if_neg (by omega), if_neg (by omega)] at hy
    cases hy
    rw [e]
    exact part8_any h hI hl
end
section
variable {W w : World} {G0 : List Nat} {b mb mg : Nat} {x : Wx} {z : Wz} {v : Wv} {ws : List Int} {o : Bool} {n : Int}
/-- Step's first look -/
theorem Mid.lens (h : Mid W G0 b z mb mg w x v ws o n) : w.cell? ⟨b, 5, none⟩ = some (.int .i64 (plY x)) := (h.cell 5).trans rfl
set_option maxRecDepth 100000 in
theorem step_place (h : Full W G0 b z mb mg w x ws o n) (hl : ¬ plY x ≤ (ws.length : Int)) : Calls Tryz.prog 14 #[.pointer (some ⟨b, 0, none⟩), .pointer (some ⟨mb, 0, none⟩)] w fun e w' => e = .returned (.tuple #[.bool false, .int .i64 30]) ∧ Same w w' := by
  obtain ⟨v, h, hv⟩ := h
  have h5 := h.lens
  have hb := h.ltB
  have HL := Lib.hid (Md.len_any h.drew.mem)
  generalize plY x = pl at h5 hl
  have hlt : (ws.length : Int) < pl := by omega
  clear h hl hv
  go_enter Tryz.func14, Tryz.ntmps14
  go_wp2_with fail
  refine wp_region_seq (fun u => u.cell? ⟨b, 5, none⟩ = some (.int .i64 pl) )  ((0, true) :: (2, true) :: (3, true) :: (4, true) :: (5, true) :: (6, true) :: (1, false) :: (7, true) :: [])  Md.Cv.follows13 (by kernel_rfl) (fun _ _ _ _ _ h => h)  h5 ?_
  (repeat (first | (refine wpSeq_take (v := ?_) rfl (by rfl) (fun wq hSq => ?_) ?_; rotate_left; (focus ((try dsimp only at hSq); go_simp; try with_reducible rfl)); simp only [Act.put, List.setIfInBounds_toArray, List.set_cons_zero, List.set_cons_succ]) | (refine wpSeq_skip rfl (by rfl) ?_; simp only [Act.put, List.setIfInBounds_toArray, List.set_cons_zero, List.set_cons_succ])))
  (refine wpSeq_do rfl (by rfl) (fun KK hK => ?_); go_simp)
  refine HL.out.mono ?_
  rintro e w1 ⟨rfl, hw⟩
  subst w1
  refine hK.out _ _ h5 ?_
  (clear hK KK; try simp only [Act.put, List.setIfInBounds_toArray, List.set_cons_zero, List.set_cons_succ])
  (repeat (first | (refine wpSeq_take (v := ?_) rfl (by rfl) (fun wq hSq => ?_) ?_; rotate_left; (focus ((try dsimp only at hSq); go_simp; try with_reducible rfl)); simp only [Act.put, List.setIfInBounds_toArray, List.set_cons_zero, List.set_cons_succ]) | (refine wpSeq_skip rfl (by rfl) ?_; simp only [Act.put, List.setIfInBounds_toArray, List.set_cons_zero, List.set_cons_succ])))
  refine wpSeq_nil ?_
  go_wp2_with fail
  go_ret2
  exact ⟨rfl, Same.drew _⟩
set_option maxRecDepth 100000 in
set_option maxHeartbeats 1000000 in
/-- Step -/
theorem step_any (h : Full W G0 b z mb mg w x ws o n) (hT : TabAt W G0) (hI : InY x) (hp : x.part ≠ 9) (hl : plY x ≤ (ws.length : Int)) (h0 : 0 ≤ x.steps) (h1 : x.steps ≤ 1000000) {y : Wx} {ws' : List Int} {ac : Bool} (hy : stepY x ws = (y, ws', ac)) :
    Calls Tryz.prog 14 #[.pointer (some ⟨b, 0, none⟩), .pointer (some ⟨mb, 0, none⟩)] w fun e w' => e = .returned (.tuple #[.bool (decide ((y.part : Int) = 9)), .int .i64 0]) ∧ Full W G0 b z mb mg w' y ws' (!ac) (if ac then up n else n) := by
  obtain ⟨v, h, hv⟩ := h
  have h5 := h.lens
  have hb := h.ltB
  have HL := Lib.hid (Md.len_any h.drew.mem)
  have HO := Lib.hid (over_raw h.drew.raw hv.nx)
  rw [decide_eq_false (by omega)] at HO
  have HOP : Hid (Calls Tryz.prog 40 #[.pointer (some ⟨mb, 0, none⟩)] w.drew fun e w' => e = .returned (.tuple #[]) ∧ MemAt 116 w' mb mg ws true n ∧ Chg mb mg w.drew w') := Md.open_any h.drew.mem
  have HM : Hid (∀ w', MemAt 116 w' mb mg ws true n → Chg mb mg w.drew w' → Mid W G0 b z mb mg w' x v ws true n) := fun w' k1 k2 => h.drew.memb k2 k1
  have HP : Hid (∀ w', Mid W G0 b z mb mg w' x v ws true n → Full W G0 b z mb mg (w'.setCell ⟨b, 10, none⟩ (.int .i64 (x.steps + 1))) (tickY x) ws true n) := fun w' k => ⟨v, k.put 10 _ (tickY x) v rfl ⟨rfl, rfl, rfl⟩ ⟨rfl, rfl, rfl, rfl, rfl, rfl, rfl⟩, hv.tick⟩
  obtain ⟨ff, hff⟩ : ∃ ff, partF x.part = ff := ⟨_, rfl⟩
  have hcall := part_enter x.part
  have h12 : Hid (∀ w', Mid W G0 b z mb mg w' x v ws true n → (w'.setCell ⟨b, 10, none⟩ (.int .i64 (x.steps + 1))).cell? ⟨b, 12, none⟩ = some (.func (.func ff) #[] #[]) ∧ w'.cell? ⟨b, 10, none⟩ = some (.int .i64 x.steps) ∧ w'.frozen? ⟨b, 10, none⟩ = false ∧ b < w'.heap.size) := fun w' k => by
    have q := k.put 10 (.int .i64 (x.steps + 1)) (tickY x) v rfl ⟨rfl, rfl, rfl⟩ ⟨rfl, rfl, rfl, rfl, rfl, rfl, rfl⟩
    refine ⟨(q.cell 12).trans ?_, (k.cell 10).trans rfl, k.free 10, k.ltB⟩
    show some v.nx = _
    rw [hv.nx, nextV_ne hp, hff]
    rfl
  have HF : Hid (∀ w', Full W G0 b z mb mg w' (tickY x) ws true n → Calls Tryz.prog ff #[.pointer (some ⟨b, 0, none⟩), .pointer (some ⟨mb, 0, none⟩)] w' fun e w2 => e = .returned (.tuple #[]) ∧ Full W G0 b z mb mg w2 y ws' (!ac) (if ac then up n else n)) := fun w' k => by
    have := part_any k hT hI.tick hp hl hy
    rw [show partF (tickY x).part = ff from hff] at this
    exact this
  have HZ : Hid (∀ w', Full W G0 b z mb mg w' y ws' (!ac) (if ac then up n else n) → Calls Tryz.prog 39 #[.pointer (some ⟨b, 0, none⟩)] w' fun e w2 => e = .returned (.bool (decide ((y.part : Int) = 9))) ∧ w2 = w') := fun w' k => by
    obtain ⟨v', k, kv⟩ := k.raw
    exact over_raw k kv.nx
  obtain ⟨o', ho⟩ : ∃ o', o' = !ac := ⟨_, rfl⟩
  obtain ⟨n', hn⟩ : ∃ n', n' = if ac then up n else n := ⟨_, rfl⟩
  rw [← ho, ← hn] at HF HZ ⊢
  rw [hff] at hcall
  generalize plY x = pl at h5 hl
  have hlt : ¬ (ws.length : Int) < pl := by omega
  clear h hl hv hp hy hT hI hff ho hn
  go_enter Tryz.func14, Tryz.ntmps14
  go_wp2_with fail
  refine wp_region_seq (fun u => u.cell? ⟨b, 5, none⟩ = some (.int .i64 pl) )  ((0, true) :: (2, true) :: (3, true) :: (4, true) :: (5, true) :: (6, true) :: (1, false) :: (7, true) :: [])  Md.Cv.follows13 (by kernel_rfl) (fun _ _ _ _ _ h => h)  h5 ?_
  (repeat (first | (refine wpSeq_take (v := ?_) rfl (by rfl) (fun wq hSq => ?_) ?_; rotate_left; (focus ((try dsimp only at hSq); go_simp; try with_reducible rfl)); simp only [Act.put, List.setIfInBounds_toArray, List.set_cons_zero, List.set_cons_succ]) | (refine wpSeq_skip rfl (by rfl) ?_; simp only [Act.put, List.setIfInBounds_toArray, List.set_cons_zero, List.set_cons_succ])))
  (refine wpSeq_do rfl (by rfl) (fun KK hK => ?_); go_simp)
  refine HL.out.mono ?_
  rintro e w1 ⟨rfl, hw⟩
  subst w1
  refine hK.out _ _ h5 ?_
  (clear hK KK; try simp only [Act.put, List.setIfInBounds_toArray, List.set_cons_zero, List.set_cons_succ])
  (repeat (first | (refine wpSeq_take (v := ?_) rfl (by rfl) (fun wq hSq => ?_) ?_; rotate_left; (focus ((try dsimp only at hSq); go_simp; try with_reducible rfl)); simp only [Act.put, List.setIfInBounds_toArray, List.set_cons_zero, List.set_cons_succ]) | (refine wpSeq_skip rfl (by rfl) ?_; simp only [Act.put, List.setIfInBounds_toArray, List.set_cons_zero, List.set_cons_succ])))
  refine wpSeq_nil ?_
  go_wp2_with (first
    | (go_at_call 39; refine (HZ.out _ H4.out).mono ?_; rintro e w5 ⟨rfl, hw⟩; subst w5; clear HZ)
    | (go_at_call 39; refine HO.out.mono ?_; rintro e w2 ⟨rfl, hw⟩; subst w2; clear HO)
    | (go_at_call 40; refine HOP.out.mono ?_; rintro e w3 ⟨rfl, k1, k2⟩; have H3 := Lib.hid (HM.out _ k1 k2); obtain ⟨e12, e10, f10, l10⟩ := h12.out _ H3.out; clear k1 k2 HOP HM h12)
    | (refine (HF.out _ (HP.out _ H3.out)).mono ?_; rintro e w4 ⟨rfl, k⟩; have H4 := Lib.hid k; clear k HF HP H3))
  go_ret2
  exact ⟨rfl, H4.out⟩
end
end Go.Proofs.YteinilmecnlanaaGreatDoor.Ww
