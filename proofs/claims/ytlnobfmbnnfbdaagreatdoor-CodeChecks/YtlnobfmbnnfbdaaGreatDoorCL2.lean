import Derived.Test.YtlnobfmbnnfbdaaGreatDoorCL
import Derived.Deep.Slices
import Derived.Carry
namespace Go.Proofs.YtlnobfmbnnfbdaaGreatDoor
open Go.ChangeShapes Go.WideShapes Go.ChangeAt Go.RowKit Go.Deep

theorem laidOut : laidOutB Tryz.prog = true := by kernel_rfl
section
variable {H : Type} {enc : TypeId × Value → H}
/-- the wrap with a condition of one's own beside the shape of the world -/
theorem wrap5 {a : Assume} {C : Checked} {os : Os} {f : FuncId} {fn : Func} {s : ChangeSpec} {conds : List PathCond} {apart fresh handsOn again : Bool} {X : World → Array Value → Prop}
    (hX : ∀ (w w' : World) (args : Array Value), w.heap = w'.heap → X w args → X w' args)
    (own : ownKnob C.prog.godebug = none) (started : os.Started) (noInit : C.prog.inits.idxOf? f = none) (hfn : C.prog.funcs[f]? = some fn)
    (witness : ∃ (w : World) (tape : Tape) (i : Input), w.os = os ∧ (w.forCall tape i).Shaped C.prog ∧ i.vars = [] ∧ Input.okWide C.prog (w.forCall tape i) .any w.heap.size f i ∧
      ((s.pre enc C.prog fn conds apart (w.forCall tape i).memory i.args ∧ X (w.forCall tape i).memory i.args) ∧ sizedMet enc C.prog fn (OpenSpec.ofChange s) apart (w.forCall tape i).memory i.args) ∧ a.holds C.prog (lone (Frame.enter C.prog f i.args .normal) [] (w.forCall tape i)))
    (contract : ∀ (W : World) (base : Nat) (args : Array Value) (ds gs : List (DataW H)) (before : List MemPlace),
      (∀ (j : Nat) t v, fn.params[j]? = some t → args[j]? = some v → Value.okWide C.prog W .any base t v) →
      DataW.Whole enc C.prog fn.params.toList s.vars apart W args.toList ds gs before →
      (DataW.weightsEach C.prog (fn.params.toList ++ s.plain.varTypes C.prog) (ds ++ gs)).all (· ≤ reachBytes) = true → X W args → W.ShapedOpen C.prog →
      Calls C.prog f args W fun e W' => ∃ v, e = .returned v ∧ s.post enc C.prog fn apart fresh handsOn again W args v W') :
    ReturnsInHanded a C os f .any (fun w args => (s.pre enc C.prog fn conds apart w args ∧ X w args) ∧ sizedMet enc C.prog fn (OpenSpec.ofChange s) apart w args) (s.post enc C.prog fn apart fresh handsOn again) := by
  refine returnsInHanded_of_calls own started noInit witness fun w tape i _ hsh _ hok hpre _ => ?_
  obtain ⟨_, _, _, fn', hfn', _, _, _, _, hval⟩ := hok
  obtain rfl : fn' = fn := Option.some.inj (hfn'.symm.trans hfn)
  obtain ⟨⟨⟨ds, gs, before, hw, _⟩, hx⟩, hz⟩ := hpre
  exact (contract (w.forCall tape i) w.heap.size i.args ds gs before hval (DataW.Whole.of_heap (w' := w.forCall tape i) (by rfl) hw) (hz.weights hw) (hX _ _ _ (by rfl) hx) hsh).mono fun e W' ⟨v, he, hp⟩ => by
    subst he
    exact ChangeSpec.post_blind hp
theorem wf_f64 {b : Nat} (h : (Lit.float .f64 b).wf = true) : b < 18446744073709551616 := by simpa [Lit.wf] using h
theorem trod_f64w {P : Program} {t : TypeId} {w : World} {base : Nat} {sp : Nat → Bool} {held : Bool} {fuel : Nat} {cs : List Value} {x : DataW H × List MemPlace} (ht : P.underlying t = some (.float .f64)) (h : DataW.trod enc P w base sp held fuel t cs = some x) : ∃ b : Nat, cs = [.float .f64 b] ∧ (Lit.float .f64 b).wf = true := by
  cases fuel with
  | zero => simp [DataW.trod] at h
  | succ n =>
    unfold DataW.trod at h
    rw [ht] at h
    split at h <;> simp_all
theorem trod_f64 {w : World} {base : Nat} {sp : Nat → Bool} {held : Bool} {fuel : Nat} {cs : List Value} {x : DataW H × List MemPlace} (h : DataW.trod enc Tryz.prog w base sp held fuel 40 cs = some x) : ∃ b : Nat, cs = [.float .f64 b] ∧ b < 18446744073709551616 := by
  obtain ⟨b, h1, h2⟩ := trod_f64w Tryz.underlying40 h
  exact ⟨b, h1, wf_f64 h2⟩
set_option maxRecDepth 100000 in
theorem open_prog {W : World} {base : Nat} {v : Value} {d : DataW H} {ps : List MemPlace} (hval : Value.okWide Tryz.prog W .any base 24 v) (h : DataW.Trod enc Tryz.prog W 0 (fun _ => true) true 24 v d ps) :
    ∃ (t : Int) (ao : Option Addr) (c : List Ins) (cap : Nat), v = progV t ao c.length cap ∧ (c.length ≤ cap ∧ cap ≤ maxLen ∧ ∀ i ∈ c, i.x < 18446744073709551616) ∧ CodeAt W ao c := by
  have cellsP : Tryz.prog.cellsOf 24 = 2 := by kernel_rfl
  have cellsI : Tryz.prog.cellsOf 3 = 1 := by kernel_rfl
  have cellsF : Tryz.prog.cellsOf 40 = 1 := by kernel_rfl
  have cellsS : Tryz.prog.cellsOf 22 = 1 := by kernel_rfl
  have cellsO : Tryz.prog.cellsOf 42 = 3 := by kernel_rfl
  obtain ⟨cs, rfl, hsz⟩ := okWide_struct Tryz.underlying24 hval
  rw [cellsP] at hsz
  obtain ⟨l⟩ := cs
  match l, hsz with
  | [c0, c1], _ =>
    obtain ⟨fuel, hf⟩ := h
    obtain ⟨xs, n, _, _, _, hlen, hg⟩ := DataW.trod_struct Tryz.underlying24 hf
    match xs, hlen with
    | [y0, y1], _ =>
      have g0 := hg 0 _ rfl
      have g1 := hg 1 _ rfl
      simp [cellsI, cellsS, Value.cells] at g0 g1
      obtain ⟨t, e0, _, _⟩ := DataW.trod_int Tryz.underlying3 g0
      simp at e0
      subst e0
      rcases open_slice Tryz.underlying22 g1 with ⟨hcs, _⟩ | ⟨a, len, cap, m, n, D, Pl, hcs, _, hl, hm, hmm, _, hx⟩
      · simp at hcs
        subst hcs
        exact ⟨t, none, [], 0, rfl, ⟨Nat.le_refl _, Nat.zero_le _, fun i hi => by cases hi⟩, fun i hi => absurd hi (Nat.not_lt_zero i)⟩
      · simp at hcs
        subst hcs
        simp only [if_true] at hmm
        obtain ⟨b, off, spot⟩ := a
        have hs : 0 < len → spot = none := by
          intro h0
          obtain ⟨cs', h1, _⟩ := hx 0 (by omega)
          rw [cellsO] at h1
          obtain ⟨_, hlen, hcell⟩ := World.cells?_some h1
          match cs', hlen with
          | [c0, c1, c2], _ =>
            have f0 := hcell 0 (by omega)
            simpa [Addr.add] using World.cell?_spot f0
        have each : ∀ i, i < len → ∃ q : Ins, spot = none ∧ b < W.heap.size ∧ q.x < 18446744073709551616 ∧ W.cell? ⟨b, off + i * 3, none⟩ = some (.int .i64 q.op) ∧ W.cell? ⟨b, off + i * 3 + 1, none⟩ = some (.int .i64 q.n) ∧ W.cell? ⟨b, off + i * 3 + 2, none⟩ = some (.float .f64 q.x) := by
          intro i hi
          obtain ⟨cs', h1, h2⟩ := hx i (by omega)
          rw [cellsO] at h1
          obtain ⟨_, hlen, hcell⟩ := World.cells?_some h1
          obtain ⟨xs, k, _, _, _, hxl, hg⟩ := DataW.trod_struct Tryz.underlying42 h2
          match xs, hxl, cs', hlen with
          | [y0, y1, y2], _, [c0, c1, c2], _ =>
            have g0 := hg 0 _ rfl
            have g1 := hg 1 _ rfl
            have g2 := hg 2 _ rfl
            simp [cellsI, cellsF] at g0 g1 g2
            obtain ⟨x0, e0, _, _⟩ := DataW.trod_int Tryz.underlying3 g0
            obtain ⟨x1, e1, _, _⟩ := DataW.trod_int Tryz.underlying3 g1
            obtain ⟨x2, e2, hx2⟩ := trod_f64 g2
            simp at e0 e1 e2
            subst e0 e1 e2
            have f0 := hcell 0 (by omega)
            have f1 := hcell 1 (by omega)
            have f2 := hcell 2 (by omega)
            rw [add_add] at f0 f1 f2
            have hspot := hs (by omega)
            subst hspot
            rw [Go.WideShapes.add_plain] at f0 f1 f2
            exact ⟨⟨x0, x1, x2⟩, rfl, World.block_lt_of_cell? W _ f0, hx2, f0, f1, f2⟩
        have : Inhabited Ins := ⟨⟨0, 0, 0⟩⟩
        obtain ⟨q, hq⟩ := choose_lt each
        have hcl : ((List.range len).map q).length = len := by simp
        have hci : ∀ i, i < len → ci ((List.range len).map q) i = q i := fun i hi => by
          unfold ci
          simp [List.getD_eq_getElem?_getD, hi]
        refine ⟨t, some ⟨b, off, spot⟩, (List.range len).map q, cap, by rw [hcl]; rfl, ⟨by rw [hcl]; exact hl, hm, fun i hi => ?_⟩, fun i hi => ?_⟩
        · obtain ⟨j, hj, rfl⟩ := List.mem_map.1 hi
          exact (hq j (List.mem_range.1 hj)).2.2.1
        · rw [hcl] at hi
          rw [hci i hi]
          obtain ⟨rfl, h2, _, r⟩ := hq i hi
          exact ⟨b, off, rfl, h2, r⟩
end
end Go.Proofs.YtlnobfmbnnfbdaaGreatDoor
