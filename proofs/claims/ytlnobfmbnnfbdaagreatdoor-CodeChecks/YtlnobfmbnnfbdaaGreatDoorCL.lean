import Derived.Test.YtlnobfmbnnfbdaaGreatDoorCL0
import Derived.Test.YtlnobfmbnnfbdaaGreatDoorTie
import Derived.ProofKit
import Derived.LaidMore
import Derived.OpenShut
import Derived.Handed
import Derived.SizedLaws
import Derived.ChangeSame
import Derived.ChangeVars
import Derived.JoinedOf
import Derived.RowKitTokens
import Derived.LaidLaws
import Derived.LaidHandle
import Derived.MakeChecks
import Derived.Lib.LaidTab
import Derived.Stop.LaidErr
import Derived.Stop.Joined
import Derived.SevenTiedAt
import Derived.ChangeMaps5
import Derived.HandedShaped
import Derived.Shelf.Strings.Shaped
namespace Go.Proofs.YtlnobfmbnnfbdaaGreatDoor
open Go.ChangeShapes Go.WideShapes Go.ChangeAt Go.RowKit
open Go.ChangeMaps (open_string shut_string)

theorem ownK : ownKnob Tryz.prog.godebug = none := by kernel_rfl
def db64 : List Int := [0, 1, 56, 2, 57, 49, 28, 3, 61, 58, 42, 50, 38, 29, 17, 4, 62, 47, 59, 36, 45, 43, 51, 22, 53, 39, 33, 30, 24, 18, 12, 5, 63, 55, 48, 27, 60, 41, 37, 16, 46, 35, 44, 21, 52, 32, 23, 11, 54, 26, 40, 15, 34, 20, 31, 10, 25, 14, 19, 9, 13, 8, 7, 6]
abbrev laid5 : List (String × DataW Unit) := Rows.codeChecksRow.laid
theorem pow_data : Rows.laid_internal_strconv_uint64pow10 (H := Unit) = Lib.tabData .u64 Lib.pow10Tab := by kernel_rfl
theorem db_data : Rows.laid_math_bits_deBruijn64tab (H := Unit) = Lib.tabData .u8 db64 := by kernel_rfl
theorem iface_laid {n nm : String} {d : DataW Unit} {r : List (String × DataW Unit)} {W : World} {g : Nat} {ti : TypeId} {ms : Array (String × TypeId)}
    (h : laidMet Tryz.prog ((n, .iface nm d) :: r) W) (hg : Tryz.prog.globalNamed n = some g) (ht : (Tryz.prog.globals[g]?).map (·.type) = some ti) (hi : Tryz.prog.underlying ti = some (.interface ms)) : ∃ tp p, W.var? Tryz.prog n = some #[.iface tp p] := by
  obtain ⟨ps, ⟨g0, t0, cs0, f0, p0, q0, hg0, ht0, hv0, hd0, _, e0⟩, _, hrows⟩ := h
  obtain rfl := Option.some.inj (hg.symm.trans hg0)
  obtain rfl := Option.some.inj (ht.symm.trans ht0)
  obtain ⟨l0⟩ := cs0
  obtain ⟨f1, u, v, rfl, hn, h1⟩ := iface_of_trod hi hd0
  exact ⟨u, v, hv0⟩

section
variable {H : Type} {enc : TypeId × Value → H} {w : World} {base : Nat} {sp : Nat → Bool} {held : Bool}
/-- an array of texts that reads as these holds them -/
theorem strs_of {fuel n : Nat} {t : TypeId} {cs : List Value} {ls : List (List UInt8)} {p : List MemPlace} (ht : Tryz.prog.underlying t = some (.array n 9)) (hct : Tryz.prog.cellsOf t = n)
    (h : DataW.trod enc Tryz.prog w base sp held fuel t cs = some (.agg (ls.map fun l => .lit (.string l)), p)) : ∀ i, i < n → cs[i]? = some (strB (ls.getD i [])) := by
  have hce : Tryz.prog.cellsOf 9 = 1 := by kernel_rfl
  cases fuel with
  | zero => simp [DataW.trod] at h
  | succ fuel =>
    simp only [DataW.trod, ht, hce, hct, Nat.mul_one] at h
    split at h
    · obtain ⟨xs, hm, hx⟩ := Option.map_eq_some_iff.1 h
      have hxs : xs.map (·.1) = ls.map fun l => (DataW.lit (.string l) : DataW H) := by
        have := congrArg Prod.fst hx
        simpa using this
      intro i hi
      obtain ⟨b, hb, hf⟩ := Lib.mapM_at hm i i (by simp [hi])
      obtain ⟨s, hc, rfl, _⟩ := DataW.trod_string Tryz.underlying9 hf
      have h1 : cs[i]? = some (.string s) := by
        have := congrArg (·[0]?) hc
        simpa [List.getElem?_take, List.getElem?_drop] using this
      have h2 : (xs.map (·.1))[i]? = some (DataW.lit (.string s.data.toList) : DataW H) := by simp [hb]
      rw [hxs] at h2
      simp only [List.getElem?_map, Option.map_eq_some_iff, DataW.lit.injEq, Lit.string.injEq] at h2
      obtain ⟨z, hz, e⟩ := h2
      rw [h1, List.getD_eq_getElem?_getD, hz]
      show some (Value.string s) = some (strB z)
      rw [e]
      rfl
    · cases h
theorem shps_of {fuel : Nat} {cs : List Value} {p : List MemPlace}
    (h : DataW.trod enc Tryz.prog w base sp held fuel 49 cs = some (.agg (shpT.map fun s => .agg [.lit (.string s.word), .lit (.int .i64 s.kind), .lit (.int .i64 s.lo), .lit (.int .i64 s.hi), .lit (.int .i64 s.takes), .lit (.int .i64 s.lays)]), p)) :
    ∀ i, i < 21 → cs[i * 6]? = some (strB (shp i).word) ∧ cs[i * 6 + 1]? = some (.int .i64 (shp i).kind) ∧ cs[i * 6 + 2]? = some (.int .i64 (shp i).lo) ∧ cs[i * 6 + 3]? = some (.int .i64 (shp i).hi) ∧ cs[i * 6 + 4]? = some (.int .i64 (shp i).takes) ∧ cs[i * 6 + 5]? = some (.int .i64 (shp i).lays) := by
  have hce : Tryz.prog.cellsOf 48 = 6 := by kernel_rfl
  have hct : Tryz.prog.cellsOf 49 = 126 := by kernel_rfl
  have hcs : Tryz.prog.cellsOf 9 = 1 := by kernel_rfl
  have hci : Tryz.prog.cellsOf 3 = 1 := by kernel_rfl
  cases fuel with
  | zero => simp [DataW.trod] at h
  | succ fuel =>
    simp only [DataW.trod, Tryz.underlying49, hce, hct] at h
    split at h
    · obtain ⟨xs, hm, hx⟩ := Option.map_eq_some_iff.1 h
      have hxs := congrArg Prod.fst hx
      intro i hi
      obtain ⟨b, hb, hf⟩ := Lib.mapM_at hm i i (by simp [hi])
      have h2 : (xs.map (·.1))[i]? = some b.1 := by simp [hb]
      have hxs' : xs.map (·.1) = shpT.map fun s => (DataW.agg [.lit (.string s.word), .lit (.int .i64 s.kind), .lit (.int .i64 s.lo), .lit (.int .i64 s.hi), .lit (.int .i64 s.takes), .lit (.int .i64 s.lays)] : DataW H) := by simpa using hxs
      rw [hxs'] at h2
      have hi' : i < shpT.length := hi
      have hsi : shpT[i]? = some (shp i) := by
        unfold shp
        rw [List.getD_eq_getElem?_getD, List.getElem?_eq_getElem hi']
        rfl
      rw [List.getElem?_map, hsi] at h2
      simp only [Option.map_some, Option.some.injEq] at h2
      obtain ⟨ys, n, _, hy, _, hyl, hg⟩ := DataW.trod_struct Tryz.underlying48 hf
      match ys, hyl with
      | [y0, y1, y2, y3, y4, y5], _ =>
        have g0 := hg 0 _ rfl
        have g1 := hg 1 _ rfl
        have g2 := hg 2 _ rfl
        have g3 := hg 3 _ rfl
        have g4 := hg 4 _ rfl
        have g5 := hg 5 _ rfl
        change DataW.trod enc Tryz.prog w base sp held n 9 ((((cs.drop (i * 6)).take 6).drop 0).take (Tryz.prog.cellsOf 9)) = _ at g0
        rw [hcs] at g0
        change DataW.trod enc Tryz.prog w base sp held n 3 ((((cs.drop (i * 6)).take 6).drop 1).take (Tryz.prog.cellsOf 3)) = _ at g1
        rw [hci] at g1
        change DataW.trod enc Tryz.prog w base sp held n 3 ((((cs.drop (i * 6)).take 6).drop 2).take (Tryz.prog.cellsOf 3)) = _ at g2
        rw [hci] at g2
        change DataW.trod enc Tryz.prog w base sp held n 3 ((((cs.drop (i * 6)).take 6).drop 3).take (Tryz.prog.cellsOf 3)) = _ at g3
        rw [hci] at g3
        change DataW.trod enc Tryz.prog w base sp held n 3 ((((cs.drop (i * 6)).take 6).drop 4).take (Tryz.prog.cellsOf 3)) = _ at g4
        rw [hci] at g4
        change DataW.trod enc Tryz.prog w base sp held n 3 ((((cs.drop (i * 6)).take 6).drop 5).take (Tryz.prog.cellsOf 3)) = _ at g5
        rw [hci] at g5
        obtain ⟨s0, a0, b0, _⟩ := DataW.trod_string Tryz.underlying9 g0
        obtain ⟨s1, a1, b1, _⟩ := DataW.trod_int Tryz.underlying3 g1
        obtain ⟨s2, a2, b2, _⟩ := DataW.trod_int Tryz.underlying3 g2
        obtain ⟨s3, a3, b3, _⟩ := DataW.trod_int Tryz.underlying3 g3
        obtain ⟨s4, a4, b4, _⟩ := DataW.trod_int Tryz.underlying3 g4
        obtain ⟨s5, a5, b5, _⟩ := DataW.trod_int Tryz.underlying3 g5
        subst b0 b1 b2 b3 b4 b5
        rw [hy] at h2
        simp only [List.map_cons, List.map_nil, DataW.agg.injEq, List.cons.injEq, DataW.lit.injEq, Lit.string.injEq, Lit.int.injEq, true_and, and_true] at h2
        obtain ⟨e0, e1, e2, e3, e4, e5⟩ := h2
        have get : ∀ (o : Nat) (v : Value), (((cs.drop (i * 6)).take 6).drop o).take 1 = [v] → o < 6 → cs[i * 6 + o]? = some v := fun o v hv ho => by
          have := congrArg (·[0]?) hv
          simpa [List.getElem?_take, List.getElem?_drop, ho] using this
        refine ⟨?_, ?_, ?_, ?_, ?_, ?_⟩
        · have := get 0 _ a0 (by decide)
          rw [Nat.add_zero] at this
          rw [this, e0]
          rfl
        · rw [get 1 _ a1 (by decide), e1]
        · rw [get 2 _ a2 (by decide), e2]
        · rw [get 3 _ a3 (by decide), e3]
        · rw [get 4 _ a4 (by decide), e4]
        · rw [get 5 _ a5 (by decide), e5]
    · cases h
end
theorem shp_data : Rows.laid_beadle_code_shapes (H := Unit) = .agg (shpT.map fun s => .agg [.lit (.string s.word), .lit (.int .i64 s.kind), .lit (.int .i64 s.lo), .lit (.int .i64 s.hi), .lit (.int .i64 s.takes), .lit (.int .i64 s.lays)]) := by kernel_rfl
theorem one_data : Rows.laid_beadle_code_oneWords (H := Unit) = .agg (oneT.map fun l => .lit (.string l)) := by kernel_rfl
theorem two_data : Rows.laid_beadle_code_twoWords (H := Unit) = .agg (twoT.map fun l => .lit (.string l)) := by kernel_rfl
theorem of_laid {W : World} (h : laidMetH Tryz.prog laid5 W) (hsh : W.ShapedOpen Tryz.prog) : Tabs5 W := by
  rw [MakeChecks.laidMetH_plain _ _ _ (by kernel_rfl)] at h
  have h64 := laidMet.tail h
  have hpow := laidMet.tail h64
  have hrng := laidMet.tail hpow
  have hsyn := laidMet.tail hrng
  have hshp := laidMet.tail hsyn
  have hone := laidMet.tail hshp
  have htwo := laidMet.tail hone
  rw [db_data] at h64
  rw [pow_data] at hpow
  rw [shp_data] at hshp
  rw [one_data] at hone
  rw [two_data] at htwo
  refine ⟨⟨?_, ?_, ?_, ?_⟩, ⟨?_, ?_, ?_⟩, Tryz.laysM145.s1_3 W hsh⟩
  · exact Lib.tabIs_of_head (g := 4) (by kernel_rfl) (by kernel_rfl) Tryz.underlying132 Tryz.underlying45 (by kernel_rfl) (by kernel_rfl) hpow
  · have := Lib.tabIs_of_head (g := 7) (by kernel_rfl) (by kernel_rfl) Tryz.underlying153 Tryz.underlying5 (by kernel_rfl) (by kernel_rfl) h64
    exact this.cell (by kernel_rfl) 15 (by decide)
  · exact iface_laid (g := 8) hsyn (by kernel_rfl) (by kernel_rfl) Tryz.underlying59
  · exact iface_laid (g := 9) hrng (by kernel_rfl) (by kernel_rfl) Tryz.underlying59
  · obtain ⟨ps, ⟨g', t', cs, fuel, p, q, hg', ht', hvar, hd, _, _⟩, _⟩ := hshp
    obtain rfl : t' = 49 := (Option.some.inj ((show (Tryz.prog.globals[g']?).map (·.type) = some 49 by rw [← Option.some.inj ((show Tryz.prog.globalNamed ((Rows.codeChecksRow.laid.map (·.1)).getD 5 default) = some 0 by kernel_rfl).symm.trans hg')]; kernel_rfl).symm.trans ht')).symm
    intro k hk
    obtain ⟨a0, a1, a2, a3, a4, a5⟩ := shps_of hd k hk
    have cell := fun i => World.var?_cell (show Tryz.prog.globalNamed ((Rows.codeChecksRow.laid.map (·.1)).getD 5 default) = some 0 by kernel_rfl) hvar i
    exact ⟨by rw [cell]; simpa using a0, by rw [cell]; simpa using a1, by rw [cell]; simpa using a2, by rw [cell]; simpa using a3, by rw [cell]; simpa using a4, by rw [cell]; simpa using a5⟩
  · obtain ⟨ps, ⟨g', t', cs, fuel, p, q, hg', ht', hvar, hd, _, _⟩, _⟩ := hone
    obtain rfl : t' = 76 := (Option.some.inj ((show (Tryz.prog.globals[g']?).map (·.type) = some 76 by rw [← Option.some.inj ((show Tryz.prog.globalNamed ((Rows.codeChecksRow.laid.map (·.1)).getD 6 default) = some 1 by kernel_rfl).symm.trans hg')]; kernel_rfl).symm.trans ht')).symm
    intro k hk
    have a0 : cs.toList[k]? = some (strB (oneW k)) := strs_of (n := 9) Tryz.underlying76 (by kernel_rfl) hd k hk
    rw [World.var?_cell (show Tryz.prog.globalNamed ((Rows.codeChecksRow.laid.map (·.1)).getD 6 default) = some 1 by kernel_rfl) hvar k]
    simpa using a0
  · obtain ⟨ps, ⟨g', t', cs, fuel, p, q, hg', ht', hvar, hd, _, _⟩, _⟩ := htwo
    obtain rfl : t' = 77 := (Option.some.inj ((show (Tryz.prog.globals[g']?).map (·.type) = some 77 by rw [← Option.some.inj ((show Tryz.prog.globalNamed ((Rows.codeChecksRow.laid.map (·.1)).getD 7 default) = some 2 by kernel_rfl).symm.trans hg')]; kernel_rfl).symm.trans ht')).symm
    intro k hk
    have a0 : cs.toList[k]? = some (strB (twoW k)) := strs_of (n := 13) Tryz.underlying77 (by kernel_rfl) hd k hk
    rw [World.var?_cell (show Tryz.prog.globalNamed ((Rows.codeChecksRow.laid.map (·.1)).getD 7 default) = some 2 by kernel_rfl) hvar k]
    simpa using a0
/-- a world that meets it: the heap that the door's own run leaves -/
theorem door_met (os : Os) (args : Array Value) : laidMetH Tryz.prog laid5 ((World.doorLaid Tryz.prog 400 os).forCall (fun _ _ => 0) ⟨#[], args, []⟩).memory :=
  laidMetH_of_parts3 (fuel := 8) (laidMet_of_run' 8 (by kernel_rfl) (by kernel_rfl)) (by kernel_rfl) (by kernel_rfl)
end Go.Proofs.YtlnobfmbnnfbdaaGreatDoor
