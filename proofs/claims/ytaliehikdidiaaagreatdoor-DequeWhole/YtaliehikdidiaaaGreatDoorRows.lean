/-
  NARROWER THAN 'FOR EVERY INPUT', by the rows' own cells (each row's printed sentence says how): DequeMakes: laid · DequePlays: laid · DequeFails: laid · DequeApart: laid · DequeWhole: laid.
  DERIVED. THE GIVEN ROWS OF THIS SEAT. 5 by the template 'for every input the law returns true; each argument reads behind the call as it read before'; 0 by the template 'total and deterministic' (their statements: YtaliehikdidiaaaGreatDoorTotals.lean).
  GIVEN WITH THE SEED: the statements are not yours to turn. If you find one false, say at which input.
  Laid BY PROGRAM, IN A SANDBOX (cutbox-rows.mjs): the forced cells as the released guide's own fill.sh prints them over the translation 6089c2756d6ef98d… (all of the seat's roots in one cut). By AI agents, Wed Nov 11 2026. No macro, syntax, notation, axiom, sorry.
-/
import Derived.Test.YtaliehikdidiaaaGreatDoorChecked
import GoSem.Claim
import GoSem.ClaimJoined
import GoSem.ClaimMapViews
import Derived.JoinedTies
import Derived.KernelRfl
namespace Go.Proofs.YtaliehikdidiaaaGreatDoor
/- THE CELL 'sum', in the pinned program and in every row, IS THE sha256 OF THE DUMP (.gsa) THAT YtaliehikdidiaaaGreatDoorProg.lean LOADS. Nothing in Lean hashes anything: it is a label: what it is worth is what the hold of that sum in a sandbox is worth. -/
noncomputable def Tryz.pinned : Pinned := { name := "ytaliehikdidiaaagreatdoor", sum := "6089c2756d6ef98dcfb8d975989de657424a541caa70e29aa95b874167303ffa", checked := Tryz.checked }
namespace Rows
def none {H : Type} : Left H := { results := [], args := [] }

/- WHAT THE LISTED PACKAGE-LEVEL VARIABLES READ AS WHEN THE CALL BEGINS. Each datum BY PROGRAM (the guide's laid-datum.mjs) off the statement by which the dump's own 'gosem.cut.vars' lays the variable. In a bare row this is a premise. The card (YtaliehikdidiaaaGreatDoorCards.lean) ties it to the program's text. -/
def laid_beadle_code_shapes {H : Type} : DataW H := .agg [.agg [.lit (.string []), .lit (.int .i64 0), .lit (.int .i64 0), .lit (.int .i64 0), .lit (.int .i64 0), .lit (.int .i64 0)], .agg [.lit (.string [112, 117, 115, 104]), .lit (.int .i64 1), .lit (.int .i64 0), .lit (.int .i64 0), .lit (.int .i64 0), .lit (.int .i64 1)], .agg [.lit (.string [100, 114, 111, 112]), .lit (.int .i64 0), .lit (.int .i64 0), .lit (.int .i64 0), .lit (.int .i64 1), .lit (.int .i64 0)], .agg [.lit (.string [100, 117, 112]), .lit (.int .i64 0), .lit (.int .i64 0), .lit (.int .i64 0), .lit (.int .i64 1), .lit (.int .i64 2)], .agg [.lit (.string [115, 119, 97, 112]), .lit (.int .i64 0), .lit (.int .i64 0), .lit (.int .i64 0), .lit (.int .i64 2), .lit (.int .i64 2)], .agg [.lit (.string [112, 105, 99, 107]), .lit (.int .i64 2), .lit (.int .i64 0), .lit (.int .i64 63), .lit (.int .i64 0), .lit (.int .i64 1)], .agg [.lit (.string [97, 114, 103]), .lit (.int .i64 2), .lit (.int .i64 0), .lit (.int .i64 7), .lit (.int .i64 0), .lit (.int .i64 1)], .agg [.lit (.string [103, 101, 116]), .lit (.int .i64 2), .lit (.int .i64 0), .lit (.int .i64 7), .lit (.int .i64 0), .lit (.int .i64 1)], .agg [.lit (.string [115, 101, 116]), .lit (.int .i64 2), .lit (.int .i64 0), .lit (.int .i64 7), .lit (.int .i64 1), .lit (.int .i64 0)], .agg [.lit (.string []), .lit (.int .i64 4), .lit (.int .i64 1), .lit (.int .i64 8), .lit (.int .i64 1), .lit (.int .i64 1)], .agg [.lit (.string []), .lit (.int .i64 5), .lit (.int .i64 1), .lit (.int .i64 12), .lit (.int .i64 2), .lit (.int .i64 1)], .agg [.lit (.string [106, 117, 109, 112]), .lit (.int .i64 3), .lit (.int .i64 0), .lit (.int .i64 1023), .lit (.int .i64 0), .lit (.int .i64 0)], .agg [.lit (.string [105, 102]), .lit (.int .i64 3), .lit (.int .i64 0), .lit (.int .i64 1023), .lit (.int .i64 1), .lit (.int .i64 0)], .agg [.lit (.string [117, 110, 108, 101, 115, 115]), .lit (.int .i64 3), .lit (.int .i64 0), .lit (.int .i64 1023), .lit (.int .i64 1), .lit (.int .i64 0)], .agg [.lit (.string [99, 97, 108, 108]), .lit (.int .i64 3), .lit (.int .i64 0), .lit (.int .i64 1023), .lit (.int .i64 0), .lit (.int .i64 0)], .agg [.lit (.string [114, 101, 116]), .lit (.int .i64 0), .lit (.int .i64 0), .lit (.int .i64 0), .lit (.int .i64 0), .lit (.int .i64 0)], .agg [.lit (.string [114, 101, 97, 100]), .lit (.int .i64 0), .lit (.int .i64 0), .lit (.int .i64 0), .lit (.int .i64 1), .lit (.int .i64 1)], .agg [.lit (.string [119, 114, 105, 116, 101]), .lit (.int .i64 0), .lit (.int .i64 0), .lit (.int .i64 0), .lit (.int .i64 2), .lit (.int .i64 0)], .agg [.lit (.string [101, 109, 105, 116]), .lit (.int .i64 0), .lit (.int .i64 0), .lit (.int .i64 0), .lit (.int .i64 1), .lit (.int .i64 0)], .agg [.lit (.string [97, 98, 111, 114, 116]), .lit (.int .i64 2), .lit (.int .i64 0), .lit (.int .i64 99), .lit (.int .i64 0), .lit (.int .i64 0)], .agg [.lit (.string [104, 97, 108, 116]), .lit (.int .i64 0), .lit (.int .i64 0), .lit (.int .i64 0), .lit (.int .i64 0), .lit (.int .i64 0)]]

/-- 'beadlelaw22.DequeMakes': WHATEVER THE INPUT: true; the input reads as it did. -/
def dequeMakesSpec : ChangeSpec := { name := "dequeMakes", fn := fun _ => fun
  | [d1, d2] => { results := [.lit (.bool true)], args := [d1, d2] }
  | _ => none }
def dequeMakesRow : OpenClaim := { program := "ytaliehikdidiaaagreatdoor", sum := "6089c2756d6ef98dcfb8d975989de657424a541caa70e29aa95b874167303ffa", func := "beadle/beadlelaw22.DequeMakes", spec := "dequeMakes", inPlace := ["math.Float64frombits", "math.Float64bits", "math.archFloor", "math.archTrunc", "math.sqrt"], unfollowed := true, recurses := true, named := ["beadle/code.shapes"], apart := false, laid := [("beadle/code.shapes", laid_beadle_code_shapes)] }
def DequeMakesSaid : Prop := dequeMakesRow.holds Tryz.pinned (OpenSpec.ofChange dequeMakesSpec)

/-- ITS FALSE NEIGHBOUR: 'it returns false'. Refute it at one input. -/
def dequeMakesWrong : ChangeSpec := { name := "dequeMakes", fn := fun _ => fun
  | [d1, d2] => { results := [.lit (.bool false)], args := [d1, d2] }
  | _ => none }
def DequeMakesWrongFalsely : Prop := dequeMakesRow.holds Tryz.pinned (OpenSpec.ofChange dequeMakesWrong)

/-- 'beadlelaw22.DequePlays': WHATEVER THE INPUT: true; the input reads as it did. -/
def dequePlaysSpec : ChangeSpec := { name := "dequePlays", fn := fun _ => fun
  | [d] => { results := [.lit (.bool true)], args := [d] }
  | _ => none }
def dequePlaysRow : OpenClaim := { program := "ytaliehikdidiaaagreatdoor", sum := "6089c2756d6ef98dcfb8d975989de657424a541caa70e29aa95b874167303ffa", func := "beadle/beadlelaw22.DequePlays", spec := "dequePlays", inPlace := ["math.Float64frombits", "math.Float64bits", "math.archFloor", "math.archTrunc", "math.sqrt"], unfollowed := true, recurses := true, named := ["beadle/code.shapes"], apart := false, laid := [("beadle/code.shapes", laid_beadle_code_shapes)] }
def DequePlaysSaid : Prop := dequePlaysRow.holds Tryz.pinned (OpenSpec.ofChange dequePlaysSpec)

/-- ITS FALSE NEIGHBOUR: 'it returns false'. Refute it at one input. -/
def dequePlaysWrong : ChangeSpec := { name := "dequePlays", fn := fun _ => fun
  | [d] => { results := [.lit (.bool false)], args := [d] }
  | _ => none }
def DequePlaysWrongFalsely : Prop := dequePlaysRow.holds Tryz.pinned (OpenSpec.ofChange dequePlaysWrong)

/-- 'beadlelaw22.DequeFails': WHATEVER THE INPUT: true; the input reads as it did. -/
def dequeFailsSpec : ChangeSpec := { name := "dequeFails", fn := fun _ => fun
  | [d1, d2, d3] => { results := [.lit (.bool true)], args := [d1, d2, d3] }
  | _ => none }
def dequeFailsRow : OpenClaim := { program := "ytaliehikdidiaaagreatdoor", sum := "6089c2756d6ef98dcfb8d975989de657424a541caa70e29aa95b874167303ffa", func := "beadle/beadlelaw22.DequeFails", spec := "dequeFails", inPlace := ["math.Float64frombits", "math.Float64bits", "math.archFloor", "math.archTrunc", "math.sqrt"], unfollowed := true, recurses := true, named := ["beadle/code.shapes"], apart := false, laid := [("beadle/code.shapes", laid_beadle_code_shapes)] }
def DequeFailsSaid : Prop := dequeFailsRow.holds Tryz.pinned (OpenSpec.ofChange dequeFailsSpec)

/-- ITS FALSE NEIGHBOUR: 'it returns false'. Refute it at one input. -/
def dequeFailsWrong : ChangeSpec := { name := "dequeFails", fn := fun _ => fun
  | [d1, d2, d3] => { results := [.lit (.bool false)], args := [d1, d2, d3] }
  | _ => none }
def DequeFailsWrongFalsely : Prop := dequeFailsRow.holds Tryz.pinned (OpenSpec.ofChange dequeFailsWrong)

/-- 'beadlelaw22.DequeApart': WHATEVER THE INPUT: true; the input reads as it did. -/
def dequeApartSpec : ChangeSpec := { name := "dequeApart", fn := fun _ => fun
  | [d] => { results := [.lit (.bool true)], args := [d] }
  | _ => none }
def dequeApartRow : OpenClaim := { program := "ytaliehikdidiaaagreatdoor", sum := "6089c2756d6ef98dcfb8d975989de657424a541caa70e29aa95b874167303ffa", func := "beadle/beadlelaw22.DequeApart", spec := "dequeApart", inPlace := ["math.Float64frombits", "math.Float64bits", "math.archFloor", "math.archTrunc", "math.sqrt"], unfollowed := true, recurses := true, named := ["beadle/code.shapes"], apart := false, laid := [("beadle/code.shapes", laid_beadle_code_shapes)] }
def DequeApartSaid : Prop := dequeApartRow.holds Tryz.pinned (OpenSpec.ofChange dequeApartSpec)

/-- ITS FALSE NEIGHBOUR: 'it returns false'. Refute it at one input. -/
def dequeApartWrong : ChangeSpec := { name := "dequeApart", fn := fun _ => fun
  | [d] => { results := [.lit (.bool false)], args := [d] }
  | _ => none }
def DequeApartWrongFalsely : Prop := dequeApartRow.holds Tryz.pinned (OpenSpec.ofChange dequeApartWrong)

/-- 'beadlelaw22.DequeWhole': WHATEVER THE INPUT: true; the input reads as it did. -/
def dequeWholeSpec : ChangeSpec := { name := "dequeWhole", fn := fun _ => fun
  | [d1, d2] => { results := [.lit (.bool true)], args := [d1, d2] }
  | _ => none }
def dequeWholeRow : OpenClaim := { program := "ytaliehikdidiaaagreatdoor", sum := "6089c2756d6ef98dcfb8d975989de657424a541caa70e29aa95b874167303ffa", func := "beadle/beadlelaw22.DequeWhole", spec := "dequeWhole", inPlace := ["math.Float64frombits", "math.Float64bits", "math.archFloor", "math.archTrunc", "math.sqrt"], unfollowed := true, recurses := true, named := ["beadle/code.shapes"], apart := false, laid := [("beadle/code.shapes", laid_beadle_code_shapes)] }
def DequeWholeSaid : Prop := dequeWholeRow.holds Tryz.pinned (OpenSpec.ofChange dequeWholeSpec)

/-- ITS FALSE NEIGHBOUR: 'it returns false'. Refute it at one input. -/
def dequeWholeWrong : ChangeSpec := { name := "dequeWhole", fn := fun _ => fun
  | [d1, d2] => { results := [.lit (.bool false)], args := [d1, d2] }
  | _ => none }
def DequeWholeWrongFalsely : Prop := dequeWholeRow.holds Tryz.pinned (OpenSpec.ofChange dequeWholeWrong)

/- THE SECOND FORM. 'bulk': how many values and letters a reading holds, each counted each time it is reached (what is shared counts as often as it is met; a slice's spare places count too). A statement '..UptoSaid' is the law's where the arguments, and the package variables that the reading takes, are together of bulk at most 1048576: NARROWER than '..Said'. Prove '..Said' where nothing that the law and all that it calls make is longer than what came in: it says more and counts as full. Else prove '..UptoSaid'. A law counts once. -/
mutual
def uptoBulk {H : Type} : DataW H → Nat
  | .lit (.string bytes) => bytes.length + 1
  | .lit _ => 1
  | .nil => 1
  | .ptr d => uptoBulk d + 1
  | .slice elems spare => uptoBulkAll elems + uptoBulkAll spare + 1
  | .agg parts => uptoBulkAll parts + 1
  | .iface _ d => uptoBulk d + 1
  | .map entries => uptoBulkEntries entries + 1
  | .held _ => 1
def uptoBulkAll {H : Type} : List (DataW H) → Nat
  | [] => 0
  | d :: r => uptoBulk d + uptoBulkAll r
def uptoBulkEntries {H : Type} : List (Lit × DataW H) → Nat
  | [] => 0
  | x :: r => uptoBulkEntry x + uptoBulkEntries r
def uptoBulkEntry {H : Type} : Lit × DataW H → Nat
  | (.string bytes, d) => bytes.length + uptoBulk d + 1
  | (_, d) => uptoBulk d + 1
 end
def uptoSmall : (H : Type) → List (DataW H) → Bool := fun _ ds => decide (uptoBulkAll ds ≤ 1048576)
def OpenSpec.upto (s : _root_.Go.ChangeSpec) : _root_.Go.OpenSpec := { _root_.Go.OpenSpec.ofChange s with cond := some uptoSmall }

/-- 'beadlelaw22.DequeMakes', WHERE WHAT IT READS IS OF BULK AT MOST 1048576: true; the input reads as it did. -/
def dequeMakesUptoRow : OpenClaim := { program := "ytaliehikdidiaaagreatdoor", sum := "6089c2756d6ef98dcfb8d975989de657424a541caa70e29aa95b874167303ffa", func := "beadle/beadlelaw22.DequeMakes", spec := "dequeMakes", inPlace := ["math.Float64frombits", "math.Float64bits", "math.archFloor", "math.archTrunc", "math.sqrt"], unfollowed := true, recurses := true, named := ["beadle/code.shapes"], apart := false, laid := [("beadle/code.shapes", laid_beadle_code_shapes)], narrowed := true }
def DequeMakesUptoSaid : Prop := dequeMakesUptoRow.holds Tryz.pinned (OpenSpec.upto dequeMakesSpec)

/-- 'beadlelaw22.DequePlays', WHERE WHAT IT READS IS OF BULK AT MOST 1048576: true; the input reads as it did. -/
def dequePlaysUptoRow : OpenClaim := { program := "ytaliehikdidiaaagreatdoor", sum := "6089c2756d6ef98dcfb8d975989de657424a541caa70e29aa95b874167303ffa", func := "beadle/beadlelaw22.DequePlays", spec := "dequePlays", inPlace := ["math.Float64frombits", "math.Float64bits", "math.archFloor", "math.archTrunc", "math.sqrt"], unfollowed := true, recurses := true, named := ["beadle/code.shapes"], apart := false, laid := [("beadle/code.shapes", laid_beadle_code_shapes)], narrowed := true }
def DequePlaysUptoSaid : Prop := dequePlaysUptoRow.holds Tryz.pinned (OpenSpec.upto dequePlaysSpec)

/-- 'beadlelaw22.DequeFails', WHERE WHAT IT READS IS OF BULK AT MOST 1048576: true; the input reads as it did. -/
def dequeFailsUptoRow : OpenClaim := { program := "ytaliehikdidiaaagreatdoor", sum := "6089c2756d6ef98dcfb8d975989de657424a541caa70e29aa95b874167303ffa", func := "beadle/beadlelaw22.DequeFails", spec := "dequeFails", inPlace := ["math.Float64frombits", "math.Float64bits", "math.archFloor", "math.archTrunc", "math.sqrt"], unfollowed := true, recurses := true, named := ["beadle/code.shapes"], apart := false, laid := [("beadle/code.shapes", laid_beadle_code_shapes)], narrowed := true }
def DequeFailsUptoSaid : Prop := dequeFailsUptoRow.holds Tryz.pinned (OpenSpec.upto dequeFailsSpec)

/-- 'beadlelaw22.DequeApart', WHERE WHAT IT READS IS OF BULK AT MOST 1048576: true; the input reads as it did. -/
def dequeApartUptoRow : OpenClaim := { program := "ytaliehikdidiaaagreatdoor", sum := "6089c2756d6ef98dcfb8d975989de657424a541caa70e29aa95b874167303ffa", func := "beadle/beadlelaw22.DequeApart", spec := "dequeApart", inPlace := ["math.Float64frombits", "math.Float64bits", "math.archFloor", "math.archTrunc", "math.sqrt"], unfollowed := true, recurses := true, named := ["beadle/code.shapes"], apart := false, laid := [("beadle/code.shapes", laid_beadle_code_shapes)], narrowed := true }
def DequeApartUptoSaid : Prop := dequeApartUptoRow.holds Tryz.pinned (OpenSpec.upto dequeApartSpec)

/-- 'beadlelaw22.DequeWhole', WHERE WHAT IT READS IS OF BULK AT MOST 1048576: true; the input reads as it did. -/
def dequeWholeUptoRow : OpenClaim := { program := "ytaliehikdidiaaagreatdoor", sum := "6089c2756d6ef98dcfb8d975989de657424a541caa70e29aa95b874167303ffa", func := "beadle/beadlelaw22.DequeWhole", spec := "dequeWhole", inPlace := ["math.Float64frombits", "math.Float64bits", "math.archFloor", "math.archTrunc", "math.sqrt"], unfollowed := true, recurses := true, named := ["beadle/code.shapes"], apart := false, laid := [("beadle/code.shapes", laid_beadle_code_shapes)], narrowed := true }
def DequeWholeUptoSaid : Prop := dequeWholeUptoRow.holds Tryz.pinned (OpenSpec.upto dequeWholeSpec)

end Rows
end Go.Proofs.YtaliehikdidiaaaGreatDoor
