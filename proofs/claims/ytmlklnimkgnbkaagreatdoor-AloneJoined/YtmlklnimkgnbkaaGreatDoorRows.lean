/-
  NARROWER THAN 'FOR EVERY INPUT', by the rows' own cells (each row's printed sentence says how): AloneCalls: laid · AloneJoined: laid · AloneFrame: laid.
  DERIVED. THE GIVEN ROWS OF THIS SEAT. 3 by the template 'for every input the law returns true; each argument reads behind the call as it read before'; 0 by the template 'total and deterministic' (their statements: YtmlklnimkgnbkaaGreatDoorTotals.lean).
  GIVEN WITH THE SEED: the statements are not yours to turn. If you find one false, say at which input.
  Laid BY PROGRAM, IN A SANDBOX (cutbox-rows.mjs): the forced cells as the released guide's own fill.sh prints them over the translation d7819c9af3d2e305… (all of the seat's roots in one cut). By AI agents, Wed Nov 11 2026. No macro, syntax, notation, axiom, sorry.
-/
import Derived.Test.YtmlklnimkgnbkaaGreatDoorChecked
import GoSem.Claim
import GoSem.ClaimJoined
import GoSem.ClaimMapViews
import Derived.JoinedTies
import Derived.KernelRfl
namespace Go.Proofs.YtmlklnimkgnbkaaGreatDoor
/- THE CELL 'sum', in the pinned program and in every row, IS THE sha256 OF THE DUMP (.gsa) THAT YtmlklnimkgnbkaaGreatDoorProg.lean LOADS. Nothing in Lean hashes anything: it is a label: what it is worth is what the hold of that sum in a sandbox is worth. -/
noncomputable def Tryz.pinned : Pinned := { name := "ytmlklnimkgnbkaagreatdoor", sum := "d7819c9af3d2e3052b452e23c57c55d4ac315ff2fb0edc0b62ab6c08f49f610a", checked := Tryz.checked }
namespace Rows
def none {H : Type} : Left H := { results := [], args := [] }

/- WHAT THE LISTED PACKAGE-LEVEL VARIABLES READ AS WHEN THE CALL BEGINS. Each datum BY PROGRAM (the guide's laid-datum.mjs) off the statement by which the dump's own 'gosem.cut.vars' lays the variable. In a bare row this is a premise. The card (YtmlklnimkgnbkaaGreatDoorCards.lean) ties it to the program's text. -/
def laid_beadle_code_shapes {H : Type} : DataW H := .agg [.agg [.lit (.string []), .lit (.int .i64 0), .lit (.int .i64 0), .lit (.int .i64 0), .lit (.int .i64 0), .lit (.int .i64 0)], .agg [.lit (.string [112, 117, 115, 104]), .lit (.int .i64 1), .lit (.int .i64 0), .lit (.int .i64 0), .lit (.int .i64 0), .lit (.int .i64 1)], .agg [.lit (.string [100, 114, 111, 112]), .lit (.int .i64 0), .lit (.int .i64 0), .lit (.int .i64 0), .lit (.int .i64 1), .lit (.int .i64 0)], .agg [.lit (.string [100, 117, 112]), .lit (.int .i64 0), .lit (.int .i64 0), .lit (.int .i64 0), .lit (.int .i64 1), .lit (.int .i64 2)], .agg [.lit (.string [115, 119, 97, 112]), .lit (.int .i64 0), .lit (.int .i64 0), .lit (.int .i64 0), .lit (.int .i64 2), .lit (.int .i64 2)], .agg [.lit (.string [112, 105, 99, 107]), .lit (.int .i64 2), .lit (.int .i64 0), .lit (.int .i64 63), .lit (.int .i64 0), .lit (.int .i64 1)], .agg [.lit (.string [97, 114, 103]), .lit (.int .i64 2), .lit (.int .i64 0), .lit (.int .i64 7), .lit (.int .i64 0), .lit (.int .i64 1)], .agg [.lit (.string [103, 101, 116]), .lit (.int .i64 2), .lit (.int .i64 0), .lit (.int .i64 7), .lit (.int .i64 0), .lit (.int .i64 1)], .agg [.lit (.string [115, 101, 116]), .lit (.int .i64 2), .lit (.int .i64 0), .lit (.int .i64 7), .lit (.int .i64 1), .lit (.int .i64 0)], .agg [.lit (.string []), .lit (.int .i64 4), .lit (.int .i64 1), .lit (.int .i64 8), .lit (.int .i64 1), .lit (.int .i64 1)], .agg [.lit (.string []), .lit (.int .i64 5), .lit (.int .i64 1), .lit (.int .i64 12), .lit (.int .i64 2), .lit (.int .i64 1)], .agg [.lit (.string [106, 117, 109, 112]), .lit (.int .i64 3), .lit (.int .i64 0), .lit (.int .i64 1023), .lit (.int .i64 0), .lit (.int .i64 0)], .agg [.lit (.string [105, 102]), .lit (.int .i64 3), .lit (.int .i64 0), .lit (.int .i64 1023), .lit (.int .i64 1), .lit (.int .i64 0)], .agg [.lit (.string [117, 110, 108, 101, 115, 115]), .lit (.int .i64 3), .lit (.int .i64 0), .lit (.int .i64 1023), .lit (.int .i64 1), .lit (.int .i64 0)], .agg [.lit (.string [99, 97, 108, 108]), .lit (.int .i64 3), .lit (.int .i64 0), .lit (.int .i64 1023), .lit (.int .i64 0), .lit (.int .i64 0)], .agg [.lit (.string [114, 101, 116]), .lit (.int .i64 0), .lit (.int .i64 0), .lit (.int .i64 0), .lit (.int .i64 0), .lit (.int .i64 0)], .agg [.lit (.string [114, 101, 97, 100]), .lit (.int .i64 0), .lit (.int .i64 0), .lit (.int .i64 0), .lit (.int .i64 1), .lit (.int .i64 1)], .agg [.lit (.string [119, 114, 105, 116, 101]), .lit (.int .i64 0), .lit (.int .i64 0), .lit (.int .i64 0), .lit (.int .i64 2), .lit (.int .i64 0)], .agg [.lit (.string [101, 109, 105, 116]), .lit (.int .i64 0), .lit (.int .i64 0), .lit (.int .i64 0), .lit (.int .i64 1), .lit (.int .i64 0)], .agg [.lit (.string [97, 98, 111, 114, 116]), .lit (.int .i64 2), .lit (.int .i64 0), .lit (.int .i64 99), .lit (.int .i64 0), .lit (.int .i64 0)], .agg [.lit (.string [104, 97, 108, 116]), .lit (.int .i64 0), .lit (.int .i64 0), .lit (.int .i64 0), .lit (.int .i64 0), .lit (.int .i64 0)]]

/-- 'beadlelaw09.AloneCalls': WHATEVER THE INPUT: true; the input reads as it did. -/
def aloneCallsSpec : ChangeSpec := { name := "aloneCalls", fn := fun _ => fun
  | [d1, d2, d3, d4] => { results := [.lit (.bool true)], args := [d1, d2, d3, d4] }
  | _ => none }
def aloneCallsRow : OpenClaim := { program := "ytmlklnimkgnbkaagreatdoor", sum := "d7819c9af3d2e3052b452e23c57c55d4ac315ff2fb0edc0b62ab6c08f49f610a", func := "beadle/beadlelaw09.AloneCalls", spec := "aloneCalls", inPlace := ["math.Float64frombits", "math.Float64bits", "math.archFloor", "math.archTrunc", "math.sqrt"], unfollowed := true, recurses := true, named := ["beadle/code.shapes"], apart := false, laid := [("beadle/code.shapes", laid_beadle_code_shapes)] }
def AloneCallsSaid : Prop := aloneCallsRow.holds Tryz.pinned (OpenSpec.ofChange aloneCallsSpec)

/-- ITS FALSE NEIGHBOUR: 'it returns false'. Refute it at one input. -/
def aloneCallsWrong : ChangeSpec := { name := "aloneCalls", fn := fun _ => fun
  | [d1, d2, d3, d4] => { results := [.lit (.bool false)], args := [d1, d2, d3, d4] }
  | _ => none }
def AloneCallsWrongFalsely : Prop := aloneCallsRow.holds Tryz.pinned (OpenSpec.ofChange aloneCallsWrong)

/-- 'beadlelaw09.AloneJoined': WHATEVER THE INPUT: true; the input reads as it did. -/
def aloneJoinedSpec : ChangeSpec := { name := "aloneJoined", fn := fun _ => fun
  | [d1, d2, d3, d4] => { results := [.lit (.bool true)], args := [d1, d2, d3, d4] }
  | _ => none }
def aloneJoinedRow : OpenClaim := { program := "ytmlklnimkgnbkaagreatdoor", sum := "d7819c9af3d2e3052b452e23c57c55d4ac315ff2fb0edc0b62ab6c08f49f610a", func := "beadle/beadlelaw09.AloneJoined", spec := "aloneJoined", inPlace := ["math.Float64frombits", "math.Float64bits", "math.archFloor", "math.archTrunc", "math.sqrt"], unfollowed := true, recurses := true, named := ["beadle/code.shapes"], apart := false, laid := [("beadle/code.shapes", laid_beadle_code_shapes)] }
def AloneJoinedSaid : Prop := aloneJoinedRow.holds Tryz.pinned (OpenSpec.ofChange aloneJoinedSpec)

/-- ITS FALSE NEIGHBOUR: 'it returns false'. Refute it at one input. -/
def aloneJoinedWrong : ChangeSpec := { name := "aloneJoined", fn := fun _ => fun
  | [d1, d2, d3, d4] => { results := [.lit (.bool false)], args := [d1, d2, d3, d4] }
  | _ => none }
def AloneJoinedWrongFalsely : Prop := aloneJoinedRow.holds Tryz.pinned (OpenSpec.ofChange aloneJoinedWrong)

/-- 'beadlelaw09.AloneFrame': WHATEVER THE INPUT: true; the input reads as it did. -/
def aloneFrameSpec : ChangeSpec := { name := "aloneFrame", fn := fun _ => fun
  | [d1, d2, d3, d4, d5, d6] => { results := [.lit (.bool true)], args := [d1, d2, d3, d4, d5, d6] }
  | _ => none }
def aloneFrameRow : OpenClaim := { program := "ytmlklnimkgnbkaagreatdoor", sum := "d7819c9af3d2e3052b452e23c57c55d4ac315ff2fb0edc0b62ab6c08f49f610a", func := "beadle/beadlelaw09.AloneFrame", spec := "aloneFrame", inPlace := ["math.Float64frombits", "math.Float64bits", "math.archFloor", "math.archTrunc", "math.sqrt"], unfollowed := true, recurses := true, named := ["beadle/code.shapes"], apart := false, laid := [("beadle/code.shapes", laid_beadle_code_shapes)] }
def AloneFrameSaid : Prop := aloneFrameRow.holds Tryz.pinned (OpenSpec.ofChange aloneFrameSpec)

/-- ITS FALSE NEIGHBOUR: 'it returns false'. Refute it at one input. -/
def aloneFrameWrong : ChangeSpec := { name := "aloneFrame", fn := fun _ => fun
  | [d1, d2, d3, d4, d5, d6] => { results := [.lit (.bool false)], args := [d1, d2, d3, d4, d5, d6] }
  | _ => none }
def AloneFrameWrongFalsely : Prop := aloneFrameRow.holds Tryz.pinned (OpenSpec.ofChange aloneFrameWrong)

/- THE SECOND FORM. 'bulk': how many values and letters a reading holds, each counted each time it is reached (what is shared counts as often as it is met; a slice's spare places count too). A statement '..UptoSaid' is the law's where the arguments, and the package variables that the reading takes, are together of bulk at most 1048576: NARROWER than '..Said'. Prove '..Said' where nothing that the law and all that it calls make is longer than what came in: it says more and counts as full. Else prove '..UptoSaid'. A law counts once. -/
mutual
def uptoBulk {H : Type} : DataW H → Nat
  | .lit (.string bytes) => bytes.length + 1
  | .lit _ => 1
  | .nil => 1
  | .ptr d => uptoBulk d + 1
  | .slice elems spare => uptoBulkAll elems + uptoBulkAll spare + 1
  | .agg parts => uptoBulkAll parts + 1
  | .iface _ d => uptoBulk d + 1
  | .map entries => uptoBulkEntries entries + 1
  | .held _ => 1
def uptoBulkAll {H : Type} : List (DataW H) → Nat
  | [] => 0
  | d :: r => uptoBulk d + uptoBulkAll r
def uptoBulkEntries {H : Type} : List (Lit × DataW H) → Nat
  | [] => 0
  | x :: r => uptoBulkEntry x + uptoBulkEntries r
def uptoBulkEntry {H : Type} : Lit × DataW H → Nat
  | (.string bytes, d) => bytes.length + uptoBulk d + 1
  | (_, d) => uptoBulk d + 1
 end
def uptoSmall : (H : Type) → List (DataW H) → Bool := fun _ ds => decide (uptoBulkAll ds ≤ 1048576)
def OpenSpec.upto (s : _root_.Go.ChangeSpec) : _root_.Go.OpenSpec := { _root_.Go.OpenSpec.ofChange s with cond := some uptoSmall }

/-- 'beadlelaw09.AloneCalls', WHERE WHAT IT READS IS OF BULK AT MOST 1048576: true; the input reads as it did. -/
def aloneCallsUptoRow : OpenClaim := { program := "ytmlklnimkgnbkaagreatdoor", sum := "d7819c9af3d2e3052b452e23c57c55d4ac315ff2fb0edc0b62ab6c08f49f610a", func := "beadle/beadlelaw09.AloneCalls", spec := "aloneCalls", inPlace := ["math.Float64frombits", "math.Float64bits", "math.archFloor", "math.archTrunc", "math.sqrt"], unfollowed := true, recurses := true, named := ["beadle/code.shapes"], apart := false, laid := [("beadle/code.shapes", laid_beadle_code_shapes)], narrowed := true }
def AloneCallsUptoSaid : Prop := aloneCallsUptoRow.holds Tryz.pinned (OpenSpec.upto aloneCallsSpec)

/-- 'beadlelaw09.AloneJoined', WHERE WHAT IT READS IS OF BULK AT MOST 1048576: true; the input reads as it did. -/
def aloneJoinedUptoRow : OpenClaim := { program := "ytmlklnimkgnbkaagreatdoor", sum := "d7819c9af3d2e3052b452e23c57c55d4ac315ff2fb0edc0b62ab6c08f49f610a", func := "beadle/beadlelaw09.AloneJoined", spec := "aloneJoined", inPlace := ["math.Float64frombits", "math.Float64bits", "math.archFloor", "math.archTrunc", "math.sqrt"], unfollowed := true, recurses := true, named := ["beadle/code.shapes"], apart := false, laid := [("beadle/code.shapes", laid_beadle_code_shapes)], narrowed := true }
def AloneJoinedUptoSaid : Prop := aloneJoinedUptoRow.holds Tryz.pinned (OpenSpec.upto aloneJoinedSpec)

/-- 'beadlelaw09.AloneFrame', WHERE WHAT IT READS IS OF BULK AT MOST 1048576: true; the input reads as it did. -/
def aloneFrameUptoRow : OpenClaim := { program := "ytmlklnimkgnbkaagreatdoor", sum := "d7819c9af3d2e3052b452e23c57c55d4ac315ff2fb0edc0b62ab6c08f49f610a", func := "beadle/beadlelaw09.AloneFrame", spec := "aloneFrame", inPlace := ["math.Float64frombits", "math.Float64bits", "math.archFloor", "math.archTrunc", "math.sqrt"], unfollowed := true, recurses := true, named := ["beadle/code.shapes"], apart := false, laid := [("beadle/code.shapes", laid_beadle_code_shapes)], narrowed := true }
def AloneFrameUptoSaid : Prop := aloneFrameUptoRow.holds Tryz.pinned (OpenSpec.upto aloneFrameSpec)

end Rows
end Go.Proofs.YtmlklnimkgnbkaaGreatDoor
