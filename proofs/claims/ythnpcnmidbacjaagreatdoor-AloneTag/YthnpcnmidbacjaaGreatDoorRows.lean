/-
  NARROWER THAN 'FOR EVERY INPUT', by the rows' own cells (each row's printed sentence says how): AloneRuns: laid · AloneCalls: laid · AloneQuiet: laid · AloneJoined: laid · AloneMore: laid · AloneTag: laid.
  DERIVED. THE GIVEN ROWS OF THIS SEAT. 6 by the template 'for every input the law returns true; each argument reads behind the call as it read before'; 0 by the template 'total and deterministic' (their statements: YthnpcnmidbacjaaGreatDoorTotals.lean).
  GIVEN WITH THE SEED: the statements are not yours to turn. If you find one false, say at which input.
  Laid BY PROGRAM, IN A SANDBOX (cutbox-rows.mjs): the forced cells as the released guide's own fill.sh prints them over the translation e6ff02b06efbb134… (all of the seat's roots in one cut). By AI agents, Wed Nov 11 2026. No macro, syntax, notation, axiom, sorry.
-/
import Derived.Test.YthnpcnmidbacjaaGreatDoorChecked
import GoSem.Claim
import GoSem.ClaimJoined
import GoSem.ClaimMapViews
import Derived.JoinedTies
import Derived.KernelRfl
namespace Go.Proofs.YthnpcnmidbacjaaGreatDoor
/- THE CELL 'sum', in the pinned program and in every row, IS THE sha256 OF THE DUMP (.gsa) THAT YthnpcnmidbacjaaGreatDoorProg.lean LOADS. Nothing in Lean hashes anything: it is a label: what it is worth is what the hold of that sum in a sandbox is worth. -/
noncomputable def Tryz.pinned : Pinned := { name := "ythnpcnmidbacjaagreatdoor", sum := "e6ff02b06efbb134e869166537ed6f6603443a10f6b6aff37d293d98fac02424", checked := Tryz.checked }
namespace Rows
def none {H : Type} : Left H := { results := [], args := [] }

/- WHAT THE LISTED PACKAGE-LEVEL VARIABLES READ AS WHEN THE CALL BEGINS. Each datum BY PROGRAM (the guide's laid-datum.mjs) off the statement by which the dump's own 'gosem.cut.vars' lays the variable. In a bare row this is a premise. The card (YthnpcnmidbacjaaGreatDoorCards.lean) ties it to the program's text. -/
def laid_beadle_code_shapes {H : Type} : DataW H := .agg [.agg [.lit (.string []), .lit (.int .i64 0), .lit (.int .i64 0), .lit (.int .i64 0), .lit (.int .i64 0), .lit (.int .i64 0)], .agg [.lit (.string [112, 117, 115, 104]), .lit (.int .i64 1), .lit (.int .i64 0), .lit (.int .i64 0), .lit (.int .i64 0), .lit (.int .i64 1)], .agg [.lit (.string [100, 114, 111, 112]), .lit (.int .i64 0), .lit (.int .i64 0), .lit (.int .i64 0), .lit (.int .i64 1), .lit (.int .i64 0)], .agg [.lit (.string [100, 117, 112]), .lit (.int .i64 0), .lit (.int .i64 0), .lit (.int .i64 0), .lit (.int .i64 1), .lit (.int .i64 2)], .agg [.lit (.string [115, 119, 97, 112]), .lit (.int .i64 0), .lit (.int .i64 0), .lit (.int .i64 0), .lit (.int .i64 2), .lit (.int .i64 2)], .agg [.lit (.string [112, 105, 99, 107]), .lit (.int .i64 2), .lit (.int .i64 0), .lit (.int .i64 63), .lit (.int .i64 0), .lit (.int .i64 1)], .agg [.lit (.string [97, 114, 103]), .lit (.int .i64 2), .lit (.int .i64 0), .lit (.int .i64 7), .lit (.int .i64 0), .lit (.int .i64 1)], .agg [.lit (.string [103, 101, 116]), .lit (.int .i64 2), .lit (.int .i64 0), .lit (.int .i64 7), .lit (.int .i64 0), .lit (.int .i64 1)], .agg [.lit (.string [115, 101, 116]), .lit (.int .i64 2), .lit (.int .i64 0), .lit (.int .i64 7), .lit (.int .i64 1), .lit (.int .i64 0)], .agg [.lit (.string []), .lit (.int .i64 4), .lit (.int .i64 1), .lit (.int .i64 8), .lit (.int .i64 1), .lit (.int .i64 1)], .agg [.lit (.string []), .lit (.int .i64 5), .lit (.int .i64 1), .lit (.int .i64 12), .lit (.int .i64 2), .lit (.int .i64 1)], .agg [.lit (.string [106, 117, 109, 112]), .lit (.int .i64 3), .lit (.int .i64 0), .lit (.int .i64 1023), .lit (.int .i64 0), .lit (.int .i64 0)], .agg [.lit (.string [105, 102]), .lit (.int .i64 3), .lit (.int .i64 0), .lit (.int .i64 1023), .lit (.int .i64 1), .lit (.int .i64 0)], .agg [.lit (.string [117, 110, 108, 101, 115, 115]), .lit (.int .i64 3), .lit (.int .i64 0), .lit (.int .i64 1023), .lit (.int .i64 1), .lit (.int .i64 0)], .agg [.lit (.string [99, 97, 108, 108]), .lit (.int .i64 3), .lit (.int .i64 0), .lit (.int .i64 1023), .lit (.int .i64 0), .lit (.int .i64 0)], .agg [.lit (.string [114, 101, 116]), .lit (.int .i64 0), .lit (.int .i64 0), .lit (.int .i64 0), .lit (.int .i64 0), .lit (.int .i64 0)], .agg [.lit (.string [114, 101, 97, 100]), .lit (.int .i64 0), .lit (.int .i64 0), .lit (.int .i64 0), .lit (.int .i64 1), .lit (.int .i64 1)], .agg [.lit (.string [119, 114, 105, 116, 101]), .lit (.int .i64 0), .lit (.int .i64 0), .lit (.int .i64 0), .lit (.int .i64 2), .lit (.int .i64 0)], .agg [.lit (.string [101, 109, 105, 116]), .lit (.int .i64 0), .lit (.int .i64 0), .lit (.int .i64 0), .lit (.int .i64 1), .lit (.int .i64 0)], .agg [.lit (.string [97, 98, 111, 114, 116]), .lit (.int .i64 2), .lit (.int .i64 0), .lit (.int .i64 99), .lit (.int .i64 0), .lit (.int .i64 0)], .agg [.lit (.string [104, 97, 108, 116]), .lit (.int .i64 0), .lit (.int .i64 0), .lit (.int .i64 0), .lit (.int .i64 0), .lit (.int .i64 0)]]

/-- 'beadlelaw09.AloneRuns': WHATEVER THE INPUT: true; the input reads as it did. -/
def aloneRunsSpec : ChangeSpec := { name := "aloneRuns", fn := fun _ => fun
  | [d1, d2, d3, d4] => { results := [.lit (.bool true)], args := [d1, d2, d3, d4] }
  | _ => none }
def aloneRunsRow : OpenClaim := { program := "ythnpcnmidbacjaagreatdoor", sum := "e6ff02b06efbb134e869166537ed6f6603443a10f6b6aff37d293d98fac02424", func := "beadle/beadlelaw09.AloneRuns", spec := "aloneRuns", inPlace := ["math.Float64frombits", "math.Float64bits", "math.archFloor", "math.archTrunc", "math.sqrt"], unfollowed := true, recurses := true, named := ["beadle/code.shapes"], apart := false, laid := [("beadle/code.shapes", laid_beadle_code_shapes)] }
def AloneRunsSaid : Prop := aloneRunsRow.holds Tryz.pinned (OpenSpec.ofChange aloneRunsSpec)

/-- ITS FALSE NEIGHBOUR: 'it returns false'. Refute it at one input. -/
def aloneRunsWrong : ChangeSpec := { name := "aloneRuns", fn := fun _ => fun
  | [d1, d2, d3, d4] => { results := [.lit (.bool false)], args := [d1, d2, d3, d4] }
  | _ => none }
def AloneRunsWrongFalsely : Prop := aloneRunsRow.holds Tryz.pinned (OpenSpec.ofChange aloneRunsWrong)

/-- 'beadlelaw09.AloneCalls': WHATEVER THE INPUT: true; the input reads as it did. -/
def aloneCallsSpec : ChangeSpec := { name := "aloneCalls", fn := fun _ => fun
  | [d1, d2, d3, d4] => { results := [.lit (.bool true)], args := [d1, d2, d3, d4] }
  | _ => none }
def aloneCallsRow : OpenClaim := { program := "ythnpcnmidbacjaagreatdoor", sum := "e6ff02b06efbb134e869166537ed6f6603443a10f6b6aff37d293d98fac02424", func := "beadle/beadlelaw09.AloneCalls", spec := "aloneCalls", inPlace := ["math.Float64frombits", "math.Float64bits", "math.archFloor", "math.archTrunc", "math.sqrt"], unfollowed := true, recurses := true, named := ["beadle/code.shapes"], apart := false, laid := [("beadle/code.shapes", laid_beadle_code_shapes)] }
def AloneCallsSaid : Prop := aloneCallsRow.holds Tryz.pinned (OpenSpec.ofChange aloneCallsSpec)

/-- ITS FALSE NEIGHBOUR: 'it returns false'. Refute it at one input. -/
def aloneCallsWrong : ChangeSpec := { name := "aloneCalls", fn := fun _ => fun
  | [d1, d2, d3, d4] => { results := [.lit (.bool false)], args := [d1, d2, d3, d4] }
  | _ => none }
def AloneCallsWrongFalsely : Prop := aloneCallsRow.holds Tryz.pinned (OpenSpec.ofChange aloneCallsWrong)

/-- 'beadlelaw09.AloneQuiet': WHATEVER THE INPUT: true; the input reads as it did. -/
def aloneQuietSpec : ChangeSpec := { name := "aloneQuiet", fn := fun _ => fun
  | [d1, d2, d3, d4] => { results := [.lit (.bool true)], args := [d1, d2, d3, d4] }
  | _ => none }
def aloneQuietRow : OpenClaim := { program := "ythnpcnmidbacjaagreatdoor", sum := "e6ff02b06efbb134e869166537ed6f6603443a10f6b6aff37d293d98fac02424", func := "beadle/beadlelaw09.AloneQuiet", spec := "aloneQuiet", inPlace := ["math.Float64frombits", "math.Float64bits", "math.archFloor", "math.archTrunc", "math.sqrt"], unfollowed := true, recurses := true, named := ["beadle/code.shapes"], apart := false, laid := [("beadle/code.shapes", laid_beadle_code_shapes)] }
def AloneQuietSaid : Prop := aloneQuietRow.holds Tryz.pinned (OpenSpec.ofChange aloneQuietSpec)

/-- ITS FALSE NEIGHBOUR: 'it returns false'. Refute it at one input. -/
def aloneQuietWrong : ChangeSpec := { name := "aloneQuiet", fn := fun _ => fun
  | [d1, d2, d3, d4] => { results := [.lit (.bool false)], args := [d1, d2, d3, d4] }
  | _ => none }
def AloneQuietWrongFalsely : Prop := aloneQuietRow.holds Tryz.pinned (OpenSpec.ofChange aloneQuietWrong)

/-- 'beadlelaw09.AloneJoined': WHATEVER THE INPUT: true; the input reads as it did. -/
def aloneJoinedSpec : ChangeSpec := { name := "aloneJoined", fn := fun _ => fun
  | [d1, d2, d3, d4] => { results := [.lit (.bool true)], args := [d1, d2, d3, d4] }
  | _ => none }
def aloneJoinedRow : OpenClaim := { program := "ythnpcnmidbacjaagreatdoor", sum := "e6ff02b06efbb134e869166537ed6f6603443a10f6b6aff37d293d98fac02424", func := "beadle/beadlelaw09.AloneJoined", spec := "aloneJoined", inPlace := ["math.Float64frombits", "math.Float64bits", "math.archFloor", "math.archTrunc", "math.sqrt"], unfollowed := true, recurses := true, named := ["beadle/code.shapes"], apart := false, laid := [("beadle/code.shapes", laid_beadle_code_shapes)] }
def AloneJoinedSaid : Prop := aloneJoinedRow.holds Tryz.pinned (OpenSpec.ofChange aloneJoinedSpec)

/-- ITS FALSE NEIGHBOUR: 'it returns false'. Refute it at one input. -/
def aloneJoinedWrong : ChangeSpec := { name := "aloneJoined", fn := fun _ => fun
  | [d1, d2, d3, d4] => { results := [.lit (.bool false)], args := [d1, d2, d3, d4] }
  | _ => none }
def AloneJoinedWrongFalsely : Prop := aloneJoinedRow.holds Tryz.pinned (OpenSpec.ofChange aloneJoinedWrong)

/-- 'beadlelaw09.AloneMore': WHATEVER THE INPUT: true; the input reads as it did. -/
def aloneMoreSpec : ChangeSpec := { name := "aloneMore", fn := fun _ => fun
  | [d1, d2, d3, d4] => { results := [.lit (.bool true)], args := [d1, d2, d3, d4] }
  | _ => none }
def aloneMoreRow : OpenClaim := { program := "ythnpcnmidbacjaagreatdoor", sum := "e6ff02b06efbb134e869166537ed6f6603443a10f6b6aff37d293d98fac02424", func := "beadle/beadlelaw09.AloneMore", spec := "aloneMore", inPlace := ["math.Float64frombits", "math.Float64bits", "math.archFloor", "math.archTrunc", "math.sqrt"], unfollowed := true, recurses := true, named := ["beadle/code.shapes"], apart := false, laid := [("beadle/code.shapes", laid_beadle_code_shapes)] }
def AloneMoreSaid : Prop := aloneMoreRow.holds Tryz.pinned (OpenSpec.ofChange aloneMoreSpec)

/-- ITS FALSE NEIGHBOUR: 'it returns false'. Refute it at one input. -/
def aloneMoreWrong : ChangeSpec := { name := "aloneMore", fn := fun _ => fun
  | [d1, d2, d3, d4] => { results := [.lit (.bool false)], args := [d1, d2, d3, d4] }
  | _ => none }
def AloneMoreWrongFalsely : Prop := aloneMoreRow.holds Tryz.pinned (OpenSpec.ofChange aloneMoreWrong)

/-- 'beadlelaw09.AloneTag': WHATEVER THE INPUT: true; the input reads as it did. -/
def aloneTagSpec : ChangeSpec := { name := "aloneTag", fn := fun _ => fun
  | [d1, d2, d3, d4] => { results := [.lit (.bool true)], args := [d1, d2, d3, d4] }
  | _ => none }
def aloneTagRow : OpenClaim := { program := "ythnpcnmidbacjaagreatdoor", sum := "e6ff02b06efbb134e869166537ed6f6603443a10f6b6aff37d293d98fac02424", func := "beadle/beadlelaw09.AloneTag", spec := "aloneTag", inPlace := ["math.Float64frombits", "math.Float64bits", "math.archFloor", "math.archTrunc", "math.sqrt"], unfollowed := true, recurses := true, named := ["beadle/code.shapes"], apart := false, laid := [("beadle/code.shapes", laid_beadle_code_shapes)] }
def AloneTagSaid : Prop := aloneTagRow.holds Tryz.pinned (OpenSpec.ofChange aloneTagSpec)

/-- ITS FALSE NEIGHBOUR: 'it returns false'. Refute it at one input. -/
def aloneTagWrong : ChangeSpec := { name := "aloneTag", fn := fun _ => fun
  | [d1, d2, d3, d4] => { results := [.lit (.bool false)], args := [d1, d2, d3, d4] }
  | _ => none }
def AloneTagWrongFalsely : Prop := aloneTagRow.holds Tryz.pinned (OpenSpec.ofChange aloneTagWrong)

/- THE SECOND FORM. 'bulk': how many values and letters a reading holds, each counted each time it is reached (what is shared counts as often as it is met; a slice's spare places count too). A statement '..UptoSaid' is the law's where the arguments, and the package variables that the reading takes, are together of bulk at most 1048576: NARROWER than '..Said'. Prove '..Said' where nothing that the law and all that it calls make is longer than what came in: it says more and counts as full. Else prove '..UptoSaid'. A law counts once. -/
mutual
def uptoBulk {H : Type} : DataW H → Nat
  | .lit (.string bytes) => bytes.length + 1
  | .lit _ => 1
  | .nil => 1
  | .ptr d => uptoBulk d + 1
  | .slice elems spare => uptoBulkAll elems + uptoBulkAll spare + 1
  | .agg parts => uptoBulkAll parts + 1
  | .iface _ d => uptoBulk d + 1
  | .map entries => uptoBulkEntries entries + 1
  | .held _ => 1
def uptoBulkAll {H : Type} : List (DataW H) → Nat
  | [] => 0
  | d :: r => uptoBulk d + uptoBulkAll r
def uptoBulkEntries {H : Type} : List (Lit × DataW H) → Nat
  | [] => 0
  | x :: r => uptoBulkEntry x + uptoBulkEntries r
def uptoBulkEntry {H : Type} : Lit × DataW H → Nat
  | (.string bytes, d) => bytes.length + uptoBulk d + 1
  | (_, d) => uptoBulk d + 1
 end
def uptoSmall : (H : Type) → List (DataW H) → Bool := fun _ ds => decide (uptoBulkAll ds ≤ 1048576)
def OpenSpec.upto (s : _root_.Go.ChangeSpec) : _root_.Go.OpenSpec := { _root_.Go.OpenSpec.ofChange s with cond := some uptoSmall }

/-- 'beadlelaw09.AloneRuns', WHERE WHAT IT READS IS OF BULK AT MOST 1048576: true; the input reads as it did. -/
def aloneRunsUptoRow : OpenClaim := { program := "ythnpcnmidbacjaagreatdoor", sum := "e6ff02b06efbb134e869166537ed6f6603443a10f6b6aff37d293d98fac02424", func := "beadle/beadlelaw09.AloneRuns", spec := "aloneRuns", inPlace := ["math.Float64frombits", "math.Float64bits", "math.archFloor", "math.archTrunc", "math.sqrt"], unfollowed := true, recurses := true, named := ["beadle/code.shapes"], apart := false, laid := [("beadle/code.shapes", laid_beadle_code_shapes)], narrowed := true }
def AloneRunsUptoSaid : Prop := aloneRunsUptoRow.holds Tryz.pinned (OpenSpec.upto aloneRunsSpec)

/-- 'beadlelaw09.AloneCalls', WHERE WHAT IT READS IS OF BULK AT MOST 1048576: true; the input reads as it did. -/
def aloneCallsUptoRow : OpenClaim := { program := "ythnpcnmidbacjaagreatdoor", sum := "e6ff02b06efbb134e869166537ed6f6603443a10f6b6aff37d293d98fac02424", func := "beadle/beadlelaw09.AloneCalls", spec := "aloneCalls", inPlace := ["math.Float64frombits", "math.Float64bits", "math.archFloor", "math.archTrunc", "math.sqrt"], unfollowed := true, recurses := true, named := ["beadle/code.shapes"], apart := false, laid := [("beadle/code.shapes", laid_beadle_code_shapes)], narrowed := true }
def AloneCallsUptoSaid : Prop := aloneCallsUptoRow.holds Tryz.pinned (OpenSpec.upto aloneCallsSpec)

/-- 'beadlelaw09.AloneQuiet', WHERE WHAT IT READS IS OF BULK AT MOST 1048576: true; the input reads as it did. -/
def aloneQuietUptoRow : OpenClaim := { program := "ythnpcnmidbacjaagreatdoor", sum := "e6ff02b06efbb134e869166537ed6f6603443a10f6b6aff37d293d98fac02424", func := "beadle/beadlelaw09.AloneQuiet", spec := "aloneQuiet", inPlace := ["math.Float64frombits", "math.Float64bits", "math.archFloor", "math.archTrunc", "math.sqrt"], unfollowed := true, recurses := true, named := ["beadle/code.shapes"], apart := false, laid := [("beadle/code.shapes", laid_beadle_code_shapes)], narrowed := true }
def AloneQuietUptoSaid : Prop := aloneQuietUptoRow.holds Tryz.pinned (OpenSpec.upto aloneQuietSpec)

/-- 'beadlelaw09.AloneJoined', WHERE WHAT IT READS IS OF BULK AT MOST 1048576: true; the input reads as it did. -/
def aloneJoinedUptoRow : OpenClaim := { program := "ythnpcnmidbacjaagreatdoor", sum := "e6ff02b06efbb134e869166537ed6f6603443a10f6b6aff37d293d98fac02424", func := "beadle/beadlelaw09.AloneJoined", spec := "aloneJoined", inPlace := ["math.Float64frombits", "math.Float64bits", "math.archFloor", "math.archTrunc", "math.sqrt"], unfollowed := true, recurses := true, named := ["beadle/code.shapes"], apart := false, laid := [("beadle/code.shapes", laid_beadle_code_shapes)], narrowed := true }
def AloneJoinedUptoSaid : Prop := aloneJoinedUptoRow.holds Tryz.pinned (OpenSpec.upto aloneJoinedSpec)

/-- 'beadlelaw09.AloneMore', WHERE WHAT IT READS IS OF BULK AT MOST 1048576: true; the input reads as it did. -/
def aloneMoreUptoRow : OpenClaim := { program := "ythnpcnmidbacjaagreatdoor", sum := "e6ff02b06efbb134e869166537ed6f6603443a10f6b6aff37d293d98fac02424", func := "beadle/beadlelaw09.AloneMore", spec := "aloneMore", inPlace := ["math.Float64frombits", "math.Float64bits", "math.archFloor", "math.archTrunc", "math.sqrt"], unfollowed := true, recurses := true, named := ["beadle/code.shapes"], apart := false, laid := [("beadle/code.shapes", laid_beadle_code_shapes)], narrowed := true }
def AloneMoreUptoSaid : Prop := aloneMoreUptoRow.holds Tryz.pinned (OpenSpec.upto aloneMoreSpec)

/-- 'beadlelaw09.AloneTag', WHERE WHAT IT READS IS OF BULK AT MOST 1048576: true; the input reads as it did. -/
def aloneTagUptoRow : OpenClaim := { program := "ythnpcnmidbacjaagreatdoor", sum := "e6ff02b06efbb134e869166537ed6f6603443a10f6b6aff37d293d98fac02424", func := "beadle/beadlelaw09.AloneTag", spec := "aloneTag", inPlace := ["math.Float64frombits", "math.Float64bits", "math.archFloor", "math.archTrunc", "math.sqrt"], unfollowed := true, recurses := true, named := ["beadle/code.shapes"], apart := false, laid := [("beadle/code.shapes", laid_beadle_code_shapes)], narrowed := true }
def AloneTagUptoSaid : Prop := aloneTagUptoRow.holds Tryz.pinned (OpenSpec.upto aloneTagSpec)

end Rows
end Go.Proofs.YthnpcnmidbacjaaGreatDoor
