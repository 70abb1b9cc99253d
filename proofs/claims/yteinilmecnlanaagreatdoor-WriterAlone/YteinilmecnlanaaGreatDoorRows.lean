/-
  NARROWER THAN 'FOR EVERY INPUT', by the rows' own cells (each row's printed sentence says how): WriterSteps: laid · WriterSmall: laid · WriterTurn: laid · WriterHides: laid · WriterBack: laid · WriterAlone: laid.
  DERIVED. THE GIVEN ROWS OF THIS SEAT. 6 by the template 'for every input the law returns true; each argument reads behind the call as it read before'; 0 by the template 'total and deterministic' (their statements: YteinilmecnlanaaGreatDoorTotals.lean).
  GIVEN WITH THE SEED: the statements are not yours to turn. If you find one false, say at which input.
  Laid BY PROGRAM, IN A SANDBOX (cutbox-rows.mjs): the forced cells as the released guide's own fill.sh prints them over the translation 9eafb34eac465c53… (all of the seat's roots in one cut). By AI agents, Wed Nov 11 2026. No macro, syntax, notation, axiom, sorry.
-/
import Derived.Test.YteinilmecnlanaaGreatDoorChecked
import GoSem.Claim
import GoSem.ClaimJoined
import GoSem.ClaimMapViews
import Derived.JoinedTies
import Derived.KernelRfl
namespace Go.Proofs.YteinilmecnlanaaGreatDoor
/- THE CELL 'sum', in the pinned program and in every row, IS THE sha256 OF THE DUMP (.gsa) THAT YteinilmecnlanaaGreatDoorProg.lean LOADS. Nothing in Lean hashes anything: it is a label: what it is worth is what the hold of that sum in a sandbox is worth. -/
noncomputable def Tryz.pinned : Pinned := { name := "yteinilmecnlanaagreatdoor", sum := "9eafb34eac465c538a84a9d60ce85190438c123850875dc3ed6ab56dee0a39ba", checked := Tryz.checked }
namespace Rows
def none {H : Type} : Left H := { results := [], args := [] }

/- WHAT THE LISTED PACKAGE-LEVEL VARIABLES READ AS WHEN THE CALL BEGINS. Each datum BY PROGRAM (the guide's laid-datum.mjs) off the statement by which the dump's own 'gosem.cut.vars' lays the variable. In a bare row this is a premise. The card (YteinilmecnlanaaGreatDoorCards.lean) ties it to the program's text. -/
def laid_beadle_code_shapes {H : Type} : DataW H := .agg [.agg [.lit (.string []), .lit (.int .i64 0), .lit (.int .i64 0), .lit (.int .i64 0), .lit (.int .i64 0), .lit (.int .i64 0)], .agg [.lit (.string [112, 117, 115, 104]), .lit (.int .i64 1), .lit (.int .i64 0), .lit (.int .i64 0), .lit (.int .i64 0), .lit (.int .i64 1)], .agg [.lit (.string [100, 114, 111, 112]), .lit (.int .i64 0), .lit (.int .i64 0), .lit (.int .i64 0), .lit (.int .i64 1), .lit (.int .i64 0)], .agg [.lit (.string [100, 117, 112]), .lit (.int .i64 0), .lit (.int .i64 0), .lit (.int .i64 0), .lit (.int .i64 1), .lit (.int .i64 2)], .agg [.lit (.string [115, 119, 97, 112]), .lit (.int .i64 0), .lit (.int .i64 0), .lit (.int .i64 0), .lit (.int .i64 2), .lit (.int .i64 2)], .agg [.lit (.string [112, 105, 99, 107]), .lit (.int .i64 2), .lit (.int .i64 0), .lit (.int .i64 63), .lit (.int .i64 0), .lit (.int .i64 1)], .agg [.lit (.string [97, 114, 103]), .lit (.int .i64 2), .lit (.int .i64 0), .lit (.int .i64 7), .lit (.int .i64 0), .lit (.int .i64 1)], .agg [.lit (.string [103, 101, 116]), .lit (.int .i64 2), .lit (.int .i64 0), .lit (.int .i64 7), .lit (.int .i64 0), .lit (.int .i64 1)], .agg [.lit (.string [115, 101, 116]), .lit (.int .i64 2), .lit (.int .i64 0), .lit (.int .i64 7), .lit (.int .i64 1), .lit (.int .i64 0)], .agg [.lit (.string []), .lit (.int .i64 4), .lit (.int .i64 1), .lit (.int .i64 8), .lit (.int .i64 1), .lit (.int .i64 1)], .agg [.lit (.string []), .lit (.int .i64 5), .lit (.int .i64 1), .lit (.int .i64 12), .lit (.int .i64 2), .lit (.int .i64 1)], .agg [.lit (.string [106, 117, 109, 112]), .lit (.int .i64 3), .lit (.int .i64 0), .lit (.int .i64 1023), .lit (.int .i64 0), .lit (.int .i64 0)], .agg [.lit (.string [105, 102]), .lit (.int .i64 3), .lit (.int .i64 0), .lit (.int .i64 1023), .lit (.int .i64 1), .lit (.int .i64 0)], .agg [.lit (.string [117, 110, 108, 101, 115, 115]), .lit (.int .i64 3), .lit (.int .i64 0), .lit (.int .i64 1023), .lit (.int .i64 1), .lit (.int .i64 0)], .agg [.lit (.string [99, 97, 108, 108]), .lit (.int .i64 3), .lit (.int .i64 0), .lit (.int .i64 1023), .lit (.int .i64 0), .lit (.int .i64 0)], .agg [.lit (.string [114, 101, 116]), .lit (.int .i64 0), .lit (.int .i64 0), .lit (.int .i64 0), .lit (.int .i64 0), .lit (.int .i64 0)], .agg [.lit (.string [114, 101, 97, 100]), .lit (.int .i64 0), .lit (.int .i64 0), .lit (.int .i64 0), .lit (.int .i64 1), .lit (.int .i64 1)], .agg [.lit (.string [119, 114, 105, 116, 101]), .lit (.int .i64 0), .lit (.int .i64 0), .lit (.int .i64 0), .lit (.int .i64 2), .lit (.int .i64 0)], .agg [.lit (.string [101, 109, 105, 116]), .lit (.int .i64 0), .lit (.int .i64 0), .lit (.int .i64 0), .lit (.int .i64 1), .lit (.int .i64 0)], .agg [.lit (.string [97, 98, 111, 114, 116]), .lit (.int .i64 2), .lit (.int .i64 0), .lit (.int .i64 99), .lit (.int .i64 0), .lit (.int .i64 0)], .agg [.lit (.string [104, 97, 108, 116]), .lit (.int .i64 0), .lit (.int .i64 0), .lit (.int .i64 0), .lit (.int .i64 0), .lit (.int .i64 0)]]

/-- 'beadlelaw15.WriterSteps': WHATEVER THE INPUT: true; the input reads as it did. -/
def writerStepsSpec : ChangeSpec := { name := "writerSteps", fn := fun _ => fun
  | [d] => { results := [.lit (.bool true)], args := [d] }
  | _ => none }
def writerStepsRow : OpenClaim := { program := "yteinilmecnlanaagreatdoor", sum := "9eafb34eac465c538a84a9d60ce85190438c123850875dc3ed6ab56dee0a39ba", func := "beadle/beadlelaw15.WriterSteps", spec := "writerSteps", inPlace := ["math.Float64frombits", "math.Float64bits", "math.archFloor", "math.archTrunc", "math.sqrt"], unfollowed := true, recurses := true, named := ["beadle/code.shapes"], apart := false, laid := [("beadle/code.shapes", laid_beadle_code_shapes)] }
def WriterStepsSaid : Prop := writerStepsRow.holds Tryz.pinned (OpenSpec.ofChange writerStepsSpec)

/-- ITS FALSE NEIGHBOUR: 'it returns false'. Refute it at one input. -/
def writerStepsWrong : ChangeSpec := { name := "writerSteps", fn := fun _ => fun
  | [d] => { results := [.lit (.bool false)], args := [d] }
  | _ => none }
def WriterStepsWrongFalsely : Prop := writerStepsRow.holds Tryz.pinned (OpenSpec.ofChange writerStepsWrong)

/-- 'beadlelaw15.WriterSmall': WHATEVER THE INPUT: true; the input reads as it did. -/
def writerSmallSpec : ChangeSpec := { name := "writerSmall", fn := fun _ => fun
  | [d1, d2] => { results := [.lit (.bool true)], args := [d1, d2] }
  | _ => none }
def writerSmallRow : OpenClaim := { program := "yteinilmecnlanaagreatdoor", sum := "9eafb34eac465c538a84a9d60ce85190438c123850875dc3ed6ab56dee0a39ba", func := "beadle/beadlelaw15.WriterSmall", spec := "writerSmall", inPlace := ["math.Float64frombits", "math.Float64bits", "math.archFloor", "math.archTrunc", "math.sqrt"], unfollowed := true, recurses := true, named := ["beadle/code.shapes"], apart := false, laid := [("beadle/code.shapes", laid_beadle_code_shapes)] }
def WriterSmallSaid : Prop := writerSmallRow.holds Tryz.pinned (OpenSpec.ofChange writerSmallSpec)

/-- ITS FALSE NEIGHBOUR: 'it returns false'. Refute it at one input. -/
def writerSmallWrong : ChangeSpec := { name := "writerSmall", fn := fun _ => fun
  | [d1, d2] => { results := [.lit (.bool false)], args := [d1, d2] }
  | _ => none }
def WriterSmallWrongFalsely : Prop := writerSmallRow.holds Tryz.pinned (OpenSpec.ofChange writerSmallWrong)

/-- 'beadlelaw15.WriterTurn': WHATEVER THE INPUT: true; the input reads as it did. -/
def writerTurnSpec : ChangeSpec := { name := "writerTurn", fn := fun _ => fun
  | [d1, d2] => { results := [.lit (.bool true)], args := [d1, d2] }
  | _ => none }
def writerTurnRow : OpenClaim := { program := "yteinilmecnlanaagreatdoor", sum := "9eafb34eac465c538a84a9d60ce85190438c123850875dc3ed6ab56dee0a39ba", func := "beadle/beadlelaw15.WriterTurn", spec := "writerTurn", inPlace := ["math.Float64frombits", "math.Float64bits", "math.archFloor", "math.archTrunc", "math.sqrt"], unfollowed := true, recurses := true, named := ["beadle/code.shapes"], apart := false, laid := [("beadle/code.shapes", laid_beadle_code_shapes)] }
def WriterTurnSaid : Prop := writerTurnRow.holds Tryz.pinned (OpenSpec.ofChange writerTurnSpec)

/-- ITS FALSE NEIGHBOUR: 'it returns false'. Refute it at one input. -/
def writerTurnWrong : ChangeSpec := { name := "writerTurn", fn := fun _ => fun
  | [d1, d2] => { results := [.lit (.bool false)], args := [d1, d2] }
  | _ => none }
def WriterTurnWrongFalsely : Prop := writerTurnRow.holds Tryz.pinned (OpenSpec.ofChange writerTurnWrong)

/-- 'beadlelaw15.WriterHides': WHATEVER THE INPUT: true; the input reads as it did. -/
def writerHidesSpec : ChangeSpec := { name := "writerHides", fn := fun _ => fun
  | [d] => { results := [.lit (.bool true)], args := [d] }
  | _ => none }
def writerHidesRow : OpenClaim := { program := "yteinilmecnlanaagreatdoor", sum := "9eafb34eac465c538a84a9d60ce85190438c123850875dc3ed6ab56dee0a39ba", func := "beadle/beadlelaw15.WriterHides", spec := "writerHides", inPlace := ["math.Float64frombits", "math.Float64bits", "math.archFloor", "math.archTrunc", "math.sqrt"], unfollowed := true, recurses := true, named := ["beadle/code.shapes"], apart := false, laid := [("beadle/code.shapes", laid_beadle_code_shapes)] }
def WriterHidesSaid : Prop := writerHidesRow.holds Tryz.pinned (OpenSpec.ofChange writerHidesSpec)

/-- ITS FALSE NEIGHBOUR: 'it returns false'. Refute it at one input. -/
def writerHidesWrong : ChangeSpec := { name := "writerHides", fn := fun _ => fun
  | [d] => { results := [.lit (.bool false)], args := [d] }
  | _ => none }
def WriterHidesWrongFalsely : Prop := writerHidesRow.holds Tryz.pinned (OpenSpec.ofChange writerHidesWrong)

/-- 'beadlelaw15.WriterBack': WHATEVER THE INPUT: true; the input reads as it did. -/
def writerBackSpec : ChangeSpec := { name := "writerBack", fn := fun _ => fun
  | [d] => { results := [.lit (.bool true)], args := [d] }
  | _ => none }
def writerBackRow : OpenClaim := { program := "yteinilmecnlanaagreatdoor", sum := "9eafb34eac465c538a84a9d60ce85190438c123850875dc3ed6ab56dee0a39ba", func := "beadle/beadlelaw15.WriterBack", spec := "writerBack", inPlace := ["math.Float64frombits", "math.Float64bits", "math.archFloor", "math.archTrunc", "math.sqrt"], unfollowed := true, recurses := true, named := ["beadle/code.shapes"], apart := false, laid := [("beadle/code.shapes", laid_beadle_code_shapes)] }
def WriterBackSaid : Prop := writerBackRow.holds Tryz.pinned (OpenSpec.ofChange writerBackSpec)

/-- ITS FALSE NEIGHBOUR: 'it returns false'. Refute it at one input. -/
def writerBackWrong : ChangeSpec := { name := "writerBack", fn := fun _ => fun
  | [d] => { results := [.lit (.bool false)], args := [d] }
  | _ => none }
def WriterBackWrongFalsely : Prop := writerBackRow.holds Tryz.pinned (OpenSpec.ofChange writerBackWrong)

/-- 'beadlelaw15.WriterAlone': WHATEVER THE INPUT: true; the input reads as it did. -/
def writerAloneSpec : ChangeSpec := { name := "writerAlone", fn := fun _ => fun
  | [d] => { results := [.lit (.bool true)], args := [d] }
  | _ => none }
def writerAloneRow : OpenClaim := { program := "yteinilmecnlanaagreatdoor", sum := "9eafb34eac465c538a84a9d60ce85190438c123850875dc3ed6ab56dee0a39ba", func := "beadle/beadlelaw15.WriterAlone", spec := "writerAlone", inPlace := ["math.Float64frombits", "math.Float64bits", "math.archFloor", "math.archTrunc", "math.sqrt"], unfollowed := true, recurses := true, named := ["beadle/code.shapes"], apart := false, laid := [("beadle/code.shapes", laid_beadle_code_shapes)] }
def WriterAloneSaid : Prop := writerAloneRow.holds Tryz.pinned (OpenSpec.ofChange writerAloneSpec)

/-- ITS FALSE NEIGHBOUR: 'it returns false'. Refute it at one input. -/
def writerAloneWrong : ChangeSpec := { name := "writerAlone", fn := fun _ => fun
  | [d] => { results := [.lit (.bool false)], args := [d] }
  | _ => none }
def WriterAloneWrongFalsely : Prop := writerAloneRow.holds Tryz.pinned (OpenSpec.ofChange writerAloneWrong)

/- THE SECOND FORM. 'bulk': how many values and letters a reading holds, each counted each time it is reached (what is shared counts as often as it is met; a slice's spare places count too). A statement '..UptoSaid' is the law's where the arguments, and the package variables that the reading takes, are together of bulk at most 1048576: NARROWER than '..Said'. Prove '..Said' where nothing that the law and all that it calls make is longer than what came in: it says more and counts as full. Else prove '..UptoSaid'. A law counts once. -/
mutual
def uptoBulk {H : Type} : DataW H → Nat
  | .lit (.string bytes) => bytes.length + 1
  | .lit _ => 1
  | .nil => 1
  | .ptr d => uptoBulk d + 1
  | .slice elems spare => uptoBulkAll elems + uptoBulkAll spare + 1
  | .agg parts => uptoBulkAll parts + 1
  | .iface _ d => uptoBulk d + 1
  | .map entries => uptoBulkEntries entries + 1
  | .held _ => 1
def uptoBulkAll {H : Type} : List (DataW H) → Nat
  | [] => 0
  | d :: r => uptoBulk d + uptoBulkAll r
def uptoBulkEntries {H : Type} : List (Lit × DataW H) → Nat
  | [] => 0
  | x :: r => uptoBulkEntry x + uptoBulkEntries r
def uptoBulkEntry {H : Type} : Lit × DataW H → Nat
  | (.string bytes, d) => bytes.length + uptoBulk d + 1
  | (_, d) => uptoBulk d + 1
 end
def uptoSmall : (H : Type) → List (DataW H) → Bool := fun _ ds => decide (uptoBulkAll ds ≤ 1048576)
def OpenSpec.upto (s : _root_.Go.ChangeSpec) : _root_.Go.OpenSpec := { _root_.Go.OpenSpec.ofChange s with cond := some uptoSmall }

/-- 'beadlelaw15.WriterSteps', WHERE WHAT IT READS IS OF BULK AT MOST 1048576: true; the input reads as it did. -/
def writerStepsUptoRow : OpenClaim := { program := "yteinilmecnlanaagreatdoor", sum := "9eafb34eac465c538a84a9d60ce85190438c123850875dc3ed6ab56dee0a39ba", func := "beadle/beadlelaw15.WriterSteps", spec := "writerSteps", inPlace := ["math.Float64frombits", "math.Float64bits", "math.archFloor", "math.archTrunc", "math.sqrt"], unfollowed := true, recurses := true, named := ["beadle/code.shapes"], apart := false, laid := [("beadle/code.shapes", laid_beadle_code_shapes)], narrowed := true }
def WriterStepsUptoSaid : Prop := writerStepsUptoRow.holds Tryz.pinned (OpenSpec.upto writerStepsSpec)

/-- 'beadlelaw15.WriterSmall', WHERE WHAT IT READS IS OF BULK AT MOST 1048576: true; the input reads as it did. -/
def writerSmallUptoRow : OpenClaim := { program := "yteinilmecnlanaagreatdoor", sum := "9eafb34eac465c538a84a9d60ce85190438c123850875dc3ed6ab56dee0a39ba", func := "beadle/beadlelaw15.WriterSmall", spec := "writerSmall", inPlace := ["math.Float64frombits", "math.Float64bits", "math.archFloor", "math.archTrunc", "math.sqrt"], unfollowed := true, recurses := true, named := ["beadle/code.shapes"], apart := false, laid := [("beadle/code.shapes", laid_beadle_code_shapes)], narrowed := true }
def WriterSmallUptoSaid : Prop := writerSmallUptoRow.holds Tryz.pinned (OpenSpec.upto writerSmallSpec)

/-- 'beadlelaw15.WriterTurn', WHERE WHAT IT READS IS OF BULK AT MOST 1048576: true; the input reads as it did. -/
def writerTurnUptoRow : OpenClaim := { program := "yteinilmecnlanaagreatdoor", sum := "9eafb34eac465c538a84a9d60ce85190438c123850875dc3ed6ab56dee0a39ba", func := "beadle/beadlelaw15.WriterTurn", spec := "writerTurn", inPlace := ["math.Float64frombits", "math.Float64bits", "math.archFloor", "math.archTrunc", "math.sqrt"], unfollowed := true, recurses := true, named := ["beadle/code.shapes"], apart := false, laid := [("beadle/code.shapes", laid_beadle_code_shapes)], narrowed := true }
def WriterTurnUptoSaid : Prop := writerTurnUptoRow.holds Tryz.pinned (OpenSpec.upto writerTurnSpec)

/-- 'beadlelaw15.WriterHides', WHERE WHAT IT READS IS OF BULK AT MOST 1048576: true; the input reads as it did. -/
def writerHidesUptoRow : OpenClaim := { program := "yteinilmecnlanaagreatdoor", sum := "9eafb34eac465c538a84a9d60ce85190438c123850875dc3ed6ab56dee0a39ba", func := "beadle/beadlelaw15.WriterHides", spec := "writerHides", inPlace := ["math.Float64frombits", "math.Float64bits", "math.archFloor", "math.archTrunc", "math.sqrt"], unfollowed := true, recurses := true, named := ["beadle/code.shapes"], apart := false, laid := [("beadle/code.shapes", laid_beadle_code_shapes)], narrowed := true }
def WriterHidesUptoSaid : Prop := writerHidesUptoRow.holds Tryz.pinned (OpenSpec.upto writerHidesSpec)

/-- 'beadlelaw15.WriterBack', WHERE WHAT IT READS IS OF BULK AT MOST 1048576: true; the input reads as it did. -/
def writerBackUptoRow : OpenClaim := { program := "yteinilmecnlanaagreatdoor", sum := "9eafb34eac465c538a84a9d60ce85190438c123850875dc3ed6ab56dee0a39ba", func := "beadle/beadlelaw15.WriterBack", spec := "writerBack", inPlace := ["math.Float64frombits", "math.Float64bits", "math.archFloor", "math.archTrunc", "math.sqrt"], unfollowed := true, recurses := true, named := ["beadle/code.shapes"], apart := false, laid := [("beadle/code.shapes", laid_beadle_code_shapes)], narrowed := true }
def WriterBackUptoSaid : Prop := writerBackUptoRow.holds Tryz.pinned (OpenSpec.upto writerBackSpec)

/-- 'beadlelaw15.WriterAlone', WHERE WHAT IT READS IS OF BULK AT MOST 1048576: true; the input reads as it did. -/
def writerAloneUptoRow : OpenClaim := { program := "yteinilmecnlanaagreatdoor", sum := "9eafb34eac465c538a84a9d60ce85190438c123850875dc3ed6ab56dee0a39ba", func := "beadle/beadlelaw15.WriterAlone", spec := "writerAlone", inPlace := ["math.Float64frombits", "math.Float64bits", "math.archFloor", "math.archTrunc", "math.sqrt"], unfollowed := true, recurses := true, named := ["beadle/code.shapes"], apart := false, laid := [("beadle/code.shapes", laid_beadle_code_shapes)], narrowed := true }
def WriterAloneUptoSaid : Prop := writerAloneUptoRow.holds Tryz.pinned (OpenSpec.upto writerAloneSpec)

end Rows
end Go.Proofs.YteinilmecnlanaaGreatDoor
