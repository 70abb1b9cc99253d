/-
  NARROWER THAN 'FOR EVERY INPUT', by the rows' own cells (each row's printed sentence says how): EngineRuns: laid · EngineSteps: laid · EngineJoined: laid · EngineIdle: laid · EngineClones: laid · EngineQuiet: laid.
  DERIVED. THE GIVEN ROWS OF THIS SEAT. 6 by the template 'for every input the law returns true; each argument reads behind the call as it read before'; 0 by the template 'total and deterministic' (their statements: YtlkldgopliablaaGreatDoorTotals.lean).
  GIVEN WITH THE SEED: the statements are not yours to turn. If you find one false, say at which input.
  Laid BY PROGRAM, IN A SANDBOX (cutbox-rows.mjs): the forced cells as the released guide's own fill.sh prints them over the translation 4a243c016c4c8b7f… (all of the seat's roots in one cut). By AI agents, Wed Nov 11 2026. No macro, syntax, notation, axiom, sorry.
-/
import Derived.Test.YtlkldgopliablaaGreatDoorChecked
import GoSem.Claim
import GoSem.ClaimJoined
import GoSem.ClaimMapViews
import Derived.JoinedTies
import Derived.KernelRfl
namespace Go.Proofs.YtlkldgopliablaaGreatDoor
/- THE CELL 'sum', in the pinned program and in every row, IS THE sha256 OF THE DUMP (.gsa) THAT YtlkldgopliablaaGreatDoorProg.lean LOADS. Nothing in Lean hashes anything: it is a label: what it is worth is what the hold of that sum in a sandbox is worth. -/
noncomputable def Tryz.pinned : Pinned := { name := "ytlkldgopliablaagreatdoor", sum := "4a243c016c4c8b7f8afa8a041e110a27098517996c21250466f019fa320a77b2", checked := Tryz.checked }
namespace Rows
def none {H : Type} : Left H := { results := [], args := [] }

/- WHAT THE LISTED PACKAGE-LEVEL VARIABLES READ AS WHEN THE CALL BEGINS. Each datum BY PROGRAM (the guide's laid-datum.mjs) off the statement by which the dump's own 'gosem.cut.vars' lays the variable. In a bare row this is a premise. The card (YtlkldgopliablaaGreatDoorCards.lean) ties it to the program's text. -/
def laid_beadle_code_shapes {H : Type} : DataW H := .agg [.agg [.lit (.string []), .lit (.int .i64 0), .lit (.int .i64 0), .lit (.int .i64 0), .lit (.int .i64 0), .lit (.int .i64 0)], .agg [.lit (.string [112, 117, 115, 104]), .lit (.int .i64 1), .lit (.int .i64 0), .lit (.int .i64 0), .lit (.int .i64 0), .lit (.int .i64 1)], .agg [.lit (.string [100, 114, 111, 112]), .lit (.int .i64 0), .lit (.int .i64 0), .lit (.int .i64 0), .lit (.int .i64 1), .lit (.int .i64 0)], .agg [.lit (.string [100, 117, 112]), .lit (.int .i64 0), .lit (.int .i64 0), .lit (.int .i64 0), .lit (.int .i64 1), .lit (.int .i64 2)], .agg [.lit (.string [115, 119, 97, 112]), .lit (.int .i64 0), .lit (.int .i64 0), .lit (.int .i64 0), .lit (.int .i64 2), .lit (.int .i64 2)], .agg [.lit (.string [112, 105, 99, 107]), .lit (.int .i64 2), .lit (.int .i64 0), .lit (.int .i64 63), .lit (.int .i64 0), .lit (.int .i64 1)], .agg [.lit (.string [97, 114, 103]), .lit (.int .i64 2), .lit (.int .i64 0), .lit (.int .i64 7), .lit (.int .i64 0), .lit (.int .i64 1)], .agg [.lit (.string [103, 101, 116]), .lit (.int .i64 2), .lit (.int .i64 0), .lit (.int .i64 7), .lit (.int .i64 0), .lit (.int .i64 1)], .agg [.lit (.string [115, 101, 116]), .lit (.int .i64 2), .lit (.int .i64 0), .lit (.int .i64 7), .lit (.int .i64 1), .lit (.int .i64 0)], .agg [.lit (.string []), .lit (.int .i64 4), .lit (.int .i64 1), .lit (.int .i64 8), .lit (.int .i64 1), .lit (.int .i64 1)], .agg [.lit (.string []), .lit (.int .i64 5), .lit (.int .i64 1), .lit (.int .i64 12), .lit (.int .i64 2), .lit (.int .i64 1)], .agg [.lit (.string [106, 117, 109, 112]), .lit (.int .i64 3), .lit (.int .i64 0), .lit (.int .i64 1023), .lit (.int .i64 0), .lit (.int .i64 0)], .agg [.lit (.string [105, 102]), .lit (.int .i64 3), .lit (.int .i64 0), .lit (.int .i64 1023), .lit (.int .i64 1), .lit (.int .i64 0)], .agg [.lit (.string [117, 110, 108, 101, 115, 115]), .lit (.int .i64 3), .lit (.int .i64 0), .lit (.int .i64 1023), .lit (.int .i64 1), .lit (.int .i64 0)], .agg [.lit (.string [99, 97, 108, 108]), .lit (.int .i64 3), .lit (.int .i64 0), .lit (.int .i64 1023), .lit (.int .i64 0), .lit (.int .i64 0)], .agg [.lit (.string [114, 101, 116]), .lit (.int .i64 0), .lit (.int .i64 0), .lit (.int .i64 0), .lit (.int .i64 0), .lit (.int .i64 0)], .agg [.lit (.string [114, 101, 97, 100]), .lit (.int .i64 0), .lit (.int .i64 0), .lit (.int .i64 0), .lit (.int .i64 1), .lit (.int .i64 1)], .agg [.lit (.string [119, 114, 105, 116, 101]), .lit (.int .i64 0), .lit (.int .i64 0), .lit (.int .i64 0), .lit (.int .i64 2), .lit (.int .i64 0)], .agg [.lit (.string [101, 109, 105, 116]), .lit (.int .i64 0), .lit (.int .i64 0), .lit (.int .i64 0), .lit (.int .i64 1), .lit (.int .i64 0)], .agg [.lit (.string [97, 98, 111, 114, 116]), .lit (.int .i64 2), .lit (.int .i64 0), .lit (.int .i64 99), .lit (.int .i64 0), .lit (.int .i64 0)], .agg [.lit (.string [104, 97, 108, 116]), .lit (.int .i64 0), .lit (.int .i64 0), .lit (.int .i64 0), .lit (.int .i64 0), .lit (.int .i64 0)]]

/-- 'beadlelaw16.EngineRuns': WHATEVER THE INPUT: true; the input reads as it did. -/
def engineRunsSpec : ChangeSpec := { name := "engineRuns", fn := fun _ => fun
  | [d1, d2] => { results := [.lit (.bool true)], args := [d1, d2] }
  | _ => none }
def engineRunsRow : OpenClaim := { program := "ytlkldgopliablaagreatdoor", sum := "4a243c016c4c8b7f8afa8a041e110a27098517996c21250466f019fa320a77b2", func := "beadle/beadlelaw16.EngineRuns", spec := "engineRuns", inPlace := ["math.Float64frombits", "math.Float64bits", "math.archFloor", "math.archTrunc", "math.sqrt"], unfollowed := true, recurses := true, named := ["beadle/code.shapes"], apart := false, laid := [("beadle/code.shapes", laid_beadle_code_shapes)] }
def EngineRunsSaid : Prop := engineRunsRow.holds Tryz.pinned (OpenSpec.ofChange engineRunsSpec)

/-- ITS FALSE NEIGHBOUR: 'it returns false'. Refute it at one input. -/
def engineRunsWrong : ChangeSpec := { name := "engineRuns", fn := fun _ => fun
  | [d1, d2] => { results := [.lit (.bool false)], args := [d1, d2] }
  | _ => none }
def EngineRunsWrongFalsely : Prop := engineRunsRow.holds Tryz.pinned (OpenSpec.ofChange engineRunsWrong)

/-- 'beadlelaw16.EngineSteps': WHATEVER THE INPUT: true; the input reads as it did. -/
def engineStepsSpec : ChangeSpec := { name := "engineSteps", fn := fun _ => fun
  | [d1, d2] => { results := [.lit (.bool true)], args := [d1, d2] }
  | _ => none }
def engineStepsRow : OpenClaim := { program := "ytlkldgopliablaagreatdoor", sum := "4a243c016c4c8b7f8afa8a041e110a27098517996c21250466f019fa320a77b2", func := "beadle/beadlelaw16.EngineSteps", spec := "engineSteps", inPlace := ["math.Float64frombits", "math.Float64bits", "math.archFloor", "math.archTrunc", "math.sqrt"], unfollowed := true, recurses := true, named := ["beadle/code.shapes"], apart := false, laid := [("beadle/code.shapes", laid_beadle_code_shapes)] }
def EngineStepsSaid : Prop := engineStepsRow.holds Tryz.pinned (OpenSpec.ofChange engineStepsSpec)

/-- ITS FALSE NEIGHBOUR: 'it returns false'. Refute it at one input. -/
def engineStepsWrong : ChangeSpec := { name := "engineSteps", fn := fun _ => fun
  | [d1, d2] => { results := [.lit (.bool false)], args := [d1, d2] }
  | _ => none }
def EngineStepsWrongFalsely : Prop := engineStepsRow.holds Tryz.pinned (OpenSpec.ofChange engineStepsWrong)

/-- 'beadlelaw16.EngineJoined': WHATEVER THE INPUT: true; the input reads as it did. -/
def engineJoinedSpec : ChangeSpec := { name := "engineJoined", fn := fun _ => fun
  | [d1, d2, d3] => { results := [.lit (.bool true)], args := [d1, d2, d3] }
  | _ => none }
def engineJoinedRow : OpenClaim := { program := "ytlkldgopliablaagreatdoor", sum := "4a243c016c4c8b7f8afa8a041e110a27098517996c21250466f019fa320a77b2", func := "beadle/beadlelaw16.EngineJoined", spec := "engineJoined", inPlace := ["math.Float64frombits", "math.Float64bits", "math.archFloor", "math.archTrunc", "math.sqrt"], unfollowed := true, recurses := true, named := ["beadle/code.shapes"], apart := false, laid := [("beadle/code.shapes", laid_beadle_code_shapes)] }
def EngineJoinedSaid : Prop := engineJoinedRow.holds Tryz.pinned (OpenSpec.ofChange engineJoinedSpec)

/-- ITS FALSE NEIGHBOUR: 'it returns false'. Refute it at one input. -/
def engineJoinedWrong : ChangeSpec := { name := "engineJoined", fn := fun _ => fun
  | [d1, d2, d3] => { results := [.lit (.bool false)], args := [d1, d2, d3] }
  | _ => none }
def EngineJoinedWrongFalsely : Prop := engineJoinedRow.holds Tryz.pinned (OpenSpec.ofChange engineJoinedWrong)

/-- 'beadlelaw16.EngineIdle': WHATEVER THE INPUT: true; the input reads as it did. -/
def engineIdleSpec : ChangeSpec := { name := "engineIdle", fn := fun _ => fun
  | [d1, d2, d3] => { results := [.lit (.bool true)], args := [d1, d2, d3] }
  | _ => none }
def engineIdleRow : OpenClaim := { program := "ytlkldgopliablaagreatdoor", sum := "4a243c016c4c8b7f8afa8a041e110a27098517996c21250466f019fa320a77b2", func := "beadle/beadlelaw16.EngineIdle", spec := "engineIdle", inPlace := ["math.Float64frombits", "math.Float64bits", "math.archFloor", "math.archTrunc", "math.sqrt"], unfollowed := true, recurses := true, named := ["beadle/code.shapes"], apart := false, laid := [("beadle/code.shapes", laid_beadle_code_shapes)] }
def EngineIdleSaid : Prop := engineIdleRow.holds Tryz.pinned (OpenSpec.ofChange engineIdleSpec)

/-- ITS FALSE NEIGHBOUR: 'it returns false'. Refute it at one input. -/
def engineIdleWrong : ChangeSpec := { name := "engineIdle", fn := fun _ => fun
  | [d1, d2, d3] => { results := [.lit (.bool false)], args := [d1, d2, d3] }
  | _ => none }
def EngineIdleWrongFalsely : Prop := engineIdleRow.holds Tryz.pinned (OpenSpec.ofChange engineIdleWrong)

/-- 'beadlelaw16.EngineClones': WHATEVER THE INPUT: true; the input reads as it did. -/
def engineClonesSpec : ChangeSpec := { name := "engineClones", fn := fun _ => fun
  | [d1, d2, d3, d4] => { results := [.lit (.bool true)], args := [d1, d2, d3, d4] }
  | _ => none }
def engineClonesRow : OpenClaim := { program := "ytlkldgopliablaagreatdoor", sum := "4a243c016c4c8b7f8afa8a041e110a27098517996c21250466f019fa320a77b2", func := "beadle/beadlelaw16.EngineClones", spec := "engineClones", inPlace := ["math.Float64frombits", "math.Float64bits", "math.archFloor", "math.archTrunc", "math.sqrt", "maps.clone"], unfollowed := true, recurses := true, named := ["beadle/code.shapes"], apart := false, laid := [("beadle/code.shapes", laid_beadle_code_shapes)] }
def EngineClonesSaid : Prop := engineClonesRow.holds Tryz.pinned (OpenSpec.ofChange engineClonesSpec)

/-- ITS FALSE NEIGHBOUR: 'it returns false'. Refute it at one input. -/
def engineClonesWrong : ChangeSpec := { name := "engineClones", fn := fun _ => fun
  | [d1, d2, d3, d4] => { results := [.lit (.bool false)], args := [d1, d2, d3, d4] }
  | _ => none }
def EngineClonesWrongFalsely : Prop := engineClonesRow.holds Tryz.pinned (OpenSpec.ofChange engineClonesWrong)

/-- 'beadlelaw16.EngineQuiet': WHATEVER THE INPUT: true; the input reads as it did. -/
def engineQuietSpec : ChangeSpec := { name := "engineQuiet", fn := fun _ => fun
  | [d1, d2] => { results := [.lit (.bool true)], args := [d1, d2] }
  | _ => none }
def engineQuietRow : OpenClaim := { program := "ytlkldgopliablaagreatdoor", sum := "4a243c016c4c8b7f8afa8a041e110a27098517996c21250466f019fa320a77b2", func := "beadle/beadlelaw16.EngineQuiet", spec := "engineQuiet", inPlace := ["math.Float64frombits", "math.Float64bits", "math.archFloor", "math.archTrunc", "math.sqrt"], unfollowed := true, recurses := true, named := ["beadle/code.shapes"], apart := false, laid := [("beadle/code.shapes", laid_beadle_code_shapes)] }
def EngineQuietSaid : Prop := engineQuietRow.holds Tryz.pinned (OpenSpec.ofChange engineQuietSpec)

/-- ITS FALSE NEIGHBOUR: 'it returns false'. Refute it at one input. -/
def engineQuietWrong : ChangeSpec := { name := "engineQuiet", fn := fun _ => fun
  | [d1, d2] => { results := [.lit (.bool false)], args := [d1, d2] }
  | _ => none }
def EngineQuietWrongFalsely : Prop := engineQuietRow.holds Tryz.pinned (OpenSpec.ofChange engineQuietWrong)

/- THE SECOND FORM. 'bulk': how many values and letters a reading holds, each counted each time it is reached (what is shared counts as often as it is met; a slice's spare places count too). A statement '..UptoSaid' is the law's where the arguments, and the package variables that the reading takes, are together of bulk at most 1048576: NARROWER than '..Said'. Prove '..Said' where nothing that the law and all that it calls make is longer than what came in: it says more and counts as full. Else prove '..UptoSaid'. A law counts once. -/
mutual
def uptoBulk {H : Type} : DataW H → Nat
  | .lit (.string bytes) => bytes.length + 1
  | .lit _ => 1
  | .nil => 1
  | .ptr d => uptoBulk d + 1
  | .slice elems spare => uptoBulkAll elems + uptoBulkAll spare + 1
  | .agg parts => uptoBulkAll parts + 1
  | .iface _ d => uptoBulk d + 1
  | .map entries => uptoBulkEntries entries + 1
  | .held _ => 1
def uptoBulkAll {H : Type} : List (DataW H) → Nat
  | [] => 0
  | d :: r => uptoBulk d + uptoBulkAll r
def uptoBulkEntries {H : Type} : List (Lit × DataW H) → Nat
  | [] => 0
  | x :: r => uptoBulkEntry x + uptoBulkEntries r
def uptoBulkEntry {H : Type} : Lit × DataW H → Nat
  | (.string bytes, d) => bytes.length + uptoBulk d + 1
  | (_, d) => uptoBulk d + 1
 end
def uptoSmall : (H : Type) → List (DataW H) → Bool := fun _ ds => decide (uptoBulkAll ds ≤ 1048576)
def OpenSpec.upto (s : _root_.Go.ChangeSpec) : _root_.Go.OpenSpec := { _root_.Go.OpenSpec.ofChange s with cond := some uptoSmall }

/-- 'beadlelaw16.EngineRuns', WHERE WHAT IT READS IS OF BULK AT MOST 1048576: true; the input reads as it did. -/
def engineRunsUptoRow : OpenClaim := { program := "ytlkldgopliablaagreatdoor", sum := "4a243c016c4c8b7f8afa8a041e110a27098517996c21250466f019fa320a77b2", func := "beadle/beadlelaw16.EngineRuns", spec := "engineRuns", inPlace := ["math.Float64frombits", "math.Float64bits", "math.archFloor", "math.archTrunc", "math.sqrt"], unfollowed := true, recurses := true, named := ["beadle/code.shapes"], apart := false, laid := [("beadle/code.shapes", laid_beadle_code_shapes)], narrowed := true }
def EngineRunsUptoSaid : Prop := engineRunsUptoRow.holds Tryz.pinned (OpenSpec.upto engineRunsSpec)

/-- 'beadlelaw16.EngineSteps', WHERE WHAT IT READS IS OF BULK AT MOST 1048576: true; the input reads as it did. -/
def engineStepsUptoRow : OpenClaim := { program := "ytlkldgopliablaagreatdoor", sum := "4a243c016c4c8b7f8afa8a041e110a27098517996c21250466f019fa320a77b2", func := "beadle/beadlelaw16.EngineSteps", spec := "engineSteps", inPlace := ["math.Float64frombits", "math.Float64bits", "math.archFloor", "math.archTrunc", "math.sqrt"], unfollowed := true, recurses := true, named := ["beadle/code.shapes"], apart := false, laid := [("beadle/code.shapes", laid_beadle_code_shapes)], narrowed := true }
def EngineStepsUptoSaid : Prop := engineStepsUptoRow.holds Tryz.pinned (OpenSpec.upto engineStepsSpec)

/-- 'beadlelaw16.EngineJoined', WHERE WHAT IT READS IS OF BULK AT MOST 1048576: true; the input reads as it did. -/
def engineJoinedUptoRow : OpenClaim := { program := "ytlkldgopliablaagreatdoor", sum := "4a243c016c4c8b7f8afa8a041e110a27098517996c21250466f019fa320a77b2", func := "beadle/beadlelaw16.EngineJoined", spec := "engineJoined", inPlace := ["math.Float64frombits", "math.Float64bits", "math.archFloor", "math.archTrunc", "math.sqrt"], unfollowed := true, recurses := true, named := ["beadle/code.shapes"], apart := false, laid := [("beadle/code.shapes", laid_beadle_code_shapes)], narrowed := true }
def EngineJoinedUptoSaid : Prop := engineJoinedUptoRow.holds Tryz.pinned (OpenSpec.upto engineJoinedSpec)

/-- 'beadlelaw16.EngineIdle', WHERE WHAT IT READS IS OF BULK AT MOST 1048576: true; the input reads as it did. -/
def engineIdleUptoRow : OpenClaim := { program := "ytlkldgopliablaagreatdoor", sum := "4a243c016c4c8b7f8afa8a041e110a27098517996c21250466f019fa320a77b2", func := "beadle/beadlelaw16.EngineIdle", spec := "engineIdle", inPlace := ["math.Float64frombits", "math.Float64bits", "math.archFloor", "math.archTrunc", "math.sqrt"], unfollowed := true, recurses := true, named := ["beadle/code.shapes"], apart := false, laid := [("beadle/code.shapes", laid_beadle_code_shapes)], narrowed := true }
def EngineIdleUptoSaid : Prop := engineIdleUptoRow.holds Tryz.pinned (OpenSpec.upto engineIdleSpec)

/-- 'beadlelaw16.EngineClones', WHERE WHAT IT READS IS OF BULK AT MOST 1048576: true; the input reads as it did. -/
def engineClonesUptoRow : OpenClaim := { program := "ytlkldgopliablaagreatdoor", sum := "4a243c016c4c8b7f8afa8a041e110a27098517996c21250466f019fa320a77b2", func := "beadle/beadlelaw16.EngineClones", spec := "engineClones", inPlace := ["math.Float64frombits", "math.Float64bits", "math.archFloor", "math.archTrunc", "math.sqrt", "maps.clone"], unfollowed := true, recurses := true, named := ["beadle/code.shapes"], apart := false, laid := [("beadle/code.shapes", laid_beadle_code_shapes)], narrowed := true }
def EngineClonesUptoSaid : Prop := engineClonesUptoRow.holds Tryz.pinned (OpenSpec.upto engineClonesSpec)

/-- 'beadlelaw16.EngineQuiet', WHERE WHAT IT READS IS OF BULK AT MOST 1048576: true; the input reads as it did. -/
def engineQuietUptoRow : OpenClaim := { program := "ytlkldgopliablaagreatdoor", sum := "4a243c016c4c8b7f8afa8a041e110a27098517996c21250466f019fa320a77b2", func := "beadle/beadlelaw16.EngineQuiet", spec := "engineQuiet", inPlace := ["math.Float64frombits", "math.Float64bits", "math.archFloor", "math.archTrunc", "math.sqrt"], unfollowed := true, recurses := true, named := ["beadle/code.shapes"], apart := false, laid := [("beadle/code.shapes", laid_beadle_code_shapes)], narrowed := true }
def EngineQuietUptoSaid : Prop := engineQuietUptoRow.holds Tryz.pinned (OpenSpec.upto engineQuietSpec)

end Rows
end Go.Proofs.YtlkldgopliablaaGreatDoor
