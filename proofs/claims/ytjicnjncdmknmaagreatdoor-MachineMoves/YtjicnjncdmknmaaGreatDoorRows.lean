/-
  NARROWER THAN 'FOR EVERY INPUT', by the rows' own cells (each row's printed sentence says how): MachineRuns: laid · MachineMoves: laid · MachineEnds: laid · MachineEffect: laid · MachineOwn: laid · MachineAlike: laid.
  DERIVED. THE GIVEN ROWS OF THIS SEAT. 6 by the template 'for every input the law returns true; each argument reads behind the call as it read before'; 0 by the template 'total and deterministic' (their statements: YtjicnjncdmknmaaGreatDoorTotals.lean).
  GIVEN WITH THE SEED: the statements are not yours to turn. If you find one false, say at which input.
  Laid BY PROGRAM, IN A SANDBOX (cutbox-rows.mjs): the forced cells as the released guide's own fill.sh prints them over the translation e926e59aa36ccc63… (all of the seat's roots in one cut). By AI agents, Wed Nov 11 2026. No macro, syntax, notation, axiom, sorry.
-/
import Derived.Test.YtjicnjncdmknmaaGreatDoorChecked
import GoSem.Claim
import GoSem.ClaimJoined
import GoSem.ClaimMapViews
import Derived.JoinedTies
import Derived.KernelRfl
namespace Go.Proofs.YtjicnjncdmknmaaGreatDoor
/- THE CELL 'sum', in the pinned program and in every row, IS THE sha256 OF THE DUMP (.gsa) THAT YtjicnjncdmknmaaGreatDoorProg.lean LOADS. Nothing in Lean hashes anything: it is a label: what it is worth is what the hold of that sum in a sandbox is worth. -/
noncomputable def Tryz.pinned : Pinned := { name := "ytjicnjncdmknmaagreatdoor", sum := "e926e59aa36ccc63f20177f01c0fe61ed1d441d18f5b4d2cc4f0f19072e0300b", checked := Tryz.checked }
namespace Rows
def none {H : Type} : Left H := { results := [], args := [] }

/- WHAT THE LISTED PACKAGE-LEVEL VARIABLES READ AS WHEN THE CALL BEGINS. Each datum BY PROGRAM (the guide's laid-datum.mjs) off the statement by which the dump's own 'gosem.cut.vars' lays the variable. In a bare row this is a premise. The card (YtjicnjncdmknmaaGreatDoorCards.lean) ties it to the program's text. -/
def laid_beadle_code_shapes {H : Type} : DataW H := .agg [.agg [.lit (.string []), .lit (.int .i64 0), .lit (.int .i64 0), .lit (.int .i64 0), .lit (.int .i64 0), .lit (.int .i64 0)], .agg [.lit (.string [112, 117, 115, 104]), .lit (.int .i64 1), .lit (.int .i64 0), .lit (.int .i64 0), .lit (.int .i64 0), .lit (.int .i64 1)], .agg [.lit (.string [100, 114, 111, 112]), .lit (.int .i64 0), .lit (.int .i64 0), .lit (.int .i64 0), .lit (.int .i64 1), .lit (.int .i64 0)], .agg [.lit (.string [100, 117, 112]), .lit (.int .i64 0), .lit (.int .i64 0), .lit (.int .i64 0), .lit (.int .i64 1), .lit (.int .i64 2)], .agg [.lit (.string [115, 119, 97, 112]), .lit (.int .i64 0), .lit (.int .i64 0), .lit (.int .i64 0), .lit (.int .i64 2), .lit (.int .i64 2)], .agg [.lit (.string [112, 105, 99, 107]), .lit (.int .i64 2), .lit (.int .i64 0), .lit (.int .i64 63), .lit (.int .i64 0), .lit (.int .i64 1)], .agg [.lit (.string [97, 114, 103]), .lit (.int .i64 2), .lit (.int .i64 0), .lit (.int .i64 7), .lit (.int .i64 0), .lit (.int .i64 1)], .agg [.lit (.string [103, 101, 116]), .lit (.int .i64 2), .lit (.int .i64 0), .lit (.int .i64 7), .lit (.int .i64 0), .lit (.int .i64 1)], .agg [.lit (.string [115, 101, 116]), .lit (.int .i64 2), .lit (.int .i64 0), .lit (.int .i64 7), .lit (.int .i64 1), .lit (.int .i64 0)], .agg [.lit (.string []), .lit (.int .i64 4), .lit (.int .i64 1), .lit (.int .i64 8), .lit (.int .i64 1), .lit (.int .i64 1)], .agg [.lit (.string []), .lit (.int .i64 5), .lit (.int .i64 1), .lit (.int .i64 12), .lit (.int .i64 2), .lit (.int .i64 1)], .agg [.lit (.string [106, 117, 109, 112]), .lit (.int .i64 3), .lit (.int .i64 0), .lit (.int .i64 1023), .lit (.int .i64 0), .lit (.int .i64 0)], .agg [.lit (.string [105, 102]), .lit (.int .i64 3), .lit (.int .i64 0), .lit (.int .i64 1023), .lit (.int .i64 1), .lit (.int .i64 0)], .agg [.lit (.string [117, 110, 108, 101, 115, 115]), .lit (.int .i64 3), .lit (.int .i64 0), .lit (.int .i64 1023), .lit (.int .i64 1), .lit (.int .i64 0)], .agg [.lit (.string [99, 97, 108, 108]), .lit (.int .i64 3), .lit (.int .i64 0), .lit (.int .i64 1023), .lit (.int .i64 0), .lit (.int .i64 0)], .agg [.lit (.string [114, 101, 116]), .lit (.int .i64 0), .lit (.int .i64 0), .lit (.int .i64 0), .lit (.int .i64 0), .lit (.int .i64 0)], .agg [.lit (.string [114, 101, 97, 100]), .lit (.int .i64 0), .lit (.int .i64 0), .lit (.int .i64 0), .lit (.int .i64 1), .lit (.int .i64 1)], .agg [.lit (.string [119, 114, 105, 116, 101]), .lit (.int .i64 0), .lit (.int .i64 0), .lit (.int .i64 0), .lit (.int .i64 2), .lit (.int .i64 0)], .agg [.lit (.string [101, 109, 105, 116]), .lit (.int .i64 0), .lit (.int .i64 0), .lit (.int .i64 0), .lit (.int .i64 1), .lit (.int .i64 0)], .agg [.lit (.string [97, 98, 111, 114, 116]), .lit (.int .i64 2), .lit (.int .i64 0), .lit (.int .i64 99), .lit (.int .i64 0), .lit (.int .i64 0)], .agg [.lit (.string [104, 97, 108, 116]), .lit (.int .i64 0), .lit (.int .i64 0), .lit (.int .i64 0), .lit (.int .i64 0), .lit (.int .i64 0)]]

/-- 'beadlelaw08.MachineRuns': WHATEVER THE INPUT: true; the input reads as it did. -/
def machineRunsSpec : ChangeSpec := { name := "machineRuns", fn := fun _ => fun
  | [d1, d2, d3, d4] => { results := [.lit (.bool true)], args := [d1, d2, d3, d4] }
  | _ => none }
def machineRunsRow : OpenClaim := { program := "ytjicnjncdmknmaagreatdoor", sum := "e926e59aa36ccc63f20177f01c0fe61ed1d441d18f5b4d2cc4f0f19072e0300b", func := "beadle/beadlelaw08.MachineRuns", spec := "machineRuns", inPlace := ["math.Float64frombits", "math.Float64bits", "math.archFloor", "math.archTrunc", "math.sqrt"], unfollowed := true, recurses := true, named := ["beadle/code.shapes"], apart := false, laid := [("beadle/code.shapes", laid_beadle_code_shapes)] }
def MachineRunsSaid : Prop := machineRunsRow.holds Tryz.pinned (OpenSpec.ofChange machineRunsSpec)

/-- ITS FALSE NEIGHBOUR: 'it returns false'. Refute it at one input. -/
def machineRunsWrong : ChangeSpec := { name := "machineRuns", fn := fun _ => fun
  | [d1, d2, d3, d4] => { results := [.lit (.bool false)], args := [d1, d2, d3, d4] }
  | _ => none }
def MachineRunsWrongFalsely : Prop := machineRunsRow.holds Tryz.pinned (OpenSpec.ofChange machineRunsWrong)

/-- 'beadlelaw08.MachineMoves': WHATEVER THE INPUT: true; the input reads as it did. -/
def machineMovesSpec : ChangeSpec := { name := "machineMoves", fn := fun _ => fun
  | [d1, d2, d3, d4] => { results := [.lit (.bool true)], args := [d1, d2, d3, d4] }
  | _ => none }
def machineMovesRow : OpenClaim := { program := "ytjicnjncdmknmaagreatdoor", sum := "e926e59aa36ccc63f20177f01c0fe61ed1d441d18f5b4d2cc4f0f19072e0300b", func := "beadle/beadlelaw08.MachineMoves", spec := "machineMoves", inPlace := ["math.Float64frombits", "math.Float64bits", "math.archFloor", "math.archTrunc", "math.sqrt", "maps.clone"], unfollowed := true, recurses := true, named := ["beadle/code.shapes"], apart := false, laid := [("beadle/code.shapes", laid_beadle_code_shapes)] }
def MachineMovesSaid : Prop := machineMovesRow.holds Tryz.pinned (OpenSpec.ofChange machineMovesSpec)

/-- ITS FALSE NEIGHBOUR: 'it returns false'. Refute it at one input. -/
def machineMovesWrong : ChangeSpec := { name := "machineMoves", fn := fun _ => fun
  | [d1, d2, d3, d4] => { results := [.lit (.bool false)], args := [d1, d2, d3, d4] }
  | _ => none }
def MachineMovesWrongFalsely : Prop := machineMovesRow.holds Tryz.pinned (OpenSpec.ofChange machineMovesWrong)

/-- 'beadlelaw08.MachineEnds': WHATEVER THE INPUT: true; the input reads as it did. -/
def machineEndsSpec : ChangeSpec := { name := "machineEnds", fn := fun _ => fun
  | [d1, d2, d3, d4] => { results := [.lit (.bool true)], args := [d1, d2, d3, d4] }
  | _ => none }
def machineEndsRow : OpenClaim := { program := "ytjicnjncdmknmaagreatdoor", sum := "e926e59aa36ccc63f20177f01c0fe61ed1d441d18f5b4d2cc4f0f19072e0300b", func := "beadle/beadlelaw08.MachineEnds", spec := "machineEnds", inPlace := ["math.Float64frombits", "math.Float64bits", "math.archFloor", "math.archTrunc", "math.sqrt"], unfollowed := true, recurses := true, named := ["beadle/code.shapes"], apart := false, laid := [("beadle/code.shapes", laid_beadle_code_shapes)] }
def MachineEndsSaid : Prop := machineEndsRow.holds Tryz.pinned (OpenSpec.ofChange machineEndsSpec)

/-- ITS FALSE NEIGHBOUR: 'it returns false'. Refute it at one input. -/
def machineEndsWrong : ChangeSpec := { name := "machineEnds", fn := fun _ => fun
  | [d1, d2, d3, d4] => { results := [.lit (.bool false)], args := [d1, d2, d3, d4] }
  | _ => none }
def MachineEndsWrongFalsely : Prop := machineEndsRow.holds Tryz.pinned (OpenSpec.ofChange machineEndsWrong)

/-- 'beadlelaw08.MachineEffect': WHATEVER THE INPUT: true; the input reads as it did. -/
def machineEffectSpec : ChangeSpec := { name := "machineEffect", fn := fun _ => fun
  | [d1, d2, d3, d4] => { results := [.lit (.bool true)], args := [d1, d2, d3, d4] }
  | _ => none }
def machineEffectRow : OpenClaim := { program := "ytjicnjncdmknmaagreatdoor", sum := "e926e59aa36ccc63f20177f01c0fe61ed1d441d18f5b4d2cc4f0f19072e0300b", func := "beadle/beadlelaw08.MachineEffect", spec := "machineEffect", inPlace := ["math.Float64frombits", "math.Float64bits", "math.archFloor", "math.archTrunc", "math.sqrt"], unfollowed := true, recurses := true, named := ["beadle/code.shapes"], apart := false, laid := [("beadle/code.shapes", laid_beadle_code_shapes)] }
def MachineEffectSaid : Prop := machineEffectRow.holds Tryz.pinned (OpenSpec.ofChange machineEffectSpec)

/-- ITS FALSE NEIGHBOUR: 'it returns false'. Refute it at one input. -/
def machineEffectWrong : ChangeSpec := { name := "machineEffect", fn := fun _ => fun
  | [d1, d2, d3, d4] => { results := [.lit (.bool false)], args := [d1, d2, d3, d4] }
  | _ => none }
def MachineEffectWrongFalsely : Prop := machineEffectRow.holds Tryz.pinned (OpenSpec.ofChange machineEffectWrong)

/-- 'beadlelaw08.MachineOwn': WHATEVER THE INPUT: true; the input reads as it did. -/
def machineOwnSpec : ChangeSpec := { name := "machineOwn", fn := fun _ => fun
  | [d1, d2, d3, d4] => { results := [.lit (.bool true)], args := [d1, d2, d3, d4] }
  | _ => none }
def machineOwnRow : OpenClaim := { program := "ytjicnjncdmknmaagreatdoor", sum := "e926e59aa36ccc63f20177f01c0fe61ed1d441d18f5b4d2cc4f0f19072e0300b", func := "beadle/beadlelaw08.MachineOwn", spec := "machineOwn", inPlace := ["math.Float64frombits", "math.Float64bits", "math.archFloor", "math.archTrunc", "math.sqrt"], unfollowed := true, recurses := true, named := ["beadle/code.shapes"], apart := false, laid := [("beadle/code.shapes", laid_beadle_code_shapes)] }
def MachineOwnSaid : Prop := machineOwnRow.holds Tryz.pinned (OpenSpec.ofChange machineOwnSpec)

/-- ITS FALSE NEIGHBOUR: 'it returns false'. Refute it at one input. -/
def machineOwnWrong : ChangeSpec := { name := "machineOwn", fn := fun _ => fun
  | [d1, d2, d3, d4] => { results := [.lit (.bool false)], args := [d1, d2, d3, d4] }
  | _ => none }
def MachineOwnWrongFalsely : Prop := machineOwnRow.holds Tryz.pinned (OpenSpec.ofChange machineOwnWrong)

/-- 'beadlelaw08.MachineAlike': WHATEVER THE INPUT: true; the input reads as it did. -/
def machineAlikeSpec : ChangeSpec := { name := "machineAlike", fn := fun _ => fun
  | [d1, d2, d3, d4] => { results := [.lit (.bool true)], args := [d1, d2, d3, d4] }
  | _ => none }
def machineAlikeRow : OpenClaim := { program := "ytjicnjncdmknmaagreatdoor", sum := "e926e59aa36ccc63f20177f01c0fe61ed1d441d18f5b4d2cc4f0f19072e0300b", func := "beadle/beadlelaw08.MachineAlike", spec := "machineAlike", inPlace := ["math.Float64frombits", "math.Float64bits", "math.archFloor", "math.archTrunc", "math.sqrt"], unfollowed := true, recurses := true, named := ["beadle/code.shapes"], apart := false, laid := [("beadle/code.shapes", laid_beadle_code_shapes)] }
def MachineAlikeSaid : Prop := machineAlikeRow.holds Tryz.pinned (OpenSpec.ofChange machineAlikeSpec)

/-- ITS FALSE NEIGHBOUR: 'it returns false'. Refute it at one input. -/
def machineAlikeWrong : ChangeSpec := { name := "machineAlike", fn := fun _ => fun
  | [d1, d2, d3, d4] => { results := [.lit (.bool false)], args := [d1, d2, d3, d4] }
  | _ => none }
def MachineAlikeWrongFalsely : Prop := machineAlikeRow.holds Tryz.pinned (OpenSpec.ofChange machineAlikeWrong)

/- THE SECOND FORM. 'bulk': how many values and letters a reading holds, each counted each time it is reached (what is shared counts as often as it is met; a slice's spare places count too). A statement '..UptoSaid' is the law's where the arguments, and the package variables that the reading takes, are together of bulk at most 1048576: NARROWER than '..Said'. Prove '..Said' where nothing that the law and all that it calls make is longer than what came in: it says more and counts as full. Else prove '..UptoSaid'. A law counts once. -/
mutual
def uptoBulk {H : Type} : DataW H → Nat
  | .lit (.string bytes) => bytes.length + 1
  | .lit _ => 1
  | .nil => 1
  | .ptr d => uptoBulk d + 1
  | .slice elems spare => uptoBulkAll elems + uptoBulkAll spare + 1
  | .agg parts => uptoBulkAll parts + 1
  | .iface _ d => uptoBulk d + 1
  | .map entries => uptoBulkEntries entries + 1
  | .held _ => 1
def uptoBulkAll {H : Type} : List (DataW H) → Nat
  | [] => 0
  | d :: r => uptoBulk d + uptoBulkAll r
def uptoBulkEntries {H : Type} : List (Lit × DataW H) → Nat
  | [] => 0
  | x :: r => uptoBulkEntry x + uptoBulkEntries r
def uptoBulkEntry {H : Type} : Lit × DataW H → Nat
  | (.string bytes, d) => bytes.length + uptoBulk d + 1
  | (_, d) => uptoBulk d + 1
 end
def uptoSmall : (H : Type) → List (DataW H) → Bool := fun _ ds => decide (uptoBulkAll ds ≤ 1048576)
def OpenSpec.upto (s : _root_.Go.ChangeSpec) : _root_.Go.OpenSpec := { _root_.Go.OpenSpec.ofChange s with cond := some uptoSmall }

/-- 'beadlelaw08.MachineRuns', WHERE WHAT IT READS IS OF BULK AT MOST 1048576: true; the input reads as it did. -/
def machineRunsUptoRow : OpenClaim := { program := "ytjicnjncdmknmaagreatdoor", sum := "e926e59aa36ccc63f20177f01c0fe61ed1d441d18f5b4d2cc4f0f19072e0300b", func := "beadle/beadlelaw08.MachineRuns", spec := "machineRuns", inPlace := ["math.Float64frombits", "math.Float64bits", "math.archFloor", "math.archTrunc", "math.sqrt"], unfollowed := true, recurses := true, named := ["beadle/code.shapes"], apart := false, laid := [("beadle/code.shapes", laid_beadle_code_shapes)], narrowed := true }
def MachineRunsUptoSaid : Prop := machineRunsUptoRow.holds Tryz.pinned (OpenSpec.upto machineRunsSpec)

/-- 'beadlelaw08.MachineMoves', WHERE WHAT IT READS IS OF BULK AT MOST 1048576: true; the input reads as it did. -/
def machineMovesUptoRow : OpenClaim := { program := "ytjicnjncdmknmaagreatdoor", sum := "e926e59aa36ccc63f20177f01c0fe61ed1d441d18f5b4d2cc4f0f19072e0300b", func := "beadle/beadlelaw08.MachineMoves", spec := "machineMoves", inPlace := ["math.Float64frombits", "math.Float64bits", "math.archFloor", "math.archTrunc", "math.sqrt", "maps.clone"], unfollowed := true, recurses := true, named := ["beadle/code.shapes"], apart := false, laid := [("beadle/code.shapes", laid_beadle_code_shapes)], narrowed := true }
def MachineMovesUptoSaid : Prop := machineMovesUptoRow.holds Tryz.pinned (OpenSpec.upto machineMovesSpec)

/-- 'beadlelaw08.MachineEnds', WHERE WHAT IT READS IS OF BULK AT MOST 1048576: true; the input reads as it did. -/
def machineEndsUptoRow : OpenClaim := { program := "ytjicnjncdmknmaagreatdoor", sum := "e926e59aa36ccc63f20177f01c0fe61ed1d441d18f5b4d2cc4f0f19072e0300b", func := "beadle/beadlelaw08.MachineEnds", spec := "machineEnds", inPlace := ["math.Float64frombits", "math.Float64bits", "math.archFloor", "math.archTrunc", "math.sqrt"], unfollowed := true, recurses := true, named := ["beadle/code.shapes"], apart := false, laid := [("beadle/code.shapes", laid_beadle_code_shapes)], narrowed := true }
def MachineEndsUptoSaid : Prop := machineEndsUptoRow.holds Tryz.pinned (OpenSpec.upto machineEndsSpec)

/-- 'beadlelaw08.MachineEffect', WHERE WHAT IT READS IS OF BULK AT MOST 1048576: true; the input reads as it did. -/
def machineEffectUptoRow : OpenClaim := { program := "ytjicnjncdmknmaagreatdoor", sum := "e926e59aa36ccc63f20177f01c0fe61ed1d441d18f5b4d2cc4f0f19072e0300b", func := "beadle/beadlelaw08.MachineEffect", spec := "machineEffect", inPlace := ["math.Float64frombits", "math.Float64bits", "math.archFloor", "math.archTrunc", "math.sqrt"], unfollowed := true, recurses := true, named := ["beadle/code.shapes"], apart := false, laid := [("beadle/code.shapes", laid_beadle_code_shapes)], narrowed := true }
def MachineEffectUptoSaid : Prop := machineEffectUptoRow.holds Tryz.pinned (OpenSpec.upto machineEffectSpec)

/-- 'beadlelaw08.MachineOwn', WHERE WHAT IT READS IS OF BULK AT MOST 1048576: true; the input reads as it did. -/
def machineOwnUptoRow : OpenClaim := { program := "ytjicnjncdmknmaagreatdoor", sum := "e926e59aa36ccc63f20177f01c0fe61ed1d441d18f5b4d2cc4f0f19072e0300b", func := "beadle/beadlelaw08.MachineOwn", spec := "machineOwn", inPlace := ["math.Float64frombits", "math.Float64bits", "math.archFloor", "math.archTrunc", "math.sqrt"], unfollowed := true, recurses := true, named := ["beadle/code.shapes"], apart := false, laid := [("beadle/code.shapes", laid_beadle_code_shapes)], narrowed := true }
def MachineOwnUptoSaid : Prop := machineOwnUptoRow.holds Tryz.pinned (OpenSpec.upto machineOwnSpec)

/-- 'beadlelaw08.MachineAlike', WHERE WHAT IT READS IS OF BULK AT MOST 1048576: true; the input reads as it did. -/
def machineAlikeUptoRow : OpenClaim := { program := "ytjicnjncdmknmaagreatdoor", sum := "e926e59aa36ccc63f20177f01c0fe61ed1d441d18f5b4d2cc4f0f19072e0300b", func := "beadle/beadlelaw08.MachineAlike", spec := "machineAlike", inPlace := ["math.Float64frombits", "math.Float64bits", "math.archFloor", "math.archTrunc", "math.sqrt"], unfollowed := true, recurses := true, named := ["beadle/code.shapes"], apart := false, laid := [("beadle/code.shapes", laid_beadle_code_shapes)], narrowed := true }
def MachineAlikeUptoSaid : Prop := machineAlikeUptoRow.holds Tryz.pinned (OpenSpec.upto machineAlikeSpec)

end Rows
end Go.Proofs.YtjicnjncdmknmaaGreatDoor
