/-
  No cell of these rows narrows 'for every input' (looked for: loops, veiled, ifaces, maps, wideKeys, modest, calm, conditions, laid).
  DERIVED. THE GIVEN ROWS OF THIS SEAT. 5 by the template 'for every input the law returns true; each argument reads behind the call as it read before'; 0 by the template 'total and deterministic' (their statements: YtdfmmolhfacahaaTotals.lean).
  GIVEN WITH THE SEED: the statements are not yours to turn. If you find one false, say at which input.
  Laid BY PROGRAM, IN A SANDBOX (cutbox-rows.mjs): the forced cells as the released guide's own fill.sh prints them over the translation 4b31f0c33410b8f0… (all of the seat's roots in one cut). By AI agents, Wed Nov 11 2026. No macro, syntax, notation, axiom, sorry.
-/
import Derived.Test.YtdfmmolhfacahaaChecked
import GoSem.Claim
import GoSem.ClaimJoined
import GoSem.ClaimMapViews
import Derived.JoinedTies
import Derived.KernelRfl
namespace Go.Proofs.Ytdfmmolhfacahaa
/- THE CELL 'sum', in the pinned program and in every row, IS THE sha256 OF THE DUMP (.gsa) THAT YtdfmmolhfacahaaProg.lean LOADS. Nothing in Lean hashes anything: it is a label: what it is worth is what the hold of that sum in a sandbox is worth. -/
noncomputable def Try.pinned : Pinned := { name := "ytdfmmolhfacahaa", sum := "4b31f0c33410b8f0c3ed2bb1e1a88852c1b26a5732975aac5a9a2d08d1f58b9b", checked := Try.checked }
namespace Rows
def none {H : Type} : Left H := { results := [], args := [] }

/-- 'beadlelaw13.CensusNumbers': WHATEVER THE INPUT: true; the input reads as it did. -/
def censusNumbersSpec : ChangeSpec := { name := "censusNumbers", fn := fun _ => fun
  | [] => { results := [.lit (.bool true)], args := [] }
  | _ => none }
def censusNumbersRow : OpenClaim := { program := "ytdfmmolhfacahaa", sum := "4b31f0c33410b8f0c3ed2bb1e1a88852c1b26a5732975aac5a9a2d08d1f58b9b", func := "beadle/beadlelaw13.CensusNumbers", spec := "censusNumbers", unfollowed := true, recurses := true, apart := false }
def CensusNumbersSaid : Prop := censusNumbersRow.holds Try.pinned (OpenSpec.ofChange censusNumbersSpec)

/-- ITS FALSE NEIGHBOUR: 'it returns false'. Refute it at one input. -/
def censusNumbersWrong : ChangeSpec := { name := "censusNumbers", fn := fun _ => fun
  | [] => { results := [.lit (.bool false)], args := [] }
  | _ => none }
def CensusNumbersWrongFalsely : Prop := censusNumbersRow.holds Try.pinned (OpenSpec.ofChange censusNumbersWrong)

/-- 'beadlelaw13.CensusPlays': WHATEVER THE INPUT: true; the input reads as it did. -/
def censusPlaysSpec : ChangeSpec := { name := "censusPlays", fn := fun _ => fun
  | [d1, d2] => { results := [.lit (.bool true)], args := [d1, d2] }
  | _ => none }
def censusPlaysRow : OpenClaim := { program := "ytdfmmolhfacahaa", sum := "4b31f0c33410b8f0c3ed2bb1e1a88852c1b26a5732975aac5a9a2d08d1f58b9b", func := "beadle/beadlelaw13.CensusPlays", spec := "censusPlays", unfollowed := true, recurses := true, apart := false }
def CensusPlaysSaid : Prop := censusPlaysRow.holds Try.pinned (OpenSpec.ofChange censusPlaysSpec)

/-- ITS FALSE NEIGHBOUR: 'it returns false'. Refute it at one input. -/
def censusPlaysWrong : ChangeSpec := { name := "censusPlays", fn := fun _ => fun
  | [d1, d2] => { results := [.lit (.bool false)], args := [d1, d2] }
  | _ => none }
def CensusPlaysWrongFalsely : Prop := censusPlaysRow.holds Try.pinned (OpenSpec.ofChange censusPlaysWrong)

/-- 'beadlelaw13.CensusCost': WHATEVER THE INPUT: true; the input reads as it did. -/
def censusCostSpec : ChangeSpec := { name := "censusCost", fn := fun _ => fun
  | [d1, d2, d3] => { results := [.lit (.bool true)], args := [d1, d2, d3] }
  | _ => none }
def censusCostRow : OpenClaim := { program := "ytdfmmolhfacahaa", sum := "4b31f0c33410b8f0c3ed2bb1e1a88852c1b26a5732975aac5a9a2d08d1f58b9b", func := "beadle/beadlelaw13.CensusCost", spec := "censusCost", unfollowed := true, recurses := true, apart := false }
def CensusCostSaid : Prop := censusCostRow.holds Try.pinned (OpenSpec.ofChange censusCostSpec)

/-- ITS FALSE NEIGHBOUR: 'it returns false'. Refute it at one input. -/
def censusCostWrong : ChangeSpec := { name := "censusCost", fn := fun _ => fun
  | [d1, d2, d3] => { results := [.lit (.bool false)], args := [d1, d2, d3] }
  | _ => none }
def CensusCostWrongFalsely : Prop := censusCostRow.holds Try.pinned (OpenSpec.ofChange censusCostWrong)

/-- 'beadlelaw13.CensusGuards': WHATEVER THE INPUT: true; the input reads as it did. -/
def censusGuardsSpec : ChangeSpec := { name := "censusGuards", fn := fun _ => fun
  | [d] => { results := [.lit (.bool true)], args := [d] }
  | _ => none }
def censusGuardsRow : OpenClaim := { program := "ytdfmmolhfacahaa", sum := "4b31f0c33410b8f0c3ed2bb1e1a88852c1b26a5732975aac5a9a2d08d1f58b9b", func := "beadle/beadlelaw13.CensusGuards", spec := "censusGuards", unfollowed := true, recurses := true, apart := false }
def CensusGuardsSaid : Prop := censusGuardsRow.holds Try.pinned (OpenSpec.ofChange censusGuardsSpec)

/-- ITS FALSE NEIGHBOUR: 'it returns false'. Refute it at one input. -/
def censusGuardsWrong : ChangeSpec := { name := "censusGuards", fn := fun _ => fun
  | [d] => { results := [.lit (.bool false)], args := [d] }
  | _ => none }
def CensusGuardsWrongFalsely : Prop := censusGuardsRow.holds Try.pinned (OpenSpec.ofChange censusGuardsWrong)

/-- 'beadlelaw13.CensusFree': WHATEVER THE INPUT: true; the input reads as it did. -/
def censusFreeSpec : ChangeSpec := { name := "censusFree", fn := fun _ => fun
  | [d] => { results := [.lit (.bool true)], args := [d] }
  | _ => none }
def censusFreeRow : OpenClaim := { program := "ytdfmmolhfacahaa", sum := "4b31f0c33410b8f0c3ed2bb1e1a88852c1b26a5732975aac5a9a2d08d1f58b9b", func := "beadle/beadlelaw13.CensusFree", spec := "censusFree", unfollowed := true, recurses := true, apart := false }
def CensusFreeSaid : Prop := censusFreeRow.holds Try.pinned (OpenSpec.ofChange censusFreeSpec)

/-- ITS FALSE NEIGHBOUR: 'it returns false'. Refute it at one input. -/
def censusFreeWrong : ChangeSpec := { name := "censusFree", fn := fun _ => fun
  | [d] => { results := [.lit (.bool false)], args := [d] }
  | _ => none }
def CensusFreeWrongFalsely : Prop := censusFreeRow.holds Try.pinned (OpenSpec.ofChange censusFreeWrong)

/- THE SECOND FORM. 'bulk': how many values and letters a reading holds, each counted each time it is reached (what is shared counts as often as it is met; a slice's spare places count too). A statement '..UptoSaid' is the law's where the arguments, and the package variables that the reading takes, are together of bulk at most 1048576: NARROWER than '..Said'. Prove '..Said' where nothing that the law and all that it calls make is longer than what came in: it says more and counts as full. Else prove '..UptoSaid'. A law counts once. -/
mutual
def uptoBulk {H : Type} : DataW H → Nat
  | .lit (.string bytes) => bytes.length + 1
  | .lit _ => 1
  | .nil => 1
  | .ptr d => uptoBulk d + 1
  | .slice elems spare => uptoBulkAll elems + uptoBulkAll spare + 1
  | .agg parts => uptoBulkAll parts + 1
  | .iface _ d => uptoBulk d + 1
  | .map entries => uptoBulkEntries entries + 1
  | .held _ => 1
def uptoBulkAll {H : Type} : List (DataW H) → Nat
  | [] => 0
  | d :: r => uptoBulk d + uptoBulkAll r
def uptoBulkEntries {H : Type} : List (Lit × DataW H) → Nat
  | [] => 0
  | x :: r => uptoBulkEntry x + uptoBulkEntries r
def uptoBulkEntry {H : Type} : Lit × DataW H → Nat
  | (.string bytes, d) => bytes.length + uptoBulk d + 1
  | (_, d) => uptoBulk d + 1
 end
def uptoSmall : (H : Type) → List (DataW H) → Bool := fun _ ds => decide (uptoBulkAll ds ≤ 1048576)
def OpenSpec.upto (s : _root_.Go.ChangeSpec) : _root_.Go.OpenSpec := { _root_.Go.OpenSpec.ofChange s with cond := some uptoSmall }

/-- 'beadlelaw13.CensusNumbers', WHERE WHAT IT READS IS OF BULK AT MOST 1048576: true; the input reads as it did. -/
def censusNumbersUptoRow : OpenClaim := { program := "ytdfmmolhfacahaa", sum := "4b31f0c33410b8f0c3ed2bb1e1a88852c1b26a5732975aac5a9a2d08d1f58b9b", func := "beadle/beadlelaw13.CensusNumbers", spec := "censusNumbers", unfollowed := true, recurses := true, apart := false, narrowed := true }
def CensusNumbersUptoSaid : Prop := censusNumbersUptoRow.holds Try.pinned (OpenSpec.upto censusNumbersSpec)

/-- 'beadlelaw13.CensusPlays', WHERE WHAT IT READS IS OF BULK AT MOST 1048576: true; the input reads as it did. -/
def censusPlaysUptoRow : OpenClaim := { program := "ytdfmmolhfacahaa", sum := "4b31f0c33410b8f0c3ed2bb1e1a88852c1b26a5732975aac5a9a2d08d1f58b9b", func := "beadle/beadlelaw13.CensusPlays", spec := "censusPlays", unfollowed := true, recurses := true, apart := false, narrowed := true }
def CensusPlaysUptoSaid : Prop := censusPlaysUptoRow.holds Try.pinned (OpenSpec.upto censusPlaysSpec)

/-- 'beadlelaw13.CensusCost', WHERE WHAT IT READS IS OF BULK AT MOST 1048576: true; the input reads as it did. -/
def censusCostUptoRow : OpenClaim := { program := "ytdfmmolhfacahaa", sum := "4b31f0c33410b8f0c3ed2bb1e1a88852c1b26a5732975aac5a9a2d08d1f58b9b", func := "beadle/beadlelaw13.CensusCost", spec := "censusCost", unfollowed := true, recurses := true, apart := false, narrowed := true }
def CensusCostUptoSaid : Prop := censusCostUptoRow.holds Try.pinned (OpenSpec.upto censusCostSpec)

/-- 'beadlelaw13.CensusGuards', WHERE WHAT IT READS IS OF BULK AT MOST 1048576: true; the input reads as it did. -/
def censusGuardsUptoRow : OpenClaim := { program := "ytdfmmolhfacahaa", sum := "4b31f0c33410b8f0c3ed2bb1e1a88852c1b26a5732975aac5a9a2d08d1f58b9b", func := "beadle/beadlelaw13.CensusGuards", spec := "censusGuards", unfollowed := true, recurses := true, apart := false, narrowed := true }
def CensusGuardsUptoSaid : Prop := censusGuardsUptoRow.holds Try.pinned (OpenSpec.upto censusGuardsSpec)

/-- 'beadlelaw13.CensusFree', WHERE WHAT IT READS IS OF BULK AT MOST 1048576: true; the input reads as it did. -/
def censusFreeUptoRow : OpenClaim := { program := "ytdfmmolhfacahaa", sum := "4b31f0c33410b8f0c3ed2bb1e1a88852c1b26a5732975aac5a9a2d08d1f58b9b", func := "beadle/beadlelaw13.CensusFree", spec := "censusFree", unfollowed := true, recurses := true, apart := false, narrowed := true }
def CensusFreeUptoSaid : Prop := censusFreeUptoRow.holds Try.pinned (OpenSpec.upto censusFreeSpec)

end Rows
end Go.Proofs.Ytdfmmolhfacahaa
