/-
  No cell of these rows narrows 'for every input' (looked for: loops, veiled, ifaces, maps, wideKeys, modest, calm, conditions, laid).
  DERIVED. THE GIVEN ROWS OF THIS SEAT. 6 by the template 'for every input the law returns true; each argument reads behind the call as it read before'; 0 by the template 'total and deterministic' (their statements: YtmmijcmlnhmooaaTotals.lean).
  GIVEN WITH THE SEED: the statements are not yours to turn. If you find one false, say at which input.
  Laid BY PROGRAM, IN A SANDBOX (cutbox-rows.mjs): the forced cells as the released guide's own fill.sh prints them over the translation cc669c78787d6a63… (all of the seat's roots in one cut). By AI agents, Wed Nov 11 2026. No macro, syntax, notation, axiom, sorry.
-/
import Derived.Test.YtmmijcmlnhmooaaChecked
import GoSem.Claim
import GoSem.ClaimJoined
import GoSem.ClaimMapViews
import Derived.JoinedTies
import Derived.KernelRfl
namespace Go.Proofs.Ytmmijcmlnhmooaa
/- THE CELL 'sum', in the pinned program and in every row, IS THE sha256 OF THE DUMP (.gsa) THAT YtmmijcmlnhmooaaProg.lean LOADS. Nothing in Lean hashes anything: it is a label: what it is worth is what the hold of that sum in a sandbox is worth. -/
noncomputable def Try.pinned : Pinned := { name := "ytmmijcmlnhmooaa", sum := "cc669c78787d6a638830a6c72166a73e7b9c24944541f9c0952a92292f9769e2", checked := Try.checked }
namespace Rows
def none {H : Type} : Left H := { results := [], args := [] }

/-- 'beadlelaw11.CellsNumbers': WHATEVER THE INPUT: true; the input reads as it did. -/
def cellsNumbersSpec : ChangeSpec := { name := "cellsNumbers", fn := fun _ => fun
  | [] => { results := [.lit (.bool true)], args := [] }
  | _ => none }
def cellsNumbersRow : OpenClaim := { program := "ytmmijcmlnhmooaa", sum := "cc669c78787d6a638830a6c72166a73e7b9c24944541f9c0952a92292f9769e2", func := "beadle/beadlelaw11.CellsNumbers", spec := "cellsNumbers", apart := false }
def CellsNumbersSaid : Prop := cellsNumbersRow.holds Try.pinned (OpenSpec.ofChange cellsNumbersSpec)

/-- ITS FALSE NEIGHBOUR: 'it returns false'. Refute it at one input. -/
def cellsNumbersWrong : ChangeSpec := { name := "cellsNumbers", fn := fun _ => fun
  | [] => { results := [.lit (.bool false)], args := [] }
  | _ => none }
def CellsNumbersWrongFalsely : Prop := cellsNumbersRow.holds Try.pinned (OpenSpec.ofChange cellsNumbersWrong)

/-- 'beadlelaw11.CellsPlays': WHATEVER THE INPUT: true; the input reads as it did. -/
def cellsPlaysSpec : ChangeSpec := { name := "cellsPlays", fn := fun _ => fun
  | [d1, d2] => { results := [.lit (.bool true)], args := [d1, d2] }
  | _ => none }
def cellsPlaysRow : OpenClaim := { program := "ytmmijcmlnhmooaa", sum := "cc669c78787d6a638830a6c72166a73e7b9c24944541f9c0952a92292f9769e2", func := "beadle/beadlelaw11.CellsPlays", spec := "cellsPlays", inPlace := ["math.Float64frombits", "math.Float64bits"], unfollowed := true, recurses := true, apart := false }
def CellsPlaysSaid : Prop := cellsPlaysRow.holds Try.pinned (OpenSpec.ofChange cellsPlaysSpec)

/-- ITS FALSE NEIGHBOUR: 'it returns false'. Refute it at one input. -/
def cellsPlaysWrong : ChangeSpec := { name := "cellsPlays", fn := fun _ => fun
  | [d1, d2] => { results := [.lit (.bool false)], args := [d1, d2] }
  | _ => none }
def CellsPlaysWrongFalsely : Prop := cellsPlaysRow.holds Try.pinned (OpenSpec.ofChange cellsPlaysWrong)

/-- 'beadlelaw11.CellsAts': WHATEVER THE INPUT: true; the input reads as it did. -/
def cellsAtsSpec : ChangeSpec := { name := "cellsAts", fn := fun _ => fun
  | [d1, d2] => { results := [.lit (.bool true)], args := [d1, d2] }
  | _ => none }
def cellsAtsRow : OpenClaim := { program := "ytmmijcmlnhmooaa", sum := "cc669c78787d6a638830a6c72166a73e7b9c24944541f9c0952a92292f9769e2", func := "beadle/beadlelaw11.CellsAts", spec := "cellsAts", inPlace := ["math.Float64frombits", "math.Float64bits"], unfollowed := true, recurses := true, apart := false }
def CellsAtsSaid : Prop := cellsAtsRow.holds Try.pinned (OpenSpec.ofChange cellsAtsSpec)

/-- ITS FALSE NEIGHBOUR: 'it returns false'. Refute it at one input. -/
def cellsAtsWrong : ChangeSpec := { name := "cellsAts", fn := fun _ => fun
  | [d1, d2] => { results := [.lit (.bool false)], args := [d1, d2] }
  | _ => none }
def CellsAtsWrongFalsely : Prop := cellsAtsRow.holds Try.pinned (OpenSpec.ofChange cellsAtsWrong)

/-- 'beadlelaw11.CellsWhole': WHATEVER THE INPUT: true; the input reads as it did. -/
def cellsWholeSpec : ChangeSpec := { name := "cellsWhole", fn := fun _ => fun
  | [d] => { results := [.lit (.bool true)], args := [d] }
  | _ => none }
def cellsWholeRow : OpenClaim := { program := "ytmmijcmlnhmooaa", sum := "cc669c78787d6a638830a6c72166a73e7b9c24944541f9c0952a92292f9769e2", func := "beadle/beadlelaw11.CellsWhole", spec := "cellsWhole", inPlace := ["math.Float64frombits", "math.Float64bits"], unfollowed := true, recurses := true, apart := false }
def CellsWholeSaid : Prop := cellsWholeRow.holds Try.pinned (OpenSpec.ofChange cellsWholeSpec)

/-- ITS FALSE NEIGHBOUR: 'it returns false'. Refute it at one input. -/
def cellsWholeWrong : ChangeSpec := { name := "cellsWhole", fn := fun _ => fun
  | [d] => { results := [.lit (.bool false)], args := [d] }
  | _ => none }
def CellsWholeWrongFalsely : Prop := cellsWholeRow.holds Try.pinned (OpenSpec.ofChange cellsWholeWrong)

/-- 'beadlelaw11.CellsCost': WHATEVER THE INPUT: true; the input reads as it did. -/
def cellsCostSpec : ChangeSpec := { name := "cellsCost", fn := fun _ => fun
  | [d] => { results := [.lit (.bool true)], args := [d] }
  | _ => none }
def cellsCostRow : OpenClaim := { program := "ytmmijcmlnhmooaa", sum := "cc669c78787d6a638830a6c72166a73e7b9c24944541f9c0952a92292f9769e2", func := "beadle/beadlelaw11.CellsCost", spec := "cellsCost", inPlace := ["math.Float64frombits", "math.Float64bits"], unfollowed := true, recurses := true, apart := false }
def CellsCostSaid : Prop := cellsCostRow.holds Try.pinned (OpenSpec.ofChange cellsCostSpec)

/-- ITS FALSE NEIGHBOUR: 'it returns false'. Refute it at one input. -/
def cellsCostWrong : ChangeSpec := { name := "cellsCost", fn := fun _ => fun
  | [d] => { results := [.lit (.bool false)], args := [d] }
  | _ => none }
def CellsCostWrongFalsely : Prop := cellsCostRow.holds Try.pinned (OpenSpec.ofChange cellsCostWrong)

/-- 'beadlelaw11.CellsQuiet': WHATEVER THE INPUT: true; the input reads as it did. -/
def cellsQuietSpec : ChangeSpec := { name := "cellsQuiet", fn := fun _ => fun
  | [d1, d2] => { results := [.lit (.bool true)], args := [d1, d2] }
  | _ => none }
def cellsQuietRow : OpenClaim := { program := "ytmmijcmlnhmooaa", sum := "cc669c78787d6a638830a6c72166a73e7b9c24944541f9c0952a92292f9769e2", func := "beadle/beadlelaw11.CellsQuiet", spec := "cellsQuiet", inPlace := ["math.Float64frombits", "math.Float64bits"], unfollowed := true, recurses := true, apart := false }
def CellsQuietSaid : Prop := cellsQuietRow.holds Try.pinned (OpenSpec.ofChange cellsQuietSpec)

/-- ITS FALSE NEIGHBOUR: 'it returns false'. Refute it at one input. -/
def cellsQuietWrong : ChangeSpec := { name := "cellsQuiet", fn := fun _ => fun
  | [d1, d2] => { results := [.lit (.bool false)], args := [d1, d2] }
  | _ => none }
def CellsQuietWrongFalsely : Prop := cellsQuietRow.holds Try.pinned (OpenSpec.ofChange cellsQuietWrong)

/- THE SECOND FORM. 'bulk': how many values and letters a reading holds, each counted each time it is reached (what is shared counts as often as it is met; a slice's spare places count too). A statement '..UptoSaid' is the law's where the arguments, and the package variables that the reading takes, are together of bulk at most 1048576: NARROWER than '..Said'. Prove '..Said' where nothing that the law and all that it calls make is longer than what came in: it says more and counts as full. Else prove '..UptoSaid'. A law counts once. -/
mutual
def uptoBulk {H : Type} : DataW H → Nat
  | .lit (.string bytes) => bytes.length + 1
  | .lit _ => 1
  | .nil => 1
  | .ptr d => uptoBulk d + 1
  | .slice elems spare => uptoBulkAll elems + uptoBulkAll spare + 1
  | .agg parts => uptoBulkAll parts + 1
  | .iface _ d => uptoBulk d + 1
  | .map entries => uptoBulkEntries entries + 1
  | .held _ => 1
def uptoBulkAll {H : Type} : List (DataW H) → Nat
  | [] => 0
  | d :: r => uptoBulk d + uptoBulkAll r
def uptoBulkEntries {H : Type} : List (Lit × DataW H) → Nat
  | [] => 0
  | x :: r => uptoBulkEntry x + uptoBulkEntries r
def uptoBulkEntry {H : Type} : Lit × DataW H → Nat
  | (.string bytes, d) => bytes.length + uptoBulk d + 1
  | (_, d) => uptoBulk d + 1
 end
def uptoSmall : (H : Type) → List (DataW H) → Bool := fun _ ds => decide (uptoBulkAll ds ≤ 1048576)
def OpenSpec.upto (s : _root_.Go.ChangeSpec) : _root_.Go.OpenSpec := { _root_.Go.OpenSpec.ofChange s with cond := some uptoSmall }

/-- 'beadlelaw11.CellsNumbers', WHERE WHAT IT READS IS OF BULK AT MOST 1048576: true; the input reads as it did. -/
def cellsNumbersUptoRow : OpenClaim := { program := "ytmmijcmlnhmooaa", sum := "cc669c78787d6a638830a6c72166a73e7b9c24944541f9c0952a92292f9769e2", func := "beadle/beadlelaw11.CellsNumbers", spec := "cellsNumbers", apart := false, narrowed := true }
def CellsNumbersUptoSaid : Prop := cellsNumbersUptoRow.holds Try.pinned (OpenSpec.upto cellsNumbersSpec)

/-- 'beadlelaw11.CellsPlays', WHERE WHAT IT READS IS OF BULK AT MOST 1048576: true; the input reads as it did. -/
def cellsPlaysUptoRow : OpenClaim := { program := "ytmmijcmlnhmooaa", sum := "cc669c78787d6a638830a6c72166a73e7b9c24944541f9c0952a92292f9769e2", func := "beadle/beadlelaw11.CellsPlays", spec := "cellsPlays", inPlace := ["math.Float64frombits", "math.Float64bits"], unfollowed := true, recurses := true, apart := false, narrowed := true }
def CellsPlaysUptoSaid : Prop := cellsPlaysUptoRow.holds Try.pinned (OpenSpec.upto cellsPlaysSpec)

/-- 'beadlelaw11.CellsAts', WHERE WHAT IT READS IS OF BULK AT MOST 1048576: true; the input reads as it did. -/
def cellsAtsUptoRow : OpenClaim := { program := "ytmmijcmlnhmooaa", sum := "cc669c78787d6a638830a6c72166a73e7b9c24944541f9c0952a92292f9769e2", func := "beadle/beadlelaw11.CellsAts", spec := "cellsAts", inPlace := ["math.Float64frombits", "math.Float64bits"], unfollowed := true, recurses := true, apart := false, narrowed := true }
def CellsAtsUptoSaid : Prop := cellsAtsUptoRow.holds Try.pinned (OpenSpec.upto cellsAtsSpec)

/-- 'beadlelaw11.CellsWhole', WHERE WHAT IT READS IS OF BULK AT MOST 1048576: true; the input reads as it did. -/
def cellsWholeUptoRow : OpenClaim := { program := "ytmmijcmlnhmooaa", sum := "cc669c78787d6a638830a6c72166a73e7b9c24944541f9c0952a92292f9769e2", func := "beadle/beadlelaw11.CellsWhole", spec := "cellsWhole", inPlace := ["math.Float64frombits", "math.Float64bits"], unfollowed := true, recurses := true, apart := false, narrowed := true }
def CellsWholeUptoSaid : Prop := cellsWholeUptoRow.holds Try.pinned (OpenSpec.upto cellsWholeSpec)

/-- 'beadlelaw11.CellsCost', WHERE WHAT IT READS IS OF BULK AT MOST 1048576: true; the input reads as it did. -/
def cellsCostUptoRow : OpenClaim := { program := "ytmmijcmlnhmooaa", sum := "cc669c78787d6a638830a6c72166a73e7b9c24944541f9c0952a92292f9769e2", func := "beadle/beadlelaw11.CellsCost", spec := "cellsCost", inPlace := ["math.Float64frombits", "math.Float64bits"], unfollowed := true, recurses := true, apart := false, narrowed := true }
def CellsCostUptoSaid : Prop := cellsCostUptoRow.holds Try.pinned (OpenSpec.upto cellsCostSpec)

/-- 'beadlelaw11.CellsQuiet', WHERE WHAT IT READS IS OF BULK AT MOST 1048576: true; the input reads as it did. -/
def cellsQuietUptoRow : OpenClaim := { program := "ytmmijcmlnhmooaa", sum := "cc669c78787d6a638830a6c72166a73e7b9c24944541f9c0952a92292f9769e2", func := "beadle/beadlelaw11.CellsQuiet", spec := "cellsQuiet", inPlace := ["math.Float64frombits", "math.Float64bits"], unfollowed := true, recurses := true, apart := false, narrowed := true }
def CellsQuietUptoSaid : Prop := cellsQuietUptoRow.holds Try.pinned (OpenSpec.upto cellsQuietSpec)

end Rows
end Go.Proofs.Ytmmijcmlnhmooaa
