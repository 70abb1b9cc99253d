/-
  NARROWER THAN 'FOR EVERY INPUT', by the rows' own cells (each row's printed sentence says how): DequeNumbers: laid.
  DERIVED. THE GIVEN ROWS OF THIS SEAT. 1 by the template 'for every input the law returns true; each argument reads behind the call as it read before'; 0 by the template 'total and deterministic' (their statements: YtaliehikdidiaaaDoorTotals.lean).
  GIVEN WITH THE SEED: the statements are not yours to turn. If you find one false, say at which input.
  Laid BY PROGRAM, IN A SANDBOX (cutbox-rows.mjs): the forced cells as the released guide's own fill.sh prints them over the translation 14c482fcaa373f83… (all of the seat's roots in one cut). By AI agents, Wed Nov 11 2026. No macro, syntax, notation, axiom, sorry.
-/
import Derived.Test.YtaliehikdidiaaaDoorChecked
import GoSem.Claim
import GoSem.ClaimJoined
import GoSem.ClaimMapViews
import Derived.JoinedTies
import Derived.KernelRfl
namespace Go.Proofs.YtaliehikdidiaaaDoor
/- THE CELL 'sum', in the pinned program and in every row, IS THE sha256 OF THE DUMP (.gsa) THAT YtaliehikdidiaaaDoorProg.lean LOADS. Nothing in Lean hashes anything: it is a label: what it is worth is what the hold of that sum in a sandbox is worth. -/
noncomputable def Tryd.pinned : Pinned := { name := "ytaliehikdidiaaadoor", sum := "14c482fcaa373f83fd5cbf51bd2576742b4babcbd7c6dca9baf497c7dd9967c1", checked := Tryd.checked }
namespace Rows
def none {H : Type} : Left H := { results := [], args := [] }

/- WHAT THE LISTED PACKAGE-LEVEL VARIABLES READ AS WHEN THE CALL BEGINS. Each datum BY PROGRAM (the guide's laid-datum.mjs) off the statement by which the dump's own 'gosem.cut.vars' lays the variable. In a bare row this is a premise. The card (YtaliehikdidiaaaDoorCards.lean) ties it to the program's text. -/
def laid_beadle_code_shapes {H : Type} : DataW H := .agg [.agg [.lit (.string []), .lit (.int .i64 0), .lit (.int .i64 0), .lit (.int .i64 0), .lit (.int .i64 0), .lit (.int .i64 0)], .agg [.lit (.string [112, 117, 115, 104]), .lit (.int .i64 1), .lit (.int .i64 0), .lit (.int .i64 0), .lit (.int .i64 0), .lit (.int .i64 1)], .agg [.lit (.string [100, 114, 111, 112]), .lit (.int .i64 0), .lit (.int .i64 0), .lit (.int .i64 0), .lit (.int .i64 1), .lit (.int .i64 0)], .agg [.lit (.string [100, 117, 112]), .lit (.int .i64 0), .lit (.int .i64 0), .lit (.int .i64 0), .lit (.int .i64 1), .lit (.int .i64 2)], .agg [.lit (.string [115, 119, 97, 112]), .lit (.int .i64 0), .lit (.int .i64 0), .lit (.int .i64 0), .lit (.int .i64 2), .lit (.int .i64 2)], .agg [.lit (.string [112, 105, 99, 107]), .lit (.int .i64 2), .lit (.int .i64 0), .lit (.int .i64 63), .lit (.int .i64 0), .lit (.int .i64 1)], .agg [.lit (.string [97, 114, 103]), .lit (.int .i64 2), .lit (.int .i64 0), .lit (.int .i64 7), .lit (.int .i64 0), .lit (.int .i64 1)], .agg [.lit (.string [103, 101, 116]), .lit (.int .i64 2), .lit (.int .i64 0), .lit (.int .i64 7), .lit (.int .i64 0), .lit (.int .i64 1)], .agg [.lit (.string [115, 101, 116]), .lit (.int .i64 2), .lit (.int .i64 0), .lit (.int .i64 7), .lit (.int .i64 1), .lit (.int .i64 0)], .agg [.lit (.string []), .lit (.int .i64 4), .lit (.int .i64 1), .lit (.int .i64 8), .lit (.int .i64 1), .lit (.int .i64 1)], .agg [.lit (.string []), .lit (.int .i64 5), .lit (.int .i64 1), .lit (.int .i64 12), .lit (.int .i64 2), .lit (.int .i64 1)], .agg [.lit (.string [106, 117, 109, 112]), .lit (.int .i64 3), .lit (.int .i64 0), .lit (.int .i64 1023), .lit (.int .i64 0), .lit (.int .i64 0)], .agg [.lit (.string [105, 102]), .lit (.int .i64 3), .lit (.int .i64 0), .lit (.int .i64 1023), .lit (.int .i64 1), .lit (.int .i64 0)], .agg [.lit (.string [117, 110, 108, 101, 115, 115]), .lit (.int .i64 3), .lit (.int .i64 0), .lit (.int .i64 1023), .lit (.int .i64 1), .lit (.int .i64 0)], .agg [.lit (.string [99, 97, 108, 108]), .lit (.int .i64 3), .lit (.int .i64 0), .lit (.int .i64 1023), .lit (.int .i64 0), .lit (.int .i64 0)], .agg [.lit (.string [114, 101, 116]), .lit (.int .i64 0), .lit (.int .i64 0), .lit (.int .i64 0), .lit (.int .i64 0), .lit (.int .i64 0)], .agg [.lit (.string [114, 101, 97, 100]), .lit (.int .i64 0), .lit (.int .i64 0), .lit (.int .i64 0), .lit (.int .i64 1), .lit (.int .i64 1)], .agg [.lit (.string [119, 114, 105, 116, 101]), .lit (.int .i64 0), .lit (.int .i64 0), .lit (.int .i64 0), .lit (.int .i64 2), .lit (.int .i64 0)], .agg [.lit (.string [101, 109, 105, 116]), .lit (.int .i64 0), .lit (.int .i64 0), .lit (.int .i64 0), .lit (.int .i64 1), .lit (.int .i64 0)], .agg [.lit (.string [97, 98, 111, 114, 116]), .lit (.int .i64 2), .lit (.int .i64 0), .lit (.int .i64 99), .lit (.int .i64 0), .lit (.int .i64 0)], .agg [.lit (.string [104, 97, 108, 116]), .lit (.int .i64 0), .lit (.int .i64 0), .lit (.int .i64 0), .lit (.int .i64 0), .lit (.int .i64 0)]]

/-- 'beadlelaw22.DequeNumbers': WHATEVER THE INPUT: true; the input reads as it did. -/
def dequeNumbersSpec : ChangeSpec := { name := "dequeNumbers", fn := fun _ => fun
  | [] => { results := [.lit (.bool true)], args := [] }
  | _ => none }
def dequeNumbersRow : OpenClaim := { program := "ytaliehikdidiaaadoor", sum := "14c482fcaa373f83fd5cbf51bd2576742b4babcbd7c6dca9baf497c7dd9967c1", func := "beadle/beadlelaw22.DequeNumbers", spec := "dequeNumbers", inPlace := ["math.Float64frombits", "math.Float64bits"], unfollowed := true, recurses := true, named := ["beadle/code.shapes"], apart := false, laid := [("beadle/code.shapes", laid_beadle_code_shapes)] }
def DequeNumbersSaid : Prop := dequeNumbersRow.holds Tryd.pinned (OpenSpec.ofChange dequeNumbersSpec)

/-- ITS FALSE NEIGHBOUR: 'it returns false'. Refute it at one input. -/
def dequeNumbersWrong : ChangeSpec := { name := "dequeNumbers", fn := fun _ => fun
  | [] => { results := [.lit (.bool false)], args := [] }
  | _ => none }
def DequeNumbersWrongFalsely : Prop := dequeNumbersRow.holds Tryd.pinned (OpenSpec.ofChange dequeNumbersWrong)

/- THE SECOND FORM. 'bulk': how many values and letters a reading holds, each counted each time it is reached (what is shared counts as often as it is met; a slice's spare places count too). A statement '..UptoSaid' is the law's where the arguments, and the package variables that the reading takes, are together of bulk at most 1048576: NARROWER than '..Said'. Prove '..Said' where nothing that the law and all that it calls make is longer than what came in: it says more and counts as full. Else prove '..UptoSaid'. A law counts once. -/
mutual
def uptoBulk {H : Type} : DataW H → Nat
  | .lit (.string bytes) => bytes.length + 1
  | .lit _ => 1
  | .nil => 1
  | .ptr d => uptoBulk d + 1
  | .slice elems spare => uptoBulkAll elems + uptoBulkAll spare + 1
  | .agg parts => uptoBulkAll parts + 1
  | .iface _ d => uptoBulk d + 1
  | .map entries => uptoBulkEntries entries + 1
  | .held _ => 1
def uptoBulkAll {H : Type} : List (DataW H) → Nat
  | [] => 0
  | d :: r => uptoBulk d + uptoBulkAll r
def uptoBulkEntries {H : Type} : List (Lit × DataW H) → Nat
  | [] => 0
  | x :: r => uptoBulkEntry x + uptoBulkEntries r
def uptoBulkEntry {H : Type} : Lit × DataW H → Nat
  | (.string bytes, d) => bytes.length + uptoBulk d + 1
  | (_, d) => uptoBulk d + 1
 end
def uptoSmall : (H : Type) → List (DataW H) → Bool := fun _ ds => decide (uptoBulkAll ds ≤ 1048576)
def OpenSpec.upto (s : _root_.Go.ChangeSpec) : _root_.Go.OpenSpec := { _root_.Go.OpenSpec.ofChange s with cond := some uptoSmall }

/-- 'beadlelaw22.DequeNumbers', WHERE WHAT IT READS IS OF BULK AT MOST 1048576: true; the input reads as it did. -/
def dequeNumbersUptoRow : OpenClaim := { program := "ytaliehikdidiaaadoor", sum := "14c482fcaa373f83fd5cbf51bd2576742b4babcbd7c6dca9baf497c7dd9967c1", func := "beadle/beadlelaw22.DequeNumbers", spec := "dequeNumbers", inPlace := ["math.Float64frombits", "math.Float64bits"], unfollowed := true, recurses := true, named := ["beadle/code.shapes"], apart := false, laid := [("beadle/code.shapes", laid_beadle_code_shapes)], narrowed := true }
def DequeNumbersUptoSaid : Prop := dequeNumbersUptoRow.holds Tryd.pinned (OpenSpec.upto dequeNumbersSpec)

end Rows
end Go.Proofs.YtaliehikdidiaaaDoor
