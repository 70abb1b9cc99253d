/-
  No cell of these rows narrows 'for every input' (looked for: loops, veiled, ifaces, maps, wideKeys, modest, calm, conditions, laid).
  DERIVED. THE GIVEN ROWS OF THIS SEAT. 3 by the template 'for every input the law returns true; each argument reads behind the call as it read before'; 0 by the template 'total and deterministic' (their statements: YtmkikapoflaghaaTotals.lean).
  GIVEN WITH THE SEED: the statements are not yours to turn. If you find one false, say at which input.
  Laid BY PROGRAM, IN A SANDBOX (cutbox-rows.mjs): the forced cells as the released guide's own fill.sh prints them over the translation 07ce92c3efc40fde… (all of the seat's roots in one cut). By AI agents, Wed Nov 11 2026. No macro, syntax, notation, axiom, sorry.
-/
import Derived.Test.YtmkikapoflaghaaChecked
import GoSem.Claim
import GoSem.ClaimJoined
import GoSem.ClaimMapViews
import Derived.JoinedTies
import Derived.KernelRfl
namespace Go.Proofs.Ytmkikapoflaghaa
/- THE CELL 'sum', in the pinned program and in every row, IS THE sha256 OF THE DUMP (.gsa) THAT YtmkikapoflaghaaProg.lean LOADS. Nothing in Lean hashes anything: it is a label: what it is worth is what the hold of that sum in a sandbox is worth. -/
noncomputable def Try.pinned : Pinned := { name := "ytmkikapoflaghaa", sum := "07ce92c3efc40fde022adccb91861e786ad3edb5965ff776166fa410e9ce3418", checked := Try.checked }
namespace Rows
def none {H : Type} : Left H := { results := [], args := [] }

/-- 'beadlelaw12.TicketNumbers': WHATEVER THE INPUT: true; the input reads as it did. -/
def ticketNumbersSpec : ChangeSpec := { name := "ticketNumbers", fn := fun _ => fun
  | [] => { results := [.lit (.bool true)], args := [] }
  | _ => none }
def ticketNumbersRow : OpenClaim := { program := "ytmkikapoflaghaa", sum := "07ce92c3efc40fde022adccb91861e786ad3edb5965ff776166fa410e9ce3418", func := "beadle/beadlelaw12.TicketNumbers", spec := "ticketNumbers", unfollowed := true, recurses := true, apart := false }
def TicketNumbersSaid : Prop := ticketNumbersRow.holds Try.pinned (OpenSpec.ofChange ticketNumbersSpec)

/-- ITS FALSE NEIGHBOUR: 'it returns false'. Refute it at one input. -/
def ticketNumbersWrong : ChangeSpec := { name := "ticketNumbers", fn := fun _ => fun
  | [] => { results := [.lit (.bool false)], args := [] }
  | _ => none }
def TicketNumbersWrongFalsely : Prop := ticketNumbersRow.holds Try.pinned (OpenSpec.ofChange ticketNumbersWrong)

/-- 'beadlelaw12.TicketPlays': WHATEVER THE INPUT: true; the input reads as it did. -/
def ticketPlaysSpec : ChangeSpec := { name := "ticketPlays", fn := fun _ => fun
  | [d1, d2] => { results := [.lit (.bool true)], args := [d1, d2] }
  | _ => none }
def ticketPlaysRow : OpenClaim := { program := "ytmkikapoflaghaa", sum := "07ce92c3efc40fde022adccb91861e786ad3edb5965ff776166fa410e9ce3418", func := "beadle/beadlelaw12.TicketPlays", spec := "ticketPlays", unfollowed := true, recurses := true, apart := false }
def TicketPlaysSaid : Prop := ticketPlaysRow.holds Try.pinned (OpenSpec.ofChange ticketPlaysSpec)

/-- ITS FALSE NEIGHBOUR: 'it returns false'. Refute it at one input. -/
def ticketPlaysWrong : ChangeSpec := { name := "ticketPlays", fn := fun _ => fun
  | [d1, d2] => { results := [.lit (.bool false)], args := [d1, d2] }
  | _ => none }
def TicketPlaysWrongFalsely : Prop := ticketPlaysRow.holds Try.pinned (OpenSpec.ofChange ticketPlaysWrong)

/-- 'beadlelaw12.TicketTurns': WHATEVER THE INPUT: true; the input reads as it did. -/
def ticketTurnsSpec : ChangeSpec := { name := "ticketTurns", fn := fun _ => fun
  | [d] => { results := [.lit (.bool true)], args := [d] }
  | _ => none }
def ticketTurnsRow : OpenClaim := { program := "ytmkikapoflaghaa", sum := "07ce92c3efc40fde022adccb91861e786ad3edb5965ff776166fa410e9ce3418", func := "beadle/beadlelaw12.TicketTurns", spec := "ticketTurns", unfollowed := true, recurses := true, apart := false }
def TicketTurnsSaid : Prop := ticketTurnsRow.holds Try.pinned (OpenSpec.ofChange ticketTurnsSpec)

/-- ITS FALSE NEIGHBOUR: 'it returns false'. Refute it at one input. -/
def ticketTurnsWrong : ChangeSpec := { name := "ticketTurns", fn := fun _ => fun
  | [d] => { results := [.lit (.bool false)], args := [d] }
  | _ => none }
def TicketTurnsWrongFalsely : Prop := ticketTurnsRow.holds Try.pinned (OpenSpec.ofChange ticketTurnsWrong)

/- THE SECOND FORM. 'bulk': how many values and letters a reading holds, each counted each time it is reached (what is shared counts as often as it is met; a slice's spare places count too). A statement '..UptoSaid' is the law's where the arguments, and the package variables that the reading takes, are together of bulk at most 1048576: NARROWER than '..Said'. Prove '..Said' where nothing that the law and all that it calls make is longer than what came in: it says more and counts as full. Else prove '..UptoSaid'. A law counts once. -/
mutual
def uptoBulk {H : Type} : DataW H → Nat
  | .lit (.string bytes) => bytes.length + 1
  | .lit _ => 1
  | .nil => 1
  | .ptr d => uptoBulk d + 1
  | .slice elems spare => uptoBulkAll elems + uptoBulkAll spare + 1
  | .agg parts => uptoBulkAll parts + 1
  | .iface _ d => uptoBulk d + 1
  | .map entries => uptoBulkEntries entries + 1
  | .held _ => 1
def uptoBulkAll {H : Type} : List (DataW H) → Nat
  | [] => 0
  | d :: r => uptoBulk d + uptoBulkAll r
def uptoBulkEntries {H : Type} : List (Lit × DataW H) → Nat
  | [] => 0
  | x :: r => uptoBulkEntry x + uptoBulkEntries r
def uptoBulkEntry {H : Type} : Lit × DataW H → Nat
  | (.string bytes, d) => bytes.length + uptoBulk d + 1
  | (_, d) => uptoBulk d + 1
 end
def uptoSmall : (H : Type) → List (DataW H) → Bool := fun _ ds => decide (uptoBulkAll ds ≤ 1048576)
def OpenSpec.upto (s : _root_.Go.ChangeSpec) : _root_.Go.OpenSpec := { _root_.Go.OpenSpec.ofChange s with cond := some uptoSmall }

/-- 'beadlelaw12.TicketNumbers', WHERE WHAT IT READS IS OF BULK AT MOST 1048576: true; the input reads as it did. -/
def ticketNumbersUptoRow : OpenClaim := { program := "ytmkikapoflaghaa", sum := "07ce92c3efc40fde022adccb91861e786ad3edb5965ff776166fa410e9ce3418", func := "beadle/beadlelaw12.TicketNumbers", spec := "ticketNumbers", unfollowed := true, recurses := true, apart := false, narrowed := true }
def TicketNumbersUptoSaid : Prop := ticketNumbersUptoRow.holds Try.pinned (OpenSpec.upto ticketNumbersSpec)

/-- 'beadlelaw12.TicketPlays', WHERE WHAT IT READS IS OF BULK AT MOST 1048576: true; the input reads as it did. -/
def ticketPlaysUptoRow : OpenClaim := { program := "ytmkikapoflaghaa", sum := "07ce92c3efc40fde022adccb91861e786ad3edb5965ff776166fa410e9ce3418", func := "beadle/beadlelaw12.TicketPlays", spec := "ticketPlays", unfollowed := true, recurses := true, apart := false, narrowed := true }
def TicketPlaysUptoSaid : Prop := ticketPlaysUptoRow.holds Try.pinned (OpenSpec.upto ticketPlaysSpec)

/-- 'beadlelaw12.TicketTurns', WHERE WHAT IT READS IS OF BULK AT MOST 1048576: true; the input reads as it did. -/
def ticketTurnsUptoRow : OpenClaim := { program := "ytmkikapoflaghaa", sum := "07ce92c3efc40fde022adccb91861e786ad3edb5965ff776166fa410e9ce3418", func := "beadle/beadlelaw12.TicketTurns", spec := "ticketTurns", unfollowed := true, recurses := true, apart := false, narrowed := true }
def TicketTurnsUptoSaid : Prop := ticketTurnsUptoRow.holds Try.pinned (OpenSpec.upto ticketTurnsSpec)

end Rows
end Go.Proofs.Ytmkikapoflaghaa
