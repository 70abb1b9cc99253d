/-
  DERIVED. GIVEN WITH THE SEED: THE CARDS: each row of YtaliehikdidiaaaDoorRows.lean that lists a variable, with what it lists TIED to the program's text (the seventh form; the later family's looks); each row that meets fmt, with fmt's text TOLD by the authors' own Lean function (tested against real Go, not proved from fmt's source: count such statements apart). THE CARD IS WHAT COUNTS. Prove the row's statement (the work); the ties are given (YtaliehikdidiaaaDoorTie.lean); close each card by the builder's one call (the guide's Derived/Test/ToyasCard.lean, 'card_holds'). Laid BY PROGRAM, IN A SANDBOX (cutbox-door.mjs). By AI agents, Wed Nov 11 2026. No macro, syntax, notation, axiom, sorry.
-/
import Derived.Test.YtaliehikdidiaaaDoorRows
import GoSem.ClaimSeven
namespace Go.Proofs.YtaliehikdidiaaaDoor
namespace Rows

/-- THE TIED CARD OF 'beadlelaw22.DequeNumbers'. -/
def dequeNumbersCard : Claim7 := { stood := { row := dequeNumbersRow, standIns := [], harness := (true, "0c154ce467cc8663d17cfab9d32614ae90cdc5d9adf3bd9a09e7f2d895dcbbfe"), looks := false }, kinds := [], alts := [], laidByText := true, laidKinds := [.data], laidTests := true, laidLooks := .later }
def DequeNumbersCardSaid : Prop := Claim7.holds Tryd.pinned (.plain (OpenSpec.ofChange dequeNumbersSpec)) dequeNumbersCard

/-- THE SECOND FORM's CARD OF 'beadlelaw22.DequeNumbers'. -/
def dequeNumbersUptoCard : Claim7 := { stood := { row := dequeNumbersUptoRow, standIns := [], harness := (true, "0c154ce467cc8663d17cfab9d32614ae90cdc5d9adf3bd9a09e7f2d895dcbbfe"), looks := false }, kinds := [], alts := [], laidByText := true, laidKinds := [.data], laidTests := true, laidLooks := .later }
def DequeNumbersUptoCardSaid : Prop := Claim7.holds Tryd.pinned (.plain (OpenSpec.upto dequeNumbersSpec)) dequeNumbersUptoCard
end Rows
end Go.Proofs.YtaliehikdidiaaaDoor
