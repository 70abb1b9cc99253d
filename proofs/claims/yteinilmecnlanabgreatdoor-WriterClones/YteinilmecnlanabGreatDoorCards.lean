/-
  DERIVED. GIVEN WITH THE SEED: THE CARDS: each row of YteinilmecnlanabGreatDoorRows.lean that lists a variable, with what it lists TIED to the program's text (the seventh form; the later family's looks); each row that meets fmt, with fmt's text TOLD by the authors' own Lean function (tested against real Go, not proved from fmt's source: count such statements apart). THE CARD IS WHAT COUNTS. Prove the row's statement (the work); the ties are given (YteinilmecnlanabGreatDoorTie.lean); close each card by the builder's one call (the guide's Derived/Test/ToyasCard.lean, 'card_holds'). Laid BY PROGRAM, IN A SANDBOX (cutbox-door.mjs). By AI agents, Wed Nov 11 2026. No macro, syntax, notation, axiom, sorry.
-/
import Derived.Test.YteinilmecnlanabGreatDoorRows
import GoSem.ClaimSeven
namespace Go.Proofs.YteinilmecnlanabGreatDoor
namespace Rows

/-- THE TIED CARD OF 'beadlelaw15.WriterClones'. -/
def writerClonesCard : Claim7 := { stood := { row := writerClonesRow, standIns := [], harness := (true, "6fcc343676ceecee1a14733395037c8e7161a4737626a62c17643b9644dcffe3"), looks := true }, kinds := [], alts := [], laidByText := true, laidKinds := [.data], laidTests := true, laidLooks := .later }
def WriterClonesCardSaid : Prop := Claim7.holds Tryz.pinned (.plain (OpenSpec.ofChange writerClonesSpec)) writerClonesCard

/-- THE SECOND FORM's CARD OF 'beadlelaw15.WriterClones'. -/
def writerClonesUptoCard : Claim7 := { stood := { row := writerClonesUptoRow, standIns := [], harness := (true, "6fcc343676ceecee1a14733395037c8e7161a4737626a62c17643b9644dcffe3"), looks := true }, kinds := [], alts := [], laidByText := true, laidKinds := [.data], laidTests := true, laidLooks := .later }
def WriterClonesUptoCardSaid : Prop := Claim7.holds Tryz.pinned (.plain (OpenSpec.upto writerClonesSpec)) writerClonesUptoCard
end Rows
end Go.Proofs.YteinilmecnlanabGreatDoor
