/-
  DERIVED. GIVEN WITH THE SEED: THE CARDS: each row of YtninicfnhoediaaGreatDoorRows.lean that lists a variable, with what it lists TIED to the program's text (the seventh form; the later family's looks); each row that meets fmt, with fmt's text TOLD by the authors' own Lean function (tested against real Go, not proved from fmt's source: count such statements apart). THE CARD IS WHAT COUNTS. Prove the row's statement (the work); the ties are given (YtninicfnhoediaaGreatDoorTie.lean); close each card by the builder's one call (the guide's Derived/Test/ToyasCard.lean, 'card_holds'). Laid BY PROGRAM, IN A SANDBOX (cutbox-door.mjs). By AI agents, Wed Nov 11 2026. No macro, syntax, notation, axiom, sorry.
-/
import Derived.Test.YtninicfnhoediaaGreatDoorRows
import GoSem.ClaimSeven
namespace Go.Proofs.YtninicfnhoediaaGreatDoor
namespace Rows

/-- THE TIED CARD OF 'beadlelaw14.ReaderSteps'. -/
def readerStepsCard : Claim7 := { stood := { row := readerStepsRow, standIns := [], harness := (true, "87d6ebc304c453b878687b8967f3f3c0b0b3e04e94f5b8b784979f52790e2aec"), looks := true }, kinds := [], alts := [], laidByText := true, laidKinds := [.data], laidTests := true, laidLooks := .later }
def ReaderStepsCardSaid : Prop := Claim7.holds Tryz.pinned (.plain (OpenSpec.ofChange readerStepsSpec)) readerStepsCard

/-- THE TIED CARD OF 'beadlelaw14.ReaderSmall'. -/
def readerSmallCard : Claim7 := { stood := { row := readerSmallRow, standIns := [], harness := (true, "87d6ebc304c453b878687b8967f3f3c0b0b3e04e94f5b8b784979f52790e2aec"), looks := true }, kinds := [], alts := [], laidByText := true, laidKinds := [.data], laidTests := true, laidLooks := .later }
def ReaderSmallCardSaid : Prop := Claim7.holds Tryz.pinned (.plain (OpenSpec.ofChange readerSmallSpec)) readerSmallCard

/-- THE TIED CARD OF 'beadlelaw14.ReaderWaits'. -/
def readerWaitsCard : Claim7 := { stood := { row := readerWaitsRow, standIns := [], harness := (true, "87d6ebc304c453b878687b8967f3f3c0b0b3e04e94f5b8b784979f52790e2aec"), looks := true }, kinds := [], alts := [], laidByText := true, laidKinds := [.data], laidTests := true, laidLooks := .later }
def ReaderWaitsCardSaid : Prop := Claim7.holds Tryz.pinned (.plain (OpenSpec.ofChange readerWaitsSpec)) readerWaitsCard

/-- THE TIED CARD OF 'beadlelaw14.ReaderSees'. -/
def readerSeesCard : Claim7 := { stood := { row := readerSeesRow, standIns := [], harness := (true, "87d6ebc304c453b878687b8967f3f3c0b0b3e04e94f5b8b784979f52790e2aec"), looks := true }, kinds := [], alts := [], laidByText := true, laidKinds := [.data], laidTests := true, laidLooks := .later }
def ReaderSeesCardSaid : Prop := Claim7.holds Tryz.pinned (.plain (OpenSpec.ofChange readerSeesSpec)) readerSeesCard

/-- THE TIED CARD OF 'beadlelaw14.ReaderAlone'. -/
def readerAloneCard : Claim7 := { stood := { row := readerAloneRow, standIns := [], harness := (true, "87d6ebc304c453b878687b8967f3f3c0b0b3e04e94f5b8b784979f52790e2aec"), looks := true }, kinds := [], alts := [], laidByText := true, laidKinds := [.data], laidTests := true, laidLooks := .later }
def ReaderAloneCardSaid : Prop := Claim7.holds Tryz.pinned (.plain (OpenSpec.ofChange readerAloneSpec)) readerAloneCard

/-- THE TIED CARD OF 'beadlelaw14.ReaderClones'. -/
def readerClonesCard : Claim7 := { stood := { row := readerClonesRow, standIns := [], harness := (true, "87d6ebc304c453b878687b8967f3f3c0b0b3e04e94f5b8b784979f52790e2aec"), looks := true }, kinds := [], alts := [], laidByText := true, laidKinds := [.data], laidTests := true, laidLooks := .later }
def ReaderClonesCardSaid : Prop := Claim7.holds Tryz.pinned (.plain (OpenSpec.ofChange readerClonesSpec)) readerClonesCard

/-- THE SECOND FORM's CARD OF 'beadlelaw14.ReaderSteps'. -/
def readerStepsUptoCard : Claim7 := { stood := { row := readerStepsUptoRow, standIns := [], harness := (true, "87d6ebc304c453b878687b8967f3f3c0b0b3e04e94f5b8b784979f52790e2aec"), looks := true }, kinds := [], alts := [], laidByText := true, laidKinds := [.data], laidTests := true, laidLooks := .later }
def ReaderStepsUptoCardSaid : Prop := Claim7.holds Tryz.pinned (.plain (OpenSpec.upto readerStepsSpec)) readerStepsUptoCard

/-- THE SECOND FORM's CARD OF 'beadlelaw14.ReaderSmall'. -/
def readerSmallUptoCard : Claim7 := { stood := { row := readerSmallUptoRow, standIns := [], harness := (true, "87d6ebc304c453b878687b8967f3f3c0b0b3e04e94f5b8b784979f52790e2aec"), looks := true }, kinds := [], alts := [], laidByText := true, laidKinds := [.data], laidTests := true, laidLooks := .later }
def ReaderSmallUptoCardSaid : Prop := Claim7.holds Tryz.pinned (.plain (OpenSpec.upto readerSmallSpec)) readerSmallUptoCard

/-- THE SECOND FORM's CARD OF 'beadlelaw14.ReaderWaits'. -/
def readerWaitsUptoCard : Claim7 := { stood := { row := readerWaitsUptoRow, standIns := [], harness := (true, "87d6ebc304c453b878687b8967f3f3c0b0b3e04e94f5b8b784979f52790e2aec"), looks := true }, kinds := [], alts := [], laidByText := true, laidKinds := [.data], laidTests := true, laidLooks := .later }
def ReaderWaitsUptoCardSaid : Prop := Claim7.holds Tryz.pinned (.plain (OpenSpec.upto readerWaitsSpec)) readerWaitsUptoCard

/-- THE SECOND FORM's CARD OF 'beadlelaw14.ReaderSees'. -/
def readerSeesUptoCard : Claim7 := { stood := { row := readerSeesUptoRow, standIns := [], harness := (true, "87d6ebc304c453b878687b8967f3f3c0b0b3e04e94f5b8b784979f52790e2aec"), looks := true }, kinds := [], alts := [], laidByText := true, laidKinds := [.data], laidTests := true, laidLooks := .later }
def ReaderSeesUptoCardSaid : Prop := Claim7.holds Tryz.pinned (.plain (OpenSpec.upto readerSeesSpec)) readerSeesUptoCard

/-- THE SECOND FORM's CARD OF 'beadlelaw14.ReaderAlone'. -/
def readerAloneUptoCard : Claim7 := { stood := { row := readerAloneUptoRow, standIns := [], harness := (true, "87d6ebc304c453b878687b8967f3f3c0b0b3e04e94f5b8b784979f52790e2aec"), looks := true }, kinds := [], alts := [], laidByText := true, laidKinds := [.data], laidTests := true, laidLooks := .later }
def ReaderAloneUptoCardSaid : Prop := Claim7.holds Tryz.pinned (.plain (OpenSpec.upto readerAloneSpec)) readerAloneUptoCard

/-- THE SECOND FORM's CARD OF 'beadlelaw14.ReaderClones'. -/
def readerClonesUptoCard : Claim7 := { stood := { row := readerClonesUptoRow, standIns := [], harness := (true, "87d6ebc304c453b878687b8967f3f3c0b0b3e04e94f5b8b784979f52790e2aec"), looks := true }, kinds := [], alts := [], laidByText := true, laidKinds := [.data], laidTests := true, laidLooks := .later }
def ReaderClonesUptoCardSaid : Prop := Claim7.holds Tryz.pinned (.plain (OpenSpec.upto readerClonesSpec)) readerClonesUptoCard
end Rows
end Go.Proofs.YtninicfnhoediaaGreatDoor
