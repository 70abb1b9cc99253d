/-
  DERIVED. GIVEN WITH THE SEED: THE CARDS: each row of YteinilmecnlanaaGreatDoorRows.lean that lists a variable, with what it lists TIED to the program's text (the seventh form; the later family's looks); each row that meets fmt, with fmt's text TOLD by the authors' own Lean function (tested against real Go, not proved from fmt's source: count such statements apart). THE CARD IS WHAT COUNTS. Prove the row's statement (the work); the ties are given (YteinilmecnlanaaGreatDoorTie.lean); close each card by the builder's one call (the guide's Derived/Test/ToyasCard.lean, 'card_holds'). Laid BY PROGRAM, IN A SANDBOX (cutbox-door.mjs). By AI agents, Wed Nov 11 2026. No macro, syntax, notation, axiom, sorry.
-/
import Derived.Test.YteinilmecnlanaaGreatDoorRows
import GoSem.ClaimSeven
namespace Go.Proofs.YteinilmecnlanaaGreatDoor
namespace Rows

/-- THE TIED CARD OF 'beadlelaw15.WriterSteps'. -/
def writerStepsCard : Claim7 := { stood := { row := writerStepsRow, standIns := [], harness := (true, "4fa91843fc0e7a3eff126fe3bd74494f3d837037a48adefd8996501073d5b369"), looks := true }, kinds := [], alts := [], laidByText := true, laidKinds := [.data], laidTests := true, laidLooks := .later }
def WriterStepsCardSaid : Prop := Claim7.holds Tryz.pinned (.plain (OpenSpec.ofChange writerStepsSpec)) writerStepsCard

/-- THE TIED CARD OF 'beadlelaw15.WriterSmall'. -/
def writerSmallCard : Claim7 := { stood := { row := writerSmallRow, standIns := [], harness := (true, "4fa91843fc0e7a3eff126fe3bd74494f3d837037a48adefd8996501073d5b369"), looks := true }, kinds := [], alts := [], laidByText := true, laidKinds := [.data], laidTests := true, laidLooks := .later }
def WriterSmallCardSaid : Prop := Claim7.holds Tryz.pinned (.plain (OpenSpec.ofChange writerSmallSpec)) writerSmallCard

/-- THE TIED CARD OF 'beadlelaw15.WriterTurn'. -/
def writerTurnCard : Claim7 := { stood := { row := writerTurnRow, standIns := [], harness := (true, "4fa91843fc0e7a3eff126fe3bd74494f3d837037a48adefd8996501073d5b369"), looks := true }, kinds := [], alts := [], laidByText := true, laidKinds := [.data], laidTests := true, laidLooks := .later }
def WriterTurnCardSaid : Prop := Claim7.holds Tryz.pinned (.plain (OpenSpec.ofChange writerTurnSpec)) writerTurnCard

/-- THE TIED CARD OF 'beadlelaw15.WriterHides'. -/
def writerHidesCard : Claim7 := { stood := { row := writerHidesRow, standIns := [], harness := (true, "4fa91843fc0e7a3eff126fe3bd74494f3d837037a48adefd8996501073d5b369"), looks := true }, kinds := [], alts := [], laidByText := true, laidKinds := [.data], laidTests := true, laidLooks := .later }
def WriterHidesCardSaid : Prop := Claim7.holds Tryz.pinned (.plain (OpenSpec.ofChange writerHidesSpec)) writerHidesCard

/-- THE TIED CARD OF 'beadlelaw15.WriterBack'. -/
def writerBackCard : Claim7 := { stood := { row := writerBackRow, standIns := [], harness := (true, "4fa91843fc0e7a3eff126fe3bd74494f3d837037a48adefd8996501073d5b369"), looks := true }, kinds := [], alts := [], laidByText := true, laidKinds := [.data], laidTests := true, laidLooks := .later }
def WriterBackCardSaid : Prop := Claim7.holds Tryz.pinned (.plain (OpenSpec.ofChange writerBackSpec)) writerBackCard

/-- THE TIED CARD OF 'beadlelaw15.WriterAlone'. -/
def writerAloneCard : Claim7 := { stood := { row := writerAloneRow, standIns := [], harness := (true, "4fa91843fc0e7a3eff126fe3bd74494f3d837037a48adefd8996501073d5b369"), looks := true }, kinds := [], alts := [], laidByText := true, laidKinds := [.data], laidTests := true, laidLooks := .later }
def WriterAloneCardSaid : Prop := Claim7.holds Tryz.pinned (.plain (OpenSpec.ofChange writerAloneSpec)) writerAloneCard

/-- THE SECOND FORM's CARD OF 'beadlelaw15.WriterSteps'. -/
def writerStepsUptoCard : Claim7 := { stood := { row := writerStepsUptoRow, standIns := [], harness := (true, "4fa91843fc0e7a3eff126fe3bd74494f3d837037a48adefd8996501073d5b369"), looks := true }, kinds := [], alts := [], laidByText := true, laidKinds := [.data], laidTests := true, laidLooks := .later }
def WriterStepsUptoCardSaid : Prop := Claim7.holds Tryz.pinned (.plain (OpenSpec.upto writerStepsSpec)) writerStepsUptoCard

/-- THE SECOND FORM's CARD OF 'beadlelaw15.WriterSmall'. -/
def writerSmallUptoCard : Claim7 := { stood := { row := writerSmallUptoRow, standIns := [], harness := (true, "4fa91843fc0e7a3eff126fe3bd74494f3d837037a48adefd8996501073d5b369"), looks := true }, kinds := [], alts := [], laidByText := true, laidKinds := [.data], laidTests := true, laidLooks := .later }
def WriterSmallUptoCardSaid : Prop := Claim7.holds Tryz.pinned (.plain (OpenSpec.upto writerSmallSpec)) writerSmallUptoCard

/-- THE SECOND FORM's CARD OF 'beadlelaw15.WriterTurn'. -/
def writerTurnUptoCard : Claim7 := { stood := { row := writerTurnUptoRow, standIns := [], harness := (true, "4fa91843fc0e7a3eff126fe3bd74494f3d837037a48adefd8996501073d5b369"), looks := true }, kinds := [], alts := [], laidByText := true, laidKinds := [.data], laidTests := true, laidLooks := .later }
def WriterTurnUptoCardSaid : Prop := Claim7.holds Tryz.pinned (.plain (OpenSpec.upto writerTurnSpec)) writerTurnUptoCard

/-- THE SECOND FORM's CARD OF 'beadlelaw15.WriterHides'. -/
def writerHidesUptoCard : Claim7 := { stood := { row := writerHidesUptoRow, standIns := [], harness := (true, "4fa91843fc0e7a3eff126fe3bd74494f3d837037a48adefd8996501073d5b369"), looks := true }, kinds := [], alts := [], laidByText := true, laidKinds := [.data], laidTests := true, laidLooks := .later }
def WriterHidesUptoCardSaid : Prop := Claim7.holds Tryz.pinned (.plain (OpenSpec.upto writerHidesSpec)) writerHidesUptoCard

/-- THE SECOND FORM's CARD OF 'beadlelaw15.WriterBack'. -/
def writerBackUptoCard : Claim7 := { stood := { row := writerBackUptoRow, standIns := [], harness := (true, "4fa91843fc0e7a3eff126fe3bd74494f3d837037a48adefd8996501073d5b369"), looks := true }, kinds := [], alts := [], laidByText := true, laidKinds := [.data], laidTests := true, laidLooks := .later }
def WriterBackUptoCardSaid : Prop := Claim7.holds Tryz.pinned (.plain (OpenSpec.upto writerBackSpec)) writerBackUptoCard

/-- THE SECOND FORM's CARD OF 'beadlelaw15.WriterAlone'. -/
def writerAloneUptoCard : Claim7 := { stood := { row := writerAloneUptoRow, standIns := [], harness := (true, "4fa91843fc0e7a3eff126fe3bd74494f3d837037a48adefd8996501073d5b369"), looks := true }, kinds := [], alts := [], laidByText := true, laidKinds := [.data], laidTests := true, laidLooks := .later }
def WriterAloneUptoCardSaid : Prop := Claim7.holds Tryz.pinned (.plain (OpenSpec.upto writerAloneSpec)) writerAloneUptoCard
end Rows
end Go.Proofs.YteinilmecnlanaaGreatDoor
