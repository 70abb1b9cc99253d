/-
  DERIVED. GIVEN WITH THE SEED: THE CARDS: each row of YtmlklnimkgnbkaaGreatDoorRows.lean that lists a variable, with what it lists TIED to the program's text (the seventh form; the later family's looks); each row that meets fmt, with fmt's text TOLD by the authors' own Lean function (tested against real Go, not proved from fmt's source: count such statements apart). THE CARD IS WHAT COUNTS. Prove the row's statement (the work); the ties are given (YtmlklnimkgnbkaaGreatDoorTie.lean); close each card by the builder's one call (the guide's Derived/Test/ToyasCard.lean, 'card_holds'). Laid BY PROGRAM, IN A SANDBOX (cutbox-door.mjs). By AI agents, Wed Nov 11 2026. No macro, syntax, notation, axiom, sorry.
-/
import Derived.Test.YtmlklnimkgnbkaaGreatDoorRows
import GoSem.ClaimSeven
namespace Go.Proofs.YtmlklnimkgnbkaaGreatDoor
namespace Rows

/-- THE TIED CARD OF 'beadlelaw09.AloneCalls'. -/
def aloneCallsCard : Claim7 := { stood := { row := aloneCallsRow, standIns := [], harness := (true, "86d8c709f2b5ee5e4d14163b4fecdcca54c63dbfdbd0637e91654520bb1d7238"), looks := true }, kinds := [], alts := [], laidByText := true, laidKinds := [.data], laidTests := true, laidLooks := .later }
def AloneCallsCardSaid : Prop := Claim7.holds Tryz.pinned (.plain (OpenSpec.ofChange aloneCallsSpec)) aloneCallsCard

/-- THE TIED CARD OF 'beadlelaw09.AloneJoined'. -/
def aloneJoinedCard : Claim7 := { stood := { row := aloneJoinedRow, standIns := [], harness := (true, "86d8c709f2b5ee5e4d14163b4fecdcca54c63dbfdbd0637e91654520bb1d7238"), looks := true }, kinds := [], alts := [], laidByText := true, laidKinds := [.data], laidTests := true, laidLooks := .later }
def AloneJoinedCardSaid : Prop := Claim7.holds Tryz.pinned (.plain (OpenSpec.ofChange aloneJoinedSpec)) aloneJoinedCard

/-- THE TIED CARD OF 'beadlelaw09.AloneFrame'. -/
def aloneFrameCard : Claim7 := { stood := { row := aloneFrameRow, standIns := [], harness := (true, "86d8c709f2b5ee5e4d14163b4fecdcca54c63dbfdbd0637e91654520bb1d7238"), looks := true }, kinds := [], alts := [], laidByText := true, laidKinds := [.data], laidTests := true, laidLooks := .later }
def AloneFrameCardSaid : Prop := Claim7.holds Tryz.pinned (.plain (OpenSpec.ofChange aloneFrameSpec)) aloneFrameCard

/-- THE SECOND FORM's CARD OF 'beadlelaw09.AloneCalls'. -/
def aloneCallsUptoCard : Claim7 := { stood := { row := aloneCallsUptoRow, standIns := [], harness := (true, "86d8c709f2b5ee5e4d14163b4fecdcca54c63dbfdbd0637e91654520bb1d7238"), looks := true }, kinds := [], alts := [], laidByText := true, laidKinds := [.data], laidTests := true, laidLooks := .later }
def AloneCallsUptoCardSaid : Prop := Claim7.holds Tryz.pinned (.plain (OpenSpec.upto aloneCallsSpec)) aloneCallsUptoCard

/-- THE SECOND FORM's CARD OF 'beadlelaw09.AloneJoined'. -/
def aloneJoinedUptoCard : Claim7 := { stood := { row := aloneJoinedUptoRow, standIns := [], harness := (true, "86d8c709f2b5ee5e4d14163b4fecdcca54c63dbfdbd0637e91654520bb1d7238"), looks := true }, kinds := [], alts := [], laidByText := true, laidKinds := [.data], laidTests := true, laidLooks := .later }
def AloneJoinedUptoCardSaid : Prop := Claim7.holds Tryz.pinned (.plain (OpenSpec.upto aloneJoinedSpec)) aloneJoinedUptoCard

/-- THE SECOND FORM's CARD OF 'beadlelaw09.AloneFrame'. -/
def aloneFrameUptoCard : Claim7 := { stood := { row := aloneFrameUptoRow, standIns := [], harness := (true, "86d8c709f2b5ee5e4d14163b4fecdcca54c63dbfdbd0637e91654520bb1d7238"), looks := true }, kinds := [], alts := [], laidByText := true, laidKinds := [.data], laidTests := true, laidLooks := .later }
def AloneFrameUptoCardSaid : Prop := Claim7.holds Tryz.pinned (.plain (OpenSpec.upto aloneFrameSpec)) aloneFrameUptoCard
end Rows
end Go.Proofs.YtmlklnimkgnbkaaGreatDoor
