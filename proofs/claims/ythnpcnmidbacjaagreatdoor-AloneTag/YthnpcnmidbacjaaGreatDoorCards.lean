/-
  DERIVED. GIVEN WITH THE SEED: THE CARDS: each row of YthnpcnmidbacjaaGreatDoorRows.lean that lists a variable, with what it lists TIED to the program's text (the seventh form; the later family's looks); each row that meets fmt, with fmt's text TOLD by the authors' own Lean function (tested against real Go, not proved from fmt's source: count such statements apart). THE CARD IS WHAT COUNTS. Prove the row's statement (the work); the ties are given (YthnpcnmidbacjaaGreatDoorTie.lean); close each card by the builder's one call (the guide's Derived/Test/ToyasCard.lean, 'card_holds'). Laid BY PROGRAM, IN A SANDBOX (cutbox-door.mjs). By AI agents, Wed Nov 11 2026. No macro, syntax, notation, axiom, sorry.
-/
import Derived.Test.YthnpcnmidbacjaaGreatDoorRows
import GoSem.ClaimSeven
namespace Go.Proofs.YthnpcnmidbacjaaGreatDoor
namespace Rows

/-- THE TIED CARD OF 'beadlelaw09.AloneRuns'. -/
def aloneRunsCard : Claim7 := { stood := { row := aloneRunsRow, standIns := [], harness := (true, "2f95fb07789b7fcad5537c2211bdc8a4e9341e527ce31b494db1c03b56797c00"), looks := true }, kinds := [], alts := [], laidByText := true, laidKinds := [.data], laidTests := true, laidLooks := .later }
def AloneRunsCardSaid : Prop := Claim7.holds Tryz.pinned (.plain (OpenSpec.ofChange aloneRunsSpec)) aloneRunsCard

/-- THE TIED CARD OF 'beadlelaw09.AloneCalls'. -/
def aloneCallsCard : Claim7 := { stood := { row := aloneCallsRow, standIns := [], harness := (true, "2f95fb07789b7fcad5537c2211bdc8a4e9341e527ce31b494db1c03b56797c00"), looks := true }, kinds := [], alts := [], laidByText := true, laidKinds := [.data], laidTests := true, laidLooks := .later }
def AloneCallsCardSaid : Prop := Claim7.holds Tryz.pinned (.plain (OpenSpec.ofChange aloneCallsSpec)) aloneCallsCard

/-- THE TIED CARD OF 'beadlelaw09.AloneQuiet'. -/
def aloneQuietCard : Claim7 := { stood := { row := aloneQuietRow, standIns := [], harness := (true, "2f95fb07789b7fcad5537c2211bdc8a4e9341e527ce31b494db1c03b56797c00"), looks := true }, kinds := [], alts := [], laidByText := true, laidKinds := [.data], laidTests := true, laidLooks := .later }
def AloneQuietCardSaid : Prop := Claim7.holds Tryz.pinned (.plain (OpenSpec.ofChange aloneQuietSpec)) aloneQuietCard

/-- THE TIED CARD OF 'beadlelaw09.AloneJoined'. -/
def aloneJoinedCard : Claim7 := { stood := { row := aloneJoinedRow, standIns := [], harness := (true, "2f95fb07789b7fcad5537c2211bdc8a4e9341e527ce31b494db1c03b56797c00"), looks := true }, kinds := [], alts := [], laidByText := true, laidKinds := [.data], laidTests := true, laidLooks := .later }
def AloneJoinedCardSaid : Prop := Claim7.holds Tryz.pinned (.plain (OpenSpec.ofChange aloneJoinedSpec)) aloneJoinedCard

/-- THE TIED CARD OF 'beadlelaw09.AloneMore'. -/
def aloneMoreCard : Claim7 := { stood := { row := aloneMoreRow, standIns := [], harness := (true, "2f95fb07789b7fcad5537c2211bdc8a4e9341e527ce31b494db1c03b56797c00"), looks := true }, kinds := [], alts := [], laidByText := true, laidKinds := [.data], laidTests := true, laidLooks := .later }
def AloneMoreCardSaid : Prop := Claim7.holds Tryz.pinned (.plain (OpenSpec.ofChange aloneMoreSpec)) aloneMoreCard

/-- THE TIED CARD OF 'beadlelaw09.AloneTag'. -/
def aloneTagCard : Claim7 := { stood := { row := aloneTagRow, standIns := [], harness := (true, "2f95fb07789b7fcad5537c2211bdc8a4e9341e527ce31b494db1c03b56797c00"), looks := true }, kinds := [], alts := [], laidByText := true, laidKinds := [.data], laidTests := true, laidLooks := .later }
def AloneTagCardSaid : Prop := Claim7.holds Tryz.pinned (.plain (OpenSpec.ofChange aloneTagSpec)) aloneTagCard

/-- THE SECOND FORM's CARD OF 'beadlelaw09.AloneRuns'. -/
def aloneRunsUptoCard : Claim7 := { stood := { row := aloneRunsUptoRow, standIns := [], harness := (true, "2f95fb07789b7fcad5537c2211bdc8a4e9341e527ce31b494db1c03b56797c00"), looks := true }, kinds := [], alts := [], laidByText := true, laidKinds := [.data], laidTests := true, laidLooks := .later }
def AloneRunsUptoCardSaid : Prop := Claim7.holds Tryz.pinned (.plain (OpenSpec.upto aloneRunsSpec)) aloneRunsUptoCard

/-- THE SECOND FORM's CARD OF 'beadlelaw09.AloneCalls'. -/
def aloneCallsUptoCard : Claim7 := { stood := { row := aloneCallsUptoRow, standIns := [], harness := (true, "2f95fb07789b7fcad5537c2211bdc8a4e9341e527ce31b494db1c03b56797c00"), looks := true }, kinds := [], alts := [], laidByText := true, laidKinds := [.data], laidTests := true, laidLooks := .later }
def AloneCallsUptoCardSaid : Prop := Claim7.holds Tryz.pinned (.plain (OpenSpec.upto aloneCallsSpec)) aloneCallsUptoCard

/-- THE SECOND FORM's CARD OF 'beadlelaw09.AloneQuiet'. -/
def aloneQuietUptoCard : Claim7 := { stood := { row := aloneQuietUptoRow, standIns := [], harness := (true, "2f95fb07789b7fcad5537c2211bdc8a4e9341e527ce31b494db1c03b56797c00"), looks := true }, kinds := [], alts := [], laidByText := true, laidKinds := [.data], laidTests := true, laidLooks := .later }
def AloneQuietUptoCardSaid : Prop := Claim7.holds Tryz.pinned (.plain (OpenSpec.upto aloneQuietSpec)) aloneQuietUptoCard

/-- THE SECOND FORM's CARD OF 'beadlelaw09.AloneJoined'. -/
def aloneJoinedUptoCard : Claim7 := { stood := { row := aloneJoinedUptoRow, standIns := [], harness := (true, "2f95fb07789b7fcad5537c2211bdc8a4e9341e527ce31b494db1c03b56797c00"), looks := true }, kinds := [], alts := [], laidByText := true, laidKinds := [.data], laidTests := true, laidLooks := .later }
def AloneJoinedUptoCardSaid : Prop := Claim7.holds Tryz.pinned (.plain (OpenSpec.upto aloneJoinedSpec)) aloneJoinedUptoCard

/-- THE SECOND FORM's CARD OF 'beadlelaw09.AloneMore'. -/
def aloneMoreUptoCard : Claim7 := { stood := { row := aloneMoreUptoRow, standIns := [], harness := (true, "2f95fb07789b7fcad5537c2211bdc8a4e9341e527ce31b494db1c03b56797c00"), looks := true }, kinds := [], alts := [], laidByText := true, laidKinds := [.data], laidTests := true, laidLooks := .later }
def AloneMoreUptoCardSaid : Prop := Claim7.holds Tryz.pinned (.plain (OpenSpec.upto aloneMoreSpec)) aloneMoreUptoCard

/-- THE SECOND FORM's CARD OF 'beadlelaw09.AloneTag'. -/
def aloneTagUptoCard : Claim7 := { stood := { row := aloneTagUptoRow, standIns := [], harness := (true, "2f95fb07789b7fcad5537c2211bdc8a4e9341e527ce31b494db1c03b56797c00"), looks := true }, kinds := [], alts := [], laidByText := true, laidKinds := [.data], laidTests := true, laidLooks := .later }
def AloneTagUptoCardSaid : Prop := Claim7.holds Tryz.pinned (.plain (OpenSpec.upto aloneTagSpec)) aloneTagUptoCard
end Rows
end Go.Proofs.YthnpcnmidbacjaaGreatDoor
