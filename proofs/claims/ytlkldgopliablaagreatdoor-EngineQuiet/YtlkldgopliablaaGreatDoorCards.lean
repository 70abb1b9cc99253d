/-
  DERIVED. GIVEN WITH THE SEED: THE CARDS: each row of YtlkldgopliablaaGreatDoorRows.lean that lists a variable, with what it lists TIED to the program's text (the seventh form; the later family's looks); each row that meets fmt, with fmt's text TOLD by the authors' own Lean function (tested against real Go, not proved from fmt's source: count such statements apart). THE CARD IS WHAT COUNTS. Prove the row's statement (the work); the ties are given (YtlkldgopliablaaGreatDoorTie.lean); close each card by the builder's one call (the guide's Derived/Test/ToyasCard.lean, 'card_holds'). Laid BY PROGRAM, IN A SANDBOX (cutbox-door.mjs). By AI agents, Wed Nov 11 2026. No macro, syntax, notation, axiom, sorry.
-/
import Derived.Test.YtlkldgopliablaaGreatDoorRows
import GoSem.ClaimSeven
namespace Go.Proofs.YtlkldgopliablaaGreatDoor
namespace Rows

/-- THE TIED CARD OF 'beadlelaw16.EngineRuns'. -/
def engineRunsCard : Claim7 := { stood := { row := engineRunsRow, standIns := [], harness := (true, "ee295091bc018c607025f6d9c7216fcc111f7289998a343c9d032838c398c381"), looks := true }, kinds := [], alts := [], laidByText := true, laidKinds := [.data], laidTests := true, laidLooks := .later }
def EngineRunsCardSaid : Prop := Claim7.holds Tryz.pinned (.plain (OpenSpec.ofChange engineRunsSpec)) engineRunsCard

/-- THE TIED CARD OF 'beadlelaw16.EngineSteps'. -/
def engineStepsCard : Claim7 := { stood := { row := engineStepsRow, standIns := [], harness := (true, "ee295091bc018c607025f6d9c7216fcc111f7289998a343c9d032838c398c381"), looks := true }, kinds := [], alts := [], laidByText := true, laidKinds := [.data], laidTests := true, laidLooks := .later }
def EngineStepsCardSaid : Prop := Claim7.holds Tryz.pinned (.plain (OpenSpec.ofChange engineStepsSpec)) engineStepsCard

/-- THE TIED CARD OF 'beadlelaw16.EngineJoined'. -/
def engineJoinedCard : Claim7 := { stood := { row := engineJoinedRow, standIns := [], harness := (true, "ee295091bc018c607025f6d9c7216fcc111f7289998a343c9d032838c398c381"), looks := true }, kinds := [], alts := [], laidByText := true, laidKinds := [.data], laidTests := true, laidLooks := .later }
def EngineJoinedCardSaid : Prop := Claim7.holds Tryz.pinned (.plain (OpenSpec.ofChange engineJoinedSpec)) engineJoinedCard

/-- THE TIED CARD OF 'beadlelaw16.EngineIdle'. -/
def engineIdleCard : Claim7 := { stood := { row := engineIdleRow, standIns := [], harness := (true, "ee295091bc018c607025f6d9c7216fcc111f7289998a343c9d032838c398c381"), looks := true }, kinds := [], alts := [], laidByText := true, laidKinds := [.data], laidTests := true, laidLooks := .later }
def EngineIdleCardSaid : Prop := Claim7.holds Tryz.pinned (.plain (OpenSpec.ofChange engineIdleSpec)) engineIdleCard

/-- THE TIED CARD OF 'beadlelaw16.EngineClones'. -/
def engineClonesCard : Claim7 := { stood := { row := engineClonesRow, standIns := [], harness := (true, "ee295091bc018c607025f6d9c7216fcc111f7289998a343c9d032838c398c381"), looks := true }, kinds := [], alts := [], laidByText := true, laidKinds := [.data], laidTests := true, laidLooks := .later }
def EngineClonesCardSaid : Prop := Claim7.holds Tryz.pinned (.plain (OpenSpec.ofChange engineClonesSpec)) engineClonesCard

/-- THE TIED CARD OF 'beadlelaw16.EngineQuiet'. -/
def engineQuietCard : Claim7 := { stood := { row := engineQuietRow, standIns := [], harness := (true, "ee295091bc018c607025f6d9c7216fcc111f7289998a343c9d032838c398c381"), looks := true }, kinds := [], alts := [], laidByText := true, laidKinds := [.data], laidTests := true, laidLooks := .later }
def EngineQuietCardSaid : Prop := Claim7.holds Tryz.pinned (.plain (OpenSpec.ofChange engineQuietSpec)) engineQuietCard

/-- THE SECOND FORM's CARD OF 'beadlelaw16.EngineRuns'. -/
def engineRunsUptoCard : Claim7 := { stood := { row := engineRunsUptoRow, standIns := [], harness := (true, "ee295091bc018c607025f6d9c7216fcc111f7289998a343c9d032838c398c381"), looks := true }, kinds := [], alts := [], laidByText := true, laidKinds := [.data], laidTests := true, laidLooks := .later }
def EngineRunsUptoCardSaid : Prop := Claim7.holds Tryz.pinned (.plain (OpenSpec.upto engineRunsSpec)) engineRunsUptoCard

/-- THE SECOND FORM's CARD OF 'beadlelaw16.EngineSteps'. -/
def engineStepsUptoCard : Claim7 := { stood := { row := engineStepsUptoRow, standIns := [], harness := (true, "ee295091bc018c607025f6d9c7216fcc111f7289998a343c9d032838c398c381"), looks := true }, kinds := [], alts := [], laidByText := true, laidKinds := [.data], laidTests := true, laidLooks := .later }
def EngineStepsUptoCardSaid : Prop := Claim7.holds Tryz.pinned (.plain (OpenSpec.upto engineStepsSpec)) engineStepsUptoCard

/-- THE SECOND FORM's CARD OF 'beadlelaw16.EngineJoined'. -/
def engineJoinedUptoCard : Claim7 := { stood := { row := engineJoinedUptoRow, standIns := [], harness := (true, "ee295091bc018c607025f6d9c7216fcc111f7289998a343c9d032838c398c381"), looks := true }, kinds := [], alts := [], laidByText := true, laidKinds := [.data], laidTests := true, laidLooks := .later }
def EngineJoinedUptoCardSaid : Prop := Claim7.holds Tryz.pinned (.plain (OpenSpec.upto engineJoinedSpec)) engineJoinedUptoCard

/-- THE SECOND FORM's CARD OF 'beadlelaw16.EngineIdle'. -/
def engineIdleUptoCard : Claim7 := { stood := { row := engineIdleUptoRow, standIns := [], harness := (true, "ee295091bc018c607025f6d9c7216fcc111f7289998a343c9d032838c398c381"), looks := true }, kinds := [], alts := [], laidByText := true, laidKinds := [.data], laidTests := true, laidLooks := .later }
def EngineIdleUptoCardSaid : Prop := Claim7.holds Tryz.pinned (.plain (OpenSpec.upto engineIdleSpec)) engineIdleUptoCard

/-- THE SECOND FORM's CARD OF 'beadlelaw16.EngineClones'. -/
def engineClonesUptoCard : Claim7 := { stood := { row := engineClonesUptoRow, standIns := [], harness := (true, "ee295091bc018c607025f6d9c7216fcc111f7289998a343c9d032838c398c381"), looks := true }, kinds := [], alts := [], laidByText := true, laidKinds := [.data], laidTests := true, laidLooks := .later }
def EngineClonesUptoCardSaid : Prop := Claim7.holds Tryz.pinned (.plain (OpenSpec.upto engineClonesSpec)) engineClonesUptoCard

/-- THE SECOND FORM's CARD OF 'beadlelaw16.EngineQuiet'. -/
def engineQuietUptoCard : Claim7 := { stood := { row := engineQuietUptoRow, standIns := [], harness := (true, "ee295091bc018c607025f6d9c7216fcc111f7289998a343c9d032838c398c381"), looks := true }, kinds := [], alts := [], laidByText := true, laidKinds := [.data], laidTests := true, laidLooks := .later }
def EngineQuietUptoCardSaid : Prop := Claim7.holds Tryz.pinned (.plain (OpenSpec.upto engineQuietSpec)) engineQuietUptoCard
end Rows
end Go.Proofs.YtlkldgopliablaaGreatDoor
