/-
  DERIVED. GIVEN WITH THE SEED: THE CARDS: each row of YtjicnjncdmknmaaGreatDoorRows.lean that lists a variable, with what it lists TIED to the program's text (the seventh form; the later family's looks); each row that meets fmt, with fmt's text TOLD by the authors' own Lean function (tested against real Go, not proved from fmt's source: count such statements apart). THE CARD IS WHAT COUNTS. Prove the row's statement (the work); the ties are given (YtjicnjncdmknmaaGreatDoorTie.lean); close each card by the builder's one call (the guide's Derived/Test/ToyasCard.lean, 'card_holds'). Laid BY PROGRAM, IN A SANDBOX (cutbox-door.mjs). By AI agents, Wed Nov 11 2026. No macro, syntax, notation, axiom, sorry.
-/
import Derived.Test.YtjicnjncdmknmaaGreatDoorRows
import GoSem.ClaimSeven
namespace Go.Proofs.YtjicnjncdmknmaaGreatDoor
namespace Rows

/-- THE TIED CARD OF 'beadlelaw08.MachineRuns'. -/
def machineRunsCard : Claim7 := { stood := { row := machineRunsRow, standIns := [], harness := (true, "2115d65bca6cfea247db2a24174a4e5c3bbd54de000bd1e2d1d136067a03b336"), looks := true }, kinds := [], alts := [], laidByText := true, laidKinds := [.data], laidTests := true, laidLooks := .later }
def MachineRunsCardSaid : Prop := Claim7.holds Tryz.pinned (.plain (OpenSpec.ofChange machineRunsSpec)) machineRunsCard

/-- THE TIED CARD OF 'beadlelaw08.MachineMoves'. -/
def machineMovesCard : Claim7 := { stood := { row := machineMovesRow, standIns := [], harness := (true, "2115d65bca6cfea247db2a24174a4e5c3bbd54de000bd1e2d1d136067a03b336"), looks := true }, kinds := [], alts := [], laidByText := true, laidKinds := [.data], laidTests := true, laidLooks := .later }
def MachineMovesCardSaid : Prop := Claim7.holds Tryz.pinned (.plain (OpenSpec.ofChange machineMovesSpec)) machineMovesCard

/-- THE TIED CARD OF 'beadlelaw08.MachineEnds'. -/
def machineEndsCard : Claim7 := { stood := { row := machineEndsRow, standIns := [], harness := (true, "2115d65bca6cfea247db2a24174a4e5c3bbd54de000bd1e2d1d136067a03b336"), looks := true }, kinds := [], alts := [], laidByText := true, laidKinds := [.data], laidTests := true, laidLooks := .later }
def MachineEndsCardSaid : Prop := Claim7.holds Tryz.pinned (.plain (OpenSpec.ofChange machineEndsSpec)) machineEndsCard

/-- THE TIED CARD OF 'beadlelaw08.MachineEffect'. -/
def machineEffectCard : Claim7 := { stood := { row := machineEffectRow, standIns := [], harness := (true, "2115d65bca6cfea247db2a24174a4e5c3bbd54de000bd1e2d1d136067a03b336"), looks := true }, kinds := [], alts := [], laidByText := true, laidKinds := [.data], laidTests := true, laidLooks := .later }
def MachineEffectCardSaid : Prop := Claim7.holds Tryz.pinned (.plain (OpenSpec.ofChange machineEffectSpec)) machineEffectCard

/-- THE TIED CARD OF 'beadlelaw08.MachineOwn'. -/
def machineOwnCard : Claim7 := { stood := { row := machineOwnRow, standIns := [], harness := (true, "2115d65bca6cfea247db2a24174a4e5c3bbd54de000bd1e2d1d136067a03b336"), looks := true }, kinds := [], alts := [], laidByText := true, laidKinds := [.data], laidTests := true, laidLooks := .later }
def MachineOwnCardSaid : Prop := Claim7.holds Tryz.pinned (.plain (OpenSpec.ofChange machineOwnSpec)) machineOwnCard

/-- THE TIED CARD OF 'beadlelaw08.MachineAlike'. -/
def machineAlikeCard : Claim7 := { stood := { row := machineAlikeRow, standIns := [], harness := (true, "2115d65bca6cfea247db2a24174a4e5c3bbd54de000bd1e2d1d136067a03b336"), looks := true }, kinds := [], alts := [], laidByText := true, laidKinds := [.data], laidTests := true, laidLooks := .later }
def MachineAlikeCardSaid : Prop := Claim7.holds Tryz.pinned (.plain (OpenSpec.ofChange machineAlikeSpec)) machineAlikeCard

/-- THE SECOND FORM's CARD OF 'beadlelaw08.MachineRuns'. -/
def machineRunsUptoCard : Claim7 := { stood := { row := machineRunsUptoRow, standIns := [], harness := (true, "2115d65bca6cfea247db2a24174a4e5c3bbd54de000bd1e2d1d136067a03b336"), looks := true }, kinds := [], alts := [], laidByText := true, laidKinds := [.data], laidTests := true, laidLooks := .later }
def MachineRunsUptoCardSaid : Prop := Claim7.holds Tryz.pinned (.plain (OpenSpec.upto machineRunsSpec)) machineRunsUptoCard

/-- THE SECOND FORM's CARD OF 'beadlelaw08.MachineMoves'. -/
def machineMovesUptoCard : Claim7 := { stood := { row := machineMovesUptoRow, standIns := [], harness := (true, "2115d65bca6cfea247db2a24174a4e5c3bbd54de000bd1e2d1d136067a03b336"), looks := true }, kinds := [], alts := [], laidByText := true, laidKinds := [.data], laidTests := true, laidLooks := .later }
def MachineMovesUptoCardSaid : Prop := Claim7.holds Tryz.pinned (.plain (OpenSpec.upto machineMovesSpec)) machineMovesUptoCard

/-- THE SECOND FORM's CARD OF 'beadlelaw08.MachineEnds'. -/
def machineEndsUptoCard : Claim7 := { stood := { row := machineEndsUptoRow, standIns := [], harness := (true, "2115d65bca6cfea247db2a24174a4e5c3bbd54de000bd1e2d1d136067a03b336"), looks := true }, kinds := [], alts := [], laidByText := true, laidKinds := [.data], laidTests := true, laidLooks := .later }
def MachineEndsUptoCardSaid : Prop := Claim7.holds Tryz.pinned (.plain (OpenSpec.upto machineEndsSpec)) machineEndsUptoCard

/-- THE SECOND FORM's CARD OF 'beadlelaw08.MachineEffect'. -/
def machineEffectUptoCard : Claim7 := { stood := { row := machineEffectUptoRow, standIns := [], harness := (true, "2115d65bca6cfea247db2a24174a4e5c3bbd54de000bd1e2d1d136067a03b336"), looks := true }, kinds := [], alts := [], laidByText := true, laidKinds := [.data], laidTests := true, laidLooks := .later }
def MachineEffectUptoCardSaid : Prop := Claim7.holds Tryz.pinned (.plain (OpenSpec.upto machineEffectSpec)) machineEffectUptoCard

/-- THE SECOND FORM's CARD OF 'beadlelaw08.MachineOwn'. -/
def machineOwnUptoCard : Claim7 := { stood := { row := machineOwnUptoRow, standIns := [], harness := (true, "2115d65bca6cfea247db2a24174a4e5c3bbd54de000bd1e2d1d136067a03b336"), looks := true }, kinds := [], alts := [], laidByText := true, laidKinds := [.data], laidTests := true, laidLooks := .later }
def MachineOwnUptoCardSaid : Prop := Claim7.holds Tryz.pinned (.plain (OpenSpec.upto machineOwnSpec)) machineOwnUptoCard

/-- THE SECOND FORM's CARD OF 'beadlelaw08.MachineAlike'. -/
def machineAlikeUptoCard : Claim7 := { stood := { row := machineAlikeUptoRow, standIns := [], harness := (true, "2115d65bca6cfea247db2a24174a4e5c3bbd54de000bd1e2d1d136067a03b336"), looks := true }, kinds := [], alts := [], laidByText := true, laidKinds := [.data], laidTests := true, laidLooks := .later }
def MachineAlikeUptoCardSaid : Prop := Claim7.holds Tryz.pinned (.plain (OpenSpec.upto machineAlikeSpec)) machineAlikeUptoCard
end Rows
end Go.Proofs.YtjicnjncdmknmaaGreatDoor
