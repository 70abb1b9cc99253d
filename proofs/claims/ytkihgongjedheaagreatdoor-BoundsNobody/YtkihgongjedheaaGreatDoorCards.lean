/-
  DERIVED. GIVEN WITH THE SEED: THE CARDS: each row of YtkihgongjedheaaGreatDoorRows.lean that lists a variable, with what it lists TIED to the program's text (the seventh form; the later family's looks); each row that meets fmt, with fmt's text TOLD by the authors' own Lean function (tested against real Go, not proved from fmt's source: count such statements apart). THE CARD IS WHAT COUNTS. Prove the row's statement (the work); the ties are given (YtkihgongjedheaaGreatDoorTie.lean); close each card by the builder's one call (the guide's Derived/Test/ToyasCard.lean, 'card_holds'). Laid BY PROGRAM, IN A SANDBOX (cutbox-door.mjs). By AI agents, Wed Nov 11 2026. No macro, syntax, notation, axiom, sorry.
-/
import Derived.Test.YtkihgongjedheaaGreatDoorRows
import GoSem.ClaimSeven
namespace Go.Proofs.YtkihgongjedheaaGreatDoor
namespace Rows

/-- THE TIED CARD OF 'beadlelaw18.BoundsNobody'. -/
def boundsNobodyCard : Claim7 := { stood := { row := boundsNobodyRow, standIns := [], harness := (true, "11e6bddbde2be53f013d20679597218c470a3917c5a1169c5d3c9d42b8f36d74"), looks := true }, kinds := [], alts := [], laidByText := true, laidKinds := [.data], laidTests := true, laidLooks := .later }
def BoundsNobodyCardSaid : Prop := Claim7.holds Tryz.pinned (.plain (OpenSpec.ofChange boundsNobodySpec)) boundsNobodyCard

/-- THE TIED CARD OF 'beadlelaw18.BoundsOld'. -/
def boundsOldCard : Claim7 := { stood := { row := boundsOldRow, standIns := [], harness := (true, "11e6bddbde2be53f013d20679597218c470a3917c5a1169c5d3c9d42b8f36d74"), looks := true }, kinds := [], alts := [], laidByText := true, laidKinds := [.data], laidTests := true, laidLooks := .later }
def BoundsOldCardSaid : Prop := Claim7.holds Tryz.pinned (.plain (OpenSpec.ofChange boundsOldSpec)) boundsOldCard

/-- THE TIED CARD OF 'beadletop.TopRepeat'. -/
def topRepeatCard : Claim7 := { stood := { row := topRepeatRow, standIns := [], harness := (true, "11e6bddbde2be53f013d20679597218c470a3917c5a1169c5d3c9d42b8f36d74"), looks := true }, kinds := [], alts := [], laidByText := true, laidKinds := [.data], laidTests := true, laidLooks := .later }
def TopRepeatCardSaid : Prop := Claim7.holds Tryz.pinned (.plain (OpenSpec.ofChange topRepeatSpec)) topRepeatCard

/-- THE TIED CARD OF 'beadletop.TopStamps'. -/
def topStampsCard : Claim7 := { stood := { row := topStampsRow, standIns := [], harness := (true, "11e6bddbde2be53f013d20679597218c470a3917c5a1169c5d3c9d42b8f36d74"), looks := true }, kinds := [], alts := [], laidByText := true, laidKinds := [.data], laidTests := true, laidLooks := .later }
def TopStampsCardSaid : Prop := Claim7.holds Tryz.pinned (.plain (OpenSpec.ofChange topStampsSpec)) topStampsCard

/-- THE TIED CARD OF 'beadletop.TopWaits'. -/
def topWaitsCard : Claim7 := { stood := { row := topWaitsRow, standIns := [], harness := (true, "11e6bddbde2be53f013d20679597218c470a3917c5a1169c5d3c9d42b8f36d74"), looks := true }, kinds := [], alts := [], laidByText := true, laidKinds := [.data], laidTests := true, laidLooks := .later }
def TopWaitsCardSaid : Prop := Claim7.holds Tryz.pinned (.plain (OpenSpec.ofChange topWaitsSpec)) topWaitsCard

/-- THE TIED CARD OF 'beadletop.TopOneWord'. -/
def topOneWordCard : Claim7 := { stood := { row := topOneWordRow, standIns := [], harness := (true, "11e6bddbde2be53f013d20679597218c470a3917c5a1169c5d3c9d42b8f36d74"), looks := true }, kinds := [], alts := [], laidByText := true, laidKinds := [.data], laidTests := true, laidLooks := .later }
def TopOneWordCardSaid : Prop := Claim7.holds Tryz.pinned (.plain (OpenSpec.ofChange topOneWordSpec)) topOneWordCard

/-- THE SECOND FORM's CARD OF 'beadlelaw18.BoundsNobody'. -/
def boundsNobodyUptoCard : Claim7 := { stood := { row := boundsNobodyUptoRow, standIns := [], harness := (true, "11e6bddbde2be53f013d20679597218c470a3917c5a1169c5d3c9d42b8f36d74"), looks := true }, kinds := [], alts := [], laidByText := true, laidKinds := [.data], laidTests := true, laidLooks := .later }
def BoundsNobodyUptoCardSaid : Prop := Claim7.holds Tryz.pinned (.plain (OpenSpec.upto boundsNobodySpec)) boundsNobodyUptoCard

/-- THE SECOND FORM's CARD OF 'beadlelaw18.BoundsOld'. -/
def boundsOldUptoCard : Claim7 := { stood := { row := boundsOldUptoRow, standIns := [], harness := (true, "11e6bddbde2be53f013d20679597218c470a3917c5a1169c5d3c9d42b8f36d74"), looks := true }, kinds := [], alts := [], laidByText := true, laidKinds := [.data], laidTests := true, laidLooks := .later }
def BoundsOldUptoCardSaid : Prop := Claim7.holds Tryz.pinned (.plain (OpenSpec.upto boundsOldSpec)) boundsOldUptoCard

/-- THE SECOND FORM's CARD OF 'beadletop.TopRepeat'. -/
def topRepeatUptoCard : Claim7 := { stood := { row := topRepeatUptoRow, standIns := [], harness := (true, "11e6bddbde2be53f013d20679597218c470a3917c5a1169c5d3c9d42b8f36d74"), looks := true }, kinds := [], alts := [], laidByText := true, laidKinds := [.data], laidTests := true, laidLooks := .later }
def TopRepeatUptoCardSaid : Prop := Claim7.holds Tryz.pinned (.plain (OpenSpec.upto topRepeatSpec)) topRepeatUptoCard

/-- THE SECOND FORM's CARD OF 'beadletop.TopStamps'. -/
def topStampsUptoCard : Claim7 := { stood := { row := topStampsUptoRow, standIns := [], harness := (true, "11e6bddbde2be53f013d20679597218c470a3917c5a1169c5d3c9d42b8f36d74"), looks := true }, kinds := [], alts := [], laidByText := true, laidKinds := [.data], laidTests := true, laidLooks := .later }
def TopStampsUptoCardSaid : Prop := Claim7.holds Tryz.pinned (.plain (OpenSpec.upto topStampsSpec)) topStampsUptoCard

/-- THE SECOND FORM's CARD OF 'beadletop.TopWaits'. -/
def topWaitsUptoCard : Claim7 := { stood := { row := topWaitsUptoRow, standIns := [], harness := (true, "11e6bddbde2be53f013d20679597218c470a3917c5a1169c5d3c9d42b8f36d74"), looks := true }, kinds := [], alts := [], laidByText := true, laidKinds := [.data], laidTests := true, laidLooks := .later }
def TopWaitsUptoCardSaid : Prop := Claim7.holds Tryz.pinned (.plain (OpenSpec.upto topWaitsSpec)) topWaitsUptoCard

/-- THE SECOND FORM's CARD OF 'beadletop.TopOneWord'. -/
def topOneWordUptoCard : Claim7 := { stood := { row := topOneWordUptoRow, standIns := [], harness := (true, "11e6bddbde2be53f013d20679597218c470a3917c5a1169c5d3c9d42b8f36d74"), looks := true }, kinds := [], alts := [], laidByText := true, laidKinds := [.data], laidTests := true, laidLooks := .later }
def TopOneWordUptoCardSaid : Prop := Claim7.holds Tryz.pinned (.plain (OpenSpec.upto topOneWordSpec)) topOneWordUptoCard
end Rows
end Go.Proofs.YtkihgongjedheaaGreatDoor
