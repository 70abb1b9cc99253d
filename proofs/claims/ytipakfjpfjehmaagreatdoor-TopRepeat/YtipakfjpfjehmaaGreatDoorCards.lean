/-
  DERIVED. GIVEN WITH THE SEED: THE CARDS: each row of YtipakfjpfjehmaaGreatDoorRows.lean that lists a variable, with what it lists TIED to the program's text (the seventh form; the later family's looks); each row that meets fmt, with fmt's text TOLD by the authors' own Lean function (tested against real Go, not proved from fmt's source: count such statements apart). THE CARD IS WHAT COUNTS. Prove the row's statement (the work); the ties are given (YtipakfjpfjehmaaGreatDoorTie.lean); close each card by the builder's one call (the guide's Derived/Test/ToyasCard.lean, 'card_holds'). Laid BY PROGRAM, IN A SANDBOX (cutbox-door.mjs). By AI agents, Wed Nov 11 2026. No macro, syntax, notation, axiom, sorry.
-/
import Derived.Test.YtipakfjpfjehmaaGreatDoorRows
import GoSem.ClaimSeven
namespace Go.Proofs.YtipakfjpfjehmaaGreatDoor
namespace Rows

/-- THE TIED CARD OF 'beadlelaw18.BoundsOld'. -/
def boundsOldCard : Claim7 := { stood := { row := boundsOldRow, standIns := [], harness := (true, "8331eff76cea9a4ade5b558f85cf15cb15487acafbdfc8a43322fdecdfce1699"), looks := true }, kinds := [], alts := [], laidByText := true, laidKinds := [.data], laidTests := true, laidLooks := .later }
def BoundsOldCardSaid : Prop := Claim7.holds Tryz.pinned (.plain (OpenSpec.ofChange boundsOldSpec)) boundsOldCard

/-- THE TIED CARD OF 'beadletop.TopRepeat'. -/
def topRepeatCard : Claim7 := { stood := { row := topRepeatRow, standIns := [], harness := (true, "8331eff76cea9a4ade5b558f85cf15cb15487acafbdfc8a43322fdecdfce1699"), looks := true }, kinds := [], alts := [], laidByText := true, laidKinds := [.data], laidTests := true, laidLooks := .later }
def TopRepeatCardSaid : Prop := Claim7.holds Tryz.pinned (.plain (OpenSpec.ofChange topRepeatSpec)) topRepeatCard

/-- THE TIED CARD OF 'beadletop.TopStamps'. -/
def topStampsCard : Claim7 := { stood := { row := topStampsRow, standIns := [], harness := (true, "8331eff76cea9a4ade5b558f85cf15cb15487acafbdfc8a43322fdecdfce1699"), looks := true }, kinds := [], alts := [], laidByText := true, laidKinds := [.data], laidTests := true, laidLooks := .later }
def TopStampsCardSaid : Prop := Claim7.holds Tryz.pinned (.plain (OpenSpec.ofChange topStampsSpec)) topStampsCard

/-- THE TIED CARD OF 'beadletop.TopWaits'. -/
def topWaitsCard : Claim7 := { stood := { row := topWaitsRow, standIns := [], harness := (true, "8331eff76cea9a4ade5b558f85cf15cb15487acafbdfc8a43322fdecdfce1699"), looks := true }, kinds := [], alts := [], laidByText := true, laidKinds := [.data], laidTests := true, laidLooks := .later }
def TopWaitsCardSaid : Prop := Claim7.holds Tryz.pinned (.plain (OpenSpec.ofChange topWaitsSpec)) topWaitsCard

/-- THE TIED CARD OF 'beadletop.TopOneWord'. -/
def topOneWordCard : Claim7 := { stood := { row := topOneWordRow, standIns := [], harness := (true, "8331eff76cea9a4ade5b558f85cf15cb15487acafbdfc8a43322fdecdfce1699"), looks := true }, kinds := [], alts := [], laidByText := true, laidKinds := [.data], laidTests := true, laidLooks := .later }
def TopOneWordCardSaid : Prop := Claim7.holds Tryz.pinned (.plain (OpenSpec.ofChange topOneWordSpec)) topOneWordCard

/-- THE TIED CARD OF 'beadletop.TopTurns'. -/
def topTurnsCard : Claim7 := { stood := { row := topTurnsRow, standIns := [], harness := (true, "8331eff76cea9a4ade5b558f85cf15cb15487acafbdfc8a43322fdecdfce1699"), looks := true }, kinds := [], alts := [], laidByText := true, laidKinds := [.data], laidTests := true, laidLooks := .later }
def TopTurnsCardSaid : Prop := Claim7.holds Tryz.pinned (.plain (OpenSpec.ofChange topTurnsSpec)) topTurnsCard

/-- THE SECOND FORM's CARD OF 'beadlelaw18.BoundsOld'. -/
def boundsOldUptoCard : Claim7 := { stood := { row := boundsOldUptoRow, standIns := [], harness := (true, "8331eff76cea9a4ade5b558f85cf15cb15487acafbdfc8a43322fdecdfce1699"), looks := true }, kinds := [], alts := [], laidByText := true, laidKinds := [.data], laidTests := true, laidLooks := .later }
def BoundsOldUptoCardSaid : Prop := Claim7.holds Tryz.pinned (.plain (OpenSpec.upto boundsOldSpec)) boundsOldUptoCard

/-- THE SECOND FORM's CARD OF 'beadletop.TopRepeat'. -/
def topRepeatUptoCard : Claim7 := { stood := { row := topRepeatUptoRow, standIns := [], harness := (true, "8331eff76cea9a4ade5b558f85cf15cb15487acafbdfc8a43322fdecdfce1699"), looks := true }, kinds := [], alts := [], laidByText := true, laidKinds := [.data], laidTests := true, laidLooks := .later }
def TopRepeatUptoCardSaid : Prop := Claim7.holds Tryz.pinned (.plain (OpenSpec.upto topRepeatSpec)) topRepeatUptoCard

/-- THE SECOND FORM's CARD OF 'beadletop.TopStamps'. -/
def topStampsUptoCard : Claim7 := { stood := { row := topStampsUptoRow, standIns := [], harness := (true, "8331eff76cea9a4ade5b558f85cf15cb15487acafbdfc8a43322fdecdfce1699"), looks := true }, kinds := [], alts := [], laidByText := true, laidKinds := [.data], laidTests := true, laidLooks := .later }
def TopStampsUptoCardSaid : Prop := Claim7.holds Tryz.pinned (.plain (OpenSpec.upto topStampsSpec)) topStampsUptoCard

/-- THE SECOND FORM's CARD OF 'beadletop.TopWaits'. -/
def topWaitsUptoCard : Claim7 := { stood := { row := topWaitsUptoRow, standIns := [], harness := (true, "8331eff76cea9a4ade5b558f85cf15cb15487acafbdfc8a43322fdecdfce1699"), looks := true }, kinds := [], alts := [], laidByText := true, laidKinds := [.data], laidTests := true, laidLooks := .later }
def TopWaitsUptoCardSaid : Prop := Claim7.holds Tryz.pinned (.plain (OpenSpec.upto topWaitsSpec)) topWaitsUptoCard

/-- THE SECOND FORM's CARD OF 'beadletop.TopOneWord'. -/
def topOneWordUptoCard : Claim7 := { stood := { row := topOneWordUptoRow, standIns := [], harness := (true, "8331eff76cea9a4ade5b558f85cf15cb15487acafbdfc8a43322fdecdfce1699"), looks := true }, kinds := [], alts := [], laidByText := true, laidKinds := [.data], laidTests := true, laidLooks := .later }
def TopOneWordUptoCardSaid : Prop := Claim7.holds Tryz.pinned (.plain (OpenSpec.upto topOneWordSpec)) topOneWordUptoCard

/-- THE SECOND FORM's CARD OF 'beadletop.TopTurns'. -/
def topTurnsUptoCard : Claim7 := { stood := { row := topTurnsUptoRow, standIns := [], harness := (true, "8331eff76cea9a4ade5b558f85cf15cb15487acafbdfc8a43322fdecdfce1699"), looks := true }, kinds := [], alts := [], laidByText := true, laidKinds := [.data], laidTests := true, laidLooks := .later }
def TopTurnsUptoCardSaid : Prop := Claim7.holds Tryz.pinned (.plain (OpenSpec.upto topTurnsSpec)) topTurnsUptoCard
end Rows
end Go.Proofs.YtipakfjpfjehmaaGreatDoor
