/-
  DERIVED. GIVEN WITH THE SEED: THE CARDS: each row of YtaliehikdidiaaaGreatDoorRows.lean that lists a variable, with what it lists TIED to the program's text (the seventh form; the later family's looks); each row that meets fmt, with fmt's text TOLD by the authors' own Lean function (tested against real Go, not proved from fmt's source: count such statements apart). THE CARD IS WHAT COUNTS. Prove the row's statement (the work); the ties are given (YtaliehikdidiaaaGreatDoorTie.lean); close each card by the builder's one call (the guide's Derived/Test/ToyasCard.lean, 'card_holds'). Laid BY PROGRAM, IN A SANDBOX (cutbox-door.mjs). By AI agents, Wed Nov 11 2026. No macro, syntax, notation, axiom, sorry.
-/
import Derived.Test.YtaliehikdidiaaaGreatDoorRows
import GoSem.ClaimSeven
namespace Go.Proofs.YtaliehikdidiaaaGreatDoor
namespace Rows

/-- THE TIED CARD OF 'beadlelaw22.DequeMakes'. -/
def dequeMakesCard : Claim7 := { stood := { row := dequeMakesRow, standIns := [], harness := (true, "a7884ad70a7210a7fcf4f602603fabe12912342ac8ac4692382fd22e23963f10"), looks := true }, kinds := [], alts := [], laidByText := true, laidKinds := [.data], laidTests := true, laidLooks := .later }
def DequeMakesCardSaid : Prop := Claim7.holds Tryz.pinned (.plain (OpenSpec.ofChange dequeMakesSpec)) dequeMakesCard

/-- THE TIED CARD OF 'beadlelaw22.DequePlays'. -/
def dequePlaysCard : Claim7 := { stood := { row := dequePlaysRow, standIns := [], harness := (true, "a7884ad70a7210a7fcf4f602603fabe12912342ac8ac4692382fd22e23963f10"), looks := true }, kinds := [], alts := [], laidByText := true, laidKinds := [.data], laidTests := true, laidLooks := .later }
def DequePlaysCardSaid : Prop := Claim7.holds Tryz.pinned (.plain (OpenSpec.ofChange dequePlaysSpec)) dequePlaysCard

/-- THE TIED CARD OF 'beadlelaw22.DequeFails'. -/
def dequeFailsCard : Claim7 := { stood := { row := dequeFailsRow, standIns := [], harness := (true, "a7884ad70a7210a7fcf4f602603fabe12912342ac8ac4692382fd22e23963f10"), looks := true }, kinds := [], alts := [], laidByText := true, laidKinds := [.data], laidTests := true, laidLooks := .later }
def DequeFailsCardSaid : Prop := Claim7.holds Tryz.pinned (.plain (OpenSpec.ofChange dequeFailsSpec)) dequeFailsCard

/-- THE TIED CARD OF 'beadlelaw22.DequeApart'. -/
def dequeApartCard : Claim7 := { stood := { row := dequeApartRow, standIns := [], harness := (true, "a7884ad70a7210a7fcf4f602603fabe12912342ac8ac4692382fd22e23963f10"), looks := true }, kinds := [], alts := [], laidByText := true, laidKinds := [.data], laidTests := true, laidLooks := .later }
def DequeApartCardSaid : Prop := Claim7.holds Tryz.pinned (.plain (OpenSpec.ofChange dequeApartSpec)) dequeApartCard

/-- THE TIED CARD OF 'beadlelaw22.DequeWhole'. -/
def dequeWholeCard : Claim7 := { stood := { row := dequeWholeRow, standIns := [], harness := (true, "a7884ad70a7210a7fcf4f602603fabe12912342ac8ac4692382fd22e23963f10"), looks := true }, kinds := [], alts := [], laidByText := true, laidKinds := [.data], laidTests := true, laidLooks := .later }
def DequeWholeCardSaid : Prop := Claim7.holds Tryz.pinned (.plain (OpenSpec.ofChange dequeWholeSpec)) dequeWholeCard

/-- THE SECOND FORM's CARD OF 'beadlelaw22.DequeMakes'. -/
def dequeMakesUptoCard : Claim7 := { stood := { row := dequeMakesUptoRow, standIns := [], harness := (true, "a7884ad70a7210a7fcf4f602603fabe12912342ac8ac4692382fd22e23963f10"), looks := true }, kinds := [], alts := [], laidByText := true, laidKinds := [.data], laidTests := true, laidLooks := .later }
def DequeMakesUptoCardSaid : Prop := Claim7.holds Tryz.pinned (.plain (OpenSpec.upto dequeMakesSpec)) dequeMakesUptoCard

/-- THE SECOND FORM's CARD OF 'beadlelaw22.DequePlays'. -/
def dequePlaysUptoCard : Claim7 := { stood := { row := dequePlaysUptoRow, standIns := [], harness := (true, "a7884ad70a7210a7fcf4f602603fabe12912342ac8ac4692382fd22e23963f10"), looks := true }, kinds := [], alts := [], laidByText := true, laidKinds := [.data], laidTests := true, laidLooks := .later }
def DequePlaysUptoCardSaid : Prop := Claim7.holds Tryz.pinned (.plain (OpenSpec.upto dequePlaysSpec)) dequePlaysUptoCard

/-- THE SECOND FORM's CARD OF 'beadlelaw22.DequeFails'. -/
def dequeFailsUptoCard : Claim7 := { stood := { row := dequeFailsUptoRow, standIns := [], harness := (true, "a7884ad70a7210a7fcf4f602603fabe12912342ac8ac4692382fd22e23963f10"), looks := true }, kinds := [], alts := [], laidByText := true, laidKinds := [.data], laidTests := true, laidLooks := .later }
def DequeFailsUptoCardSaid : Prop := Claim7.holds Tryz.pinned (.plain (OpenSpec.upto dequeFailsSpec)) dequeFailsUptoCard

/-- THE SECOND FORM's CARD OF 'beadlelaw22.DequeApart'. -/
def dequeApartUptoCard : Claim7 := { stood := { row := dequeApartUptoRow, standIns := [], harness := (true, "a7884ad70a7210a7fcf4f602603fabe12912342ac8ac4692382fd22e23963f10"), looks := true }, kinds := [], alts := [], laidByText := true, laidKinds := [.data], laidTests := true, laidLooks := .later }
def DequeApartUptoCardSaid : Prop := Claim7.holds Tryz.pinned (.plain (OpenSpec.upto dequeApartSpec)) dequeApartUptoCard

/-- THE SECOND FORM's CARD OF 'beadlelaw22.DequeWhole'. -/
def dequeWholeUptoCard : Claim7 := { stood := { row := dequeWholeUptoRow, standIns := [], harness := (true, "a7884ad70a7210a7fcf4f602603fabe12912342ac8ac4692382fd22e23963f10"), looks := true }, kinds := [], alts := [], laidByText := true, laidKinds := [.data], laidTests := true, laidLooks := .later }
def DequeWholeUptoCardSaid : Prop := Claim7.holds Tryz.pinned (.plain (OpenSpec.upto dequeWholeSpec)) dequeWholeUptoCard
end Rows
end Go.Proofs.YtaliehikdidiaaaGreatDoor
