/-
  DERIVED. GIVEN WITH THE SEED: THE CARDS: each row of YtmoafflimfhaiaaDoorRows.lean that lists a variable, with what it lists TIED to the program's text (the seventh form; the later family's looks); each row that meets fmt, with fmt's text TOLD by the authors' own Lean function (tested against real Go, not proved from fmt's source: count such statements apart). THE CARD IS WHAT COUNTS. Prove the row's statement (the work); the ties are given (YtmoafflimfhaiaaDoorTie.lean); close each card by the builder's one call (the guide's Derived/Test/ToyasCard.lean, 'card_holds'). Laid BY PROGRAM, IN A SANDBOX (cutbox-door.mjs). By AI agents, Wed Nov 11 2026. No macro, syntax, notation, axiom, sorry.
-/
import Derived.Test.YtmoafflimfhaiaaDoorRows
import GoSem.ClaimSeven
namespace Go.Proofs.YtmoafflimfhaiaaDoor
namespace Rows

/-- THE TIED CARD OF 'beadlelaw19.AsmBuilds'. -/
def asmBuildsCard : Claim7 := { stood := { row := asmBuildsRow, standIns := [], harness := (true, "a2ac6574989fbe161b091cf24ab562ce706601e6f3b8c8631c1286d73dab348b"), looks := false }, kinds := [], alts := [], laidByText := true, laidKinds := [.data], laidTests := true, laidLooks := .later }
def AsmBuildsCardSaid : Prop := Claim7.holds Tryd.pinned (.plain (OpenSpec.ofChange asmBuildsSpec)) asmBuildsCard

/-- THE TIED CARD OF 'beadlelaw19.AsmTwo'. -/
def asmTwoCard : Claim7 := { stood := { row := asmTwoRow, standIns := [], harness := (true, "a2ac6574989fbe161b091cf24ab562ce706601e6f3b8c8631c1286d73dab348b"), looks := false }, kinds := [], alts := [], laidByText := true, laidKinds := [.data], laidTests := true, laidLooks := .later }
def AsmTwoCardSaid : Prop := Claim7.holds Tryd.pinned (.plain (OpenSpec.ofChange asmTwoSpec)) asmTwoCard

/-- THE TIED CARD OF 'beadlelaw19.AsmPlaces'. -/
def asmPlacesCard : Claim7 := { stood := { row := asmPlacesRow, standIns := [], harness := (true, "a2ac6574989fbe161b091cf24ab562ce706601e6f3b8c8631c1286d73dab348b"), looks := false }, kinds := [], alts := [], laidByText := true, laidKinds := [.data], laidTests := true, laidLooks := .later }
def AsmPlacesCardSaid : Prop := Claim7.holds Tryd.pinned (.plain (OpenSpec.ofChange asmPlacesSpec)) asmPlacesCard

/-- THE SECOND FORM's CARD OF 'beadlelaw19.AsmBuilds'. -/
def asmBuildsUptoCard : Claim7 := { stood := { row := asmBuildsUptoRow, standIns := [], harness := (true, "a2ac6574989fbe161b091cf24ab562ce706601e6f3b8c8631c1286d73dab348b"), looks := false }, kinds := [], alts := [], laidByText := true, laidKinds := [.data], laidTests := true, laidLooks := .later }
def AsmBuildsUptoCardSaid : Prop := Claim7.holds Tryd.pinned (.plain (OpenSpec.upto asmBuildsSpec)) asmBuildsUptoCard

/-- THE SECOND FORM's CARD OF 'beadlelaw19.AsmTwo'. -/
def asmTwoUptoCard : Claim7 := { stood := { row := asmTwoUptoRow, standIns := [], harness := (true, "a2ac6574989fbe161b091cf24ab562ce706601e6f3b8c8631c1286d73dab348b"), looks := false }, kinds := [], alts := [], laidByText := true, laidKinds := [.data], laidTests := true, laidLooks := .later }
def AsmTwoUptoCardSaid : Prop := Claim7.holds Tryd.pinned (.plain (OpenSpec.upto asmTwoSpec)) asmTwoUptoCard

/-- THE SECOND FORM's CARD OF 'beadlelaw19.AsmPlaces'. -/
def asmPlacesUptoCard : Claim7 := { stood := { row := asmPlacesUptoRow, standIns := [], harness := (true, "a2ac6574989fbe161b091cf24ab562ce706601e6f3b8c8631c1286d73dab348b"), looks := false }, kinds := [], alts := [], laidByText := true, laidKinds := [.data], laidTests := true, laidLooks := .later }
def AsmPlacesUptoCardSaid : Prop := Claim7.holds Tryd.pinned (.plain (OpenSpec.upto asmPlacesSpec)) asmPlacesUptoCard
end Rows
end Go.Proofs.YtmoafflimfhaiaaDoor
