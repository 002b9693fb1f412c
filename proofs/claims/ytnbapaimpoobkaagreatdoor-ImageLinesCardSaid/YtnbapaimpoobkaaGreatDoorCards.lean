/-
  DERIVED. GIVEN WITH THE SEED: THE CARDS: each row of YtnbapaimpoobkaaGreatDoorRows.lean that lists a variable, with what it lists TIED to the program's text (the seventh form; the later family's looks); each row that meets fmt, with fmt's text TOLD by the authors' own Lean function (tested against real Go, not proved from fmt's source: count such statements apart). THE CARD IS WHAT COUNTS. Prove the row's statement (the work); the ties are given (YtnbapaimpoobkaaGreatDoorTie.lean); close each card by the builder's one call (the guide's Derived/Test/ToyasCard.lean, 'card_holds'). Laid BY PROGRAM, IN A SANDBOX (cutbox-door.mjs). By AI agents, Wed Nov 11 2026. No macro, syntax, notation, axiom, sorry.
-/
import Derived.Test.YtnbapaimpoobkaaGreatDoorRows
import GoSem.ClaimSeven
namespace Go.Proofs.YtnbapaimpoobkaaGreatDoor
namespace Rows

/-- THE TIED CARD OF 'beadrolllaw18.ImageBytes'. -/
def imageBytesCard : Claim7 := { stood := { row := imageBytesRow, standIns := [], harness := (true, "c6841d2e88d7b8af05710437e9b235384cf121965f77191a0c9ab93609cca72c"), looks := true }, kinds := [], alts := [], laidByText := true, laidKinds := [.data, .data, .data, .data], laidTests := true, laidLooks := .later }
def ImageBytesCardSaid : Prop := Claim7.holds Tryz.pinned (.plain (OpenSpec.ofChange imageBytesSpec)) imageBytesCard

/-- THE TIED CARD OF 'beadrolllaw18.ImageReads'. -/
def imageReadsCard : Claim7 := { stood := { row := imageReadsRow, standIns := [], harness := (true, "c6841d2e88d7b8af05710437e9b235384cf121965f77191a0c9ab93609cca72c"), looks := true }, kinds := [], alts := [], laidByText := true, laidKinds := [.data, .data, .data, .data], laidTests := true, laidLooks := .later }
def ImageReadsCardSaid : Prop := Claim7.holds Tryz.pinned (.plain (OpenSpec.ofChange imageReadsSpec)) imageReadsCard

/-- THE TIED CARD OF 'beadrolllaw18.ImageLines'. -/
def imageLinesCard : Claim7 := { stood := { row := imageLinesRow, standIns := [], harness := (true, "c6841d2e88d7b8af05710437e9b235384cf121965f77191a0c9ab93609cca72c"), looks := true }, kinds := [], alts := [], laidByText := true, laidKinds := [.data, .data, .data, .data, .sentinel, .sentinel, .data, .pinned], laidTests := true, laidLooks := .later }
def ImageLinesCardSaid : Prop := Claim7.holds Tryz.pinned (.plain (OpenSpec.ofChange imageLinesSpec)) imageLinesCard

/-- THE TIED CARD OF 'beadrolllaw18.ImageBack'. -/
def imageBackCard : Claim7 := { stood := { row := imageBackRow, standIns := [], harness := (true, "c6841d2e88d7b8af05710437e9b235384cf121965f77191a0c9ab93609cca72c"), looks := true }, kinds := [], alts := [], laidByText := true, laidKinds := [.data, .data, .data, .data], laidTests := true, laidLooks := .later }
def ImageBackCardSaid : Prop := Claim7.holds Tryz.pinned (.plain (OpenSpec.ofChange imageBackSpec)) imageBackCard

/-- THE TIED CARD OF 'beadrolllaw18.ImageTurns'. -/
def imageTurnsCard : Claim7 := { stood := { row := imageTurnsRow, standIns := [], harness := (true, "c6841d2e88d7b8af05710437e9b235384cf121965f77191a0c9ab93609cca72c"), looks := true }, kinds := [], alts := [], laidByText := true, laidKinds := [.data, .data, .data, .data, .sentinel, .sentinel, .data, .pinned], laidTests := true, laidLooks := .later }
def ImageTurnsCardSaid : Prop := Claim7.holds Tryz.pinned (.plain (OpenSpec.ofChange imageTurnsSpec)) imageTurnsCard

/-- THE SECOND FORM's CARD OF 'beadrolllaw18.ImageBytes'. -/
def imageBytesUptoCard : Claim7 := { stood := { row := imageBytesUptoRow, standIns := [], harness := (true, "c6841d2e88d7b8af05710437e9b235384cf121965f77191a0c9ab93609cca72c"), looks := true }, kinds := [], alts := [], laidByText := true, laidKinds := [.data, .data, .data, .data], laidTests := true, laidLooks := .later }
def ImageBytesUptoCardSaid : Prop := Claim7.holds Tryz.pinned (.plain (OpenSpec.upto imageBytesSpec)) imageBytesUptoCard

/-- THE SECOND FORM's CARD OF 'beadrolllaw18.ImageReads'. -/
def imageReadsUptoCard : Claim7 := { stood := { row := imageReadsUptoRow, standIns := [], harness := (true, "c6841d2e88d7b8af05710437e9b235384cf121965f77191a0c9ab93609cca72c"), looks := true }, kinds := [], alts := [], laidByText := true, laidKinds := [.data, .data, .data, .data], laidTests := true, laidLooks := .later }
def ImageReadsUptoCardSaid : Prop := Claim7.holds Tryz.pinned (.plain (OpenSpec.upto imageReadsSpec)) imageReadsUptoCard

/-- THE SECOND FORM's CARD OF 'beadrolllaw18.ImageLines'. -/
def imageLinesUptoCard : Claim7 := { stood := { row := imageLinesUptoRow, standIns := [], harness := (true, "c6841d2e88d7b8af05710437e9b235384cf121965f77191a0c9ab93609cca72c"), looks := true }, kinds := [], alts := [], laidByText := true, laidKinds := [.data, .data, .data, .data, .sentinel, .sentinel, .data, .pinned], laidTests := true, laidLooks := .later }
def ImageLinesUptoCardSaid : Prop := Claim7.holds Tryz.pinned (.plain (OpenSpec.upto imageLinesSpec)) imageLinesUptoCard

/-- THE SECOND FORM's CARD OF 'beadrolllaw18.ImageBack'. -/
def imageBackUptoCard : Claim7 := { stood := { row := imageBackUptoRow, standIns := [], harness := (true, "c6841d2e88d7b8af05710437e9b235384cf121965f77191a0c9ab93609cca72c"), looks := true }, kinds := [], alts := [], laidByText := true, laidKinds := [.data, .data, .data, .data], laidTests := true, laidLooks := .later }
def ImageBackUptoCardSaid : Prop := Claim7.holds Tryz.pinned (.plain (OpenSpec.upto imageBackSpec)) imageBackUptoCard

/-- THE SECOND FORM's CARD OF 'beadrolllaw18.ImageTurns'. -/
def imageTurnsUptoCard : Claim7 := { stood := { row := imageTurnsUptoRow, standIns := [], harness := (true, "c6841d2e88d7b8af05710437e9b235384cf121965f77191a0c9ab93609cca72c"), looks := true }, kinds := [], alts := [], laidByText := true, laidKinds := [.data, .data, .data, .data, .sentinel, .sentinel, .data, .pinned], laidTests := true, laidLooks := .later }
def ImageTurnsUptoCardSaid : Prop := Claim7.holds Tryz.pinned (.plain (OpenSpec.upto imageTurnsSpec)) imageTurnsUptoCard
end Rows
end Go.Proofs.YtnbapaimpoobkaaGreatDoor
