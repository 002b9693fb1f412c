/-
  DERIVED. GIVEN WITH THE SEED: THE CARDS: each row of YtmpginmdaeclaaaGreatDoorRows.lean that lists a variable, with what it lists TIED to the program's text (the seventh form; the later family's looks); each row that meets fmt, with fmt's text TOLD by the authors' own Lean function (tested against real Go, not proved from fmt's source: count such statements apart). THE CARD IS WHAT COUNTS. Prove the row's statement (the work); the ties are given (YtmpginmdaeclaaaGreatDoorTie.lean); close each card by the builder's one call (the guide's Derived/Test/ToyasCard.lean, 'card_holds'). Laid BY PROGRAM, IN A SANDBOX (cutbox-door.mjs). By AI agents, Wed Nov 11 2026. No macro, syntax, notation, axiom, sorry.
-/
import Derived.Test.YtmpginmdaeclaaaGreatDoorRows
import GoSem.ClaimSeven
namespace Go.Proofs.YtmpginmdaeclaaaGreatDoor
namespace Rows

/-- THE TIED CARD OF 'beadrolllaw20.SnapPlays'. -/
def snapPlaysCard : Claim7 := { stood := { row := snapPlaysRow, standIns := [], harness := (true, "a1d7d383500c2e5ca4108f5d737f534e4abc082b67d747a8c5041211c0db2e24"), looks := true }, kinds := [], alts := [], laidByText := true, laidKinds := [.data, .data, .data], laidTests := true, laidLooks := .later }
def SnapPlaysCardSaid : Prop := Claim7.holds Tryz.pinned (.plain (OpenSpec.ofChange snapPlaysSpec)) snapPlaysCard

/-- THE TIED CARD OF 'beadrolllaw20.SnapRow'. -/
def snapRowCard : Claim7 := { stood := { row := snapRowRow, standIns := [], harness := (true, "a1d7d383500c2e5ca4108f5d737f534e4abc082b67d747a8c5041211c0db2e24"), looks := true }, kinds := [], alts := [], laidByText := true, laidKinds := [.data, .data, .data], laidTests := true, laidLooks := .later }
def SnapRowCardSaid : Prop := Claim7.holds Tryz.pinned (.plain (OpenSpec.ofChange snapRowSpec)) snapRowCard

/-- THE SECOND FORM's CARD OF 'beadrolllaw20.SnapPlays'. -/
def snapPlaysUptoCard : Claim7 := { stood := { row := snapPlaysUptoRow, standIns := [], harness := (true, "a1d7d383500c2e5ca4108f5d737f534e4abc082b67d747a8c5041211c0db2e24"), looks := true }, kinds := [], alts := [], laidByText := true, laidKinds := [.data, .data, .data], laidTests := true, laidLooks := .later }
def SnapPlaysUptoCardSaid : Prop := Claim7.holds Tryz.pinned (.plain (OpenSpec.upto snapPlaysSpec)) snapPlaysUptoCard

/-- THE SECOND FORM's CARD OF 'beadrolllaw20.SnapRow'. -/
def snapRowUptoCard : Claim7 := { stood := { row := snapRowUptoRow, standIns := [], harness := (true, "a1d7d383500c2e5ca4108f5d737f534e4abc082b67d747a8c5041211c0db2e24"), looks := true }, kinds := [], alts := [], laidByText := true, laidKinds := [.data, .data, .data], laidTests := true, laidLooks := .later }
def SnapRowUptoCardSaid : Prop := Claim7.holds Tryz.pinned (.plain (OpenSpec.upto snapRowSpec)) snapRowUptoCard
end Rows
end Go.Proofs.YtmpginmdaeclaaaGreatDoor
