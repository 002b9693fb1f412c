/-
  DERIVED. GIVEN WITH THE SEED: THE CARDS: each row of YtggognnjnfphgaaGreatDoorRows.lean that lists a variable, with what it lists TIED to the program's text (the seventh form; the later family's looks); each row that meets fmt, with fmt's text TOLD by the authors' own Lean function (tested against real Go, not proved from fmt's source: count such statements apart). THE CARD IS WHAT COUNTS. Prove the row's statement (the work); the ties are given (YtggognnjnfphgaaGreatDoorTie.lean); close each card by the builder's one call (the guide's Derived/Test/ToyasCard.lean, 'card_holds'). Laid BY PROGRAM, IN A SANDBOX (cutbox-door.mjs). By AI agents, Wed Nov 11 2026. No macro, syntax, notation, axiom, sorry.
-/
import Derived.Test.YtggognnjnfphgaaGreatDoorRows
import GoSem.ClaimSeven
namespace Go.Proofs.YtggognnjnfphgaaGreatDoor
namespace Rows

/-- THE TIED CARD OF 'beadrolllaw19.LogNames'. -/
def logNamesCard : Claim7 := { stood := { row := logNamesRow, standIns := [], harness := (true, "8a0c51984823582bc20c64c9f42296c59b983e5a91c813cb07bfec5147b8054c"), looks := true }, kinds := [], alts := [], laidByText := true, laidKinds := [.data, .data, .data], laidTests := true, laidLooks := .later }
def LogNamesCardSaid : Prop := Claim7.holds Tryz.pinned (.plain (OpenSpec.ofChange logNamesSpec)) logNamesCard

/-- THE TIED CARD OF 'beadrolllaw19.LogKeeps'. -/
def logKeepsCard : Claim7 := { stood := { row := logKeepsRow, standIns := [], harness := (true, "8a0c51984823582bc20c64c9f42296c59b983e5a91c813cb07bfec5147b8054c"), looks := true }, kinds := [], alts := [], laidByText := true, laidKinds := [.data, .data, .data], laidTests := true, laidLooks := .later }
def LogKeepsCardSaid : Prop := Claim7.holds Tryz.pinned (.plain (OpenSpec.ofChange logKeepsSpec)) logKeepsCard

/-- THE TIED CARD OF 'beadrolllaw19.LogAgain'. -/
def logAgainCard : Claim7 := { stood := { row := logAgainRow, standIns := [], harness := (true, "8a0c51984823582bc20c64c9f42296c59b983e5a91c813cb07bfec5147b8054c"), looks := true }, kinds := [], alts := [], laidByText := true, laidKinds := [.data, .data, .data], laidTests := true, laidLooks := .later }
def LogAgainCardSaid : Prop := Claim7.holds Tryz.pinned (.plain (OpenSpec.ofChange logAgainSpec)) logAgainCard

/-- THE TIED CARD OF 'beadrolllaw19.LogGaps'. -/
def logGapsCard : Claim7 := { stood := { row := logGapsRow, standIns := [], harness := (true, "8a0c51984823582bc20c64c9f42296c59b983e5a91c813cb07bfec5147b8054c"), looks := true }, kinds := [], alts := [], laidByText := true, laidKinds := [.data, .data, .data], laidTests := true, laidLooks := .later }
def LogGapsCardSaid : Prop := Claim7.holds Tryz.pinned (.plain (OpenSpec.ofChange logGapsSpec)) logGapsCard

/-- THE SECOND FORM's CARD OF 'beadrolllaw19.LogNames'. -/
def logNamesUptoCard : Claim7 := { stood := { row := logNamesUptoRow, standIns := [], harness := (true, "8a0c51984823582bc20c64c9f42296c59b983e5a91c813cb07bfec5147b8054c"), looks := true }, kinds := [], alts := [], laidByText := true, laidKinds := [.data, .data, .data], laidTests := true, laidLooks := .later }
def LogNamesUptoCardSaid : Prop := Claim7.holds Tryz.pinned (.plain (OpenSpec.upto logNamesSpec)) logNamesUptoCard

/-- THE SECOND FORM's CARD OF 'beadrolllaw19.LogKeeps'. -/
def logKeepsUptoCard : Claim7 := { stood := { row := logKeepsUptoRow, standIns := [], harness := (true, "8a0c51984823582bc20c64c9f42296c59b983e5a91c813cb07bfec5147b8054c"), looks := true }, kinds := [], alts := [], laidByText := true, laidKinds := [.data, .data, .data], laidTests := true, laidLooks := .later }
def LogKeepsUptoCardSaid : Prop := Claim7.holds Tryz.pinned (.plain (OpenSpec.upto logKeepsSpec)) logKeepsUptoCard

/-- THE SECOND FORM's CARD OF 'beadrolllaw19.LogAgain'. -/
def logAgainUptoCard : Claim7 := { stood := { row := logAgainUptoRow, standIns := [], harness := (true, "8a0c51984823582bc20c64c9f42296c59b983e5a91c813cb07bfec5147b8054c"), looks := true }, kinds := [], alts := [], laidByText := true, laidKinds := [.data, .data, .data], laidTests := true, laidLooks := .later }
def LogAgainUptoCardSaid : Prop := Claim7.holds Tryz.pinned (.plain (OpenSpec.upto logAgainSpec)) logAgainUptoCard

/-- THE SECOND FORM's CARD OF 'beadrolllaw19.LogGaps'. -/
def logGapsUptoCard : Claim7 := { stood := { row := logGapsUptoRow, standIns := [], harness := (true, "8a0c51984823582bc20c64c9f42296c59b983e5a91c813cb07bfec5147b8054c"), looks := true }, kinds := [], alts := [], laidByText := true, laidKinds := [.data, .data, .data], laidTests := true, laidLooks := .later }
def LogGapsUptoCardSaid : Prop := Claim7.holds Tryz.pinned (.plain (OpenSpec.upto logGapsSpec)) logGapsUptoCard
end Rows
end Go.Proofs.YtggognnjnfphgaaGreatDoor
