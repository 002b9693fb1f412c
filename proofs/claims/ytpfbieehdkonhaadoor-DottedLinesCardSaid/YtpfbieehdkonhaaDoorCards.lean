/-
  DERIVED. GIVEN WITH THE SEED: THE CARDS: each row of YtpfbieehdkonhaaDoorRows.lean that lists a variable, with what it lists TIED to the program's text (the seventh form; the later family's looks); each row that meets fmt, with fmt's text TOLD by the authors' own Lean function (tested against real Go, not proved from fmt's source: count such statements apart). THE CARD IS WHAT COUNTS. Prove the row's statement (the work); the ties are given (YtpfbieehdkonhaaDoorTie.lean); close each card by the builder's one call (the guide's Derived/Test/ToyasCard.lean, 'card_holds'). Laid BY PROGRAM, IN A SANDBOX (cutbox-door.mjs). By AI agents, Wed Nov 11 2026. No macro, syntax, notation, axiom, sorry.
-/
import Derived.Test.YtpfbieehdkonhaaDoorRows
import GoSem.ClaimSeven
namespace Go.Proofs.YtpfbieehdkonhaaDoor
namespace Rows

/-- THE TIED CARD OF 'beadrolllaw08.DottedTexts'. -/
def dottedTextsCard : Claim7 := { stood := { row := dottedTextsRow, standIns := [], harness := (true, "d1ecf1a8bb8589b1d0136b5c79f86c32fb02c0e85bba2cc39fdb552a82a03fb2"), looks := true }, kinds := [], alts := [], laidByText := true, laidKinds := [.data], laidTests := true, laidLooks := .later }
def DottedTextsCardSaid : Prop := Claim7.holds Tryd.pinned (.plain (OpenSpec.ofChange dottedTextsSpec)) dottedTextsCard

/-- THE TIED CARD OF 'beadrolllaw08.DottedReads'. -/
def dottedReadsCard : Claim7 := { stood := { row := dottedReadsRow, standIns := [], harness := (true, "d1ecf1a8bb8589b1d0136b5c79f86c32fb02c0e85bba2cc39fdb552a82a03fb2"), looks := true }, kinds := [], alts := [], laidByText := true, laidKinds := [.data], laidTests := true, laidLooks := .later }
def DottedReadsCardSaid : Prop := Claim7.holds Tryd.pinned (.plain (OpenSpec.ofChange dottedReadsSpec)) dottedReadsCard

/-- THE TIED CARD OF 'beadrolllaw08.DottedLines'. -/
def dottedLinesCard : Claim7 := { stood := { row := dottedLinesRow, standIns := [], harness := (true, "d1ecf1a8bb8589b1d0136b5c79f86c32fb02c0e85bba2cc39fdb552a82a03fb2"), looks := true }, kinds := [], alts := [], laidByText := true, laidKinds := [.data], laidTests := true, laidLooks := .later }
def DottedLinesCardSaid : Prop := Claim7.holds Tryd.pinned (.plain (OpenSpec.ofChange dottedLinesSpec)) dottedLinesCard

/-- THE TIED CARD OF 'beadrolllaw08.DottedBack'. -/
def dottedBackCard : Claim7 := { stood := { row := dottedBackRow, standIns := [], harness := (true, "d1ecf1a8bb8589b1d0136b5c79f86c32fb02c0e85bba2cc39fdb552a82a03fb2"), looks := true }, kinds := [], alts := [], laidByText := true, laidKinds := [.data], laidTests := true, laidLooks := .later }
def DottedBackCardSaid : Prop := Claim7.holds Tryd.pinned (.plain (OpenSpec.ofChange dottedBackSpec)) dottedBackCard

/-- THE TIED CARD OF 'beadrolllaw08.DottedJoins'. -/
def dottedJoinsCard : Claim7 := { stood := { row := dottedJoinsRow, standIns := [], harness := (true, "d1ecf1a8bb8589b1d0136b5c79f86c32fb02c0e85bba2cc39fdb552a82a03fb2"), looks := true }, kinds := [], alts := [], laidByText := true, laidKinds := [.data], laidTests := true, laidLooks := .later }
def DottedJoinsCardSaid : Prop := Claim7.holds Tryd.pinned (.plain (OpenSpec.ofChange dottedJoinsSpec)) dottedJoinsCard

/-- THE SECOND FORM's CARD OF 'beadrolllaw08.DottedTexts'. -/
def dottedTextsUptoCard : Claim7 := { stood := { row := dottedTextsUptoRow, standIns := [], harness := (true, "d1ecf1a8bb8589b1d0136b5c79f86c32fb02c0e85bba2cc39fdb552a82a03fb2"), looks := true }, kinds := [], alts := [], laidByText := true, laidKinds := [.data], laidTests := true, laidLooks := .later }
def DottedTextsUptoCardSaid : Prop := Claim7.holds Tryd.pinned (.plain (OpenSpec.upto dottedTextsSpec)) dottedTextsUptoCard

/-- THE SECOND FORM's CARD OF 'beadrolllaw08.DottedReads'. -/
def dottedReadsUptoCard : Claim7 := { stood := { row := dottedReadsUptoRow, standIns := [], harness := (true, "d1ecf1a8bb8589b1d0136b5c79f86c32fb02c0e85bba2cc39fdb552a82a03fb2"), looks := true }, kinds := [], alts := [], laidByText := true, laidKinds := [.data], laidTests := true, laidLooks := .later }
def DottedReadsUptoCardSaid : Prop := Claim7.holds Tryd.pinned (.plain (OpenSpec.upto dottedReadsSpec)) dottedReadsUptoCard

/-- THE SECOND FORM's CARD OF 'beadrolllaw08.DottedLines'. -/
def dottedLinesUptoCard : Claim7 := { stood := { row := dottedLinesUptoRow, standIns := [], harness := (true, "d1ecf1a8bb8589b1d0136b5c79f86c32fb02c0e85bba2cc39fdb552a82a03fb2"), looks := true }, kinds := [], alts := [], laidByText := true, laidKinds := [.data], laidTests := true, laidLooks := .later }
def DottedLinesUptoCardSaid : Prop := Claim7.holds Tryd.pinned (.plain (OpenSpec.upto dottedLinesSpec)) dottedLinesUptoCard

/-- THE SECOND FORM's CARD OF 'beadrolllaw08.DottedBack'. -/
def dottedBackUptoCard : Claim7 := { stood := { row := dottedBackUptoRow, standIns := [], harness := (true, "d1ecf1a8bb8589b1d0136b5c79f86c32fb02c0e85bba2cc39fdb552a82a03fb2"), looks := true }, kinds := [], alts := [], laidByText := true, laidKinds := [.data], laidTests := true, laidLooks := .later }
def DottedBackUptoCardSaid : Prop := Claim7.holds Tryd.pinned (.plain (OpenSpec.upto dottedBackSpec)) dottedBackUptoCard

/-- THE SECOND FORM's CARD OF 'beadrolllaw08.DottedJoins'. -/
def dottedJoinsUptoCard : Claim7 := { stood := { row := dottedJoinsUptoRow, standIns := [], harness := (true, "d1ecf1a8bb8589b1d0136b5c79f86c32fb02c0e85bba2cc39fdb552a82a03fb2"), looks := true }, kinds := [], alts := [], laidByText := true, laidKinds := [.data], laidTests := true, laidLooks := .later }
def DottedJoinsUptoCardSaid : Prop := Claim7.holds Tryd.pinned (.plain (OpenSpec.upto dottedJoinsSpec)) dottedJoinsUptoCard
end Rows
end Go.Proofs.YtpfbieehdkonhaaDoor
