/-
  NARROWER THAN 'FOR EVERY INPUT', by the rows' own cells (each row's printed sentence says how): DottedTexts: laid · DottedReads: laid · DottedLines: laid · DottedBack: laid · DottedJoins: laid.
  DERIVED. THE GIVEN ROWS OF THIS SEAT. 5 by the template 'for every input the law returns true; each argument reads behind the call as it read before'; 0 by the template 'total and deterministic' (their statements: YtpfbieehdkonhaaDoorTotals.lean).
  GIVEN WITH THE SEED: the statements are not yours to turn. If you find one false, say at which input.
  Laid BY PROGRAM, IN A SANDBOX (cutbox-rows.mjs): the forced cells as the released guide's own fill.sh prints them over the translation d9c07b0a0c578a97… (all of the seat's roots in one cut). By AI agents, Wed Nov 11 2026. No macro, syntax, notation, axiom, sorry.
-/
import Derived.Test.YtpfbieehdkonhaaDoorChecked
import GoSem.Claim
import GoSem.ClaimJoined
import GoSem.ClaimMapViews
import Derived.JoinedTies
import Derived.KernelRfl
namespace Go.Proofs.YtpfbieehdkonhaaDoor
/- THE CELL 'sum', in the pinned program and in every row, IS THE sha256 OF THE DUMP (.gsa) THAT YtpfbieehdkonhaaDoorProg.lean LOADS. Nothing in Lean hashes anything: it is a label: what it is worth is what the hold of that sum in a sandbox is worth. -/
noncomputable def Tryd.pinned : Pinned := { name := "ytpfbieehdkonhaadoor", sum := "d9c07b0a0c578a97810b8557064122b396cac09c2de09700ff362e83490b3b2f", checked := Tryd.checked }
namespace Rows
def none {H : Type} : Left H := { results := [], args := [] }

/- WHAT THE LISTED PACKAGE-LEVEL VARIABLES READ AS WHEN THE CALL BEGINS. Each datum BY PROGRAM (the guide's laid-datum.mjs) off the statement by which the dump's own 'gosem.cut.vars' lays the variable. In a bare row this is a premise. The card (YtpfbieehdkonhaaDoorCards.lean) ties it to the program's text. -/
def laid_beadroll_dotted_weights {H : Type} : DataW H := .agg [.lit (.int .i64 100), .lit (.int .i64 10), .lit (.int .i64 1)]

/-- 'beadrolllaw08.DottedTexts': WHATEVER THE INPUT: true; the input reads as it did. -/
def dottedTextsSpec : ChangeSpec := { name := "dottedTexts", fn := fun _ => fun
  | [d] => { results := [.lit (.bool true)], args := [d] }
  | _ => none }
def dottedTextsRow : OpenClaim := { program := "ytpfbieehdkonhaadoor", sum := "d9c07b0a0c578a97810b8557064122b396cac09c2de09700ff362e83490b3b2f", func := "beadroll/beadrolllaw08.DottedTexts", spec := "dottedTexts", inPlace := ["internal/abi.NoEscape"], unfollowed := true, recurses := true, named := ["beadroll/dotted.weights"], apart := false, laid := [("beadroll/dotted.weights", laid_beadroll_dotted_weights)] }
def DottedTextsSaid : Prop := dottedTextsRow.holds Tryd.pinned (OpenSpec.ofChange dottedTextsSpec)

/-- ITS FALSE NEIGHBOUR: 'it returns false'. Refute it at one input. -/
def dottedTextsWrong : ChangeSpec := { name := "dottedTexts", fn := fun _ => fun
  | [d] => { results := [.lit (.bool false)], args := [d] }
  | _ => none }
def DottedTextsWrongFalsely : Prop := dottedTextsRow.holds Tryd.pinned (OpenSpec.ofChange dottedTextsWrong)

/-- 'beadrolllaw08.DottedReads': WHATEVER THE INPUT: true; the input reads as it did. -/
def dottedReadsSpec : ChangeSpec := { name := "dottedReads", fn := fun _ => fun
  | [d] => { results := [.lit (.bool true)], args := [d] }
  | _ => none }
def dottedReadsRow : OpenClaim := { program := "ytpfbieehdkonhaadoor", sum := "d9c07b0a0c578a97810b8557064122b396cac09c2de09700ff362e83490b3b2f", func := "beadroll/beadrolllaw08.DottedReads", spec := "dottedReads", inPlace := ["internal/abi.NoEscape"], unfollowed := true, recurses := true, named := ["beadroll/dotted.weights"], apart := false, laid := [("beadroll/dotted.weights", laid_beadroll_dotted_weights)] }
def DottedReadsSaid : Prop := dottedReadsRow.holds Tryd.pinned (OpenSpec.ofChange dottedReadsSpec)

/-- ITS FALSE NEIGHBOUR: 'it returns false'. Refute it at one input. -/
def dottedReadsWrong : ChangeSpec := { name := "dottedReads", fn := fun _ => fun
  | [d] => { results := [.lit (.bool false)], args := [d] }
  | _ => none }
def DottedReadsWrongFalsely : Prop := dottedReadsRow.holds Tryd.pinned (OpenSpec.ofChange dottedReadsWrong)

/-- 'beadrolllaw08.DottedLines': WHATEVER THE INPUT: true; the input reads as it did. -/
def dottedLinesSpec : ChangeSpec := { name := "dottedLines", fn := fun _ => fun
  | [d] => { results := [.lit (.bool true)], args := [d] }
  | _ => none }
def dottedLinesRow : OpenClaim := { program := "ytpfbieehdkonhaadoor", sum := "d9c07b0a0c578a97810b8557064122b396cac09c2de09700ff362e83490b3b2f", func := "beadroll/beadrolllaw08.DottedLines", spec := "dottedLines", inPlace := ["internal/abi.NoEscape", "internal/bytealg.MakeNoZero"], unfollowed := true, recurses := true, named := ["beadroll/dotted.weights"], apart := false, laid := [("beadroll/dotted.weights", laid_beadroll_dotted_weights)] }
def DottedLinesSaid : Prop := dottedLinesRow.holds Tryd.pinned (OpenSpec.ofChange dottedLinesSpec)

/-- ITS FALSE NEIGHBOUR: 'it returns false'. Refute it at one input. -/
def dottedLinesWrong : ChangeSpec := { name := "dottedLines", fn := fun _ => fun
  | [d] => { results := [.lit (.bool false)], args := [d] }
  | _ => none }
def DottedLinesWrongFalsely : Prop := dottedLinesRow.holds Tryd.pinned (OpenSpec.ofChange dottedLinesWrong)

/-- 'beadrolllaw08.DottedBack': WHATEVER THE INPUT: true; the input reads as it did. -/
def dottedBackSpec : ChangeSpec := { name := "dottedBack", fn := fun _ => fun
  | [d] => { results := [.lit (.bool true)], args := [d] }
  | _ => none }
def dottedBackRow : OpenClaim := { program := "ytpfbieehdkonhaadoor", sum := "d9c07b0a0c578a97810b8557064122b396cac09c2de09700ff362e83490b3b2f", func := "beadroll/beadrolllaw08.DottedBack", spec := "dottedBack", inPlace := ["internal/abi.NoEscape"], unfollowed := true, recurses := true, named := ["beadroll/dotted.weights"], apart := false, laid := [("beadroll/dotted.weights", laid_beadroll_dotted_weights)] }
def DottedBackSaid : Prop := dottedBackRow.holds Tryd.pinned (OpenSpec.ofChange dottedBackSpec)

/-- ITS FALSE NEIGHBOUR: 'it returns false'. Refute it at one input. -/
def dottedBackWrong : ChangeSpec := { name := "dottedBack", fn := fun _ => fun
  | [d] => { results := [.lit (.bool false)], args := [d] }
  | _ => none }
def DottedBackWrongFalsely : Prop := dottedBackRow.holds Tryd.pinned (OpenSpec.ofChange dottedBackWrong)

/-- 'beadrolllaw08.DottedJoins': WHATEVER THE INPUT: true; the input reads as it did. -/
def dottedJoinsSpec : ChangeSpec := { name := "dottedJoins", fn := fun _ => fun
  | [d1, d2] => { results := [.lit (.bool true)], args := [d1, d2] }
  | _ => none }
def dottedJoinsRow : OpenClaim := { program := "ytpfbieehdkonhaadoor", sum := "d9c07b0a0c578a97810b8557064122b396cac09c2de09700ff362e83490b3b2f", func := "beadroll/beadrolllaw08.DottedJoins", spec := "dottedJoins", inPlace := ["internal/abi.NoEscape"], unfollowed := true, recurses := true, named := ["beadroll/dotted.weights"], apart := false, laid := [("beadroll/dotted.weights", laid_beadroll_dotted_weights)] }
def DottedJoinsSaid : Prop := dottedJoinsRow.holds Tryd.pinned (OpenSpec.ofChange dottedJoinsSpec)

/-- ITS FALSE NEIGHBOUR: 'it returns false'. Refute it at one input. -/
def dottedJoinsWrong : ChangeSpec := { name := "dottedJoins", fn := fun _ => fun
  | [d1, d2] => { results := [.lit (.bool false)], args := [d1, d2] }
  | _ => none }
def DottedJoinsWrongFalsely : Prop := dottedJoinsRow.holds Tryd.pinned (OpenSpec.ofChange dottedJoinsWrong)

/- THE SECOND FORM. 'bulk': how many values and letters a reading holds, each counted each time it is reached (what is shared counts as often as it is met; a slice's spare places count too). A statement '..UptoSaid' is the law's where the arguments, and the package variables that the reading takes, are together of bulk at most 1048576: NARROWER than '..Said'. Prove '..Said' where nothing that the law and all that it calls make is longer than what came in: it says more and counts as full. Else prove '..UptoSaid'. A law counts once. -/
mutual
def uptoBulk {H : Type} : DataW H → Nat
  | .lit (.string bytes) => bytes.length + 1
  | .lit _ => 1
  | .nil => 1
  | .ptr d => uptoBulk d + 1
  | .slice elems spare => uptoBulkAll elems + uptoBulkAll spare + 1
  | .agg parts => uptoBulkAll parts + 1
  | .iface _ d => uptoBulk d + 1
  | .map entries => uptoBulkEntries entries + 1
  | .held _ => 1
def uptoBulkAll {H : Type} : List (DataW H) → Nat
  | [] => 0
  | d :: r => uptoBulk d + uptoBulkAll r
def uptoBulkEntries {H : Type} : List (Lit × DataW H) → Nat
  | [] => 0
  | x :: r => uptoBulkEntry x + uptoBulkEntries r
def uptoBulkEntry {H : Type} : Lit × DataW H → Nat
  | (.string bytes, d) => bytes.length + uptoBulk d + 1
  | (_, d) => uptoBulk d + 1
 end
def uptoSmall : (H : Type) → List (DataW H) → Bool := fun _ ds => decide (uptoBulkAll ds ≤ 1048576)
def OpenSpec.upto (s : _root_.Go.ChangeSpec) : _root_.Go.OpenSpec := { _root_.Go.OpenSpec.ofChange s with cond := some uptoSmall }

/-- 'beadrolllaw08.DottedTexts', WHERE WHAT IT READS IS OF BULK AT MOST 1048576: true; the input reads as it did. -/
def dottedTextsUptoRow : OpenClaim := { program := "ytpfbieehdkonhaadoor", sum := "d9c07b0a0c578a97810b8557064122b396cac09c2de09700ff362e83490b3b2f", func := "beadroll/beadrolllaw08.DottedTexts", spec := "dottedTexts", inPlace := ["internal/abi.NoEscape"], unfollowed := true, recurses := true, named := ["beadroll/dotted.weights"], apart := false, laid := [("beadroll/dotted.weights", laid_beadroll_dotted_weights)], narrowed := true }
def DottedTextsUptoSaid : Prop := dottedTextsUptoRow.holds Tryd.pinned (OpenSpec.upto dottedTextsSpec)

/-- 'beadrolllaw08.DottedReads', WHERE WHAT IT READS IS OF BULK AT MOST 1048576: true; the input reads as it did. -/
def dottedReadsUptoRow : OpenClaim := { program := "ytpfbieehdkonhaadoor", sum := "d9c07b0a0c578a97810b8557064122b396cac09c2de09700ff362e83490b3b2f", func := "beadroll/beadrolllaw08.DottedReads", spec := "dottedReads", inPlace := ["internal/abi.NoEscape"], unfollowed := true, recurses := true, named := ["beadroll/dotted.weights"], apart := false, laid := [("beadroll/dotted.weights", laid_beadroll_dotted_weights)], narrowed := true }
def DottedReadsUptoSaid : Prop := dottedReadsUptoRow.holds Tryd.pinned (OpenSpec.upto dottedReadsSpec)

/-- 'beadrolllaw08.DottedLines', WHERE WHAT IT READS IS OF BULK AT MOST 1048576: true; the input reads as it did. -/
def dottedLinesUptoRow : OpenClaim := { program := "ytpfbieehdkonhaadoor", sum := "d9c07b0a0c578a97810b8557064122b396cac09c2de09700ff362e83490b3b2f", func := "beadroll/beadrolllaw08.DottedLines", spec := "dottedLines", inPlace := ["internal/abi.NoEscape", "internal/bytealg.MakeNoZero"], unfollowed := true, recurses := true, named := ["beadroll/dotted.weights"], apart := false, laid := [("beadroll/dotted.weights", laid_beadroll_dotted_weights)], narrowed := true }
def DottedLinesUptoSaid : Prop := dottedLinesUptoRow.holds Tryd.pinned (OpenSpec.upto dottedLinesSpec)

/-- 'beadrolllaw08.DottedBack', WHERE WHAT IT READS IS OF BULK AT MOST 1048576: true; the input reads as it did. -/
def dottedBackUptoRow : OpenClaim := { program := "ytpfbieehdkonhaadoor", sum := "d9c07b0a0c578a97810b8557064122b396cac09c2de09700ff362e83490b3b2f", func := "beadroll/beadrolllaw08.DottedBack", spec := "dottedBack", inPlace := ["internal/abi.NoEscape"], unfollowed := true, recurses := true, named := ["beadroll/dotted.weights"], apart := false, laid := [("beadroll/dotted.weights", laid_beadroll_dotted_weights)], narrowed := true }
def DottedBackUptoSaid : Prop := dottedBackUptoRow.holds Tryd.pinned (OpenSpec.upto dottedBackSpec)

/-- 'beadrolllaw08.DottedJoins', WHERE WHAT IT READS IS OF BULK AT MOST 1048576: true; the input reads as it did. -/
def dottedJoinsUptoRow : OpenClaim := { program := "ytpfbieehdkonhaadoor", sum := "d9c07b0a0c578a97810b8557064122b396cac09c2de09700ff362e83490b3b2f", func := "beadroll/beadrolllaw08.DottedJoins", spec := "dottedJoins", inPlace := ["internal/abi.NoEscape"], unfollowed := true, recurses := true, named := ["beadroll/dotted.weights"], apart := false, laid := [("beadroll/dotted.weights", laid_beadroll_dotted_weights)], narrowed := true }
def DottedJoinsUptoSaid : Prop := dottedJoinsUptoRow.holds Tryd.pinned (OpenSpec.upto dottedJoinsSpec)

end Rows
end Go.Proofs.YtpfbieehdkonhaaDoor
