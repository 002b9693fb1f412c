/-
  No cell of these rows narrows 'for every input' (looked for: loops, veiled, ifaces, maps, wideKeys, modest, calm, conditions, laid).
  DERIVED. THE GIVEN ROWS OF THIS SEAT. 4 by the template 'for every input the law returns true; each argument reads behind the call as it read before'; 0 by the template 'total and deterministic' (their statements: YtgnfleldkjhgcaaTotals.lean).
  GIVEN WITH THE SEED: the statements are not yours to turn. If you find one false, say at which input.
  Laid BY PROGRAM, IN A SANDBOX (cutbox-rows.mjs): the forced cells as the released guide's own fill.sh prints them over the translation ae1f887548720f75… (all of the seat's roots in one cut). By AI agents, Wed Nov 11 2026. No macro, syntax, notation, axiom, sorry.
-/
import Derived.Test.YtgnfleldkjhgcaaChecked
import GoSem.Claim
import GoSem.ClaimJoined
import GoSem.ClaimMapViews
import Derived.JoinedTies
import Derived.KernelRfl
namespace Go.Proofs.Ytgnfleldkjhgcaa
/- THE CELL 'sum', in the pinned program and in every row, IS THE sha256 OF THE DUMP (.gsa) THAT YtgnfleldkjhgcaaProg.lean LOADS. Nothing in Lean hashes anything: it is a label: what it is worth is what the hold of that sum in a sandbox is worth. -/
noncomputable def Try.pinned : Pinned := { name := "ytgnfleldkjhgcaa", sum := "ae1f887548720f752d98314d7103976b3ccb94c8416815980cb498a8bd311596", checked := Try.checked }
namespace Rows
def none {H : Type} : Left H := { results := [], args := [] }

/-- 'beadrolllaw10.RdataTells': WHATEVER THE INPUT: true; the input reads as it did. -/
def rdataTellsSpec : ChangeSpec := { name := "rdataTells", fn := fun _ => fun
  | [d1, d2] => { results := [.lit (.bool true)], args := [d1, d2] }
  | _ => none }
def rdataTellsRow : OpenClaim := { program := "ytgnfleldkjhgcaa", sum := "ae1f887548720f752d98314d7103976b3ccb94c8416815980cb498a8bd311596", func := "beadroll/beadrolllaw10.RdataTells", spec := "rdataTells", inPlace := ["internal/abi.NoEscape"], unfollowed := true, recurses := true, apart := false }
def RdataTellsSaid : Prop := rdataTellsRow.holds Try.pinned (OpenSpec.ofChange rdataTellsSpec)

/-- ITS FALSE NEIGHBOUR: 'it returns false'. Refute it at one input. -/
def rdataTellsWrong : ChangeSpec := { name := "rdataTells", fn := fun _ => fun
  | [d1, d2] => { results := [.lit (.bool false)], args := [d1, d2] }
  | _ => none }
def RdataTellsWrongFalsely : Prop := rdataTellsRow.holds Try.pinned (OpenSpec.ofChange rdataTellsWrong)

/-- 'beadrolllaw10.RdataWrites': WHATEVER THE INPUT: true; the input reads as it did. -/
def rdataWritesSpec : ChangeSpec := { name := "rdataWrites", fn := fun _ => fun
  | [d] => { results := [.lit (.bool true)], args := [d] }
  | _ => none }
def rdataWritesRow : OpenClaim := { program := "ytgnfleldkjhgcaa", sum := "ae1f887548720f752d98314d7103976b3ccb94c8416815980cb498a8bd311596", func := "beadroll/beadrolllaw10.RdataWrites", spec := "rdataWrites", inPlace := ["internal/abi.NoEscape"], unfollowed := true, recurses := true, apart := false }
def RdataWritesSaid : Prop := rdataWritesRow.holds Try.pinned (OpenSpec.ofChange rdataWritesSpec)

/-- ITS FALSE NEIGHBOUR: 'it returns false'. Refute it at one input. -/
def rdataWritesWrong : ChangeSpec := { name := "rdataWrites", fn := fun _ => fun
  | [d] => { results := [.lit (.bool false)], args := [d] }
  | _ => none }
def RdataWritesWrongFalsely : Prop := rdataWritesRow.holds Try.pinned (OpenSpec.ofChange rdataWritesWrong)

/-- 'beadrolllaw10.RdataSoa': WHATEVER THE INPUT: true; the input reads as it did. -/
def rdataSoaSpec : ChangeSpec := { name := "rdataSoa", fn := fun _ => fun
  | [d1, d2] => { results := [.lit (.bool true)], args := [d1, d2] }
  | _ => none }
def rdataSoaRow : OpenClaim := { program := "ytgnfleldkjhgcaa", sum := "ae1f887548720f752d98314d7103976b3ccb94c8416815980cb498a8bd311596", func := "beadroll/beadrolllaw10.RdataSoa", spec := "rdataSoa", inPlace := ["internal/abi.NoEscape"], unfollowed := true, recurses := true, apart := false }
def RdataSoaSaid : Prop := rdataSoaRow.holds Try.pinned (OpenSpec.ofChange rdataSoaSpec)

/-- ITS FALSE NEIGHBOUR: 'it returns false'. Refute it at one input. -/
def rdataSoaWrong : ChangeSpec := { name := "rdataSoa", fn := fun _ => fun
  | [d1, d2] => { results := [.lit (.bool false)], args := [d1, d2] }
  | _ => none }
def RdataSoaWrongFalsely : Prop := rdataSoaRow.holds Try.pinned (OpenSpec.ofChange rdataSoaWrong)

/-- 'beadrolllaw10.RdataFolds': WHATEVER THE INPUT: true; the input reads as it did. -/
def rdataFoldsSpec : ChangeSpec := { name := "rdataFolds", fn := fun _ => fun
  | [d1, d2] => { results := [.lit (.bool true)], args := [d1, d2] }
  | _ => none }
def rdataFoldsRow : OpenClaim := { program := "ytgnfleldkjhgcaa", sum := "ae1f887548720f752d98314d7103976b3ccb94c8416815980cb498a8bd311596", func := "beadroll/beadrolllaw10.RdataFolds", spec := "rdataFolds", inPlace := ["internal/abi.NoEscape"], unfollowed := true, recurses := true, apart := false }
def RdataFoldsSaid : Prop := rdataFoldsRow.holds Try.pinned (OpenSpec.ofChange rdataFoldsSpec)

/-- ITS FALSE NEIGHBOUR: 'it returns false'. Refute it at one input. -/
def rdataFoldsWrong : ChangeSpec := { name := "rdataFolds", fn := fun _ => fun
  | [d1, d2] => { results := [.lit (.bool false)], args := [d1, d2] }
  | _ => none }
def RdataFoldsWrongFalsely : Prop := rdataFoldsRow.holds Try.pinned (OpenSpec.ofChange rdataFoldsWrong)

/- THE SECOND FORM. 'bulk': how many values and letters a reading holds, each counted each time it is reached (what is shared counts as often as it is met; a slice's spare places count too). A statement '..UptoSaid' is the law's where the arguments, and the package variables that the reading takes, are together of bulk at most 1048576: NARROWER than '..Said'. Prove '..Said' where nothing that the law and all that it calls make is longer than what came in: it says more and counts as full. Else prove '..UptoSaid'. A law counts once. -/
mutual
def uptoBulk {H : Type} : DataW H → Nat
  | .lit (.string bytes) => bytes.length + 1
  | .lit _ => 1
  | .nil => 1
  | .ptr d => uptoBulk d + 1
  | .slice elems spare => uptoBulkAll elems + uptoBulkAll spare + 1
  | .agg parts => uptoBulkAll parts + 1
  | .iface _ d => uptoBulk d + 1
  | .map entries => uptoBulkEntries entries + 1
  | .held _ => 1
def uptoBulkAll {H : Type} : List (DataW H) → Nat
  | [] => 0
  | d :: r => uptoBulk d + uptoBulkAll r
def uptoBulkEntries {H : Type} : List (Lit × DataW H) → Nat
  | [] => 0
  | x :: r => uptoBulkEntry x + uptoBulkEntries r
def uptoBulkEntry {H : Type} : Lit × DataW H → Nat
  | (.string bytes, d) => bytes.length + uptoBulk d + 1
  | (_, d) => uptoBulk d + 1
 end
def uptoSmall : (H : Type) → List (DataW H) → Bool := fun _ ds => decide (uptoBulkAll ds ≤ 1048576)
def OpenSpec.upto (s : _root_.Go.ChangeSpec) : _root_.Go.OpenSpec := { _root_.Go.OpenSpec.ofChange s with cond := some uptoSmall }

/-- 'beadrolllaw10.RdataTells', WHERE WHAT IT READS IS OF BULK AT MOST 1048576: true; the input reads as it did. -/
def rdataTellsUptoRow : OpenClaim := { program := "ytgnfleldkjhgcaa", sum := "ae1f887548720f752d98314d7103976b3ccb94c8416815980cb498a8bd311596", func := "beadroll/beadrolllaw10.RdataTells", spec := "rdataTells", inPlace := ["internal/abi.NoEscape"], unfollowed := true, recurses := true, apart := false, narrowed := true }
def RdataTellsUptoSaid : Prop := rdataTellsUptoRow.holds Try.pinned (OpenSpec.upto rdataTellsSpec)

/-- 'beadrolllaw10.RdataWrites', WHERE WHAT IT READS IS OF BULK AT MOST 1048576: true; the input reads as it did. -/
def rdataWritesUptoRow : OpenClaim := { program := "ytgnfleldkjhgcaa", sum := "ae1f887548720f752d98314d7103976b3ccb94c8416815980cb498a8bd311596", func := "beadroll/beadrolllaw10.RdataWrites", spec := "rdataWrites", inPlace := ["internal/abi.NoEscape"], unfollowed := true, recurses := true, apart := false, narrowed := true }
def RdataWritesUptoSaid : Prop := rdataWritesUptoRow.holds Try.pinned (OpenSpec.upto rdataWritesSpec)

/-- 'beadrolllaw10.RdataSoa', WHERE WHAT IT READS IS OF BULK AT MOST 1048576: true; the input reads as it did. -/
def rdataSoaUptoRow : OpenClaim := { program := "ytgnfleldkjhgcaa", sum := "ae1f887548720f752d98314d7103976b3ccb94c8416815980cb498a8bd311596", func := "beadroll/beadrolllaw10.RdataSoa", spec := "rdataSoa", inPlace := ["internal/abi.NoEscape"], unfollowed := true, recurses := true, apart := false, narrowed := true }
def RdataSoaUptoSaid : Prop := rdataSoaUptoRow.holds Try.pinned (OpenSpec.upto rdataSoaSpec)

/-- 'beadrolllaw10.RdataFolds', WHERE WHAT IT READS IS OF BULK AT MOST 1048576: true; the input reads as it did. -/
def rdataFoldsUptoRow : OpenClaim := { program := "ytgnfleldkjhgcaa", sum := "ae1f887548720f752d98314d7103976b3ccb94c8416815980cb498a8bd311596", func := "beadroll/beadrolllaw10.RdataFolds", spec := "rdataFolds", inPlace := ["internal/abi.NoEscape"], unfollowed := true, recurses := true, apart := false, narrowed := true }
def RdataFoldsUptoSaid : Prop := rdataFoldsUptoRow.holds Try.pinned (OpenSpec.upto rdataFoldsSpec)

end Rows
end Go.Proofs.Ytgnfleldkjhgcaa
