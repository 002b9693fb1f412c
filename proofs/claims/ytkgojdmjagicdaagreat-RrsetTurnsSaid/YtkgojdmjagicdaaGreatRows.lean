/-
  No cell of these rows narrows 'for every input' (looked for: loops, veiled, ifaces, maps, wideKeys, modest, calm, conditions, laid).
  DERIVED. THE GIVEN ROWS OF THIS SEAT. 2 by the template 'for every input the law returns true; each argument reads behind the call as it read before'; 0 by the template 'total and deterministic' (their statements: YtkgojdmjagicdaaGreatTotals.lean).
  GIVEN WITH THE SEED: the statements are not yours to turn. If you find one false, say at which input.
  Laid BY PROGRAM, IN A SANDBOX (cutbox-rows.mjs): the forced cells as the released guide's own fill.sh prints them over the translation 561d7a09e3429385… (all of the seat's roots in one cut). By AI agents, Wed Nov 11 2026. No macro, syntax, notation, axiom, sorry.
-/
import Derived.Test.YtkgojdmjagicdaaGreatChecked
import GoSem.Claim
import GoSem.ClaimJoined
import GoSem.ClaimMapViews
import Derived.JoinedTies
import Derived.KernelRfl
namespace Go.Proofs.YtkgojdmjagicdaaGreat
/- THE CELL 'sum', in the pinned program and in every row, IS THE sha256 OF THE DUMP (.gsa) THAT YtkgojdmjagicdaaGreatProg.lean LOADS. Nothing in Lean hashes anything: it is a label: what it is worth is what the hold of that sum in a sandbox is worth. -/
noncomputable def Tryz.pinned : Pinned := { name := "ytkgojdmjagicdaagreat", sum := "561d7a09e3429385cb42a4d83c3f19ddabd7bd3b6e28b766197cf5673baa72e5", checked := Tryz.checked }
namespace Rows
def none {H : Type} : Left H := { results := [], args := [] }

/-- 'beadrolllaw13.RrsetMakes': WHATEVER THE INPUT: true; the input reads as it did. -/
def rrsetMakesSpec : ChangeSpec := { name := "rrsetMakes", fn := fun _ => fun
  | [d1, d2] => { results := [.lit (.bool true)], args := [d1, d2] }
  | _ => none }
def rrsetMakesRow : OpenClaim := { program := "ytkgojdmjagicdaagreat", sum := "561d7a09e3429385cb42a4d83c3f19ddabd7bd3b6e28b766197cf5673baa72e5", func := "beadroll/beadrolllaw13.RrsetMakes", spec := "rrsetMakes", inPlace := ["internal/abi.NoEscape", "internal/bytealg.abigen_runtime_cmpstring"], unfollowed := true, recurses := true, apart := false }
def RrsetMakesSaid : Prop := rrsetMakesRow.holds Tryz.pinned (OpenSpec.ofChange rrsetMakesSpec)

/-- ITS FALSE NEIGHBOUR: 'it returns false'. Refute it at one input. -/
def rrsetMakesWrong : ChangeSpec := { name := "rrsetMakes", fn := fun _ => fun
  | [d1, d2] => { results := [.lit (.bool false)], args := [d1, d2] }
  | _ => none }
def RrsetMakesWrongFalsely : Prop := rrsetMakesRow.holds Tryz.pinned (OpenSpec.ofChange rrsetMakesWrong)

/-- 'beadrolllaw13.RrsetTurns': WHATEVER THE INPUT: true; the input reads as it did. -/
def rrsetTurnsSpec : ChangeSpec := { name := "rrsetTurns", fn := fun _ => fun
  | [d1, d2] => { results := [.lit (.bool true)], args := [d1, d2] }
  | _ => none }
def rrsetTurnsRow : OpenClaim := { program := "ytkgojdmjagicdaagreat", sum := "561d7a09e3429385cb42a4d83c3f19ddabd7bd3b6e28b766197cf5673baa72e5", func := "beadroll/beadrolllaw13.RrsetTurns", spec := "rrsetTurns", inPlace := ["internal/abi.NoEscape", "internal/bytealg.abigen_runtime_cmpstring"], unfollowed := true, recurses := true, apart := false }
def RrsetTurnsSaid : Prop := rrsetTurnsRow.holds Tryz.pinned (OpenSpec.ofChange rrsetTurnsSpec)

/-- ITS FALSE NEIGHBOUR: 'it returns false'. Refute it at one input. -/
def rrsetTurnsWrong : ChangeSpec := { name := "rrsetTurns", fn := fun _ => fun
  | [d1, d2] => { results := [.lit (.bool false)], args := [d1, d2] }
  | _ => none }
def RrsetTurnsWrongFalsely : Prop := rrsetTurnsRow.holds Tryz.pinned (OpenSpec.ofChange rrsetTurnsWrong)

/- THE SECOND FORM. 'bulk': how many values and letters a reading holds, each counted each time it is reached (what is shared counts as often as it is met; a slice's spare places count too). A statement '..UptoSaid' is the law's where the arguments, and the package variables that the reading takes, are together of bulk at most 1048576: NARROWER than '..Said'. Prove '..Said' where nothing that the law and all that it calls make is longer than what came in: it says more and counts as full. Else prove '..UptoSaid'. A law counts once. -/
mutual
def uptoBulk {H : Type} : DataW H → Nat
  | .lit (.string bytes) => bytes.length + 1
  | .lit _ => 1
  | .nil => 1
  | .ptr d => uptoBulk d + 1
  | .slice elems spare => uptoBulkAll elems + uptoBulkAll spare + 1
  | .agg parts => uptoBulkAll parts + 1
  | .iface _ d => uptoBulk d + 1
  | .map entries => uptoBulkEntries entries + 1
  | .held _ => 1
def uptoBulkAll {H : Type} : List (DataW H) → Nat
  | [] => 0
  | d :: r => uptoBulk d + uptoBulkAll r
def uptoBulkEntries {H : Type} : List (Lit × DataW H) → Nat
  | [] => 0
  | x :: r => uptoBulkEntry x + uptoBulkEntries r
def uptoBulkEntry {H : Type} : Lit × DataW H → Nat
  | (.string bytes, d) => bytes.length + uptoBulk d + 1
  | (_, d) => uptoBulk d + 1
 end
def uptoSmall : (H : Type) → List (DataW H) → Bool := fun _ ds => decide (uptoBulkAll ds ≤ 1048576)
def OpenSpec.upto (s : _root_.Go.ChangeSpec) : _root_.Go.OpenSpec := { _root_.Go.OpenSpec.ofChange s with cond := some uptoSmall }

/-- 'beadrolllaw13.RrsetMakes', WHERE WHAT IT READS IS OF BULK AT MOST 1048576: true; the input reads as it did. -/
def rrsetMakesUptoRow : OpenClaim := { program := "ytkgojdmjagicdaagreat", sum := "561d7a09e3429385cb42a4d83c3f19ddabd7bd3b6e28b766197cf5673baa72e5", func := "beadroll/beadrolllaw13.RrsetMakes", spec := "rrsetMakes", inPlace := ["internal/abi.NoEscape", "internal/bytealg.abigen_runtime_cmpstring"], unfollowed := true, recurses := true, apart := false, narrowed := true }
def RrsetMakesUptoSaid : Prop := rrsetMakesUptoRow.holds Tryz.pinned (OpenSpec.upto rrsetMakesSpec)

/-- 'beadrolllaw13.RrsetTurns', WHERE WHAT IT READS IS OF BULK AT MOST 1048576: true; the input reads as it did. -/
def rrsetTurnsUptoRow : OpenClaim := { program := "ytkgojdmjagicdaagreat", sum := "561d7a09e3429385cb42a4d83c3f19ddabd7bd3b6e28b766197cf5673baa72e5", func := "beadroll/beadrolllaw13.RrsetTurns", spec := "rrsetTurns", inPlace := ["internal/abi.NoEscape", "internal/bytealg.abigen_runtime_cmpstring"], unfollowed := true, recurses := true, apart := false, narrowed := true }
def RrsetTurnsUptoSaid : Prop := rrsetTurnsUptoRow.holds Tryz.pinned (OpenSpec.upto rrsetTurnsSpec)

end Rows
end Go.Proofs.YtkgojdmjagicdaaGreat
