/-
  No cell of these rows narrows 'for every input' (looked for: loops, veiled, ifaces, maps, wideKeys, modest, calm, conditions, laid).
  DERIVED. THE GIVEN ROWS OF THIS SEAT. 3 by the template 'for every input the law returns true; each argument reads behind the call as it read before'; 0 by the template 'total and deterministic' (their statements: YtmpginmdaeclaaaGreatTotals.lean).
  GIVEN WITH THE SEED: the statements are not yours to turn. If you find one false, say at which input.
  Laid BY PROGRAM, IN A SANDBOX (cutbox-rows.mjs): the forced cells as the released guide's own fill.sh prints them over the translation e0fbd223b351f6d6… (all of the seat's roots in one cut). By AI agents, Wed Nov 11 2026. No macro, syntax, notation, axiom, sorry.
-/
import Derived.Test.YtmpginmdaeclaaaGreatChecked
import GoSem.Claim
import GoSem.ClaimJoined
import GoSem.ClaimMapViews
import Derived.JoinedTies
import Derived.KernelRfl
namespace Go.Proofs.YtmpginmdaeclaaaGreat
/- THE CELL 'sum', in the pinned program and in every row, IS THE sha256 OF THE DUMP (.gsa) THAT YtmpginmdaeclaaaGreatProg.lean LOADS. Nothing in Lean hashes anything: it is a label: what it is worth is what the hold of that sum in a sandbox is worth. -/
noncomputable def Tryz.pinned : Pinned := { name := "ytmpginmdaeclaaagreat", sum := "e0fbd223b351f6d699e45217ba0e31240567cfb79465908fb0b913b53ac66d7c", checked := Tryz.checked }
namespace Rows
def none {H : Type} : Left H := { results := [], args := [] }

/-- 'beadrolllaw20.SnapSizes': WHATEVER THE INPUT: true; the input reads as it did. -/
def snapSizesSpec : ChangeSpec := { name := "snapSizes", fn := fun _ => fun
  | [d1, d2] => { results := [.lit (.bool true)], args := [d1, d2] }
  | _ => none }
def snapSizesRow : OpenClaim := { program := "ytmpginmdaeclaaagreat", sum := "e0fbd223b351f6d699e45217ba0e31240567cfb79465908fb0b913b53ac66d7c", func := "beadroll/beadrolllaw20.SnapSizes", spec := "snapSizes", inPlace := ["internal/abi.NoEscape", "internal/bytealg.abigen_runtime_cmpstring", "maps.clone"], unfollowed := true, recurses := true, apart := false }
def SnapSizesSaid : Prop := snapSizesRow.holds Tryz.pinned (OpenSpec.ofChange snapSizesSpec)

/-- ITS FALSE NEIGHBOUR: 'it returns false'. Refute it at one input. -/
def snapSizesWrong : ChangeSpec := { name := "snapSizes", fn := fun _ => fun
  | [d1, d2] => { results := [.lit (.bool false)], args := [d1, d2] }
  | _ => none }
def SnapSizesWrongFalsely : Prop := snapSizesRow.holds Tryz.pinned (OpenSpec.ofChange snapSizesWrong)

/-- 'beadrolllaw20.SnapKeeps': WHATEVER THE INPUT: true; the input reads as it did. -/
def snapKeepsSpec : ChangeSpec := { name := "snapKeeps", fn := fun _ => fun
  | [d] => { results := [.lit (.bool true)], args := [d] }
  | _ => none }
def snapKeepsRow : OpenClaim := { program := "ytmpginmdaeclaaagreat", sum := "e0fbd223b351f6d699e45217ba0e31240567cfb79465908fb0b913b53ac66d7c", func := "beadroll/beadrolllaw20.SnapKeeps", spec := "snapKeeps", inPlace := ["internal/abi.NoEscape", "internal/bytealg.abigen_runtime_cmpstring", "maps.clone"], unfollowed := true, recurses := true, apart := false }
def SnapKeepsSaid : Prop := snapKeepsRow.holds Tryz.pinned (OpenSpec.ofChange snapKeepsSpec)

/-- ITS FALSE NEIGHBOUR: 'it returns false'. Refute it at one input. -/
def snapKeepsWrong : ChangeSpec := { name := "snapKeeps", fn := fun _ => fun
  | [d] => { results := [.lit (.bool false)], args := [d] }
  | _ => none }
def SnapKeepsWrongFalsely : Prop := snapKeepsRow.holds Tryz.pinned (OpenSpec.ofChange snapKeepsWrong)

/-- 'beadrolllaw20.SnapSpoils': WHATEVER THE INPUT: true; the input reads as it did. -/
def snapSpoilsSpec : ChangeSpec := { name := "snapSpoils", fn := fun _ => fun
  | [d1, d2, d3] => { results := [.lit (.bool true)], args := [d1, d2, d3] }
  | _ => none }
def snapSpoilsRow : OpenClaim := { program := "ytmpginmdaeclaaagreat", sum := "e0fbd223b351f6d699e45217ba0e31240567cfb79465908fb0b913b53ac66d7c", func := "beadroll/beadrolllaw20.SnapSpoils", spec := "snapSpoils", inPlace := ["internal/abi.NoEscape", "internal/bytealg.abigen_runtime_cmpstring", "maps.clone"], unfollowed := true, recurses := true, apart := false }
def SnapSpoilsSaid : Prop := snapSpoilsRow.holds Tryz.pinned (OpenSpec.ofChange snapSpoilsSpec)

/-- ITS FALSE NEIGHBOUR: 'it returns false'. Refute it at one input. -/
def snapSpoilsWrong : ChangeSpec := { name := "snapSpoils", fn := fun _ => fun
  | [d1, d2, d3] => { results := [.lit (.bool false)], args := [d1, d2, d3] }
  | _ => none }
def SnapSpoilsWrongFalsely : Prop := snapSpoilsRow.holds Tryz.pinned (OpenSpec.ofChange snapSpoilsWrong)

/- THE SECOND FORM. 'bulk': how many values and letters a reading holds, each counted each time it is reached (what is shared counts as often as it is met; a slice's spare places count too). A statement '..UptoSaid' is the law's where the arguments, and the package variables that the reading takes, are together of bulk at most 1048576: NARROWER than '..Said'. Prove '..Said' where nothing that the law and all that it calls make is longer than what came in: it says more and counts as full. Else prove '..UptoSaid'. A law counts once. -/
mutual
def uptoBulk {H : Type} : DataW H → Nat
  | .lit (.string bytes) => bytes.length + 1
  | .lit _ => 1
  | .nil => 1
  | .ptr d => uptoBulk d + 1
  | .slice elems spare => uptoBulkAll elems + uptoBulkAll spare + 1
  | .agg parts => uptoBulkAll parts + 1
  | .iface _ d => uptoBulk d + 1
  | .map entries => uptoBulkEntries entries + 1
  | .held _ => 1
def uptoBulkAll {H : Type} : List (DataW H) → Nat
  | [] => 0
  | d :: r => uptoBulk d + uptoBulkAll r
def uptoBulkEntries {H : Type} : List (Lit × DataW H) → Nat
  | [] => 0
  | x :: r => uptoBulkEntry x + uptoBulkEntries r
def uptoBulkEntry {H : Type} : Lit × DataW H → Nat
  | (.string bytes, d) => bytes.length + uptoBulk d + 1
  | (_, d) => uptoBulk d + 1
 end
def uptoSmall : (H : Type) → List (DataW H) → Bool := fun _ ds => decide (uptoBulkAll ds ≤ 1048576)
def OpenSpec.upto (s : _root_.Go.ChangeSpec) : _root_.Go.OpenSpec := { _root_.Go.OpenSpec.ofChange s with cond := some uptoSmall }

/-- 'beadrolllaw20.SnapSizes', WHERE WHAT IT READS IS OF BULK AT MOST 1048576: true; the input reads as it did. -/
def snapSizesUptoRow : OpenClaim := { program := "ytmpginmdaeclaaagreat", sum := "e0fbd223b351f6d699e45217ba0e31240567cfb79465908fb0b913b53ac66d7c", func := "beadroll/beadrolllaw20.SnapSizes", spec := "snapSizes", inPlace := ["internal/abi.NoEscape", "internal/bytealg.abigen_runtime_cmpstring", "maps.clone"], unfollowed := true, recurses := true, apart := false, narrowed := true }
def SnapSizesUptoSaid : Prop := snapSizesUptoRow.holds Tryz.pinned (OpenSpec.upto snapSizesSpec)

/-- 'beadrolllaw20.SnapKeeps', WHERE WHAT IT READS IS OF BULK AT MOST 1048576: true; the input reads as it did. -/
def snapKeepsUptoRow : OpenClaim := { program := "ytmpginmdaeclaaagreat", sum := "e0fbd223b351f6d699e45217ba0e31240567cfb79465908fb0b913b53ac66d7c", func := "beadroll/beadrolllaw20.SnapKeeps", spec := "snapKeeps", inPlace := ["internal/abi.NoEscape", "internal/bytealg.abigen_runtime_cmpstring", "maps.clone"], unfollowed := true, recurses := true, apart := false, narrowed := true }
def SnapKeepsUptoSaid : Prop := snapKeepsUptoRow.holds Tryz.pinned (OpenSpec.upto snapKeepsSpec)

/-- 'beadrolllaw20.SnapSpoils', WHERE WHAT IT READS IS OF BULK AT MOST 1048576: true; the input reads as it did. -/
def snapSpoilsUptoRow : OpenClaim := { program := "ytmpginmdaeclaaagreat", sum := "e0fbd223b351f6d699e45217ba0e31240567cfb79465908fb0b913b53ac66d7c", func := "beadroll/beadrolllaw20.SnapSpoils", spec := "snapSpoils", inPlace := ["internal/abi.NoEscape", "internal/bytealg.abigen_runtime_cmpstring", "maps.clone"], unfollowed := true, recurses := true, apart := false, narrowed := true }
def SnapSpoilsUptoSaid : Prop := snapSpoilsUptoRow.holds Tryz.pinned (OpenSpec.upto snapSpoilsSpec)

end Rows
end Go.Proofs.YtmpginmdaeclaaaGreat
