/- Words of our own that every law's step of this seat uses. No statement of the seat is proved here. -/
import Derived.Below
import Derived.Laws.Rows
import Derived.Lib.Hide
import Derived.ProofKit
import Derived.OpenShut
import Derived.ShutString
import Derived.ChangeOld
import Derived.WalkKit
import Derived.Test.YteeomlboifleoaaKit
import Derived.Test.YteeomlboifleoaaRows
namespace Go.Proofs.Yteeomlboifleoaa
open Go.ChangeShapes Go.WideShapes Go.ChangeAt Go.RowKit
theorem try_own : ownKnob Try.prog.godebug = none := by kernel_rfl
theorem try_laid : laidOutB Try.prog = true := by kernel_rfl
end Go.Proofs.Yteeomlboifleoaa
