/- RdR: texts RdaR, RdaT of our own, joined. No statement of the seat is proved here. -/
import Derived.Test.YtaijcoiepfjecaaGreatRdQ
import Derived.Test.YtaijcoiepfjecaaGreatRdG
namespace Go.Proofs.YtaijcoiepfjecaaGreat
open Go.RowKit

theorem u32_row : (Tryz.prog.info? 49).map (fun i => (i.zero, i.size, i.bytes)) = some (some (.int .u32 0), 1, 4) := by kernel_rfl
def numsV (q : List (List UInt8)) (k : Nat) : List Value := ints .u32 (natsV ((q.map num).take k))

/-! ### Data -/
end Go.Proofs.YtaijcoiepfjecaaGreat
namespace Go.Proofs.YtaijcoiepfjecaaGreat
open Go.RowKit

end Go.Proofs.YtaijcoiepfjecaaGreat
