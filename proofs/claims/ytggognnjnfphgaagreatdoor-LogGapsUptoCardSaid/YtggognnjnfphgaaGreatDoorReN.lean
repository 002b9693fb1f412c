/- ReN: texts RecN of our own, joined. No statement of the seat is proved here. -/
import Derived.Test.YtggognnjnfphgaaGreatDoorReE
import Derived.Test.YtggognnjnfphgaaGreatDoorRdK
import Derived.Test.YtggognnjnfphgaaGreatDoorReI
import Derived.Deep.RegionWith
namespace Go.Proofs.YtggognnjnfphgaaGreatDoor
open Go.RowKit

section
variable {w W W' : World} {l l' : List UInt8} {K K' : Kn} {cs : Array Value} {A A' : Option Addr} {n c n' c' : Nat}
end

end Go.Proofs.YtggognnjnfphgaaGreatDoor
