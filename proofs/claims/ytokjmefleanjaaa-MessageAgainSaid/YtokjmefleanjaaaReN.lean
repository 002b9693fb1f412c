/- ReN: texts RecN of our own, joined. No statement of the seat is proved here. -/
import Derived.Test.YtokjmefleanjaaaReE
import Derived.Test.YtokjmefleanjaaaRdK
import Derived.Test.YtokjmefleanjaaaReI
import Derived.Deep.RegionWith
namespace Go.Proofs.Ytokjmefleanjaaa
open Go.RowKit

section
variable {w W W' : World} {l l' : List UInt8} {K K' : Kn} {cs : Array Value} {A A' : Option Addr} {n c n' c' : Nat}
end

end Go.Proofs.Ytokjmefleanjaaa
