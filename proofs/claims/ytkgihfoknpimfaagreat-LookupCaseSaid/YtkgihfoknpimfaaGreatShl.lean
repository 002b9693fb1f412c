/- No contract of the library is wanted in this seat. No statement of the seat is proved here. -/
import Derived.Shelf.LaySoft
import Derived.Test.YtkgihfoknpimfaaGreatProg
namespace Go.Proofs.YtkgihfoknpimfaaGreat
end Go.Proofs.YtkgihfoknpimfaaGreat
