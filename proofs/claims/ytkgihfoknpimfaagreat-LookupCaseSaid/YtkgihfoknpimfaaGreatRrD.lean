/- RrD: texts RrsD of our own, joined. No statement of the seat is proved here. -/
import Derived.Test.YtkgihfoknpimfaaGreatRrA
namespace Go.Proofs.YtkgihfoknpimfaaGreat
open Go.RowKit Go.Op

theorem box_five (w : World) (r : Rrd) : Five (w.alloc (.cells #[.string r.s, .int .i64 r.t, .int .i64 r.c, .int .i64 r.l, .string r.d] 26)) w.heap.size 0 r :=
  rr_facts (Whole.new w rrT (rrA r.s r.d r.t r.c r.l))

end Go.Proofs.YtkgihfoknpimfaaGreat
