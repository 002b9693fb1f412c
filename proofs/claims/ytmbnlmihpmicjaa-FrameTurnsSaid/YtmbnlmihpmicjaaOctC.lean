/- Cut: the deferred function turns the shortage's panic into the error; 'Cut' returns the first piece, or its error. -/
import Derived.Test.YtmbnlmihpmicjaaOctB
import Derived.Defers
import Derived.Recover
import Derived.RegionTactic
import Derived.ChangeAlike
namespace Go.Proofs.Ytmbnlmihpmicjaa
open Go.RowKit

theorem zero9 : (Array.replicate 9 undef : Array Value) = #[undef, undef, undef, undef, undef, undef, undef, undef, undef] := rfl
theorem is_short (w : World) : (Instr.typeAssert (.iface 55 (.agg #[])) 20 55 true).run Try.prog w = .ok (.tuple #[.agg #[], .bool true]) w := by kernel_rfl

theorem ret_str3 {a b a' b' : ByteArray} {k k' : Int} (h1 : a = a') (h2 : b = b') (h3 : k = k') :
    Ending.returned (.tuple #[.string a, .string b, .int .i64 k]) = .returned (.tuple #[.string a', .string b', .int .i64 k']) := by rw [h1, h2, h3]

end Go.Proofs.Ytmbnlmihpmicjaa
