/- The reference of layer 1: each of its functions returns what the plain mathematics says. -/
import Derived.Test.YtimakddeokgfcaaOctA
import Derived.Test.YtimakddeokgfcaaOctMath
import Derived.Lib.EndianBits
import Derived.Laws.IdiomStrings
namespace Go.Proofs.Ytimakddeokgfcaa
open Go.RowKit

theorem up8 (v c : Nat) (hv : v < 256 ^ 7) (hc : c < 256) : IntKind.u64.wrap (IntKind.u64.wrap ((v : Int) * 256) + IntKind.u64.wrap (c : Int)) = (v : Int) * 256 + c := by
  have e1 : IntKind.u64.wrap ((v : Int) * 256) = (v : Int) * 256 := wraps_u64 _ (by omega) (by omega)
  have e2 : IntKind.u64.wrap (c : Int) = c := wraps_u64 _ (by omega) (by omega)
  rw [e1, e2]
  exact wraps_u64 _ (by omega) (by omega)

theorem wrap_div (q : Nat) (h : q < 2 ^ 64) : IntKind.u64.wrap ((q : Int) / 256) = ((q / 256 : Nat) : Int) := by
  rw [wraps_u64 _ (by omega) (by omega)]
  omega

theorem one_byte (q : Nat) (W : World) :
    (convert 44 9 (.slice (some ⟨W.heap.size, 0, none⟩) 1 1)).run Try.prog (W.alloc (.cells #[.int .u8 ((q : Int) % 256)] 5)) =
      .ok (.string ⟨#[UInt8.ofNat q]⟩) (W.alloc (.cells #[.int .u8 ((q : Int) % 256)] 5)) := by
  refine run_convert_bytes_back _ _ _ 5 ⟨W.heap.size, 0, none⟩ 1 [UInt8.ofNat q] Try.underlying44 Try.underlying5 Try.underlying9 (fun j hj => ?_)
  have hj0 : j = 0 := by simpa using hj
  subst hj0
  rw [show (⟨W.heap.size, 0, none⟩ : Addr).add 0 = ⟨W.heap.size, 0, none⟩ from rfl, (Whole.new W 5 #[_]).cell1]
  simp only [List.getElem_cons_zero, UInt8.toNat_ofNat']
  congr 2

def RefAt (s : ByteArray) (ws : List Int) (w : World) (k : Nat) (t : ByteArray) (v : Value) (wr : World) : Prop :=
  ∃ acc, Done s ws acc t (ws.drop k) ∧ acc.length = k ∧ t.size ≤ s.size ∧ wr.ownsRow w.heap.size 76 1 v acc.length (ints .u64 acc) ∧ Below w.heap.size w wr

end Go.Proofs.Ytimakddeokgfcaa
