/- The law OctetsPieces, walked: whatever the bytes and the width, it returns true and writes nothing that was there. -/
import Derived.Test.YtjdiajnhndelhaaOctF
import Derived.Test.YtjdiajnhndelhaaOctK
namespace Go.Proofs.Ytjdiajnhndelhaa
open Go.RowKit

set_option maxHeartbeats 1000000 in
theorem OctetsPieces_walk (s : ByteArray) (n : Int) (w : World) (_hs : s.size ≤ maxLen) (_hn : (Lit.int .i64 n).wf = true) :
    Calls Try.prog 6 #[.string s, .int .i64 n] w fun e w' => e = .returned (.bool true) ∧ Below w.heap.size w w' := by
  by_cases h1 : 70000 < s.size
  · have g1 : (70000 : Int) < (s.size : Int) := by omega
    go_enter Try.func6, Try.ntmps6
    go_wp2_with fail
    refine (awake_any _).mono ?_
    rintro e w1 ⟨rfl, hB1⟩
    go_wp2_with fail
    refine (awake_any _).mono ?_
    rintro e w2 ⟨rfl, hB2⟩
    go_wp2_with fail
    go_ret
    exact ⟨rfl, hB1.trans (hB2.mono hB1.size)⟩
  have g1 : ¬ (70000 : Int) < (s.size : Int) := by omega
  go_enter Try.func6, Try.ntmps6
  go_wp2_with fail
  refine (awake_any _).mono ?_
  rintro e w1 ⟨rfl, hB1⟩
  go_wp2_with fail
  refine (Piece_any s n _ (by omega)).mono ?_
  rintro e w2 ⟨rfl, hB2⟩
  go_wp2_with fail
  refine (RefPiece_any s n _ (by omega)).mono ?_
  rintro e w3 ⟨rfl, hB3⟩
  have hBB := hB1.trans ((hB2.mono hB1.size).trans (hB3.mono (Nat.le_trans hB1.size hB2.size)))
  generalize pieceR s n = R at *
  obtain ⟨p, code⟩ := R
  go_wp2_with fail
  go_ret
  exact ⟨rfl, hBB⟩
end Go.Proofs.Ytjdiajnhndelhaa
