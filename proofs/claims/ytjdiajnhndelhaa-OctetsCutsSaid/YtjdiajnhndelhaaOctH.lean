/- The law OctetsCuts, walked: whatever the bytes and the width, it returns true and writes nothing that was there. -/
import Derived.Test.YtjdiajnhndelhaaOctF
import Derived.Test.YtjdiajnhndelhaaOctG
namespace Go.Proofs.Ytjdiajnhndelhaa
open Go.RowKit

set_option maxHeartbeats 1000000 in
theorem OctetsCuts_walk (s : ByteArray) (n : Int) (w : World) (_hs : s.size ≤ maxLen) (_hn : (Lit.int .i64 n).wf = true) :
    Calls Try.prog 5 #[.string s, .int .i64 n] w fun e w' => e = .returned (.bool true) ∧ Below w.heap.size w w' := by
  by_cases h1 : 400 < s.size
  · have g1 : (400 : Int) < (s.size : Int) := by omega
    go_enter Try.func5, Try.ntmps5
    go_wp2_with fail
    refine (awake_any _).mono ?_
    rintro e w1 ⟨rfl, hB1⟩
    go_wp2_with fail
    refine (awake_any _).mono ?_
    rintro e w2 ⟨rfl, hB2⟩
    go_wp2_with fail
    go_ret
    exact ⟨rfl, hB1.trans (hB2.mono hB1.size)⟩
  have g1 : ¬ (400 : Int) < (s.size : Int) := by omega
  have hp : (piecesR s n).1.length ≤ 1073741824 := Nat.le_trans (piecesR_len s n) (by omega)
  go_enter Try.func5, Try.ntmps5
  go_wp2_with fail
  refine (awake_any _).mono ?_
  rintro e w1 ⟨rfl, hB1⟩
  go_wp2_with fail
  refine (Cut_any s n _ (by omega)).mono ?_
  rintro e w2 ⟨rfl, hB2⟩
  go_wp2_with fail
  refine (RefCut_any s n _ (by omega)).mono ?_
  rintro e w3 ⟨rfl, m3, rfl⟩
  go_wp2_with fail
  refine (Pieces_any s n _ (by omega)).mono ?_
  rintro e w4 ⟨A4, c4, rfl, hs4, hB4⟩
  go_wp2_with fail
  refine (RefPieces_any s n _ (by omega)).mono ?_
  rintro e w5 ⟨A5, c5, rfl, hs5, hB5⟩
  have k4 := hs4.below hB5
  have hBB := hB1.trans ((below_drewN (hB2.mono hB1.size) m3).trans ((hB4.mono (Nat.le_trans hB1.size hB2.size)).trans (hB5.mono (Nat.le_trans (Nat.le_trans hB1.size hB2.size) hB4.size))))
  have HBB := Lib.hid hBB
  clear hB1 hB2 hB4 hB5 hs4
  generalize piecesR s n = R at *
  generalize cutR s n = C at *
  obtain ⟨vs, code⟩ := R
  obtain ⟨p, r, c⟩ := C
  go_wp2_with fail
  refine (Texts_yes A4 A5 _ _ _ _ _ vs _ k4 hs5 hp).mono ?_
  rintro e w6 ⟨rfl, m, rfl⟩
  go_wp2_with fail
  go_ret
  exact ⟨rfl, below_drewN HBB.out m⟩
end Go.Proofs.Ytjdiajnhndelhaa
