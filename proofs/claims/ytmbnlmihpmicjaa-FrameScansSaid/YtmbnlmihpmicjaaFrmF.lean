/- The law FrameScans, walked: whatever the bytes, it returns true and writes nothing that was there. -/
import Derived.Test.YtmbnlmihpmicjaaFrmE
namespace Go.Proofs.Ytmbnlmihpmicjaa
open Go.RowKit

set_option maxHeartbeats 1000000 in
theorem FrameScans_walk (s : ByteArray) (w : World) (_hs : s.size ≤ maxLen) :
    Calls Try.prog 4 #[.string s] w fun e w' => e = .returned (.bool true) ∧ Below w.heap.size w w' := by
  by_cases h1 : 2000 < s.size
  · have g1 : (2000 : Int) < (s.size : Int) := by omega
    go_enter Try.func4, Try.ntmps4
    go_wp2_with fail
    refine (awake_any _).mono ?_
    rintro e w1 ⟨rfl, hB1⟩
    go_wp2_with fail
    refine (awake_any _).mono ?_
    rintro e w2 ⟨rfl, hB2⟩
    go_wp2_with fail
    go_ret
    exact ⟨rfl, hB1.trans (hB2.mono hB1.size)⟩
  have g1 : ¬ (2000 : Int) < (s.size : Int) := by omega
  obtain ⟨l, hx⟩ := mk_of s
  have hxl : l.length = s.size := by rw [hx, mk_size]
  have hll : l.length ≤ 1073741824 := by omega
  have HX := Lib.hid hx
  have HLL := Lib.hid hll
  obtain ⟨t, k, c, hf⟩ : ∃ t k c, firstL l = (t, k, c) := ⟨_, _, _, rfl⟩
  obtain ⟨T, hT⟩ : ∃ T, T = mk t := ⟨_, rfl⟩
  obtain ⟨ls, at', hsc⟩ : ∃ ls a, scanL l = (ls, a) := ⟨_, _, rfl⟩
  have hlen : 8 * ls.length ≤ l.length := by have := (scanL_len l).1; rwa [hsc] at this
  have hlen2 : ls.length ≤ 1073741824 := by omega
  have HF := Lib.hid hf
  have HT := Lib.hid hT
  have HSC := Lib.hid hsc
  have HLEN := Lib.hid hlen2
  obtain ⟨m, hm⟩ : ∃ m, m = ls.length := ⟨_, rfl⟩
  have HM := Lib.hid hm
  clear hx hxl hll hf hT hsc hlen hlen2 hm
  go_enter Try.func4, Try.ntmps4
  go_wp2_with fail
  refine (awake_any _).mono ?_
  rintro e w1 ⟨rfl, hB1⟩
  go_wp2_with fail
  refine (First_at s l _ HX.out HLL.out).mono ?_
  unfold FirstSays
  rw [HF.out, ← HT.out]
  rintro e w2 ⟨rfl, hB2⟩
  have hBB2 := hB1.trans (hB2.mono hB1.size)
  go_wp2_with fail
  refine (RefFirst_any s l _ HX.out HLL.out).mono ?_
  unfold RefFirstSays
  rw [HF.out, ← HT.out]
  rintro e w3 ⟨rfl, hB3⟩
  have hBB3 := hBB2.trans (hB3.mono hBB2.size)
  go_wp2_with fail
  refine (Scan_any s l _ HX.out HLL.out).mono ?_
  unfold ScanLeaves
  rw [HSC.out, ← HM.out]
  rintro e w4 ⟨A4, c4, rfl, hs4, hB4⟩
  have hBB4 := hBB3.trans (hB4.mono hBB3.size)
  have HS4 := Lib.hid hs4
  clear hs4
  go_wp2_with fail
  refine (RefScan_any s l _ HX.out HLL.out).mono ?_
  unfold ScanLeaves
  rw [HSC.out, ← HM.out]
  rintro e w5 ⟨A5, c5, rfl, hs5, hB5⟩
  have hBB5 := hBB4.trans (hB5.mono hBB4.size)
  have HS5 := Lib.hid hs5
  have HS4' := Lib.hid (HS4.out.below hB5)
  clear hs5 hB1 hB2 hB3 hB4 hB5 hBB2 hBB3 hBB4
  go_wp2_with fail
  refine (Texts_yes A4 A5 _ _ _ _ _ (ls.map mk) _ HS4'.out HS5.out (by rw [HM.out]; exact HLEN.out)).mono ?_
  rintro e w6 ⟨rfl, m6, rfl⟩
  go_wp2_with fail
  go_ret
  exact ⟨rfl, below_drewN hBB5 m6⟩
end Go.Proofs.Ytmbnlmihpmicjaa
