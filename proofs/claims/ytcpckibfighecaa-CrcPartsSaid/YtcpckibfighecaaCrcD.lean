/- The laws CrcSums and CrcParts, walked: whatever the arguments, they return true and write nothing that was there. -/
import Derived.Test.YtcpckibfighecaaCrcC
import Derived.Laws.IdiomStrings
namespace Go.Proofs.Ytcpckibfighecaa
open Go.RowKit

theorem u32_nat {a : Int} (h : (Lit.int .u32 a).wf = true) : ∃ x : Nat, a = x ∧ x < 4294967296 := by
  have h' : IntKind.u32.min ≤ a ∧ a ≤ IntKind.u32.max := by simpa [Lit.wf] using h
  have e1 : IntKind.u32.min = 0 := by decide
  have e2 : IntKind.u32.max = 4294967295 := by decide
  exact ⟨a.toNat, by omega, by omega⟩

set_option maxHeartbeats 400000 in
theorem CrcSums_walk (s : ByteArray) (a : Int) (w : World) (_hs : s.size ≤ maxLen) (ha : (Lit.int .u32 a).wf = true) :
    Calls Try.prog 3 #[.string s, .int .u32 a] w fun e w' => e = .returned (.bool true) ∧ Below w.heap.size w w' := by
  obtain ⟨x, rfl, hx⟩ := u32_nat ha
  clear ha
  by_cases h1 : 2000 < s.size
  · have g1 : (2000 : Int) < (s.size : Int) := by omega
    go_enter Try.func3, Try.ntmps3
    go_wp2_with fail
    refine (awake_any _).mono ?_
    rintro e w1 ⟨rfl, hB1⟩
    go_wp2_with fail
    refine (awake_any _).mono ?_
    rintro e w2 ⟨rfl, hB2⟩
    go_wp2_with fail
    go_ret
    exact ⟨rfl, hB1.trans (hB2.mono hB1.size)⟩
  have g1 : ¬ (2000 : Int) < (s.size : Int) := by omega
  have hs : s.size ≤ 1073741824 := by omega
  go_enter Try.func3, Try.ntmps3
  go_wp2_with fail
  refine (awake_any _).mono ?_
  rintro e w1 ⟨rfl, hB1⟩
  go_wp2_with fail
  refine (Sum_any s _ hs).mono ?_
  rintro e w2 ⟨rfl, hB2⟩
  go_wp2_with fail
  refine (RefSum_any s _ hs).mono ?_
  rintro e w3 ⟨rfl, rfl⟩
  generalize sumOf s.data.toList = q
  go_wp2_with fail
  refine (More_any x s _ hx hs).mono ?_
  rintro e w4 ⟨rfl, hB4⟩
  go_wp2_with fail
  refine (RefMore_any x s _ hx hs).mono ?_
  rintro e w5 ⟨rfl, rfl⟩
  generalize moreOf x s.data.toList = q2
  go_wp2_with fail
  go_ret
  have hB := hB1.trans (hB2.mono hB1.size)
  exact ⟨rfl, hB.trans (hB4.mono hB.size)⟩

set_option maxHeartbeats 1000000 in
theorem CrcParts_walk (A : Option Addr) (n c : Nat) (zs : List ByteArray) (w : World) (h : InTexts w A n zs) :
    Calls Try.prog 4 #[.slice A n c] w fun e w' => e = .returned (.bool true) ∧ Below w.heap.size w w' := by
  by_cases h1 : 30 < n
  · have g1 : (30 : Int) < (n : Int) := by omega
    go_enter Try.func4, Try.ntmps4
    go_wp2_with fail
    refine (awake_any _).mono ?_
    rintro e w1 ⟨rfl, hB1⟩
    go_wp2_with fail
    refine (awake_any _).mono ?_
    rintro e w2 ⟨rfl, hB2⟩
    go_wp2_with fail
    go_ret
    exact ⟨rfl, hB1.trans (hB2.mono hB1.size)⟩
  have g1 : ¬ (30 : Int) < (n : Int) := by omega
  go_enter Try.func4, Try.ntmps4
  go_wp2_with fail
  refine (awake_any _).mono ?_
  rintro e w1 ⟨rfl, hB1⟩
  go_wp2_with fail
  refine (Sum_any _ _ (by decide)).mono ?_
  rintro e w2 ⟨rfl, hB2⟩
  have hB := hB1.trans (hB2.mono hB1.size)
  go_wp2_with fail
  go_loopw [3, 4, 5] (fun a v i wr => ∃ (k y : Nat) (S : ByteArray), k ≤ n ∧ i = .int .i64 k ∧ v = .int .u32 y ∧ a = .string S ∧ S.size ≤ 200 * k ∧ S.data.toList = flat (zs.take k) ∧ y = sumOf S.data.toList ∧ (∀ j, j < k → (zs.getD j ByteArray.empty).size ≤ 200) ∧ Below w.heap.size w wr) (fun _ _ i _ => n - (intOf i).toNat)
  case atStart => exact ⟨0, _, _, Nat.zero_le _, rfl, rfl, rfl, by decide, by simp [flat], rfl, by simp, hB⟩
  case round =>
    obtain ⟨k, y, S, hk, rfl, rfl, rfl, hS, hSl, hy, hall, hBr⟩ := hrel
    by_cases hlt : k < n
    · obtain ⟨b, off, rfl, hb, hc⟩ := string_at (h.below hBr) hlt
      have hi : (k : Int) < (n : Int) := by omega
      have hkz : k < zs.length := by have := h.len; simp [texts] at this; omega
      have hft := Lib.hid (flat_take zs k hkz)
      obtain ⟨s, hs⟩ : ∃ s, s = zs.getD k ByteArray.empty := ⟨_, rfl⟩
      rw [← hs] at hc
      replace hs := Lib.hid hs
      replace hSl := Lib.hid hSl
      replace hall := Lib.hid hall
      by_cases hbig : 200 < s.size
      · have g2 : (200 : Int) < (s.size : Int) := by omega
        go_wp2_with fail
        go_ret
        exact ⟨rfl, hBr⟩
      · have g2 : ¬ (200 : Int) < (s.size : Int) := by omega
        have hyl : y < 4294967296 := by rw [hy]; exact sumOf_lt _
        replace hy := Lib.hid hy
        go_wp2_with fail
        refine (More_any y s _ hyl (by omega)).mono ?_
        rintro e w4 ⟨rfl, hB4⟩
        go_wp2_with fail
        go_roundw
        case rel =>
          refine ⟨k + 1, _, S ++ s, by omega, by go_num, rfl, rfl, by rw [ByteArray.size_append]; omega, ?_, ?_, ?_, hBr.trans (hB4.mono hBr.size)⟩
          · rw [hft.out, ← hs.out, ← hSl.out]; simp
          · rw [hy.out, more_sum]; simp
          · intro j hj
            by_cases hjk : j < k
            · exact hall.out j hjk
            · obtain rfl : j = k := by omega
              rw [← hs.out]; omega
        case measure => simp [intOf]; omega
    · obtain rfl : k = n := by omega
      have hl : zs.length = k := by have := h.len; simpa [texts] using this
      have hz : ∀ j, (zs.getD j ByteArray.empty).size ≤ 1073741824 := by
        intro j
        by_cases hjk : j < k
        · exact Nat.le_trans (hall j hjk) (by decide)
        · rw [show zs.getD j ByteArray.empty = ByteArray.empty by simp [List.getD, show zs.length ≤ j by omega]]; decide
      have hflat : sumOf (flat zs) = y := by rw [hy, hSl, List.take_of_length_le (by omega)]
      replace hy := Lib.hid hy
      replace hz := Lib.hid hz
      clear hall hSl hl
      go_wp2_with fail
      refine (Parts_any A k c w.heap.size zs _ (h.below hBr) (by omega) hBr.size hz.out).mono ?_
      rw [hflat]
      rintro e w4 ⟨rfl, hB4⟩
      have hBB := hBr.trans (hB4.mono hBr.size)
      clear hflat
      go_wp2_with fail
      refine (Sum_any S _ (by omega)).mono ?_
      rw [← hy.out]
      rintro e w5 ⟨rfl, hB5⟩
      have hBB := hBB.trans (hB5.mono hBB.size)
      go_wp2_with fail
      refine (Sum_any S _ (by omega)).mono ?_
      rw [← hy.out]
      rintro e w6 ⟨rfl, hB6⟩
      have hBB := hBB.trans (hB6.mono hBB.size)
      go_wp2_with fail
      go_ret
      exact ⟨rfl, hBB⟩
end Go.Proofs.Ytcpckibfighecaa
