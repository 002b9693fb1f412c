/- The law DottedLines, walked. -/
import Derived.Test.YtpfbieehdkonhaaDoorDotZ
namespace Go.Proofs.YtpfbieehdkonhaaDoor
open Go.RowKit

theorem mks_of : ∀ l : List ByteArray, ∃ xs : List (List UInt8), l = xs.map mk := by
  intro l
  induction l with
  | nil => exact ⟨[], rfl⟩
  | cons s l ih =>
    obtain ⟨xs, rfl⟩ := ih
    obtain ⟨x, rfl⟩ := mk_of s
    exact ⟨x :: xs, rfl⟩

set_option maxHeartbeats 2000000 in
theorem lines_in (A : Option Addr) (n c : Nat) (l : List (List UInt8)) (w : World) (hs : Sees w w.heap.size A n (textL l)) (hw : Wts w) :
    Calls Tryd.prog 5 #[.slice A n c] w fun e w' => e = .returned (.bool true) ∧ Below w.heap.size w w' := by
  have HS := Lib.hid hs
  have HW := Lib.hid hw
  have HL := Lib.hid (textL_len hs)
  clear hs hw
  by_cases hn : n ≤ 30
  · have g1 : ¬ (30 : Int) < (n : Int) := by omega
    have hn1 : n ≤ 9223372036854775807 := by omega
    go_enter Tryd.func5, Tryd.ntmps5
    go_wp2_with fail
    refine (awake_any _ HW.out).mono ?_
    rintro e w1 ⟨rfl, hB1⟩
    have HW1 := Lib.hid (HW.out.beyond hB1)
    have HB1 := Lib.hid hB1
    clear hB1
    go_wp2_with fail
    rw [show decide ((30 : Int) < (n : Int)) = false from decide_eq_false (by omega)]
    go_loopw [3] (fun j wr => ∃ i : Nat, j = .int .i64 (i : Nat) ∧ i ≤ n ∧ (∀ k (h : k < l.length), k < i → l[k].length ≤ 300) ∧ Below w.heap.size w wr) (fun j _ => n - (intOf j).toNat)
    case atStart => exact ⟨0, rfl, by omega, fun k _ h => by omega, HB1.out⟩
    case round =>
      obtain ⟨i, rfl, hi, hall, hB⟩ := hrel
      have HA := Lib.hid hall
      have HB := Lib.hid hB
      clear hall hB HB1 HW1
      by_cases hlt : i < n
      · have g2 : (i : Int) < (n : Int) := by omega
        have hil : i < l.length := by have := HL.out; omega
        obtain ⟨b, off, rfl, hbl, hc⟩ := textL_at (HS.out.below HB.out) hlt hil
        obtain ⟨X, hX⟩ : ∃ X, X = mk l[i] := ⟨_, rfl⟩
        rw [← hX] at hc
        have hz : X.size = l[i].length := by rw [hX, mk_size]
        clear hX
        by_cases h3 : X.size ≤ 300
        · have g3 : ¬ (300 : Int) < (X.size : Int) := by omega
          go_wp2_with fail
          go_roundw
          case rel =>
            refine ⟨i + 1, by go_num, by omega, fun k h h' => ?_, HB.out⟩
            by_cases hk : k = i
            · subst hk; omega
            · exact HA.out k h (by omega)
          case measure => simp [intOf]; omega
        · have g3 : (300 : Int) < (X.size : Int) := by omega
          go_wp2_with fail
          go_ret
          exact ⟨rfl, HB.out⟩
      · have g2 : ¬ (i : Int) < (n : Int) := by omega
        have hx : ∀ x ∈ l, x.length ≤ 1000 := by
          intro x hx
          obtain ⟨k, hk, rfl⟩ := List.mem_iff_getElem.1 hx
          have := HA.out k hk (by have := HL.out; omega)
          omega
        have HX := Lib.hid hx
        have HW1 := Lib.hid (HW.out.beyond HB.out)
        have HS1 := Lib.hid ((HS.out.below HB.out).more HB.out.size)
        clear hx
        go_wp2_with fail
        refine (Line_any A n c l _ HS1.out hn HX.out HW1.out).mono ?_
        rintro e w2 ⟨D1, hD1, hE1, rfl, hB2⟩
        have HB2 := Lib.hid (HB.out.trans (hB2.mono HB.out.size))
        have HS2 := Lib.hid ((HS.out.below HB2.out).more HB2.out.size)
        clear hB2
        obtain ⟨U, hU⟩ : ∃ U, U = mk (lineT D1) := ⟨_, rfl⟩
        rw [← hU]
        go_wp2_with fail
        refine (RefLine_any A n c l _ HS2.out hn).mono ?_
        rintro e w3 ⟨D2, hD2, hE2, rfl, hB3⟩
        obtain rfl : D1 = D2 := Srt.unique cK_ord hD1 hD2 (hE1.symm.trans hE2)
        rw [← hU]
        have HB3 := Lib.hid (HB2.out.trans (hB3.mono HB2.out.size))
        clear hB3 hU hD1 hD2 hE1 hE2
        go_wp2_with fail
        go_ret
        exact ⟨rfl, HB3.out⟩
  · have g1 : (30 : Int) < (n : Int) := by omega
    go_enter Tryd.func5, Tryd.ntmps5
    go_wp2_with fail
    refine (awake_any _ HW.out).mono ?_
    rintro e w1 ⟨rfl, hB1⟩
    have HW1 := Lib.hid (HW.out.beyond hB1)
    have HB1 := Lib.hid hB1
    clear hB1
    go_wp2_with fail
    refine (awake_any _ HW1.out).mono ?_
    rintro e w2 ⟨rfl, hB2⟩
    have GB2 := HB1.out.trans (hB2.mono HB1.out.size)
    go_wp2_with fail
    go_ret
    exact ⟨rfl, GB2⟩
theorem DottedLines_walk (A : Option Addr) (n c : Nat) (zs : List ByteArray) (w : World) (h : InTexts w A n c zs) (hw : Wts w) :
    Calls Tryd.prog 5 #[.slice A n c] w fun e w' => e = .returned (.bool true) ∧ Below w.heap.size w w' := by
  obtain ⟨xs, rfl⟩ := mks_of zs
  exact lines_in A n c xs w h.1 hw
end Go.Proofs.YtpfbieehdkonhaaDoor
