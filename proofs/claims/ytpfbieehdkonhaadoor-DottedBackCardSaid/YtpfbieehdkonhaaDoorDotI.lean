/- The laws DottedReads and DottedBack, walked. -/
import Derived.Test.YtpfbieehdkonhaaDoorDotH
namespace Go.Proofs.YtpfbieehdkonhaaDoor
open Go.RowKit

/-! ### DottedReads -/
theorem reads_far (S : ByteArray) (w : World) (hw : Wts w) (h : 1200 < S.size) :
    Calls Tryd.prog 4 #[.string S] w fun e w' => e = .returned (.bool true) ∧ Below w.heap.size w w' := by
  have g1 : (1200 : Int) < (S.size : Int) := by omega
  have HW := Lib.hid hw
  clear h hw
  go_enter Tryd.func4, Tryd.ntmps4
  go_wp2_with fail
  refine (awake_any _ HW.out).mono ?_
  rintro e w1 ⟨rfl, hB1⟩
  have HW1 := Lib.hid (HW.out.beyond hB1)
  go_wp2_with fail
  refine (awake_any _ HW1.out).mono ?_
  rintro e w2 ⟨rfl, hB2⟩
  go_wp2_with fail
  go_ret
  exact ⟨rfl, hB1.trans (hB2.mono hB1.size)⟩
theorem reads_near (S : ByteArray) (s : List UInt8) (w : World) (HS : Hid (S = mk s)) (hw : Wts w) (h : ¬ 1200 < S.size) :
    Calls Tryd.prog 4 #[.string S] w fun e w' => e = .returned (.bool true) ∧ Below w.heap.size w w' := by
  have g1 : ¬ (1200 : Int) < (S.size : Int) := by omega
  have hl : s.length ≤ 1200 := by have := congrArg ByteArray.size HS.out; rw [mk_size] at this; omega
  obtain ⟨O, hO⟩ : ∃ O, O = readN s := ⟨_, rfl⟩
  obtain ⟨O1, o⟩ := O
  obtain ⟨Z, hZ⟩ : ∃ Z, Z = mk O1 := ⟨_, rfl⟩
  have HO := Lib.hid hO
  have HZ := Lib.hid hZ
  have HW := Lib.hid hw
  clear h hw hO hZ
  go_enter Tryd.func4, Tryd.ntmps4
  go_wp2_with fail
  refine (awake_any _ HW.out).mono ?_
  rintro e w1 ⟨rfl, hB1⟩
  have HW1 := Lib.hid (HW.out.beyond hB1)
  go_wp2_with fail
  refine (Read_any S s _ HS.out (by omega) HW1.out).mono ?_
  rw [← HO.out]
  simp only
  rw [← HZ.out]
  rintro e w2 ⟨rfl, hB2⟩
  have GB2 := hB1.trans (hB2.mono hB1.size)
  go_wp2_with fail
  refine (RefRead_any S s _ HS.out hl).mono ?_
  rw [← HO.out]
  simp only
  rw [← HZ.out]
  rintro e w3 ⟨rfl, hB3⟩
  have GB3 := GB2.trans (hB3.mono GB2.size)
  go_wp2_with fail
  go_ret
  exact ⟨rfl, GB3⟩
theorem DottedReads_walk (S : ByteArray) (w : World) (_h : S.size ≤ maxLen) (hw : Wts w) :
    Calls Tryd.prog 4 #[.string S] w fun e w' => e = .returned (.bool true) ∧ Below w.heap.size w w' := by
  obtain ⟨s, hS⟩ := mk_of S
  by_cases h1 : 1200 < S.size
  · exact reads_far S w hw h1
  · exact reads_near S s w hS hw h1

/-! ### DottedBack -/
theorem back_out (S : ByteArray) (s : List UInt8) (w : World) (HS : Hid (S = mk s)) (hw : Wts w) (h : nameL s = none) :
    Calls Tryd.prog 6 #[.string S] w fun e w' => e = .returned (.bool true) ∧ Below w.heap.size w w' := by
  have HW := Lib.hid hw
  have HR := Lib.hid (show (nameL s).isSome = false by rw [h]; rfl)
  clear h hw
  go_enter Tryd.func6, Tryd.ntmps6
  go_wp2_with fail
  refine (awake_any _ HW.out).mono ?_
  rintro e w1 ⟨rfl, hB1⟩
  have HW1 := Lib.hid (HW.out.beyond hB1)
  go_wp2_with fail
  refine (RefRight_any S s _ HS.out).mono ?_
  rw [HR.out]
  rintro e w2 ⟨rfl, hB2⟩
  have HW2 := Lib.hid (HW1.out.beyond hB2)
  have GB2 := hB1.trans (hB2.mono hB1.size)
  go_wp2_with fail
  refine (awake_any _ HW2.out).mono ?_
  rintro e w3 ⟨rfl, hB3⟩
  go_wp2_with fail
  go_ret
  exact ⟨rfl, GB2.trans (hB3.mono GB2.size)⟩

set_option maxHeartbeats 1000000 in
theorem back_in (S : ByteArray) (s : List UInt8) (L : List (List UInt8)) (w : World) (HS : Hid (S = mk s)) (hw : Wts w) (hN : nameL s = some L) :
    Calls Tryd.prog 6 #[.string S] w fun e w' => e = .returned (.bool true) ∧ Below w.heap.size w w' := by
  have hl : s.length ≤ 1073741824 := by have := (nameL_is hN).2.2; omega
  have hrd := readN_textN hN
  have hlen := textN_len s
  obtain ⟨t, ht⟩ := dotT_ends L
  rw [← textN_some hN] at ht
  have hpl := dotT_plain L
  rw [← textN_some hN] at hpl
  obtain ⟨u, hu⟩ : ∃ u, u = textN s := ⟨_, rfl⟩
  obtain ⟨T, hT⟩ : ∃ T, T = mk (textN s) := ⟨_, rfl⟩
  rw [← hu] at hrd hlen ht hpl hT
  have hTz : T.size = u.length := by rw [hT, mk_size]
  have hT0 : 0 < T.size := by rw [hTz, ht]; simp
  have hT1 : T.size ≤ 1020 := by omega
  obtain ⟨k, hk⟩ : ∃ k, k + 1 = T.size := ⟨T.size - 1, by omega⟩
  have hlast : ∃ hk2 : k < T.size, (T[k]'hk2).toNat = 46 := by
    have : u[k]? = some 46 := by
      have hkt : k = t.length := by have := congrArg List.length ht; simp at this; omega
      rw [ht, hkt, List.getElem?_append_right (Nat.le_refl _)]; simp
    exact at_mk hT this
  have HW := Lib.hid hw
  have HR := Lib.hid (show (nameL s).isSome = true by rw [hN]; rfl)
  have HRD := Lib.hid hrd
  have HPL := Lib.hid hpl
  have HT := Lib.hid (show T = mk (textN s) by rw [hT, hu])
  have HTU := Lib.hid hT
  have HTZ := Lib.hid hTz
  have HLA := Lib.hid hlast
  have HK := Lib.hid hk
  clear hw hN hrd ht hpl hu hT hTz hlast hk
  go_enter Tryd.func6, Tryd.ntmps6
  go_wp2_with fail
  refine (awake_any _ HW.out).mono ?_
  rintro e w1 ⟨rfl, hB1⟩
  have HW1 := Lib.hid (HW.out.beyond hB1)
  go_wp2_with fail
  refine (RefRight_any S s _ HS.out).mono ?_
  rw [HR.out]
  rintro e w2 ⟨rfl, hB2⟩
  have HW2 := Lib.hid (HW1.out.beyond hB2)
  have GB2 := hB1.trans (hB2.mono hB1.size)
  clear hB1 hB2
  go_wp2_with fail
  refine (Text_any S s _ HS.out hl HW2.out).mono ?_
  rw [← HT.out]
  rintro e w3 ⟨rfl, hB3⟩
  have HW3 := Lib.hid (HW2.out.beyond hB3)
  have GB3 := GB2.trans (hB3.mono GB2.size)
  clear GB2 hB3
  go_wp2_with fail
  refine (Read_any T u _ HTU.out (by omega) HW3.out).mono ?_
  rw [HRD.out]
  simp only
  rw [← HS.out]
  rintro e w4 ⟨rfl, hB4⟩
  have GB4 := GB3.trans (hB4.mono GB3.size)
  clear GB3 hB4
  go_wp2_with fail
  go_loopw [6] (fun j wr => ∃ i : Nat, i ≤ T.size ∧ j = .int .i64 (i : Nat) ∧ wr = w4) (fun j _ => T.size - (intOf j).toNat)
  case atStart => exact ⟨0, Nat.zero_le _, rfl, rfl⟩
  case round =>
    obtain ⟨i, hi, rfl, rfl⟩ := hrel
    by_cases hlt : i < T.size
    · have g2 : (i : Int) < (T.size : Int) := by omega
      have hiu : i < u.length := by have := HTZ.out; omega
      obtain ⟨d, hd⟩ : ∃ d, d = u[i].toNat := ⟨_, rfl⟩
      have hc : (T[i]'hlt).toNat = d := by rw [mk_get HTU.out hlt hiu, hd]
      obtain ⟨p1, p2⟩ := HPL.out _ (List.getElem_mem hiu)
      rw [← hd] at p1 p2
      have g3 : ¬ (d : Int) < 33 := by omega
      have g4 : ¬ (126 : Int) < (d : Int) := by omega
      clear hd
      go_wp2_with fail
      go_roundw
      case rel => exact ⟨i + 1, by omega, by go_num, trivial⟩
      case measure => simp [intOf]; omega
    · obtain rfl : i = T.size := by omega
      obtain ⟨k2, hl46⟩ := HLA.out
      have hkk : (T.size : Int) - 1 = (k : Int) := by have := HK.out; omega
      have g5 : (0 : Int) < (T.size : Int) := by omega
      go_wp2_with fail
      go_ret
      exact ⟨rfl, GB4⟩
theorem DottedBack_walk (S : ByteArray) (w : World) (_h : S.size ≤ maxLen) (hw : Wts w) :
    Calls Tryd.prog 6 #[.string S] w fun e w' => e = .returned (.bool true) ∧ Below w.heap.size w w' := by
  obtain ⟨s, hS⟩ := mk_of S
  cases hN : nameL s with
  | none => exact back_out S s w hS hw hN
  | some L => exact back_in S s L w hS hw hN
end Go.Proofs.YtpfbieehdkonhaaDoor
