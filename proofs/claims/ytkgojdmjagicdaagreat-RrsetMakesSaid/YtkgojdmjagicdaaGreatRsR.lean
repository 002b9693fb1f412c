/- RrsetMakes. No statement of the seat is proved here. (written by gen_x.py) -/
import Derived.Test.YtkgojdmjagicdaaGreatRsQ
import Derived.Test.YtkgojdmjagicdaaGreatRrsJ
namespace Go.Proofs.YtkgojdmjagicdaaGreat
open Go.RowKit Go.Op

theorem Of_sees (A : Option Addr) (n c : Nat) (xs : List Rrd) (w : World) (hx : SeesR w w.heap.size A n xs) (hok : OkL xs) (hn : n < 40) :
    Calls Tryz.prog 10 #[.slice A n c] w fun e w' => ∃ A' m c', e = .returned (.slice A' m c') ∧ m ≤ n ∧ SeesR w' w'.heap.size A' m (ofC xs) ∧ Below w.heap.size w w' := by
  refine (Of_any A n c xs w hx hok hn).mono ?_
  rintro e w' ⟨v, rfl, ho, hB⟩
  obtain ⟨A', c', rfl, hs, _⟩ := own_sees ho
  exact ⟨A', _, c', rfl, by rw [← hx.1]; exact ofC_len xs, hs, hB⟩
theorem RefOf_sees (A : Option Addr) (n c : Nat) (xs : List Rrd) (w : World) (hx : SeesR w w.heap.size A n xs) (hok : OkL xs) (hn : n < 40) :
    Calls Tryz.prog 11 #[.slice A n c] w fun e w' => ∃ A' m c', e = .returned (.slice A' m c') ∧ m ≤ n ∧ SeesR w' w'.heap.size A' m (ofC xs) ∧ Below w.heap.size w w' := by
  refine (RefOf_any A n c xs w hx hok (by omega)).mono ?_
  rintro e w' ⟨v, rfl, ho, hB⟩
  obtain ⟨A', c', rfl, hs, _⟩ := own_sees ho
  exact ⟨A', _, c', rfl, by rw [← hx.1]; exact ofC_len xs, hs, hB⟩
set_option maxHeartbeats 16000000 in
set_option maxRecDepth 20000 in
theorem RrsetMakes_walk (A : Option Addr) (n c : Nat) (xs : List Rrd) (A' : Option Addr) (n' c' : Nat) (ys : List Rrd) (w : World) (hx : SeesR w w.heap.size A n xs) (_hcap : InCap A n c) (h63 : n ≤ 9223372036854775807) (hy : SeesR w w.heap.size A' n' ys) (_hcap' : InCap A' n' c') (h63' : n' ≤ 9223372036854775807) :
    Calls Tryz.prog 3 #[.slice A n c, .slice A' n' c'] w fun e w' => e = .returned (.bool true) ∧ Below w.heap.size w w' := by
  have HX0 := Lib.hid hx
  have HY0 := Lib.hid hy
  have HLX := Lib.hid hx.1
  have HLY := Lib.hid hy.1
  have HB0 := Lib.hid (Below.refl w.heap.size w)
  clear hx hy
  cases hr1 : rightsX xs with
  | false =>
    have HR1 := Lib.hid hr1
    clear hr1
    go_enter Tryz.func3, Tryz.ntmps3
    go_wp2_with fail
    refine (awake_any _).mono ?_
    rintro e w1 ⟨rfl, hB⟩
    have HB1 := Lib.hid (HB0.out.trans (hB.mono HB0.out.size))
    have HX1 := Lib.hid ((HX0.out.keep HB1.out).more HB1.out.size)
    have HY1 := Lib.hid ((HY0.out.keep HB1.out).more HB1.out.size)
    clear hB
    go_wp2_with fail
    refine (Rights_any A n c xs _ HX1.out h63).mono ?_
    rw [HR1.out]
    rintro e w2 ⟨rfl, hB⟩
    have HB2 := Lib.hid (HB1.out.trans (hB.mono HB1.out.size))
    have HX2 := Lib.hid ((HX0.out.keep HB2.out).more HB2.out.size)
    have HY2 := Lib.hid ((HY0.out.keep HB2.out).more HB2.out.size)
    clear hB
    go_wp2_with fail
    refine (awake_any _).mono ?_
    rintro e w3 ⟨rfl, hB⟩
    have HB3 := Lib.hid (HB2.out.trans (hB.mono HB2.out.size))
    have HX3 := Lib.hid ((HX0.out.keep HB3.out).more HB3.out.size)
    have HY3 := Lib.hid ((HY0.out.keep HB3.out).more HB3.out.size)
    clear hB
    go_wp2_with fail
    go_ret
    exact ⟨rfl, HB3.out⟩
  | true =>
    obtain ⟨hok, h30⟩ := rightsX_is hr1
    have hn30 : n ≤ 30 := by have := HLX.out; omega
    have HOX := Lib.hid hok
    have HR1 := Lib.hid hr1
    clear hr1 hok h30
    cases hr2 : rightsX ys with
    | false =>
      have HR2 := Lib.hid hr2
      clear hr2
      go_enter Tryz.func3, Tryz.ntmps3
      go_wp2_with fail
      refine (awake_any _).mono ?_
      rintro e w1 ⟨rfl, hB⟩
      have HB1 := Lib.hid (HB0.out.trans (hB.mono HB0.out.size))
      have HX1 := Lib.hid ((HX0.out.keep HB1.out).more HB1.out.size)
      have HY1 := Lib.hid ((HY0.out.keep HB1.out).more HB1.out.size)
      clear hB
      go_wp2_with fail
      refine (Rights_any A n c xs _ HX1.out h63).mono ?_
      rw [HR1.out]
      rintro e w2 ⟨rfl, hB⟩
      have HB2 := Lib.hid (HB1.out.trans (hB.mono HB1.out.size))
      have HX2 := Lib.hid ((HX0.out.keep HB2.out).more HB2.out.size)
      have HY2 := Lib.hid ((HY0.out.keep HB2.out).more HB2.out.size)
      clear hB
      go_wp2_with fail
      refine (Rights_any A' n' c' ys _ HY2.out h63').mono ?_
      rw [HR2.out]
      rintro e w3 ⟨rfl, hB⟩
      have HB3 := Lib.hid (HB2.out.trans (hB.mono HB2.out.size))
      have HX3 := Lib.hid ((HX0.out.keep HB3.out).more HB3.out.size)
      have HY3 := Lib.hid ((HY0.out.keep HB3.out).more HB3.out.size)
      clear hB
      go_wp2_with fail
      refine (awake_any _).mono ?_
      rintro e w4 ⟨rfl, hB⟩
      have HB4 := Lib.hid (HB3.out.trans (hB.mono HB3.out.size))
      have HX4 := Lib.hid ((HX0.out.keep HB4.out).more HB4.out.size)
      have HY4 := Lib.hid ((HY0.out.keep HB4.out).more HB4.out.size)
      clear hB
      go_wp2_with fail
      go_ret
      exact ⟨rfl, HB4.out⟩
    | true =>
      obtain ⟨hok, h30⟩ := rightsX_is hr2
      have hm30 : n' ≤ 30 := by have := HLY.out; omega
      have HOY := Lib.hid hok
      have HR2 := Lib.hid hr2
      clear hr2 hok h30
      obtain ⟨q, hq⟩ : ∃ q, q = setX xs := ⟨_, rfl⟩
      have gq : (q == q) = true := by simp
      have HQ := Lib.hid hq
      obtain ⟨z, hz⟩ : ∃ z, z = (inX xs ys && inX ys xs) := ⟨_, rfl⟩
      have gz : (z == z) = true := by simp
      have HZ := Lib.hid hz
      clear hq hz
      go_enter Tryz.func3, Tryz.ntmps3
      go_wp2_with fail
      refine (awake_any _).mono ?_
      rintro e w1 ⟨rfl, hB⟩
      have HB1 := Lib.hid (HB0.out.trans (hB.mono HB0.out.size))
      have HX1 := Lib.hid ((HX0.out.keep HB1.out).more HB1.out.size)
      have HY1 := Lib.hid ((HY0.out.keep HB1.out).more HB1.out.size)
      clear hB
      go_wp2_with fail
      refine (Rights_any A n c xs _ HX1.out h63).mono ?_
      rw [HR1.out]
      rintro e w2 ⟨rfl, hB⟩
      have HB2 := Lib.hid (HB1.out.trans (hB.mono HB1.out.size))
      have HX2 := Lib.hid ((HX0.out.keep HB2.out).more HB2.out.size)
      have HY2 := Lib.hid ((HY0.out.keep HB2.out).more HB2.out.size)
      clear hB
      go_wp2_with fail
      refine (Rights_any A' n' c' ys _ HY2.out h63').mono ?_
      rw [HR2.out]
      rintro e w3 ⟨rfl, hB⟩
      have HB3 := Lib.hid (HB2.out.trans (hB.mono HB2.out.size))
      have HX3 := Lib.hid ((HX0.out.keep HB3.out).more HB3.out.size)
      have HY3 := Lib.hid ((HY0.out.keep HB3.out).more HB3.out.size)
      clear hB
      go_wp2_with fail
      refine (Is_any A n c xs _ HX3.out HOX.out (by omega)).mono ?_
      rw [← HQ.out]
      rintro e w4 ⟨rfl, hB⟩
      have HB4 := Lib.hid (HB3.out.trans (hB.mono HB3.out.size))
      have HX4 := Lib.hid ((HX0.out.keep HB4.out).more HB4.out.size)
      have HY4 := Lib.hid ((HY0.out.keep HB4.out).more HB4.out.size)
      clear hB
      go_wp2_with fail
      refine (RefIs_any A n c xs _ HX4.out HOX.out (by omega)).mono ?_
      rw [← HQ.out]
      rintro e w5 ⟨rfl, hB⟩
      have HB5 := Lib.hid (HB4.out.trans (hB.mono HB4.out.size))
      have HX5 := Lib.hid ((HX0.out.keep HB5.out).more HB5.out.size)
      have HY5 := Lib.hid ((HY0.out.keep HB5.out).more HB5.out.size)
      clear hB
      go_wp2_with fail
      refine (Of_sees A n c xs _ HX5.out HOX.out (by omega)).mono ?_
      rintro e w6 ⟨A6, m6, c6, rfl, hm6, hs, hB⟩
      have HB6 := Lib.hid (HB5.out.trans (hB.mono HB5.out.size))
      have HX6 := Lib.hid ((HX0.out.keep HB6.out).more HB6.out.size)
      have HY6 := Lib.hid ((HY0.out.keep HB6.out).more HB6.out.size)
      have HS6 := Lib.hid hs
      clear hs
      clear hB
      go_wp2_with fail
      refine (RefOf_sees A n c xs _ HX6.out HOX.out (by omega)).mono ?_
      rintro e w7 ⟨A7, m7, c7, rfl, hm7, hs, hB⟩
      have HB7 := Lib.hid (HB6.out.trans (hB.mono HB6.out.size))
      have HX7 := Lib.hid ((HX0.out.keep HB7.out).more HB7.out.size)
      have HY7 := Lib.hid ((HY0.out.keep HB7.out).more HB7.out.size)
      have HS7 := Lib.hid hs
      clear hs
      have HK6 := Lib.hid ((HS6.out.keep hB).more hB.size)
      clear hB
      go_wp2_with fail
      refine (Same_any A6 A7 m6 c6 m7 c7 (ofC xs) (ofC xs) _ HK6.out HS7.out (by omega)).mono ?_
      rw [show sameX (ofC xs) (ofC xs) = true from sameX_is.2 rfl]
      rintro e w8 ⟨rfl, hB⟩
      have HB8 := Lib.hid (HB7.out.trans (hB.mono HB7.out.size))
      have HX8 := Lib.hid ((HX0.out.keep HB8.out).more HB8.out.size)
      have HY8 := Lib.hid ((HY0.out.keep HB8.out).more HB8.out.size)
      clear hB
      go_wp2_with fail
      refine (SetAlike_any A A' n c n' c' xs ys _ HX8.out HY8.out HOX.out HOY.out (by omega) (by omega)).mono ?_
      rw [← HZ.out]
      rintro e w9 ⟨rfl, hB⟩
      have HB9 := Lib.hid (HB8.out.trans (hB.mono HB8.out.size))
      have HX9 := Lib.hid ((HX0.out.keep HB9.out).more HB9.out.size)
      have HY9 := Lib.hid ((HY0.out.keep HB9.out).more HB9.out.size)
      clear hB
      go_wp2_with fail
      refine (RefAlike_set A A' n c n' c' xs ys _ HX9.out HY9.out HOX.out HOY.out (by omega) (by omega)).mono ?_
      rw [← HZ.out]
      rintro e w10 ⟨rfl, hB⟩
      have HB10 := Lib.hid (HB9.out.trans (hB.mono HB9.out.size))
      have HX10 := Lib.hid ((HX0.out.keep HB10.out).more HB10.out.size)
      have HY10 := Lib.hid ((HY0.out.keep HB10.out).more HB10.out.size)
      clear hB
      go_wp2_with fail
      go_ret
      exact ⟨rfl, HB10.out⟩
end Go.Proofs.YtkgojdmjagicdaaGreat
