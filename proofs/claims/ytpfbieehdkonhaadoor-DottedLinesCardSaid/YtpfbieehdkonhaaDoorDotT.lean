/- The library's swapRange and rotate on a list of strings of one's own. -/
import Derived.Test.YtpfbieehdkonhaaDoorDotS
import Derived.Test.YtpfbieehdkonhaaDoorNamH
namespace Go.Proofs.YtpfbieehdkonhaaDoor
open Go.RowKit

/-- the slice of n strings in block g, of one's own, holds D -/
def RowD (base g n c : Nat) (D : List (List UInt8)) (W : World) : Prop := W.ownsRow base 9 1 (.slice (some ⟨g, 0, none⟩) n c) n (textL D)
theorem RowD.len {base g n c : Nat} {D : List (List UInt8)} {W : World} (h : RowD base g n c D W) : D.length = n := by have := h.1; simpa [textL_length] using this
theorem RowD.cell {base g n c : Nat} {D : List (List UInt8)} {W : World} (h : RowD base g n c D W) {k : Nat} {x : List UInt8} (hx : D[k]? = some x) : W.cell? ⟨g, k, none⟩ = some (.string (mk x)) := by
  have hk : k < D.length := (List.getElem?_eq_some_iff.1 hx).1
  rw [World.ownsRow.cellAt h k (by have := h.len; omega)]
  simp [textL, texts, hx]
theorem RowD.soft {base g n c : Nat} {D : List (List UInt8)} {W : World} (h : RowD base g n c D W) (k : Nat) : W.frozen? ⟨g, k, none⟩ = false := World.ownsRow.frozenAt h k
theorem RowD.put {base g n c : Nat} {D : List (List UInt8)} {W : World} (h : RowD base g n c D W) (k : Nat) (x : List UInt8) :
    RowD base g n c (D.set k x) (W.setCell ⟨g, k, none⟩ (.string (mk x))) ∧ W.grownBy (W.setCell ⟨g, k, none⟩ (.string (mk x))) (some g) := by
  obtain ⟨o, gr⟩ := World.ownsRow.stored h k (.string (mk x))
  rw [textL_set] at o
  exact ⟨o, gr⟩
theorem RowD.drew {base g n c : Nat} {D : List (List UInt8)} {W : World} (h : RowD base g n c D W) : RowD base g n c D W.drew := h
theorem RowD.two {base g n c : Nat} {U V Z : List (List UInt8)} {x y : List UInt8} {W : World} (h : RowD base g n c (U ++ x :: (V ++ y :: Z)) W) {p q : Nat} (hp : p = U.length) (hq : q = U.length + 1 + V.length) :
    W.cell? ⟨g, p, none⟩ = some (.string (mk x)) ∧ W.cell? ⟨g, q, none⟩ = some (.string (mk y)) ∧ W.frozen? ⟨g, p, none⟩ = false ∧ W.frozen? ⟨g, q, none⟩ = false ∧ p < n ∧ q < n ∧
      RowD base g n c (U ++ y :: (V ++ x :: Z)) ((W.setCell ⟨g, p, none⟩ (.string (mk y))).setCell ⟨g, q, none⟩ (.string (mk x))) ∧ W.grownBy ((W.setCell ⟨g, p, none⟩ (.string (mk y))).setCell ⟨g, q, none⟩ (.string (mk x))) (some g) := by
  subst hp; subst hq
  have hl := h.len
  simp only [List.length_append, List.length_cons] at hl
  refine ⟨h.cell (at_one _ _ _), h.cell (at_two _ _ _ _ _), h.soft _, h.soft _, by omega, by omega, ?_, ?_⟩
  · obtain ⟨o1, _⟩ := h.put U.length y
    obtain ⟨o2, _⟩ := o1.put (U.length + 1 + V.length) x
    rw [set_two] at o2
    exact o2
  · obtain ⟨o1, g1⟩ := h.put U.length y
    obtain ⟨_, g2⟩ := o1.put (U.length + 1 + V.length) x
    exact grown_trans g1 g2
/-- the same, the second place stored first -/
theorem RowD.two' {base g n c : Nat} {U V Z : List (List UInt8)} {x y : List UInt8} {W : World} (h : RowD base g n c (U ++ x :: (V ++ y :: Z)) W) {p q : Nat} (hp : p = U.length) (hq : q = U.length + 1 + V.length) :
    RowD base g n c (U ++ y :: (V ++ x :: Z)) ((W.setCell ⟨g, q, none⟩ (.string (mk x))).setCell ⟨g, p, none⟩ (.string (mk y))) ∧ W.grownBy ((W.setCell ⟨g, q, none⟩ (.string (mk x))).setCell ⟨g, p, none⟩ (.string (mk y))) (some g) := by
  subst hp; subst hq
  obtain ⟨o1, g1⟩ := h.put (U.length + 1 + V.length) x
  obtain ⟨o2, g2⟩ := o1.put U.length y
  refine ⟨?_, grown_trans g1 g2⟩
  rw [List.set_comm _ _ (by omega), set_two] at o2
  exact o2

/-- swapRange's list behind i rounds -/
def SR (P X M Y Q : List (List UInt8)) (i : Nat) : List (List UInt8) := (P ++ Y.take i) ++ (X.drop i ++ ((M ++ X.take i) ++ (Y.drop i ++ Q)))
theorem SR.start (P X M Y Q : List (List UInt8)) : SR P X M Y Q 0 = P ++ X ++ M ++ Y ++ Q := by simp [SR]
theorem SR.ends {P X M Y Q : List (List UInt8)} {k : Nat} (hX : X.length = k) (hY : Y.length = k) : SR P X M Y Q k = P ++ Y ++ M ++ X ++ Q := by
  unfold SR
  rw [List.take_of_length_le (by omega), List.take_of_length_le (by omega), List.drop_of_length_le (by omega), List.drop_of_length_le (by omega)]
  simp
theorem SR.step {P X M Y Q : List (List UInt8)} {k i : Nat} (hX : X.length = k) (hY : Y.length = k) (hi : i < k) :
    ∃ U V Z x y, SR P X M Y Q i = U ++ x :: (V ++ y :: Z) ∧ SR P X M Y Q (i + 1) = U ++ y :: (V ++ x :: Z) ∧ U.length = P.length + i ∧ U.length + 1 + V.length = P.length + k + M.length + i := by
  have h1 : i < X.length := by omega
  have h2 : i < Y.length := by omega
  refine ⟨P ++ Y.take i, X.drop (i + 1) ++ (M ++ X.take i), Y.drop (i + 1) ++ Q, X[i], Y[i], ?_, ?_, ?_, ?_⟩
  · unfold SR
    rw [List.drop_eq_getElem_cons h1, List.drop_eq_getElem_cons h2]
    simp only [List.append_assoc, List.cons_append]
  · unfold SR
    rw [List.take_succ_eq_append_getElem h1, List.take_succ_eq_append_getElem h2]
    simp only [List.append_assoc, List.cons_append, List.nil_append]
  · simp; omega
  · simp; omega

set_option maxHeartbeats 1000000 in
theorem swapRange_any (base g n c a b k : Nat) (F : Value) (P X M Y Q : List (List UInt8)) (w : World) (hX : X.length = k) (hY : Y.length = k) (ha : a = P.length) (hb : b = P.length + k + M.length) (hn : n ≤ 1000000)
    (h : RowD base g n c (P ++ X ++ M ++ Y ++ Q) w) :
    Calls Tryd.prog 70 #[.slice (some ⟨g, 0, none⟩) n c, .int .i64 (a : Nat), .int .i64 (b : Nat), .int .i64 (k : Nat), F] w fun e w' =>
      e = .returned (.tuple #[]) ∧ RowD base g n c (P ++ Y ++ M ++ X ++ Q) w' ∧ w.grownBy w' (some g) := by
  have hl := h.len
  simp only [List.length_append] at hl
  have hk : k ≤ n := by omega
  have H := Lib.hid h
  have HX := Lib.hid hX
  have HY := Lib.hid hY
  have HA := Lib.hid ha
  have HB := Lib.hid hb
  have HL := Lib.hid hl
  clear h hX hY ha hb hl
  go_enter Tryd.func70, Tryd.ntmps70
  go_wp2_with fail
  go_loopw [10] (fun j wr => ∃ i : Nat, j = .int .i64 (i : Nat) ∧ i ≤ k ∧ RowD base g n c (SR P X M Y Q i) wr ∧ w.grownBy wr (some g)) (fun j _ => k - (intOf j).toNat)
  case atStart => exact ⟨0, rfl, Nat.zero_le _, by rw [SR.start]; exact H.out, World.grownBy.refl _ _⟩
  case round =>
    obtain ⟨i, rfl, hi, hrow, hgr⟩ := hrel
    have HR := Lib.hid hrow
    have HG := Lib.hid hgr
    clear hrow hgr
    by_cases hlt : i < k
    · have g1 : (i : Int) < (k : Int) := by omega
      obtain ⟨U, V, Z, x, y, e1, e2, l1, l2⟩ := SR.step (P := P) (M := M) (Q := Q) HX.out HY.out hlt
      obtain ⟨p, hp⟩ : ∃ p, p = a + i := ⟨_, rfl⟩
      obtain ⟨q, hq⟩ : ∃ q, q = b + i := ⟨_, rfl⟩
      have hrow := HR.out
      rw [e1] at hrow
      obtain ⟨c1, c2, f1, f2, p1, q1, o2, g2⟩ := hrow.two (p := p) (q := q) (by rw [hp, HA.out, l1]) (by rw [hq, HB.out, l2])
      rw [← e2] at o2
      have HO2 := Lib.hid o2
      have HG2 := Lib.hid (grown_trans HG.out g2)
      have z1 : (a : Int) + (i : Int) = (p : Int) := by omega
      have z2 : (b : Int) + (i : Int) = (q : Int) := by omega
      have hpq : p < q := by have := HA.out; have := HB.out; omega
      have hne : (⟨g, q, none⟩ : Addr) ≠ ⟨g, p, none⟩ := by intro e; injection e with _ e _; omega
      obtain ⟨XX, hXX⟩ : ∃ XX, XX = mk x := ⟨_, rfl⟩
      obtain ⟨YY, hYY⟩ : ∃ YY, YY = mk y := ⟨_, rfl⟩
      rw [← hXX] at c1 HO2 HG2
      rw [← hYY] at c2 HO2 HG2
      clear e1 e2 l1 l2 hrow o2 g2 hXX hYY hp hq
      go_wp2_with fail
      go_region
      go_wp2_with fail
      go_roundw
      case rel => exact ⟨i + 1, by go_num, by omega, HO2.out.drew, grown_drew HG2.out⟩
      case measure => simp [intOf]; omega
    · obtain rfl : i = k := by omega
      go_wp2_with fail
      go_end0
      exact ⟨rfl, by have := HR.out; rwa [SR.ends HX.out HY.out] at this, HG.out⟩

/-! ### rotate -/
set_option maxHeartbeats 1000000 in
theorem rotate_any (base g n c a m b : Nat) (F : Value) (P A B Q : List (List UInt8)) (w : World) (ha : a = P.length) (hm : m = P.length + A.length) (hb : b = P.length + A.length + B.length) (hA : A ≠ []) (hB : B ≠ []) (hn : n ≤ 1000000)
    (h : RowD base g n c (P ++ A ++ B ++ Q) w) :
    Calls Tryd.prog 65 #[.slice (some ⟨g, 0, none⟩) n c, .int .i64 (a : Nat), .int .i64 (m : Nat), .int .i64 (b : Nat), F] w fun e w' =>
      e = .returned (.tuple #[]) ∧ RowD base g n c (P ++ B ++ A ++ Q) w' ∧ w.grownBy w' (some g) := by
  have hl := h.len
  simp only [List.length_append] at hl
  have hA0 := List.length_pos_iff.2 hA
  have hB0 := List.length_pos_iff.2 hB
  obtain ⟨i0, hi0⟩ : ∃ i, i = A.length := ⟨_, rfl⟩
  obtain ⟨j0, hj0⟩ : ∃ j, j = B.length := ⟨_, rfl⟩
  have z1 : (m : Int) - (a : Int) = (i0 : Int) := by omega
  have z2 : (b : Int) - (m : Int) = (j0 : Int) := by omega
  have hbn : b ≤ n := by omega
  have hmb : m ≤ b := by omega
  have ham : a ≤ m := by omega
  have H := Lib.hid h
  have HP := Lib.hid (show P.length + i0 = m by omega)
  have HI := Lib.hid hi0
  have HJ := Lib.hid hj0
  have hi1 : 0 < i0 := by omega
  have hj1 : 0 < j0 := by omega
  have HIJ := Lib.hid (show i0 + j0 ≤ n by omega)
  clear h hl hA hB hA0 hB0 hi0 hj0 ha hm hb
  go_enter Tryd.func65, Tryd.ntmps65
  go_wp2_with fail
  go_loopw [10, 11] (fun u v wr => ∃ (i j : Nat) (P' X Y Q' : List (List UInt8)), u = .int .i64 (i : Nat) ∧ v = .int .i64 (j : Nat) ∧ 0 < i ∧ 0 < j ∧ i + j ≤ n ∧ m + j ≤ n ∧ i = X.length ∧ j = Y.length ∧ P'.length + i = m ∧ P ++ B ++ A ++ Q = P' ++ Y ++ X ++ Q' ∧ RowD base g n c (P' ++ X ++ Y ++ Q') wr ∧ w.grownBy wr (some g)) (fun u v _ => (intOf u).toNat + (intOf v).toNat)
  case atStart => exact ⟨i0, j0, P, A, B, Q, rfl, rfl, hi1, hj1, HIJ.out, by omega, HI.out, HJ.out, HP.out, rfl, H.out, World.grownBy.refl _ _⟩
  case round =>
    obtain ⟨i, j, P', X, Y, Q', rfl, rfl, hi, hj, hij, hmj, hX, hY, hP, htg, hrow, hgr⟩ := hrel
    have HR := Lib.hid hrow
    have HG := Lib.hid hgr
    have HT := Lib.hid htg
    have HX := Lib.hid hX
    have HY := Lib.hid hY
    obtain ⟨p, hp⟩ : ∃ p, p = P'.length := ⟨_, rfl⟩
    have z3 : (m : Int) - (i : Int) = (p : Int) := by omega
    have hpn : p ≤ n := by omega
    have HPP := Lib.hid hP
    have HP2 := Lib.hid hp
    clear hrow hgr htg hX hY hP hp
    by_cases heq : i = j
    · subst heq
      have g1 : ((i : Int) != (i : Int)) = false := by simp
      have hrow : RowD base g n c (P' ++ X ++ [] ++ Y ++ Q') wr := by simpa using HR.out
      go_wp2_with fail
      refine (swapRange_any base g n c p m i _ P' X [] Y Q' _ HX.out.symm HY.out.symm HP2.out (by have := HPP.out; simp; omega) hn hrow).mono ?_
      rintro e w' ⟨rfl, hrow', hgr'⟩
      have HO' := Lib.hid hrow'
      have HG' := Lib.hid hgr'
      clear hrow' hgr' hrow
      go_wp2_with fail
      go_end0
      exact ⟨rfl, by rw [HT.out]; simpa using HO'.out, grown_trans HG.out HG'.out⟩
    · have g1 : ((i : Int) != (j : Int)) = true := by rw [bne_iff_ne]; omega
      by_cases hlt : j < i
      · have g2 : (j : Int) < (i : Int) := by omega
        have hsp : X = X.take j ++ X.drop j := (List.take_append_drop j X).symm
        have l1 : (X.take j).length = j := by rw [List.length_take]; have := HX.out; omega
        have l2 : (X.drop j).length = i - j := by rw [List.length_drop, ← HX.out]
        obtain ⟨X1, hX1⟩ : ∃ X1, X1 = X.take j := ⟨_, rfl⟩
        obtain ⟨X2, hX2⟩ : ∃ X2, X2 = X.drop j := ⟨_, rfl⟩
        rw [← hX1, ← hX2] at hsp
        rw [← hX1] at l1
        rw [← hX2] at l2
        have hrow : RowD base g n c (P' ++ X1 ++ X2 ++ Y ++ Q') wr := by have := HR.out; rw [hsp] at this; simpa using this
        have htg : P ++ B ++ A ++ Q = (P' ++ Y) ++ X1 ++ X2 ++ Q' := by rw [HT.out, hsp]; simp
        have HT2 := Lib.hid htg
        have HL1 := Lib.hid l1
        have HL2 := Lib.hid l2
        obtain ⟨i2, hi2⟩ : ∃ i2, i2 = i - j := ⟨_, rfl⟩
        have z4 : (i : Int) - (j : Int) = (i2 : Int) := by omega
        have HI2 := Lib.hid hi2
        clear hsp hX1 hX2 l1 l2 htg hi2
        go_wp2_with fail
        refine (swapRange_any base g n c p m j _ P' X1 X2 Y Q' _ HL1.out HY.out.symm HP2.out (by have := HPP.out; have := HL2.out; omega) hn hrow).mono ?_
        rintro e w' ⟨rfl, hrow', hgr'⟩
        have HO' := Lib.hid hrow'
        have HG' := Lib.hid (grown_trans HG.out hgr')
        clear hrow' hgr' hrow
        go_wp2_with fail
        go_roundw
        case rel => exact ⟨i2, j, P' ++ Y, X2, X1, Q', by go_num, rfl, by have := HI2.out; omega, hj, by have := HI2.out; omega, hmj, by have := HL2.out; have := HI2.out; omega, HL1.out.symm, by have := HPP.out; have := HI2.out; have := HY.out; simp; omega, HT2.out, by have := HO'.out; simpa using this, HG'.out⟩
        case measure => simp [intOf]; omega
      · have g2 : ¬ (j : Int) < (i : Int) := by omega
        have hsp : Y = Y.take (j - i) ++ Y.drop (j - i) := (List.take_append_drop (j - i) Y).symm
        have l1 : (Y.take (j - i)).length = j - i := by rw [List.length_take]; have := HY.out; omega
        have l2 : (Y.drop (j - i)).length = i := by rw [List.length_drop, ← HY.out]; omega
        obtain ⟨Y1, hY1⟩ : ∃ Y1, Y1 = Y.take (j - i) := ⟨_, rfl⟩
        obtain ⟨Y2, hY2⟩ : ∃ Y2, Y2 = Y.drop (j - i) := ⟨_, rfl⟩
        rw [← hY1, ← hY2] at hsp
        rw [← hY1] at l1
        rw [← hY2] at l2
        have hrow : RowD base g n c (P' ++ X ++ Y1 ++ Y2 ++ Q') wr := by have := HR.out; rw [hsp] at this; simpa using this
        have htg : P ++ B ++ A ++ Q = P' ++ Y1 ++ Y2 ++ (X ++ Q') := by rw [HT.out, hsp]; simp
        have HT2 := Lib.hid htg
        have HL1 := Lib.hid l1
        have HL2 := Lib.hid l2
        obtain ⟨j2, hj2⟩ : ∃ j2, j2 = j - i := ⟨_, rfl⟩
        obtain ⟨q, hq⟩ : ∃ q, q = m + j - i := ⟨_, rfl⟩
        have z4 : (j : Int) - (i : Int) = (j2 : Int) := by omega
        have z5 : (m : Int) + (j : Int) - (i : Int) = (q : Int) := by omega
        have HJ2 := Lib.hid hj2
        have HQ := Lib.hid hq
        clear hsp hY1 hY2 l1 l2 htg hj2 hq
        go_wp2_with fail
        refine (swapRange_any base g n c p q i _ P' X Y1 Y2 Q' _ HX.out.symm HL2.out HP2.out (by have := HPP.out; have := HL1.out; have := HQ.out; omega) hn hrow).mono ?_
        rintro e w' ⟨rfl, hrow', hgr'⟩
        have HO' := Lib.hid hrow'
        have HG' := Lib.hid (grown_trans HG.out hgr')
        clear hrow' hgr' hrow
        go_wp2_with fail
        go_roundw
        case rel => exact ⟨i, j2, P', Y2, Y1, X ++ Q', rfl, by go_num, hi, by have := HJ2.out; omega, by have := HJ2.out; omega, by have := HJ2.out; omega, HL2.out.symm, by have := HL1.out; have := HJ2.out; omega, HPP.out, HT2.out, by have := HO'.out; simpa using this, HG'.out⟩
        case measure => simp [intOf]; omega
end Go.Proofs.YtpfbieehdkonhaaDoor
