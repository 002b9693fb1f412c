/- The library's swapRange and rotate on a list of records of one's own. -/
import Derived.Test.YtkgojdmjagicdaaGreatRsS
import Derived.Test.YtkgojdmjagicdaaGreatRrsH
namespace Go.Proofs.YtkgojdmjagicdaaGreat
open Go.RowKit

theorem rcells_set : ∀ (D : List Rrd) (k : Nat) (x : Rrd),
    (((((rcells D).set (k * 5) (.string x.s)).set (k * 5 + 1) (.int .i64 x.t)).set (k * 5 + 2) (.int .i64 x.c)).set (k * 5 + 3) (.int .i64 x.l)).set (k * 5 + 4) (.string x.d) = rcells (D.set k x)
  | [], k, x => by simp [rcells]
  | y :: D, 0, x => by simp [rcells]
  | y :: D, k + 1, x => by
    have ih := rcells_set D k x
    rw [List.set_cons_succ, rcells_cons, rcells_cons, ← ih]
    have e : ∀ (r : Nat) (v : Value) (l : List Value), ([Value.string y.s, .int .i64 y.t, .int .i64 y.c, .int .i64 y.l, .string y.d] ++ l).set ((k + 1) * 5 + r) v = [Value.string y.s, .int .i64 y.t, .int .i64 y.c, .int .i64 y.l, .string y.d] ++ l.set (k * 5 + r) v := by
      intro r v l
      rw [List.set_append_right _ _ (by simp; omega)]
      congr 2
      simp; omega
    have e0 := e 0
    simp only [Nat.add_zero] at e0
    rw [e0, e, e, e, e]
/-- the slice of n records in block g, of one's own, holds D -/
def RowX (base g n c : Nat) (D : List Rrd) (W : World) : Prop := W.ownsRow base 28 5 (.slice (some ⟨g, 0, none⟩) n c) n (rcells D)
/-- a record stored at a place of block g -/
abbrev put5 (W : World) (g o : Nat) (x : Rrd) : World :=
  ((((W.setCell ⟨g, o, none⟩ (.string x.s)).setCell ⟨g, o + 1, none⟩ (.int .i64 x.t)).setCell ⟨g, o + 2, none⟩ (.int .i64 x.c)).setCell ⟨g, o + 3, none⟩ (.int .i64 x.l)).setCell ⟨g, o + 4, none⟩ (.string x.d)
theorem RowX.len {base g n c : Nat} {D : List Rrd} {W : World} (h : RowX base g n c D W) : D.length = n := by have := h.1; rw [rcells_len] at this; omega
theorem RowX.five {base g n c : Nat} {D : List Rrd} {W : World} (h : RowX base g n c D W) {k : Nat} {x : Rrd} (hx : D[k]? = some x) : Five W g (k * 5) x := by
  have hk : k < D.length := (List.getElem?_eq_some_iff.1 hx).1
  have hl := h.len
  obtain ⟨a0, a1, a2, a3, a4⟩ := rcells_at D k x hx
  exact ⟨(World.ownsRow.cellAt h _ (by omega)).trans a0, (World.ownsRow.cellAt h _ (by omega)).trans a1, (World.ownsRow.cellAt h _ (by omega)).trans a2, (World.ownsRow.cellAt h _ (by omega)).trans a3, (World.ownsRow.cellAt h _ (by omega)).trans a4⟩
theorem RowX.soft {base g n c : Nat} {D : List Rrd} {W : World} (h : RowX base g n c D W) (k : Nat) : W.frozen? ⟨g, k, none⟩ = false := World.ownsRow.frozenAt h k
theorem RowX.softs {base g n c : Nat} {D : List Rrd} {W : World} (h : RowX base g n c D W) (o : Nat) :
    W.frozen? ⟨g, o, none⟩ = false ∧ W.frozen? ⟨g, o + 1, none⟩ = false ∧ W.frozen? ⟨g, o + 2, none⟩ = false ∧ W.frozen? ⟨g, o + 3, none⟩ = false ∧ W.frozen? ⟨g, o + 4, none⟩ = false :=
  ⟨h.soft _, h.soft _, h.soft _, h.soft _, h.soft _⟩
theorem RowX.put {base g n c : Nat} {D : List Rrd} {W : World} (h : RowX base g n c D W) (k : Nat) (x : Rrd) : RowX base g n c (D.set k x) (put5 W g (k * 5) x) ∧ W.grownBy (put5 W g (k * 5) x) (some g) := by
  obtain ⟨o1, g1⟩ := World.ownsRow.stored h (k * 5) (.string x.s)
  obtain ⟨o2, g2⟩ := World.ownsRow.stored o1 (k * 5 + 1) (.int .i64 x.t)
  obtain ⟨o3, g3⟩ := World.ownsRow.stored o2 (k * 5 + 2) (.int .i64 x.c)
  obtain ⟨o4, g4⟩ := World.ownsRow.stored o3 (k * 5 + 3) (.int .i64 x.l)
  obtain ⟨o5, g5⟩ := World.ownsRow.stored o4 (k * 5 + 4) (.string x.d)
  rw [rcells_set] at o5
  exact ⟨o5, grown_trans g1 (grown_trans g2 (grown_trans g3 (grown_trans g4 g5)))⟩
theorem RowX.drew {base g n c : Nat} {D : List Rrd} {W : World} (h : RowX base g n c D W) : RowX base g n c D W.drew := h
theorem RowX.two {base g n c : Nat} {U V Z : List Rrd} {x y : Rrd} {W : World} (h : RowX base g n c (U ++ x :: (V ++ y :: Z)) W) {p q : Nat} (hp : p = U.length) (hq : q = U.length + 1 + V.length) :
    Five W g (p * 5) x ∧ Five W g (q * 5) y ∧ p < n ∧ q < n ∧
      RowX base g n c (U ++ y :: (V ++ x :: Z)) (put5 (put5 W g (p * 5) y) g (q * 5) x) ∧ W.grownBy (put5 (put5 W g (p * 5) y) g (q * 5) x) (some g) := by
  subst hp; subst hq
  have hl := h.len
  simp only [List.length_append, List.length_cons] at hl
  refine ⟨h.five (at_one _ _ _), h.five (at_two _ _ _ _ _), by omega, by omega, ?_, ?_⟩
  · obtain ⟨o1, _⟩ := h.put U.length y
    obtain ⟨o2, _⟩ := o1.put (U.length + 1 + V.length) x
    rw [set_two] at o2
    exact o2
  · obtain ⟨o1, g1⟩ := h.put U.length y
    obtain ⟨_, g2⟩ := o1.put (U.length + 1 + V.length) x
    exact grown_trans g1 g2
/-- the same, the second place stored first -/
theorem RowX.two' {base g n c : Nat} {U V Z : List Rrd} {x y : Rrd} {W : World} (h : RowX base g n c (U ++ x :: (V ++ y :: Z)) W) {p q : Nat} (hp : p = U.length) (hq : q = U.length + 1 + V.length) :
    RowX base g n c (U ++ y :: (V ++ x :: Z)) (put5 (put5 W g (q * 5) x) g (p * 5) y) ∧ W.grownBy (put5 (put5 W g (q * 5) x) g (p * 5) y) (some g) := by
  subst hp; subst hq
  obtain ⟨o1, g1⟩ := h.put (U.length + 1 + V.length) x
  obtain ⟨o2, g2⟩ := o1.put U.length y
  refine ⟨?_, grown_trans g1 g2⟩
  rw [List.set_comm _ _ (by omega), set_two] at o2
  exact o2
/-- the places of two records are apart -/
theorem far5 (g : Nat) {p q : Nat} (h : p ≠ q) : ∀ i j, i < 5 → j < 5 → (⟨g, q * 5 + j, none⟩ : Addr) ≠ ⟨g, p * 5 + i, none⟩ := by
  intro i j hi hj e
  injection e with _ e _
  omega

/-- swapRange's list behind i rounds -/
def SR (P X M Y Q : List Rrd) (i : Nat) : List Rrd := (P ++ Y.take i) ++ (X.drop i ++ ((M ++ X.take i) ++ (Y.drop i ++ Q)))
theorem SR.start (P X M Y Q : List Rrd) : SR P X M Y Q 0 = P ++ X ++ M ++ Y ++ Q := by simp [SR]
theorem SR.ends {P X M Y Q : List Rrd} {k : Nat} (hX : X.length = k) (hY : Y.length = k) : SR P X M Y Q k = P ++ Y ++ M ++ X ++ Q := by
  unfold SR
  rw [List.take_of_length_le (by omega), List.take_of_length_le (by omega), List.drop_of_length_le (by omega), List.drop_of_length_le (by omega)]
  simp
theorem SR.step {P X M Y Q : List Rrd} {k i : Nat} (hX : X.length = k) (hY : Y.length = k) (hi : i < k) :
    ∃ U V Z x y, SR P X M Y Q i = U ++ x :: (V ++ y :: Z) ∧ SR P X M Y Q (i + 1) = U ++ y :: (V ++ x :: Z) ∧ U.length = P.length + i ∧ U.length + 1 + V.length = P.length + k + M.length + i := by
  have h1 : i < X.length := by omega
  have h2 : i < Y.length := by omega
  refine ⟨P ++ Y.take i, X.drop (i + 1) ++ (M ++ X.take i), Y.drop (i + 1) ++ Q, X[i], Y[i], ?_, ?_, ?_, ?_⟩
  · unfold SR
    rw [List.drop_eq_getElem_cons h1, List.drop_eq_getElem_cons h2]
    simp only [List.append_assoc, List.cons_append]
  · unfold SR
    rw [List.take_succ_eq_append_getElem h1, List.take_succ_eq_append_getElem h2]
    simp only [List.append_assoc, List.cons_append, List.nil_append]
  · simp; omega
  · simp; omega

set_option maxHeartbeats 1000000 in
theorem swapRange_any (base g n c a b k : Nat) (F : Value) (P X M Y Q : List Rrd) (w : World) (hX : X.length = k) (hY : Y.length = k) (ha : a = P.length) (hb : b = P.length + k + M.length) (hn : n ≤ 1000000)
    (h : RowX base g n c (P ++ X ++ M ++ Y ++ Q) w) :
    Calls Tryz.prog 98 #[.slice (some ⟨g, 0, none⟩) n c, .int .i64 (a : Nat), .int .i64 (b : Nat), .int .i64 (k : Nat), F] w fun e w' =>
      e = .returned (.tuple #[]) ∧ RowX base g n c (P ++ Y ++ M ++ X ++ Q) w' ∧ w.grownBy w' (some g) := by
  have hl := h.len
  simp only [List.length_append] at hl
  have hk : k ≤ n := by omega
  have H := Lib.hid h
  have HX := Lib.hid hX
  have HY := Lib.hid hY
  have HA := Lib.hid ha
  have HB := Lib.hid hb
  have HL := Lib.hid hl
  clear h hX hY ha hb hl
  go_enter Tryz.func98, Tryz.ntmps98
  go_wp2_with fail
  go_loopw [10] (fun j wr => ∃ i : Nat, j = .int .i64 (i : Nat) ∧ i ≤ k ∧ RowX base g n c (SR P X M Y Q i) wr ∧ w.grownBy wr (some g)) (fun j _ => k - (intOf j).toNat)
  case atStart => exact ⟨0, rfl, Nat.zero_le _, by rw [SR.start]; exact H.out, World.grownBy.refl _ _⟩
  case round =>
    obtain ⟨i, rfl, hi, hrow, hgr⟩ := hrel
    have HR := Lib.hid hrow
    have HG := Lib.hid hgr
    clear hrow hgr
    by_cases hlt : i < k
    · have g1 : (i : Int) < (k : Int) := by omega
      obtain ⟨U, V, Z, x, y, e1, e2, l1, l2⟩ := SR.step (P := P) (M := M) (Q := Q) HX.out HY.out hlt
      obtain ⟨p, hp⟩ : ∃ p, p = a + i := ⟨_, rfl⟩
      obtain ⟨q, hq⟩ : ∃ q, q = b + i := ⟨_, rfl⟩
      have hrow := HR.out
      rw [e1] at hrow
      obtain ⟨⟨a0, a1, a2, a3, a4⟩, ⟨b0, b1, b2, b3, b4⟩, p1, q1, o2, g2⟩ := hrow.two (p := p) (q := q) (by rw [hp, HA.out, l1]) (by rw [hq, HB.out, l2])
      obtain ⟨d0, d1, d2, d3, d4⟩ := hrow.softs (p * 5)
      obtain ⟨e0, e1', e2', e3, e4⟩ := hrow.softs (q * 5)
      rw [← e2] at o2
      have HO2 := Lib.hid o2
      have HG2 := Lib.hid (grown_trans HG.out g2)
      have z1 : (a : Int) + (i : Int) = (p : Int) := by omega
      have z2 : (b : Int) + (i : Int) = (q : Int) := by omega
      have hpq : p < q := by have := HA.out; have := HB.out; omega
      have hfar := far5 g (p := p) (q := q) (by omega)
      have n00 : (⟨g, q * 5, none⟩ : Addr) ≠ ⟨g, p * 5, none⟩ := hfar 0 0 (by decide) (by decide)
      have n01 : (⟨g, q * 5 + 1, none⟩ : Addr) ≠ ⟨g, p * 5, none⟩ := hfar 0 1 (by decide) (by decide)
      have n02 : (⟨g, q * 5 + 2, none⟩ : Addr) ≠ ⟨g, p * 5, none⟩ := hfar 0 2 (by decide) (by decide)
      have n03 : (⟨g, q * 5 + 3, none⟩ : Addr) ≠ ⟨g, p * 5, none⟩ := hfar 0 3 (by decide) (by decide)
      have n04 : (⟨g, q * 5 + 4, none⟩ : Addr) ≠ ⟨g, p * 5, none⟩ := hfar 0 4 (by decide) (by decide)
      have n10 : (⟨g, q * 5, none⟩ : Addr) ≠ ⟨g, p * 5 + 1, none⟩ := hfar 1 0 (by decide) (by decide)
      have n11 : (⟨g, q * 5 + 1, none⟩ : Addr) ≠ ⟨g, p * 5 + 1, none⟩ := hfar 1 1 (by decide) (by decide)
      have n12 : (⟨g, q * 5 + 2, none⟩ : Addr) ≠ ⟨g, p * 5 + 1, none⟩ := hfar 1 2 (by decide) (by decide)
      have n13 : (⟨g, q * 5 + 3, none⟩ : Addr) ≠ ⟨g, p * 5 + 1, none⟩ := hfar 1 3 (by decide) (by decide)
      have n14 : (⟨g, q * 5 + 4, none⟩ : Addr) ≠ ⟨g, p * 5 + 1, none⟩ := hfar 1 4 (by decide) (by decide)
      have n20 : (⟨g, q * 5, none⟩ : Addr) ≠ ⟨g, p * 5 + 2, none⟩ := hfar 2 0 (by decide) (by decide)
      have n21 : (⟨g, q * 5 + 1, none⟩ : Addr) ≠ ⟨g, p * 5 + 2, none⟩ := hfar 2 1 (by decide) (by decide)
      have n22 : (⟨g, q * 5 + 2, none⟩ : Addr) ≠ ⟨g, p * 5 + 2, none⟩ := hfar 2 2 (by decide) (by decide)
      have n23 : (⟨g, q * 5 + 3, none⟩ : Addr) ≠ ⟨g, p * 5 + 2, none⟩ := hfar 2 3 (by decide) (by decide)
      have n24 : (⟨g, q * 5 + 4, none⟩ : Addr) ≠ ⟨g, p * 5 + 2, none⟩ := hfar 2 4 (by decide) (by decide)
      have n30 : (⟨g, q * 5, none⟩ : Addr) ≠ ⟨g, p * 5 + 3, none⟩ := hfar 3 0 (by decide) (by decide)
      have n31 : (⟨g, q * 5 + 1, none⟩ : Addr) ≠ ⟨g, p * 5 + 3, none⟩ := hfar 3 1 (by decide) (by decide)
      have n32 : (⟨g, q * 5 + 2, none⟩ : Addr) ≠ ⟨g, p * 5 + 3, none⟩ := hfar 3 2 (by decide) (by decide)
      have n33 : (⟨g, q * 5 + 3, none⟩ : Addr) ≠ ⟨g, p * 5 + 3, none⟩ := hfar 3 3 (by decide) (by decide)
      have n34 : (⟨g, q * 5 + 4, none⟩ : Addr) ≠ ⟨g, p * 5 + 3, none⟩ := hfar 3 4 (by decide) (by decide)
      have n40 : (⟨g, q * 5, none⟩ : Addr) ≠ ⟨g, p * 5 + 4, none⟩ := hfar 4 0 (by decide) (by decide)
      have n41 : (⟨g, q * 5 + 1, none⟩ : Addr) ≠ ⟨g, p * 5 + 4, none⟩ := hfar 4 1 (by decide) (by decide)
      have n42 : (⟨g, q * 5 + 2, none⟩ : Addr) ≠ ⟨g, p * 5 + 4, none⟩ := hfar 4 2 (by decide) (by decide)
      have n43 : (⟨g, q * 5 + 3, none⟩ : Addr) ≠ ⟨g, p * 5 + 4, none⟩ := hfar 4 3 (by decide) (by decide)
      have n44 : (⟨g, q * 5 + 4, none⟩ : Addr) ≠ ⟨g, p * 5 + 4, none⟩ := hfar 4 4 (by decide) (by decide)
      clear hfar
      clear e1 e2 l1 l2 hrow o2 g2 hp hq
      go_wp2_with fail
      go_region
      go_wp2_with fail
      go_roundw
      case rel => exact ⟨i + 1, by go_num, by omega, HO2.out.drew, grown_drew HG2.out⟩
      case measure => simp [intOf]; omega
    · obtain rfl : i = k := by omega
      go_wp2_with fail
      go_end0
      exact ⟨rfl, by have := HR.out; rwa [SR.ends HX.out HY.out] at this, HG.out⟩

/-! ### rotate -/
set_option maxHeartbeats 1000000 in
theorem rotate_any (base g n c a m b : Nat) (F : Value) (P A B Q : List Rrd) (w : World) (ha : a = P.length) (hm : m = P.length + A.length) (hb : b = P.length + A.length + B.length) (hA : A ≠ []) (hB : B ≠ []) (hn : n ≤ 1000000)
    (h : RowX base g n c (P ++ A ++ B ++ Q) w) :
    Calls Tryz.prog 80 #[.slice (some ⟨g, 0, none⟩) n c, .int .i64 (a : Nat), .int .i64 (m : Nat), .int .i64 (b : Nat), F] w fun e w' =>
      e = .returned (.tuple #[]) ∧ RowX base g n c (P ++ B ++ A ++ Q) w' ∧ w.grownBy w' (some g) := by
  have hl := h.len
  simp only [List.length_append] at hl
  have hA0 := List.length_pos_iff.2 hA
  have hB0 := List.length_pos_iff.2 hB
  obtain ⟨i0, hi0⟩ : ∃ i, i = A.length := ⟨_, rfl⟩
  obtain ⟨j0, hj0⟩ : ∃ j, j = B.length := ⟨_, rfl⟩
  have z1 : (m : Int) - (a : Int) = (i0 : Int) := by omega
  have z2 : (b : Int) - (m : Int) = (j0 : Int) := by omega
  have hbn : b ≤ n := by omega
  have hmb : m ≤ b := by omega
  have ham : a ≤ m := by omega
  have H := Lib.hid h
  have HP := Lib.hid (show P.length + i0 = m by omega)
  have HI := Lib.hid hi0
  have HJ := Lib.hid hj0
  have hi1 : 0 < i0 := by omega
  have hj1 : 0 < j0 := by omega
  have HIJ := Lib.hid (show i0 + j0 ≤ n by omega)
  clear h hl hA hB hA0 hB0 hi0 hj0 ha hm hb
  go_enter Tryz.func80, Tryz.ntmps80
  go_wp2_with fail
  go_loopw [10, 11] (fun u v wr => ∃ (i j : Nat) (P' X Y Q' : List Rrd), u = .int .i64 (i : Nat) ∧ v = .int .i64 (j : Nat) ∧ 0 < i ∧ 0 < j ∧ i + j ≤ n ∧ m + j ≤ n ∧ i = X.length ∧ j = Y.length ∧ P'.length + i = m ∧ P ++ B ++ A ++ Q = P' ++ Y ++ X ++ Q' ∧ RowX base g n c (P' ++ X ++ Y ++ Q') wr ∧ w.grownBy wr (some g)) (fun u v _ => (intOf u).toNat + (intOf v).toNat)
  case atStart => exact ⟨i0, j0, P, A, B, Q, rfl, rfl, hi1, hj1, HIJ.out, by omega, HI.out, HJ.out, HP.out, rfl, H.out, World.grownBy.refl _ _⟩
  case round =>
    obtain ⟨i, j, P', X, Y, Q', rfl, rfl, hi, hj, hij, hmj, hX, hY, hP, htg, hrow, hgr⟩ := hrel
    have HR := Lib.hid hrow
    have HG := Lib.hid hgr
    have HT := Lib.hid htg
    have HX := Lib.hid hX
    have HY := Lib.hid hY
    obtain ⟨p, hp⟩ : ∃ p, p = P'.length := ⟨_, rfl⟩
    have z3 : (m : Int) - (i : Int) = (p : Int) := by omega
    have hpn : p ≤ n := by omega
    have HPP := Lib.hid hP
    have HP2 := Lib.hid hp
    clear hrow hgr htg hX hY hP hp
    by_cases heq : i = j
    · subst heq
      have g1 : ((i : Int) != (i : Int)) = false := by simp
      have hrow : RowX base g n c (P' ++ X ++ [] ++ Y ++ Q') wr := by simpa using HR.out
      go_wp2_with fail
      refine (swapRange_any base g n c p m i _ P' X [] Y Q' _ HX.out.symm HY.out.symm HP2.out (by have := HPP.out; simp; omega) hn hrow).mono ?_
      rintro e w' ⟨rfl, hrow', hgr'⟩
      have HO' := Lib.hid hrow'
      have HG' := Lib.hid hgr'
      clear hrow' hgr' hrow
      go_wp2_with fail
      go_end0
      exact ⟨rfl, by rw [HT.out]; simpa using HO'.out, grown_trans HG.out HG'.out⟩
    · have g1 : ((i : Int) != (j : Int)) = true := by rw [bne_iff_ne]; omega
      by_cases hlt : j < i
      · have g2 : (j : Int) < (i : Int) := by omega
        have hsp : X = X.take j ++ X.drop j := (List.take_append_drop j X).symm
        have l1 : (X.take j).length = j := by rw [List.length_take]; have := HX.out; omega
        have l2 : (X.drop j).length = i - j := by rw [List.length_drop, ← HX.out]
        obtain ⟨X1, hX1⟩ : ∃ X1, X1 = X.take j := ⟨_, rfl⟩
        obtain ⟨X2, hX2⟩ : ∃ X2, X2 = X.drop j := ⟨_, rfl⟩
        rw [← hX1, ← hX2] at hsp
        rw [← hX1] at l1
        rw [← hX2] at l2
        have hrow : RowX base g n c (P' ++ X1 ++ X2 ++ Y ++ Q') wr := by have := HR.out; rw [hsp] at this; simpa using this
        have htg : P ++ B ++ A ++ Q = (P' ++ Y) ++ X1 ++ X2 ++ Q' := by rw [HT.out, hsp]; simp
        have HT2 := Lib.hid htg
        have HL1 := Lib.hid l1
        have HL2 := Lib.hid l2
        obtain ⟨i2, hi2⟩ : ∃ i2, i2 = i - j := ⟨_, rfl⟩
        have z4 : (i : Int) - (j : Int) = (i2 : Int) := by omega
        have HI2 := Lib.hid hi2
        clear hsp hX1 hX2 l1 l2 htg hi2
        go_wp2_with fail
        refine (swapRange_any base g n c p m j _ P' X1 X2 Y Q' _ HL1.out HY.out.symm HP2.out (by have := HPP.out; have := HL2.out; omega) hn hrow).mono ?_
        rintro e w' ⟨rfl, hrow', hgr'⟩
        have HO' := Lib.hid hrow'
        have HG' := Lib.hid (grown_trans HG.out hgr')
        clear hrow' hgr' hrow
        go_wp2_with fail
        go_roundw
        case rel => exact ⟨i2, j, P' ++ Y, X2, X1, Q', by go_num, rfl, by have := HI2.out; omega, hj, by have := HI2.out; omega, hmj, by have := HL2.out; have := HI2.out; omega, HL1.out.symm, by have := HPP.out; have := HI2.out; have := HY.out; simp; omega, HT2.out, by have := HO'.out; simpa using this, HG'.out⟩
        case measure => simp [intOf]; omega
      · have g2 : ¬ (j : Int) < (i : Int) := by omega
        have hsp : Y = Y.take (j - i) ++ Y.drop (j - i) := (List.take_append_drop (j - i) Y).symm
        have l1 : (Y.take (j - i)).length = j - i := by rw [List.length_take]; have := HY.out; omega
        have l2 : (Y.drop (j - i)).length = i := by rw [List.length_drop, ← HY.out]; omega
        obtain ⟨Y1, hY1⟩ : ∃ Y1, Y1 = Y.take (j - i) := ⟨_, rfl⟩
        obtain ⟨Y2, hY2⟩ : ∃ Y2, Y2 = Y.drop (j - i) := ⟨_, rfl⟩
        rw [← hY1, ← hY2] at hsp
        rw [← hY1] at l1
        rw [← hY2] at l2
        have hrow : RowX base g n c (P' ++ X ++ Y1 ++ Y2 ++ Q') wr := by have := HR.out; rw [hsp] at this; simpa using this
        have htg : P ++ B ++ A ++ Q = P' ++ Y1 ++ Y2 ++ (X ++ Q') := by rw [HT.out, hsp]; simp
        have HT2 := Lib.hid htg
        have HL1 := Lib.hid l1
        have HL2 := Lib.hid l2
        obtain ⟨j2, hj2⟩ : ∃ j2, j2 = j - i := ⟨_, rfl⟩
        obtain ⟨q, hq⟩ : ∃ q, q = m + j - i := ⟨_, rfl⟩
        have z4 : (j : Int) - (i : Int) = (j2 : Int) := by omega
        have z5 : (m : Int) + (j : Int) - (i : Int) = (q : Int) := by omega
        have HJ2 := Lib.hid hj2
        have HQ := Lib.hid hq
        clear hsp hY1 hY2 l1 l2 htg hj2 hq
        go_wp2_with fail
        refine (swapRange_any base g n c p q i _ P' X Y1 Y2 Q' _ HX.out.symm HL2.out HP2.out (by have := HPP.out; have := HL1.out; have := HQ.out; omega) hn hrow).mono ?_
        rintro e w' ⟨rfl, hrow', hgr'⟩
        have HO' := Lib.hid hrow'
        have HG' := Lib.hid (grown_trans HG.out hgr')
        clear hrow' hgr' hrow
        go_wp2_with fail
        go_roundw
        case rel => exact ⟨i, j2, P', Y2, Y1, X ++ Q', rfl, by go_num, hi, by have := HJ2.out; omega, by have := HJ2.out; omega, by have := HJ2.out; omega, HL2.out.symm, by have := HL1.out; have := HJ2.out; omega, HPP.out, HT2.out, by have := HO'.out; simpa using this, HG'.out⟩
        case measure => simp [intOf]; omega
end Go.Proofs.YtkgojdmjagicdaaGreat
