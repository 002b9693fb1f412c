/- The library's symMerge on a list of names of one's own: one element before a list, one behind it. -/
import Derived.Test.YtpfbieehdkonhaaDoorDotU
namespace Go.Proofs.YtpfbieehdkonhaaDoor
open Go.RowKit

theorem at_mid {α : Type} (U R Q : List α) {t : Nat} (h : t < R.length) : (U ++ R ++ Q)[U.length + t]? = some R[t] := by
  rw [List.append_assoc, List.getElem?_append_right (by omega), show U.length + t - U.length = t by omega, List.getElem?_append_left h, List.getElem?_eq_getElem h]
/-- a search among those of R that come before x: the places up to u are before it, those from v on are not -/
def Bef (x : List UInt8) (R : List (List UInt8)) (u v : Nat) : Prop := u ≤ v ∧ v ≤ R.length ∧ (∀ y, 0 < u → R[u - 1]? = some y → cK y x = -1) ∧ (∀ y, R[v]? = some y → cK y x ≠ -1)
theorem Bef.start (x : List UInt8) (R : List (List UInt8)) : Bef x R 0 R.length := ⟨Nat.zero_le _, Nat.le_refl _, fun _ h => absurd h (by omega), fun y h => by rw [List.getElem?_eq_none (Nat.le_refl _)] at h; cases h⟩
theorem Bef.up {x y : List UInt8} {R : List (List UInt8)} {u v t : Nat} (h : Bef x R u v) (ht : t < v) (hy : R[t]? = some y) (hc : cK y x = -1) : Bef x R (t + 1) v :=
  ⟨ht, h.2.1, fun z _ hz => by rw [Nat.add_sub_cancel, hy] at hz; injection hz with hz; rw [← hz]; exact hc, h.2.2.2⟩
theorem Bef.down {x y : List UInt8} {R : List (List UInt8)} {u v t : Nat} (h : Bef x R u v) (h1 : u ≤ t) (ht : t < v) (hy : R[t]? = some y) (hc : cK y x ≠ -1) : Bef x R u t :=
  ⟨h1, by have := h.2.1; omega, h.2.2.1, fun z hz => by rw [hy] at hz; injection hz with hz; rw [← hz]; exact hc⟩
theorem Bef.done {x : List UInt8} {R : List (List UInt8)} {u : Nat} (h : Bef x R u u) (hs : Srt cK R) : Srt cK (R.take u ++ x :: R.drop u) ∧ St cK ([x] ++ R) (R.take u ++ x :: R.drop u) := by
  have hsp := List.take_append_drop u R
  have hs' := hs
  rw [← hsp] at hs'
  have h1 : ∀ z ∈ R.take u, ∀ y ∈ [x], cK z y = -1 := by
    refine all_lt cK_ord hs'.left (Srt.one x) ?_
    intro R' z e y L' e2
    injection e2 with e2 _
    subst e2
    have hl : R'.length + 1 = u := by
      have := congrArg List.length e
      rw [List.length_take] at this
      simp at this
      have := h.2.1
      omega
    refine h.2.2.1 z (by omega) ?_
    rw [← hsp, e, show u - 1 = R'.length by omega, List.append_assoc, List.getElem?_append_right (Nat.le_refl _)]
    simp
  have h2 : ∀ z ∈ [x], ∀ y ∈ R.drop u, cK y z ≠ -1 := by
    refine all_le cK_ord (Srt.one x) hs'.right ?_
    intro L' z e y R' e2
    have hz : x = z := by
      cases L' with
      | nil => injection e
      | cons _ t => injection e with _ e; cases t <;> cases e
    subst hz
    refine h.2.2.2 y ?_
    have := congrArg (·[0]?) e2
    simpa using this
  have := merge_done cK_ord (L1 := []) (L2 := [x]) (R1 := R.take u) (R2 := R.drop u) (M1 := R.take u) (M2 := [x] ++ R.drop u) (Srt.one x) hs' h1 (fun z hz => by cases hz) hs'.left (St.refl _)
    (List.pairwise_append.2 ⟨Srt.one x, hs'.right, h2⟩) (St.refl _)
  rw [hsp] at this
  simpa using this

set_option maxRecDepth 20000 in
set_option maxHeartbeats 4000000 in
theorem sym_left (base g n c a m b : Nat) (P R Q : List (List UInt8)) (x : List UInt8) (w : World) (ha : a = P.length) (hm : m = P.length + 1) (hb : b = P.length + 1 + R.length) (hs : Srt cK R) (hNx : (nameL x).isSome = true) (hNR : Nam R) (hn : n ≤ 1000000)
    (h : RowD base g n c (P ++ [x] ++ R ++ Q) w) :
    Calls Tryd.prog 55 #[.slice (some ⟨g, 0, none⟩) n c, .int .i64 (a : Nat), .int .i64 (m : Nat), .int .i64 (b : Nat), cmpF] w fun e w' =>
      e = .returned (.tuple #[]) ∧ ∃ M', Srt cK M' ∧ St cK ([x] ++ R) M' ∧ RowD base g n c (P ++ M' ++ Q) w' ∧ w.grownBy w' (some g) := by
  have hl := h.len
  simp only [List.length_append, List.length_cons, List.length_nil] at hl
  have z0 : (m : Int) - (a : Int) = 1 := by omega
  have hbn : b ≤ n := by omega
  have hmb : m ≤ b := by omega
  have hmn : m ≤ n := by omega
  have han : a < n := by omega
  have H := Lib.hid h
  have HA := Lib.hid ha
  have HM := Lib.hid hm
  have HB := Lib.hid hb
  have HS := Lib.hid hs
  have HNx := Lib.hid hNx
  have HNR := Lib.hid hNR
  clear h hl ha hm hb hs hNx hNR
  go_enter Tryd.func55, Tryd.ntmps55
  go_wp2_with fail
  go_loopw [10, 11] (fun i' j' wr => ∃ (i j u v : Nat), i' = .int .i64 (i : Nat) ∧ j' = .int .i64 (j : Nat) ∧ i = m + u ∧ j = m + v ∧ Bef x R u v ∧ RowD base g n c (P ++ [x] ++ R ++ Q) wr ∧ w.grownBy wr (some g)) (fun i' j' _ => (intOf j').toNat - (intOf i').toNat)
  case atStart => exact ⟨m, b, 0, R.length, rfl, rfl, rfl, by have := HM.out; have := HB.out; omega, Bef.start x R, H.out, World.grownBy.refl _ _⟩
  case round =>
    obtain ⟨i, j, u, v, rfl, rfl, hi, hj, hbf, hrow, hgr⟩ := hrel
    have HR := Lib.hid hrow
    have HG := Lib.hid hgr
    have HBF := Lib.hid hbf
    have HI := Lib.hid hi
    have HJ := Lib.hid hj
    have hvR := hbf.2.1
    have huv := hbf.1
    have hjb : j ≤ b := by have := HM.out; have := HB.out; omega
    have hij : i ≤ j := by omega
    clear hrow hgr hbf hi hj
    by_cases hlt : i < j
    · have g1 : (i : Int) < (j : Int) := by omega
      obtain ⟨k, hk⟩ : ∃ k, k = (i + j) / 2 := ⟨_, rfl⟩
      have hk1 : i ≤ k := by omega
      have hk2 : k < j := by omega
      have zk : ((i : Int) + (j : Int)) / 2 = (k : Int) := by omega
      clear hk
      have hkm : ∃ s, k = m + s ∧ s < R.length := ⟨k - m, by have := HI.out; omega, by have := HI.out; have := HM.out; have := HB.out; omega⟩
      obtain ⟨s, hs, hsR⟩ := hkm
      obtain ⟨y, hy⟩ : ∃ y, y = R[s] := ⟨_, rfl⟩
      have hyR : R[s]? = some y := by rw [List.getElem?_eq_getElem hsR, hy]
      have c1 := HR.out.cell (k := k) (x := y) (by have := at_mid (P ++ [x]) R Q hsR; rw [← hy] at this; rw [hs, HM.out]; simpa using this)
      have c2 := HR.out.cell (k := a) (x := x) (by rw [HA.out]; simp)
      have hkn : k < n := by omega
      have hglt : g < wr.heap.size := World.block_lt_of_cell? wr _ c1
      obtain ⟨X, hX⟩ : ∃ X, X = mk x := ⟨_, rfl⟩
      obtain ⟨Y, hY⟩ : ∃ Y, Y = mk y := ⟨_, rfl⟩
      rw [← hY] at c1
      rw [← hX] at c2
      have HX := Lib.hid hX
      have HY := Lib.hid hY
      have HNy := Lib.hid (HNR.out y (by rw [hy]; exact List.getElem_mem hsR))
      have d1 : ∀ q : Later wr, q.val.cell? ⟨g, k, none⟩ = some (.string Y) := fun q => (q.below.cell (p := ⟨g, k, none⟩) hglt).trans c1
      have d2 : ∀ q : Later wr, q.val.cell? ⟨g, a, none⟩ = some (.string X) := fun q => (q.below.cell (p := ⟨g, a, none⟩) hglt).trans c2
      have r1 : IntKind.i64.wrap (k : Int) = (k : Int) := by rw [IntKind.wrap_i64]; omega
      have r2 : IntKind.i64.wrap (a : Int) = (a : Int) := by rw [IntKind.wrap_i64]; omega
      obtain ⟨q', hq'⟩ : ∃ v, v = cK y x := ⟨_, rfl⟩
      have HV := Lib.hid hq'
      have HK := Lib.hid hs
      have HYR := Lib.hid hyR
      clear hX hY hy hq' c1 c2 hs hyR
      go_wp2_with fail
      refine region_later (by kernel_rfl) ?_
      repeat (quiet_step ((refine later_call (v := .int .i64 q') ?_; rw [HV.out]; exact Cmp_any Y X y x _ HY.out HX.out HNy.out HNx.out)))
      refine wpQuiet_nil ?_
      rintro _ ⟨q2, rfl⟩
      obtain ⟨W2, hB2⟩ := q2
      simp only []
      have HR2 := Lib.hid (HR.out.below hB2)
      have HG2 := Lib.hid (grown_trans HG.out (grown_below hB2 (some g)))
      clear d1 d2 r1 r2
      by_cases hv : q' < 0
      · have hvm : cK y x = -1 := by
          have := HV.out
          rcases cK_ord.range y x with h | h | h <;> omega
        have HBF2 := Lib.hid (HBF.out.up (t := s) (by have := HK.out; have := HJ.out; omega) HYR.out hvm)
        clear hvm
        go_wp2_with fail
        go_roundw
        case rel => exact ⟨k + 1, j, s + 1, v, by go_num, rfl, by have := HK.out; omega, HJ.out, HBF2.out, HR2.out, HG2.out⟩
        case measure => simp [intOf]; omega
      · have hvm : cK y x ≠ -1 := by have := HV.out; omega
        have HBF2 := Lib.hid (HBF.out.down (t := s) (by have := HK.out; have := HI.out; omega) (by have := HK.out; have := HJ.out; omega) HYR.out hvm)
        clear hvm
        go_wp2_with fail
        go_roundw
        case rel => exact ⟨i, k, u, s, rfl, rfl, HI.out, HK.out, HBF2.out, HR2.out, HG2.out⟩
        case measure => simp [intOf]; omega
    · obtain rfl : i = j := by omega
      obtain rfl : u = v := by have := HI.out; have := HJ.out; omega
      obtain ⟨k1, k2⟩ := HBF.out.done HS.out
      have K1 := Lib.hid k1
      have K2 := Lib.hid k2
      obtain ⟨lim, hlim⟩ : ∃ lim, lim = a + u := ⟨_, rfl⟩
      have z2 : (i : Int) - 1 = (lim : Int) := by have := HI.out; have := HM.out; have := HA.out; omega
      have HLIM := Lib.hid hlim
      clear k1 k2 hlim
      go_wp2_with fail
      go_loopw [13] (fun k' wr2 => ∃ (k t : Nat), k' = .int .i64 (k : Nat) ∧ k = a + t ∧ t ≤ u ∧ RowD base g n c (P ++ (R.take t ++ x :: R.drop t) ++ Q) wr2 ∧ w.grownBy wr2 (some g)) (fun k' _ => a + u - (intOf k').toNat)
      case atStart => exact ⟨a, 0, rfl, rfl, Nat.zero_le _, by have := HR.out; simpa using this, HG.out⟩
      case round =>
        obtain ⟨k, t, rfl, hk, htu, hrow, hgr⟩ := hrel
        have HR2 := Lib.hid hrow
        have HG2 := Lib.hid hgr
        have HK := Lib.hid hk
        have hkn : k < n := by have := HM.out; have := HB.out; omega
        clear hrow hgr hk
        by_cases hlt2 : t < u
        · have htR : t < R.length := by omega
          have hkn1 : k + 1 < n := by have := HK.out; have := HM.out; have := HB.out; have := HA.out; omega
          have g2 : (k : Int) < (lim : Int) := by have := HK.out; have := HLIM.out; omega
          obtain ⟨y, hy⟩ : ∃ y, y = R[t] := ⟨_, rfl⟩
          have hrow : RowD base g n c ((P ++ R.take t) ++ x :: ([] ++ y :: (R.drop (t + 1) ++ Q))) wr := by
            have := HR2.out
            rw [List.drop_eq_getElem_cons htR, ← hy] at this
            simpa only [List.append_assoc, List.cons_append, List.nil_append] using this
          have hlen : (P ++ R.take t).length = k := by have := HK.out; have := HA.out; rw [List.length_append, List.length_take]; omega
          obtain ⟨c1, c2, f1, f2, _, _, o2, g3⟩ := hrow.two (p := k) (q := k + 1) hlen.symm (by rw [hlen]; rfl)
          have o3 : RowD base g n c (P ++ (R.take (t + 1) ++ x :: R.drop (t + 1)) ++ Q) ((wr.setCell ⟨g, k, none⟩ (.string (mk y))).setCell ⟨g, k + 1, none⟩ (.string (mk x))) := by
            rw [List.take_succ_eq_append_getElem htR, ← hy]
            simpa only [List.append_assoc, List.cons_append, List.nil_append] using o2
          obtain ⟨X, hX⟩ : ∃ X, X = mk x := ⟨_, rfl⟩
          obtain ⟨Y, hY⟩ : ∃ Y, Y = mk y := ⟨_, rfl⟩
          rw [← hX] at c1 o3 g3
          rw [← hY] at c2 o3 g3
          obtain ⟨k', hk'⟩ : ∃ k', k' = k + 1 := ⟨_, rfl⟩
          rw [← hk'] at c2 o3 g3 f2 hkn1
          have z3 : (k : Int) + 1 = (k' : Int) := by omega
          have HO3 := Lib.hid o3
          have HG3 := Lib.hid (grown_trans HG2.out g3)
          have hne : (⟨g, k', none⟩ : Addr) ≠ ⟨g, k, none⟩ := by intro e; injection e with _ e _; omega
          have hkk : k < k' := by omega
          have HKK := Lib.hid hk'
          clear o2 o3 g3 hrow hlen hX hY hy hk'
          go_wp2_with fail
          go_region
          go_wp2_with fail
          go_roundw
          case rel => exact ⟨k', t + 1, by go_num, by have := HK.out; have := HKK.out; omega, by omega, HO3.out.drew, grown_drew HG3.out⟩
          case measure => simp [intOf]; have := HK.out; omega
        · obtain rfl : t = u := by omega
          have g2 : ¬ (k : Int) < (lim : Int) := by have := HK.out; have := HLIM.out; omega
          go_wp2_with fail
          refine bodyPost_ret (results_none rfl _ _ _) rfl ?_
          exact ⟨rfl, _, K1.out, K2.out, by simpa using HR2.out, HG2.out⟩
/-- a search among those of L that do not come behind y: the places up to u are not behind it, those from v on are -/
def Aft (y : List UInt8) (L : List (List UInt8)) (u v : Nat) : Prop := u ≤ v ∧ v ≤ L.length ∧ (∀ z, 0 < u → L[u - 1]? = some z → cK y z ≠ -1) ∧ (∀ z, L[v]? = some z → cK y z = -1)
theorem Aft.start (y : List UInt8) (L : List (List UInt8)) : Aft y L 0 L.length := ⟨Nat.zero_le _, Nat.le_refl _, fun _ h => absurd h (by omega), fun z h => by rw [List.getElem?_eq_none (Nat.le_refl _)] at h; cases h⟩
theorem Aft.up {y z : List UInt8} {L : List (List UInt8)} {u v t : Nat} (h : Aft y L u v) (ht : t < v) (hz : L[t]? = some z) (hc : cK y z ≠ -1) : Aft y L (t + 1) v :=
  ⟨ht, h.2.1, fun z' _ hz' => by rw [Nat.add_sub_cancel, hz] at hz'; injection hz' with hz'; rw [← hz']; exact hc, h.2.2.2⟩
theorem Aft.down {y z : List UInt8} {L : List (List UInt8)} {u v t : Nat} (h : Aft y L u v) (h1 : u ≤ t) (ht : t < v) (hz : L[t]? = some z) (hc : cK y z = -1) : Aft y L u t :=
  ⟨h1, by have := h.2.1; omega, h.2.2.1, fun z' hz' => by rw [hz] at hz'; injection hz' with hz'; rw [← hz']; exact hc⟩
theorem Aft.done {y : List UInt8} {L : List (List UInt8)} {u : Nat} (h : Aft y L u u) (hs : Srt cK L) : Srt cK (L.take u ++ y :: L.drop u) ∧ St cK (L ++ [y]) (L.take u ++ y :: L.drop u) := by
  have hsp := List.take_append_drop u L
  have hs' := hs
  rw [← hsp] at hs'
  have h1 : ∀ z ∈ [y], ∀ x ∈ L.drop u, cK z x = -1 := by
    refine all_lt cK_ord (Srt.one y) hs'.right ?_
    intro R' z e x L' e2
    have hz : y = z := by
      cases R' with
      | nil => injection e
      | cons _ t => injection e with _ e; cases t <;> cases e
    subst hz
    refine h.2.2.2 x ?_
    have := congrArg (·[0]?) e2
    simpa using this
  have h2 : ∀ z ∈ L.take u, ∀ x ∈ [y], cK x z ≠ -1 := by
    refine all_le cK_ord hs'.left (Srt.one y) ?_
    intro L' z e x R' e2
    injection e2 with e2 _
    subst e2
    have hl : L'.length + 1 = u := by
      have := congrArg List.length e
      rw [List.length_take] at this
      simp at this
      have := h.2.1
      omega
    refine h.2.2.1 z (by omega) ?_
    rw [← hsp, e, show u - 1 = L'.length by omega, List.append_assoc, List.getElem?_append_right (Nat.le_refl _)]
    simp
  have := merge_done cK_ord (L1 := L.take u) (L2 := L.drop u) (R1 := [y]) (R2 := []) (M1 := L.take u ++ [y]) (M2 := L.drop u) hs' (Srt.one y) h1 (fun z _ x hx => by cases hx)
    (List.pairwise_append.2 ⟨hs'.left, Srt.one y, h2⟩) (St.refl _) hs'.right (by rw [List.append_nil]; exact St.refl _)
  rw [hsp] at this
  simpa using this

set_option maxRecDepth 20000 in
set_option maxHeartbeats 4000000 in
theorem sym_right (base g n c a m b : Nat) (P L Q : List (List UInt8)) (y : List UInt8) (w : World) (ha : a = P.length) (hm : m = P.length + L.length) (hb : b = P.length + L.length + 1) (hL1 : L.length ≠ 1) (hs : Srt cK L) (hNy : (nameL y).isSome = true) (hNL : Nam L) (hn : n ≤ 1000000)
    (h : RowD base g n c (P ++ L ++ [y] ++ Q) w) :
    Calls Tryd.prog 55 #[.slice (some ⟨g, 0, none⟩) n c, .int .i64 (a : Nat), .int .i64 (m : Nat), .int .i64 (b : Nat), cmpF] w fun e w' =>
      e = .returned (.tuple #[]) ∧ ∃ M', Srt cK M' ∧ St cK (L ++ [y]) M' ∧ RowD base g n c (P ++ M' ++ Q) w' ∧ w.grownBy w' (some g) := by
  have hl := h.len
  simp only [List.length_append, List.length_cons, List.length_nil] at hl
  obtain ⟨L0, hL0⟩ : ∃ L0, L0 = L.length := ⟨_, rfl⟩
  have z0 : (m : Int) - (a : Int) = (L0 : Int) := by omega
  have g0 : ((L0 : Int) == 1) = false := by rw [beq_eq_false_iff_ne]; omega
  have z1 : (b : Int) - (m : Int) = 1 := by omega
  have hbn : b ≤ n := by omega
  have hmb : m ≤ b := by omega
  have hmn : m ≤ n := by omega
  have han : a < n := by omega
  have H := Lib.hid h
  have HA := Lib.hid ha
  have HM := Lib.hid hm
  have HB := Lib.hid hb
  have HS := Lib.hid hs
  have ham : a ≤ m := by omega
  have hmn' : m < n := by omega
  have HNy := Lib.hid hNy
  have HNL := Lib.hid hNL
  clear h hl ha hm hb hs hNy hNL hL1 hL0
  go_enter Tryd.func55, Tryd.ntmps55
  go_wp2_with fail
  go_loopw [14, 15] (fun i' j' wr => ∃ (i j u v : Nat), i' = .int .i64 (i : Nat) ∧ j' = .int .i64 (j : Nat) ∧ i = a + u ∧ j = a + v ∧ Aft y L u v ∧ RowD base g n c (P ++ L ++ [y] ++ Q) wr ∧ w.grownBy wr (some g)) (fun i' j' _ => (intOf j').toNat - (intOf i').toNat)
  case atStart => exact ⟨a, m, 0, L.length, rfl, rfl, rfl, by have := HM.out; have := HA.out; omega, Aft.start y L, H.out, World.grownBy.refl _ _⟩
  case round =>
    obtain ⟨i, j, u, v, rfl, rfl, hi, hj, hbf, hrow, hgr⟩ := hrel
    have HR := Lib.hid hrow
    have HG := Lib.hid hgr
    have HBF := Lib.hid hbf
    have HI := Lib.hid hi
    have HJ := Lib.hid hj
    have hvR := hbf.2.1
    have huv := hbf.1
    have hjb : j ≤ m := by have := HM.out; have := HA.out; omega
    have hij : i ≤ j := by omega
    clear hrow hgr hbf hi hj
    by_cases hlt : i < j
    · have g1 : (i : Int) < (j : Int) := by omega
      obtain ⟨k, hk⟩ : ∃ k, k = (i + j) / 2 := ⟨_, rfl⟩
      have hk1 : i ≤ k := by omega
      have hk2 : k < j := by omega
      have zk : ((i : Int) + (j : Int)) / 2 = (k : Int) := by omega
      clear hk
      have hkm : ∃ s, k = a + s ∧ s < L.length := ⟨k - a, by have := HI.out; omega, by have := HI.out; have := HM.out; have := HA.out; omega⟩
      obtain ⟨s, hs, hsR⟩ := hkm
      obtain ⟨x, hx⟩ : ∃ x, x = L[s] := ⟨_, rfl⟩
      have hxL : L[s]? = some x := by rw [List.getElem?_eq_getElem hsR, hx]
      have c1 := HR.out.cell (k := k) (x := x) (by have := at_mid P L ([y] ++ Q) hsR; rw [← hx] at this; rw [hs, HA.out]; simpa using this)
      have c2 := HR.out.cell (k := m) (x := y) (by rw [HM.out]; simp)
      have hkn : k < n := by omega
      have hglt : g < wr.heap.size := World.block_lt_of_cell? wr _ c1
      obtain ⟨X, hX⟩ : ∃ X, X = mk x := ⟨_, rfl⟩
      obtain ⟨Y, hY⟩ : ∃ Y, Y = mk y := ⟨_, rfl⟩
      rw [← hX] at c1
      rw [← hY] at c2
      have HX := Lib.hid hX
      have HY := Lib.hid hY
      have HNx := Lib.hid (HNL.out x (by rw [hx]; exact List.getElem_mem hsR))
      have d1 : ∀ q : Later wr, q.val.cell? ⟨g, k, none⟩ = some (.string X) := fun q => (q.below.cell (p := ⟨g, k, none⟩) hglt).trans c1
      have d2 : ∀ q : Later wr, q.val.cell? ⟨g, m, none⟩ = some (.string Y) := fun q => (q.below.cell (p := ⟨g, m, none⟩) hglt).trans c2
      have r1 : IntKind.i64.wrap (k : Int) = (k : Int) := by rw [IntKind.wrap_i64]; omega
      have r2 : IntKind.i64.wrap (m : Int) = (m : Int) := by rw [IntKind.wrap_i64]; omega
      obtain ⟨q', hq'⟩ : ∃ v, v = cK y x := ⟨_, rfl⟩
      have HV := Lib.hid hq'
      have HK := Lib.hid hs
      have HXL := Lib.hid hxL
      clear hX hY hx hq' c1 c2 hs hxL
      go_wp2_with fail
      refine region_later (by kernel_rfl) ?_
      repeat (quiet_step ((refine later_call (v := .int .i64 q') ?_; rw [HV.out]; exact Cmp_any Y X y x _ HY.out HX.out HNy.out HNx.out)))
      refine wpQuiet_nil ?_
      rintro _ ⟨q2, rfl⟩
      obtain ⟨W2, hB2⟩ := q2
      simp only []
      have HR2 := Lib.hid (HR.out.below hB2)
      have HG2 := Lib.hid (grown_trans HG.out (grown_below hB2 (some g)))
      clear d1 d2 r1 r2
      by_cases hv : q' < 0
      · have gq : (!decide (q' < 0)) = false := by simp [hv]
        have hvm : cK y x = -1 := by
          have := HV.out
          rcases cK_ord.range y x with h | h | h <;> omega
        have HBF2 := Lib.hid (HBF.out.down (t := s) (by have := HK.out; have := HI.out; omega) (by have := HK.out; have := HJ.out; omega) HXL.out hvm)
        clear hvm
        rw [gq]
        clear gq
        go_wp2_with fail
        go_roundw
        case rel => exact ⟨i, k, u, s, rfl, rfl, HI.out, HK.out, HBF2.out, HR2.out, HG2.out⟩
        case measure => simp [intOf]; omega
      · have gq : (!decide (q' < 0)) = true := by simp [hv]
        have hvm : cK y x ≠ -1 := by have := HV.out; omega
        have HBF2 := Lib.hid (HBF.out.up (t := s) (by have := HK.out; have := HJ.out; omega) HXL.out hvm)
        clear hvm
        rw [gq]
        clear gq
        go_wp2_with fail
        go_roundw
        case rel => exact ⟨k + 1, j, s + 1, v, by go_num, rfl, by have := HK.out; omega, HJ.out, HBF2.out, HR2.out, HG2.out⟩
        case measure => simp [intOf]; omega
    · obtain rfl : i = j := by omega
      obtain rfl : u = v := by have := HI.out; have := HJ.out; omega
      obtain ⟨k1, k2⟩ := HBF.out.done HS.out
      have K1 := Lib.hid k1
      have K2 := Lib.hid k2
      clear k1 k2
      go_wp2_with fail
      go_loopw [17] (fun k' wr2 => ∃ (k t : Nat), k' = .int .i64 (k : Nat) ∧ k = a + t ∧ u ≤ t ∧ t ≤ L.length ∧ RowD base g n c (P ++ (L.take t ++ y :: L.drop t) ++ Q) wr2 ∧ w.grownBy wr2 (some g)) (fun k' _ => (intOf k').toNat)
      case atStart => exact ⟨m, L.length, rfl, by have := HM.out; have := HA.out; omega, hvR, Nat.le_refl _, by have := HR.out; rw [List.take_of_length_le (Nat.le_refl _), List.drop_of_length_le (Nat.le_refl _)]; simpa using this, HG.out⟩
      case round =>
        obtain ⟨k, t, rfl, hk, htu, htL, hrow, hgr⟩ := hrel
        have HR2 := Lib.hid hrow
        have HG2 := Lib.hid hgr
        have HK := Lib.hid hk
        have hkn : k < n := by have := HM.out; have := HA.out; omega
        clear hrow hgr hk
        by_cases hlt2 : u < t
        · have g2 : (i : Int) < (k : Int) := by have := HK.out; have := HI.out; omega
          obtain ⟨t', ht'⟩ : ∃ t', t' + 1 = t := ⟨t - 1, by omega⟩
          have htR : t' < L.length := by omega
          obtain ⟨z, hz⟩ : ∃ z, z = L[t'] := ⟨_, rfl⟩
          obtain ⟨p, hp⟩ : ∃ p, p + 1 = k := ⟨k - 1, by have := HK.out; omega⟩
          have hrow : RowD base g n c ((P ++ L.take t') ++ z :: ([] ++ y :: (L.drop t ++ Q))) wr := by
            have := HR2.out
            rw [← ht', List.take_succ_eq_append_getElem htR, ← hz, ht'] at this
            simpa only [List.append_assoc, List.cons_append, List.nil_append] using this
          have hlen : (P ++ L.take t').length = p := by have := HK.out; have := HA.out; rw [List.length_append, List.length_take]; omega
          obtain ⟨c1, c2, f1, f2, hpn, _, _, _⟩ := hrow.two (p := p) (q := k) hlen.symm (by rw [hlen]; simp; omega)
          obtain ⟨o2, g3⟩ := hrow.two' (p := p) (q := k) hlen.symm (by rw [hlen]; simp; omega)
          have o3 : RowD base g n c (P ++ (L.take t' ++ y :: L.drop t') ++ Q) ((wr.setCell ⟨g, k, none⟩ (.string (mk z))).setCell ⟨g, p, none⟩ (.string (mk y))) := by
            rw [List.drop_eq_getElem_cons htR, ← hz, ht']
            simpa only [List.append_assoc, List.cons_append, List.nil_append] using o2
          obtain ⟨Z, hZ⟩ : ∃ Z, Z = mk z := ⟨_, rfl⟩
          obtain ⟨Y, hY⟩ : ∃ Y, Y = mk y := ⟨_, rfl⟩
          rw [← hZ] at c1 o3 g3
          rw [← hY] at c2 o3 g3
          have z3 : (k : Int) - 1 = (p : Int) := by omega
          have HO3 := Lib.hid o3
          have HG3 := Lib.hid (grown_trans HG2.out g3)
          have hne : (⟨g, p, none⟩ : Addr) ≠ ⟨g, k, none⟩ := by intro e; injection e with _ e _; omega
          have hkk : p < k := by omega
          have HPK := Lib.hid hp
          have HTT := Lib.hid ht'
          clear o2 o3 g3 hrow hlen hZ hY hz hp ht'
          go_wp2_with fail
          go_region
          go_wp2_with fail
          go_roundw
          case rel => exact ⟨p, t', by go_num, by have := HK.out; have := HPK.out; have := HTT.out; omega, by have := HTT.out; omega, by have := HTT.out; omega, HO3.out.drew, grown_drew HG3.out⟩
          case measure => simp [intOf]; omega
        · obtain rfl : t = u := by omega
          have g2 : ¬ (i : Int) < (k : Int) := by have := HK.out; have := HI.out; omega
          go_wp2_with fail
          refine bodyPost_ret (results_none rfl _ _ _) rfl ?_
          exact ⟨rfl, _, K1.out, K2.out, by simpa using HR2.out, HG2.out⟩
end Go.Proofs.YtpfbieehdkonhaaDoor
