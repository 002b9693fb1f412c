/- The library's symMerge on a list of names of one's own: one element before a list, one behind it. -/
import Derived.Test.YtkgojdmjagicdaaGreatRsU
namespace Go.Proofs.YtkgojdmjagicdaaGreat
open Go.RowKit

theorem at_mid {α : Type} (U R Q : List α) {t : Nat} (h : t < R.length) : (U ++ R ++ Q)[U.length + t]? = some R[t] := by
  rw [List.append_assoc, List.getElem?_append_right (by omega), show U.length + t - U.length = t by omega, List.getElem?_append_left h, List.getElem?_eq_getElem h]
/-- a search among those of R that come before x: the places up to u are before it, those from v on are not -/
def Bef (x : Rrd) (R : List Rrd) (u v : Nat) : Prop := u ≤ v ∧ v ≤ R.length ∧ (∀ y, 0 < u → R[u - 1]? = some y → cX y x = -1) ∧ (∀ y, R[v]? = some y → cX y x ≠ -1)
theorem Bef.start (x : Rrd) (R : List Rrd) : Bef x R 0 R.length := ⟨Nat.zero_le _, Nat.le_refl _, fun _ h => absurd h (by omega), fun y h => by rw [List.getElem?_eq_none (Nat.le_refl _)] at h; cases h⟩
theorem Bef.up {x y : Rrd} {R : List Rrd} {u v t : Nat} (h : Bef x R u v) (ht : t < v) (hy : R[t]? = some y) (hc : cX y x = -1) : Bef x R (t + 1) v :=
  ⟨ht, h.2.1, fun z _ hz => by rw [Nat.add_sub_cancel, hy] at hz; injection hz with hz; rw [← hz]; exact hc, h.2.2.2⟩
theorem Bef.down {x y : Rrd} {R : List Rrd} {u v t : Nat} (h : Bef x R u v) (h1 : u ≤ t) (ht : t < v) (hy : R[t]? = some y) (hc : cX y x ≠ -1) : Bef x R u t :=
  ⟨h1, by have := h.2.1; omega, h.2.2.1, fun z hz => by rw [hy] at hz; injection hz with hz; rw [← hz]; exact hc⟩
theorem Bef.done {x : Rrd} {R : List Rrd} {u : Nat} (h : Bef x R u u) (hs : Srt cX R) : Srt cX (R.take u ++ x :: R.drop u) ∧ St cX ([x] ++ R) (R.take u ++ x :: R.drop u) := by
  have hsp := List.take_append_drop u R
  have hs' := hs
  rw [← hsp] at hs'
  have h1 : ∀ z ∈ R.take u, ∀ y ∈ [x], cX z y = -1 := by
    refine all_lt cX_ord hs'.left (Srt.one x) ?_
    intro R' z e y L' e2
    injection e2 with e2 _
    subst e2
    have hl : R'.length + 1 = u := by
      have := congrArg List.length e
      rw [List.length_take] at this
      simp at this
      have := h.2.1
      omega
    refine h.2.2.1 z (by omega) ?_
    rw [← hsp, e, show u - 1 = R'.length by omega, List.append_assoc, List.getElem?_append_right (Nat.le_refl _)]
    simp
  have h2 : ∀ z ∈ [x], ∀ y ∈ R.drop u, cX y z ≠ -1 := by
    refine all_le cX_ord (Srt.one x) hs'.right ?_
    intro L' z e y R' e2
    have hz : x = z := by
      cases L' with
      | nil => injection e
      | cons _ t => injection e with _ e; cases t <;> cases e
    subst hz
    refine h.2.2.2 y ?_
    have := congrArg (·[0]?) e2
    simpa using this
  have := merge_done cX_ord (L1 := []) (L2 := [x]) (R1 := R.take u) (R2 := R.drop u) (M1 := R.take u) (M2 := [x] ++ R.drop u) (Srt.one x) hs' h1 (fun z hz => by cases hz) hs'.left (St.refl _)
    (List.pairwise_append.2 ⟨Srt.one x, hs'.right, h2⟩) (St.refl _)
  rw [hsp] at this
  simpa using this

set_option maxRecDepth 20000 in
set_option maxHeartbeats 4000000 in
theorem sym_left (base g n c a m b : Nat) (P R Q : List Rrd) (x : Rrd) (w : World) (ha : a = P.length) (hm : m = P.length + 1) (hb : b = P.length + 1 + R.length) (hs : Srt cX R) (hNx : OkX x) (hNR : OkL R) (hn : n ≤ 1000000)
    (h : RowX base g n c (P ++ [x] ++ R ++ Q) w) :
    Calls Tryz.prog 62 #[.slice (some ⟨g, 0, none⟩) n c, .int .i64 (a : Nat), .int .i64 (m : Nat), .int .i64 (b : Nat), cmpF] w fun e w' =>
      e = .returned (.tuple #[]) ∧ ∃ M', Srt cX M' ∧ St cX ([x] ++ R) M' ∧ RowX base g n c (P ++ M' ++ Q) w' ∧ w.grownBy w' (some g) := by
  have hl := h.len
  simp only [List.length_append, List.length_cons, List.length_nil] at hl
  have z0 : (m : Int) - (a : Int) = 1 := by omega
  have hbn : b ≤ n := by omega
  have hmb : m ≤ b := by omega
  have hmn : m ≤ n := by omega
  have han : a < n := by omega
  have H := Lib.hid h
  have HA := Lib.hid ha
  have HM := Lib.hid hm
  have HB := Lib.hid hb
  have HS := Lib.hid hs
  have HNx := Lib.hid hNx
  have HNR := Lib.hid hNR
  clear h hl ha hm hb hs hNx hNR
  go_enter Tryz.func62, Tryz.ntmps62
  go_wp2_with fail
  go_loopw [10, 11] (fun i' j' wr => ∃ (i j u v : Nat), i' = .int .i64 (i : Nat) ∧ j' = .int .i64 (j : Nat) ∧ i = m + u ∧ j = m + v ∧ Bef x R u v ∧ RowX base g n c (P ++ [x] ++ R ++ Q) wr ∧ w.grownBy wr (some g)) (fun i' j' _ => (intOf j').toNat - (intOf i').toNat)
  case atStart => exact ⟨m, b, 0, R.length, rfl, rfl, rfl, by have := HM.out; have := HB.out; omega, Bef.start x R, H.out, World.grownBy.refl _ _⟩
  case round =>
    obtain ⟨i, j, u, v, rfl, rfl, hi, hj, hbf, hrow, hgr⟩ := hrel
    have HR := Lib.hid hrow
    have HG := Lib.hid hgr
    have HBF := Lib.hid hbf
    have HI := Lib.hid hi
    have HJ := Lib.hid hj
    have hvR := hbf.2.1
    have huv := hbf.1
    have hjb : j ≤ b := by have := HM.out; have := HB.out; omega
    have hij : i ≤ j := by omega
    clear hrow hgr hbf hi hj
    by_cases hlt : i < j
    · have g1 : (i : Int) < (j : Int) := by omega
      obtain ⟨k, hk⟩ : ∃ k, k = (i + j) / 2 := ⟨_, rfl⟩
      have hk1 : i ≤ k := by omega
      have hk2 : k < j := by omega
      have zk : ((i : Int) + (j : Int)) / 2 = (k : Int) := by omega
      clear hk
      have hkm : ∃ s, k = m + s ∧ s < R.length := ⟨k - m, by have := HI.out; omega, by have := HI.out; have := HM.out; have := HB.out; omega⟩
      obtain ⟨s, hs, hsR⟩ := hkm
      obtain ⟨y, hy⟩ : ∃ y, y = R[s] := ⟨_, rfl⟩
      have hyR : R[s]? = some y := by rw [List.getElem?_eq_getElem hsR, hy]
      have hf1 := HR.out.five (k := k) (x := y) (by have := at_mid (P ++ [x]) R Q hsR; rw [← hy] at this; rw [hs, HM.out]; simpa using this)
      have hf2 := HR.out.five (k := a) (x := x) (by rw [HA.out]; simp)
      have hkn : k < n := by omega
      have hglt : g < wr.heap.size := HR.out.lt
      have HNy := Lib.hid (HNR.out y (by rw [hy]; exact List.getElem_mem hsR))
      obtain ⟨d0, d1, d2, d3, d4⟩ := hf1.later hglt
      obtain ⟨e0, e1, e2, e3, e4⟩ := hf2.later hglt
      have r1 : IntKind.i64.wrap (k : Int) = (k : Int) := by rw [IntKind.wrap_i64]; omega
      have r2 : IntKind.i64.wrap (a : Int) = (a : Int) := by rw [IntKind.wrap_i64]; omega
      obtain ⟨q', hq'⟩ : ∃ v, v = cX y x := ⟨_, rfl⟩
      have HC := Lib.hid (show ∀ q : Later wr, Calls Tryz.prog 16 #[.agg #[.string y.s, .int .i64 y.t, .int .i64 y.c, .int .i64 y.l, .string y.d], .agg #[.string x.s, .int .i64 x.t, .int .i64 x.c, .int .i64 x.l, .string x.d]] q.val fun e w'' => e = .returned (.int .i64 q') ∧ ∃ q'' : Later wr, w'' = q''.val from
        fun q => later_call (by rw [hq']; exact cmpC_any HNy.out HNx.out _))
      have HV := Lib.hid hq'
      have HK := Lib.hid hs
      have HYR := Lib.hid hyR
      clear hy hq' hf1 hf2 hs hyR
      go_wp2_with fail
      refine region_later (by kernel_rfl) ?_
      repeat (go_big_quiet_step ((go_at_call 16; with_reducible exact HC.out _)))
      refine wpQuiet_nil ?_
      rintro _ ⟨q2, rfl⟩
      obtain ⟨W2, hB2⟩ := q2
      simp only []
      have HR2 := Lib.hid (HR.out.below hB2)
      have HG2 := Lib.hid (grown_trans HG.out (grown_below hB2 (some g)))
      clear d0 d1 d2 d3 d4 e0 e1 e2 e3 e4 r1 r2
      by_cases hv : q' < 0
      · have hvm : cX y x = -1 := by
          have := HV.out
          rcases cX_ord.range y x with h | h | h <;> omega
        have HBF2 := Lib.hid (HBF.out.up (t := s) (by have := HK.out; have := HJ.out; omega) HYR.out hvm)
        clear hvm
        go_wp2_with fail
        go_roundw
        case rel => exact ⟨k + 1, j, s + 1, v, by go_num, rfl, by have := HK.out; omega, HJ.out, HBF2.out, HR2.out, HG2.out⟩
        case measure => simp [intOf]; omega
      · have hvm : cX y x ≠ -1 := by have := HV.out; omega
        have HBF2 := Lib.hid (HBF.out.down (t := s) (by have := HK.out; have := HI.out; omega) (by have := HK.out; have := HJ.out; omega) HYR.out hvm)
        clear hvm
        go_wp2_with fail
        go_roundw
        case rel => exact ⟨i, k, u, s, rfl, rfl, HI.out, HK.out, HBF2.out, HR2.out, HG2.out⟩
        case measure => simp [intOf]; omega
    · obtain rfl : i = j := by omega
      obtain rfl : u = v := by have := HI.out; have := HJ.out; omega
      obtain ⟨k1, k2⟩ := HBF.out.done HS.out
      have K1 := Lib.hid k1
      have K2 := Lib.hid k2
      obtain ⟨lim, hlim⟩ : ∃ lim, lim = a + u := ⟨_, rfl⟩
      have z2 : (i : Int) - 1 = (lim : Int) := by have := HI.out; have := HM.out; have := HA.out; omega
      have HLIM := Lib.hid hlim
      clear k1 k2 hlim
      go_wp2_with fail
      go_loopw [13] (fun k' wr2 => ∃ (k t : Nat), k' = .int .i64 (k : Nat) ∧ k = a + t ∧ t ≤ u ∧ RowX base g n c (P ++ (R.take t ++ x :: R.drop t) ++ Q) wr2 ∧ w.grownBy wr2 (some g)) (fun k' _ => a + u - (intOf k').toNat)
      case atStart => exact ⟨a, 0, rfl, rfl, Nat.zero_le _, by have := HR.out; simpa using this, HG.out⟩
      case round =>
        obtain ⟨k, t, rfl, hk, htu, hrow, hgr⟩ := hrel
        have HR2 := Lib.hid hrow
        have HG2 := Lib.hid hgr
        have HK := Lib.hid hk
        have hkn : k < n := by have := HM.out; have := HB.out; omega
        clear hrow hgr hk
        by_cases hlt2 : t < u
        · have htR : t < R.length := by omega
          have hkn1 : k + 1 < n := by have := HK.out; have := HM.out; have := HB.out; have := HA.out; omega
          have g2 : (k : Int) < (lim : Int) := by have := HK.out; have := HLIM.out; omega
          obtain ⟨y, hy⟩ : ∃ y, y = R[t] := ⟨_, rfl⟩
          have hrow : RowX base g n c ((P ++ R.take t) ++ x :: ([] ++ y :: (R.drop (t + 1) ++ Q))) wr := by
            have := HR2.out
            rw [List.drop_eq_getElem_cons htR, ← hy] at this
            simpa only [List.append_assoc, List.cons_append, List.nil_append] using this
          have hlen : (P ++ R.take t).length = k := by have := HK.out; have := HA.out; rw [List.length_append, List.length_take]; omega
          obtain ⟨k', hk'⟩ : ∃ k', k' = k + 1 := ⟨_, rfl⟩
          obtain ⟨⟨a0, a1, a2, a3, a4⟩, ⟨b0, b1, b2, b3, b4⟩, _, _, o2, g3⟩ := hrow.two (p := k) (q := k') hlen.symm (by rw [hlen, hk']; rfl)
          have o3 : RowX base g n c (P ++ (R.take (t + 1) ++ x :: R.drop (t + 1)) ++ Q) (put5 (put5 wr g (k * 5) y) g (k' * 5) x) := by
            rw [List.take_succ_eq_append_getElem htR, ← hy]
            simpa only [List.append_assoc, List.cons_append, List.nil_append] using o2
          obtain ⟨s0, s1, s2, s3, s4⟩ := hrow.softs (k * 5)
          obtain ⟨t0, t1, t2, t3, t4⟩ := hrow.softs (k' * 5)
          rw [← hk'] at hkn1
          have z3 : (k : Int) + 1 = (k' : Int) := by omega
          have HO3 := Lib.hid o3
          have HG3 := Lib.hid (grown_trans HG2.out g3)
          have hkk : k < k' := by omega
          have hfar := far5 g (p := k) (q := k') (by omega)
          have n00 : (⟨g, k' * 5, none⟩ : Addr) ≠ ⟨g, k * 5, none⟩ := hfar 0 0 (by decide) (by decide)
          have n01 : (⟨g, k' * 5 + 1, none⟩ : Addr) ≠ ⟨g, k * 5, none⟩ := hfar 0 1 (by decide) (by decide)
          have n02 : (⟨g, k' * 5 + 2, none⟩ : Addr) ≠ ⟨g, k * 5, none⟩ := hfar 0 2 (by decide) (by decide)
          have n03 : (⟨g, k' * 5 + 3, none⟩ : Addr) ≠ ⟨g, k * 5, none⟩ := hfar 0 3 (by decide) (by decide)
          have n04 : (⟨g, k' * 5 + 4, none⟩ : Addr) ≠ ⟨g, k * 5, none⟩ := hfar 0 4 (by decide) (by decide)
          have n10 : (⟨g, k' * 5, none⟩ : Addr) ≠ ⟨g, k * 5 + 1, none⟩ := hfar 1 0 (by decide) (by decide)
          have n11 : (⟨g, k' * 5 + 1, none⟩ : Addr) ≠ ⟨g, k * 5 + 1, none⟩ := hfar 1 1 (by decide) (by decide)
          have n12 : (⟨g, k' * 5 + 2, none⟩ : Addr) ≠ ⟨g, k * 5 + 1, none⟩ := hfar 1 2 (by decide) (by decide)
          have n13 : (⟨g, k' * 5 + 3, none⟩ : Addr) ≠ ⟨g, k * 5 + 1, none⟩ := hfar 1 3 (by decide) (by decide)
          have n14 : (⟨g, k' * 5 + 4, none⟩ : Addr) ≠ ⟨g, k * 5 + 1, none⟩ := hfar 1 4 (by decide) (by decide)
          have n20 : (⟨g, k' * 5, none⟩ : Addr) ≠ ⟨g, k * 5 + 2, none⟩ := hfar 2 0 (by decide) (by decide)
          have n21 : (⟨g, k' * 5 + 1, none⟩ : Addr) ≠ ⟨g, k * 5 + 2, none⟩ := hfar 2 1 (by decide) (by decide)
          have n22 : (⟨g, k' * 5 + 2, none⟩ : Addr) ≠ ⟨g, k * 5 + 2, none⟩ := hfar 2 2 (by decide) (by decide)
          have n23 : (⟨g, k' * 5 + 3, none⟩ : Addr) ≠ ⟨g, k * 5 + 2, none⟩ := hfar 2 3 (by decide) (by decide)
          have n24 : (⟨g, k' * 5 + 4, none⟩ : Addr) ≠ ⟨g, k * 5 + 2, none⟩ := hfar 2 4 (by decide) (by decide)
          have n30 : (⟨g, k' * 5, none⟩ : Addr) ≠ ⟨g, k * 5 + 3, none⟩ := hfar 3 0 (by decide) (by decide)
          have n31 : (⟨g, k' * 5 + 1, none⟩ : Addr) ≠ ⟨g, k * 5 + 3, none⟩ := hfar 3 1 (by decide) (by decide)
          have n32 : (⟨g, k' * 5 + 2, none⟩ : Addr) ≠ ⟨g, k * 5 + 3, none⟩ := hfar 3 2 (by decide) (by decide)
          have n33 : (⟨g, k' * 5 + 3, none⟩ : Addr) ≠ ⟨g, k * 5 + 3, none⟩ := hfar 3 3 (by decide) (by decide)
          have n34 : (⟨g, k' * 5 + 4, none⟩ : Addr) ≠ ⟨g, k * 5 + 3, none⟩ := hfar 3 4 (by decide) (by decide)
          have n40 : (⟨g, k' * 5, none⟩ : Addr) ≠ ⟨g, k * 5 + 4, none⟩ := hfar 4 0 (by decide) (by decide)
          have n41 : (⟨g, k' * 5 + 1, none⟩ : Addr) ≠ ⟨g, k * 5 + 4, none⟩ := hfar 4 1 (by decide) (by decide)
          have n42 : (⟨g, k' * 5 + 2, none⟩ : Addr) ≠ ⟨g, k * 5 + 4, none⟩ := hfar 4 2 (by decide) (by decide)
          have n43 : (⟨g, k' * 5 + 3, none⟩ : Addr) ≠ ⟨g, k * 5 + 4, none⟩ := hfar 4 3 (by decide) (by decide)
          have n44 : (⟨g, k' * 5 + 4, none⟩ : Addr) ≠ ⟨g, k * 5 + 4, none⟩ := hfar 4 4 (by decide) (by decide)
          clear hfar
          have HKK := Lib.hid hk'
          clear o2 o3 g3 hrow hlen hy hk'
          go_wp2_with fail
          go_region
          go_wp2_with fail
          go_roundw
          case rel => exact ⟨k', t + 1, by go_num, by have := HK.out; have := HKK.out; omega, by omega, HO3.out.drew, grown_drew HG3.out⟩
          case measure => simp [intOf]; have := HK.out; omega
        · obtain rfl : t = u := by omega
          have g2 : ¬ (k : Int) < (lim : Int) := by have := HK.out; have := HLIM.out; omega
          go_wp2_with fail
          refine bodyPost_ret (results_none rfl _ _ _) rfl ?_
          exact ⟨rfl, _, K1.out, K2.out, by simpa using HR2.out, HG2.out⟩
/-- a search among those of L that do not come behind y: the places up to u are not behind it, those from v on are -/
def Aft (y : Rrd) (L : List Rrd) (u v : Nat) : Prop := u ≤ v ∧ v ≤ L.length ∧ (∀ z, 0 < u → L[u - 1]? = some z → cX y z ≠ -1) ∧ (∀ z, L[v]? = some z → cX y z = -1)
theorem Aft.start (y : Rrd) (L : List Rrd) : Aft y L 0 L.length := ⟨Nat.zero_le _, Nat.le_refl _, fun _ h => absurd h (by omega), fun z h => by rw [List.getElem?_eq_none (Nat.le_refl _)] at h; cases h⟩
theorem Aft.up {y z : Rrd} {L : List Rrd} {u v t : Nat} (h : Aft y L u v) (ht : t < v) (hz : L[t]? = some z) (hc : cX y z ≠ -1) : Aft y L (t + 1) v :=
  ⟨ht, h.2.1, fun z' _ hz' => by rw [Nat.add_sub_cancel, hz] at hz'; injection hz' with hz'; rw [← hz']; exact hc, h.2.2.2⟩
theorem Aft.down {y z : Rrd} {L : List Rrd} {u v t : Nat} (h : Aft y L u v) (h1 : u ≤ t) (ht : t < v) (hz : L[t]? = some z) (hc : cX y z = -1) : Aft y L u t :=
  ⟨h1, by have := h.2.1; omega, h.2.2.1, fun z' hz' => by rw [hz] at hz'; injection hz' with hz'; rw [← hz']; exact hc⟩
theorem Aft.done {y : Rrd} {L : List Rrd} {u : Nat} (h : Aft y L u u) (hs : Srt cX L) : Srt cX (L.take u ++ y :: L.drop u) ∧ St cX (L ++ [y]) (L.take u ++ y :: L.drop u) := by
  have hsp := List.take_append_drop u L
  have hs' := hs
  rw [← hsp] at hs'
  have h1 : ∀ z ∈ [y], ∀ x ∈ L.drop u, cX z x = -1 := by
    refine all_lt cX_ord (Srt.one y) hs'.right ?_
    intro R' z e x L' e2
    have hz : y = z := by
      cases R' with
      | nil => injection e
      | cons _ t => injection e with _ e; cases t <;> cases e
    subst hz
    refine h.2.2.2 x ?_
    have := congrArg (·[0]?) e2
    simpa using this
  have h2 : ∀ z ∈ L.take u, ∀ x ∈ [y], cX x z ≠ -1 := by
    refine all_le cX_ord hs'.left (Srt.one y) ?_
    intro L' z e x R' e2
    injection e2 with e2 _
    subst e2
    have hl : L'.length + 1 = u := by
      have := congrArg List.length e
      rw [List.length_take] at this
      simp at this
      have := h.2.1
      omega
    refine h.2.2.1 z (by omega) ?_
    rw [← hsp, e, show u - 1 = L'.length by omega, List.append_assoc, List.getElem?_append_right (Nat.le_refl _)]
    simp
  have := merge_done cX_ord (L1 := L.take u) (L2 := L.drop u) (R1 := [y]) (R2 := []) (M1 := L.take u ++ [y]) (M2 := L.drop u) hs' (Srt.one y) h1 (fun z _ x hx => by cases hx)
    (List.pairwise_append.2 ⟨hs'.left, Srt.one y, h2⟩) (St.refl _) hs'.right (by rw [List.append_nil]; exact St.refl _)
  rw [hsp] at this
  simpa using this

set_option maxRecDepth 20000 in
set_option maxHeartbeats 4000000 in
theorem sym_right (base g n c a m b : Nat) (P L Q : List Rrd) (y : Rrd) (w : World) (ha : a = P.length) (hm : m = P.length + L.length) (hb : b = P.length + L.length + 1) (hL1 : L.length ≠ 1) (hs : Srt cX L) (hNy : OkX y) (hNL : OkL L) (hn : n ≤ 1000000)
    (h : RowX base g n c (P ++ L ++ [y] ++ Q) w) :
    Calls Tryz.prog 62 #[.slice (some ⟨g, 0, none⟩) n c, .int .i64 (a : Nat), .int .i64 (m : Nat), .int .i64 (b : Nat), cmpF] w fun e w' =>
      e = .returned (.tuple #[]) ∧ ∃ M', Srt cX M' ∧ St cX (L ++ [y]) M' ∧ RowX base g n c (P ++ M' ++ Q) w' ∧ w.grownBy w' (some g) := by
  have hl := h.len
  simp only [List.length_append, List.length_cons, List.length_nil] at hl
  obtain ⟨L0, hL0⟩ : ∃ L0, L0 = L.length := ⟨_, rfl⟩
  have z0 : (m : Int) - (a : Int) = (L0 : Int) := by omega
  have g0 : ((L0 : Int) == 1) = false := by rw [beq_eq_false_iff_ne]; omega
  have z1 : (b : Int) - (m : Int) = 1 := by omega
  have hbn : b ≤ n := by omega
  have hmb : m ≤ b := by omega
  have hmn : m ≤ n := by omega
  have han : a < n := by omega
  have H := Lib.hid h
  have HA := Lib.hid ha
  have HM := Lib.hid hm
  have HB := Lib.hid hb
  have HS := Lib.hid hs
  have ham : a ≤ m := by omega
  have hmn' : m < n := by omega
  have HNy := Lib.hid hNy
  have HNL := Lib.hid hNL
  clear h hl ha hm hb hs hNy hNL hL1 hL0
  go_enter Tryz.func62, Tryz.ntmps62
  go_wp2_with fail
  go_loopw [14, 15] (fun i' j' wr => ∃ (i j u v : Nat), i' = .int .i64 (i : Nat) ∧ j' = .int .i64 (j : Nat) ∧ i = a + u ∧ j = a + v ∧ Aft y L u v ∧ RowX base g n c (P ++ L ++ [y] ++ Q) wr ∧ w.grownBy wr (some g)) (fun i' j' _ => (intOf j').toNat - (intOf i').toNat)
  case atStart => exact ⟨a, m, 0, L.length, rfl, rfl, rfl, by have := HM.out; have := HA.out; omega, Aft.start y L, H.out, World.grownBy.refl _ _⟩
  case round =>
    obtain ⟨i, j, u, v, rfl, rfl, hi, hj, hbf, hrow, hgr⟩ := hrel
    have HR := Lib.hid hrow
    have HG := Lib.hid hgr
    have HBF := Lib.hid hbf
    have HI := Lib.hid hi
    have HJ := Lib.hid hj
    have hvR := hbf.2.1
    have huv := hbf.1
    have hjb : j ≤ m := by have := HM.out; have := HA.out; omega
    have hij : i ≤ j := by omega
    clear hrow hgr hbf hi hj
    by_cases hlt : i < j
    · have g1 : (i : Int) < (j : Int) := by omega
      obtain ⟨k, hk⟩ : ∃ k, k = (i + j) / 2 := ⟨_, rfl⟩
      have hk1 : i ≤ k := by omega
      have hk2 : k < j := by omega
      have zk : ((i : Int) + (j : Int)) / 2 = (k : Int) := by omega
      clear hk
      have hkm : ∃ s, k = a + s ∧ s < L.length := ⟨k - a, by have := HI.out; omega, by have := HI.out; have := HM.out; have := HA.out; omega⟩
      obtain ⟨s, hs, hsR⟩ := hkm
      obtain ⟨x, hx⟩ : ∃ x, x = L[s] := ⟨_, rfl⟩
      have hxL : L[s]? = some x := by rw [List.getElem?_eq_getElem hsR, hx]
      have hf1 := HR.out.five (k := k) (x := x) (by have := at_mid P L ([y] ++ Q) hsR; rw [← hx] at this; rw [hs, HA.out]; simpa using this)
      have hf2 := HR.out.five (k := m) (x := y) (by rw [HM.out]; simp)
      have hkn : k < n := by omega
      have hglt : g < wr.heap.size := HR.out.lt
      have HNx := Lib.hid (HNL.out x (by rw [hx]; exact List.getElem_mem hsR))
      obtain ⟨d0, d1, d2, d3, d4⟩ := hf1.later hglt
      obtain ⟨e0, e1, e2, e3, e4⟩ := hf2.later hglt
      have r1 : IntKind.i64.wrap (k : Int) = (k : Int) := by rw [IntKind.wrap_i64]; omega
      have r2 : IntKind.i64.wrap (m : Int) = (m : Int) := by rw [IntKind.wrap_i64]; omega
      obtain ⟨q', hq'⟩ : ∃ v, v = cX y x := ⟨_, rfl⟩
      have HC := Lib.hid (show ∀ q : Later wr, Calls Tryz.prog 16 #[.agg #[.string y.s, .int .i64 y.t, .int .i64 y.c, .int .i64 y.l, .string y.d], .agg #[.string x.s, .int .i64 x.t, .int .i64 x.c, .int .i64 x.l, .string x.d]] q.val fun e w'' => e = .returned (.int .i64 q') ∧ ∃ q'' : Later wr, w'' = q''.val from
        fun q => later_call (by rw [hq']; exact cmpC_any HNy.out HNx.out _))
      have HV := Lib.hid hq'
      have HK := Lib.hid hs
      have HXL := Lib.hid hxL
      clear hx hq' hf1 hf2 hs hxL
      go_wp2_with fail
      refine region_later (by kernel_rfl) ?_
      repeat (go_big_quiet_step ((go_at_call 16; with_reducible exact HC.out _)))
      refine wpQuiet_nil ?_
      rintro _ ⟨q2, rfl⟩
      obtain ⟨W2, hB2⟩ := q2
      simp only []
      have HR2 := Lib.hid (HR.out.below hB2)
      have HG2 := Lib.hid (grown_trans HG.out (grown_below hB2 (some g)))
      clear d0 d1 d2 d3 d4 e0 e1 e2 e3 e4 r1 r2
      by_cases hv : q' < 0
      · have gq : (!decide (q' < 0)) = false := by simp [hv]
        have hvm : cX y x = -1 := by
          have := HV.out
          rcases cX_ord.range y x with h | h | h <;> omega
        have HBF2 := Lib.hid (HBF.out.down (t := s) (by have := HK.out; have := HI.out; omega) (by have := HK.out; have := HJ.out; omega) HXL.out hvm)
        clear hvm
        rw [gq]
        clear gq
        go_wp2_with fail
        go_roundw
        case rel => exact ⟨i, k, u, s, rfl, rfl, HI.out, HK.out, HBF2.out, HR2.out, HG2.out⟩
        case measure => simp [intOf]; omega
      · have gq : (!decide (q' < 0)) = true := by simp [hv]
        have hvm : cX y x ≠ -1 := by have := HV.out; omega
        have HBF2 := Lib.hid (HBF.out.up (t := s) (by have := HK.out; have := HJ.out; omega) HXL.out hvm)
        clear hvm
        rw [gq]
        clear gq
        go_wp2_with fail
        go_roundw
        case rel => exact ⟨k + 1, j, s + 1, v, by go_num, rfl, by have := HK.out; omega, HJ.out, HBF2.out, HR2.out, HG2.out⟩
        case measure => simp [intOf]; omega
    · obtain rfl : i = j := by omega
      obtain rfl : u = v := by have := HI.out; have := HJ.out; omega
      obtain ⟨k1, k2⟩ := HBF.out.done HS.out
      have K1 := Lib.hid k1
      have K2 := Lib.hid k2
      clear k1 k2
      go_wp2_with fail
      go_loopw [17] (fun k' wr2 => ∃ (k t : Nat), k' = .int .i64 (k : Nat) ∧ k = a + t ∧ u ≤ t ∧ t ≤ L.length ∧ RowX base g n c (P ++ (L.take t ++ y :: L.drop t) ++ Q) wr2 ∧ w.grownBy wr2 (some g)) (fun k' _ => (intOf k').toNat)
      case atStart => exact ⟨m, L.length, rfl, by have := HM.out; have := HA.out; omega, hvR, Nat.le_refl _, by have := HR.out; rw [List.take_of_length_le (Nat.le_refl _), List.drop_of_length_le (Nat.le_refl _)]; simpa using this, HG.out⟩
      case round =>
        obtain ⟨k, t, rfl, hk, htu, htL, hrow, hgr⟩ := hrel
        have HR2 := Lib.hid hrow
        have HG2 := Lib.hid hgr
        have HK := Lib.hid hk
        have hkn : k < n := by have := HM.out; have := HA.out; omega
        clear hrow hgr hk
        by_cases hlt2 : u < t
        · have g2 : (i : Int) < (k : Int) := by have := HK.out; have := HI.out; omega
          obtain ⟨t', ht'⟩ : ∃ t', t' + 1 = t := ⟨t - 1, by omega⟩
          have htR : t' < L.length := by omega
          obtain ⟨z, hz⟩ : ∃ z, z = L[t'] := ⟨_, rfl⟩
          obtain ⟨p, hp⟩ : ∃ p, p + 1 = k := ⟨k - 1, by have := HK.out; omega⟩
          have hrow : RowX base g n c ((P ++ L.take t') ++ z :: ([] ++ y :: (L.drop t ++ Q))) wr := by
            have := HR2.out
            rw [← ht', List.take_succ_eq_append_getElem htR, ← hz, ht'] at this
            simpa only [List.append_assoc, List.cons_append, List.nil_append] using this
          have hlen : (P ++ L.take t').length = p := by have := HK.out; have := HA.out; rw [List.length_append, List.length_take]; omega
          obtain ⟨⟨a0, a1, a2, a3, a4⟩, ⟨b0, b1, b2, b3, b4⟩, hpn, _, _, _⟩ := hrow.two (p := p) (q := k) hlen.symm (by rw [hlen]; simp; omega)
          obtain ⟨o2, g3⟩ := hrow.two' (p := p) (q := k) hlen.symm (by rw [hlen]; simp; omega)
          have o3 : RowX base g n c (P ++ (L.take t' ++ y :: L.drop t') ++ Q) (put5 (put5 wr g (k * 5) z) g (p * 5) y) := by
            rw [List.drop_eq_getElem_cons htR, ← hz, ht']
            simpa only [List.append_assoc, List.cons_append, List.nil_append] using o2
          obtain ⟨s0, s1, s2, s3, s4⟩ := hrow.softs (k * 5)
          obtain ⟨t0, t1, t2, t3, t4⟩ := hrow.softs (p * 5)
          have z3 : (k : Int) - 1 = (p : Int) := by omega
          have HO3 := Lib.hid o3
          have HG3 := Lib.hid (grown_trans HG2.out g3)
          have hkk : p < k := by omega
          have hfar := far5 g (p := k) (q := p) (by omega)
          have n00 : (⟨g, p * 5, none⟩ : Addr) ≠ ⟨g, k * 5, none⟩ := hfar 0 0 (by decide) (by decide)
          have n01 : (⟨g, p * 5 + 1, none⟩ : Addr) ≠ ⟨g, k * 5, none⟩ := hfar 0 1 (by decide) (by decide)
          have n02 : (⟨g, p * 5 + 2, none⟩ : Addr) ≠ ⟨g, k * 5, none⟩ := hfar 0 2 (by decide) (by decide)
          have n03 : (⟨g, p * 5 + 3, none⟩ : Addr) ≠ ⟨g, k * 5, none⟩ := hfar 0 3 (by decide) (by decide)
          have n04 : (⟨g, p * 5 + 4, none⟩ : Addr) ≠ ⟨g, k * 5, none⟩ := hfar 0 4 (by decide) (by decide)
          have n10 : (⟨g, p * 5, none⟩ : Addr) ≠ ⟨g, k * 5 + 1, none⟩ := hfar 1 0 (by decide) (by decide)
          have n11 : (⟨g, p * 5 + 1, none⟩ : Addr) ≠ ⟨g, k * 5 + 1, none⟩ := hfar 1 1 (by decide) (by decide)
          have n12 : (⟨g, p * 5 + 2, none⟩ : Addr) ≠ ⟨g, k * 5 + 1, none⟩ := hfar 1 2 (by decide) (by decide)
          have n13 : (⟨g, p * 5 + 3, none⟩ : Addr) ≠ ⟨g, k * 5 + 1, none⟩ := hfar 1 3 (by decide) (by decide)
          have n14 : (⟨g, p * 5 + 4, none⟩ : Addr) ≠ ⟨g, k * 5 + 1, none⟩ := hfar 1 4 (by decide) (by decide)
          have n20 : (⟨g, p * 5, none⟩ : Addr) ≠ ⟨g, k * 5 + 2, none⟩ := hfar 2 0 (by decide) (by decide)
          have n21 : (⟨g, p * 5 + 1, none⟩ : Addr) ≠ ⟨g, k * 5 + 2, none⟩ := hfar 2 1 (by decide) (by decide)
          have n22 : (⟨g, p * 5 + 2, none⟩ : Addr) ≠ ⟨g, k * 5 + 2, none⟩ := hfar 2 2 (by decide) (by decide)
          have n23 : (⟨g, p * 5 + 3, none⟩ : Addr) ≠ ⟨g, k * 5 + 2, none⟩ := hfar 2 3 (by decide) (by decide)
          have n24 : (⟨g, p * 5 + 4, none⟩ : Addr) ≠ ⟨g, k * 5 + 2, none⟩ := hfar 2 4 (by decide) (by decide)
          have n30 : (⟨g, p * 5, none⟩ : Addr) ≠ ⟨g, k * 5 + 3, none⟩ := hfar 3 0 (by decide) (by decide)
          have n31 : (⟨g, p * 5 + 1, none⟩ : Addr) ≠ ⟨g, k * 5 + 3, none⟩ := hfar 3 1 (by decide) (by decide)
          have n32 : (⟨g, p * 5 + 2, none⟩ : Addr) ≠ ⟨g, k * 5 + 3, none⟩ := hfar 3 2 (by decide) (by decide)
          have n33 : (⟨g, p * 5 + 3, none⟩ : Addr) ≠ ⟨g, k * 5 + 3, none⟩ := hfar 3 3 (by decide) (by decide)
          have n34 : (⟨g, p * 5 + 4, none⟩ : Addr) ≠ ⟨g, k * 5 + 3, none⟩ := hfar 3 4 (by decide) (by decide)
          have n40 : (⟨g, p * 5, none⟩ : Addr) ≠ ⟨g, k * 5 + 4, none⟩ := hfar 4 0 (by decide) (by decide)
          have n41 : (⟨g, p * 5 + 1, none⟩ : Addr) ≠ ⟨g, k * 5 + 4, none⟩ := hfar 4 1 (by decide) (by decide)
          have n42 : (⟨g, p * 5 + 2, none⟩ : Addr) ≠ ⟨g, k * 5 + 4, none⟩ := hfar 4 2 (by decide) (by decide)
          have n43 : (⟨g, p * 5 + 3, none⟩ : Addr) ≠ ⟨g, k * 5 + 4, none⟩ := hfar 4 3 (by decide) (by decide)
          have n44 : (⟨g, p * 5 + 4, none⟩ : Addr) ≠ ⟨g, k * 5 + 4, none⟩ := hfar 4 4 (by decide) (by decide)
          clear hfar
          have HPK := Lib.hid hp
          have HTT := Lib.hid ht'
          clear o2 o3 g3 hrow hlen hz hp ht'
          go_wp2_with fail
          go_region
          go_wp2_with fail
          go_roundw
          case rel => exact ⟨p, t', by go_num, by have := HK.out; have := HPK.out; have := HTT.out; omega, by have := HTT.out; omega, by have := HTT.out; omega, HO3.out.drew, grown_drew HG3.out⟩
          case measure => simp [intOf]; omega
        · obtain rfl : t = u := by omega
          have g2 : ¬ (i : Int) < (k : Int) := by have := HK.out; have := HI.out; omega
          go_wp2_with fail
          refine bodyPost_ret (results_none rfl _ _ _) rfl ?_
          exact ⟨rfl, _, K1.out, K2.out, by simpa using HR2.out, HG2.out⟩
end Go.Proofs.YtkgojdmjagicdaaGreat
