/- Parts of the proofs of the statements of image. No statement of the seat is proved here. -/
import Derived.Test.YtmpginmdaeclaaaGreatDoorRsS
set_option maxHeartbeats 32000000
set_option maxRecDepth 20000
namespace Go.Proofs.YtmpginmdaeclaaaGreatDoor
open Go.RowKit
def SymN (N : Nat) : Prop := ∀ (base g n c a m b : Nat) (P L R Q : List Rrd) (w : World), L.length + R.length <= N -> a = P.length -> m = P.length + L.length -> b = P.length + L.length + R.length -> L ≠ [] -> R ≠ [] ->
  Srt cX L -> Srt cX R -> OkL L -> OkL R -> n <= 1000000 -> RowX base g n c (P ++ L ++ R ++ Q) w ->
    Calls Tryz.prog 220 #[.slice (some ⟨g, 0, none⟩) n c, .int .i64 (a : Nat), .int .i64 (m : Nat), .int .i64 (b : Nat), cmpF] w fun e w' =>
      e = .returned (.tuple #[]) /\ ∃ M', Srt cX M' /\ StS cX (L ++ R) M' /\ RowX base g n c (P ++ M' ++ Q) w' /\ w.grownBy w' (some g)
def Mid (L R : List Rrd) (e u0 v0 u v : Nat) : Prop :=
  u0 <= u /\ u <= v /\ v <= v0 /\ (∀ x y, u0 < u -> L[u - 1]? = some x -> R[e - u]? = some y -> cX y x ≠ -1) /\ (∀ x y, v < v0 -> L[v]? = some x -> R[e - 1 - v]? = some y -> cX y x = -1)
theorem Mid.start (L R : List Rrd) (e : Nat) {u0 v0 : Nat} (h : u0 <= v0) : Mid L R e u0 v0 u0 v0 :=
  ⟨Nat.le_refl _, h, Nat.le_refl _, fun _ _ h => absurd h (by omega), fun _ _ h => absurd h (by omega)⟩
theorem Mid.up {L R : List Rrd} {e u0 v0 u v t : Nat} {x y : Rrd} (h : Mid L R e u0 v0 u v) (h1 : u <= t) (ht : t < v) (hx : L[t]? = some x) (hy : R[e - 1 - t]? = some y) (hc : cX y x ≠ -1) : Mid L R e u0 v0 (t + 1) v := by
  refine ⟨by have := h.1; omega, ht, h.2.2.1, fun x' y' _ hx' hy' => ?_, h.2.2.2.2⟩
  rw [Nat.add_sub_cancel, hx] at hx'
  rw [show e - (t + 1) = e - 1 - t by omega, hy] at hy'
  injection hx' with hx'; injection hy' with hy'
  rw [<-hx', <-hy']; exact hc
theorem Mid.down {L R : List Rrd} {e u0 v0 u v t : Nat} {x y : Rrd} (h : Mid L R e u0 v0 u v) (h1 : u <= t) (ht : t < v) (hx : L[t]? = some x) (hy : R[e - 1 - t]? = some y) (hc : cX y x = -1) : Mid L R e u0 v0 u t := by
  refine ⟨h.1, h1, by have := h.2.2.1; omega, h.2.2.2.1, fun x' y' _ hx' hy' => ?_⟩
  rw [hx] at hx'; rw [hy] at hy'
  injection hx' with hx'; injection hy' with hy'
  rw [<-hx', <-hy']; exact hc
theorem last_at {α : Type} {l l' : List α} {x : α} (h : l = l' ++ [x]) : l[l.length - 1]? = some x := by subst h; simp
theorem Mid.done {L R : List Rrd} {e u0 v0 u : Nat} (h : Mid L R e u0 v0 u u) (hL : Srt cX L) (hR : Srt cX R) (hv : v0 = L.length \/ v0 = e) (hu : u0 = 0 \/ u0 + R.length = e) (hvL : v0 <= L.length) (heR : e <= u0 + R.length) :
    (∀ y ∈ R.take (e - u), ∀ x ∈ L.drop u, cX y x = -1) /\ (∀ x ∈ L.take u, ∀ y ∈ R.drop (e - u), cX y x ≠ -1) := by
  obtain ⟨h1, _, h3, h4, h5⟩ := h
  have eL := List.take_append_drop u L
  have eR := List.take_append_drop (e - u) R
  have hL' := hL
  rw [<-eL] at hL'
  have hR' := hR
  rw [<-eR] at hR'
  constructor
  · refine all_lt cX_ord hR'.left hL'.right ?_
    intro R' y e1 x L' e2
    have l1 : L[u]? = some x := by
      have := congrArg (·[0]?) e2
      simpa using this
    have hul : u < L.length := (List.getElem?_eq_some_iff.1 l1).1
    have l2 := last_at e1
    have hr : (R.take (e - u)).length = e - u := by rw [List.length_take]; omega
    have hr1 : 0 < e - u := by
      have := congrArg List.length e1
      rw [hr] at this; simp at this; omega
    rw [hr, List.getElem?_take_of_lt (by omega)] at l2
    exact h5 x y (by omega) l1 (by rw [show e - 1 - u = e - u - 1 by omega]; exact l2)
  · refine all_le cX_ord hL'.left hR'.right ?_
    intro L' x e1 y R' e2
    have l1 : R[e - u]? = some y := by
      have := congrArg (·[0]?) e2
      simpa using this
    have hul : e - u < R.length := (List.getElem?_eq_some_iff.1 l1).1
    have l2 := last_at e1
    have hr : (L.take u).length = u := by rw [List.length_take]; omega
    have hr1 : 0 < u := by
      have := congrArg List.length e1
      rw [hr] at this; simp at this; omega
    rw [hr, List.getElem?_take_of_lt (by omega)] at l2
    exact h4 x y (by omega) l2 l1
theorem sym_hi (N base g n c a m b e : Nat) (P L R Q : List Rrd) (w : World) (IH : SymN N) (hN : L.length + R.length <= N + 1) (ha : a = P.length) (hm : m = P.length + L.length) (hb : b = P.length + L.length + R.length) (hL2 : 2 <= L.length) (hR2 : 2 <= R.length) (he : e = (a + b) / 2 - a) (hmm : (a + b) / 2 < m)
    (hs : Srt cX L) (hsR : Srt cX R) (hNL : OkL L) (hNR : OkL R) (hn : n <= 1000000) (h : RowX base g n c (P ++ L ++ R ++ Q) w) :
    Calls Tryz.prog 220 #[.slice (some ⟨g, 0, none⟩) n c, .int .i64 (a : Nat), .int .i64 (m : Nat), .int .i64 (b : Nat), cmpF] w fun e w' =>
      e = .returned (.tuple #[]) /\ ∃ M', Srt cX M' /\ StS cX (L ++ R) M' /\ RowX base g n c (P ++ M' ++ Q) w' /\ w.grownBy w' (some g) := by
  have hl := h.len
  simp only [List.length_append] at hl
  obtain ⟨L0, hL0⟩ : ∃ L0, L0 = L.length := ⟨_, rfl⟩
  obtain ⟨R0, hR0⟩ : ∃ R0, R0 = R.length := ⟨_, rfl⟩
  obtain ⟨mid, hmid⟩ : ∃ mid, mid = (a + b) / 2 := ⟨_, rfl⟩
  obtain ⟨nn, hnn⟩ : ∃ nn, nn = mid + m := ⟨_, rfl⟩
  obtain ⟨p, hp⟩ : ∃ p, p + 1 = nn := ⟨nn - 1, by omega⟩
  rw [<-hmid] at he hmm
  have z0 : (m : Int) - (a : Int) = (L0 : Int) := by omega
  have g0 : ((L0 : Int) == 1) = false := by rw [beq_eq_false_iff_ne]; omega
  have z1 : (b : Int) - (m : Int) = (R0 : Int) := by omega
  have g1 : ((R0 : Int) == 1) = false := by rw [beq_eq_false_iff_ne]; omega
  have zmid : ((a : Int) + (b : Int)) / 2 = (mid : Int) := by omega
  have znn : (mid : Int) + (m : Int) = (nn : Int) := by omega
  have zp : (nn : Int) - 1 = (p : Int) := by omega
  have hbn : b <= n := by omega
  have hmb : m < b := by omega
  have ham : a < m := by omega
  have hmidb : mid < b := by omega
  have hamid : a <= mid := by omega
  have hmn : m <= n := by omega
  have hnn2 : nn <= 2000000 := by omega
  obtain ⟨lo, hlo⟩ : ∃ lo, lo + b = nn := ⟨nn - b, by omega⟩
  have zlo : (nn : Int) - (b : Int) = (lo : Int) := by omega
  have gmm : (mid : Int) < (m : Int) := by omega
  have hlon : lo <= n := by omega
  obtain ⟨u0, hu0⟩ : ∃ u0, u0 = lo - a := ⟨_, rfl⟩
  obtain ⟨v0, hv0⟩ : ∃ v0, v0 = e := ⟨_, rfl⟩
  obtain ⟨st, hst⟩ : ∃ st, st = lo := ⟨_, rfl⟩
  obtain ⟨fi, hfi⟩ : ∃ fi, fi = mid := ⟨_, rfl⟩
  rw [<-hst] at zlo
  have hv1 : v0 = L.length \/ v0 = e := by omega
  have hu1 : u0 = 0 \/ u0 + R.length = e := by omega
  have hv2 : v0 <= L.length := by omega
  have hv3 : v0 <= e := by omega
  have hu2 : e <= u0 + R.length := by omega
  have huv0 : u0 <= v0 := by omega
  rw [hst] at zlo
  clear hst hfi st fi
  have hs0 : lo = a + u0 := by omega
  have hf0 : mid = a + v0 := by omega
  have H := Ha h
  have HA := Ha ha
  have HM := Ha hm
  have HB := Ha hb
  have HE := Ha (show mid = a + e by omega)
  have HNN := Ha hnn
  have HP := Ha hp
  have HN := Ha hN
  have HSL := Ha hs
  have HSR := Ha hsR
  have HNL := Ha hNL
  have HNR := Ha hNR
  have HV1 := Ha hv1
  have HU1 := Ha hu1
  have HV2 := Ha hv2
  have HV3 := Ha hv3
  have HU2 := Ha hu2
  have HS0 := Ha hs0
  have HF0 := Ha hf0
  have HUV := Ha huv0
  clear h hl ha hm hb hs hsR hNL hNR hnn hp hmid he hmm hN hv1 hu1 hv2 hv3 hu2 hs0 hf0 hL0 hR0 hu0 hv0 huv0 hL2 hR2 hlo hlon
  go_enter Tryz.func220, Tryz.ntmps220
  go_wp2_with fail
  go_loopw [20, 21] (fun i' j' wr => ∃ (i j u v : Nat), i' = .int .i64 (i : Nat) /\ j' = .int .i64 (j : Nat) /\ i = a + u /\ j = a + v /\ Mid L R e u0 v0 u v /\ RowX base g n c (P ++ L ++ R ++ Q) wr /\ w.grownBy wr (some g)) (fun i' j' _ => (intOf j').toNat - (intOf i').toNat)
  case atStart => exact ⟨lo, mid, u0, v0, rfl, rfl, HS0.out, HF0.out, Mid.start L R e HUV.out, H.out, World.grownBy.refl _ _⟩
  case round =>
    obtain ⟨i, j, u, v, rfl, rfl, hi, hj, hbf, hrow, hgr⟩ := hrel
    have HR := Ha hrow
    have HG := Ha hgr
    have HBF := Ha hbf
    have HI := Ha hi
    have HJ := Ha hj
    have hu0 := hbf.1
    have huv := hbf.2.1
    have hvv := hbf.2.2.1
    have hjm : j <= m := by have := HM.out; have := HA.out; have := HV2.out; omega
    have hij : i <= j := by omega
    have hjn : j <= mid := by have := HV3.out; have := HE.out; omega
    clear hrow hgr hbf hi hj
    by_cases hlt : i < j
    · have g2 : (i : Int) < (j : Int) := by omega
      obtain ⟨k, hk⟩ : ∃ k, k = (i + j) / 2 := ⟨_, rfl⟩
      have hk1 : i <= k := by omega
      have hk2 : k < j := by omega
      have zk : ((i : Int) + (j : Int)) / 2 = (k : Int) := by omega
      obtain ⟨q, hq⟩ : ∃ q, q + k = p := ⟨p - k, by have := HP.out; have := HNN.out; omega⟩
      have zq : (p : Int) - (k : Int) = (q : Int) := by omega
      obtain ⟨s, hs⟩ : ∃ s, k = a + s := ⟨k - a, by have := HI.out; omega⟩
      have hsL : s < L.length := by have := HJ.out; have := HV2.out; omega
      have hse : s < e := by have := HJ.out; have := HV3.out; omega
      have hsu : u <= s := by have := HI.out; omega
      have hsv : s < v := by have := HJ.out; omega
      have hqs : q = P.length + L.length + (e - 1 - s) := by have := HP.out; have := HNN.out; have := HE.out; have := HM.out; have := HA.out; omega
      have hrR : e - 1 - s < R.length := by have := HU2.out; omega
      obtain ⟨x, hx⟩ : ∃ x, x = L[s] := ⟨_, rfl⟩
      obtain ⟨y, hy⟩ : ∃ y, y = R[e - 1 - s] := ⟨_, rfl⟩
      have hxL : L[s]? = some x := by rw [List.getElem?_eq_getElem hsL, hx]
      have hyR : R[e - 1 - s]? = some y := by rw [List.getElem?_eq_getElem hrR, hy]
      have hf1 := HR.out.five (k := q) (x := y) (by have := at_mid (P ++ L) R Q hrR; rw [<-hy, List.length_append] at this; rw [hqs]; exact this)
      have hf2 := HR.out.five (k := k) (x := x) (by have := at_mid P L (R ++ Q) hsL; rw [<-hx] at this; rw [hs, HA.out]; simpa using this)
      have hkn : k < n := by omega
      have hqn : q < n := by have := HP.out; have := HNN.out; have := HB.out; have := HM.out; omega
      have hglt : g < wr.heap.size := HR.out.lt
      have HNx := Ha (HNL.out x (by rw [hx]; exact List.getElem_mem hsL))
      have HNy := Ha (HNR.out y (by rw [hy]; exact List.getElem_mem hrR))
      obtain ⟨d0, d1, d2, d3, d4⟩ := hf1.later hglt
      obtain ⟨e0, e1, e2, e3, e4⟩ := hf2.later hglt
      have r1 : IntKind.i64.wrap (k : Int) = (k : Int) := by rw [IntKind.wrap_i64]; omega
      have r2 : IntKind.i64.wrap (q : Int) = (q : Int) := by rw [IntKind.wrap_i64]; omega
      obtain ⟨q', hq'⟩ : ∃ v, v = cX y x := ⟨_, rfl⟩
      have HC := Ha (show ∀ q'' : Later wr, Calls Tryz.prog 126 #[.agg #[.string y.s, .int .i64 y.t, .int .i64 y.c, .int .i64 y.l, .string y.d], .agg #[.string x.s, .int .i64 x.t, .int .i64 x.c, .int .i64 x.l, .string x.d]] q''.val fun e w'' => e = .returned (.int .i64 q') /\ ∃ r3 : Later wr, w'' = r3.val from
        fun q'' => later_call (by rw [hq']; exact cmpC_any HNy.out HNx.out _))
      have HVV := Ha hq'
      have HK := Ha hs
      have HXL := Ha hxL
      have HYR := Ha hyR
      have hpn : p <= 2000000 := by have := HP.out; omega
      clear hx hy hq' hf1 hf2 hs hxL hyR hk hqs hq; go_wp2_with fail
      refine region_later (by kernel_rfl) ?_
      repeat (go_big_quiet_step ((go_at_call 126; with_reducible exact HC.out _)))
      refine wpQuiet_nil ?_
      rintro _ ⟨q2, rfl⟩; obtain ⟨W2, hB2⟩ := q2
      simp only []
      have HR2 := Ha (HR.out.below hB2)
      have HG2 := Ha (grown_trans HG.out (grown_below hB2 (some g)))
      clear d0 d1 d2 d3 d4 e0 e1 e2 e3 e4 r1 r2
      by_cases hv : q' < 0
      · have gq : (!decide (q' < 0)) = false := by simp [hv]
        have hvm : cX y x = -1 := by
          have := HVV.out
          rcases cX_ord.range y x with h | h | h <;> omega
        have HBF2 := Ha (HBF.out.down (t := s) hsu hsv HXL.out HYR.out hvm)
        clear hvm; rw [gq]
        clear gq; go_wp2_with fail
        go_roundw
        case rel => exact ⟨i, k, u, s, rfl, rfl, HI.out, HK.out, HBF2.out, HR2.out, HG2.out⟩
        case measure => simp [intOf]; omega
      · have gq : (!decide (q' < 0)) = true := by simp [hv]
        have hvm : cX y x ≠ -1 := by have := HVV.out; omega
        have HBF2 := Ha (HBF.out.up (t := s) hsu hsv HXL.out HYR.out hvm)
        clear hvm; rw [gq]
        clear gq; go_wp2_with fail
        go_roundw
        case rel => exact ⟨k + 1, j, s + 1, v, by go_num, rfl, by have := HK.out; omega, HJ.out, HBF2.out, HR2.out, HG2.out⟩
        case measure => simp [intOf]; omega
    · obtain rfl : i = j := by omega
      obtain rfl : u = v := by have := HI.out; have := HJ.out; omega
      obtain ⟨k1, k2⟩ := HBF.out.done HSL.out HSR.out HV1.out HU1.out HV2.out HU2.out
      have huL : u <= L.length := by have := HV2.out; omega
      have hue : u <= e := by have := HV3.out; omega
      have heu : e - u <= R.length := by have := HU2.out; omega
      have l1 : (L.take u).length = u := by rw [List.length_take]; omega
      have l2 : (L.drop u).length = L.length - u := List.length_drop
      have l3 : (R.take (e - u)).length = e - u := by rw [List.length_take]; omega
      have l4 : (R.drop (e - u)).length = R.length - (e - u) := List.length_drop
      have sL := (List.take_append_drop u L).symm
      have sR := (List.take_append_drop (e - u) R).symm
      obtain ⟨L1, hL1⟩ : ∃ L1, L1 = L.take u := ⟨_, rfl⟩
      obtain ⟨L2, hL2⟩ : ∃ L2, L2 = L.drop u := ⟨_, rfl⟩
      obtain ⟨R1, hR1⟩ : ∃ R1, R1 = R.take (e - u) := ⟨_, rfl⟩
      obtain ⟨R2, hR2⟩ : ∃ R2, R2 = R.drop (e - u) := ⟨_, rfl⟩
      rw [<-hL1] at l1 sL k2
      rw [<-hL2] at l2 sL k1
      rw [<-hR1] at l3 sR k1
      rw [<-hR2] at l4 sR k2
      obtain ⟨en, hen⟩ : ∃ en, en + i = nn := ⟨nn - i, by have := HNN.out; omega⟩
      have zen : (nn : Int) - (i : Int) = (en : Int) := by omega
      have K1 := Ha k1
      have K2 := Ha k2
      have E1 := Ha l1
      have E2 := Ha l2
      have E3 := Ha l3
      have E4 := Ha l4
      have SL := Ha sL
      have SR := Ha sR
      have HEN := Ha (show en = m + (e - u) by have := HNN.out; have := HI.out; have := HE.out; omega)
      have hs1 := HSL.out
      rw [sL] at hs1
      have hs2 := HSR.out
      rw [sR] at hs2
      have S1 := Ha hs1.left
      have S2 := Ha hs1.right
      have S3 := Ha hs2.left
      have S4 := Ha hs2.right
      have hn1 := HNL.out
      rw [sL] at hn1
      have hn2 := HNR.out
      rw [sR] at hn2
      have N1 := Ha hn1.left
      have N2 := Ha hn1.right
      have N3 := Ha hn2.left
      have N4 := Ha hn2.right
      have HUL := Ha huL
      have HUE := Ha hue
      have HEU := Ha heu
      have hen2 : en <= b := by have := HEN.out; have := HM.out; have := HB.out; omega
      clear k1 k2 l1 l2 l3 l4 sL sR hL1 hL2 hR1 hR2 hen hs1 hs2 hn1 hn2 huL hue heu; have g2 : ¬ ((i : Nat) : Int) < (i : Int) := by omega
      by_cases hA : u < L.length
      · skip
        by_cases hB : u < e
        · skip
          by_cases hC : 0 < u
          · skip
            by_cases hE : e - u < R.length
            · skip
              first
              | (exfalso; have := HU1.out; have := HV1.out; have := HU2.out; have := HV2.out; have := HV3.out; have := HNN.out; have := HE.out; have := HM.out; have := HB.out; have := HA.out; have := HS0.out; have := HF0.out; omega)
              | (have gA : (i : Int) < (m : Int) := by have := HI.out; have := HM.out; have := HA.out; omega
                 have gB : (m : Int) < (en : Int) := by have := HEN.out; have := HUE.out; omega
                 have gC : (a : Int) < (i : Int) := by have := HI.out; omega
                 have gD : (i : Int) < (mid : Int) := by have := HI.out; have := HE.out; omega
                 have gF : (mid : Int) < (en : Int) := by have := HEN.out; have := HI.out; have := HM.out; have := HA.out; have := HE.out; have := HUE.out; have := HUL.out; omega
                 have gE : (en : Int) < (b : Int) := by have := HEN.out; have := HM.out; have := HB.out; have := HUE.out; have := HEU.out; omega
                 have nL2 : L2 ≠ [] := List.length_pos_iff.1 (by have := E2.out; omega)
                 have nR1 : R1 ≠ [] := List.length_pos_iff.1 (by have := E3.out; omega)
                 have nL1 : L1 ≠ [] := List.length_pos_iff.1 (by have := E1.out; omega)
                 have nR2 : R2 ≠ [] := List.length_pos_iff.1 (by have := E4.out; omega)
                 have HnL2 := Ha nL2
                 have HnR1 := Ha nR1
                 have HnL1 := Ha nL1
                 have HnR2 := Ha nR2
                 clear nL2 nR1 nL1 nR2; go_wp2_with fail
                 refine (rotate_any base g n c i m en _ (P ++ L1) L2 R1 (R2 ++ Q) _ (by have := HI.out; have := HA.out; have := E1.out; simp; omega) (by have := HM.out; have := E1.out; have := E2.out; have := HUL.out; simp; omega) (by have := HEN.out; have := HM.out; have := E1.out; have := E2.out; have := E3.out; have := HUL.out; simp; omega) HnL2.out HnR1.out hn (by have := HR.out; rw [SL.out, SR.out] at this; simpa using this)).mono ?_
                 rintro e' w1 ⟨rfl, hrow', hgr'⟩; have HC := Ha (show RowX base g n c (P ++ (L1 ++ R1) ++ (L2 ++ R2) ++ Q) w1 by simpa using hrow')
                 have HD := Ha (grown_trans HG.out hgr')
                 clear hrow' hgr'; go_wp2_with fail
                 refine (IH base g n c a i mid P L1 R1 (L2 ++ R2 ++ Q) _ (by have := HN.out; have := E1.out; have := E3.out; have := HUL.out; have := HUE.out; have := HEU.out; have := HE.out; omega) HA.out (by have := HI.out; have := HA.out; have := E1.out; omega) (by have := HE.out; have := HA.out; have := E1.out; have := E3.out; have := HUE.out; omega) HnL1.out HnR1.out S1.out S3.out N1.out N3.out hn (by have := HC.out; simpa using this)).mono ?_
                 rintro e' w2 ⟨rfl, M1, m1, m2, hrow', hgr'⟩; have HM1 := Ha m1
                 have HM2 := Ha m2
                 have HC2 := Ha (show RowX base g n c (P ++ M1 ++ (L2 ++ R2) ++ Q) w2 by simpa using hrow')
                 have HD2 := Ha (grown_trans HD.out hgr')
                 clear hrow' hgr' m1 m2; go_wp2_with fail
                 refine (IH base g n c mid en b (P ++ M1) L2 R2 Q _ (by have := HN.out; have := E2.out; have := E4.out; have := HUL.out; have := HUE.out; have := HEU.out; have := HE.out; have := HM.out; have := HB.out; have := HA.out; omega) (by have := HM2.out.1.length_eq; have := HE.out; have := HA.out; have := E1.out; have := E3.out; have := HUE.out; simp at *; omega) (by have := HM2.out.1.length_eq; have := HEN.out; have := HM.out; have := E1.out; have := E2.out; have := E3.out; have := HUL.out; have := HUE.out; simp at *; omega) (by have := HM2.out.1.length_eq; have := HB.out; have := E1.out; have := E2.out; have := E3.out; have := E4.out; have := HUL.out; have := HEU.out; simp at *; omega) HnL2.out HnR2.out S2.out S4.out N2.out N4.out hn (by have := HC2.out; simpa using this)).mono ?_
                 rintro e' w3 ⟨rfl, M2, m1, m2, hrow', hgr'⟩; have HM3 := Ha m1
                 have HM4 := Ha m2
                 have HC3 := Ha (show RowX base g n c (P ++ (M1 ++ M2) ++ Q) w3 by simpa using hrow')
                 have HD3 := Ha (grown_trans HD2.out hgr')
                 clear hrow' hgr' m1 m2; go_wp2_with fail
                 go_end0
                 obtain ⟨f1, f2⟩ := merge_done cX_ord (by have := HSL.out; rwa [SL.out] at this) (by have := HSR.out; rwa [SR.out] at this) K1.out K2.out HM1.out HM2.out HM3.out HM4.out
                 rw [<-SL.out, <-SR.out] at f2
                 exact ⟨rfl, _, f1, f2, by simpa using HC3.out, HD3.out⟩)
            · skip
              first
              | (exfalso; have := HU1.out; have := HV1.out; have := HU2.out; have := HV2.out; have := HV3.out; have := HNN.out; have := HE.out; have := HM.out; have := HB.out; have := HA.out; have := HS0.out; have := HF0.out; omega)
              | (have gA : (i : Int) < (m : Int) := by have := HI.out; have := HM.out; have := HA.out; omega
                 have gB : (m : Int) < (en : Int) := by have := HEN.out; have := HUE.out; omega
                 have gC : (a : Int) < (i : Int) := by have := HI.out; omega
                 have gD : (i : Int) < (mid : Int) := by have := HI.out; have := HE.out; omega
                 have gF : (mid : Int) < (en : Int) := by have := HEN.out; have := HI.out; have := HM.out; have := HA.out; have := HE.out; have := HUE.out; have := HUL.out; omega
                 have gE : ¬ (en : Int) < (b : Int) := by have := HEN.out; have := HM.out; have := HB.out; have := HUE.out; have := HEU.out; omega
                 have nL2 : L2 ≠ [] := List.length_pos_iff.1 (by have := E2.out; omega)
                 have nR1 : R1 ≠ [] := List.length_pos_iff.1 (by have := E3.out; omega)
                 have nL1 : L1 ≠ [] := List.length_pos_iff.1 (by have := E1.out; omega)
                 have eR2 : R2 = [] := List.eq_nil_of_length_eq_zero (by have := E4.out; omega)
                 have HnL2 := Ha nL2
                 have HnR1 := Ha nR1
                 have HnL1 := Ha nL1
                 have HeR2 := Ha eR2
                 clear nL2 nR1 nL1 eR2; go_wp2_with fail
                 refine (rotate_any base g n c i m en _ (P ++ L1) L2 R1 (R2 ++ Q) _ (by have := HI.out; have := HA.out; have := E1.out; simp; omega) (by have := HM.out; have := E1.out; have := E2.out; have := HUL.out; simp; omega) (by have := HEN.out; have := HM.out; have := E1.out; have := E2.out; have := E3.out; have := HUL.out; simp; omega) HnL2.out HnR1.out hn (by have := HR.out; rw [SL.out, SR.out] at this; simpa using this)).mono ?_
                 rintro e' w1 ⟨rfl, hrow', hgr'⟩; have HC := Ha (show RowX base g n c (P ++ (L1 ++ R1) ++ (L2 ++ R2) ++ Q) w1 by simpa using hrow')
                 have HD := Ha (grown_trans HG.out hgr')
                 clear hrow' hgr'; go_wp2_with fail
                 refine (IH base g n c a i mid P L1 R1 (L2 ++ R2 ++ Q) _ (by have := HN.out; have := E1.out; have := E3.out; have := HUL.out; have := HUE.out; have := HEU.out; have := HE.out; omega) HA.out (by have := HI.out; have := HA.out; have := E1.out; omega) (by have := HE.out; have := HA.out; have := E1.out; have := E3.out; have := HUE.out; omega) HnL1.out HnR1.out S1.out S3.out N1.out N3.out hn (by have := HC.out; simpa using this)).mono ?_
                 rintro e' w2 ⟨rfl, M1, m1, m2, hrow', hgr'⟩; have HM1 := Ha m1
                 have HM2 := Ha m2
                 have HC2 := Ha (show RowX base g n c (P ++ M1 ++ (L2 ++ R2) ++ Q) w2 by simpa using hrow')
                 have HD2 := Ha (grown_trans HD.out hgr')
                 clear hrow' hgr' m1 m2; go_wp2_with fail
                 obtain ⟨M2, hM2⟩ : ∃ M2, M2 = L2 ++ R2 := ⟨_, rfl⟩
                 have HM3 := Ha (show Srt cX M2 by rw [hM2, HeR2.out, List.append_nil]; exact S2.out)
                 have HM4 := Ha (show StS cX (L2 ++ R2) M2 by rw [hM2]; exact StS.refl _)
                 have HC3 := Ha (show RowX base g n c (P ++ (M1 ++ M2) ++ Q) _ by have := HC2.out; rw [<-hM2] at this; simpa using this)
                 have HD3 := HD2
                 clear hM2; go_end0
                 obtain ⟨f1, f2⟩ := merge_done cX_ord (by have := HSL.out; rwa [SL.out] at this) (by have := HSR.out; rwa [SR.out] at this) K1.out K2.out HM1.out HM2.out HM3.out HM4.out
                 rw [<-SL.out, <-SR.out] at f2
                 exact ⟨rfl, _, f1, f2, by simpa using HC3.out, HD3.out⟩)
          · skip
            by_cases hE : e - u < R.length
            · skip
              first
              | (exfalso; have := HU1.out; have := HV1.out; have := HU2.out; have := HV2.out; have := HV3.out; have := HNN.out; have := HE.out; have := HM.out; have := HB.out; have := HA.out; have := HS0.out; have := HF0.out; omega)
              | (have gA : (i : Int) < (m : Int) := by have := HI.out; have := HM.out; have := HA.out; omega
                 have gB : (m : Int) < (en : Int) := by have := HEN.out; have := HUE.out; omega
                 have gC : ¬ (a : Int) < (i : Int) := by have := HI.out; omega
                 have gD : (i : Int) < (mid : Int) := by have := HI.out; have := HE.out; omega
                 have gF : (mid : Int) < (en : Int) := by have := HEN.out; have := HI.out; have := HM.out; have := HA.out; have := HE.out; have := HUE.out; have := HUL.out; omega
                 have gE : (en : Int) < (b : Int) := by have := HEN.out; have := HM.out; have := HB.out; have := HUE.out; have := HEU.out; omega
                 have nL2 : L2 ≠ [] := List.length_pos_iff.1 (by have := E2.out; omega)
                 have nR1 : R1 ≠ [] := List.length_pos_iff.1 (by have := E3.out; omega)
                 have eL1 : L1 = [] := List.eq_nil_of_length_eq_zero (by have := E1.out; omega)
                 have nR2 : R2 ≠ [] := List.length_pos_iff.1 (by have := E4.out; omega)
                 have HnL2 := Ha nL2
                 have HnR1 := Ha nR1
                 have HeL1 := Ha eL1
                 have HnR2 := Ha nR2
                 clear nL2 nR1 eL1 nR2; go_wp2_with fail
                 refine (rotate_any base g n c i m en _ (P ++ L1) L2 R1 (R2 ++ Q) _ (by have := HI.out; have := HA.out; have := E1.out; simp; omega) (by have := HM.out; have := E1.out; have := E2.out; have := HUL.out; simp; omega) (by have := HEN.out; have := HM.out; have := E1.out; have := E2.out; have := E3.out; have := HUL.out; simp; omega) HnL2.out HnR1.out hn (by have := HR.out; rw [SL.out, SR.out] at this; simpa using this)).mono ?_
                 rintro e' w1 ⟨rfl, hrow', hgr'⟩; have HC := Ha (show RowX base g n c (P ++ (L1 ++ R1) ++ (L2 ++ R2) ++ Q) w1 by simpa using hrow')
                 have HD := Ha (grown_trans HG.out hgr')
                 clear hrow' hgr'; go_wp2_with fail
                 obtain ⟨M1, hM1⟩ : ∃ M1, M1 = L1 ++ R1 := ⟨_, rfl⟩
                 have HM1 := Ha (show Srt cX M1 by rw [hM1, HeL1.out, List.nil_append]; exact S3.out)
                 have HM2 := Ha (show StS cX (L1 ++ R1) M1 by rw [hM1]; exact StS.refl _)
                 have HC2 := HC
                 rw [<-hM1] at HC2
                 have HD2 := HD
                 clear hM1; refine (IH base g n c mid en b (P ++ M1) L2 R2 Q _ (by have := HN.out; have := E2.out; have := E4.out; have := HUL.out; have := HUE.out; have := HEU.out; have := HE.out; have := HM.out; have := HB.out; have := HA.out; omega) (by have := HM2.out.1.length_eq; have := HE.out; have := HA.out; have := E1.out; have := E3.out; have := HUE.out; simp at *; omega) (by have := HM2.out.1.length_eq; have := HEN.out; have := HM.out; have := E1.out; have := E2.out; have := E3.out; have := HUL.out; have := HUE.out; simp at *; omega) (by have := HM2.out.1.length_eq; have := HB.out; have := E1.out; have := E2.out; have := E3.out; have := E4.out; have := HUL.out; have := HEU.out; simp at *; omega) HnL2.out HnR2.out S2.out S4.out N2.out N4.out hn (by have := HC2.out; simpa using this)).mono ?_
                 rintro e' w3 ⟨rfl, M2, m1, m2, hrow', hgr'⟩; have HM3 := Ha m1
                 have HM4 := Ha m2
                 have HC3 := Ha (show RowX base g n c (P ++ (M1 ++ M2) ++ Q) w3 by simpa using hrow')
                 have HD3 := Ha (grown_trans HD2.out hgr')
                 clear hrow' hgr' m1 m2; go_wp2_with fail
                 go_end0
                 obtain ⟨f1, f2⟩ := merge_done cX_ord (by have := HSL.out; rwa [SL.out] at this) (by have := HSR.out; rwa [SR.out] at this) K1.out K2.out HM1.out HM2.out HM3.out HM4.out
                 rw [<-SL.out, <-SR.out] at f2
                 exact ⟨rfl, _, f1, f2, by simpa using HC3.out, HD3.out⟩)
            · skip
              first
              | (exfalso; have := HU1.out; have := HV1.out; have := HU2.out; have := HV2.out; have := HV3.out; have := HNN.out; have := HE.out; have := HM.out; have := HB.out; have := HA.out; have := HS0.out; have := HF0.out; omega)
              | (have gA : (i : Int) < (m : Int) := by have := HI.out; have := HM.out; have := HA.out; omega
                 have gB : (m : Int) < (en : Int) := by have := HEN.out; have := HUE.out; omega
                 have gC : ¬ (a : Int) < (i : Int) := by have := HI.out; omega
                 have gD : (i : Int) < (mid : Int) := by have := HI.out; have := HE.out; omega
                 have gF : (mid : Int) < (en : Int) := by have := HEN.out; have := HI.out; have := HM.out; have := HA.out; have := HE.out; have := HUE.out; have := HUL.out; omega
                 have gE : ¬ (en : Int) < (b : Int) := by have := HEN.out; have := HM.out; have := HB.out; have := HUE.out; have := HEU.out; omega
                 have nL2 : L2 ≠ [] := List.length_pos_iff.1 (by have := E2.out; omega)
                 have nR1 : R1 ≠ [] := List.length_pos_iff.1 (by have := E3.out; omega)
                 have eL1 : L1 = [] := List.eq_nil_of_length_eq_zero (by have := E1.out; omega)
                 have eR2 : R2 = [] := List.eq_nil_of_length_eq_zero (by have := E4.out; omega)
                 have HnL2 := Ha nL2
                 have HnR1 := Ha nR1
                 have HeL1 := Ha eL1
                 have HeR2 := Ha eR2
                 clear nL2 nR1 eL1 eR2; go_wp2_with fail
                 refine (rotate_any base g n c i m en _ (P ++ L1) L2 R1 (R2 ++ Q) _ (by have := HI.out; have := HA.out; have := E1.out; simp; omega) (by have := HM.out; have := E1.out; have := E2.out; have := HUL.out; simp; omega) (by have := HEN.out; have := HM.out; have := E1.out; have := E2.out; have := E3.out; have := HUL.out; simp; omega) HnL2.out HnR1.out hn (by have := HR.out; rw [SL.out, SR.out] at this; simpa using this)).mono ?_
                 rintro e' w1 ⟨rfl, hrow', hgr'⟩; have HC := Ha (show RowX base g n c (P ++ (L1 ++ R1) ++ (L2 ++ R2) ++ Q) w1 by simpa using hrow')
                 have HD := Ha (grown_trans HG.out hgr')
                 clear hrow' hgr'; go_wp2_with fail
                 obtain ⟨M1, hM1⟩ : ∃ M1, M1 = L1 ++ R1 := ⟨_, rfl⟩
                 have HM1 := Ha (show Srt cX M1 by rw [hM1, HeL1.out, List.nil_append]; exact S3.out)
                 have HM2 := Ha (show StS cX (L1 ++ R1) M1 by rw [hM1]; exact StS.refl _)
                 have HC2 := HC
                 rw [<-hM1] at HC2
                 have HD2 := HD
                 clear hM1; obtain ⟨M2, hM2⟩ : ∃ M2, M2 = L2 ++ R2 := ⟨_, rfl⟩
                 have HM3 := Ha (show Srt cX M2 by rw [hM2, HeR2.out, List.append_nil]; exact S2.out)
                 have HM4 := Ha (show StS cX (L2 ++ R2) M2 by rw [hM2]; exact StS.refl _)
                 have HC3 := Ha (show RowX base g n c (P ++ (M1 ++ M2) ++ Q) _ by have := HC2.out; rw [<-hM2] at this; simpa using this)
                 have HD3 := HD2
                 clear hM2; go_end0
                 obtain ⟨f1, f2⟩ := merge_done cX_ord (by have := HSL.out; rwa [SL.out] at this) (by have := HSR.out; rwa [SR.out] at this) K1.out K2.out HM1.out HM2.out HM3.out HM4.out
                 rw [<-SL.out, <-SR.out] at f2
                 exact ⟨rfl, _, f1, f2, by simpa using HC3.out, HD3.out⟩)
        · skip
          by_cases hC : 0 < u
          · skip
            by_cases hE : e - u < R.length
            · skip
              first
              | (exfalso; have := HU1.out; have := HV1.out; have := HU2.out; have := HV2.out; have := HV3.out; have := HNN.out; have := HE.out; have := HM.out; have := HB.out; have := HA.out; have := HS0.out; have := HF0.out; omega)
              | (have gA : (i : Int) < (m : Int) := by have := HI.out; have := HM.out; have := HA.out; omega
                 have gB : ¬ (m : Int) < (en : Int) := by have := HEN.out; have := HUE.out; omega
                 have gC : (a : Int) < (i : Int) := by have := HI.out; omega
                 have gD : ¬ (i : Int) < (mid : Int) := by have := HI.out; have := HE.out; omega
                 have gF : (mid : Int) < (en : Int) := by have := HEN.out; have := HI.out; have := HM.out; have := HA.out; have := HE.out; have := HUE.out; have := HUL.out; omega
                 have gE : (en : Int) < (b : Int) := by have := HEN.out; have := HM.out; have := HB.out; have := HUE.out; have := HEU.out; omega
                 have nL2 : L2 ≠ [] := List.length_pos_iff.1 (by have := E2.out; omega)
                 have eR1 : R1 = [] := List.eq_nil_of_length_eq_zero (by have := E3.out; omega)
                 have nL1 : L1 ≠ [] := List.length_pos_iff.1 (by have := E1.out; omega)
                 have nR2 : R2 ≠ [] := List.length_pos_iff.1 (by have := E4.out; omega)
                 have HC := Ha (show RowX base g n c (P ++ (L1 ++ R1) ++ (L2 ++ R2) ++ Q) wr by have := HR.out; rw [SL.out, SR.out] at this; rw [eR1] at this ⊢; simpa using this)
                 have HD := Ha HG.out
                 have HnL2 := Ha nL2
                 have HeR1 := Ha eR1
                 have HnL1 := Ha nL1
                 have HnR2 := Ha nR2
                 clear nL2 eR1 nL1 nR2; go_wp2_with fail
                 obtain ⟨M1, hM1⟩ : ∃ M1, M1 = L1 ++ R1 := ⟨_, rfl⟩
                 have HM1 := Ha (show Srt cX M1 by rw [hM1, HeR1.out, List.append_nil]; exact S1.out)
                 have HM2 := Ha (show StS cX (L1 ++ R1) M1 by rw [hM1]; exact StS.refl _)
                 have HC2 := HC
                 rw [<-hM1] at HC2
                 have HD2 := HD
                 clear hM1; refine (IH base g n c mid en b (P ++ M1) L2 R2 Q _ (by have := HN.out; have := E2.out; have := E4.out; have := HUL.out; have := HUE.out; have := HEU.out; have := HE.out; have := HM.out; have := HB.out; have := HA.out; omega) (by have := HM2.out.1.length_eq; have := HE.out; have := HA.out; have := E1.out; have := E3.out; have := HUE.out; simp at *; omega) (by have := HM2.out.1.length_eq; have := HEN.out; have := HM.out; have := E1.out; have := E2.out; have := E3.out; have := HUL.out; have := HUE.out; simp at *; omega) (by have := HM2.out.1.length_eq; have := HB.out; have := E1.out; have := E2.out; have := E3.out; have := E4.out; have := HUL.out; have := HEU.out; simp at *; omega) HnL2.out HnR2.out S2.out S4.out N2.out N4.out hn (by have := HC2.out; simpa using this)).mono ?_
                 rintro e' w3 ⟨rfl, M2, m1, m2, hrow', hgr'⟩; have HM3 := Ha m1
                 have HM4 := Ha m2
                 have HC3 := Ha (show RowX base g n c (P ++ (M1 ++ M2) ++ Q) w3 by simpa using hrow')
                 have HD3 := Ha (grown_trans HD2.out hgr')
                 clear hrow' hgr' m1 m2; go_wp2_with fail
                 go_end0
                 obtain ⟨f1, f2⟩ := merge_done cX_ord (by have := HSL.out; rwa [SL.out] at this) (by have := HSR.out; rwa [SR.out] at this) K1.out K2.out HM1.out HM2.out HM3.out HM4.out
                 rw [<-SL.out, <-SR.out] at f2
                 exact ⟨rfl, _, f1, f2, by simpa using HC3.out, HD3.out⟩)
            · skip
              first
              | (exfalso; have := HU1.out; have := HV1.out; have := HU2.out; have := HV2.out; have := HV3.out; have := HNN.out; have := HE.out; have := HM.out; have := HB.out; have := HA.out; have := HS0.out; have := HF0.out; omega)
              | (have gA : (i : Int) < (m : Int) := by have := HI.out; have := HM.out; have := HA.out; omega
                 have gB : ¬ (m : Int) < (en : Int) := by have := HEN.out; have := HUE.out; omega
                 have gC : (a : Int) < (i : Int) := by have := HI.out; omega
                 have gD : ¬ (i : Int) < (mid : Int) := by have := HI.out; have := HE.out; omega
                 have gF : (mid : Int) < (en : Int) := by have := HEN.out; have := HI.out; have := HM.out; have := HA.out; have := HE.out; have := HUE.out; have := HUL.out; omega
                 have gE : ¬ (en : Int) < (b : Int) := by have := HEN.out; have := HM.out; have := HB.out; have := HUE.out; have := HEU.out; omega
                 have nL2 : L2 ≠ [] := List.length_pos_iff.1 (by have := E2.out; omega)
                 have eR1 : R1 = [] := List.eq_nil_of_length_eq_zero (by have := E3.out; omega)
                 have nL1 : L1 ≠ [] := List.length_pos_iff.1 (by have := E1.out; omega)
                 have eR2 : R2 = [] := List.eq_nil_of_length_eq_zero (by have := E4.out; omega)
                 have HC := Ha (show RowX base g n c (P ++ (L1 ++ R1) ++ (L2 ++ R2) ++ Q) wr by have := HR.out; rw [SL.out, SR.out] at this; rw [eR1] at this ⊢; simpa using this)
                 have HD := Ha HG.out
                 have HnL2 := Ha nL2
                 have HeR1 := Ha eR1
                 have HnL1 := Ha nL1
                 have HeR2 := Ha eR2
                 clear nL2 eR1 nL1 eR2; go_wp2_with fail
                 obtain ⟨M1, hM1⟩ : ∃ M1, M1 = L1 ++ R1 := ⟨_, rfl⟩
                 have HM1 := Ha (show Srt cX M1 by rw [hM1, HeR1.out, List.append_nil]; exact S1.out)
                 have HM2 := Ha (show StS cX (L1 ++ R1) M1 by rw [hM1]; exact StS.refl _)
                 have HC2 := HC
                 rw [<-hM1] at HC2
                 have HD2 := HD
                 clear hM1; obtain ⟨M2, hM2⟩ : ∃ M2, M2 = L2 ++ R2 := ⟨_, rfl⟩
                 have HM3 := Ha (show Srt cX M2 by rw [hM2, HeR2.out, List.append_nil]; exact S2.out)
                 have HM4 := Ha (show StS cX (L2 ++ R2) M2 by rw [hM2]; exact StS.refl _)
                 have HC3 := Ha (show RowX base g n c (P ++ (M1 ++ M2) ++ Q) _ by have := HC2.out; rw [<-hM2] at this; simpa using this)
                 have HD3 := HD2
                 clear hM2; go_end0
                 obtain ⟨f1, f2⟩ := merge_done cX_ord (by have := HSL.out; rwa [SL.out] at this) (by have := HSR.out; rwa [SR.out] at this) K1.out K2.out HM1.out HM2.out HM3.out HM4.out
                 rw [<-SL.out, <-SR.out] at f2
                 exact ⟨rfl, _, f1, f2, by simpa using HC3.out, HD3.out⟩)
          · skip
            by_cases hE : e - u < R.length
            · skip
              first
              | (exfalso; have := HU1.out; have := HV1.out; have := HU2.out; have := HV2.out; have := HV3.out; have := HNN.out; have := HE.out; have := HM.out; have := HB.out; have := HA.out; have := HS0.out; have := HF0.out; omega)
              | (have gA : (i : Int) < (m : Int) := by have := HI.out; have := HM.out; have := HA.out; omega
                 have gB : ¬ (m : Int) < (en : Int) := by have := HEN.out; have := HUE.out; omega
                 have gC : ¬ (a : Int) < (i : Int) := by have := HI.out; omega
                 have gD : ¬ (i : Int) < (mid : Int) := by have := HI.out; have := HE.out; omega
                 have gF : (mid : Int) < (en : Int) := by have := HEN.out; have := HI.out; have := HM.out; have := HA.out; have := HE.out; have := HUE.out; have := HUL.out; omega
                 have gE : (en : Int) < (b : Int) := by have := HEN.out; have := HM.out; have := HB.out; have := HUE.out; have := HEU.out; omega
                 have nL2 : L2 ≠ [] := List.length_pos_iff.1 (by have := E2.out; omega)
                 have eR1 : R1 = [] := List.eq_nil_of_length_eq_zero (by have := E3.out; omega)
                 have eL1 : L1 = [] := List.eq_nil_of_length_eq_zero (by have := E1.out; omega)
                 have nR2 : R2 ≠ [] := List.length_pos_iff.1 (by have := E4.out; omega)
                 have HC := Ha (show RowX base g n c (P ++ (L1 ++ R1) ++ (L2 ++ R2) ++ Q) wr by have := HR.out; rw [SL.out, SR.out] at this; rw [eR1] at this ⊢; simpa using this)
                 have HD := Ha HG.out
                 have HnL2 := Ha nL2
                 have HeR1 := Ha eR1
                 have HeL1 := Ha eL1
                 have HnR2 := Ha nR2
                 clear nL2 eR1 eL1 nR2; go_wp2_with fail
                 obtain ⟨M1, hM1⟩ : ∃ M1, M1 = L1 ++ R1 := ⟨_, rfl⟩
                 have HM1 := Ha (show Srt cX M1 by rw [hM1, HeR1.out, List.append_nil]; exact S1.out)
                 have HM2 := Ha (show StS cX (L1 ++ R1) M1 by rw [hM1]; exact StS.refl _)
                 have HC2 := HC
                 rw [<-hM1] at HC2
                 have HD2 := HD
                 clear hM1; refine (IH base g n c mid en b (P ++ M1) L2 R2 Q _ (by have := HN.out; have := E2.out; have := E4.out; have := HUL.out; have := HUE.out; have := HEU.out; have := HE.out; have := HM.out; have := HB.out; have := HA.out; omega) (by have := HM2.out.1.length_eq; have := HE.out; have := HA.out; have := E1.out; have := E3.out; have := HUE.out; simp at *; omega) (by have := HM2.out.1.length_eq; have := HEN.out; have := HM.out; have := E1.out; have := E2.out; have := E3.out; have := HUL.out; have := HUE.out; simp at *; omega) (by have := HM2.out.1.length_eq; have := HB.out; have := E1.out; have := E2.out; have := E3.out; have := E4.out; have := HUL.out; have := HEU.out; simp at *; omega) HnL2.out HnR2.out S2.out S4.out N2.out N4.out hn (by have := HC2.out; simpa using this)).mono ?_
                 rintro e' w3 ⟨rfl, M2, m1, m2, hrow', hgr'⟩; have HM3 := Ha m1
                 have HM4 := Ha m2
                 have HC3 := Ha (show RowX base g n c (P ++ (M1 ++ M2) ++ Q) w3 by simpa using hrow')
                 have HD3 := Ha (grown_trans HD2.out hgr')
                 clear hrow' hgr' m1 m2; go_wp2_with fail
                 go_end0
                 obtain ⟨f1, f2⟩ := merge_done cX_ord (by have := HSL.out; rwa [SL.out] at this) (by have := HSR.out; rwa [SR.out] at this) K1.out K2.out HM1.out HM2.out HM3.out HM4.out
                 rw [<-SL.out, <-SR.out] at f2
                 exact ⟨rfl, _, f1, f2, by simpa using HC3.out, HD3.out⟩)
            · skip
              first
              | (exfalso; have := HU1.out; have := HV1.out; have := HU2.out; have := HV2.out; have := HV3.out; have := HNN.out; have := HE.out; have := HM.out; have := HB.out; have := HA.out; have := HS0.out; have := HF0.out; omega)
              | (have gA : (i : Int) < (m : Int) := by have := HI.out; have := HM.out; have := HA.out; omega
                 have gB : ¬ (m : Int) < (en : Int) := by have := HEN.out; have := HUE.out; omega
                 have gC : ¬ (a : Int) < (i : Int) := by have := HI.out; omega
                 have gD : ¬ (i : Int) < (mid : Int) := by have := HI.out; have := HE.out; omega
                 have gF : (mid : Int) < (en : Int) := by have := HEN.out; have := HI.out; have := HM.out; have := HA.out; have := HE.out; have := HUE.out; have := HUL.out; omega
                 have gE : ¬ (en : Int) < (b : Int) := by have := HEN.out; have := HM.out; have := HB.out; have := HUE.out; have := HEU.out; omega
                 have nL2 : L2 ≠ [] := List.length_pos_iff.1 (by have := E2.out; omega)
                 have eR1 : R1 = [] := List.eq_nil_of_length_eq_zero (by have := E3.out; omega)
                 have eL1 : L1 = [] := List.eq_nil_of_length_eq_zero (by have := E1.out; omega)
                 have eR2 : R2 = [] := List.eq_nil_of_length_eq_zero (by have := E4.out; omega)
                 have HC := Ha (show RowX base g n c (P ++ (L1 ++ R1) ++ (L2 ++ R2) ++ Q) wr by have := HR.out; rw [SL.out, SR.out] at this; rw [eR1] at this ⊢; simpa using this)
                 have HD := Ha HG.out
                 have HnL2 := Ha nL2
                 have HeR1 := Ha eR1
                 have HeL1 := Ha eL1
                 have HeR2 := Ha eR2
                 clear nL2 eR1 eL1 eR2; go_wp2_with fail
                 obtain ⟨M1, hM1⟩ : ∃ M1, M1 = L1 ++ R1 := ⟨_, rfl⟩
                 have HM1 := Ha (show Srt cX M1 by rw [hM1, HeR1.out, List.append_nil]; exact S1.out)
                 have HM2 := Ha (show StS cX (L1 ++ R1) M1 by rw [hM1]; exact StS.refl _)
                 have HC2 := HC
                 rw [<-hM1] at HC2
                 have HD2 := HD
                 clear hM1; obtain ⟨M2, hM2⟩ : ∃ M2, M2 = L2 ++ R2 := ⟨_, rfl⟩
                 have HM3 := Ha (show Srt cX M2 by rw [hM2, HeR2.out, List.append_nil]; exact S2.out)
                 have HM4 := Ha (show StS cX (L2 ++ R2) M2 by rw [hM2]; exact StS.refl _)
                 have HC3 := Ha (show RowX base g n c (P ++ (M1 ++ M2) ++ Q) _ by have := HC2.out; rw [<-hM2] at this; simpa using this)
                 have HD3 := HD2
                 clear hM2; go_end0
                 obtain ⟨f1, f2⟩ := merge_done cX_ord (by have := HSL.out; rwa [SL.out] at this) (by have := HSR.out; rwa [SR.out] at this) K1.out K2.out HM1.out HM2.out HM3.out HM4.out
                 rw [<-SL.out, <-SR.out] at f2
                 exact ⟨rfl, _, f1, f2, by simpa using HC3.out, HD3.out⟩)
      · skip
        by_cases hB : u < e
        · skip
          by_cases hC : 0 < u
          · skip
            by_cases hE : e - u < R.length
            · skip
              first
              | (exfalso; have := HU1.out; have := HV1.out; have := HU2.out; have := HV2.out; have := HV3.out; have := HNN.out; have := HE.out; have := HM.out; have := HB.out; have := HA.out; have := HS0.out; have := HF0.out; omega)
              | (have gA : ¬ (i : Int) < (m : Int) := by have := HI.out; have := HM.out; have := HA.out; omega
                 have gB : (m : Int) < (en : Int) := by have := HEN.out; have := HUE.out; omega
                 have gC : (a : Int) < (i : Int) := by have := HI.out; omega
                 have gD : (i : Int) < (mid : Int) := by have := HI.out; have := HE.out; omega
                 have gF : ¬ (mid : Int) < (en : Int) := by have := HEN.out; have := HI.out; have := HM.out; have := HA.out; have := HE.out; have := HUE.out; have := HUL.out; omega
                 have gE : (en : Int) < (b : Int) := by have := HEN.out; have := HM.out; have := HB.out; have := HUE.out; have := HEU.out; omega
                 have eL2 : L2 = [] := List.eq_nil_of_length_eq_zero (by have := E2.out; omega)
                 have nR1 : R1 ≠ [] := List.length_pos_iff.1 (by have := E3.out; omega)
                 have nL1 : L1 ≠ [] := List.length_pos_iff.1 (by have := E1.out; omega)
                 have nR2 : R2 ≠ [] := List.length_pos_iff.1 (by have := E4.out; omega)
                 have HC := Ha (show RowX base g n c (P ++ (L1 ++ R1) ++ (L2 ++ R2) ++ Q) wr by have := HR.out; rw [SL.out, SR.out] at this; rw [eL2] at this ⊢; simpa using this)
                 have HD := Ha HG.out
                 have HeL2 := Ha eL2
                 have HnR1 := Ha nR1
                 have HnL1 := Ha nL1
                 have HnR2 := Ha nR2
                 clear eL2 nR1 nL1 nR2; go_wp2_with fail
                 refine (IH base g n c a i mid P L1 R1 (L2 ++ R2 ++ Q) _ (by have := HN.out; have := E1.out; have := E3.out; have := HUL.out; have := HUE.out; have := HEU.out; have := HE.out; omega) HA.out (by have := HI.out; have := HA.out; have := E1.out; omega) (by have := HE.out; have := HA.out; have := E1.out; have := E3.out; have := HUE.out; omega) HnL1.out HnR1.out S1.out S3.out N1.out N3.out hn (by have := HC.out; simpa using this)).mono ?_
                 rintro e' w2 ⟨rfl, M1, m1, m2, hrow', hgr'⟩; have HM1 := Ha m1
                 have HM2 := Ha m2
                 have HC2 := Ha (show RowX base g n c (P ++ M1 ++ (L2 ++ R2) ++ Q) w2 by simpa using hrow')
                 have HD2 := Ha (grown_trans HD.out hgr')
                 clear hrow' hgr' m1 m2; go_wp2_with fail
                 obtain ⟨M2, hM2⟩ : ∃ M2, M2 = L2 ++ R2 := ⟨_, rfl⟩
                 have HM3 := Ha (show Srt cX M2 by rw [hM2, HeL2.out, List.nil_append]; exact S4.out)
                 have HM4 := Ha (show StS cX (L2 ++ R2) M2 by rw [hM2]; exact StS.refl _)
                 have HC3 := Ha (show RowX base g n c (P ++ (M1 ++ M2) ++ Q) _ by have := HC2.out; rw [<-hM2] at this; simpa using this)
                 have HD3 := HD2
                 clear hM2; go_end0
                 obtain ⟨f1, f2⟩ := merge_done cX_ord (by have := HSL.out; rwa [SL.out] at this) (by have := HSR.out; rwa [SR.out] at this) K1.out K2.out HM1.out HM2.out HM3.out HM4.out
                 rw [<-SL.out, <-SR.out] at f2
                 exact ⟨rfl, _, f1, f2, by simpa using HC3.out, HD3.out⟩)
            · skip
              first
              | (exfalso; have := HU1.out; have := HV1.out; have := HU2.out; have := HV2.out; have := HV3.out; have := HNN.out; have := HE.out; have := HM.out; have := HB.out; have := HA.out; have := HS0.out; have := HF0.out; omega)
              | (have gA : ¬ (i : Int) < (m : Int) := by have := HI.out; have := HM.out; have := HA.out; omega
                 have gB : (m : Int) < (en : Int) := by have := HEN.out; have := HUE.out; omega
                 have gC : (a : Int) < (i : Int) := by have := HI.out; omega
                 have gD : (i : Int) < (mid : Int) := by have := HI.out; have := HE.out; omega
                 have gF : ¬ (mid : Int) < (en : Int) := by have := HEN.out; have := HI.out; have := HM.out; have := HA.out; have := HE.out; have := HUE.out; have := HUL.out; omega
                 have gE : ¬ (en : Int) < (b : Int) := by have := HEN.out; have := HM.out; have := HB.out; have := HUE.out; have := HEU.out; omega
                 have eL2 : L2 = [] := List.eq_nil_of_length_eq_zero (by have := E2.out; omega)
                 have nR1 : R1 ≠ [] := List.length_pos_iff.1 (by have := E3.out; omega)
                 have nL1 : L1 ≠ [] := List.length_pos_iff.1 (by have := E1.out; omega)
                 have eR2 : R2 = [] := List.eq_nil_of_length_eq_zero (by have := E4.out; omega)
                 have HC := Ha (show RowX base g n c (P ++ (L1 ++ R1) ++ (L2 ++ R2) ++ Q) wr by have := HR.out; rw [SL.out, SR.out] at this; rw [eL2] at this ⊢; simpa using this)
                 have HD := Ha HG.out
                 have HeL2 := Ha eL2
                 have HnR1 := Ha nR1
                 have HnL1 := Ha nL1
                 have HeR2 := Ha eR2
                 clear eL2 nR1 nL1 eR2; go_wp2_with fail
                 refine (IH base g n c a i mid P L1 R1 (L2 ++ R2 ++ Q) _ (by have := HN.out; have := E1.out; have := E3.out; have := HUL.out; have := HUE.out; have := HEU.out; have := HE.out; omega) HA.out (by have := HI.out; have := HA.out; have := E1.out; omega) (by have := HE.out; have := HA.out; have := E1.out; have := E3.out; have := HUE.out; omega) HnL1.out HnR1.out S1.out S3.out N1.out N3.out hn (by have := HC.out; simpa using this)).mono ?_
                 rintro e' w2 ⟨rfl, M1, m1, m2, hrow', hgr'⟩; have HM1 := Ha m1
                 have HM2 := Ha m2
                 have HC2 := Ha (show RowX base g n c (P ++ M1 ++ (L2 ++ R2) ++ Q) w2 by simpa using hrow')
                 have HD2 := Ha (grown_trans HD.out hgr')
                 clear hrow' hgr' m1 m2; go_wp2_with fail
                 obtain ⟨M2, hM2⟩ : ∃ M2, M2 = L2 ++ R2 := ⟨_, rfl⟩
                 have HM3 := Ha (show Srt cX M2 by rw [hM2, HeL2.out, List.nil_append]; exact S4.out)
                 have HM4 := Ha (show StS cX (L2 ++ R2) M2 by rw [hM2]; exact StS.refl _)
                 have HC3 := Ha (show RowX base g n c (P ++ (M1 ++ M2) ++ Q) _ by have := HC2.out; rw [<-hM2] at this; simpa using this)
                 have HD3 := HD2
                 clear hM2; go_end0
                 obtain ⟨f1, f2⟩ := merge_done cX_ord (by have := HSL.out; rwa [SL.out] at this) (by have := HSR.out; rwa [SR.out] at this) K1.out K2.out HM1.out HM2.out HM3.out HM4.out
                 rw [<-SL.out, <-SR.out] at f2
                 exact ⟨rfl, _, f1, f2, by simpa using HC3.out, HD3.out⟩)
          · skip
            by_cases hE : e - u < R.length
            · skip
              first
              | (exfalso; have := HU1.out; have := HV1.out; have := HU2.out; have := HV2.out; have := HV3.out; have := HNN.out; have := HE.out; have := HM.out; have := HB.out; have := HA.out; have := HS0.out; have := HF0.out; omega)
              | (have gA : ¬ (i : Int) < (m : Int) := by have := HI.out; have := HM.out; have := HA.out; omega
                 have gB : (m : Int) < (en : Int) := by have := HEN.out; have := HUE.out; omega
                 have gC : ¬ (a : Int) < (i : Int) := by have := HI.out; omega
                 have gD : (i : Int) < (mid : Int) := by have := HI.out; have := HE.out; omega
                 have gF : ¬ (mid : Int) < (en : Int) := by have := HEN.out; have := HI.out; have := HM.out; have := HA.out; have := HE.out; have := HUE.out; have := HUL.out; omega
                 have gE : (en : Int) < (b : Int) := by have := HEN.out; have := HM.out; have := HB.out; have := HUE.out; have := HEU.out; omega
                 have eL2 : L2 = [] := List.eq_nil_of_length_eq_zero (by have := E2.out; omega)
                 have nR1 : R1 ≠ [] := List.length_pos_iff.1 (by have := E3.out; omega)
                 have eL1 : L1 = [] := List.eq_nil_of_length_eq_zero (by have := E1.out; omega)
                 have nR2 : R2 ≠ [] := List.length_pos_iff.1 (by have := E4.out; omega)
                 have HC := Ha (show RowX base g n c (P ++ (L1 ++ R1) ++ (L2 ++ R2) ++ Q) wr by have := HR.out; rw [SL.out, SR.out] at this; rw [eL2] at this ⊢; simpa using this)
                 have HD := Ha HG.out
                 have HeL2 := Ha eL2
                 have HnR1 := Ha nR1
                 have HeL1 := Ha eL1
                 have HnR2 := Ha nR2
                 clear eL2 nR1 eL1 nR2; go_wp2_with fail
                 obtain ⟨M1, hM1⟩ : ∃ M1, M1 = L1 ++ R1 := ⟨_, rfl⟩
                 have HM1 := Ha (show Srt cX M1 by rw [hM1, HeL1.out, List.nil_append]; exact S3.out)
                 have HM2 := Ha (show StS cX (L1 ++ R1) M1 by rw [hM1]; exact StS.refl _)
                 have HC2 := HC
                 rw [<-hM1] at HC2
                 have HD2 := HD
                 clear hM1; obtain ⟨M2, hM2⟩ : ∃ M2, M2 = L2 ++ R2 := ⟨_, rfl⟩
                 have HM3 := Ha (show Srt cX M2 by rw [hM2, HeL2.out, List.nil_append]; exact S4.out)
                 have HM4 := Ha (show StS cX (L2 ++ R2) M2 by rw [hM2]; exact StS.refl _)
                 have HC3 := Ha (show RowX base g n c (P ++ (M1 ++ M2) ++ Q) _ by have := HC2.out; rw [<-hM2] at this; simpa using this)
                 have HD3 := HD2
                 clear hM2; go_end0
                 obtain ⟨f1, f2⟩ := merge_done cX_ord (by have := HSL.out; rwa [SL.out] at this) (by have := HSR.out; rwa [SR.out] at this) K1.out K2.out HM1.out HM2.out HM3.out HM4.out
                 rw [<-SL.out, <-SR.out] at f2
                 exact ⟨rfl, _, f1, f2, by simpa using HC3.out, HD3.out⟩)
            · skip
              first
              | (exfalso; have := HU1.out; have := HV1.out; have := HU2.out; have := HV2.out; have := HV3.out; have := HNN.out; have := HE.out; have := HM.out; have := HB.out; have := HA.out; have := HS0.out; have := HF0.out; omega)
              | (have gA : ¬ (i : Int) < (m : Int) := by have := HI.out; have := HM.out; have := HA.out; omega
                 have gB : (m : Int) < (en : Int) := by have := HEN.out; have := HUE.out; omega
                 have gC : ¬ (a : Int) < (i : Int) := by have := HI.out; omega
                 have gD : (i : Int) < (mid : Int) := by have := HI.out; have := HE.out; omega
                 have gF : ¬ (mid : Int) < (en : Int) := by have := HEN.out; have := HI.out; have := HM.out; have := HA.out; have := HE.out; have := HUE.out; have := HUL.out; omega
                 have gE : ¬ (en : Int) < (b : Int) := by have := HEN.out; have := HM.out; have := HB.out; have := HUE.out; have := HEU.out; omega
                 have eL2 : L2 = [] := List.eq_nil_of_length_eq_zero (by have := E2.out; omega)
                 have nR1 : R1 ≠ [] := List.length_pos_iff.1 (by have := E3.out; omega)
                 have eL1 : L1 = [] := List.eq_nil_of_length_eq_zero (by have := E1.out; omega)
                 have eR2 : R2 = [] := List.eq_nil_of_length_eq_zero (by have := E4.out; omega)
                 have HC := Ha (show RowX base g n c (P ++ (L1 ++ R1) ++ (L2 ++ R2) ++ Q) wr by have := HR.out; rw [SL.out, SR.out] at this; rw [eL2] at this ⊢; simpa using this)
                 have HD := Ha HG.out
                 have HeL2 := Ha eL2
                 have HnR1 := Ha nR1
                 have HeL1 := Ha eL1
                 have HeR2 := Ha eR2
                 clear eL2 nR1 eL1 eR2; go_wp2_with fail
                 obtain ⟨M1, hM1⟩ : ∃ M1, M1 = L1 ++ R1 := ⟨_, rfl⟩
                 have HM1 := Ha (show Srt cX M1 by rw [hM1, HeL1.out, List.nil_append]; exact S3.out)
                 have HM2 := Ha (show StS cX (L1 ++ R1) M1 by rw [hM1]; exact StS.refl _)
                 have HC2 := HC
                 rw [<-hM1] at HC2
                 have HD2 := HD
                 clear hM1; obtain ⟨M2, hM2⟩ : ∃ M2, M2 = L2 ++ R2 := ⟨_, rfl⟩
                 have HM3 := Ha (show Srt cX M2 by rw [hM2, HeL2.out, List.nil_append]; exact S4.out)
                 have HM4 := Ha (show StS cX (L2 ++ R2) M2 by rw [hM2]; exact StS.refl _)
                 have HC3 := Ha (show RowX base g n c (P ++ (M1 ++ M2) ++ Q) _ by have := HC2.out; rw [<-hM2] at this; simpa using this)
                 have HD3 := HD2
                 clear hM2; go_end0
                 obtain ⟨f1, f2⟩ := merge_done cX_ord (by have := HSL.out; rwa [SL.out] at this) (by have := HSR.out; rwa [SR.out] at this) K1.out K2.out HM1.out HM2.out HM3.out HM4.out
                 rw [<-SL.out, <-SR.out] at f2
                 exact ⟨rfl, _, f1, f2, by simpa using HC3.out, HD3.out⟩)
        · skip
          by_cases hC : 0 < u
          · skip
            by_cases hE : e - u < R.length
            · skip
              first
              | (exfalso; have := HU1.out; have := HV1.out; have := HU2.out; have := HV2.out; have := HV3.out; have := HNN.out; have := HE.out; have := HM.out; have := HB.out; have := HA.out; have := HS0.out; have := HF0.out; omega)
              | (have gA : ¬ (i : Int) < (m : Int) := by have := HI.out; have := HM.out; have := HA.out; omega
                 have gB : ¬ (m : Int) < (en : Int) := by have := HEN.out; have := HUE.out; omega
                 have gC : (a : Int) < (i : Int) := by have := HI.out; omega
                 have gD : ¬ (i : Int) < (mid : Int) := by have := HI.out; have := HE.out; omega
                 have gF : ¬ (mid : Int) < (en : Int) := by have := HEN.out; have := HI.out; have := HM.out; have := HA.out; have := HE.out; have := HUE.out; have := HUL.out; omega
                 have gE : (en : Int) < (b : Int) := by have := HEN.out; have := HM.out; have := HB.out; have := HUE.out; have := HEU.out; omega
                 have eL2 : L2 = [] := List.eq_nil_of_length_eq_zero (by have := E2.out; omega)
                 have eR1 : R1 = [] := List.eq_nil_of_length_eq_zero (by have := E3.out; omega)
                 have nL1 : L1 ≠ [] := List.length_pos_iff.1 (by have := E1.out; omega)
                 have nR2 : R2 ≠ [] := List.length_pos_iff.1 (by have := E4.out; omega)
                 have HC := Ha (show RowX base g n c (P ++ (L1 ++ R1) ++ (L2 ++ R2) ++ Q) wr by have := HR.out; rw [SL.out, SR.out] at this; rw [eL2] at this ⊢; simpa using this)
                 have HD := Ha HG.out
                 have HeL2 := Ha eL2
                 have HeR1 := Ha eR1
                 have HnL1 := Ha nL1
                 have HnR2 := Ha nR2
                 clear eL2 eR1 nL1 nR2; go_wp2_with fail
                 obtain ⟨M1, hM1⟩ : ∃ M1, M1 = L1 ++ R1 := ⟨_, rfl⟩
                 have HM1 := Ha (show Srt cX M1 by rw [hM1, HeR1.out, List.append_nil]; exact S1.out)
                 have HM2 := Ha (show StS cX (L1 ++ R1) M1 by rw [hM1]; exact StS.refl _)
                 have HC2 := HC
                 rw [<-hM1] at HC2
                 have HD2 := HD
                 clear hM1; obtain ⟨M2, hM2⟩ : ∃ M2, M2 = L2 ++ R2 := ⟨_, rfl⟩
                 have HM3 := Ha (show Srt cX M2 by rw [hM2, HeL2.out, List.nil_append]; exact S4.out)
                 have HM4 := Ha (show StS cX (L2 ++ R2) M2 by rw [hM2]; exact StS.refl _)
                 have HC3 := Ha (show RowX base g n c (P ++ (M1 ++ M2) ++ Q) _ by have := HC2.out; rw [<-hM2] at this; simpa using this)
                 have HD3 := HD2
                 clear hM2; go_end0
                 obtain ⟨f1, f2⟩ := merge_done cX_ord (by have := HSL.out; rwa [SL.out] at this) (by have := HSR.out; rwa [SR.out] at this) K1.out K2.out HM1.out HM2.out HM3.out HM4.out
                 rw [<-SL.out, <-SR.out] at f2
                 exact ⟨rfl, _, f1, f2, by simpa using HC3.out, HD3.out⟩)
            · skip
              first
              | (exfalso; have := HU1.out; have := HV1.out; have := HU2.out; have := HV2.out; have := HV3.out; have := HNN.out; have := HE.out; have := HM.out; have := HB.out; have := HA.out; have := HS0.out; have := HF0.out; omega)
              | (have gA : ¬ (i : Int) < (m : Int) := by have := HI.out; have := HM.out; have := HA.out; omega
                 have gB : ¬ (m : Int) < (en : Int) := by have := HEN.out; have := HUE.out; omega
                 have gC : (a : Int) < (i : Int) := by have := HI.out; omega
                 have gD : ¬ (i : Int) < (mid : Int) := by have := HI.out; have := HE.out; omega
                 have gF : ¬ (mid : Int) < (en : Int) := by have := HEN.out; have := HI.out; have := HM.out; have := HA.out; have := HE.out; have := HUE.out; have := HUL.out; omega
                 have gE : ¬ (en : Int) < (b : Int) := by have := HEN.out; have := HM.out; have := HB.out; have := HUE.out; have := HEU.out; omega
                 have eL2 : L2 = [] := List.eq_nil_of_length_eq_zero (by have := E2.out; omega)
                 have eR1 : R1 = [] := List.eq_nil_of_length_eq_zero (by have := E3.out; omega)
                 have nL1 : L1 ≠ [] := List.length_pos_iff.1 (by have := E1.out; omega)
                 have eR2 : R2 = [] := List.eq_nil_of_length_eq_zero (by have := E4.out; omega)
                 have HC := Ha (show RowX base g n c (P ++ (L1 ++ R1) ++ (L2 ++ R2) ++ Q) wr by have := HR.out; rw [SL.out, SR.out] at this; rw [eL2] at this ⊢; simpa using this)
                 have HD := Ha HG.out
                 have HeL2 := Ha eL2
                 have HeR1 := Ha eR1
                 have HnL1 := Ha nL1
                 have HeR2 := Ha eR2
                 clear eL2 eR1 nL1 eR2; go_wp2_with fail
                 obtain ⟨M1, hM1⟩ : ∃ M1, M1 = L1 ++ R1 := ⟨_, rfl⟩
                 have HM1 := Ha (show Srt cX M1 by rw [hM1, HeR1.out, List.append_nil]; exact S1.out)
                 have HM2 := Ha (show StS cX (L1 ++ R1) M1 by rw [hM1]; exact StS.refl _)
                 have HC2 := HC
                 rw [<-hM1] at HC2
                 have HD2 := HD
                 clear hM1; obtain ⟨M2, hM2⟩ : ∃ M2, M2 = L2 ++ R2 := ⟨_, rfl⟩
                 have HM3 := Ha (show Srt cX M2 by rw [hM2, HeL2.out, List.nil_append]; exact S4.out)
                 have HM4 := Ha (show StS cX (L2 ++ R2) M2 by rw [hM2]; exact StS.refl _)
                 have HC3 := Ha (show RowX base g n c (P ++ (M1 ++ M2) ++ Q) _ by have := HC2.out; rw [<-hM2] at this; simpa using this)
                 have HD3 := HD2
                 clear hM2; go_end0
                 obtain ⟨f1, f2⟩ := merge_done cX_ord (by have := HSL.out; rwa [SL.out] at this) (by have := HSR.out; rwa [SR.out] at this) K1.out K2.out HM1.out HM2.out HM3.out HM4.out
                 rw [<-SL.out, <-SR.out] at f2
                 exact ⟨rfl, _, f1, f2, by simpa using HC3.out, HD3.out⟩)
          · skip
            by_cases hE : e - u < R.length
            · skip
              first
              | (exfalso; have := HU1.out; have := HV1.out; have := HU2.out; have := HV2.out; have := HV3.out; have := HNN.out; have := HE.out; have := HM.out; have := HB.out; have := HA.out; have := HS0.out; have := HF0.out; omega)
              | (have gA : ¬ (i : Int) < (m : Int) := by have := HI.out; have := HM.out; have := HA.out; omega
                 have gB : ¬ (m : Int) < (en : Int) := by have := HEN.out; have := HUE.out; omega
                 have gC : ¬ (a : Int) < (i : Int) := by have := HI.out; omega
                 have gD : ¬ (i : Int) < (mid : Int) := by have := HI.out; have := HE.out; omega
                 have gF : ¬ (mid : Int) < (en : Int) := by have := HEN.out; have := HI.out; have := HM.out; have := HA.out; have := HE.out; have := HUE.out; have := HUL.out; omega
                 have gE : (en : Int) < (b : Int) := by have := HEN.out; have := HM.out; have := HB.out; have := HUE.out; have := HEU.out; omega
                 have eL2 : L2 = [] := List.eq_nil_of_length_eq_zero (by have := E2.out; omega)
                 have eR1 : R1 = [] := List.eq_nil_of_length_eq_zero (by have := E3.out; omega)
                 have eL1 : L1 = [] := List.eq_nil_of_length_eq_zero (by have := E1.out; omega)
                 have nR2 : R2 ≠ [] := List.length_pos_iff.1 (by have := E4.out; omega)
                 have HC := Ha (show RowX base g n c (P ++ (L1 ++ R1) ++ (L2 ++ R2) ++ Q) wr by have := HR.out; rw [SL.out, SR.out] at this; rw [eL2] at this ⊢; simpa using this)
                 have HD := Ha HG.out
                 have HeL2 := Ha eL2
                 have HeR1 := Ha eR1
                 have HeL1 := Ha eL1
                 have HnR2 := Ha nR2
                 clear eL2 eR1 eL1 nR2; go_wp2_with fail
                 obtain ⟨M1, hM1⟩ : ∃ M1, M1 = L1 ++ R1 := ⟨_, rfl⟩
                 have HM1 := Ha (show Srt cX M1 by rw [hM1, HeR1.out, List.append_nil]; exact S1.out)
                 have HM2 := Ha (show StS cX (L1 ++ R1) M1 by rw [hM1]; exact StS.refl _)
                 have HC2 := HC
                 rw [<-hM1] at HC2
                 have HD2 := HD
                 clear hM1; obtain ⟨M2, hM2⟩ : ∃ M2, M2 = L2 ++ R2 := ⟨_, rfl⟩
                 have HM3 := Ha (show Srt cX M2 by rw [hM2, HeL2.out, List.nil_append]; exact S4.out)
                 have HM4 := Ha (show StS cX (L2 ++ R2) M2 by rw [hM2]; exact StS.refl _)
                 have HC3 := Ha (show RowX base g n c (P ++ (M1 ++ M2) ++ Q) _ by have := HC2.out; rw [<-hM2] at this; simpa using this)
                 have HD3 := HD2
                 clear hM2; go_end0
                 obtain ⟨f1, f2⟩ := merge_done cX_ord (by have := HSL.out; rwa [SL.out] at this) (by have := HSR.out; rwa [SR.out] at this) K1.out K2.out HM1.out HM2.out HM3.out HM4.out
                 rw [<-SL.out, <-SR.out] at f2
                 exact ⟨rfl, _, f1, f2, by simpa using HC3.out, HD3.out⟩)
            · skip
              first
              | (exfalso; have := HU1.out; have := HV1.out; have := HU2.out; have := HV2.out; have := HV3.out; have := HNN.out; have := HE.out; have := HM.out; have := HB.out; have := HA.out; have := HS0.out; have := HF0.out; omega)
              | (have gA : ¬ (i : Int) < (m : Int) := by have := HI.out; have := HM.out; have := HA.out; omega
                 have gB : ¬ (m : Int) < (en : Int) := by have := HEN.out; have := HUE.out; omega
                 have gC : ¬ (a : Int) < (i : Int) := by have := HI.out; omega
                 have gD : ¬ (i : Int) < (mid : Int) := by have := HI.out; have := HE.out; omega
                 have gF : ¬ (mid : Int) < (en : Int) := by have := HEN.out; have := HI.out; have := HM.out; have := HA.out; have := HE.out; have := HUE.out; have := HUL.out; omega
                 have gE : ¬ (en : Int) < (b : Int) := by have := HEN.out; have := HM.out; have := HB.out; have := HUE.out; have := HEU.out; omega
                 have eL2 : L2 = [] := List.eq_nil_of_length_eq_zero (by have := E2.out; omega)
                 have eR1 : R1 = [] := List.eq_nil_of_length_eq_zero (by have := E3.out; omega)
                 have eL1 : L1 = [] := List.eq_nil_of_length_eq_zero (by have := E1.out; omega)
                 have eR2 : R2 = [] := List.eq_nil_of_length_eq_zero (by have := E4.out; omega)
                 have HC := Ha (show RowX base g n c (P ++ (L1 ++ R1) ++ (L2 ++ R2) ++ Q) wr by have := HR.out; rw [SL.out, SR.out] at this; rw [eL2] at this ⊢; simpa using this)
                 have HD := Ha HG.out
                 have HeL2 := Ha eL2
                 have HeR1 := Ha eR1
                 have HeL1 := Ha eL1
                 have HeR2 := Ha eR2
                 clear eL2 eR1 eL1 eR2; go_wp2_with fail
                 obtain ⟨M1, hM1⟩ : ∃ M1, M1 = L1 ++ R1 := ⟨_, rfl⟩
                 have HM1 := Ha (show Srt cX M1 by rw [hM1, HeR1.out, List.append_nil]; exact S1.out)
                 have HM2 := Ha (show StS cX (L1 ++ R1) M1 by rw [hM1]; exact StS.refl _)
                 have HC2 := HC
                 rw [<-hM1] at HC2
                 have HD2 := HD
                 clear hM1; obtain ⟨M2, hM2⟩ : ∃ M2, M2 = L2 ++ R2 := ⟨_, rfl⟩
                 have HM3 := Ha (show Srt cX M2 by rw [hM2, HeL2.out, List.nil_append]; exact S4.out)
                 have HM4 := Ha (show StS cX (L2 ++ R2) M2 by rw [hM2]; exact StS.refl _)
                 have HC3 := Ha (show RowX base g n c (P ++ (M1 ++ M2) ++ Q) _ by have := HC2.out; rw [<-hM2] at this; simpa using this)
                 have HD3 := HD2
                 clear hM2; go_end0
                 obtain ⟨f1, f2⟩ := merge_done cX_ord (by have := HSL.out; rwa [SL.out] at this) (by have := HSR.out; rwa [SR.out] at this) K1.out K2.out HM1.out HM2.out HM3.out HM4.out
                 rw [<-SL.out, <-SR.out] at f2
                 exact ⟨rfl, _, f1, f2, by simpa using HC3.out, HD3.out⟩)
theorem sym_lo (N base g n c a m b e : Nat) (P L R Q : List Rrd) (w : World) (IH : SymN N) (hN : L.length + R.length <= N + 1) (ha : a = P.length) (hm : m = P.length + L.length) (hb : b = P.length + L.length + R.length) (hL2 : 2 <= L.length) (hR2 : 2 <= R.length) (he : e = (a + b) / 2 - a) (hmm : m <= (a + b) / 2)
    (hs : Srt cX L) (hsR : Srt cX R) (hNL : OkL L) (hNR : OkL R) (hn : n <= 1000000) (h : RowX base g n c (P ++ L ++ R ++ Q) w) :
    Calls Tryz.prog 220 #[.slice (some ⟨g, 0, none⟩) n c, .int .i64 (a : Nat), .int .i64 (m : Nat), .int .i64 (b : Nat), cmpF] w fun e w' =>
      e = .returned (.tuple #[]) /\ ∃ M', Srt cX M' /\ StS cX (L ++ R) M' /\ RowX base g n c (P ++ M' ++ Q) w' /\ w.grownBy w' (some g) := by
  have hl := h.len
  simp only [List.length_append] at hl
  obtain ⟨L0, hL0⟩ : ∃ L0, L0 = L.length := ⟨_, rfl⟩
  obtain ⟨R0, hR0⟩ : ∃ R0, R0 = R.length := ⟨_, rfl⟩
  obtain ⟨mid, hmid⟩ : ∃ mid, mid = (a + b) / 2 := ⟨_, rfl⟩
  obtain ⟨nn, hnn⟩ : ∃ nn, nn = mid + m := ⟨_, rfl⟩
  obtain ⟨p, hp⟩ : ∃ p, p + 1 = nn := ⟨nn - 1, by omega⟩
  rw [<-hmid] at he hmm
  have z0 : (m : Int) - (a : Int) = (L0 : Int) := by omega
  have g0 : ((L0 : Int) == 1) = false := by rw [beq_eq_false_iff_ne]; omega
  have z1 : (b : Int) - (m : Int) = (R0 : Int) := by omega
  have g1 : ((R0 : Int) == 1) = false := by rw [beq_eq_false_iff_ne]; omega
  have zmid : ((a : Int) + (b : Int)) / 2 = (mid : Int) := by omega
  have znn : (mid : Int) + (m : Int) = (nn : Int) := by omega
  have zp : (nn : Int) - 1 = (p : Int) := by omega
  have hbn : b <= n := by omega
  have hmb : m < b := by omega
  have ham : a < m := by omega
  have hmidb : mid < b := by omega
  have hamid : a <= mid := by omega
  have hmn : m <= n := by omega
  have hnn2 : nn <= 2000000 := by omega
  have gmm : ¬ (mid : Int) < (m : Int) := by omega
  obtain ⟨u0, hu0⟩ : ∃ u0, u0 = 0 := ⟨_, rfl⟩
  obtain ⟨v0, hv0⟩ : ∃ v0, v0 = L.length := ⟨_, rfl⟩
  have hv1 : v0 = L.length \/ v0 = e := by omega
  have hu1 : u0 = 0 \/ u0 + R.length = e := by omega
  have hv2 : v0 <= L.length := by omega
  have hv3 : v0 <= e := by omega
  have hu2 : e <= u0 + R.length := by omega
  have huv0 : u0 <= v0 := by omega
  have hs0 : a = a + u0 := by omega
  have hf0 : m = a + v0 := by omega
  have H := Ha h
  have HA := Ha ha
  have HM := Ha hm
  have HB := Ha hb
  have HE := Ha (show mid = a + e by omega)
  have HNN := Ha hnn
  have HP := Ha hp
  have HN := Ha hN
  have HSL := Ha hs
  have HSR := Ha hsR
  have HNL := Ha hNL
  have HNR := Ha hNR
  have HV1 := Ha hv1
  have HU1 := Ha hu1
  have HV2 := Ha hv2
  have HV3 := Ha hv3
  have HU2 := Ha hu2
  have HS0 := Ha hs0
  have HF0 := Ha hf0
  have HUV := Ha huv0
  clear h hl ha hm hb hs hsR hNL hNR hnn hp hmid he hmm hN hv1 hu1 hv2 hv3 hu2 hs0 hf0 hL0 hR0 hu0 hv0 huv0 hL2 hR2
  go_enter Tryz.func220, Tryz.ntmps220
  go_wp2_with fail
  go_loopw [20, 21] (fun i' j' wr => ∃ (i j u v : Nat), i' = .int .i64 (i : Nat) /\ j' = .int .i64 (j : Nat) /\ i = a + u /\ j = a + v /\ Mid L R e u0 v0 u v /\ RowX base g n c (P ++ L ++ R ++ Q) wr /\ w.grownBy wr (some g)) (fun i' j' _ => (intOf j').toNat - (intOf i').toNat)
  case atStart => exact ⟨a, m, u0, v0, rfl, rfl, HS0.out, HF0.out, Mid.start L R e HUV.out, H.out, World.grownBy.refl _ _⟩
  case round =>
    obtain ⟨i, j, u, v, rfl, rfl, hi, hj, hbf, hrow, hgr⟩ := hrel
    have HR := Ha hrow
    have HG := Ha hgr
    have HBF := Ha hbf
    have HI := Ha hi
    have HJ := Ha hj
    have hu0 := hbf.1
    have huv := hbf.2.1
    have hvv := hbf.2.2.1
    have hjm : j <= m := by have := HM.out; have := HA.out; have := HV2.out; omega
    have hij : i <= j := by omega
    have hjn : j <= mid := by have := HV3.out; have := HE.out; omega
    clear hrow hgr hbf hi hj
    by_cases hlt : i < j
    · have g2 : (i : Int) < (j : Int) := by omega
      obtain ⟨k, hk⟩ : ∃ k, k = (i + j) / 2 := ⟨_, rfl⟩
      have hk1 : i <= k := by omega
      have hk2 : k < j := by omega
      have zk : ((i : Int) + (j : Int)) / 2 = (k : Int) := by omega
      obtain ⟨q, hq⟩ : ∃ q, q + k = p := ⟨p - k, by have := HP.out; have := HNN.out; omega⟩
      have zq : (p : Int) - (k : Int) = (q : Int) := by omega
      obtain ⟨s, hs⟩ : ∃ s, k = a + s := ⟨k - a, by have := HI.out; omega⟩
      have hsL : s < L.length := by have := HJ.out; have := HV2.out; omega
      have hse : s < e := by have := HJ.out; have := HV3.out; omega
      have hsu : u <= s := by have := HI.out; omega
      have hsv : s < v := by have := HJ.out; omega
      have hqs : q = P.length + L.length + (e - 1 - s) := by have := HP.out; have := HNN.out; have := HE.out; have := HM.out; have := HA.out; omega
      have hrR : e - 1 - s < R.length := by have := HU2.out; omega
      obtain ⟨x, hx⟩ : ∃ x, x = L[s] := ⟨_, rfl⟩
      obtain ⟨y, hy⟩ : ∃ y, y = R[e - 1 - s] := ⟨_, rfl⟩
      have hxL : L[s]? = some x := by rw [List.getElem?_eq_getElem hsL, hx]
      have hyR : R[e - 1 - s]? = some y := by rw [List.getElem?_eq_getElem hrR, hy]
      have hf1 := HR.out.five (k := q) (x := y) (by have := at_mid (P ++ L) R Q hrR; rw [<-hy, List.length_append] at this; rw [hqs]; exact this)
      have hf2 := HR.out.five (k := k) (x := x) (by have := at_mid P L (R ++ Q) hsL; rw [<-hx] at this; rw [hs, HA.out]; simpa using this)
      have hkn : k < n := by omega
      have hqn : q < n := by have := HP.out; have := HNN.out; have := HB.out; have := HM.out; omega
      have hglt : g < wr.heap.size := HR.out.lt
      have HNx := Ha (HNL.out x (by rw [hx]; exact List.getElem_mem hsL))
      have HNy := Ha (HNR.out y (by rw [hy]; exact List.getElem_mem hrR))
      obtain ⟨d0, d1, d2, d3, d4⟩ := hf1.later hglt
      obtain ⟨e0, e1, e2, e3, e4⟩ := hf2.later hglt
      have r1 : IntKind.i64.wrap (k : Int) = (k : Int) := by rw [IntKind.wrap_i64]; omega
      have r2 : IntKind.i64.wrap (q : Int) = (q : Int) := by rw [IntKind.wrap_i64]; omega
      obtain ⟨q', hq'⟩ : ∃ v, v = cX y x := ⟨_, rfl⟩
      have HC := Ha (show ∀ q'' : Later wr, Calls Tryz.prog 126 #[.agg #[.string y.s, .int .i64 y.t, .int .i64 y.c, .int .i64 y.l, .string y.d], .agg #[.string x.s, .int .i64 x.t, .int .i64 x.c, .int .i64 x.l, .string x.d]] q''.val fun e w'' => e = .returned (.int .i64 q') /\ ∃ r3 : Later wr, w'' = r3.val from
        fun q'' => later_call (by rw [hq']; exact cmpC_any HNy.out HNx.out _))
      have HVV := Ha hq'
      have HK := Ha hs
      have HXL := Ha hxL
      have HYR := Ha hyR
      have hpn : p <= 2000000 := by have := HP.out; omega
      clear hx hy hq' hf1 hf2 hs hxL hyR hk hqs hq; go_wp2_with fail
      refine region_later (by kernel_rfl) ?_
      repeat (go_big_quiet_step ((go_at_call 126; with_reducible exact HC.out _)))
      refine wpQuiet_nil ?_
      rintro _ ⟨q2, rfl⟩; obtain ⟨W2, hB2⟩ := q2
      simp only []
      have HR2 := Ha (HR.out.below hB2)
      have HG2 := Ha (grown_trans HG.out (grown_below hB2 (some g)))
      clear d0 d1 d2 d3 d4 e0 e1 e2 e3 e4 r1 r2
      by_cases hv : q' < 0
      · have gq : (!decide (q' < 0)) = false := by simp [hv]
        have hvm : cX y x = -1 := by
          have := HVV.out
          rcases cX_ord.range y x with h | h | h <;> omega
        have HBF2 := Ha (HBF.out.down (t := s) hsu hsv HXL.out HYR.out hvm)
        clear hvm; rw [gq]
        clear gq; go_wp2_with fail
        go_roundw
        case rel => exact ⟨i, k, u, s, rfl, rfl, HI.out, HK.out, HBF2.out, HR2.out, HG2.out⟩
        case measure => simp [intOf]; omega
      · have gq : (!decide (q' < 0)) = true := by simp [hv]
        have hvm : cX y x ≠ -1 := by have := HVV.out; omega
        have HBF2 := Ha (HBF.out.up (t := s) hsu hsv HXL.out HYR.out hvm)
        clear hvm; rw [gq]
        clear gq; go_wp2_with fail
        go_roundw
        case rel => exact ⟨k + 1, j, s + 1, v, by go_num, rfl, by have := HK.out; omega, HJ.out, HBF2.out, HR2.out, HG2.out⟩
        case measure => simp [intOf]; omega
    · obtain rfl : i = j := by omega
      obtain rfl : u = v := by have := HI.out; have := HJ.out; omega
      obtain ⟨k1, k2⟩ := HBF.out.done HSL.out HSR.out HV1.out HU1.out HV2.out HU2.out
      have huL : u <= L.length := by have := HV2.out; omega
      have hue : u <= e := by have := HV3.out; omega
      have heu : e - u <= R.length := by have := HU2.out; omega
      have l1 : (L.take u).length = u := by rw [List.length_take]; omega
      have l2 : (L.drop u).length = L.length - u := List.length_drop
      have l3 : (R.take (e - u)).length = e - u := by rw [List.length_take]; omega
      have l4 : (R.drop (e - u)).length = R.length - (e - u) := List.length_drop
      have sL := (List.take_append_drop u L).symm
      have sR := (List.take_append_drop (e - u) R).symm
      obtain ⟨L1, hL1⟩ : ∃ L1, L1 = L.take u := ⟨_, rfl⟩
      obtain ⟨L2, hL2⟩ : ∃ L2, L2 = L.drop u := ⟨_, rfl⟩
      obtain ⟨R1, hR1⟩ : ∃ R1, R1 = R.take (e - u) := ⟨_, rfl⟩
      obtain ⟨R2, hR2⟩ : ∃ R2, R2 = R.drop (e - u) := ⟨_, rfl⟩
      rw [<-hL1] at l1 sL k2
      rw [<-hL2] at l2 sL k1
      rw [<-hR1] at l3 sR k1
      rw [<-hR2] at l4 sR k2
      obtain ⟨en, hen⟩ : ∃ en, en + i = nn := ⟨nn - i, by have := HNN.out; omega⟩
      have zen : (nn : Int) - (i : Int) = (en : Int) := by omega
      have K1 := Ha k1
      have K2 := Ha k2
      have E1 := Ha l1
      have E2 := Ha l2
      have E3 := Ha l3
      have E4 := Ha l4
      have SL := Ha sL
      have SR := Ha sR
      have HEN := Ha (show en = m + (e - u) by have := HNN.out; have := HI.out; have := HE.out; omega)
      have hs1 := HSL.out
      rw [sL] at hs1
      have hs2 := HSR.out
      rw [sR] at hs2
      have S1 := Ha hs1.left
      have S2 := Ha hs1.right
      have S3 := Ha hs2.left
      have S4 := Ha hs2.right
      have hn1 := HNL.out
      rw [sL] at hn1
      have hn2 := HNR.out
      rw [sR] at hn2
      have N1 := Ha hn1.left
      have N2 := Ha hn1.right
      have N3 := Ha hn2.left
      have N4 := Ha hn2.right
      have HUL := Ha huL
      have HUE := Ha hue
      have HEU := Ha heu
      have hen2 : en <= b := by have := HEN.out; have := HM.out; have := HB.out; omega
      clear k1 k2 l1 l2 l3 l4 sL sR hL1 hL2 hR1 hR2 hen hs1 hs2 hn1 hn2 huL hue heu; have g2 : ¬ ((i : Nat) : Int) < (i : Int) := by omega
      by_cases hA : u < L.length
      · skip
        by_cases hB : u < e
        · skip
          by_cases hC : 0 < u
          · skip
            by_cases hE : e - u < R.length
            · skip
              first
              | (exfalso; have := HU1.out; have := HV1.out; have := HU2.out; have := HV2.out; have := HV3.out; have := HNN.out; have := HE.out; have := HM.out; have := HB.out; have := HA.out; have := HS0.out; have := HF0.out; omega)
              | (have gA : (i : Int) < (m : Int) := by have := HI.out; have := HM.out; have := HA.out; omega
                 have gB : (m : Int) < (en : Int) := by have := HEN.out; have := HUE.out; omega
                 have gC : (a : Int) < (i : Int) := by have := HI.out; omega
                 have gD : (i : Int) < (mid : Int) := by have := HI.out; have := HE.out; omega
                 have gF : (mid : Int) < (en : Int) := by have := HEN.out; have := HI.out; have := HM.out; have := HA.out; have := HE.out; have := HUE.out; have := HUL.out; omega
                 have gE : (en : Int) < (b : Int) := by have := HEN.out; have := HM.out; have := HB.out; have := HUE.out; have := HEU.out; omega
                 have nL2 : L2 ≠ [] := List.length_pos_iff.1 (by have := E2.out; omega)
                 have nR1 : R1 ≠ [] := List.length_pos_iff.1 (by have := E3.out; omega)
                 have nL1 : L1 ≠ [] := List.length_pos_iff.1 (by have := E1.out; omega)
                 have nR2 : R2 ≠ [] := List.length_pos_iff.1 (by have := E4.out; omega)
                 have HnL2 := Ha nL2
                 have HnR1 := Ha nR1
                 have HnL1 := Ha nL1
                 have HnR2 := Ha nR2
                 clear nL2 nR1 nL1 nR2; go_wp2_with fail
                 refine (rotate_any base g n c i m en _ (P ++ L1) L2 R1 (R2 ++ Q) _ (by have := HI.out; have := HA.out; have := E1.out; simp; omega) (by have := HM.out; have := E1.out; have := E2.out; have := HUL.out; simp; omega) (by have := HEN.out; have := HM.out; have := E1.out; have := E2.out; have := E3.out; have := HUL.out; simp; omega) HnL2.out HnR1.out hn (by have := HR.out; rw [SL.out, SR.out] at this; simpa using this)).mono ?_
                 rintro e' w1 ⟨rfl, hrow', hgr'⟩; have HC := Ha (show RowX base g n c (P ++ (L1 ++ R1) ++ (L2 ++ R2) ++ Q) w1 by simpa using hrow')
                 have HD := Ha (grown_trans HG.out hgr')
                 clear hrow' hgr'; go_wp2_with fail
                 refine (IH base g n c a i mid P L1 R1 (L2 ++ R2 ++ Q) _ (by have := HN.out; have := E1.out; have := E3.out; have := HUL.out; have := HUE.out; have := HEU.out; have := HE.out; omega) HA.out (by have := HI.out; have := HA.out; have := E1.out; omega) (by have := HE.out; have := HA.out; have := E1.out; have := E3.out; have := HUE.out; omega) HnL1.out HnR1.out S1.out S3.out N1.out N3.out hn (by have := HC.out; simpa using this)).mono ?_
                 rintro e' w2 ⟨rfl, M1, m1, m2, hrow', hgr'⟩; have HM1 := Ha m1
                 have HM2 := Ha m2
                 have HC2 := Ha (show RowX base g n c (P ++ M1 ++ (L2 ++ R2) ++ Q) w2 by simpa using hrow')
                 have HD2 := Ha (grown_trans HD.out hgr')
                 clear hrow' hgr' m1 m2; go_wp2_with fail
                 refine (IH base g n c mid en b (P ++ M1) L2 R2 Q _ (by have := HN.out; have := E2.out; have := E4.out; have := HUL.out; have := HUE.out; have := HEU.out; have := HE.out; have := HM.out; have := HB.out; have := HA.out; omega) (by have := HM2.out.1.length_eq; have := HE.out; have := HA.out; have := E1.out; have := E3.out; have := HUE.out; simp at *; omega) (by have := HM2.out.1.length_eq; have := HEN.out; have := HM.out; have := E1.out; have := E2.out; have := E3.out; have := HUL.out; have := HUE.out; simp at *; omega) (by have := HM2.out.1.length_eq; have := HB.out; have := E1.out; have := E2.out; have := E3.out; have := E4.out; have := HUL.out; have := HEU.out; simp at *; omega) HnL2.out HnR2.out S2.out S4.out N2.out N4.out hn (by have := HC2.out; simpa using this)).mono ?_
                 rintro e' w3 ⟨rfl, M2, m1, m2, hrow', hgr'⟩; have HM3 := Ha m1
                 have HM4 := Ha m2
                 have HC3 := Ha (show RowX base g n c (P ++ (M1 ++ M2) ++ Q) w3 by simpa using hrow')
                 have HD3 := Ha (grown_trans HD2.out hgr')
                 clear hrow' hgr' m1 m2; go_wp2_with fail
                 go_end0
                 obtain ⟨f1, f2⟩ := merge_done cX_ord (by have := HSL.out; rwa [SL.out] at this) (by have := HSR.out; rwa [SR.out] at this) K1.out K2.out HM1.out HM2.out HM3.out HM4.out
                 rw [<-SL.out, <-SR.out] at f2
                 exact ⟨rfl, _, f1, f2, by simpa using HC3.out, HD3.out⟩)
            · skip
              first
              | (exfalso; have := HU1.out; have := HV1.out; have := HU2.out; have := HV2.out; have := HV3.out; have := HNN.out; have := HE.out; have := HM.out; have := HB.out; have := HA.out; have := HS0.out; have := HF0.out; omega)
              | (have gA : (i : Int) < (m : Int) := by have := HI.out; have := HM.out; have := HA.out; omega
                 have gB : (m : Int) < (en : Int) := by have := HEN.out; have := HUE.out; omega
                 have gC : (a : Int) < (i : Int) := by have := HI.out; omega
                 have gD : (i : Int) < (mid : Int) := by have := HI.out; have := HE.out; omega
                 have gF : (mid : Int) < (en : Int) := by have := HEN.out; have := HI.out; have := HM.out; have := HA.out; have := HE.out; have := HUE.out; have := HUL.out; omega
                 have gE : ¬ (en : Int) < (b : Int) := by have := HEN.out; have := HM.out; have := HB.out; have := HUE.out; have := HEU.out; omega
                 have nL2 : L2 ≠ [] := List.length_pos_iff.1 (by have := E2.out; omega)
                 have nR1 : R1 ≠ [] := List.length_pos_iff.1 (by have := E3.out; omega)
                 have nL1 : L1 ≠ [] := List.length_pos_iff.1 (by have := E1.out; omega)
                 have eR2 : R2 = [] := List.eq_nil_of_length_eq_zero (by have := E4.out; omega)
                 have HnL2 := Ha nL2
                 have HnR1 := Ha nR1
                 have HnL1 := Ha nL1
                 have HeR2 := Ha eR2
                 clear nL2 nR1 nL1 eR2; go_wp2_with fail
                 refine (rotate_any base g n c i m en _ (P ++ L1) L2 R1 (R2 ++ Q) _ (by have := HI.out; have := HA.out; have := E1.out; simp; omega) (by have := HM.out; have := E1.out; have := E2.out; have := HUL.out; simp; omega) (by have := HEN.out; have := HM.out; have := E1.out; have := E2.out; have := E3.out; have := HUL.out; simp; omega) HnL2.out HnR1.out hn (by have := HR.out; rw [SL.out, SR.out] at this; simpa using this)).mono ?_
                 rintro e' w1 ⟨rfl, hrow', hgr'⟩; have HC := Ha (show RowX base g n c (P ++ (L1 ++ R1) ++ (L2 ++ R2) ++ Q) w1 by simpa using hrow')
                 have HD := Ha (grown_trans HG.out hgr')
                 clear hrow' hgr'; go_wp2_with fail
                 refine (IH base g n c a i mid P L1 R1 (L2 ++ R2 ++ Q) _ (by have := HN.out; have := E1.out; have := E3.out; have := HUL.out; have := HUE.out; have := HEU.out; have := HE.out; omega) HA.out (by have := HI.out; have := HA.out; have := E1.out; omega) (by have := HE.out; have := HA.out; have := E1.out; have := E3.out; have := HUE.out; omega) HnL1.out HnR1.out S1.out S3.out N1.out N3.out hn (by have := HC.out; simpa using this)).mono ?_
                 rintro e' w2 ⟨rfl, M1, m1, m2, hrow', hgr'⟩; have HM1 := Ha m1
                 have HM2 := Ha m2
                 have HC2 := Ha (show RowX base g n c (P ++ M1 ++ (L2 ++ R2) ++ Q) w2 by simpa using hrow')
                 have HD2 := Ha (grown_trans HD.out hgr')
                 clear hrow' hgr' m1 m2; go_wp2_with fail
                 obtain ⟨M2, hM2⟩ : ∃ M2, M2 = L2 ++ R2 := ⟨_, rfl⟩
                 have HM3 := Ha (show Srt cX M2 by rw [hM2, HeR2.out, List.append_nil]; exact S2.out)
                 have HM4 := Ha (show StS cX (L2 ++ R2) M2 by rw [hM2]; exact StS.refl _)
                 have HC3 := Ha (show RowX base g n c (P ++ (M1 ++ M2) ++ Q) _ by have := HC2.out; rw [<-hM2] at this; simpa using this)
                 have HD3 := HD2
                 clear hM2; go_end0
                 obtain ⟨f1, f2⟩ := merge_done cX_ord (by have := HSL.out; rwa [SL.out] at this) (by have := HSR.out; rwa [SR.out] at this) K1.out K2.out HM1.out HM2.out HM3.out HM4.out
                 rw [<-SL.out, <-SR.out] at f2
                 exact ⟨rfl, _, f1, f2, by simpa using HC3.out, HD3.out⟩)
          · skip
            by_cases hE : e - u < R.length
            · skip
              first
              | (exfalso; have := HU1.out; have := HV1.out; have := HU2.out; have := HV2.out; have := HV3.out; have := HNN.out; have := HE.out; have := HM.out; have := HB.out; have := HA.out; have := HS0.out; have := HF0.out; omega)
              | (have gA : (i : Int) < (m : Int) := by have := HI.out; have := HM.out; have := HA.out; omega
                 have gB : (m : Int) < (en : Int) := by have := HEN.out; have := HUE.out; omega
                 have gC : ¬ (a : Int) < (i : Int) := by have := HI.out; omega
                 have gD : (i : Int) < (mid : Int) := by have := HI.out; have := HE.out; omega
                 have gF : (mid : Int) < (en : Int) := by have := HEN.out; have := HI.out; have := HM.out; have := HA.out; have := HE.out; have := HUE.out; have := HUL.out; omega
                 have gE : (en : Int) < (b : Int) := by have := HEN.out; have := HM.out; have := HB.out; have := HUE.out; have := HEU.out; omega
                 have nL2 : L2 ≠ [] := List.length_pos_iff.1 (by have := E2.out; omega)
                 have nR1 : R1 ≠ [] := List.length_pos_iff.1 (by have := E3.out; omega)
                 have eL1 : L1 = [] := List.eq_nil_of_length_eq_zero (by have := E1.out; omega)
                 have nR2 : R2 ≠ [] := List.length_pos_iff.1 (by have := E4.out; omega)
                 have HnL2 := Ha nL2
                 have HnR1 := Ha nR1
                 have HeL1 := Ha eL1
                 have HnR2 := Ha nR2
                 clear nL2 nR1 eL1 nR2; go_wp2_with fail
                 refine (rotate_any base g n c i m en _ (P ++ L1) L2 R1 (R2 ++ Q) _ (by have := HI.out; have := HA.out; have := E1.out; simp; omega) (by have := HM.out; have := E1.out; have := E2.out; have := HUL.out; simp; omega) (by have := HEN.out; have := HM.out; have := E1.out; have := E2.out; have := E3.out; have := HUL.out; simp; omega) HnL2.out HnR1.out hn (by have := HR.out; rw [SL.out, SR.out] at this; simpa using this)).mono ?_
                 rintro e' w1 ⟨rfl, hrow', hgr'⟩; have HC := Ha (show RowX base g n c (P ++ (L1 ++ R1) ++ (L2 ++ R2) ++ Q) w1 by simpa using hrow')
                 have HD := Ha (grown_trans HG.out hgr')
                 clear hrow' hgr'; go_wp2_with fail
                 obtain ⟨M1, hM1⟩ : ∃ M1, M1 = L1 ++ R1 := ⟨_, rfl⟩
                 have HM1 := Ha (show Srt cX M1 by rw [hM1, HeL1.out, List.nil_append]; exact S3.out)
                 have HM2 := Ha (show StS cX (L1 ++ R1) M1 by rw [hM1]; exact StS.refl _)
                 have HC2 := HC
                 rw [<-hM1] at HC2
                 have HD2 := HD
                 clear hM1; refine (IH base g n c mid en b (P ++ M1) L2 R2 Q _ (by have := HN.out; have := E2.out; have := E4.out; have := HUL.out; have := HUE.out; have := HEU.out; have := HE.out; have := HM.out; have := HB.out; have := HA.out; omega) (by have := HM2.out.1.length_eq; have := HE.out; have := HA.out; have := E1.out; have := E3.out; have := HUE.out; simp at *; omega) (by have := HM2.out.1.length_eq; have := HEN.out; have := HM.out; have := E1.out; have := E2.out; have := E3.out; have := HUL.out; have := HUE.out; simp at *; omega) (by have := HM2.out.1.length_eq; have := HB.out; have := E1.out; have := E2.out; have := E3.out; have := E4.out; have := HUL.out; have := HEU.out; simp at *; omega) HnL2.out HnR2.out S2.out S4.out N2.out N4.out hn (by have := HC2.out; simpa using this)).mono ?_
                 rintro e' w3 ⟨rfl, M2, m1, m2, hrow', hgr'⟩; have HM3 := Ha m1
                 have HM4 := Ha m2
                 have HC3 := Ha (show RowX base g n c (P ++ (M1 ++ M2) ++ Q) w3 by simpa using hrow')
                 have HD3 := Ha (grown_trans HD2.out hgr')
                 clear hrow' hgr' m1 m2; go_wp2_with fail
                 go_end0
                 obtain ⟨f1, f2⟩ := merge_done cX_ord (by have := HSL.out; rwa [SL.out] at this) (by have := HSR.out; rwa [SR.out] at this) K1.out K2.out HM1.out HM2.out HM3.out HM4.out
                 rw [<-SL.out, <-SR.out] at f2
                 exact ⟨rfl, _, f1, f2, by simpa using HC3.out, HD3.out⟩)
            · skip
              first
              | (exfalso; have := HU1.out; have := HV1.out; have := HU2.out; have := HV2.out; have := HV3.out; have := HNN.out; have := HE.out; have := HM.out; have := HB.out; have := HA.out; have := HS0.out; have := HF0.out; omega)
              | (have gA : (i : Int) < (m : Int) := by have := HI.out; have := HM.out; have := HA.out; omega
                 have gB : (m : Int) < (en : Int) := by have := HEN.out; have := HUE.out; omega
                 have gC : ¬ (a : Int) < (i : Int) := by have := HI.out; omega
                 have gD : (i : Int) < (mid : Int) := by have := HI.out; have := HE.out; omega
                 have gF : (mid : Int) < (en : Int) := by have := HEN.out; have := HI.out; have := HM.out; have := HA.out; have := HE.out; have := HUE.out; have := HUL.out; omega
                 have gE : ¬ (en : Int) < (b : Int) := by have := HEN.out; have := HM.out; have := HB.out; have := HUE.out; have := HEU.out; omega
                 have nL2 : L2 ≠ [] := List.length_pos_iff.1 (by have := E2.out; omega)
                 have nR1 : R1 ≠ [] := List.length_pos_iff.1 (by have := E3.out; omega)
                 have eL1 : L1 = [] := List.eq_nil_of_length_eq_zero (by have := E1.out; omega)
                 have eR2 : R2 = [] := List.eq_nil_of_length_eq_zero (by have := E4.out; omega)
                 have HnL2 := Ha nL2
                 have HnR1 := Ha nR1
                 have HeL1 := Ha eL1
                 have HeR2 := Ha eR2
                 clear nL2 nR1 eL1 eR2; go_wp2_with fail
                 refine (rotate_any base g n c i m en _ (P ++ L1) L2 R1 (R2 ++ Q) _ (by have := HI.out; have := HA.out; have := E1.out; simp; omega) (by have := HM.out; have := E1.out; have := E2.out; have := HUL.out; simp; omega) (by have := HEN.out; have := HM.out; have := E1.out; have := E2.out; have := E3.out; have := HUL.out; simp; omega) HnL2.out HnR1.out hn (by have := HR.out; rw [SL.out, SR.out] at this; simpa using this)).mono ?_
                 rintro e' w1 ⟨rfl, hrow', hgr'⟩; have HC := Ha (show RowX base g n c (P ++ (L1 ++ R1) ++ (L2 ++ R2) ++ Q) w1 by simpa using hrow')
                 have HD := Ha (grown_trans HG.out hgr')
                 clear hrow' hgr'; go_wp2_with fail
                 obtain ⟨M1, hM1⟩ : ∃ M1, M1 = L1 ++ R1 := ⟨_, rfl⟩
                 have HM1 := Ha (show Srt cX M1 by rw [hM1, HeL1.out, List.nil_append]; exact S3.out)
                 have HM2 := Ha (show StS cX (L1 ++ R1) M1 by rw [hM1]; exact StS.refl _)
                 have HC2 := HC
                 rw [<-hM1] at HC2
                 have HD2 := HD
                 clear hM1; obtain ⟨M2, hM2⟩ : ∃ M2, M2 = L2 ++ R2 := ⟨_, rfl⟩
                 have HM3 := Ha (show Srt cX M2 by rw [hM2, HeR2.out, List.append_nil]; exact S2.out)
                 have HM4 := Ha (show StS cX (L2 ++ R2) M2 by rw [hM2]; exact StS.refl _)
                 have HC3 := Ha (show RowX base g n c (P ++ (M1 ++ M2) ++ Q) _ by have := HC2.out; rw [<-hM2] at this; simpa using this)
                 have HD3 := HD2
                 clear hM2; go_end0
                 obtain ⟨f1, f2⟩ := merge_done cX_ord (by have := HSL.out; rwa [SL.out] at this) (by have := HSR.out; rwa [SR.out] at this) K1.out K2.out HM1.out HM2.out HM3.out HM4.out
                 rw [<-SL.out, <-SR.out] at f2
                 exact ⟨rfl, _, f1, f2, by simpa using HC3.out, HD3.out⟩)
        · skip
          by_cases hC : 0 < u
          · skip
            by_cases hE : e - u < R.length
            · skip
              first
              | (exfalso; have := HU1.out; have := HV1.out; have := HU2.out; have := HV2.out; have := HV3.out; have := HNN.out; have := HE.out; have := HM.out; have := HB.out; have := HA.out; have := HS0.out; have := HF0.out; omega)
              | (have gA : (i : Int) < (m : Int) := by have := HI.out; have := HM.out; have := HA.out; omega
                 have gB : ¬ (m : Int) < (en : Int) := by have := HEN.out; have := HUE.out; omega
                 have gC : (a : Int) < (i : Int) := by have := HI.out; omega
                 have gD : ¬ (i : Int) < (mid : Int) := by have := HI.out; have := HE.out; omega
                 have gF : (mid : Int) < (en : Int) := by have := HEN.out; have := HI.out; have := HM.out; have := HA.out; have := HE.out; have := HUE.out; have := HUL.out; omega
                 have gE : (en : Int) < (b : Int) := by have := HEN.out; have := HM.out; have := HB.out; have := HUE.out; have := HEU.out; omega
                 have nL2 : L2 ≠ [] := List.length_pos_iff.1 (by have := E2.out; omega)
                 have eR1 : R1 = [] := List.eq_nil_of_length_eq_zero (by have := E3.out; omega)
                 have nL1 : L1 ≠ [] := List.length_pos_iff.1 (by have := E1.out; omega)
                 have nR2 : R2 ≠ [] := List.length_pos_iff.1 (by have := E4.out; omega)
                 have HC := Ha (show RowX base g n c (P ++ (L1 ++ R1) ++ (L2 ++ R2) ++ Q) wr by have := HR.out; rw [SL.out, SR.out] at this; rw [eR1] at this ⊢; simpa using this)
                 have HD := Ha HG.out
                 have HnL2 := Ha nL2
                 have HeR1 := Ha eR1
                 have HnL1 := Ha nL1
                 have HnR2 := Ha nR2
                 clear nL2 eR1 nL1 nR2; go_wp2_with fail
                 obtain ⟨M1, hM1⟩ : ∃ M1, M1 = L1 ++ R1 := ⟨_, rfl⟩
                 have HM1 := Ha (show Srt cX M1 by rw [hM1, HeR1.out, List.append_nil]; exact S1.out)
                 have HM2 := Ha (show StS cX (L1 ++ R1) M1 by rw [hM1]; exact StS.refl _)
                 have HC2 := HC
                 rw [<-hM1] at HC2
                 have HD2 := HD
                 clear hM1; refine (IH base g n c mid en b (P ++ M1) L2 R2 Q _ (by have := HN.out; have := E2.out; have := E4.out; have := HUL.out; have := HUE.out; have := HEU.out; have := HE.out; have := HM.out; have := HB.out; have := HA.out; omega) (by have := HM2.out.1.length_eq; have := HE.out; have := HA.out; have := E1.out; have := E3.out; have := HUE.out; simp at *; omega) (by have := HM2.out.1.length_eq; have := HEN.out; have := HM.out; have := E1.out; have := E2.out; have := E3.out; have := HUL.out; have := HUE.out; simp at *; omega) (by have := HM2.out.1.length_eq; have := HB.out; have := E1.out; have := E2.out; have := E3.out; have := E4.out; have := HUL.out; have := HEU.out; simp at *; omega) HnL2.out HnR2.out S2.out S4.out N2.out N4.out hn (by have := HC2.out; simpa using this)).mono ?_
                 rintro e' w3 ⟨rfl, M2, m1, m2, hrow', hgr'⟩; have HM3 := Ha m1
                 have HM4 := Ha m2
                 have HC3 := Ha (show RowX base g n c (P ++ (M1 ++ M2) ++ Q) w3 by simpa using hrow')
                 have HD3 := Ha (grown_trans HD2.out hgr')
                 clear hrow' hgr' m1 m2; go_wp2_with fail
                 go_end0
                 obtain ⟨f1, f2⟩ := merge_done cX_ord (by have := HSL.out; rwa [SL.out] at this) (by have := HSR.out; rwa [SR.out] at this) K1.out K2.out HM1.out HM2.out HM3.out HM4.out
                 rw [<-SL.out, <-SR.out] at f2
                 exact ⟨rfl, _, f1, f2, by simpa using HC3.out, HD3.out⟩)
            · skip
              first
              | (exfalso; have := HU1.out; have := HV1.out; have := HU2.out; have := HV2.out; have := HV3.out; have := HNN.out; have := HE.out; have := HM.out; have := HB.out; have := HA.out; have := HS0.out; have := HF0.out; omega)
              | (have gA : (i : Int) < (m : Int) := by have := HI.out; have := HM.out; have := HA.out; omega
                 have gB : ¬ (m : Int) < (en : Int) := by have := HEN.out; have := HUE.out; omega
                 have gC : (a : Int) < (i : Int) := by have := HI.out; omega
                 have gD : ¬ (i : Int) < (mid : Int) := by have := HI.out; have := HE.out; omega
                 have gF : (mid : Int) < (en : Int) := by have := HEN.out; have := HI.out; have := HM.out; have := HA.out; have := HE.out; have := HUE.out; have := HUL.out; omega
                 have gE : ¬ (en : Int) < (b : Int) := by have := HEN.out; have := HM.out; have := HB.out; have := HUE.out; have := HEU.out; omega
                 have nL2 : L2 ≠ [] := List.length_pos_iff.1 (by have := E2.out; omega)
                 have eR1 : R1 = [] := List.eq_nil_of_length_eq_zero (by have := E3.out; omega)
                 have nL1 : L1 ≠ [] := List.length_pos_iff.1 (by have := E1.out; omega)
                 have eR2 : R2 = [] := List.eq_nil_of_length_eq_zero (by have := E4.out; omega)
                 have HC := Ha (show RowX base g n c (P ++ (L1 ++ R1) ++ (L2 ++ R2) ++ Q) wr by have := HR.out; rw [SL.out, SR.out] at this; rw [eR1] at this ⊢; simpa using this)
                 have HD := Ha HG.out
                 have HnL2 := Ha nL2
                 have HeR1 := Ha eR1
                 have HnL1 := Ha nL1
                 have HeR2 := Ha eR2
                 clear nL2 eR1 nL1 eR2; go_wp2_with fail
                 obtain ⟨M1, hM1⟩ : ∃ M1, M1 = L1 ++ R1 := ⟨_, rfl⟩
                 have HM1 := Ha (show Srt cX M1 by rw [hM1, HeR1.out, List.append_nil]; exact S1.out)
                 have HM2 := Ha (show StS cX (L1 ++ R1) M1 by rw [hM1]; exact StS.refl _)
                 have HC2 := HC
                 rw [<-hM1] at HC2
                 have HD2 := HD
                 clear hM1; obtain ⟨M2, hM2⟩ : ∃ M2, M2 = L2 ++ R2 := ⟨_, rfl⟩
                 have HM3 := Ha (show Srt cX M2 by rw [hM2, HeR2.out, List.append_nil]; exact S2.out)
                 have HM4 := Ha (show StS cX (L2 ++ R2) M2 by rw [hM2]; exact StS.refl _)
                 have HC3 := Ha (show RowX base g n c (P ++ (M1 ++ M2) ++ Q) _ by have := HC2.out; rw [<-hM2] at this; simpa using this)
                 have HD3 := HD2
                 clear hM2; go_end0
                 obtain ⟨f1, f2⟩ := merge_done cX_ord (by have := HSL.out; rwa [SL.out] at this) (by have := HSR.out; rwa [SR.out] at this) K1.out K2.out HM1.out HM2.out HM3.out HM4.out
                 rw [<-SL.out, <-SR.out] at f2
                 exact ⟨rfl, _, f1, f2, by simpa using HC3.out, HD3.out⟩)
          · skip
            by_cases hE : e - u < R.length
            · skip
              first
              | (exfalso; have := HU1.out; have := HV1.out; have := HU2.out; have := HV2.out; have := HV3.out; have := HNN.out; have := HE.out; have := HM.out; have := HB.out; have := HA.out; have := HS0.out; have := HF0.out; omega)
              | (have gA : (i : Int) < (m : Int) := by have := HI.out; have := HM.out; have := HA.out; omega
                 have gB : ¬ (m : Int) < (en : Int) := by have := HEN.out; have := HUE.out; omega
                 have gC : ¬ (a : Int) < (i : Int) := by have := HI.out; omega
                 have gD : ¬ (i : Int) < (mid : Int) := by have := HI.out; have := HE.out; omega
                 have gF : (mid : Int) < (en : Int) := by have := HEN.out; have := HI.out; have := HM.out; have := HA.out; have := HE.out; have := HUE.out; have := HUL.out; omega
                 have gE : (en : Int) < (b : Int) := by have := HEN.out; have := HM.out; have := HB.out; have := HUE.out; have := HEU.out; omega
                 have nL2 : L2 ≠ [] := List.length_pos_iff.1 (by have := E2.out; omega)
                 have eR1 : R1 = [] := List.eq_nil_of_length_eq_zero (by have := E3.out; omega)
                 have eL1 : L1 = [] := List.eq_nil_of_length_eq_zero (by have := E1.out; omega)
                 have nR2 : R2 ≠ [] := List.length_pos_iff.1 (by have := E4.out; omega)
                 have HC := Ha (show RowX base g n c (P ++ (L1 ++ R1) ++ (L2 ++ R2) ++ Q) wr by have := HR.out; rw [SL.out, SR.out] at this; rw [eR1] at this ⊢; simpa using this)
                 have HD := Ha HG.out
                 have HnL2 := Ha nL2
                 have HeR1 := Ha eR1
                 have HeL1 := Ha eL1
                 have HnR2 := Ha nR2
                 clear nL2 eR1 eL1 nR2; go_wp2_with fail
                 obtain ⟨M1, hM1⟩ : ∃ M1, M1 = L1 ++ R1 := ⟨_, rfl⟩
                 have HM1 := Ha (show Srt cX M1 by rw [hM1, HeR1.out, List.append_nil]; exact S1.out)
                 have HM2 := Ha (show StS cX (L1 ++ R1) M1 by rw [hM1]; exact StS.refl _)
                 have HC2 := HC
                 rw [<-hM1] at HC2
                 have HD2 := HD
                 clear hM1; refine (IH base g n c mid en b (P ++ M1) L2 R2 Q _ (by have := HN.out; have := E2.out; have := E4.out; have := HUL.out; have := HUE.out; have := HEU.out; have := HE.out; have := HM.out; have := HB.out; have := HA.out; omega) (by have := HM2.out.1.length_eq; have := HE.out; have := HA.out; have := E1.out; have := E3.out; have := HUE.out; simp at *; omega) (by have := HM2.out.1.length_eq; have := HEN.out; have := HM.out; have := E1.out; have := E2.out; have := E3.out; have := HUL.out; have := HUE.out; simp at *; omega) (by have := HM2.out.1.length_eq; have := HB.out; have := E1.out; have := E2.out; have := E3.out; have := E4.out; have := HUL.out; have := HEU.out; simp at *; omega) HnL2.out HnR2.out S2.out S4.out N2.out N4.out hn (by have := HC2.out; simpa using this)).mono ?_
                 rintro e' w3 ⟨rfl, M2, m1, m2, hrow', hgr'⟩; have HM3 := Ha m1
                 have HM4 := Ha m2
                 have HC3 := Ha (show RowX base g n c (P ++ (M1 ++ M2) ++ Q) w3 by simpa using hrow')
                 have HD3 := Ha (grown_trans HD2.out hgr')
                 clear hrow' hgr' m1 m2; go_wp2_with fail
                 go_end0
                 obtain ⟨f1, f2⟩ := merge_done cX_ord (by have := HSL.out; rwa [SL.out] at this) (by have := HSR.out; rwa [SR.out] at this) K1.out K2.out HM1.out HM2.out HM3.out HM4.out
                 rw [<-SL.out, <-SR.out] at f2
                 exact ⟨rfl, _, f1, f2, by simpa using HC3.out, HD3.out⟩)
            · skip
              first
              | (exfalso; have := HU1.out; have := HV1.out; have := HU2.out; have := HV2.out; have := HV3.out; have := HNN.out; have := HE.out; have := HM.out; have := HB.out; have := HA.out; have := HS0.out; have := HF0.out; omega)
              | (have gA : (i : Int) < (m : Int) := by have := HI.out; have := HM.out; have := HA.out; omega
                 have gB : ¬ (m : Int) < (en : Int) := by have := HEN.out; have := HUE.out; omega
                 have gC : ¬ (a : Int) < (i : Int) := by have := HI.out; omega
                 have gD : ¬ (i : Int) < (mid : Int) := by have := HI.out; have := HE.out; omega
                 have gF : (mid : Int) < (en : Int) := by have := HEN.out; have := HI.out; have := HM.out; have := HA.out; have := HE.out; have := HUE.out; have := HUL.out; omega
                 have gE : ¬ (en : Int) < (b : Int) := by have := HEN.out; have := HM.out; have := HB.out; have := HUE.out; have := HEU.out; omega
                 have nL2 : L2 ≠ [] := List.length_pos_iff.1 (by have := E2.out; omega)
                 have eR1 : R1 = [] := List.eq_nil_of_length_eq_zero (by have := E3.out; omega)
                 have eL1 : L1 = [] := List.eq_nil_of_length_eq_zero (by have := E1.out; omega)
                 have eR2 : R2 = [] := List.eq_nil_of_length_eq_zero (by have := E4.out; omega)
                 have HC := Ha (show RowX base g n c (P ++ (L1 ++ R1) ++ (L2 ++ R2) ++ Q) wr by have := HR.out; rw [SL.out, SR.out] at this; rw [eR1] at this ⊢; simpa using this)
                 have HD := Ha HG.out
                 have HnL2 := Ha nL2
                 have HeR1 := Ha eR1
                 have HeL1 := Ha eL1
                 have HeR2 := Ha eR2
                 clear nL2 eR1 eL1 eR2; go_wp2_with fail
                 obtain ⟨M1, hM1⟩ : ∃ M1, M1 = L1 ++ R1 := ⟨_, rfl⟩
                 have HM1 := Ha (show Srt cX M1 by rw [hM1, HeR1.out, List.append_nil]; exact S1.out)
                 have HM2 := Ha (show StS cX (L1 ++ R1) M1 by rw [hM1]; exact StS.refl _)
                 have HC2 := HC
                 rw [<-hM1] at HC2
                 have HD2 := HD
                 clear hM1; obtain ⟨M2, hM2⟩ : ∃ M2, M2 = L2 ++ R2 := ⟨_, rfl⟩
                 have HM3 := Ha (show Srt cX M2 by rw [hM2, HeR2.out, List.append_nil]; exact S2.out)
                 have HM4 := Ha (show StS cX (L2 ++ R2) M2 by rw [hM2]; exact StS.refl _)
                 have HC3 := Ha (show RowX base g n c (P ++ (M1 ++ M2) ++ Q) _ by have := HC2.out; rw [<-hM2] at this; simpa using this)
                 have HD3 := HD2
                 clear hM2; go_end0
                 obtain ⟨f1, f2⟩ := merge_done cX_ord (by have := HSL.out; rwa [SL.out] at this) (by have := HSR.out; rwa [SR.out] at this) K1.out K2.out HM1.out HM2.out HM3.out HM4.out
                 rw [<-SL.out, <-SR.out] at f2
                 exact ⟨rfl, _, f1, f2, by simpa using HC3.out, HD3.out⟩)
      · skip
        by_cases hB : u < e
        · skip
          by_cases hC : 0 < u
          · skip
            by_cases hE : e - u < R.length
            · skip
              first
              | (exfalso; have := HU1.out; have := HV1.out; have := HU2.out; have := HV2.out; have := HV3.out; have := HNN.out; have := HE.out; have := HM.out; have := HB.out; have := HA.out; have := HS0.out; have := HF0.out; omega)
              | (have gA : ¬ (i : Int) < (m : Int) := by have := HI.out; have := HM.out; have := HA.out; omega
                 have gB : (m : Int) < (en : Int) := by have := HEN.out; have := HUE.out; omega
                 have gC : (a : Int) < (i : Int) := by have := HI.out; omega
                 have gD : (i : Int) < (mid : Int) := by have := HI.out; have := HE.out; omega
                 have gF : ¬ (mid : Int) < (en : Int) := by have := HEN.out; have := HI.out; have := HM.out; have := HA.out; have := HE.out; have := HUE.out; have := HUL.out; omega
                 have gE : (en : Int) < (b : Int) := by have := HEN.out; have := HM.out; have := HB.out; have := HUE.out; have := HEU.out; omega
                 have eL2 : L2 = [] := List.eq_nil_of_length_eq_zero (by have := E2.out; omega)
                 have nR1 : R1 ≠ [] := List.length_pos_iff.1 (by have := E3.out; omega)
                 have nL1 : L1 ≠ [] := List.length_pos_iff.1 (by have := E1.out; omega)
                 have nR2 : R2 ≠ [] := List.length_pos_iff.1 (by have := E4.out; omega)
                 have HC := Ha (show RowX base g n c (P ++ (L1 ++ R1) ++ (L2 ++ R2) ++ Q) wr by have := HR.out; rw [SL.out, SR.out] at this; rw [eL2] at this ⊢; simpa using this)
                 have HD := Ha HG.out
                 have HeL2 := Ha eL2
                 have HnR1 := Ha nR1
                 have HnL1 := Ha nL1
                 have HnR2 := Ha nR2
                 clear eL2 nR1 nL1 nR2; go_wp2_with fail
                 refine (IH base g n c a i mid P L1 R1 (L2 ++ R2 ++ Q) _ (by have := HN.out; have := E1.out; have := E3.out; have := HUL.out; have := HUE.out; have := HEU.out; have := HE.out; omega) HA.out (by have := HI.out; have := HA.out; have := E1.out; omega) (by have := HE.out; have := HA.out; have := E1.out; have := E3.out; have := HUE.out; omega) HnL1.out HnR1.out S1.out S3.out N1.out N3.out hn (by have := HC.out; simpa using this)).mono ?_
                 rintro e' w2 ⟨rfl, M1, m1, m2, hrow', hgr'⟩; have HM1 := Ha m1
                 have HM2 := Ha m2
                 have HC2 := Ha (show RowX base g n c (P ++ M1 ++ (L2 ++ R2) ++ Q) w2 by simpa using hrow')
                 have HD2 := Ha (grown_trans HD.out hgr')
                 clear hrow' hgr' m1 m2; go_wp2_with fail
                 obtain ⟨M2, hM2⟩ : ∃ M2, M2 = L2 ++ R2 := ⟨_, rfl⟩
                 have HM3 := Ha (show Srt cX M2 by rw [hM2, HeL2.out, List.nil_append]; exact S4.out)
                 have HM4 := Ha (show StS cX (L2 ++ R2) M2 by rw [hM2]; exact StS.refl _)
                 have HC3 := Ha (show RowX base g n c (P ++ (M1 ++ M2) ++ Q) _ by have := HC2.out; rw [<-hM2] at this; simpa using this)
                 have HD3 := HD2
                 clear hM2; go_end0
                 obtain ⟨f1, f2⟩ := merge_done cX_ord (by have := HSL.out; rwa [SL.out] at this) (by have := HSR.out; rwa [SR.out] at this) K1.out K2.out HM1.out HM2.out HM3.out HM4.out
                 rw [<-SL.out, <-SR.out] at f2
                 exact ⟨rfl, _, f1, f2, by simpa using HC3.out, HD3.out⟩)
            · skip
              first
              | (exfalso; have := HU1.out; have := HV1.out; have := HU2.out; have := HV2.out; have := HV3.out; have := HNN.out; have := HE.out; have := HM.out; have := HB.out; have := HA.out; have := HS0.out; have := HF0.out; omega)
              | (have gA : ¬ (i : Int) < (m : Int) := by have := HI.out; have := HM.out; have := HA.out; omega
                 have gB : (m : Int) < (en : Int) := by have := HEN.out; have := HUE.out; omega
                 have gC : (a : Int) < (i : Int) := by have := HI.out; omega
                 have gD : (i : Int) < (mid : Int) := by have := HI.out; have := HE.out; omega
                 have gF : ¬ (mid : Int) < (en : Int) := by have := HEN.out; have := HI.out; have := HM.out; have := HA.out; have := HE.out; have := HUE.out; have := HUL.out; omega
                 have gE : ¬ (en : Int) < (b : Int) := by have := HEN.out; have := HM.out; have := HB.out; have := HUE.out; have := HEU.out; omega
                 have eL2 : L2 = [] := List.eq_nil_of_length_eq_zero (by have := E2.out; omega)
                 have nR1 : R1 ≠ [] := List.length_pos_iff.1 (by have := E3.out; omega)
                 have nL1 : L1 ≠ [] := List.length_pos_iff.1 (by have := E1.out; omega)
                 have eR2 : R2 = [] := List.eq_nil_of_length_eq_zero (by have := E4.out; omega)
                 have HC := Ha (show RowX base g n c (P ++ (L1 ++ R1) ++ (L2 ++ R2) ++ Q) wr by have := HR.out; rw [SL.out, SR.out] at this; rw [eL2] at this ⊢; simpa using this)
                 have HD := Ha HG.out
                 have HeL2 := Ha eL2
                 have HnR1 := Ha nR1
                 have HnL1 := Ha nL1
                 have HeR2 := Ha eR2
                 clear eL2 nR1 nL1 eR2; go_wp2_with fail
                 refine (IH base g n c a i mid P L1 R1 (L2 ++ R2 ++ Q) _ (by have := HN.out; have := E1.out; have := E3.out; have := HUL.out; have := HUE.out; have := HEU.out; have := HE.out; omega) HA.out (by have := HI.out; have := HA.out; have := E1.out; omega) (by have := HE.out; have := HA.out; have := E1.out; have := E3.out; have := HUE.out; omega) HnL1.out HnR1.out S1.out S3.out N1.out N3.out hn (by have := HC.out; simpa using this)).mono ?_
                 rintro e' w2 ⟨rfl, M1, m1, m2, hrow', hgr'⟩; have HM1 := Ha m1
                 have HM2 := Ha m2
                 have HC2 := Ha (show RowX base g n c (P ++ M1 ++ (L2 ++ R2) ++ Q) w2 by simpa using hrow')
                 have HD2 := Ha (grown_trans HD.out hgr')
                 clear hrow' hgr' m1 m2; go_wp2_with fail
                 obtain ⟨M2, hM2⟩ : ∃ M2, M2 = L2 ++ R2 := ⟨_, rfl⟩
                 have HM3 := Ha (show Srt cX M2 by rw [hM2, HeL2.out, List.nil_append]; exact S4.out)
                 have HM4 := Ha (show StS cX (L2 ++ R2) M2 by rw [hM2]; exact StS.refl _)
                 have HC3 := Ha (show RowX base g n c (P ++ (M1 ++ M2) ++ Q) _ by have := HC2.out; rw [<-hM2] at this; simpa using this)
                 have HD3 := HD2
                 clear hM2; go_end0
                 obtain ⟨f1, f2⟩ := merge_done cX_ord (by have := HSL.out; rwa [SL.out] at this) (by have := HSR.out; rwa [SR.out] at this) K1.out K2.out HM1.out HM2.out HM3.out HM4.out
                 rw [<-SL.out, <-SR.out] at f2
                 exact ⟨rfl, _, f1, f2, by simpa using HC3.out, HD3.out⟩)
          · skip
            by_cases hE : e - u < R.length
            · skip
              first
              | (exfalso; have := HU1.out; have := HV1.out; have := HU2.out; have := HV2.out; have := HV3.out; have := HNN.out; have := HE.out; have := HM.out; have := HB.out; have := HA.out; have := HS0.out; have := HF0.out; omega)
              | (have gA : ¬ (i : Int) < (m : Int) := by have := HI.out; have := HM.out; have := HA.out; omega
                 have gB : (m : Int) < (en : Int) := by have := HEN.out; have := HUE.out; omega
                 have gC : ¬ (a : Int) < (i : Int) := by have := HI.out; omega
                 have gD : (i : Int) < (mid : Int) := by have := HI.out; have := HE.out; omega
                 have gF : ¬ (mid : Int) < (en : Int) := by have := HEN.out; have := HI.out; have := HM.out; have := HA.out; have := HE.out; have := HUE.out; have := HUL.out; omega
                 have gE : (en : Int) < (b : Int) := by have := HEN.out; have := HM.out; have := HB.out; have := HUE.out; have := HEU.out; omega
                 have eL2 : L2 = [] := List.eq_nil_of_length_eq_zero (by have := E2.out; omega)
                 have nR1 : R1 ≠ [] := List.length_pos_iff.1 (by have := E3.out; omega)
                 have eL1 : L1 = [] := List.eq_nil_of_length_eq_zero (by have := E1.out; omega)
                 have nR2 : R2 ≠ [] := List.length_pos_iff.1 (by have := E4.out; omega)
                 have HC := Ha (show RowX base g n c (P ++ (L1 ++ R1) ++ (L2 ++ R2) ++ Q) wr by have := HR.out; rw [SL.out, SR.out] at this; rw [eL2] at this ⊢; simpa using this)
                 have HD := Ha HG.out
                 have HeL2 := Ha eL2
                 have HnR1 := Ha nR1
                 have HeL1 := Ha eL1
                 have HnR2 := Ha nR2
                 clear eL2 nR1 eL1 nR2; go_wp2_with fail
                 obtain ⟨M1, hM1⟩ : ∃ M1, M1 = L1 ++ R1 := ⟨_, rfl⟩
                 have HM1 := Ha (show Srt cX M1 by rw [hM1, HeL1.out, List.nil_append]; exact S3.out)
                 have HM2 := Ha (show StS cX (L1 ++ R1) M1 by rw [hM1]; exact StS.refl _)
                 have HC2 := HC
                 rw [<-hM1] at HC2
                 have HD2 := HD
                 clear hM1; obtain ⟨M2, hM2⟩ : ∃ M2, M2 = L2 ++ R2 := ⟨_, rfl⟩
                 have HM3 := Ha (show Srt cX M2 by rw [hM2, HeL2.out, List.nil_append]; exact S4.out)
                 have HM4 := Ha (show StS cX (L2 ++ R2) M2 by rw [hM2]; exact StS.refl _)
                 have HC3 := Ha (show RowX base g n c (P ++ (M1 ++ M2) ++ Q) _ by have := HC2.out; rw [<-hM2] at this; simpa using this)
                 have HD3 := HD2
                 clear hM2; go_end0
                 obtain ⟨f1, f2⟩ := merge_done cX_ord (by have := HSL.out; rwa [SL.out] at this) (by have := HSR.out; rwa [SR.out] at this) K1.out K2.out HM1.out HM2.out HM3.out HM4.out
                 rw [<-SL.out, <-SR.out] at f2
                 exact ⟨rfl, _, f1, f2, by simpa using HC3.out, HD3.out⟩)
            · skip
              first
              | (exfalso; have := HU1.out; have := HV1.out; have := HU2.out; have := HV2.out; have := HV3.out; have := HNN.out; have := HE.out; have := HM.out; have := HB.out; have := HA.out; have := HS0.out; have := HF0.out; omega)
              | (have gA : ¬ (i : Int) < (m : Int) := by have := HI.out; have := HM.out; have := HA.out; omega
                 have gB : (m : Int) < (en : Int) := by have := HEN.out; have := HUE.out; omega
                 have gC : ¬ (a : Int) < (i : Int) := by have := HI.out; omega
                 have gD : (i : Int) < (mid : Int) := by have := HI.out; have := HE.out; omega
                 have gF : ¬ (mid : Int) < (en : Int) := by have := HEN.out; have := HI.out; have := HM.out; have := HA.out; have := HE.out; have := HUE.out; have := HUL.out; omega
                 have gE : ¬ (en : Int) < (b : Int) := by have := HEN.out; have := HM.out; have := HB.out; have := HUE.out; have := HEU.out; omega
                 have eL2 : L2 = [] := List.eq_nil_of_length_eq_zero (by have := E2.out; omega)
                 have nR1 : R1 ≠ [] := List.length_pos_iff.1 (by have := E3.out; omega)
                 have eL1 : L1 = [] := List.eq_nil_of_length_eq_zero (by have := E1.out; omega)
                 have eR2 : R2 = [] := List.eq_nil_of_length_eq_zero (by have := E4.out; omega)
                 have HC := Ha (show RowX base g n c (P ++ (L1 ++ R1) ++ (L2 ++ R2) ++ Q) wr by have := HR.out; rw [SL.out, SR.out] at this; rw [eL2] at this ⊢; simpa using this)
                 have HD := Ha HG.out
                 have HeL2 := Ha eL2
                 have HnR1 := Ha nR1
                 have HeL1 := Ha eL1
                 have HeR2 := Ha eR2
                 clear eL2 nR1 eL1 eR2; go_wp2_with fail
                 obtain ⟨M1, hM1⟩ : ∃ M1, M1 = L1 ++ R1 := ⟨_, rfl⟩
                 have HM1 := Ha (show Srt cX M1 by rw [hM1, HeL1.out, List.nil_append]; exact S3.out)
                 have HM2 := Ha (show StS cX (L1 ++ R1) M1 by rw [hM1]; exact StS.refl _)
                 have HC2 := HC
                 rw [<-hM1] at HC2
                 have HD2 := HD
                 clear hM1; obtain ⟨M2, hM2⟩ : ∃ M2, M2 = L2 ++ R2 := ⟨_, rfl⟩
                 have HM3 := Ha (show Srt cX M2 by rw [hM2, HeL2.out, List.nil_append]; exact S4.out)
                 have HM4 := Ha (show StS cX (L2 ++ R2) M2 by rw [hM2]; exact StS.refl _)
                 have HC3 := Ha (show RowX base g n c (P ++ (M1 ++ M2) ++ Q) _ by have := HC2.out; rw [<-hM2] at this; simpa using this)
                 have HD3 := HD2
                 clear hM2; go_end0
                 obtain ⟨f1, f2⟩ := merge_done cX_ord (by have := HSL.out; rwa [SL.out] at this) (by have := HSR.out; rwa [SR.out] at this) K1.out K2.out HM1.out HM2.out HM3.out HM4.out
                 rw [<-SL.out, <-SR.out] at f2
                 exact ⟨rfl, _, f1, f2, by simpa using HC3.out, HD3.out⟩)
        · skip
          by_cases hC : 0 < u
          · skip
            by_cases hE : e - u < R.length
            · skip
              first
              | (exfalso; have := HU1.out; have := HV1.out; have := HU2.out; have := HV2.out; have := HV3.out; have := HNN.out; have := HE.out; have := HM.out; have := HB.out; have := HA.out; have := HS0.out; have := HF0.out; omega)
              | (have gA : ¬ (i : Int) < (m : Int) := by have := HI.out; have := HM.out; have := HA.out; omega
                 have gB : ¬ (m : Int) < (en : Int) := by have := HEN.out; have := HUE.out; omega
                 have gC : (a : Int) < (i : Int) := by have := HI.out; omega
                 have gD : ¬ (i : Int) < (mid : Int) := by have := HI.out; have := HE.out; omega
                 have gF : ¬ (mid : Int) < (en : Int) := by have := HEN.out; have := HI.out; have := HM.out; have := HA.out; have := HE.out; have := HUE.out; have := HUL.out; omega
                 have gE : (en : Int) < (b : Int) := by have := HEN.out; have := HM.out; have := HB.out; have := HUE.out; have := HEU.out; omega
                 have eL2 : L2 = [] := List.eq_nil_of_length_eq_zero (by have := E2.out; omega)
                 have eR1 : R1 = [] := List.eq_nil_of_length_eq_zero (by have := E3.out; omega)
                 have nL1 : L1 ≠ [] := List.length_pos_iff.1 (by have := E1.out; omega)
                 have nR2 : R2 ≠ [] := List.length_pos_iff.1 (by have := E4.out; omega)
                 have HC := Ha (show RowX base g n c (P ++ (L1 ++ R1) ++ (L2 ++ R2) ++ Q) wr by have := HR.out; rw [SL.out, SR.out] at this; rw [eL2] at this ⊢; simpa using this)
                 have HD := Ha HG.out
                 have HeL2 := Ha eL2
                 have HeR1 := Ha eR1
                 have HnL1 := Ha nL1
                 have HnR2 := Ha nR2
                 clear eL2 eR1 nL1 nR2; go_wp2_with fail
                 obtain ⟨M1, hM1⟩ : ∃ M1, M1 = L1 ++ R1 := ⟨_, rfl⟩
                 have HM1 := Ha (show Srt cX M1 by rw [hM1, HeR1.out, List.append_nil]; exact S1.out)
                 have HM2 := Ha (show StS cX (L1 ++ R1) M1 by rw [hM1]; exact StS.refl _)
                 have HC2 := HC
                 rw [<-hM1] at HC2
                 have HD2 := HD
                 clear hM1; obtain ⟨M2, hM2⟩ : ∃ M2, M2 = L2 ++ R2 := ⟨_, rfl⟩
                 have HM3 := Ha (show Srt cX M2 by rw [hM2, HeL2.out, List.nil_append]; exact S4.out)
                 have HM4 := Ha (show StS cX (L2 ++ R2) M2 by rw [hM2]; exact StS.refl _)
                 have HC3 := Ha (show RowX base g n c (P ++ (M1 ++ M2) ++ Q) _ by have := HC2.out; rw [<-hM2] at this; simpa using this)
                 have HD3 := HD2
                 clear hM2; go_end0
                 obtain ⟨f1, f2⟩ := merge_done cX_ord (by have := HSL.out; rwa [SL.out] at this) (by have := HSR.out; rwa [SR.out] at this) K1.out K2.out HM1.out HM2.out HM3.out HM4.out
                 rw [<-SL.out, <-SR.out] at f2
                 exact ⟨rfl, _, f1, f2, by simpa using HC3.out, HD3.out⟩)
            · skip
              first
              | (exfalso; have := HU1.out; have := HV1.out; have := HU2.out; have := HV2.out; have := HV3.out; have := HNN.out; have := HE.out; have := HM.out; have := HB.out; have := HA.out; have := HS0.out; have := HF0.out; omega)
              | (have gA : ¬ (i : Int) < (m : Int) := by have := HI.out; have := HM.out; have := HA.out; omega
                 have gB : ¬ (m : Int) < (en : Int) := by have := HEN.out; have := HUE.out; omega
                 have gC : (a : Int) < (i : Int) := by have := HI.out; omega
                 have gD : ¬ (i : Int) < (mid : Int) := by have := HI.out; have := HE.out; omega
                 have gF : ¬ (mid : Int) < (en : Int) := by have := HEN.out; have := HI.out; have := HM.out; have := HA.out; have := HE.out; have := HUE.out; have := HUL.out; omega
                 have gE : ¬ (en : Int) < (b : Int) := by have := HEN.out; have := HM.out; have := HB.out; have := HUE.out; have := HEU.out; omega
                 have eL2 : L2 = [] := List.eq_nil_of_length_eq_zero (by have := E2.out; omega)
                 have eR1 : R1 = [] := List.eq_nil_of_length_eq_zero (by have := E3.out; omega)
                 have nL1 : L1 ≠ [] := List.length_pos_iff.1 (by have := E1.out; omega)
                 have eR2 : R2 = [] := List.eq_nil_of_length_eq_zero (by have := E4.out; omega)
                 have HC := Ha (show RowX base g n c (P ++ (L1 ++ R1) ++ (L2 ++ R2) ++ Q) wr by have := HR.out; rw [SL.out, SR.out] at this; rw [eL2] at this ⊢; simpa using this)
                 have HD := Ha HG.out
                 have HeL2 := Ha eL2
                 have HeR1 := Ha eR1
                 have HnL1 := Ha nL1
                 have HeR2 := Ha eR2
                 clear eL2 eR1 nL1 eR2; go_wp2_with fail
                 obtain ⟨M1, hM1⟩ : ∃ M1, M1 = L1 ++ R1 := ⟨_, rfl⟩
                 have HM1 := Ha (show Srt cX M1 by rw [hM1, HeR1.out, List.append_nil]; exact S1.out)
                 have HM2 := Ha (show StS cX (L1 ++ R1) M1 by rw [hM1]; exact StS.refl _)
                 have HC2 := HC
                 rw [<-hM1] at HC2
                 have HD2 := HD
                 clear hM1; obtain ⟨M2, hM2⟩ : ∃ M2, M2 = L2 ++ R2 := ⟨_, rfl⟩
                 have HM3 := Ha (show Srt cX M2 by rw [hM2, HeL2.out, List.nil_append]; exact S4.out)
                 have HM4 := Ha (show StS cX (L2 ++ R2) M2 by rw [hM2]; exact StS.refl _)
                 have HC3 := Ha (show RowX base g n c (P ++ (M1 ++ M2) ++ Q) _ by have := HC2.out; rw [<-hM2] at this; simpa using this)
                 have HD3 := HD2
                 clear hM2; go_end0
                 obtain ⟨f1, f2⟩ := merge_done cX_ord (by have := HSL.out; rwa [SL.out] at this) (by have := HSR.out; rwa [SR.out] at this) K1.out K2.out HM1.out HM2.out HM3.out HM4.out
                 rw [<-SL.out, <-SR.out] at f2
                 exact ⟨rfl, _, f1, f2, by simpa using HC3.out, HD3.out⟩)
          · skip
            by_cases hE : e - u < R.length
            · skip
              first
              | (exfalso; have := HU1.out; have := HV1.out; have := HU2.out; have := HV2.out; have := HV3.out; have := HNN.out; have := HE.out; have := HM.out; have := HB.out; have := HA.out; have := HS0.out; have := HF0.out; omega)
              | (have gA : ¬ (i : Int) < (m : Int) := by have := HI.out; have := HM.out; have := HA.out; omega
                 have gB : ¬ (m : Int) < (en : Int) := by have := HEN.out; have := HUE.out; omega
                 have gC : ¬ (a : Int) < (i : Int) := by have := HI.out; omega
                 have gD : ¬ (i : Int) < (mid : Int) := by have := HI.out; have := HE.out; omega
                 have gF : ¬ (mid : Int) < (en : Int) := by have := HEN.out; have := HI.out; have := HM.out; have := HA.out; have := HE.out; have := HUE.out; have := HUL.out; omega
                 have gE : (en : Int) < (b : Int) := by have := HEN.out; have := HM.out; have := HB.out; have := HUE.out; have := HEU.out; omega
                 have eL2 : L2 = [] := List.eq_nil_of_length_eq_zero (by have := E2.out; omega)
                 have eR1 : R1 = [] := List.eq_nil_of_length_eq_zero (by have := E3.out; omega)
                 have eL1 : L1 = [] := List.eq_nil_of_length_eq_zero (by have := E1.out; omega)
                 have nR2 : R2 ≠ [] := List.length_pos_iff.1 (by have := E4.out; omega)
                 have HC := Ha (show RowX base g n c (P ++ (L1 ++ R1) ++ (L2 ++ R2) ++ Q) wr by have := HR.out; rw [SL.out, SR.out] at this; rw [eL2] at this ⊢; simpa using this)
                 have HD := Ha HG.out
                 have HeL2 := Ha eL2
                 have HeR1 := Ha eR1
                 have HeL1 := Ha eL1
                 have HnR2 := Ha nR2
                 clear eL2 eR1 eL1 nR2; go_wp2_with fail
                 obtain ⟨M1, hM1⟩ : ∃ M1, M1 = L1 ++ R1 := ⟨_, rfl⟩
                 have HM1 := Ha (show Srt cX M1 by rw [hM1, HeR1.out, List.append_nil]; exact S1.out)
                 have HM2 := Ha (show StS cX (L1 ++ R1) M1 by rw [hM1]; exact StS.refl _)
                 have HC2 := HC
                 rw [<-hM1] at HC2
                 have HD2 := HD
                 clear hM1; obtain ⟨M2, hM2⟩ : ∃ M2, M2 = L2 ++ R2 := ⟨_, rfl⟩
                 have HM3 := Ha (show Srt cX M2 by rw [hM2, HeL2.out, List.nil_append]; exact S4.out)
                 have HM4 := Ha (show StS cX (L2 ++ R2) M2 by rw [hM2]; exact StS.refl _)
                 have HC3 := Ha (show RowX base g n c (P ++ (M1 ++ M2) ++ Q) _ by have := HC2.out; rw [<-hM2] at this; simpa using this)
                 have HD3 := HD2
                 clear hM2; go_end0
                 obtain ⟨f1, f2⟩ := merge_done cX_ord (by have := HSL.out; rwa [SL.out] at this) (by have := HSR.out; rwa [SR.out] at this) K1.out K2.out HM1.out HM2.out HM3.out HM4.out
                 rw [<-SL.out, <-SR.out] at f2
                 exact ⟨rfl, _, f1, f2, by simpa using HC3.out, HD3.out⟩)
            · skip
              first
              | (exfalso; have := HU1.out; have := HV1.out; have := HU2.out; have := HV2.out; have := HV3.out; have := HNN.out; have := HE.out; have := HM.out; have := HB.out; have := HA.out; have := HS0.out; have := HF0.out; omega)
              | (have gA : ¬ (i : Int) < (m : Int) := by have := HI.out; have := HM.out; have := HA.out; omega
                 have gB : ¬ (m : Int) < (en : Int) := by have := HEN.out; have := HUE.out; omega
                 have gC : ¬ (a : Int) < (i : Int) := by have := HI.out; omega
                 have gD : ¬ (i : Int) < (mid : Int) := by have := HI.out; have := HE.out; omega
                 have gF : ¬ (mid : Int) < (en : Int) := by have := HEN.out; have := HI.out; have := HM.out; have := HA.out; have := HE.out; have := HUE.out; have := HUL.out; omega
                 have gE : ¬ (en : Int) < (b : Int) := by have := HEN.out; have := HM.out; have := HB.out; have := HUE.out; have := HEU.out; omega
                 have eL2 : L2 = [] := List.eq_nil_of_length_eq_zero (by have := E2.out; omega)
                 have eR1 : R1 = [] := List.eq_nil_of_length_eq_zero (by have := E3.out; omega)
                 have eL1 : L1 = [] := List.eq_nil_of_length_eq_zero (by have := E1.out; omega)
                 have eR2 : R2 = [] := List.eq_nil_of_length_eq_zero (by have := E4.out; omega)
                 have HC := Ha (show RowX base g n c (P ++ (L1 ++ R1) ++ (L2 ++ R2) ++ Q) wr by have := HR.out; rw [SL.out, SR.out] at this; rw [eL2] at this ⊢; simpa using this)
                 have HD := Ha HG.out
                 have HeL2 := Ha eL2
                 have HeR1 := Ha eR1
                 have HeL1 := Ha eL1
                 have HeR2 := Ha eR2
                 clear eL2 eR1 eL1 eR2; go_wp2_with fail
                 obtain ⟨M1, hM1⟩ : ∃ M1, M1 = L1 ++ R1 := ⟨_, rfl⟩
                 have HM1 := Ha (show Srt cX M1 by rw [hM1, HeR1.out, List.append_nil]; exact S1.out)
                 have HM2 := Ha (show StS cX (L1 ++ R1) M1 by rw [hM1]; exact StS.refl _)
                 have HC2 := HC
                 rw [<-hM1] at HC2
                 have HD2 := HD
                 clear hM1; obtain ⟨M2, hM2⟩ : ∃ M2, M2 = L2 ++ R2 := ⟨_, rfl⟩
                 have HM3 := Ha (show Srt cX M2 by rw [hM2, HeL2.out, List.nil_append]; exact S4.out)
                 have HM4 := Ha (show StS cX (L2 ++ R2) M2 by rw [hM2]; exact StS.refl _)
                 have HC3 := Ha (show RowX base g n c (P ++ (M1 ++ M2) ++ Q) _ by have := HC2.out; rw [<-hM2] at this; simpa using this)
                 have HD3 := HD2
                 clear hM2; go_end0
                 obtain ⟨f1, f2⟩ := merge_done cX_ord (by have := HSL.out; rwa [SL.out] at this) (by have := HSR.out; rwa [SR.out] at this) K1.out K2.out HM1.out HM2.out HM3.out HM4.out
                 rw [<-SL.out, <-SR.out] at f2
                 exact ⟨rfl, _, f1, f2, by simpa using HC3.out, HD3.out⟩)
end Go.Proofs.YtmpginmdaeclaaaGreatDoor
