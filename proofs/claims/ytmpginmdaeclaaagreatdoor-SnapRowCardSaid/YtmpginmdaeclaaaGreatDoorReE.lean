/- Parts of the proofs of the statements of image. No statement of the seat is proved here. -/
import Derived.Test.YtmpginmdaeclaaaGreatDoorReC
import Derived.Test.YtmpginmdaeclaaaGreatDoorRdG
import Derived.Test.YtmpginmdaeclaaaGreatDoorNaK
import Derived.Test.YtmpginmdaeclaaaGreatDoorNaO
set_option maxHeartbeats 32000000
set_option maxRecDepth 20000
namespace Go.Proofs.YtmpginmdaeclaaaGreatDoor
open Go.RowKit
def typB (c : Int) (e : Bool) : Bool := c == 1 || (c == 254 && !e)
theorem typ_is (t c : Int) (d : List UInt8) : tyd t c d.length = if typB c d.isEmpty = true then t else 0 := by
  unfold tyd typB
  cases d with
  | nil => simp
  | cons x d => simp
theorem typed_any (c : Int) (e : Bool) (w : World) : Calls Tryz.prog 137 #[.int .i64 c, .bool e] w fun en w' => en = .returned (.bool (typB c e)) /\ w = w' := by
  cases h1 : (c == 1) with
  | true =>
    have HE := Ha (show typB c e = true by unfold typB; rw [h1]; rfl)
    go_enter Tryz.func137, Tryz.ntmps137
    go_wp2_with fail
    go_ret
    exact ⟨by rw [HE.out]; rfl, rfl⟩
  | false =>
    cases h2 : (c == 254) with
    | false =>
      have HE := Ha (show typB c e = false by unfold typB; rw [h1, h2]; rfl)
      go_enter Tryz.func137, Tryz.ntmps137
      go_wp2_with fail
      go_ret
      exact ⟨by rw [HE.out]; rfl, rfl⟩
    | true =>
      cases e
      · have HE := Ha (show typB c false = true by unfold typB; rw [h1, h2]; rfl)
        go_enter Tryz.func137, Tryz.ntmps137
        go_wp2_with fail
        go_ret
        exact ⟨by rw [HE.out]; rfl, rfl⟩
      · have HE := Ha (show typB c true = false by unfold typB; rw [h1, h2]; rfl)
        go_enter Tryz.func137, Tryz.ntmps137
        go_wp2_with fail
        go_ret
        exact ⟨by rw [HE.out]; rfl, rfl⟩
theorem empty_of {D : ByteArray} {d : List UInt8} (hD : D = mk d) : D.toList.isEmpty = d.isEmpty := by
  rw [hD, mk_isEmpty]
theorem RefRRight_any (N D : ByteArray) (r : Rec) (w : World) (hN : N = mk r.n) (hD : D = mk r.d) (hd : r.d.length <= 65535) :
    Calls Tryz.prog 80 #[.agg (rrA N D r.t r.c r.l)] w fun e w' => e = .returned (.bool (okR r)) /\ Below w.heap.size w w' := by
  obtain ⟨n, t, c, l, d⟩ := r
  simp only at hN hD hd ⊢
  have hok : okR ⟨n, t, c, l, d⟩ = ((nameL n).isSome && isNum t && isNum c && isAge l && rightR (tyd t c d.length) d) := rfl
  have hsz : D.size = d.length := by rw [hD, mk_size]
  have hdI : decide ((65535 : Int) < (D.size : Int)) = false := by rw [decide_eq_false_iff_not]; omega
  have hem := empty_of hD
  have HN := Ha hN
  have HD := Ha hD
  have hW0 := Whole.new w rrT (rrA N D t c l)
  have HB0 := Ha (show Below w.heap.size w (w.alloc (.cells (rrA N D t c l) rrT)) from (Below.refl _ _).alloc (Nat.le_refl _) _)
  have HW0 := Ha hW0
  obtain ⟨c0, _, _, _, _⟩ := rr_facts hW0
  clear hN hD hW0
  unfold rrA at *
  cases h1 : (nameL n).isSome with
  | false =>
    have HO := Ha (show okR ⟨n, t, c, l, d⟩ = false by rw [hok, h1]; simp)
    have H1 := Ha h1
    clear hok h1; go_enter Tryz.func80, Tryz.ntmps80
    go_wp2_with fail
    refine (RefRight_any N n _ HN.out).mono ?_
    rw [H1.out]
    rintro e w1 ⟨rfl, hB1⟩; have HB1 := thB HB0 hB1
    clear hB1 c0; go_wp2_with fail
    go_ret
    exact ⟨by rw [HO.out]; rfl, HB1.out⟩
  | true =>
    have H1 := Ha h1
    cases h2 : isNum t with
    | false =>
      have HO := Ha (show okR ⟨n, t, c, l, d⟩ = false by rw [hok, h1, h2]; simp)
      have hr : t < 0 \/ 65535 < t := by unfold isNum at h2; simp at h2; omega
      clear hok h1 h2
      rcases hr with hr | hr
      · have gr : decide (t < 0) = true := by simp [hr]
        go_enter Tryz.func80, Tryz.ntmps80
        go_wp2_with fail
        refine (RefRight_any N n _ HN.out).mono ?_
        rw [H1.out]
        rintro e w1 ⟨rfl, hB1⟩; obtain ⟨k0, k1, k2, k3, k4⟩ := rr_facts (HW0.out.below hB1 HW0.out.lt)
        have HB1 := thB HB0 hB1
        clear hB1 c0; go_wp2_with fail
        go_ret
        exact ⟨by rw [HO.out]; rfl, HB1.out⟩
      · have gr : decide (t < 0) = false := by rw [decide_eq_false_iff_not]; omega
        have gr2 : decide (65535 < t) = true := by simp [hr]
        go_enter Tryz.func80, Tryz.ntmps80
        go_wp2_with fail
        refine (RefRight_any N n _ HN.out).mono ?_
        rw [H1.out]
        rintro e w1 ⟨rfl, hB1⟩; obtain ⟨k0, k1, k2, k3, k4⟩ := rr_facts (HW0.out.below hB1 HW0.out.lt)
        have HB1 := thB HB0 hB1
        clear hB1 c0; go_wp2_with fail
        go_ret
        exact ⟨by rw [HO.out]; rfl, HB1.out⟩
    | true =>
      have g2a : decide (t < 0) = false := by unfold isNum at h2; simp at h2; rw [decide_eq_false_iff_not]; omega
      have g2b : decide (65535 < t) = false := by unfold isNum at h2; simp at h2; rw [decide_eq_false_iff_not]; omega
      cases h3 : isNum c with
      | false =>
        have HO := Ha (show okR ⟨n, t, c, l, d⟩ = false by rw [hok, h1, h2, h3]; simp)
        have hr : c < 0 \/ 65535 < c := by unfold isNum at h3; simp at h3; omega
        clear hok h1 h3
        rcases hr with hr | hr
        · have gr : decide (c < 0) = true := by simp [hr]
          go_enter Tryz.func80, Tryz.ntmps80
          go_wp2_with fail
          refine (RefRight_any N n _ HN.out).mono ?_
          rw [H1.out]
          rintro e w1 ⟨rfl, hB1⟩; obtain ⟨k0, k1, k2, k3, k4⟩ := rr_facts (HW0.out.below hB1 HW0.out.lt)
          have HB1 := thB HB0 hB1
          clear hB1 c0; go_wp2_with fail
          go_ret
          exact ⟨by rw [HO.out]; rfl, HB1.out⟩
        · have gr : decide (c < 0) = false := by rw [decide_eq_false_iff_not]; omega
          have gr2 : decide (65535 < c) = true := by simp [hr]
          go_enter Tryz.func80, Tryz.ntmps80
          go_wp2_with fail
          refine (RefRight_any N n _ HN.out).mono ?_
          rw [H1.out]
          rintro e w1 ⟨rfl, hB1⟩; obtain ⟨k0, k1, k2, k3, k4⟩ := rr_facts (HW0.out.below hB1 HW0.out.lt)
          have HB1 := thB HB0 hB1
          clear hB1 c0; go_wp2_with fail
          go_ret
          exact ⟨by rw [HO.out]; rfl, HB1.out⟩
      | true =>
        have g3a : decide (c < 0) = false := by unfold isNum at h3; simp at h3; rw [decide_eq_false_iff_not]; omega
        have g3b : decide (65535 < c) = false := by unfold isNum at h3; simp at h3; rw [decide_eq_false_iff_not]; omega
        cases h4 : isAge l with
        | false =>
          have HO := Ha (show okR ⟨n, t, c, l, d⟩ = false by rw [hok, h1, h2, h3, h4]; simp)
          have hr : l < 0 \/ 2147483647 < l := by unfold isAge at h4; simp at h4; omega
          clear hok h1 h4
          rcases hr with hr | hr
          · have gr : decide (l < 0) = true := by simp [hr]
            go_enter Tryz.func80, Tryz.ntmps80
            go_wp2_with fail
            refine (RefRight_any N n _ HN.out).mono ?_
            rw [H1.out]
            rintro e w1 ⟨rfl, hB1⟩; obtain ⟨k0, k1, k2, k3, k4⟩ := rr_facts (HW0.out.below hB1 HW0.out.lt)
            have HB1 := thB HB0 hB1
            clear hB1 c0; go_wp2_with fail
            go_ret
            exact ⟨by rw [HO.out]; rfl, HB1.out⟩
          · have gr : decide (l < 0) = false := by rw [decide_eq_false_iff_not]; omega
            have gr2 : decide (2147483647 < l) = true := by simp [hr]
            go_enter Tryz.func80, Tryz.ntmps80
            go_wp2_with fail
            refine (RefRight_any N n _ HN.out).mono ?_
            rw [H1.out]
            rintro e w1 ⟨rfl, hB1⟩; obtain ⟨k0, k1, k2, k3, k4⟩ := rr_facts (HW0.out.below hB1 HW0.out.lt)
            have HB1 := thB HB0 hB1
            clear hB1 c0; go_wp2_with fail
            go_ret
            exact ⟨by rw [HO.out]; rfl, HB1.out⟩
        | true =>
          have g4a : decide (l < 0) = false := by unfold isAge at h4; simp at h4; rw [decide_eq_false_iff_not]; omega
          have g4b : decide (2147483647 < l) = false := by unfold isAge at h4; simp at h4; rw [decide_eq_false_iff_not]; omega
          have HO := Ha (show okR ⟨n, t, c, l, d⟩ = rightR (tyd t c d.length) d by rw [hok, h1, h2, h3, h4]; simp)
          have hty := typ_is t c d
          clear hok h1 h2 h3 h4; obtain ⟨em, hme⟩ : ∃ em, em = d.isEmpty := ⟨_, rfl⟩
          rw [<-hme] at hem hty
          cases hy : typB c em with
          | false =>
            rw [hy, if_neg (by simp)] at hty
            have HR := Ha (show okR ⟨n, t, c, l, d⟩ = true by rw [HO.out, hty]; exact (plain_right hd).1)
            have HY := Ha hy
            clear hty hy hme; go_enter Tryz.func80, Tryz.ntmps80
            go_wp2_with fail
            refine (RefRight_any N n _ HN.out).mono ?_
            rw [H1.out]
            rintro e w1 ⟨rfl, hB1⟩; obtain ⟨k0, k1, k2, k3, k4⟩ := rr_facts (HW0.out.below hB1 HW0.out.lt)
            have hw1 := HW0.out.below hB1 HW0.out.lt
            have HW1 := Ha hw1
            have HB1 := thB HB0 hB1
            clear hB1 c0 hw1; go_wp2_with fail
            refine (typed_any c em _).mono ?_
            rw [HY.out]
            rintro e w2 ⟨rfl, rfl⟩; go_wp2_with fail
            go_ret
            exact ⟨by rw [HR.out]; rfl, HB1.out⟩
          | true =>
            rw [hy, if_pos rfl] at hty
            have HR := Ha (show okR ⟨n, t, c, l, d⟩ = rightR t d by rw [HO.out, hty])
            have HY := Ha hy
            clear hty hy hme; go_enter Tryz.func80, Tryz.ntmps80
            go_wp2_with fail
            refine (RefRight_any N n _ HN.out).mono ?_
            rw [H1.out]
            rintro e w1 ⟨rfl, hB1⟩; obtain ⟨k0, k1, k2, k3, k4⟩ := rr_facts (HW0.out.below hB1 HW0.out.lt)
            have hw1 := HW0.out.below hB1 HW0.out.lt
            have HW1 := Ha hw1
            have HB1 := thB HB0 hB1
            clear hB1 c0 hw1; go_wp2_with fail
            refine (typed_any c em _).mono ?_
            rw [HY.out]
            rintro e w2 ⟨rfl, rfl⟩; go_wp2_with fail
            refine (RefDRight_any D d t _ HD.out hd).mono ?_
            rintro e w2 ⟨rfl, hB2⟩; go_wp2_with fail
            go_ret
            exact ⟨by rw [HR.out]; rfl, HB1.out.trans (hB2.mono HB1.out.size)⟩
theorem RefSaid_any (N D : ByteArray) (t c l : Int) (d : List UInt8) (w : World) (hD : D = mk d) (hd : d.length <= 65535) :
    Calls Tryz.prog 233 #[.agg (rrA N D t c l)] w fun e w' => e = .returned (.string (mk (saidR t d))) /\ Below w.heap.size w w' := by
  have HD := Ha hD
  have hW0 := Whole.new w rrT (rrA N D t c l)
  have HB0 := Ha (show Below w.heap.size w (w.alloc (.cells (rrA N D t c l) rrT)) from (Below.refl _ _).alloc (Nat.le_refl _) _)
  have HW0 := Ha hW0
  obtain ⟨_, c1, _, _, c4⟩ := rr_facts hW0
  clear hD hW0
  unfold rrA at *
  cases hr : rightR t d with
  | false =>
    have HO := Ha (show mk (saidR t d) = D by unfold saidR; rw [hr, HD.out]; simp)
    have HR := Ha hr
    clear hr; go_enter Tryz.func233, Tryz.ntmps233
    go_wp2_with fail
    refine (RefDRight_any D d t _ HD.out hd).mono ?_
    rw [HR.out]
    rintro e w1 ⟨rfl, hB1⟩; obtain ⟨_, k1, _, _, k4⟩ := rr_facts (HW0.out.below hB1 HW0.out.lt)
    have HB1 := thB HB0 hB1
    clear hB1 c1 c4; go_wp2_with fail
    go_ret
    exact ⟨by rw [HO.out]; rfl, HB1.out⟩
  | true =>
    have HO := Ha (show mk (saidR t d) = mk (foldD t d) by unfold saidR; rw [hr]; simp)
    have HR := Ha hr
    clear hr; go_enter Tryz.func233, Tryz.ntmps233
    go_wp2_with fail
    refine (RefDRight_any D d t _ HD.out hd).mono ?_
    rw [HR.out]
    rintro e w1 ⟨rfl, hB1⟩; obtain ⟨_, k1, _, _, k4⟩ := rr_facts (HW0.out.below hB1 HW0.out.lt)
    have HB1 := thB HB0 hB1
    clear hB1 c1 c4; go_wp2_with fail
    refine (RefDFold_any D d t _ HD.out hd).mono ?_
    rintro e w2 ⟨rfl, hB2⟩; go_wp2_with fail
    go_ret
    exact ⟨by rw [HO.out]; rfl, HB1.out.trans (hB2.mono HB1.out.size)⟩
end Go.Proofs.YtmpginmdaeclaaaGreatDoor
namespace Go.Proofs.YtmpginmdaeclaaaGreatDoor
open Go.RowKit Go.Op
theorem sign_any (x y : Int) (w : World) : Calls Tryz.prog 232 #[.int .i64 x, .int .i64 y] w fun e w' => e = .returned (.int .i64 (sgn x y)) /\ w = w' := by
  by_cases h1 : x < y
  · have HE := Ha (show sgn x y = -1 by unfold sgn; rw [if_pos h1])
    go_enter Tryz.func232, Tryz.ntmps232
    go_wp2_with fail
    go_ret
    exact ⟨by rw [HE.out]; rfl, rfl⟩
  · have g1 : decide (x < y) = false := by rw [decide_eq_false_iff_not]; exact h1
    by_cases h2 : y < x
    · have HE := Ha (show sgn x y = 1 by unfold sgn; rw [if_neg h1, if_pos h2])
      clear h1; go_enter Tryz.func232, Tryz.ntmps232
      go_wp2_with fail
      go_ret
      exact ⟨by rw [HE.out]; rfl, rfl⟩
    · have HE := Ha (show sgn x y = 0 by unfold sgn; rw [if_neg h1, if_neg h2])
      have g2 : decide (y < x) = false := by rw [decide_eq_false_iff_not]; exact h2
      clear h1 h2; go_enter Tryz.func232, Tryz.ntmps232
      go_wp2_with fail
      go_ret
      exact ⟨by rw [HE.out]; rfl, rfl⟩
theorem RefRCompare_any (N D N' D' : ByteArray) (a b : Rec) (w : World) (hN : N = mk a.n) (hD : D = mk a.d) (hN' : N' = mk b.n) (hD' : D' = mk b.d) (hd : a.d.length <= 65535) (hd' : b.d.length <= 65535) :
    Calls Tryz.prog 185 #[.agg (rrA N D a.t a.c a.l), .agg (rrA N' D' b.t b.c b.l)] w fun e w' => e = .returned (.int .i64 (cmpR a b)) /\ Below w.heap.size w w' := by
  obtain ⟨n, t, c, l, d⟩ := a
  obtain ⟨n', t', c', l', d'⟩ := b
  simp only at hN hD hd hN' hD' hd' ⊢
  have hok : cmpR ⟨n, t, c, l, d⟩ ⟨n', t', c', l', d'⟩ = orI (orI (cmpN n n') (orI (sgn t t') (sgn c c'))) (cmpB (saidR t d) (saidR t' d')) := rfl
  have HN := Ha hN
  have HN' := Ha hN'
  obtain ⟨hW0, hW1, hB0⟩ := two_new w (rrA N D t c l) (rrA N' D' t' c' l') rrT rrT
  have HB0 := Ha hB0
  have HW0 := Ha hW0
  have HW1 := Ha hW1
  obtain ⟨c0, _, _, _, _⟩ := rr_facts hW0
  obtain ⟨e0, _, _, _, _⟩ := rr_facts hW1
  obtain ⟨SA, hSA⟩ : ∃ SA, SA = mk (saidR t d) := ⟨_, rfl⟩
  obtain ⟨SB, hSB⟩ : ∃ SB, SB = mk (saidR t' d') := ⟨_, rfl⟩
  have HLA := Ha (show ∀ (V : World) (q : Later V), Calls Tryz.prog 233 #[.agg #[.string N, .int .i64 t, .int .i64 c, .int .i64 l, .string D]] q.val fun e w'' => e = .returned (.string SA) /\ ∃ q' : Later V, w'' = q'.val from
    fun V q => later_call (by rw [hSA]; exact RefSaid_any N D t c l d _ hD hd))
  have HLB := Ha (show ∀ (V : World) (q : Later V), Calls Tryz.prog 233 #[.agg #[.string N', .int .i64 t', .int .i64 c', .int .i64 l', .string D']] q.val fun e w'' => e = .returned (.string SB) /\ ∃ q' : Later V, w'' = q'.val from
    fun V q => later_call (by rw [hSB]; exact RefSaid_any N' D' t' c' l' d' _ hD' hd'))
  have hlA : bytesLess SA.toList SB.toList = bytesLess (saidR t d) (saidR t' d') := by rw [hSA, hSB, mk_tl, mk_tl]
  have hlB : (SA.toList == SB.toList) = (saidR t d == saidR t' d') := by rw [hSA, hSB]; exact said_beq _ _
  obtain ⟨X1, hX1⟩ : ∃ X1, X1 = cmpN n n' := ⟨_, rfl⟩
  obtain ⟨S1, hS1⟩ : ∃ S1, S1 = sgn t t' := ⟨_, rfl⟩
  obtain ⟨S2, hS2⟩ : ∃ S2, S2 = sgn c c' := ⟨_, rfl⟩
  rw [<-hX1, <-hS1, <-hS2] at hok
  have HX1 := Ha hX1
  have HS1 := Ha hS1
  have HS2 := Ha hS2
  clear hN hD hN' hD' hW0 hW1 hB0 hSA hSB hX1 hS1 hS2
  unfold rrA at *
  by_cases hx : X1 = 0
  · rw [hx, orI_0] at hok
    have gx : (X1 == 0) = true := by rw [hx]; rfl
    clear hx
    by_cases hs : S1 = 0
    · rw [hs, orI_0] at hok
      have gs : (S1 == 0) = true := by rw [hs]; rfl
      clear hs
      by_cases hz : S2 = 0
      · rw [hz, orI_0] at hok
        have gz : (S2 == 0) = true := by rw [hz]; rfl
        clear hz
        cases hl1 : bytesLess (saidR t d) (saidR t' d') with
        | true =>
          rw [hl1] at hlA
          have HO := Ha (show cmpR ⟨n, t, c, l, d⟩ ⟨n', t', c', l', d'⟩ = -1 by rw [hok]; unfold cmpB; rw [if_pos hl1])
          clear hok hl1 hlB; go_enter Tryz.func185, Tryz.ntmps185
          go_wp2_with fail
          refine (RefCompare_any N N' n n' _ HN.out HN'.out).mono ?_
          rw [<-HX1.out]
          rintro e w1 ⟨rfl, hB1⟩; have hw0 := HW0.out.below hB1 HW0.out.lt
          have hw1 := HW1.out.below hB1 HW1.out.lt
          obtain ⟨_, k1, k2, _, _⟩ := rr_facts hw0
          obtain ⟨_, m1, m2, _, _⟩ := rr_facts hw1
          have HB1 := thB HB0 hB1
          have HV0 := Ha hw0
          have HV1 := Ha hw1
          clear hB1 hw0 hw1 c0 e0; go_wp2_with fail
          refine (sign_any _ _ _).mono ?_
          rw [<-HS1.out]
          rintro e w' ⟨rfl, rfl⟩; go_wp2_with fail
          refine (sign_any _ _ _).mono ?_
          rw [<-HS2.out]
          rintro e w' ⟨rfl, rfl⟩; go_wp2_with fail
          obtain ⟨d0, d1, d2, d3, d4⟩ := rr_later HV0.out
          obtain ⟨e0, e1, e2, e3, e4⟩ := rr_later HV1.out
          clear k1 k2 m1 m2; refine region_later (by kernel_rfl) ?_
          repeat (go_big_quiet_step ((first
            | (go_at_call 233; with_reducible exact HLA.out _ _)
            | (go_at_call 233; with_reducible exact HLB.out _ _))))
          refine wpQuiet_nil ?_
          rintro _ ⟨q2, rfl⟩; go_wp2_with fail
          go_ret
          exact ⟨by rw [HO.out]; rfl, HB1.out.trans (q2.below.mono HB1.out.size)⟩
        | false =>
          rw [hl1] at hlA
          cases hl2 : bytesLess (saidR t' d') (saidR t d) with
          | true =>
            rw [show (saidR t d == saidR t' d') = false by rw [beq_eq_false_iff_ne]; intro e; rw [e, less_irrefl] at hl2; cases hl2] at hlB
            have HO := Ha (show cmpR ⟨n, t, c, l, d⟩ ⟨n', t', c', l', d'⟩ = 1 by rw [hok]; unfold cmpB; rw [if_neg (by rw [hl1]; simp), if_pos hl2])
            clear hok hl1 hl2; go_enter Tryz.func185, Tryz.ntmps185
            go_wp2_with fail
            refine (RefCompare_any N N' n n' _ HN.out HN'.out).mono ?_
            rw [<-HX1.out]
            rintro e w1 ⟨rfl, hB1⟩; have hw0 := HW0.out.below hB1 HW0.out.lt
            have hw1 := HW1.out.below hB1 HW1.out.lt
            obtain ⟨_, k1, k2, _, _⟩ := rr_facts hw0
            obtain ⟨_, m1, m2, _, _⟩ := rr_facts hw1
            have HB1 := thB HB0 hB1
            have HV0 := Ha hw0
            have HV1 := Ha hw1
            clear hB1 hw0 hw1 c0 e0; go_wp2_with fail
            refine (sign_any _ _ _).mono ?_
            rw [<-HS1.out]
            rintro e w' ⟨rfl, rfl⟩; go_wp2_with fail
            refine (sign_any _ _ _).mono ?_
            rw [<-HS2.out]
            rintro e w' ⟨rfl, rfl⟩; go_wp2_with fail
            obtain ⟨d0, d1, d2, d3, d4⟩ := rr_later HV0.out
            obtain ⟨e0, e1, e2, e3, e4⟩ := rr_later HV1.out
            clear k1 k2 m1 m2; refine region_later (by kernel_rfl) ?_
            repeat (go_big_quiet_step ((first
              | (go_at_call 233; with_reducible exact HLA.out _ _)
              | (go_at_call 233; with_reducible exact HLB.out _ _))))
            refine wpQuiet_nil ?_
            rintro _ ⟨q2, rfl⟩; go_wp2_with fail
            go_ret
            exact ⟨by rw [HO.out]; rfl, HB1.out.trans (q2.below.mono HB1.out.size)⟩
          | false =>
            rw [show (saidR t d == saidR t' d') = true by rw [less_total _ _ hl1 hl2]; simp] at hlB
            have HO := Ha (show cmpR ⟨n, t, c, l, d⟩ ⟨n', t', c', l', d'⟩ = 0 by rw [hok]; unfold cmpB; rw [if_neg (by rw [hl1]; simp), if_neg (by rw [hl2]; simp)])
            clear hok hl1 hl2; go_enter Tryz.func185, Tryz.ntmps185
            go_wp2_with fail
            refine (RefCompare_any N N' n n' _ HN.out HN'.out).mono ?_
            rw [<-HX1.out]
            rintro e w1 ⟨rfl, hB1⟩; have hw0 := HW0.out.below hB1 HW0.out.lt
            have hw1 := HW1.out.below hB1 HW1.out.lt
            obtain ⟨_, k1, k2, _, _⟩ := rr_facts hw0
            obtain ⟨_, m1, m2, _, _⟩ := rr_facts hw1
            have HB1 := thB HB0 hB1
            have HV0 := Ha hw0
            have HV1 := Ha hw1
            clear hB1 hw0 hw1 c0 e0; go_wp2_with fail
            refine (sign_any _ _ _).mono ?_
            rw [<-HS1.out]
            rintro e w' ⟨rfl, rfl⟩; go_wp2_with fail
            refine (sign_any _ _ _).mono ?_
            rw [<-HS2.out]
            rintro e w' ⟨rfl, rfl⟩; go_wp2_with fail
            obtain ⟨d0, d1, d2, d3, d4⟩ := rr_later HV0.out
            obtain ⟨e0, e1, e2, e3, e4⟩ := rr_later HV1.out
            clear k1 k2 m1 m2; refine region_later (by kernel_rfl) ?_
            repeat (go_big_quiet_step ((first
              | (go_at_call 233; with_reducible exact HLA.out _ _)
              | (go_at_call 233; with_reducible exact HLB.out _ _))))
            refine wpQuiet_nil ?_
            rintro _ ⟨q2, rfl⟩; go_wp2_with fail
            go_ret
            exact ⟨by rw [HO.out]; rfl, HB1.out.trans (q2.below.mono HB1.out.size)⟩
      · have HO := Ha (show cmpR ⟨n, t, c, l, d⟩ ⟨n', t', c', l', d'⟩ = S2 by rw [hok]; unfold orI; rw [if_neg hz])
        have gz : (S2 == 0) = false := by rw [beq_eq_false_iff_ne]; exact hz
        clear hz hok hlA hlB; go_enter Tryz.func185, Tryz.ntmps185
        go_wp2_with fail
        refine (RefCompare_any N N' n n' _ HN.out HN'.out).mono ?_
        rw [<-HX1.out]
        rintro e w1 ⟨rfl, hB1⟩; have hw0 := HW0.out.below hB1 HW0.out.lt
        have hw1 := HW1.out.below hB1 HW1.out.lt
        obtain ⟨_, k1, k2, _, _⟩ := rr_facts hw0
        obtain ⟨_, m1, m2, _, _⟩ := rr_facts hw1
        have HB1 := thB HB0 hB1
        have HV0 := Ha hw0
        have HV1 := Ha hw1
        clear hB1 hw0 hw1 c0 e0; go_wp2_with fail
        refine (sign_any _ _ _).mono ?_
        rw [<-HS1.out]
        rintro e w' ⟨rfl, rfl⟩; go_wp2_with fail
        refine (sign_any _ _ _).mono ?_
        rw [<-HS2.out]
        rintro e w' ⟨rfl, rfl⟩; go_wp2_with fail
        go_ret
        exact ⟨by rw [HO.out]; rfl, HB1.out⟩
    · have HO := Ha (show cmpR ⟨n, t, c, l, d⟩ ⟨n', t', c', l', d'⟩ = S1 by rw [hok]; unfold orI; rw [if_neg hs, if_neg hs])
      have gs : (S1 == 0) = false := by rw [beq_eq_false_iff_ne]; exact hs
      clear hs hok hlA hlB; go_enter Tryz.func185, Tryz.ntmps185
      go_wp2_with fail
      refine (RefCompare_any N N' n n' _ HN.out HN'.out).mono ?_
      rw [<-HX1.out]
      rintro e w1 ⟨rfl, hB1⟩; have hw0 := HW0.out.below hB1 HW0.out.lt
      have hw1 := HW1.out.below hB1 HW1.out.lt
      obtain ⟨_, k1, k2, _, _⟩ := rr_facts hw0
      obtain ⟨_, m1, m2, _, _⟩ := rr_facts hw1
      have HB1 := thB HB0 hB1
      have HV0 := Ha hw0
      have HV1 := Ha hw1
      clear hB1 hw0 hw1 c0 e0; go_wp2_with fail
      refine (sign_any _ _ _).mono ?_
      rw [<-HS1.out]
      rintro e w' ⟨rfl, rfl⟩; go_wp2_with fail
      go_ret
      exact ⟨by rw [HO.out]; rfl, HB1.out⟩
  · have HO := Ha (show cmpR ⟨n, t, c, l, d⟩ ⟨n', t', c', l', d'⟩ = X1 by rw [hok]; unfold orI; rw [if_neg hx, if_neg hx])
    have gx : (X1 == 0) = false := by rw [beq_eq_false_iff_ne]; exact hx
    clear hx hok hlA hlB; go_enter Tryz.func185, Tryz.ntmps185
    go_wp2_with fail
    refine (RefCompare_any N N' n n' _ HN.out HN'.out).mono ?_
    rw [<-HX1.out]
    rintro e w1 ⟨rfl, hB1⟩; have hw0 := HW0.out.below hB1 HW0.out.lt
    have hw1 := HW1.out.below hB1 HW1.out.lt
    obtain ⟨_, k1, k2, _, _⟩ := rr_facts hw0
    obtain ⟨_, m1, m2, _, _⟩ := rr_facts hw1
    have HB1 := thB HB0 hB1
    have HV0 := Ha hw0
    have HV1 := Ha hw1
    clear hB1 hw0 hw1 c0 e0; go_wp2_with fail
    go_ret
    exact ⟨by rw [HO.out]; rfl, HB1.out⟩
theorem name_a : nameL [1, 97, 0] = some [[97]] := nameL_enc (L := [[97]]) (by intro x hx; simp at hx; subst hx; simp) (by decide)
def recOf (N D : ByteArray) (t c l : Int) : Rec := ⟨N.data.toList, t, c, l, D.data.toList⟩
end Go.Proofs.YtmpginmdaeclaaaGreatDoor
