/- The reference's sign and Compare; awake; few. No statement of the seat is proved here. (written by gen_f.py) -/
import Derived.Test.YtdanncclnhkmgaaRecE
namespace Go.Proofs.Ytdanncclnhkmgaa
open Go.RowKit Go.Op

theorem sign_any (x y : Int) (w : World) : Calls Try.prog 41 #[.int .i64 x, .int .i64 y] w fun e w' => e = .returned (.int .i64 (sgn x y)) ∧ w = w' := by
  by_cases h1 : x < y
  · have HE := Lib.hid (show sgn x y = -1 by unfold sgn; rw [if_pos h1])
    go_enter Try.func41, Try.ntmps41
    go_wp2_with fail
    go_ret
    exact ⟨by rw [HE.out]; rfl, rfl⟩
  · have g1 : decide (x < y) = false := by rw [decide_eq_false_iff_not]; exact h1
    by_cases h2 : y < x
    · have HE := Lib.hid (show sgn x y = 1 by unfold sgn; rw [if_neg h1, if_pos h2])
      clear h1
      go_enter Try.func41, Try.ntmps41
      go_wp2_with fail
      go_ret
      exact ⟨by rw [HE.out]; rfl, rfl⟩
    · have HE := Lib.hid (show sgn x y = 0 by unfold sgn; rw [if_neg h1, if_neg h2])
      have g2 : decide (y < x) = false := by rw [decide_eq_false_iff_not]; exact h2
      clear h1 h2
      go_enter Try.func41, Try.ntmps41
      go_wp2_with fail
      go_ret
      exact ⟨by rw [HE.out]; rfl, rfl⟩

set_option maxHeartbeats 2000000 in
set_option maxRecDepth 20000 in
theorem RefRCompare_any (N D N' D' : ByteArray) (a b : Rec) (w : World) (hN : N = mk a.n) (hD : D = mk a.d) (hN' : N' = mk b.n) (hD' : D' = mk b.d) (hd : a.d.length ≤ 65535) (hd' : b.d.length ≤ 65535) :
    Calls Try.prog 16 #[.agg (rrA N D a.t a.c a.l), .agg (rrA N' D' b.t b.c b.l)] w fun e w' => e = .returned (.int .i64 (cmpR a b)) ∧ Below w.heap.size w w' := by
  obtain ⟨n, t, c, l, d⟩ := a
  obtain ⟨n', t', c', l', d'⟩ := b
  simp only at hN hD hd hN' hD' hd' ⊢
  have hok : cmpR ⟨n, t, c, l, d⟩ ⟨n', t', c', l', d'⟩ = orI (orI (cmpN n n') (orI (sgn t t') (sgn c c'))) (cmpB (saidR t d) (saidR t' d')) := rfl
  have HN := Lib.hid hN
  have HN' := Lib.hid hN'
  obtain ⟨hW0, hW1, hB0⟩ := two_new w (rrA N D t c l) (rrA N' D' t' c' l') rrT rrT
  have HB0 := Lib.hid hB0
  have HW0 := Lib.hid hW0
  have HW1 := Lib.hid hW1
  obtain ⟨c0, _, _, _, _⟩ := rr_facts hW0
  obtain ⟨e0, _, _, _, _⟩ := rr_facts hW1
  obtain ⟨SA, hSA⟩ : ∃ SA, SA = mk (saidR t d) := ⟨_, rfl⟩
  obtain ⟨SB, hSB⟩ : ∃ SB, SB = mk (saidR t' d') := ⟨_, rfl⟩
  have HLA := Lib.hid (show ∀ (V : World) (q : Later V), Calls Try.prog 12 #[.agg #[.string N, .int .i64 t, .int .i64 c, .int .i64 l, .string D]] q.val fun e w'' => e = .returned (.string SA) ∧ ∃ q' : Later V, w'' = q'.val from
    fun V q => later_call (by rw [hSA]; exact RefSaid_any N D t c l d _ hD hd))
  have HLB := Lib.hid (show ∀ (V : World) (q : Later V), Calls Try.prog 12 #[.agg #[.string N', .int .i64 t', .int .i64 c', .int .i64 l', .string D']] q.val fun e w'' => e = .returned (.string SB) ∧ ∃ q' : Later V, w'' = q'.val from
    fun V q => later_call (by rw [hSB]; exact RefSaid_any N' D' t' c' l' d' _ hD' hd'))
  have hlA : bytesLess SA.toList SB.toList = bytesLess (saidR t d) (saidR t' d') := by rw [hSA, hSB, mk_tl, mk_tl]
  have hlB : (SA.toList == SB.toList) = (saidR t d == saidR t' d') := by rw [hSA, hSB]; exact said_beq _ _
  obtain ⟨X1, hX1⟩ : ∃ X1, X1 = cmpN n n' := ⟨_, rfl⟩
  obtain ⟨S1, hS1⟩ : ∃ S1, S1 = sgn t t' := ⟨_, rfl⟩
  obtain ⟨S2, hS2⟩ : ∃ S2, S2 = sgn c c' := ⟨_, rfl⟩
  rw [← hX1, ← hS1, ← hS2] at hok
  have HX1 := Lib.hid hX1
  have HS1 := Lib.hid hS1
  have HS2 := Lib.hid hS2
  clear hN hD hN' hD' hW0 hW1 hB0 hSA hSB hX1 hS1 hS2
  unfold rrA at *
  by_cases hx : X1 = 0
  · rw [hx, orI_0] at hok
    have gx : (X1 == 0) = true := by rw [hx]; rfl
    clear hx
    by_cases hs : S1 = 0
    · rw [hs, orI_0] at hok
      have gs : (S1 == 0) = true := by rw [hs]; rfl
      clear hs
      by_cases hz : S2 = 0
      · rw [hz, orI_0] at hok
        have gz : (S2 == 0) = true := by rw [hz]; rfl
        clear hz
        cases hl1 : bytesLess (saidR t d) (saidR t' d') with
        | true =>
          rw [hl1] at hlA
          have HO := Lib.hid (show cmpR ⟨n, t, c, l, d⟩ ⟨n', t', c', l', d'⟩ = -1 by rw [hok]; unfold cmpB; rw [if_pos hl1])
          clear hok hl1 hlB
          go_enter Try.func16, Try.ntmps16
          go_wp2_with fail
          refine (RefCompare_any N N' n n' _ HN.out HN'.out).mono ?_
          rw [← HX1.out]
          rintro e w1 ⟨rfl, hB1⟩
          have hw0 := HW0.out.below hB1 HW0.out.lt
          have hw1 := HW1.out.below hB1 HW1.out.lt
          obtain ⟨_, k1, k2, _, _⟩ := rr_facts hw0
          obtain ⟨_, m1, m2, _, _⟩ := rr_facts hw1
          have HB1 := Lib.hid (HB0.out.trans (hB1.mono HB0.out.size))
          have HV0 := Lib.hid hw0
          have HV1 := Lib.hid hw1
          clear hB1 hw0 hw1 c0 e0
          go_wp2_with fail
          refine (sign_any _ _ _).mono ?_
          rw [← HS1.out]
          rintro e w' ⟨rfl, rfl⟩
          go_wp2_with fail
          refine (sign_any _ _ _).mono ?_
          rw [← HS2.out]
          rintro e w' ⟨rfl, rfl⟩
          go_wp2_with fail
          obtain ⟨d0, d1, d2, d3, d4⟩ := rr_later HV0.out
          obtain ⟨e0, e1, e2, e3, e4⟩ := rr_later HV1.out
          clear k1 k2 m1 m2
          refine region_later (by kernel_rfl) ?_
          repeat (go_big_quiet_step ((first
            | (go_at_call 12; with_reducible exact HLA.out _ _)
            | (go_at_call 12; with_reducible exact HLB.out _ _))))
          refine wpQuiet_nil ?_
          rintro _ ⟨q2, rfl⟩
          go_wp2_with fail
          go_ret
          exact ⟨by rw [HO.out]; rfl, HB1.out.trans (q2.below.mono HB1.out.size)⟩
        | false =>
          rw [hl1] at hlA
          cases hl2 : bytesLess (saidR t' d') (saidR t d) with
          | true =>
            rw [show (saidR t d == saidR t' d') = false by rw [beq_eq_false_iff_ne]; intro e; rw [e, less_irrefl] at hl2; cases hl2] at hlB
            have HO := Lib.hid (show cmpR ⟨n, t, c, l, d⟩ ⟨n', t', c', l', d'⟩ = 1 by rw [hok]; unfold cmpB; rw [if_neg (by rw [hl1]; simp), if_pos hl2])
            clear hok hl1 hl2
            go_enter Try.func16, Try.ntmps16
            go_wp2_with fail
            refine (RefCompare_any N N' n n' _ HN.out HN'.out).mono ?_
            rw [← HX1.out]
            rintro e w1 ⟨rfl, hB1⟩
            have hw0 := HW0.out.below hB1 HW0.out.lt
            have hw1 := HW1.out.below hB1 HW1.out.lt
            obtain ⟨_, k1, k2, _, _⟩ := rr_facts hw0
            obtain ⟨_, m1, m2, _, _⟩ := rr_facts hw1
            have HB1 := Lib.hid (HB0.out.trans (hB1.mono HB0.out.size))
            have HV0 := Lib.hid hw0
            have HV1 := Lib.hid hw1
            clear hB1 hw0 hw1 c0 e0
            go_wp2_with fail
            refine (sign_any _ _ _).mono ?_
            rw [← HS1.out]
            rintro e w' ⟨rfl, rfl⟩
            go_wp2_with fail
            refine (sign_any _ _ _).mono ?_
            rw [← HS2.out]
            rintro e w' ⟨rfl, rfl⟩
            go_wp2_with fail
            obtain ⟨d0, d1, d2, d3, d4⟩ := rr_later HV0.out
            obtain ⟨e0, e1, e2, e3, e4⟩ := rr_later HV1.out
            clear k1 k2 m1 m2
            refine region_later (by kernel_rfl) ?_
            repeat (go_big_quiet_step ((first
              | (go_at_call 12; with_reducible exact HLA.out _ _)
              | (go_at_call 12; with_reducible exact HLB.out _ _))))
            refine wpQuiet_nil ?_
            rintro _ ⟨q2, rfl⟩
            go_wp2_with fail
            go_ret
            exact ⟨by rw [HO.out]; rfl, HB1.out.trans (q2.below.mono HB1.out.size)⟩
          | false =>
            rw [show (saidR t d == saidR t' d') = true by rw [less_total _ _ hl1 hl2]; simp] at hlB
            have HO := Lib.hid (show cmpR ⟨n, t, c, l, d⟩ ⟨n', t', c', l', d'⟩ = 0 by rw [hok]; unfold cmpB; rw [if_neg (by rw [hl1]; simp), if_neg (by rw [hl2]; simp)])
            clear hok hl1 hl2
            go_enter Try.func16, Try.ntmps16
            go_wp2_with fail
            refine (RefCompare_any N N' n n' _ HN.out HN'.out).mono ?_
            rw [← HX1.out]
            rintro e w1 ⟨rfl, hB1⟩
            have hw0 := HW0.out.below hB1 HW0.out.lt
            have hw1 := HW1.out.below hB1 HW1.out.lt
            obtain ⟨_, k1, k2, _, _⟩ := rr_facts hw0
            obtain ⟨_, m1, m2, _, _⟩ := rr_facts hw1
            have HB1 := Lib.hid (HB0.out.trans (hB1.mono HB0.out.size))
            have HV0 := Lib.hid hw0
            have HV1 := Lib.hid hw1
            clear hB1 hw0 hw1 c0 e0
            go_wp2_with fail
            refine (sign_any _ _ _).mono ?_
            rw [← HS1.out]
            rintro e w' ⟨rfl, rfl⟩
            go_wp2_with fail
            refine (sign_any _ _ _).mono ?_
            rw [← HS2.out]
            rintro e w' ⟨rfl, rfl⟩
            go_wp2_with fail
            obtain ⟨d0, d1, d2, d3, d4⟩ := rr_later HV0.out
            obtain ⟨e0, e1, e2, e3, e4⟩ := rr_later HV1.out
            clear k1 k2 m1 m2
            refine region_later (by kernel_rfl) ?_
            repeat (go_big_quiet_step ((first
              | (go_at_call 12; with_reducible exact HLA.out _ _)
              | (go_at_call 12; with_reducible exact HLB.out _ _))))
            refine wpQuiet_nil ?_
            rintro _ ⟨q2, rfl⟩
            go_wp2_with fail
            go_ret
            exact ⟨by rw [HO.out]; rfl, HB1.out.trans (q2.below.mono HB1.out.size)⟩
      · have HO := Lib.hid (show cmpR ⟨n, t, c, l, d⟩ ⟨n', t', c', l', d'⟩ = S2 by rw [hok]; unfold orI; rw [if_neg hz])
        have gz : (S2 == 0) = false := by rw [beq_eq_false_iff_ne]; exact hz
        clear hz hok hlA hlB
        go_enter Try.func16, Try.ntmps16
        go_wp2_with fail
        refine (RefCompare_any N N' n n' _ HN.out HN'.out).mono ?_
        rw [← HX1.out]
        rintro e w1 ⟨rfl, hB1⟩
        have hw0 := HW0.out.below hB1 HW0.out.lt
        have hw1 := HW1.out.below hB1 HW1.out.lt
        obtain ⟨_, k1, k2, _, _⟩ := rr_facts hw0
        obtain ⟨_, m1, m2, _, _⟩ := rr_facts hw1
        have HB1 := Lib.hid (HB0.out.trans (hB1.mono HB0.out.size))
        have HV0 := Lib.hid hw0
        have HV1 := Lib.hid hw1
        clear hB1 hw0 hw1 c0 e0
        go_wp2_with fail
        refine (sign_any _ _ _).mono ?_
        rw [← HS1.out]
        rintro e w' ⟨rfl, rfl⟩
        go_wp2_with fail
        refine (sign_any _ _ _).mono ?_
        rw [← HS2.out]
        rintro e w' ⟨rfl, rfl⟩
        go_wp2_with fail
        go_ret
        exact ⟨by rw [HO.out]; rfl, HB1.out⟩
    · have HO := Lib.hid (show cmpR ⟨n, t, c, l, d⟩ ⟨n', t', c', l', d'⟩ = S1 by rw [hok]; unfold orI; rw [if_neg hs, if_neg hs])
      have gs : (S1 == 0) = false := by rw [beq_eq_false_iff_ne]; exact hs
      clear hs hok hlA hlB
      go_enter Try.func16, Try.ntmps16
      go_wp2_with fail
      refine (RefCompare_any N N' n n' _ HN.out HN'.out).mono ?_
      rw [← HX1.out]
      rintro e w1 ⟨rfl, hB1⟩
      have hw0 := HW0.out.below hB1 HW0.out.lt
      have hw1 := HW1.out.below hB1 HW1.out.lt
      obtain ⟨_, k1, k2, _, _⟩ := rr_facts hw0
      obtain ⟨_, m1, m2, _, _⟩ := rr_facts hw1
      have HB1 := Lib.hid (HB0.out.trans (hB1.mono HB0.out.size))
      have HV0 := Lib.hid hw0
      have HV1 := Lib.hid hw1
      clear hB1 hw0 hw1 c0 e0
      go_wp2_with fail
      refine (sign_any _ _ _).mono ?_
      rw [← HS1.out]
      rintro e w' ⟨rfl, rfl⟩
      go_wp2_with fail
      go_ret
      exact ⟨by rw [HO.out]; rfl, HB1.out⟩
  · have HO := Lib.hid (show cmpR ⟨n, t, c, l, d⟩ ⟨n', t', c', l', d'⟩ = X1 by rw [hok]; unfold orI; rw [if_neg hx, if_neg hx])
    have gx : (X1 == 0) = false := by rw [beq_eq_false_iff_ne]; exact hx
    clear hx hok hlA hlB
    go_enter Try.func16, Try.ntmps16
    go_wp2_with fail
    refine (RefCompare_any N N' n n' _ HN.out HN'.out).mono ?_
    rw [← HX1.out]
    rintro e w1 ⟨rfl, hB1⟩
    have hw0 := HW0.out.below hB1 HW0.out.lt
    have hw1 := HW1.out.below hB1 HW1.out.lt
    obtain ⟨_, k1, k2, _, _⟩ := rr_facts hw0
    obtain ⟨_, m1, m2, _, _⟩ := rr_facts hw1
    have HB1 := Lib.hid (HB0.out.trans (hB1.mono HB0.out.size))
    have HV0 := Lib.hid hw0
    have HV1 := Lib.hid hw1
    clear hB1 hw0 hw1 c0 e0
    go_wp2_with fail
    go_ret
    exact ⟨by rw [HO.out]; rfl, HB1.out⟩

def fewB (n d : Nat) : Bool := decide (n ≤ 600) && decide (d ≤ 2000)
theorem few_any (N D : ByteArray) (t c l : Int) (w : World) : Calls Try.prog 8 #[.agg (rrA N D t c l)] w fun e w' => e = .returned (.bool (fewB N.size D.size)) ∧ Below w.heap.size w w' := by
  have hW0 := Whole.new w rrT (rrA N D t c l)
  have HB0 := Lib.hid (show Below w.heap.size w (w.alloc (.cells (rrA N D t c l) rrT)) from (Below.refl _ _).alloc (Nat.le_refl _) _)
  obtain ⟨c0, _, _, _, c4⟩ := rr_facts hW0
  clear hW0
  unfold rrA at *
  by_cases h1 : N.size ≤ 600
  · by_cases h2 : D.size ≤ 2000
    · have HE := Lib.hid (show fewB N.size D.size = true by unfold fewB; simp [h1, h2])
      have g1 : (N.size : Int) ≤ 600 := by omega
      have g2 : (D.size : Int) ≤ 2000 := by omega
      go_enter Try.func8, Try.ntmps8
      go_wp2_with fail
      go_ret
      exact ⟨by rw [HE.out]; rfl, HB0.out⟩
    · have HE := Lib.hid (show fewB N.size D.size = false by unfold fewB; simp [h2])
      have g1 : (N.size : Int) ≤ 600 := by omega
      have g2 : decide (D.size ≤ 2000) = false := by simp; omega
      have g3 : decide ((D.size : Int) ≤ 2000) = false := by rw [decide_eq_false_iff_not]; omega
      clear h2
      go_enter Try.func8, Try.ntmps8
      go_wp2_with fail
      go_ret
      exact ⟨by rw [HE.out]; rfl, HB0.out⟩
  · have HE := Lib.hid (show fewB N.size D.size = false by unfold fewB; simp [h1])
    have g2 : decide (N.size ≤ 600) = false := by simp; omega
    have g3 : decide ((N.size : Int) ≤ 600) = false := by rw [decide_eq_false_iff_not]; omega
    clear h1
    go_enter Try.func8, Try.ntmps8
    go_wp2_with fail
    go_ret
    exact ⟨by rw [HE.out]; rfl, HB0.out⟩

theorem name_A : nameL [1, 65, 0] = some [[65]] := nameL_enc (L := [[65]]) (by intro x hx; simp at hx; subst hx; simp) (by decide)
theorem name_a : nameL [1, 97, 0] = some [[97]] := nameL_enc (L := [[97]]) (by intro x hx; simp at hx; subst hx; simp) (by decide)
theorem right_abcd : rightR 1 [97, 98, 99, 100] = true := by
  have h := (right_of (t := 1) (V := [(4, [97, 98, 99, 100])]) ⟨by simp [Part], by simp [Okp], by simp, trivial⟩ rfl (by simp [cat])).1
  simpa [cat] using h
theorem awake_ok : okR ⟨[1, 65, 0], 1, 1, 5, [97, 98, 99, 100]⟩ = true := by
  unfold okR
  rw [name_A, show tyd 1 1 ([97, 98, 99, 100] : List UInt8).length = 1 from rfl, right_abcd]
  rfl
theorem awake_one : oneR ⟨[1, 65, 0], 1, 1, 5, [97, 98, 99, 100]⟩ ⟨[1, 97, 0], 1, 1, 0, [97, 98, 99, 100]⟩ = true := by
  unfold oneR alikeN
  rw [name_A, name_a]
  decide
set_option maxHeartbeats 1000000 in
set_option maxRecDepth 20000 in
theorem awake_any (w : World) : Calls Try.prog 7 #[] w fun e w' => e = .returned (.bool true) ∧ Below w.heap.size w w' := by
  have hW0 := Whole.new w rrT (rrA ⟨#[1, 65, 0]⟩ ⟨#[97, 98, 99, 100]⟩ 1 1 5)
  have HB0 := Lib.hid (show Below w.heap.size w (w.alloc (.cells (rrA ⟨#[1, 65, 0]⟩ ⟨#[97, 98, 99, 100]⟩ 1 1 5) rrT)) from (Below.refl _ _).alloc (Nat.le_refl _) _)
  have HW0 := Lib.hid hW0
  clear hW0
  unfold rrA at *
  go_enter Try.func7, Try.ntmps7
  go_wp2_with fail
  refine (RRight_any ⟨#[1, 65, 0]⟩ ⟨#[97, 98, 99, 100]⟩ ⟨[1, 65, 0], 1, 1, 5, [97, 98, 99, 100]⟩ _ rfl rfl (by simp) (by simp)).mono ?_
  rw [awake_ok]
  rintro e w1 ⟨rfl, hB1⟩
  obtain ⟨k0, k1, k2, k3, k4⟩ := rr_facts (HW0.out.below hB1 HW0.out.lt)
  have HB1 := Lib.hid (HB0.out.trans (hB1.mono HB0.out.size))
  clear hB1
  go_wp2_with fail
  refine (One_any ⟨#[1, 65, 0]⟩ ⟨#[97, 98, 99, 100]⟩ ⟨#[1, 97, 0]⟩ ⟨#[97, 98, 99, 100]⟩ ⟨[1, 65, 0], 1, 1, 5, [97, 98, 99, 100]⟩ ⟨[1, 97, 0], 1, 1, 0, [97, 98, 99, 100]⟩ _ rfl rfl rfl rfl (by simp) (by simp) (by simp) (by simp)).mono ?_
  rw [awake_one]
  rintro e w2 ⟨rfl, hB2⟩
  go_wp2_with fail
  go_ret
  exact ⟨rfl, HB1.out.trans (hB2.mono HB1.out.size)⟩
end Go.Proofs.Ytdanncclnhkmgaa
