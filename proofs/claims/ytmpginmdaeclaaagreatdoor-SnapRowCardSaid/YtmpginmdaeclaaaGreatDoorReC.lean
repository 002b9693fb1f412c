/- Parts of the proofs of the statements of image. No statement of the seat is proved here. -/
import Derived.Test.YtmpginmdaeclaaaGreatDoorReA
set_option maxHeartbeats 32000000
set_option maxRecDepth 20000
namespace Go.Proofs.YtmpginmdaeclaaaGreatDoor
open Go.RowKit
theorem two_new (w : World) (a b : Array Value) (ta tb : TypeId) :
    Whole ((w.alloc (.cells a ta)).alloc (.cells b tb)) w.heap.size ta a /\ Whole ((w.alloc (.cells a ta)).alloc (.cells b tb)) (w.heap.size + 1) tb b /\ Below w.heap.size w ((w.alloc (.cells a ta)).alloc (.cells b tb)) := by
  have h0 := Whole.new w ta a
  have h1 := Whole.new (w.alloc (.cells a ta)) tb b
  simp only [World.size_alloc] at h1
  exact ⟨h0.alloc _, h1, ((Below.refl _ _).alloc (Nat.le_refl _) _).alloc (by simp) _⟩
theorem said_beq (x y : List UInt8) : ((mk x).toList == (mk y).toList) = (x == y) := mk_beq x y
theorem One_any (N D N' D' : ByteArray) (a b : Rec) (w : World) (hN : N = mk a.n) (hD : D = mk a.d) (hN' : N' = mk b.n) (hD' : D' = mk b.d) (hn : a.n.length <= 1073741824) (hn' : b.n.length <= 1073741824) (hd : a.d.length <= 65535) (hd' : b.d.length <= 65535) :
    Calls Tryz.prog 129 #[.agg (rrA N D a.t a.c a.l), .agg (rrA N' D' b.t b.c b.l)] w fun e w' => e = .returned (.bool (oneR a b)) /\ Below w.heap.size w w' := by
  obtain ⟨n, t, c, l, d⟩ := a
  obtain ⟨n', t', c', l', d'⟩ := b
  simp only at hN hD hn hd hN' hD' hn' hd' ⊢
  have hok : oneR ⟨n, t, c, l, d⟩ ⟨n', t', c', l', d'⟩ = (t == t' && (c == c' && (alikeN n n' && saidR t d == saidR t' d'))) := rfl
  have HN := Ha hN
  have HD := Ha hD
  have HN' := Ha hN'
  have HD' := Ha hD'
  obtain ⟨W, hW⟩ : ∃ W, W = (w.alloc (.cells #[.string N, .int .i64 t, .int .i64 c, .int .i64 l, .string D] 46)).alloc (.cells #[.string N', .int .i64 t', .int .i64 c', .int .i64 l', .string D'] 46) := ⟨_, rfl⟩
  obtain ⟨h, hh⟩ : ∃ h, h = w.heap.size + 1 := ⟨_, rfl⟩
  obtain ⟨g, hg⟩ : ∃ g, g = w.heap.size := ⟨_, rfl⟩
  obtain ⟨hW0, hW1, hB0⟩ := two_new w (rrA N D t c l) (rrA N' D' t' c' l') rrT rrT
  unfold rrA at hW0 hW1 hB0
  rw [<-hW, <-hh] at hW1
  rw [<-hW, <-hg] at hW0
  rw [<-hW] at hB0
  have HB0 := Ha hB0
  have HWW := Ha hW
  have HG := Ha hg
  have HH := Ha hh
  obtain ⟨d0, d1, d2, d3, d4⟩ := rr_later hW0
  obtain ⟨e0, e1, e2, e3, e4⟩ := rr_later hW1
  obtain ⟨SA, hSA⟩ : ∃ SA, SA = mk (saidR t d) := ⟨_, rfl⟩
  obtain ⟨SB, hSB⟩ : ∃ SB, SB = mk (saidR t' d') := ⟨_, rfl⟩
  have hse : (SA.toList == SB.toList) = (saidR t d == saidR t' d') := by rw [hSA, hSB]; exact said_beq _ _
  have HLA := Ha (show ∀ q : Later W, Calls Tryz.prog 178 #[.agg #[.string N, .int .i64 t, .int .i64 c, .int .i64 l, .string D]] q.val fun e w'' => e = .returned (.string SA) /\ ∃ q' : Later W, w'' = q'.val from
    fun q => later_call (by rw [hSA]; exact Said_any N D t c l d _ hD hd))
  have HLB := Ha (show ∀ q : Later W, Calls Tryz.prog 178 #[.agg #[.string N', .int .i64 t', .int .i64 c', .int .i64 l', .string D']] q.val fun e w'' => e = .returned (.string SB) /\ ∃ q' : Later W, w'' = q'.val from
    fun q => later_call (by rw [hSB]; exact Said_any N' D' t' c' l' d' _ hD' hd'))
  clear hN hD hN' hD' hW0 hW1 hB0 hW hg hh hSA hSB
  unfold rrA
  cases h1 : (t == t') with
  | false =>
    have HO := Ha (show oneR ⟨n, t, c, l, d⟩ ⟨n', t', c', l', d'⟩ = false by rw [hok, h1]; rfl)
    clear hok; go_enter Tryz.func129, Tryz.ntmps129
    go_wp2_with fail
    rw [<-HWW.out, <-HH.out, <-HG.out]
    refine region_later (by kernel_rfl) ?_
    repeat (go_big_quiet_step (fail))
    refine wpQuiet_nil ?_
    rintro _ ⟨q2, rfl⟩; go_wp2_with fail
    go_ret
    exact ⟨by rw [HO.out]; rfl, HB0.out.trans (q2.below.mono HB0.out.size)⟩
  | true =>
    cases h2 : (c == c') with
    | false =>
      have HO := Ha (show oneR ⟨n, t, c, l, d⟩ ⟨n', t', c', l', d'⟩ = false by rw [hok, h1, h2]; rfl)
      clear hok; go_enter Tryz.func129, Tryz.ntmps129
      go_wp2_with fail
      rw [<-HWW.out, <-HH.out, <-HG.out]
      refine region_later (by kernel_rfl) ?_
      repeat (go_big_quiet_step (fail))
      refine wpQuiet_nil ?_
      rintro _ ⟨q2, rfl⟩; go_wp2_with fail
      go_ret
      exact ⟨by rw [HO.out]; rfl, HB0.out.trans (q2.below.mono HB0.out.size)⟩
    | true =>
      cases h3 : alikeN n n' with
      | false =>
        have HO := Ha (show oneR ⟨n, t, c, l, d⟩ ⟨n', t', c', l', d'⟩ = false by rw [hok, h1, h2, h3]; rfl)
        have H3 := Ha h3
        clear hok h3; go_enter Tryz.func129, Tryz.ntmps129
        go_wp2_with fail
        rw [<-HWW.out, <-HH.out, <-HG.out]
        refine region_later (by kernel_rfl) ?_
        repeat (go_big_quiet_step ((go_at_call 179; refine later_call (v := .bool false) ?_; rw [<-H3.out]; exact Alike_any N N' n n' _ HN.out HN'.out hn hn')))
        refine wpQuiet_nil ?_
        rintro _ ⟨q2, rfl⟩; go_wp2_with fail
        go_ret
        exact ⟨by rw [HO.out]; rfl, HB0.out.trans (q2.below.mono HB0.out.size)⟩
      | true =>
        have HO := Ha (show oneR ⟨n, t, c, l, d⟩ ⟨n', t', c', l', d'⟩ = (saidR t d == saidR t' d') by rw [hok, h1, h2, h3]; rfl)
        have H3 := Ha h3
        clear hok h3; go_enter Tryz.func129, Tryz.ntmps129
        go_wp2_with fail
        rw [<-HWW.out, <-HH.out, <-HG.out]
        refine region_later (by kernel_rfl) ?_
        repeat (go_big_quiet_step ((first
          | (go_at_call 179; refine later_call (v := .bool true) ?_; rw [<-H3.out]; exact Alike_any N N' n n' _ HN.out HN'.out hn hn')
          | (go_at_call 178; with_reducible exact HLA.out _)
          | (go_at_call 178; with_reducible exact HLB.out _))))
        refine wpQuiet_nil ?_
        rintro _ ⟨q2, rfl⟩; go_wp2_with fail
        go_ret
        exact ⟨by rw [HO.out]; rfl, HB0.out.trans (q2.below.mono HB0.out.size)⟩
end Go.Proofs.YtmpginmdaeclaaaGreatDoor
namespace Go.Proofs.YtmpginmdaeclaaaGreatDoor
open Go.RowKit
theorem sees3 (w : World) (ty : TypeId) (x y z : Int) : Sees (w.alloc (.cells #[.int .i64 x, .int .i64 y, .int .i64 z] ty)) (w.heap.size + 1) (some ⟨w.heap.size, 0, none⟩) 3 (ints .i64 [x, y, z]) := sees_whole (Whole.new w ty #[.int .i64 x, .int .i64 y, .int .i64 z])
theorem RCompare_any (N D N' D' : ByteArray) (a b : Rec) (w : World) (hN : N = mk a.n) (hD : D = mk a.d) (hN' : N' = mk b.n) (hD' : D' = mk b.d) (hn : a.n.length <= 1073741824) (hn' : b.n.length <= 1073741824) (hd : a.d.length <= 65535) (hd' : b.d.length <= 65535) :
    Calls Tryz.prog 126 #[.agg (rrA N D a.t a.c a.l), .agg (rrA N' D' b.t b.c b.l)] w fun e w' => e = .returned (.int .i64 (cmpR a b)) /\ Below w.heap.size w w' := by
  obtain ⟨n, t, c, l, d⟩ := a
  obtain ⟨n', t', c', l', d'⟩ := b
  simp only at hN hD hn hd hN' hD' hn' hd' ⊢
  have hok : cmpR ⟨n, t, c, l, d⟩ ⟨n', t', c', l', d'⟩ = orI (orI (cmpN n n') (orI (sgn t t') (sgn c c'))) (cmpB (saidR t d) (saidR t' d')) := rfl
  have HN := Ha hN
  have HN' := Ha hN'
  obtain ⟨W, hW⟩ : ∃ W, W = (w.alloc (.cells #[.string N, .int .i64 t, .int .i64 c, .int .i64 l, .string D] 46)).alloc (.cells #[.string N', .int .i64 t', .int .i64 c', .int .i64 l', .string D'] 46) := ⟨_, rfl⟩
  obtain ⟨h, hh⟩ : ∃ h, h = w.heap.size + 1 := ⟨_, rfl⟩
  obtain ⟨g, hg⟩ : ∃ g, g = w.heap.size := ⟨_, rfl⟩
  obtain ⟨hW0, hW1, hB0⟩ := two_new w (rrA N D t c l) (rrA N' D' t' c' l') rrT rrT
  unfold rrA at hW0 hW1 hB0
  rw [<-hW, <-hh] at hW1
  rw [<-hW, <-hg] at hW0
  rw [<-hW] at hB0
  have HB0 := Ha hB0
  have HWW := Ha hW
  have HG := Ha hg
  have HH := Ha hh
  have HW0 := Ha hW0
  have HW1 := Ha hW1
  obtain ⟨c0, c1, c2, _, _⟩ := rr_facts hW0
  obtain ⟨e0, e1, e2, _, _⟩ := rr_facts hW1
  obtain ⟨SA, hSA⟩ : ∃ SA, SA = mk (saidR t d) := ⟨_, rfl⟩
  obtain ⟨SB, hSB⟩ : ∃ SB, SB = mk (saidR t' d') := ⟨_, rfl⟩
  have HLA := Ha (show ∀ (V : World) (q : Later V), Calls Tryz.prog 178 #[.agg #[.string N, .int .i64 t, .int .i64 c, .int .i64 l, .string D]] q.val fun e w'' => e = .returned (.string SA) /\ ∃ q' : Later V, w'' = q'.val from
    fun V q => later_call (by rw [hSA]; exact Said_any N D t c l d _ hD hd))
  have HLB := Ha (show ∀ (V : World) (q : Later V), Calls Tryz.prog 178 #[.agg #[.string N', .int .i64 t', .int .i64 c', .int .i64 l', .string D']] q.val fun e w'' => e = .returned (.string SB) /\ ∃ q' : Later V, w'' = q'.val from
    fun V q => later_call (by rw [hSB]; exact Said_any N' D' t' c' l' d' _ hD' hd'))
  have HLC := Ha (show ∀ (V : World) (q : Later V), Calls Tryz.prog 177 #[.string SA, .string SB] q.val fun e w'' => e = .returned (.int .i64 (cmpB (saidR t d) (saidR t' d'))) /\ ∃ q' : Later V, w'' = q'.val from
    fun V q => later_same (strCmp_any SA SB _ _ _ hSA hSB))
  obtain ⟨X1, hX1⟩ : ∃ X1, X1 = cmpN n n' := ⟨_, rfl⟩
  obtain ⟨X, hX⟩ : ∃ X, X = orI X1 (orI (sgn t t') (sgn c c')) := ⟨_, rfl⟩
  rw [<-hX1, <-hX] at hok
  have HX := Ha hX
  have HX1 := Ha hX1
  clear hN hD hN' hD' hW0 hW1 hB0 hW hg hh hSA hSB hX hX1
  unfold rrA
  by_cases hx : X = 0
  · have HO := Ha (show cmpR ⟨n, t, c, l, d⟩ ⟨n', t', c', l', d'⟩ = cmpB (saidR t d) (saidR t' d') by rw [hok, hx, orI_0])
    have gx : (X == 0) = true := by rw [hx]; rfl
    clear hok hx; go_enter Tryz.func126, Tryz.ntmps126
    go_wp2_with fail
    rw [<-HWW.out, <-HH.out, <-HG.out]
    go_region_held3 (fun w' => w'.cell? ⟨g, 0, none⟩ = some (.string N) /\ w'.cell? ⟨g, 1, none⟩ = some (.int .i64 t) /\ w'.cell? ⟨g, 2, none⟩ = some (.int .i64 c) /\ w'.cell? ⟨h, 0, none⟩ = some (.string N') /\ w'.cell? ⟨h, 1, none⟩ = some (.int .i64 t') /\ w'.cell? ⟨h, 2, none⟩ = some (.int .i64 c')) (go_keep) (first
      | (go_at_call 175; (refine (Compare_any N N' n n' _ HN.out HN'.out hn hn').mono ?_; rw [<-HX1.out]; rintro e w1 ⟨rfl, hB1⟩; have hB1 := (Below.refl _ _).drew.trans hB1; have hw0 := HW0.out.below hB1 HW0.out.lt; have hw1 := HW1.out.below hB1 HW1.out.lt; obtain ⟨k0, k1, k2, _, _⟩ := rr_facts hw0; obtain ⟨m0, m1, m2, _, _⟩ := rr_facts hw1))
      | (go_at_call 176; (refine (cmpInt_any _ _ _).mono ?_; rintro e w2 ⟨rfl, rfl⟩))
      | (go_at_call 174; (refine (Or3_any _ _ _ X1 (sgn t t') (sgn c c') _ (sees3 _ _ _ _ _)).mono ?_; rw [<-HX.out]; rintro e w3 ⟨rfl, rfl⟩)))
    all_goals (
      have HW2 := Ha (hw0.alloc (.cells #[.int .i64 X1, .int .i64 (sgn t t'), .int .i64 (sgn c c')] 3))
      have HW3 := Ha (hw1.alloc (.cells #[.int .i64 X1, .int .i64 (sgn t t'), .int .i64 (sgn c c')] 3))
      have HB2 := Ha (show Below W.heap.size W (w1.alloc (.cells #[.int .i64 X1, .int .i64 (sgn t t'), .int .i64 (sgn c c')] 3)) from hB1.alloc hB1.size _)
      clear hw0 hw1 hB1 k0 k1 k2 m0 m1 m2 c0 c1 c2 e0 e1 e2; go_wp2_with fail
      revert HW2 HW3 HB2
      generalize w1.alloc (.cells #[.int .i64 X1, .int .i64 (sgn t t'), .int .i64 (sgn c c')] 3) = V
      intro HW2 HW3 HB2
      obtain ⟨d0, d1, d2, d3, d4⟩ := rr_later HW2.out
      obtain ⟨e0, e1, e2, e3, e4⟩ := rr_later HW3.out
      refine region_later (by kernel_rfl) ?_
      repeat (go_big_quiet_step ((first
        | (go_at_call 178; with_reducible exact HLA.out _ _)
        | (go_at_call 178; with_reducible exact HLB.out _ _)
        | (go_at_call 177; with_reducible exact HLC.out _ _))))
      refine wpQuiet_nil ?_
      rintro _ ⟨q2, rfl⟩; go_wp2_with fail
      go_ret
      exact ⟨by rw [HO.out]; rfl, HB0.out.trans ((HB2.out.trans (q2.below.mono HB2.out.size)).mono HB0.out.size)⟩)
  · have HO := Ha (show cmpR ⟨n, t, c, l, d⟩ ⟨n', t', c', l', d'⟩ = X by rw [hok]; unfold orI; rw [if_neg hx])
    have gx : (X == 0) = false := by rw [beq_eq_false_iff_ne]; exact hx
    clear hok hx; go_enter Tryz.func126, Tryz.ntmps126
    go_wp2_with fail
    rw [<-HWW.out, <-HH.out, <-HG.out]
    go_region_held3 (fun w' => w'.cell? ⟨g, 0, none⟩ = some (.string N) /\ w'.cell? ⟨g, 1, none⟩ = some (.int .i64 t) /\ w'.cell? ⟨g, 2, none⟩ = some (.int .i64 c) /\ w'.cell? ⟨h, 0, none⟩ = some (.string N') /\ w'.cell? ⟨h, 1, none⟩ = some (.int .i64 t') /\ w'.cell? ⟨h, 2, none⟩ = some (.int .i64 c')) (go_keep) (first
      | (go_at_call 175; (refine (Compare_any N N' n n' _ HN.out HN'.out hn hn').mono ?_; rw [<-HX1.out]; rintro e w1 ⟨rfl, hB1⟩; have hB1 := (Below.refl _ _).drew.trans hB1; have hw0 := HW0.out.below hB1 HW0.out.lt; have hw1 := HW1.out.below hB1 HW1.out.lt; obtain ⟨k0, k1, k2, _, _⟩ := rr_facts hw0; obtain ⟨m0, m1, m2, _, _⟩ := rr_facts hw1))
      | (go_at_call 176; (refine (cmpInt_any _ _ _).mono ?_; rintro e w2 ⟨rfl, rfl⟩))
      | (go_at_call 174; (refine (Or3_any _ _ _ X1 (sgn t t') (sgn c c') _ (sees3 _ _ _ _ _)).mono ?_; rw [<-HX.out]; rintro e w3 ⟨rfl, rfl⟩)))
    all_goals (
      go_wp2_with fail
      go_ret
      exact ⟨by rw [HO.out]; rfl, HB0.out.trans ((hB1.alloc hB1.size _).mono HB0.out.size)⟩)
end Go.Proofs.YtmpginmdaeclaaaGreatDoor
