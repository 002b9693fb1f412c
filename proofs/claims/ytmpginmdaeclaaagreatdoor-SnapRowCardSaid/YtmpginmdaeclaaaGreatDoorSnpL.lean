/- Parts of the proofs of the statements of image. No statement of the seat is proved here. -/
import Derived.Test.YtmpginmdaeclaaaGreatDoorSnpJ
import Derived.Test.YtmpginmdaeclaaaGreatDoorLgA
import Derived.Deep.RegionHeld3
set_option maxHeartbeats 32000000
set_option maxRecDepth 20000
namespace Go.Proofs.YtmpginmdaeclaaaGreatDoor
open Go.RowKit Go.Maps Go.Sort
set_option maxRecDepth 20000
theorem sees_text {W : World} {B : Nat} {A : Option Addr} {n : Nat} {zs : List ByteArray} (h : Sees W B A n (texts zs)) {j : Nat} (hj : j < n) :
    ∃ b off, A = some ⟨b, off, none⟩ /\ b < B /\ ∃ z, W.cell? ⟨b, off + j, none⟩ = some (.string z) := by
  obtain ⟨b, off, e, hb, hc⟩ := h.addr (by omega)
  have hl : j < zs.length := by have := h.len; simp [texts] at this; omega
  exact ⟨b, off, e, hb, zs[j], hc j _ (by simp [texts, hl])⟩
theorem file99 : fileL 99 ≠ junkN := by
  intro h
  have := congrArg (fun l => l.headD 0) h
  simp [fileL, junkN] at this
structure RowAt (B d : Nat) (w : World) (S : St) (o : Option Bys) (k : Nat) : Prop where
  live : Live B w d (20 * k) (500000 * k) S
  row : RowS S o k
  none : (k = 0 ↔ o = none)
  len : (o.getD []).length <= 70000
theorem SnapRow_walk (A A' AC : Option Addr) (n c n' c' m cc : Nat) (xs ys : List Rrd) (zs : List ByteArray) (w : World) (hx : SeesR w w.heap.size A n xs) (hy : SeesR w w.heap.size A' n' ys) (h63 : n <= 9223372036854775807) (h63' : n' <= 9223372036854775807) (hc : Sees w w.heap.size AC m (texts zs)) :
    Calls Tryz.prog 4 #[.slice A n c, .slice A' n' c', .slice AC m cc] w fun e w' => e = .returned (.bool true) /\ Below w.heap.size w w' := by
  have HX := Ha hx
  have HY := Ha hy
  have HLX := Ha hx.1
  have HLY := Ha hy.1
  have HCS := Ha hc
  clear hx hy hc
  cases hfx : fewL xs with
  | false =>
    have HF := Ha hfx
    clear hfx; go_enter Tryz.func4, Tryz.ntmps4
    go_wp2_with fail
    refine (sawake_any _).mono ?_
    rintro e w2 ⟨rfl, hB⟩; have HB2 := Ha hB
    clear hB; go_wp2_with fail
    refine (Few_any A n c xs _ ((HX.out.keep HB2.out).more HB2.out.size) h63).mono ?_
    rw [HF.out]
    rintro e w3 ⟨rfl, hB⟩; have HB3 := thB HB2 hB
    clear hB; go_wp2_with fail
    have HB4 := Ha HB3.out
    refine (sawake_any _).mono ?_
    rintro e w5 ⟨rfl, hB⟩; have HB5 := thB HB4 hB
    clear hB; go_wp2_with fail
    go_ret
    exact ⟨rfl, HB5.out⟩
  | true =>
    cases hfy : fewL ys with
    | false =>
      have HF := Ha hfx
      have HF' := Ha hfy
      clear hfx hfy; go_enter Tryz.func4, Tryz.ntmps4
      go_wp2_with fail
      refine (sawake_any _).mono ?_
      rintro e w2 ⟨rfl, hB⟩; have HB2 := Ha hB
      clear hB; go_wp2_with fail
      refine (Few_any A n c xs _ ((HX.out.keep HB2.out).more HB2.out.size) h63).mono ?_
      rw [HF.out]
      rintro e w3 ⟨rfl, hB⟩; have HB3 := thB HB2 hB
      clear hB; go_wp2_with fail
      refine (Few_any A' n' c' ys _ ((HY.out.keep HB3.out).more HB3.out.size) h63').mono ?_
      rw [HF'.out]
      rintro e w4 ⟨rfl, hB⟩; have HB4 := thB HB3 hB
      clear hB; go_wp2_with fail
      refine (sawake_any _).mono ?_
      rintro e w5 ⟨rfl, hB⟩; have HB5 := thB HB4 hB
      clear hB; go_wp2_with fail
      go_ret
      exact ⟨rfl, HB5.out⟩
    | true =>
      by_cases hm : 12 < m
      · have HF := Ha hfx
        have HF' := Ha hfy
        have hmI : (12 : Int) < (m : Int) := by omega
        clear hfx hfy hm; go_enter Tryz.func4, Tryz.ntmps4
        go_wp2_with fail
        refine (sawake_any _).mono ?_
        rintro e w2 ⟨rfl, hB⟩; have HB2 := Ha hB
        clear hB; go_wp2_with fail
        refine (Few_any A n c xs _ ((HX.out.keep HB2.out).more HB2.out.size) h63).mono ?_
        rw [HF.out]
        rintro e w3 ⟨rfl, hB⟩; have HB3 := thB HB2 hB
        clear hB; go_wp2_with fail
        refine (Few_any A' n' c' ys _ ((HY.out.keep HB3.out).more HB3.out.size) h63').mono ?_
        rw [HF'.out]
        rintro e w4 ⟨rfl, hB⟩; have HB4 := thB HB3 hB
        clear hB; go_wp2_with fail
        refine (sawake_any _).mono ?_
        rintro e w5 ⟨rfl, hB⟩; have HB5 := thB HB4 hB
        clear hB; go_wp2_with fail
        go_ret
        exact ⟨rfl, HB5.out⟩
      · obtain ⟨h30, hlow⟩ := fewL_is hfx
        obtain ⟨h30', hlow'⟩ := fewL_is hfy
        have hn30 : n <= 30 := by have := HLX.out; omega
        have hn30' : n' <= 30 := by have := HLY.out; omega
        have hm12 : m <= 12 := by omega
        have HLOW := Ha hlow
        have HLOW' := Ha hlow'
        have HF := Ha hfx
        have HF' := Ha hfy
        clear hfx hfy hlow hlow' h30 h30'; go_enter Tryz.func4, Tryz.ntmps4
        go_wp2_with fail
        refine (sawake_any _).mono ?_
        rintro e w2 ⟨rfl, hB⟩; have HB2 := Ha hB
        clear hB; go_wp2_with fail
        refine (Few_any A n c xs _ ((HX.out.keep HB2.out).more HB2.out.size) h63).mono ?_
        rw [HF.out]
        rintro e w3 ⟨rfl, hB⟩; have HB3 := thB HB2 hB
        clear hB; go_wp2_with fail
        refine (Few_any A' n' c' ys _ ((HY.out.keep HB3.out).more HB3.out.size) h63').mono ?_
        rw [HF'.out]
        rintro e w4 ⟨rfl, hB⟩; have HB4 := thB HB3 hB
        clear hB; go_wp2_with fail
        refine (zones_any A A' n c n' c' xs ys _ ((HX.out.keep HB4.out).more HB4.out.size) ((HY.out.keep HB4.out).more HB4.out.size) (by omega) (by omega) HLOW.out HLOW'.out).mono ?_
        rintro e w5 ⟨⟨p, q, rfl, z1, z2, s1, s2, B1, B2, n1, c1, n2, c2, hT⟩, hB⟩; have HT := Ha hT
        have HB5 := thB HB4 hB
        clear hB hT
        cases hok : (codeZ nx xs == 0 && codeZ nx ys == 0) with
        | false =>
          go_wp2_with fail
          go_ret
          exact ⟨rfl, HB5.out⟩
        | true =>
          rw [Bool.and_eq_true, beq_iff_eq, beq_iff_eq] at hok
          obtain ⟨hc1, hc2⟩ := hok
          have HZ1 := Ha (zn_of HF.out hc1)
          have HZ2 := Ha (zn_of HF'.out hc2)
          have HA1 := Ha (HT.out.at1 hc1)
          have HA2 := Ha (HT.out.at2 hc2)
          clear hc1 hc2; obtain ⟨D1, hD1⟩ : ∃ D1, D1 = ofC xs := ⟨_, rfl⟩
          obtain ⟨D2, hD2⟩ : ∃ D2, D2 = ofC ys := ⟨_, rfl⟩
          rw [<-hD1] at HZ1 HA1
          rw [<-hD2] at HZ2 HA2
          have HV := Ha HT.out.row
          have HPL := Ha HT.out.row.lt
          have HBALL := Ha HB5.out
          clear hD1 hD2 HT; go_wp2_with fail
          refine (live_New 1048576 w5 (by decide)).mono ?_
          rintro e w6 ⟨d, rfl, hL6, hB⟩; have HR6 := Ha (show RowAt w5.heap.size d w6 (St.new 1048576) none 0 from ⟨hL6, row_new, by simp, by simp⟩)
          have HB6 := Ha hB
          clear hL6 hB; have hmI : (m : Int) <= 12 := by omega
          go_wp2_with fail
          go_loopw [12] (fun i wr => ∃ (j : Nat) (S : St) (o : Option Bys), j <= m /\ i = .int .i64 j /\ RowAt w5.heap.size d wr S o j /\ Below w5.heap.size w5 wr) (fun i _ => m - (intOf i).toNat)
          case atStart => exact ⟨0, _, none, Nat.zero_le _, rfl, HR6.out, HB6.out⟩
          case round =>
            obtain ⟨j, S, o, hj, rfl, hR, hB⟩ := hrel
            have HRW := Ha hR
            have HBB := Ha hB
            clear hR hB
            by_cases hlt : j < m
            · have hlk : (j : Int) < (m : Int) := by omega
              obtain ⟨cb, coff, rfl, hcb, ch, hch⟩ := sees_text HCS.out hlt
              have HCB := Ha hcb
              have HCH := Ha hch
              have hju : IntKind.u64.wrap (j : Int) = (j : Int) := by simp [IntKind.wrap, IntKind.bits, IntKind.signed]; omega
              clear hcb hch
              rcases (show j % 2 = 0 \/ j % 2 = 1 by omega) with hpar | hpar
              · have hm0 : (j : Int).tmod 2 = 0 := by rw [Int.tmod_eq_emod_of_nonneg (by omega)]; omega
                have hm1 : (j : Int) % 2 = 0 := by omega
                obtain ⟨D, hD⟩ : ∃ D, D = D1 := ⟨_, rfl⟩
                have hzn := HZ1.out
                rw [<-hD] at hzn
                have hat := HA1.out.keep HBB.out
                rw [<-hD] at hat
                obtain ⟨F, hF⟩ : ∃ F, F = frameL (imgB j nx D) := ⟨_, rfl⟩
                have hFl : F.length <= 68408 := by rw [hF, frameL_len]; have := hzn.size j; omega
                obtain ⟨S1, hs1, hrow1⟩ := row_step HRW.out.row F ch.data.toList (by have := HRW.out.len; omega) (by omega) (by omega)
                have HD := Ha hD
                have HZN := Ha hzn
                have HAT := Ha hat
                have HFE := Ha hF
                have HS1 := Ha hs1
                have HR1 := Ha hrow1
                have hvr := HV.out.below HBB.out HPL.out
                have HVR := Ha hvr
                have v0 : wr.cell? ⟨p, 0, none⟩ = some (.string z1.s) := hvr.cell 0
                have v1 : wr.cell? ⟨p, 1, none⟩ = some (.slice z1.A z1.n z1.c) := hvr.cell 1
                have v2 : wr.cell? ⟨p, 2, none⟩ = some (.string z1.t) := hvr.cell 2
                have v3 : wr.cell? ⟨p, 3, none⟩ = some (.int .i64 z1.x) := hvr.cell 3
                have v4 : wr.cell? ⟨p, 4, none⟩ = some (.int .i64 z1.y) := hvr.cell 4
                have v5 : wr.cell? ⟨p, 5, none⟩ = some (.int .i64 z1.z) := hvr.cell 5
                have v6 : wr.cell? ⟨p, 6, none⟩ = some (.string z1.d) := hvr.cell 6
                clear hD hzn hat hF hs1 hrow1 hvr hpar; go_wp2_with fail
                refine (Save_zn HRW.out.live (by omega) (by omega) (g := j) (nn := nx) (D := D) HAT.out (by omega) HZN.out).mono ?_
                rw [<-HFE.out, HS1.out]
                rintro e u1 ⟨rfl, hL1, hK1⟩; have hL1 : Live w5.heap.size u1 d (20 * j + 12) (500000 * j + 400000) S1 := hL1
                have HL1 := Ha hL1
                have HB1 := Ha (HBB.out.trans (hK1.below HRW.out.live.base))
                clear hL1 hK1 v0 v1 v2 v3 v4 v5 v6; go_wp2_with fail
                have hap := live_Append HL1.out (by omega) (by omega) ⟨#[106, 117, 110, 107]⟩ ⟨#[120]⟩ (by decide) (by decide)
                rw [show (⟨#[106, 117, 110, 107]⟩ : ByteArray).data.toList = junkN from rfl, show (⟨#[120]⟩ : ByteArray).data.toList = [120] from rfl] at hap
                refine Calls.mono hap ?_
                rintro e u2 ⟨rfl, hL2, hK2⟩; have hL2 : Live w5.heap.size u2 d (20 * j + 14) (500000 * j + 400001) (appendS S1 junkN [120]).1 := hL2
                have HL2 := Ha hL2
                have HB2' := Ha (HB1.out.trans (hK2.below HL1.out.base))
                have hch2 : u2.cell? ⟨cb, coff + j, none⟩ = some (.string ch) := ((HBALL.out.trans (HB2'.out.mono HBALL.out.size)).cell (p := ⟨cb, coff + j, none⟩) HCB.out).trans HCH.out
                generalize (appendS S1 junkN [120]).2 = e2
                clear hL2 hK2 hap; go_wp2_with fail
                refine (live_Restart HL2.out (by omega) (by omega) ch).mono ?_
                rintro e u3 ⟨rfl, hL3, hK3⟩; have HL3 := Ha hL3
                have HB3' := Ha (HB2'.out.trans (hK3.below HL2.out.base))
                clear hL3 hK3 hch2; go_wp2_with fail
                refine (Load_img HL3.out HZN.out (g := j) (by omega) (by rw [<-HFE.out]; exact row_read HR1.out)).mono ?_
                rintro e u4 ⟨⟨v, rfl, hy4⟩, hB⟩; have hb3 : Below w5.heap.size u3 u4 := hB.mono HL3.out.base
                have HB4' := Ha (HB3'.out.trans hb3)
                have hy4' := hy4
                obtain ⟨A8, c8, s8, rfl, _, _, _⟩ := hy4
                have HL4 := Ha (HL3.out.same hB)
                obtain ⟨W, hW⟩ : ∃ W, W = u4.alloc (.cells #[.string (mk nx), .slice A8 D.length c8, .string s8.s, .int .i64 s8.t, .int .i64 s8.c, .int .i64 s8.l, .string s8.d] zoT) := ⟨_, rfl⟩
                obtain ⟨gy, hgy⟩ : ∃ gy, gy = u4.heap.size := ⟨_, rfl⟩
                have hbw : Below u4.heap.size u4 W := by rw [hW]; exact (Below.refl _ _).alloc (Nat.le_refl _) _
                have HWY := Ha (show Whole W gy zoT #[.string (mk nx), .slice A8 D.length c8, .string s8.s, .int .i64 s8.t, .int .i64 s8.c, .int .i64 s8.l, .string s8.d] by rw [hW, hgy]; exact Whole.new _ _ _)
                have HBW := Ha (HB4'.out.trans (hbw.mono HL4.out.base))
                have HWZ := Ha (HV.out.below HBW.out HPL.out)
                have hyw := hy4'.later hbw
                have haw := (HA1.out.keep HBW.out).more (Nat.le_trans HL4.out.base hbw.size)
                rw [<-HD.out] at haw
                unfold Z7.cells at haw
                have hDl : D.length <= 30 := HZN.out.len
                have HYY := Ha (fun (w' : World) (h : Below W.heap.size W w') => hyw.later h)
                have HZZ := Ha (fun (w' : World) (h : Below W.heap.size W w') => haw.later h)
                have HSM := Ha (show sameX D D = true from sameX_is.2 rfl)
                have HLW := Ha (HL4.out.same hbw)
                have HW := Ha hW
                have HGY := Ha hgy
                have hbd : Below W.heap.size W W.drew := (Below.refl _ _).drew
                clear hB hb3 hy4' hW hgy hbw hyw haw; have y0 : ∀ w' : World, Below W.heap.size W w' -> w'.cell? ⟨gy, 0, none⟩ = some (.string (mk nx)) := fun w' h => (h.cell HWY.out.lt).trans ((HWY.out.cell 0).trans rfl)
                have y1 : ∀ w' : World, Below W.heap.size W w' -> w'.cell? ⟨gy, 1, none⟩ = some (.slice A8 D.length c8) := fun w' h => (h.cell HWY.out.lt).trans ((HWY.out.cell 1).trans rfl)
                have y2 : ∀ w' : World, Below W.heap.size W w' -> w'.cell? ⟨gy, 2, none⟩ = some (.string s8.s) := fun w' h => (h.cell HWY.out.lt).trans ((HWY.out.cell 2).trans rfl)
                have y3 : ∀ w' : World, Below W.heap.size W w' -> w'.cell? ⟨gy, 3, none⟩ = some (.int .i64 s8.t) := fun w' h => (h.cell HWY.out.lt).trans ((HWY.out.cell 3).trans rfl)
                have y4 : ∀ w' : World, Below W.heap.size W w' -> w'.cell? ⟨gy, 4, none⟩ = some (.int .i64 s8.c) := fun w' h => (h.cell HWY.out.lt).trans ((HWY.out.cell 4).trans rfl)
                have y5 : ∀ w' : World, Below W.heap.size W w' -> w'.cell? ⟨gy, 5, none⟩ = some (.int .i64 s8.l) := fun w' h => (h.cell HWY.out.lt).trans ((HWY.out.cell 5).trans rfl)
                have y6 : ∀ w' : World, Below W.heap.size W w' -> w'.cell? ⟨gy, 6, none⟩ = some (.string s8.d) := fun w' h => (h.cell HWY.out.lt).trans ((HWY.out.cell 6).trans rfl)
                have x0 : ∀ w' : World, Below W.heap.size W w' -> w'.cell? ⟨p, 0, none⟩ = some (.string z1.s) := fun w' h => (h.cell HWZ.out.lt).trans ((HWZ.out.cell 0).trans rfl)
                have x1 : ∀ w' : World, Below W.heap.size W w' -> w'.cell? ⟨p, 1, none⟩ = some (.slice z1.A z1.n z1.c) := fun w' h => (h.cell HWZ.out.lt).trans ((HWZ.out.cell 1).trans rfl)
                have x2 : ∀ w' : World, Below W.heap.size W w' -> w'.cell? ⟨p, 2, none⟩ = some (.string z1.t) := fun w' h => (h.cell HWZ.out.lt).trans ((HWZ.out.cell 2).trans rfl)
                have x3 : ∀ w' : World, Below W.heap.size W w' -> w'.cell? ⟨p, 3, none⟩ = some (.int .i64 z1.x) := fun w' h => (h.cell HWZ.out.lt).trans ((HWZ.out.cell 3).trans rfl)
                have x4 : ∀ w' : World, Below W.heap.size W w' -> w'.cell? ⟨p, 4, none⟩ = some (.int .i64 z1.y) := fun w' h => (h.cell HWZ.out.lt).trans ((HWZ.out.cell 4).trans rfl)
                have x5 : ∀ w' : World, Below W.heap.size W w' -> w'.cell? ⟨p, 5, none⟩ = some (.int .i64 z1.z) := fun w' h => (h.cell HWZ.out.lt).trans ((HWZ.out.cell 5).trans rfl)
                have x6 : ∀ w' : World, Below W.heap.size W w' -> w'.cell? ⟨p, 6, none⟩ = some (.string z1.d) := fun w' h => (h.cell HWZ.out.lt).trans ((HWZ.out.cell 6).trans rfl)
                go_wp2_with fail
                rw [<-HW.out, <-HGY.out]
                go_region_held3 (fun w' => Below W.heap.size W w') (go_keep) (first
                  | (go_at_call 23; (refine (Same_any Q1 Q2 D.length o1 D.length o2 D D _ ((hs1.keep hB2).more hB2.size) hs2 (by omega)).mono ?_; rw [HSM.out]; rintro e q3 ⟨rfl, hB3⟩; have hT3 : Below W.heap.size W q3 := hT2.trans (hB3.mono hT2.size)))
                  | (go_at_call 24; (refine (All_any _ D _ _ (HZZ.out _ hT1) (by omega)).mono ?_; rintro e q2 ⟨v2, rfl, ho2, hB2⟩; obtain ⟨Q2, o2, rfl, hs2, _⟩ := own_sees ho2; have hT2 : Below W.heap.size W q2 := hT1.trans (hB2.mono hT1.size)))
                  | (go_at_call 24; (refine (All_any _ D _ _ (HYY.out _ hbd) (by omega)).mono ?_; rintro e q1 ⟨v1, rfl, ho1, hB1⟩; obtain ⟨Q1, o1, rfl, hs1, _⟩ := own_sees ho1; have hT1 : Below W.heap.size W q1 := hbd.trans (hB1.mono hbd.size))))
                have HBX := Ha (HBW.out.trans (hT3.mono HLW.out.base))
                have HLX := Ha (HLW.out.same hT3)
                go_wp2_with fail
                go_roundw
                case rel => exact ⟨j + 1, restartS (appendS S1 junkN [120]).1 ch.data.toList, some F, by omega, by go_num, ⟨HLX.out.mono (by omega) (by omega), HR1.out, by simp, by show F.length <= 70000; omega⟩, HBX.out⟩
                case measure => simp [intOf]; omega
              · have hm0 : (j : Int).tmod 2 = 1 := by rw [Int.tmod_eq_emod_of_nonneg (by omega)]; omega
                have hm1 : (j : Int) % 2 = 1 := by omega
                obtain ⟨D, hD⟩ : ∃ D, D = D2 := ⟨_, rfl⟩
                have hzn := HZ2.out
                rw [<-hD] at hzn
                have hat := HA2.out.keep HBB.out
                rw [<-hD] at hat
                obtain ⟨F, hF⟩ : ∃ F, F = frameL (imgB j nx D) := ⟨_, rfl⟩
                have hFl : F.length <= 68408 := by rw [hF, frameL_len]; have := hzn.size j; omega
                obtain ⟨S1, hs1, hrow1⟩ := row_step HRW.out.row F ch.data.toList (by have := HRW.out.len; omega) (by omega) (by omega)
                have HD := Ha hD
                have HZN := Ha hzn
                have HAT := Ha hat
                have HFE := Ha hF
                have HS1 := Ha hs1
                have HR1 := Ha hrow1
                have hvr := HV.out.below HBB.out HPL.out
                have HVR := Ha hvr
                have v0 : wr.cell? ⟨p, 7, none⟩ = some (.string z2.s) := hvr.cell 7
                have v1 : wr.cell? ⟨p, 8, none⟩ = some (.slice z2.A z2.n z2.c) := hvr.cell 8
                have v2 : wr.cell? ⟨p, 9, none⟩ = some (.string z2.t) := hvr.cell 9
                have v3 : wr.cell? ⟨p, 10, none⟩ = some (.int .i64 z2.x) := hvr.cell 10
                have v4 : wr.cell? ⟨p, 11, none⟩ = some (.int .i64 z2.y) := hvr.cell 11
                have v5 : wr.cell? ⟨p, 12, none⟩ = some (.int .i64 z2.z) := hvr.cell 12
                have v6 : wr.cell? ⟨p, 13, none⟩ = some (.string z2.d) := hvr.cell 13
                clear hD hzn hat hF hs1 hrow1 hvr hpar; go_wp2_with fail
                refine (Save_zn HRW.out.live (by omega) (by omega) (g := j) (nn := nx) (D := D) HAT.out (by omega) HZN.out).mono ?_
                rw [<-HFE.out, HS1.out]
                rintro e u1 ⟨rfl, hL1, hK1⟩; have hL1 : Live w5.heap.size u1 d (20 * j + 12) (500000 * j + 400000) S1 := hL1
                have HL1 := Ha hL1
                have HB1 := Ha (HBB.out.trans (hK1.below HRW.out.live.base))
                clear hL1 hK1 v0 v1 v2 v3 v4 v5 v6; go_wp2_with fail
                have hap := live_Append HL1.out (by omega) (by omega) ⟨#[106, 117, 110, 107]⟩ ⟨#[120]⟩ (by decide) (by decide)
                rw [show (⟨#[106, 117, 110, 107]⟩ : ByteArray).data.toList = junkN from rfl, show (⟨#[120]⟩ : ByteArray).data.toList = [120] from rfl] at hap
                refine Calls.mono hap ?_
                rintro e u2 ⟨rfl, hL2, hK2⟩; have hL2 : Live w5.heap.size u2 d (20 * j + 14) (500000 * j + 400001) (appendS S1 junkN [120]).1 := hL2
                have HL2 := Ha hL2
                have HB2' := Ha (HB1.out.trans (hK2.below HL1.out.base))
                have hch2 : u2.cell? ⟨cb, coff + j, none⟩ = some (.string ch) := ((HBALL.out.trans (HB2'.out.mono HBALL.out.size)).cell (p := ⟨cb, coff + j, none⟩) HCB.out).trans HCH.out
                generalize (appendS S1 junkN [120]).2 = e2
                clear hL2 hK2 hap; go_wp2_with fail
                refine (live_Restart HL2.out (by omega) (by omega) ch).mono ?_
                rintro e u3 ⟨rfl, hL3, hK3⟩; have HL3 := Ha hL3
                have HB3' := Ha (HB2'.out.trans (hK3.below HL2.out.base))
                clear hL3 hK3 hch2; go_wp2_with fail
                refine (Load_img HL3.out HZN.out (g := j) (by omega) (by rw [<-HFE.out]; exact row_read HR1.out)).mono ?_
                rintro e u4 ⟨⟨v, rfl, hy4⟩, hB⟩; have hb3 : Below w5.heap.size u3 u4 := hB.mono HL3.out.base
                have HB4' := Ha (HB3'.out.trans hb3)
                have hy4' := hy4
                obtain ⟨A8, c8, s8, rfl, _, _, _⟩ := hy4
                have HL4 := Ha (HL3.out.same hB)
                obtain ⟨W, hW⟩ : ∃ W, W = u4.alloc (.cells #[.string (mk nx), .slice A8 D.length c8, .string s8.s, .int .i64 s8.t, .int .i64 s8.c, .int .i64 s8.l, .string s8.d] zoT) := ⟨_, rfl⟩
                obtain ⟨gy, hgy⟩ : ∃ gy, gy = u4.heap.size := ⟨_, rfl⟩
                have hbw : Below u4.heap.size u4 W := by rw [hW]; exact (Below.refl _ _).alloc (Nat.le_refl _) _
                have HWY := Ha (show Whole W gy zoT #[.string (mk nx), .slice A8 D.length c8, .string s8.s, .int .i64 s8.t, .int .i64 s8.c, .int .i64 s8.l, .string s8.d] by rw [hW, hgy]; exact Whole.new _ _ _)
                have HBW := Ha (HB4'.out.trans (hbw.mono HL4.out.base))
                have HWZ := Ha (HV.out.below HBW.out HPL.out)
                have hyw := hy4'.later hbw
                have haw := (HA2.out.keep HBW.out).more (Nat.le_trans HL4.out.base hbw.size)
                rw [<-HD.out] at haw
                unfold Z7.cells at haw
                have hDl : D.length <= 30 := HZN.out.len
                have HYY := Ha (fun (w' : World) (h : Below W.heap.size W w') => hyw.later h)
                have HZZ := Ha (fun (w' : World) (h : Below W.heap.size W w') => haw.later h)
                have HSM := Ha (show sameX D D = true from sameX_is.2 rfl)
                have HLW := Ha (HL4.out.same hbw)
                have HW := Ha hW
                have HGY := Ha hgy
                have hbd : Below W.heap.size W W.drew := (Below.refl _ _).drew
                clear hB hb3 hy4' hW hgy hbw hyw haw; have y0 : ∀ w' : World, Below W.heap.size W w' -> w'.cell? ⟨gy, 0, none⟩ = some (.string (mk nx)) := fun w' h => (h.cell HWY.out.lt).trans ((HWY.out.cell 0).trans rfl)
                have y1 : ∀ w' : World, Below W.heap.size W w' -> w'.cell? ⟨gy, 1, none⟩ = some (.slice A8 D.length c8) := fun w' h => (h.cell HWY.out.lt).trans ((HWY.out.cell 1).trans rfl)
                have y2 : ∀ w' : World, Below W.heap.size W w' -> w'.cell? ⟨gy, 2, none⟩ = some (.string s8.s) := fun w' h => (h.cell HWY.out.lt).trans ((HWY.out.cell 2).trans rfl)
                have y3 : ∀ w' : World, Below W.heap.size W w' -> w'.cell? ⟨gy, 3, none⟩ = some (.int .i64 s8.t) := fun w' h => (h.cell HWY.out.lt).trans ((HWY.out.cell 3).trans rfl)
                have y4 : ∀ w' : World, Below W.heap.size W w' -> w'.cell? ⟨gy, 4, none⟩ = some (.int .i64 s8.c) := fun w' h => (h.cell HWY.out.lt).trans ((HWY.out.cell 4).trans rfl)
                have y5 : ∀ w' : World, Below W.heap.size W w' -> w'.cell? ⟨gy, 5, none⟩ = some (.int .i64 s8.l) := fun w' h => (h.cell HWY.out.lt).trans ((HWY.out.cell 5).trans rfl)
                have y6 : ∀ w' : World, Below W.heap.size W w' -> w'.cell? ⟨gy, 6, none⟩ = some (.string s8.d) := fun w' h => (h.cell HWY.out.lt).trans ((HWY.out.cell 6).trans rfl)
                have x0 : ∀ w' : World, Below W.heap.size W w' -> w'.cell? ⟨p, 7, none⟩ = some (.string z2.s) := fun w' h => (h.cell HWZ.out.lt).trans ((HWZ.out.cell 7).trans rfl)
                have x1 : ∀ w' : World, Below W.heap.size W w' -> w'.cell? ⟨p, 8, none⟩ = some (.slice z2.A z2.n z2.c) := fun w' h => (h.cell HWZ.out.lt).trans ((HWZ.out.cell 8).trans rfl)
                have x2 : ∀ w' : World, Below W.heap.size W w' -> w'.cell? ⟨p, 9, none⟩ = some (.string z2.t) := fun w' h => (h.cell HWZ.out.lt).trans ((HWZ.out.cell 9).trans rfl)
                have x3 : ∀ w' : World, Below W.heap.size W w' -> w'.cell? ⟨p, 10, none⟩ = some (.int .i64 z2.x) := fun w' h => (h.cell HWZ.out.lt).trans ((HWZ.out.cell 10).trans rfl)
                have x4 : ∀ w' : World, Below W.heap.size W w' -> w'.cell? ⟨p, 11, none⟩ = some (.int .i64 z2.y) := fun w' h => (h.cell HWZ.out.lt).trans ((HWZ.out.cell 11).trans rfl)
                have x5 : ∀ w' : World, Below W.heap.size W w' -> w'.cell? ⟨p, 12, none⟩ = some (.int .i64 z2.z) := fun w' h => (h.cell HWZ.out.lt).trans ((HWZ.out.cell 12).trans rfl)
                have x6 : ∀ w' : World, Below W.heap.size W w' -> w'.cell? ⟨p, 13, none⟩ = some (.string z2.d) := fun w' h => (h.cell HWZ.out.lt).trans ((HWZ.out.cell 13).trans rfl)
                go_wp2_with fail
                rw [<-HW.out, <-HGY.out]
                go_region_held3 (fun w' => Below W.heap.size W w') (go_keep) (first
                  | (go_at_call 23; (refine (Same_any Q1 Q2 D.length o1 D.length o2 D D _ ((hs1.keep hB2).more hB2.size) hs2 (by omega)).mono ?_; rw [HSM.out]; rintro e q3 ⟨rfl, hB3⟩; have hT3 : Below W.heap.size W q3 := hT2.trans (hB3.mono hT2.size)))
                  | (go_at_call 24; (refine (All_any _ D _ _ (HZZ.out _ hT1) (by omega)).mono ?_; rintro e q2 ⟨v2, rfl, ho2, hB2⟩; obtain ⟨Q2, o2, rfl, hs2, _⟩ := own_sees ho2; have hT2 : Below W.heap.size W q2 := hT1.trans (hB2.mono hT1.size)))
                  | (go_at_call 24; (refine (All_any _ D _ _ (HYY.out _ hbd) (by omega)).mono ?_; rintro e q1 ⟨v1, rfl, ho1, hB1⟩; obtain ⟨Q1, o1, rfl, hs1, _⟩ := own_sees ho1; have hT1 : Below W.heap.size W q1 := hbd.trans (hB1.mono hbd.size))))
                have HBX := Ha (HBW.out.trans (hT3.mono HLW.out.base))
                have HLX := Ha (HLW.out.same hT3)
                go_wp2_with fail
                go_roundw
                case rel => exact ⟨j + 1, restartS (appendS S1 junkN [120]).1 ch.data.toList, some F, by omega, by go_num, ⟨HLX.out.mono (by omega) (by omega), HR1.out, by simp, by show F.length <= 70000; omega⟩, HBX.out⟩
                case measure => simp [intOf]; omega
            · obtain rfl : j = m := by omega
              have HL := Ha (HRW.out.live.mono (k' := 240) (M' := 6000000) (by omega) (by omega))
              obtain ⟨r1, r2, r3⟩ := row_sweep HRW.out.row (fileL 99) file99
              have HSW := Ha (Sweep_any HL.out (by omega) (by omega) 99 (fileL 99) (fun W => Name_small 99 (by decide) W))
              obtain ⟨T, ec, hT⟩ : ∃ T ec, sweepS S (fileL 99) = (T, ec) := ⟨_, _, rfl⟩
              rw [hT] at HSW r1 r2 r3
              have r1 : ec = 0 := r1
              subst r1; have R2 := Ha (show T.down = false from r2)
              have R3 := Ha (show T.names.map (·.1) = leftN o from r3)
              have HNO := Ha HRW.out.none
              clear hT r2 r3; go_wp2_with fail
              refine Calls.mono HSW.out ?_
              rintro e u1 ⟨rfl, hL1, hK1⟩; have HL1 := Ha (show Live w5.heap.size u1 d (240 + 2 * (240 + 1)) 6000000 T from hL1)
              have HB1 := Ha (HBB.out.trans (hK1.below HL.out.base))
              clear hL1 hK1; go_wp2_with fail
              refine (List_any HL1.out.disk HL1.out.fit (by omega)).mono ?_
              have hle : listE T = 0 := by unfold listE; rw [if_neg (by rw [R2.out]; decide)]
              have hll : listL T = leftN o := by unfold listL; rw [if_neg (by rw [R2.out]; decide), R3.out]
              rw [hle, hll]
              rintro e u2 ⟨v, rfl, ho, hB⟩; have HB2 := Ha (HB5.out.trans ((HB1.out.trans (hB.mono HL1.out.base)).mono HB5.out.size))
              clear hB hle hll
              by_cases h0 : j = 0
              · have hon : o = none := HNO.out.1 h0
                subst hon; obtain ⟨A9, c9, rfl, _⟩ := own1 ho
                obtain ⟨z0, hz0⟩ : ∃ z0 : Nat, z0 = (leftN none).length := ⟨_, rfl⟩
                rw [<-hz0]
                have hz : z0 = 0 := hz0
                have hmin : min (j : Int) 1 = (z0 : Int) := by omega
                have h0b : ((z0 : Int) == 0) = true := by rw [beq_iff_eq]; omega
                clear ho hmI hj hlt h0 hz hz0; go_wp2_with fail
                go_ret
                exact ⟨rfl, HB2.out⟩
              · have hos : ∃ F, o = some F := by
                  cases o with
                  | none => exact absurd (HNO.out.2 rfl) h0
                  | some F => exact ⟨F, rfl⟩
                obtain ⟨F, rfl⟩ := hos
                obtain ⟨A9, c9, rfl, hat⟩ := own1 ho
                obtain ⟨g9, rfl, hg9, hc9⟩ := hat 0 (.string (mk imgN)) rfl
                have hj1 : (1 : Int) <= (j : Int) := by omega
                rw [show (leftN (some F)).length = 1 from rfl]
                rw [show mk imgN = (⟨#[105, 109, 97, 103, 101]⟩ : ByteArray) from rfl] at hc9
                have hmin : min (j : Int) 1 = 1 := by omega
                clear ho hat; go_wp2_with fail
                go_ret
                exact ⟨rfl, HB2.out⟩
end Go.Proofs.YtmpginmdaeclaaaGreatDoor
