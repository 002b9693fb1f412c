/- Parts of the proofs of the statements of image. No statement of the seat is proved here. -/
import Derived.Test.YtmpginmdaeclaaaGreatSnpF
set_option maxHeartbeats 32000000
set_option maxRecDepth 20000
namespace Go.Proofs.YtmpginmdaeclaaaGreat
open Go.RowKit Go.Maps Go.Sort
set_option maxRecDepth 20000
theorem brk_one (q : Int) (F : Bys) (m : Nat) (hm : 1 <= m) : breakS (oneI q F) (m : Nat) = ({ oneI q F with left := m }, 0) := by
  unfold breakS
  rw [if_neg (by omega), if_neg (by omega)]
  rfl
theorem SnapKeeps_walk (A A' : Option Addr) (n c n' c' : Nat) (xs ys : List Rrd) (b : Nat) (ch : ByteArray) (w : World) (hx : SeesR w w.heap.size A n xs) (hy : SeesR w w.heap.size A' n' ys) (h63 : n <= 9223372036854775807) (h63' : n' <= 9223372036854775807) (hbb : b <= 255) :
    Calls Tryz.prog 4 #[.agg #[.slice A n c, .slice A' n' c', .int .u8 (b : Nat), .string ch]] w fun e w' => e = .returned (.bool true) /\ Below w.heap.size w w' := by
  have HX := Ha hx
  have HY := Ha hy
  have HLX := Ha hx.1
  have HLY := Ha hy.1
  clear hx hy
  obtain ⟨W0, hW0⟩ : ∃ W0, W0 = w.alloc (.cells #[.slice A n c, .slice A' n' c', .int .u8 (b : Nat), .string ch] 46) := ⟨_, rfl⟩
  obtain ⟨g0, hg0⟩ : ∃ g0, g0 = w.heap.size := ⟨_, rfl⟩
  have hb0 : Below w.heap.size w W0 := by rw [hW0]; exact (Below.refl _ _).alloc (Nat.le_refl _) _
  have hv0 : Whole W0 g0 46 #[.slice A n c, .slice A' n' c', .int .u8 (b : Nat), .string ch] := by rw [hW0, hg0]; exact Whole.new _ _ _
  have k0 : W0.cell? ⟨g0, 0, none⟩ = some (.slice A n c) := hv0.cell 0
  have k1 : W0.cell? ⟨g0, 1, none⟩ = some (.slice A' n' c') := hv0.cell 1
  have k2 : W0.cell? ⟨g0, 2, none⟩ = some (.int .u8 (b : Nat)) := hv0.cell 2
  have k3 : W0.cell? ⟨g0, 3, none⟩ = some (.string ch) := hv0.cell 3
  have HB0 := Ha hb0
  have HW0 := Ha hW0
  have HG0 := Ha hg0
  clear hb0 hv0 hW0 hg0
  cases hf : fewL xs && fewL ys with
  | false =>
    cases hfx : fewL xs with
    | false =>
      have HF := Ha hfx
      clear hf hfx; go_enter Tryz.func4, Tryz.ntmps4
      go_wp2_with fail
      rw [<-HW0.out, <-HG0.out]
      go_region_held3 (fun w' => w' = W0.drew) (go_keep) (fail)
      have HB1 := Ha (show Below w.heap.size w W0.drew from HB0.out.drew)
      generalize W0.drew = W1 at HB1 ⊢
      clear k0 k1 k2 k3; go_wp2_with fail
      refine (sawake_any _).mono ?_
      rintro e w2 ⟨rfl, hB⟩; have HB2 := thB HB1 hB
      clear hB; go_wp2_with fail
      refine (Few_any A n c xs _ ((HX.out.keep HB2.out).more HB2.out.size) h63).mono ?_
      rw [HF.out]
      rintro e w3 ⟨rfl, hB⟩; have HB3 := thB HB2 hB
      clear hB; go_wp2_with fail
      have HB4 := Ha HB3.out
      refine (sawake_any _).mono ?_
      rintro e w5 ⟨rfl, hB⟩; have HB5 := thB HB4 hB
      clear hB; go_wp2_with fail
      go_ret
      exact ⟨rfl, HB5.out⟩
    | true =>
      have hfy : fewL ys = false := by rw [hfx] at hf; simpa using hf
      have HF := Ha hfx
      have HF' := Ha hfy
      clear hf hfx hfy; go_enter Tryz.func4, Tryz.ntmps4
      go_wp2_with fail
      rw [<-HW0.out, <-HG0.out]
      go_region_held3 (fun w' => w' = W0.drew) (go_keep) (fail)
      have HB1 := Ha (show Below w.heap.size w W0.drew from HB0.out.drew)
      generalize W0.drew = W1 at HB1 ⊢
      clear k0 k1 k2 k3; go_wp2_with fail
      refine (sawake_any _).mono ?_
      rintro e w2 ⟨rfl, hB⟩; have HB2 := thB HB1 hB
      clear hB; go_wp2_with fail
      refine (Few_any A n c xs _ ((HX.out.keep HB2.out).more HB2.out.size) h63).mono ?_
      rw [HF.out]
      rintro e w3 ⟨rfl, hB⟩; have HB3 := thB HB2 hB
      clear hB; go_wp2_with fail
      refine (Few_any A' n' c' ys _ ((HY.out.keep HB3.out).more HB3.out.size) h63').mono ?_
      rw [HF'.out]
      rintro e w4 ⟨rfl, hB⟩; have HB4 := thB HB3 hB
      clear hB; go_wp2_with fail
      refine (sawake_any _).mono ?_
      rintro e w5 ⟨rfl, hB⟩; have HB5 := thB HB4 hB
      clear hB; go_wp2_with fail
      go_ret
      exact ⟨rfl, HB5.out⟩
  | true =>
    rw [Bool.and_eq_true] at hf
    obtain ⟨hfx, hfy⟩ := hf
    obtain ⟨h30, hlow⟩ := fewL_is hfx
    obtain ⟨h30', hlow'⟩ := fewL_is hfy
    have hn30 : n <= 30 := by have := HLX.out; omega
    have hn30' : n' <= 30 := by have := HLY.out; omega
    have HLOW := Ha hlow
    have HLOW' := Ha hlow'
    have HF := Ha hfx
    have HF' := Ha hfy
    clear hfx hfy hlow hlow' h30 h30'; go_enter Tryz.func4, Tryz.ntmps4
    go_wp2_with fail
    rw [<-HW0.out, <-HG0.out]
    go_region_held3 (fun w' => w' = W0.drew) (go_keep) (fail)
    have HB1 := Ha (show Below w.heap.size w W0.drew from HB0.out.drew)
    generalize W0.drew = W1 at HB1 ⊢
    clear k0 k1 k2 k3; go_wp2_with fail
    refine (sawake_any _).mono ?_
    rintro e w2 ⟨rfl, hB⟩; have HB2 := thB HB1 hB
    clear hB; go_wp2_with fail
    refine (Few_any A n c xs _ ((HX.out.keep HB2.out).more HB2.out.size) h63).mono ?_
    rw [HF.out]
    rintro e w3 ⟨rfl, hB⟩; have HB3 := thB HB2 hB
    clear hB; go_wp2_with fail
    refine (Few_any A' n' c' ys _ ((HY.out.keep HB3.out).more HB3.out.size) h63').mono ?_
    rw [HF'.out]
    rintro e w4 ⟨rfl, hB⟩; have HB4 := thB HB3 hB
    clear hB; go_wp2_with fail
    refine (zones_any A A' n c n' c' xs ys _ ((HX.out.keep HB4.out).more HB4.out.size) ((HY.out.keep HB4.out).more HB4.out.size) (by omega) (by omega) HLOW.out HLOW'.out).mono ?_
    rintro e w5 ⟨⟨p, q, rfl, z1, z2, s1, s2, B1, B2, n1, c1, n2, c2, hT⟩, hB⟩; have HT := Ha hT
    have HB5 := thB HB4 hB
    clear hB hT
    cases hok : (codeZ nx xs == 0 && codeZ nx ys == 0) with
    | false =>
      go_wp2_with fail
      go_ret
      exact ⟨rfl, HB5.out⟩
    | true =>
      rw [Bool.and_eq_true, beq_iff_eq, beq_iff_eq] at hok
      obtain ⟨hc1, hc2⟩ := hok
      have hz1 := zn_of HF.out hc1
      have hz2 := zn_of HF'.out hc2
      have ha1 := HT.out.at1 hc1
      have ha2 := HT.out.at2 hc2
      clear hc1 hc2; obtain ⟨D1, hD1⟩ : ∃ D1, D1 = ofC xs := ⟨_, rfl⟩
      obtain ⟨D2, hD2⟩ : ∃ D2, D2 = ofC ys := ⟨_, rfl⟩
      rw [<-hD1] at hz1 ha1
      rw [<-hD2] at hz2 ha2
      obtain ⟨F1, hF1⟩ : ∃ F1, F1 = frameL (imgB 1 nx D1) := ⟨_, rfl⟩
      obtain ⟨F2, hF2⟩ : ∃ F2, F2 = frameL (imgB 2 nx D2) := ⟨_, rfl⟩
      have hl1 : F1.length <= 68408 := by rw [hF1, frameL_len]; have := hz1.size 1; omega
      have hl2 : F2.length <= 68408 := by rw [hF2, frameL_len]; have := hz2.size 2; omega
      obtain ⟨m, hm⟩ : ∃ m, m = 1 + b % 8 := ⟨_, rfl⟩
      have hmI : (m : Int) = 1 + (b : Int) % 8 := by omega
      have hm1 : 1 <= m := by omega
      have hm8 : m <= 8 := by omega
      have e5 : 0 <= (b : Int) % 8 := by omega
      have e6 : (b : Int) % 8 <= 7 := by omega
      have HS1 := Ha (save_new 1048576 F1 (by omega))
      have HKP := Ha (keeps_break 1048576 F1 F2 m hm1 (by omega))
      have HBR := Ha (brk_one 1048576 F1 m hm1)
      have HZ1 := Ha hz1
      have HZ2 := Ha hz2
      have HF1 := Ha hF1
      have HF2 := Ha hF2
      have HA1 := Ha ha1
      have HA2 := Ha ha2
      clear hz1 hz2 ha1 ha2 hD1 hD2 hF1 hF2 hm; go_wp2_with fail
      refine (live_New 1048576 w5 (by decide)).mono ?_
      rintro e w6 ⟨d, rfl, hL6, hB⟩; have HL6 := Ha hL6
      have HB6 := thB HB5 hB
      have hv6 := HT.out.row.below hB HT.out.row.lt
      have HV6 := Ha hv6
      have HA1' := Ha (HA1.out.keep hB)
      have HA2' := Ha (HA2.out.keep hB)
      have hpl := HT.out.row.lt
      have HPL := Ha hpl
      have v0 : w6.cell? ⟨p, 0, none⟩ = some (.string z1.s) := hv6.cell 0
      have v1 : w6.cell? ⟨p, 1, none⟩ = some (.slice z1.A z1.n z1.c) := hv6.cell 1
      have v2 : w6.cell? ⟨p, 2, none⟩ = some (.string z1.t) := hv6.cell 2
      have v3 : w6.cell? ⟨p, 3, none⟩ = some (.int .i64 z1.x) := hv6.cell 3
      have v4 : w6.cell? ⟨p, 4, none⟩ = some (.int .i64 z1.y) := hv6.cell 4
      have v5 : w6.cell? ⟨p, 5, none⟩ = some (.int .i64 z1.z) := hv6.cell 5
      have v6 : w6.cell? ⟨p, 6, none⟩ = some (.string z1.d) := hv6.cell 6
      clear hB hL6 hv6 hpl HA1 HA2; go_wp2_with fail
      refine (Save_zn HL6.out (by omega) (by omega) (g := 1) (nn := nx) (D := D1) HA1'.out (by decide) HZ1.out).mono ?_
      rw [<-HF1.out, HS1.out]
      rintro e w7 ⟨rfl, hL7, hK7⟩; have HL7 := Ha (show Live w5.heap.size w7 d 12 400000 (oneI 1048576 F1) from hL7.mono (by omega) (by omega))
      have hb7 := hK7.below HL6.out.base
      have HB7 := Ha (HB6.out.trans (hb7.mono HB5.out.size))
      have HA2'' := Ha (HA2'.out.keep hb7)
      have HA1'' := Ha (HA1'.out.keep hb7)
      have HV7 := Ha (HV6.out.below hb7 HPL.out)
      clear hL7 hK7 hb7 v0 v1 v2 v3 v4 v5 v6 HA1' HA2' HV6; go_wp2_with fail
      have hbrk := live_Break HL7.out (1 + (b : Int) % 8) (by omega)
      rw [<-hmI, HBR.out, hmI] at hbrk
      refine hbrk.mono ?_
      rintro e w8 ⟨rfl, hL8, hK8⟩; have HL8 := Ha hL8
      have hb8 := hK8.below HL7.out.base
      have HB8 := Ha (HB7.out.trans (hb8.mono HB5.out.size))
      have HA2 := Ha (HA2''.out.keep hb8)
      have HA1 := Ha (HA1''.out.keep hb8)
      have hv8 := HV7.out.below hb8 HPL.out
      have HV8 := Ha hv8
      have u0 : w8.cell? ⟨p, 7, none⟩ = some (.string z2.s) := hv8.cell 7
      have u1 : w8.cell? ⟨p, 8, none⟩ = some (.slice z2.A z2.n z2.c) := hv8.cell 8
      have u2 : w8.cell? ⟨p, 9, none⟩ = some (.string z2.t) := hv8.cell 9
      have u3 : w8.cell? ⟨p, 10, none⟩ = some (.int .i64 z2.x) := hv8.cell 10
      have u4 : w8.cell? ⟨p, 11, none⟩ = some (.int .i64 z2.y) := hv8.cell 11
      have u5 : w8.cell? ⟨p, 12, none⟩ = some (.int .i64 z2.z) := hv8.cell 12
      have u6 : w8.cell? ⟨p, 13, none⟩ = some (.string z2.d) := hv8.cell 13
      clear hbrk hL8 hK8 hb8 hv8 HA1'' HA2'' HV7 hmI; obtain ⟨S2, c8, hs8⟩ : ∃ S2 c8, saveS { oneI 1048576 F1 with left := m } F2 = (S2, c8) := ⟨_, _, rfl⟩
      have HS8 := Ha hs8
      rw [hs8] at HKP
      obtain ⟨hk1, hk2⟩ := HKP.out
      have HK2 := Ha (hk2 ch.data.toList)
      clear hk2 HKP hs8; go_wp2_with fail
      refine (Save_zn HL8.out (by omega) (by omega) (g := 2) (nn := nx) (D := D2) HA2.out (by decide) HZ2.out).mono ?_
      rw [<-HF2.out, HS8.out]
      rintro e w9 ⟨rfl, hL9, hK9⟩; have HL9 := Ha (show Live w5.heap.size w9 d 30 900000 S2 from hL9.mono (by omega) (by omega))
      have hb9 := hK9.below HL8.out.base
      have HB9 := Ha (HB8.out.trans (hb9.mono HB5.out.size))
      have HA2' := Ha (HA2.out.keep hb9)
      have HA1' := Ha (HA1.out.keep hb9)
      have HV9 := Ha (HV8.out.below hb9 HPL.out)
      clear hL9 hK9 hb9 u0 u1 u2 u3 u4 u5 u6 HA1 HA2 HV8; go_wp2_with fail
      refine (live_Restart HL9.out (by omega) (by omega) ch).mono ?_
      rintro e w10 ⟨rfl, hL10, hK10⟩; have HL10 := Ha hL10
      have hb10 := hK10.below HL9.out.base
      have HB10 := Ha (HB9.out.trans (hb10.mono HB5.out.size))
      have HA2 := Ha (HA2'.out.keep hb10)
      have HA1 := Ha (HA1'.out.keep hb10)
      have HV10 := Ha (HV9.out.below hb10 HPL.out)
      clear hL10 hK10 hb10 HA1' HA2' HV9; obtain ⟨F, hrd, hcase⟩ := HK2.out
      have hcs : (c8 = 5 /\ F = F1) \/ ((c8 = 0 \/ c8 = 5) /\ F = F2) := by
        rcases hcase with ⟨h1, h2⟩ | h1
        · exact .inl ⟨by have h2 : ¬ c8 = 0 := h2; have hk1 : c8 = 0 \/ c8 = 5 := hk1; omega, h1⟩
        · exact .inr ⟨hk1, h1⟩
      have HRD := Ha hrd
      clear hrd hcase hk1
      rcases hcs with ⟨rfl, rfl⟩ | ⟨h8, rfl⟩
      · go_wp2_with fail
        refine (Load_img HL10.out HZ1.out (g := 1) (by decide) (by rw [<-HF1.out]; exact HRD.out)).mono ?_
        rintro e w11 ⟨⟨v, rfl, hy11⟩, hB⟩; obtain ⟨D, hD⟩ : ∃ D, D = D1 := ⟨_, rfl⟩
        rw [<-hD] at hy11
        have hDl : D.length <= 30 := by rw [hD]; exact HZ1.out.len
        have HB11 := thB HB10 hB
        have hb10 : Below w5.heap.size w10 w11 := hB.mono HL10.out.base
        have ha11 := (HA1.out.keep hb10).more (Nat.le_trans HL10.out.base hB.size)
        rw [<-hD] at ha11
        have hpb : p < w10.heap.size := Nat.lt_of_lt_of_le HPL.out HL10.out.base
        have hv11 := HV10.out.below hB hpb
        have hy11' := hy11
        obtain ⟨A8, c8, s8, rfl, _, _, _⟩ := hy11
        obtain ⟨W, hW⟩ : ∃ W, W = w11.alloc (.cells #[.string (mk nx), .slice A8 D.length c8, .string s8.s, .int .i64 s8.t, .int .i64 s8.c, .int .i64 s8.l, .string s8.d] zoT) := ⟨_, rfl⟩
        obtain ⟨gy, hgy⟩ : ∃ gy, gy = w11.heap.size := ⟨_, rfl⟩
        have hbw : Below w11.heap.size w11 W := by rw [hW]; exact (Below.refl _ _).alloc (Nat.le_refl _) _
        have HWY := Ha (show Whole W gy zoT #[.string (mk nx), .slice A8 D.length c8, .string s8.s, .int .i64 s8.t, .int .i64 s8.c, .int .i64 s8.l, .string s8.d] by rw [hW, hgy]; exact Whole.new _ _ _)
        have HWZ := Ha (hv11.below hbw hv11.lt)
        have HBE := thB HB11 hbw
        have hyw := hy11'.later hbw
        have haw := ha11.later hbw
        unfold Z7.cells at haw
        have HYY := Ha (fun (w' : World) (h : Below W.heap.size W w') => hyw.later h)
        have HZZ := Ha (fun (w' : World) (h : Below W.heap.size W w') => haw.later h)
        have HSM := Ha (show sameX D D = true from sameX_is.2 rfl)
        have HW := Ha hW
        have HGY := Ha hgy
        clear hB hb10 hpb hv11 hy11' ha11 hW hgy hbw hyw haw hD HA1 HA2 HV10; have y0 : ∀ w' : World, Below W.heap.size W w' -> w'.cell? ⟨gy, 0, none⟩ = some (.string (mk nx)) := fun w' h => (h.cell HWY.out.lt).trans ((HWY.out.cell 0).trans rfl)
        have y1 : ∀ w' : World, Below W.heap.size W w' -> w'.cell? ⟨gy, 1, none⟩ = some (.slice A8 D.length c8) := fun w' h => (h.cell HWY.out.lt).trans ((HWY.out.cell 1).trans rfl)
        have y2 : ∀ w' : World, Below W.heap.size W w' -> w'.cell? ⟨gy, 2, none⟩ = some (.string s8.s) := fun w' h => (h.cell HWY.out.lt).trans ((HWY.out.cell 2).trans rfl)
        have y3 : ∀ w' : World, Below W.heap.size W w' -> w'.cell? ⟨gy, 3, none⟩ = some (.int .i64 s8.t) := fun w' h => (h.cell HWY.out.lt).trans ((HWY.out.cell 3).trans rfl)
        have y4 : ∀ w' : World, Below W.heap.size W w' -> w'.cell? ⟨gy, 4, none⟩ = some (.int .i64 s8.c) := fun w' h => (h.cell HWY.out.lt).trans ((HWY.out.cell 4).trans rfl)
        have y5 : ∀ w' : World, Below W.heap.size W w' -> w'.cell? ⟨gy, 5, none⟩ = some (.int .i64 s8.l) := fun w' h => (h.cell HWY.out.lt).trans ((HWY.out.cell 5).trans rfl)
        have y6 : ∀ w' : World, Below W.heap.size W w' -> w'.cell? ⟨gy, 6, none⟩ = some (.string s8.d) := fun w' h => (h.cell HWY.out.lt).trans ((HWY.out.cell 6).trans rfl)
        have z10' : ∀ w' : World, Below W.heap.size W w' -> w'.cell? ⟨p, 0, none⟩ = some (.string z1.s) := fun w' h => (h.cell HWZ.out.lt).trans ((HWZ.out.cell 0).trans rfl)
        have z11' : ∀ w' : World, Below W.heap.size W w' -> w'.cell? ⟨p, 1, none⟩ = some (.slice z1.A z1.n z1.c) := fun w' h => (h.cell HWZ.out.lt).trans ((HWZ.out.cell 1).trans rfl)
        have z12' : ∀ w' : World, Below W.heap.size W w' -> w'.cell? ⟨p, 2, none⟩ = some (.string z1.t) := fun w' h => (h.cell HWZ.out.lt).trans ((HWZ.out.cell 2).trans rfl)
        have z13' : ∀ w' : World, Below W.heap.size W w' -> w'.cell? ⟨p, 3, none⟩ = some (.int .i64 z1.x) := fun w' h => (h.cell HWZ.out.lt).trans ((HWZ.out.cell 3).trans rfl)
        have z14' : ∀ w' : World, Below W.heap.size W w' -> w'.cell? ⟨p, 4, none⟩ = some (.int .i64 z1.y) := fun w' h => (h.cell HWZ.out.lt).trans ((HWZ.out.cell 4).trans rfl)
        have z15' : ∀ w' : World, Below W.heap.size W w' -> w'.cell? ⟨p, 5, none⟩ = some (.int .i64 z1.z) := fun w' h => (h.cell HWZ.out.lt).trans ((HWZ.out.cell 5).trans rfl)
        have z16' : ∀ w' : World, Below W.heap.size W w' -> w'.cell? ⟨p, 6, none⟩ = some (.string z1.d) := fun w' h => (h.cell HWZ.out.lt).trans ((HWZ.out.cell 6).trans rfl)
        go_wp2_with fail
        rw [<-HW.out, <-HGY.out]
        refine wp_region_held_drew (S := fun w' => Below W.heap.size W w') (by kernel_rfl) (Below.refl _ _).drew (fun hHeld => ?_)
        refine takeH (i := 0) (v := ?_) rfl (by kernel_rfl) (by kernel_rfl) (by kernel_rfl) (fun _ _ _ h => h) (Or.inl ⟨by rfl, ?_⟩) hHeld ?_
        rotate_left
        · intro w hSw
          go_simp
          try with_reducible rfl
        try simp only [Act.put, List.setIfInBounds_toArray, List.set_cons_zero, List.set_cons_succ]
        refine takeH (i := 1) (v := ?_) rfl (by kernel_rfl) (by kernel_rfl) (by kernel_rfl) (fun _ _ _ h => h) (Or.inl ⟨by rfl, ?_⟩) hHeld ?_
        rotate_left
        · intro w hSw
          go_simp
          try with_reducible rfl
        try simp only [Act.put, List.setIfInBounds_toArray, List.set_cons_zero, List.set_cons_succ]
        refine takeH (i := 2) (v := ?_) rfl (by kernel_rfl) (by kernel_rfl) (by kernel_rfl) (fun _ _ _ h => h) (Or.inl ⟨by rfl, ?_⟩) hHeld ?_
        rotate_left
        · intro w hSw
          go_simp
          try with_reducible rfl
        try simp only [Act.put, List.setIfInBounds_toArray, List.set_cons_zero, List.set_cons_succ]
        refine takeH (i := 3) (v := ?_) rfl (by kernel_rfl) (by kernel_rfl) (by kernel_rfl) (fun _ _ _ h => h) (Or.inl ⟨by rfl, ?_⟩) hHeld ?_
        rotate_left
        · intro w hSw
          go_simp
          try with_reducible rfl
        try simp only [Act.put, List.setIfInBounds_toArray, List.set_cons_zero, List.set_cons_succ]
        refine takeH (i := 5) (v := ?_) rfl (by kernel_rfl) (by kernel_rfl) (by kernel_rfl) (fun _ _ _ h => h) (Or.inl ⟨by rfl, ?_⟩) hHeld ?_
        rotate_left
        · intro w hSw
          go_simp
          try with_reducible rfl
        try simp only [Act.put, List.setIfInBounds_toArray, List.set_cons_zero, List.set_cons_succ]
        refine takeH (i := 6) (v := ?_) rfl (by kernel_rfl) (by kernel_rfl) (by kernel_rfl) (fun _ _ _ h => h) (Or.inl ⟨by rfl, ?_⟩) hHeld ?_
        rotate_left
        · intro w hSw
          go_simp
          try with_reducible rfl
        try simp only [Act.put, List.setIfInBounds_toArray, List.set_cons_zero, List.set_cons_succ]
        refine takeH (i := 7) (v := ?_) rfl (by kernel_rfl) (by kernel_rfl) (by kernel_rfl) (fun _ _ _ h => h) (Or.inl ⟨by rfl, ?_⟩) hHeld ?_
        rotate_left
        · intro w hSw
          go_simp
          try with_reducible rfl
        try simp only [Act.put, List.setIfInBounds_toArray, List.set_cons_zero, List.set_cons_succ]
        refine wpAnyH_ready (rs := [4]) (by decide +kernel) (by simp) ?_
        refine consH (i := 4) rfl (fun K hK => ?_) AllReadyH.nil
        go_simp
        refine (All_any _ D _ _ (HYY.out _ hHeld) (by omega)).mono ?_
        rintro e ua ⟨va, rfl, hoa, hBa⟩; obtain ⟨Qa, oa, rfl, hsa, _⟩ := own_sees hoa
        have hTa := hHeld.trans (hBa.mono hHeld.size)
        go_wp2_with fail
        refine hK.out _ _ ?_ (fun hHeld => ?_)
        · exact hTa
        clear hK K
        try simp only [Act.put, List.setIfInBounds_toArray, List.set_cons_zero, List.set_cons_succ]
        refine wpAnyH_ready (rs := [8]) (by decide +kernel) (by simp) ?_
        refine consH (i := 8) rfl (fun K hK => ?_) AllReadyH.nil
        go_simp
        refine (All_any _ D _ _ (HZZ.out _ hHeld) (by omega)).mono ?_
        rintro e ub ⟨vb, rfl, hob, hBb⟩; obtain ⟨Qb, ob, rfl, hsb, _⟩ := own_sees hob
        have hsa := (hsa.keep hBb).more hBb.size
        have hTb := hHeld.trans (hBb.mono hHeld.size)
        go_wp2_with fail
        refine hK.out _ _ ?_ (fun hHeld => ?_)
        · exact hTb
        clear hK K
        try simp only [Act.put, List.setIfInBounds_toArray, List.set_cons_zero, List.set_cons_succ]
        refine wpAnyH_ready (rs := [9]) (by decide +kernel) (by simp) ?_
        refine consH (i := 9) rfl (fun K hK => ?_) AllReadyH.nil
        go_simp
        refine (Same_any Qa Qb D.length oa D.length ob D D _ hsa hsb (by omega)).mono ?_
        rw [HSM.out]
        rintro e uc ⟨rfl, hBc⟩; have hTc := hHeld.trans (hBc.mono hHeld.size)
        go_wp2_with fail
        refine hK.out _ _ ?_ (fun hHeld => ?_)
        · exact hTc
        clear hK K
        try simp only [Act.put, List.setIfInBounds_toArray, List.set_cons_zero, List.set_cons_succ]
        refine takeH (i := 10) (v := ?_) rfl (by kernel_rfl) (by kernel_rfl) (by kernel_rfl) (fun _ _ _ h => h) (Or.inl ⟨by rfl, ?_⟩) hHeld ?_
        rotate_left
        · intro w hSw
          go_simp
          try with_reducible rfl
        try simp only [Act.put, List.setIfInBounds_toArray, List.set_cons_zero, List.set_cons_succ]
        refine takeH (i := 11) (v := ?_) rfl (by kernel_rfl) (by kernel_rfl) (by kernel_rfl) (fun _ _ _ h => h) (Or.inl ⟨by rfl, ?_⟩) hHeld ?_
        rotate_left
        · intro w hSw
          go_simp
          try with_reducible rfl
        try simp only [Act.put, List.setIfInBounds_toArray, List.set_cons_zero, List.set_cons_succ]
        refine tkN (i := 12) rfl (by kernel_rfl) (by kernel_rfl) (by kernel_rfl) (fun _ _ _ h => h) (by rfl) hHeld ?_
        try simp only [Act.put, List.setIfInBounds_toArray, List.set_cons_zero, List.set_cons_succ]
        refine tkN (i := 13) rfl (by kernel_rfl) (by kernel_rfl) (by kernel_rfl) (fun _ _ _ h => h) (by rfl) hHeld ?_
        try simp only [Act.put, List.setIfInBounds_toArray, List.set_cons_zero, List.set_cons_succ]
        refine tkN (i := 14) rfl (by kernel_rfl) (by kernel_rfl) (by kernel_rfl) (fun _ _ _ h => h) (by rfl) hHeld ?_
        try simp only [Act.put, List.setIfInBounds_toArray, List.set_cons_zero, List.set_cons_succ]
        refine tkN (i := 15) rfl (by kernel_rfl) (by kernel_rfl) (by kernel_rfl) (fun _ _ _ h => h) (by rfl) hHeld ?_
        try simp only [Act.put, List.setIfInBounds_toArray, List.set_cons_zero, List.set_cons_succ]
        refine tkN (i := 17) rfl (by kernel_rfl) (by kernel_rfl) (by kernel_rfl) (fun _ _ _ h => h) (by rfl) hHeld ?_
        try simp only [Act.put, List.setIfInBounds_toArray, List.set_cons_zero, List.set_cons_succ]
        refine tkN (i := 18) rfl (by kernel_rfl) (by kernel_rfl) (by kernel_rfl) (fun _ _ _ h => h) (by rfl) hHeld ?_
        try simp only [Act.put, List.setIfInBounds_toArray, List.set_cons_zero, List.set_cons_succ]
        refine tkN (i := 19) rfl (by kernel_rfl) (by kernel_rfl) (by kernel_rfl) (fun _ _ _ h => h) (by rfl) hHeld ?_
        try simp only [Act.put, List.setIfInBounds_toArray, List.set_cons_zero, List.set_cons_succ]
        refine wpAnyH_ready (rs := [16]) (by decide +kernel) (by simp) ?_
        refine consH (i := 16) rfl (fun K hK => ?_) AllReadyH.nil
        rw [if_neg (fun h => Bool.false_ne_true ((show Region.wanted _ _ = false by rfl).symm.trans h))]
        refine hK.out _ _ hHeld (fun hHeld => ?_)
        clear hK K
        try simp only [Act.put, List.setIfInBounds_toArray, List.set_cons_zero, List.set_cons_succ]
        refine wpAnyH_ready (rs := [20]) (by decide +kernel) (by simp) ?_
        refine consH (i := 20) rfl (fun K hK => ?_) AllReadyH.nil
        rw [if_neg (fun h => Bool.false_ne_true ((show Region.wanted _ _ = false by rfl).symm.trans h))]
        refine hK.out _ _ hHeld (fun hHeld => ?_)
        clear hK K
        try simp only [Act.put, List.setIfInBounds_toArray, List.set_cons_zero, List.set_cons_succ]
        refine wpAnyH_ready (rs := [21]) (by decide +kernel) (by simp) ?_
        refine consH (i := 21) rfl (fun K hK => ?_) AllReadyH.nil
        rw [if_neg (fun h => Bool.false_ne_true ((show Region.wanted _ _ = false by rfl).symm.trans h))]
        refine hK.out _ _ hHeld (fun hHeld => ?_)
        clear hK K
        try simp only [Act.put, List.setIfInBounds_toArray, List.set_cons_zero, List.set_cons_succ]
        refine tkN (i := 22) rfl (by kernel_rfl) (by kernel_rfl) (by kernel_rfl) (fun _ _ _ h => h) (by rfl) hHeld ?_
        try simp only [Act.put, List.setIfInBounds_toArray, List.set_cons_zero, List.set_cons_succ]
        refine takeH (i := 23) (v := ?_) rfl (by kernel_rfl) (by kernel_rfl) (by kernel_rfl) (fun _ _ _ h => h) (Or.inl ⟨by rfl, ?_⟩) hHeld ?_
        rotate_left
        · intro w hSw
          go_simp
          try with_reducible rfl
        try simp only [Act.put, List.setIfInBounds_toArray, List.set_cons_zero, List.set_cons_succ]
        refine takeH (i := 24) (v := ?_) rfl (by kernel_rfl) (by kernel_rfl) (by kernel_rfl) (fun _ _ _ h => h) (Or.inl ⟨by rfl, ?_⟩) hHeld ?_
        rotate_left
        · intro w hSw
          go_simp
          try with_reducible rfl
        try simp only [Act.put, List.setIfInBounds_toArray, List.set_cons_zero, List.set_cons_succ]
        refine wpAnyH_done (by kernel_rfl) ?_ _
        go_wp2_with fail
        go_ret
        exact ⟨rfl, HBE.out.trans (hHeld.mono HBE.out.size)⟩
      · rcases h8 with rfl | rfl
        all_goals (
          go_wp2_with fail
          refine (Load_img HL10.out HZ2.out (g := 2) (by decide) (by rw [<-HF2.out]; exact HRD.out)).mono ?_
          rintro e w11 ⟨⟨v, rfl, hy11⟩, hB⟩; obtain ⟨D, hD⟩ : ∃ D, D = D2 := ⟨_, rfl⟩
          rw [<-hD] at hy11
          have hDl : D.length <= 30 := by rw [hD]; exact HZ2.out.len
          have HB11 := thB HB10 hB
          have hb10 : Below w5.heap.size w10 w11 := hB.mono HL10.out.base
          have ha11 := (HA2.out.keep hb10).more (Nat.le_trans HL10.out.base hB.size)
          rw [<-hD] at ha11
          have hpb : p < w10.heap.size := Nat.lt_of_lt_of_le HPL.out HL10.out.base
          have hv11 := HV10.out.below hB hpb
          have hy11' := hy11
          obtain ⟨A8, c8, s8, rfl, _, _, _⟩ := hy11
          obtain ⟨W, hW⟩ : ∃ W, W = w11.alloc (.cells #[.string (mk nx), .slice A8 D.length c8, .string s8.s, .int .i64 s8.t, .int .i64 s8.c, .int .i64 s8.l, .string s8.d] zoT) := ⟨_, rfl⟩
          obtain ⟨gy, hgy⟩ : ∃ gy, gy = w11.heap.size := ⟨_, rfl⟩
          have hbw : Below w11.heap.size w11 W := by rw [hW]; exact (Below.refl _ _).alloc (Nat.le_refl _) _
          have HWY := Ha (show Whole W gy zoT #[.string (mk nx), .slice A8 D.length c8, .string s8.s, .int .i64 s8.t, .int .i64 s8.c, .int .i64 s8.l, .string s8.d] by rw [hW, hgy]; exact Whole.new _ _ _)
          have HWZ := Ha (hv11.below hbw hv11.lt)
          have HBE := thB HB11 hbw
          have hyw := hy11'.later hbw
          have haw := ha11.later hbw
          unfold Z7.cells at haw
          have HYY := Ha (fun (w' : World) (h : Below W.heap.size W w') => hyw.later h)
          have HZZ := Ha (fun (w' : World) (h : Below W.heap.size W w') => haw.later h)
          have HSM := Ha (show sameX D D = true from sameX_is.2 rfl)
          have HW := Ha hW
          have HGY := Ha hgy
          clear hB hb10 hpb hv11 hy11' ha11 hW hgy hbw hyw haw hD HA1 HA2 HV10; have y0 : ∀ w' : World, Below W.heap.size W w' -> w'.cell? ⟨gy, 0, none⟩ = some (.string (mk nx)) := fun w' h => (h.cell HWY.out.lt).trans ((HWY.out.cell 0).trans rfl)
          have y1 : ∀ w' : World, Below W.heap.size W w' -> w'.cell? ⟨gy, 1, none⟩ = some (.slice A8 D.length c8) := fun w' h => (h.cell HWY.out.lt).trans ((HWY.out.cell 1).trans rfl)
          have y2 : ∀ w' : World, Below W.heap.size W w' -> w'.cell? ⟨gy, 2, none⟩ = some (.string s8.s) := fun w' h => (h.cell HWY.out.lt).trans ((HWY.out.cell 2).trans rfl)
          have y3 : ∀ w' : World, Below W.heap.size W w' -> w'.cell? ⟨gy, 3, none⟩ = some (.int .i64 s8.t) := fun w' h => (h.cell HWY.out.lt).trans ((HWY.out.cell 3).trans rfl)
          have y4 : ∀ w' : World, Below W.heap.size W w' -> w'.cell? ⟨gy, 4, none⟩ = some (.int .i64 s8.c) := fun w' h => (h.cell HWY.out.lt).trans ((HWY.out.cell 4).trans rfl)
          have y5 : ∀ w' : World, Below W.heap.size W w' -> w'.cell? ⟨gy, 5, none⟩ = some (.int .i64 s8.l) := fun w' h => (h.cell HWY.out.lt).trans ((HWY.out.cell 5).trans rfl)
          have y6 : ∀ w' : World, Below W.heap.size W w' -> w'.cell? ⟨gy, 6, none⟩ = some (.string s8.d) := fun w' h => (h.cell HWY.out.lt).trans ((HWY.out.cell 6).trans rfl)
          have z10' : ∀ w' : World, Below W.heap.size W w' -> w'.cell? ⟨p, 7, none⟩ = some (.string z2.s) := fun w' h => (h.cell HWZ.out.lt).trans ((HWZ.out.cell 7).trans rfl)
          have z11' : ∀ w' : World, Below W.heap.size W w' -> w'.cell? ⟨p, 8, none⟩ = some (.slice z2.A z2.n z2.c) := fun w' h => (h.cell HWZ.out.lt).trans ((HWZ.out.cell 8).trans rfl)
          have z12' : ∀ w' : World, Below W.heap.size W w' -> w'.cell? ⟨p, 9, none⟩ = some (.string z2.t) := fun w' h => (h.cell HWZ.out.lt).trans ((HWZ.out.cell 9).trans rfl)
          have z13' : ∀ w' : World, Below W.heap.size W w' -> w'.cell? ⟨p, 10, none⟩ = some (.int .i64 z2.x) := fun w' h => (h.cell HWZ.out.lt).trans ((HWZ.out.cell 10).trans rfl)
          have z14' : ∀ w' : World, Below W.heap.size W w' -> w'.cell? ⟨p, 11, none⟩ = some (.int .i64 z2.y) := fun w' h => (h.cell HWZ.out.lt).trans ((HWZ.out.cell 11).trans rfl)
          have z15' : ∀ w' : World, Below W.heap.size W w' -> w'.cell? ⟨p, 12, none⟩ = some (.int .i64 z2.z) := fun w' h => (h.cell HWZ.out.lt).trans ((HWZ.out.cell 12).trans rfl)
          have z16' : ∀ w' : World, Below W.heap.size W w' -> w'.cell? ⟨p, 13, none⟩ = some (.string z2.d) := fun w' h => (h.cell HWZ.out.lt).trans ((HWZ.out.cell 13).trans rfl)
          go_wp2_with fail
          rw [<-HW.out, <-HGY.out]
          refine wp_region_held_drew (S := fun w' => Below W.heap.size W w') (by kernel_rfl) (Below.refl _ _).drew (fun hHeld => ?_)
          refine takeH (i := 0) (v := ?_) rfl (by kernel_rfl) (by kernel_rfl) (by kernel_rfl) (fun _ _ _ h => h) (Or.inl ⟨by rfl, ?_⟩) hHeld ?_
          rotate_left
          · intro w hSw
            go_simp
            try with_reducible rfl
          try simp only [Act.put, List.setIfInBounds_toArray, List.set_cons_zero, List.set_cons_succ]
          refine takeH (i := 1) (v := ?_) rfl (by kernel_rfl) (by kernel_rfl) (by kernel_rfl) (fun _ _ _ h => h) (Or.inl ⟨by rfl, ?_⟩) hHeld ?_
          rotate_left
          · intro w hSw
            go_simp
            try with_reducible rfl
          try simp only [Act.put, List.setIfInBounds_toArray, List.set_cons_zero, List.set_cons_succ]
          refine takeH (i := 2) (v := ?_) rfl (by kernel_rfl) (by kernel_rfl) (by kernel_rfl) (fun _ _ _ h => h) (Or.inl ⟨by rfl, ?_⟩) hHeld ?_
          rotate_left
          · intro w hSw
            go_simp
            try with_reducible rfl
          try simp only [Act.put, List.setIfInBounds_toArray, List.set_cons_zero, List.set_cons_succ]
          refine tkN (i := 3) rfl (by kernel_rfl) (by kernel_rfl) (by kernel_rfl) (fun _ _ _ h => h) (by rfl) hHeld ?_
          try simp only [Act.put, List.setIfInBounds_toArray, List.set_cons_zero, List.set_cons_succ]
          refine tkN (i := 5) rfl (by kernel_rfl) (by kernel_rfl) (by kernel_rfl) (fun _ _ _ h => h) (by rfl) hHeld ?_
          try simp only [Act.put, List.setIfInBounds_toArray, List.set_cons_zero, List.set_cons_succ]
          refine tkN (i := 6) rfl (by kernel_rfl) (by kernel_rfl) (by kernel_rfl) (fun _ _ _ h => h) (by rfl) hHeld ?_
          try simp only [Act.put, List.setIfInBounds_toArray, List.set_cons_zero, List.set_cons_succ]
          refine tkN (i := 7) rfl (by kernel_rfl) (by kernel_rfl) (by kernel_rfl) (fun _ _ _ h => h) (by rfl) hHeld ?_
          try simp only [Act.put, List.setIfInBounds_toArray, List.set_cons_zero, List.set_cons_succ]
          refine wpAnyH_ready (rs := [4]) (by decide +kernel) (by simp) ?_
          refine consH (i := 4) rfl (fun K hK => ?_) AllReadyH.nil
          rw [if_neg (fun h => Bool.false_ne_true ((show Region.wanted _ _ = false by rfl).symm.trans h))]
          refine hK.out _ _ hHeld (fun hHeld => ?_)
          clear hK K
          try simp only [Act.put, List.setIfInBounds_toArray, List.set_cons_zero, List.set_cons_succ]
          refine wpAnyH_ready (rs := [8]) (by decide +kernel) (by simp) ?_
          refine consH (i := 8) rfl (fun K hK => ?_) AllReadyH.nil
          rw [if_neg (fun h => Bool.false_ne_true ((show Region.wanted _ _ = false by rfl).symm.trans h))]
          refine hK.out _ _ hHeld (fun hHeld => ?_)
          clear hK K
          try simp only [Act.put, List.setIfInBounds_toArray, List.set_cons_zero, List.set_cons_succ]
          refine wpAnyH_ready (rs := [9]) (by decide +kernel) (by simp) ?_
          refine consH (i := 9) rfl (fun K hK => ?_) AllReadyH.nil
          rw [if_neg (fun h => Bool.false_ne_true ((show Region.wanted _ _ = false by rfl).symm.trans h))]
          refine hK.out _ _ hHeld (fun hHeld => ?_)
          clear hK K
          try simp only [Act.put, List.setIfInBounds_toArray, List.set_cons_zero, List.set_cons_succ]
          refine takeH (i := 10) (v := ?_) rfl (by kernel_rfl) (by kernel_rfl) (by kernel_rfl) (fun _ _ _ h => h) (Or.inl ⟨by rfl, ?_⟩) hHeld ?_
          rotate_left
          · intro w hSw
            go_simp
            try with_reducible rfl
          try simp only [Act.put, List.setIfInBounds_toArray, List.set_cons_zero, List.set_cons_succ]
          refine takeH (i := 11) (v := ?_) rfl (by kernel_rfl) (by kernel_rfl) (by kernel_rfl) (fun _ _ _ h => h) (Or.inl ⟨by rfl, ?_⟩) hHeld ?_
          rotate_left
          · intro w hSw
            go_simp
            try with_reducible rfl
          try simp only [Act.put, List.setIfInBounds_toArray, List.set_cons_zero, List.set_cons_succ]
          refine takeH (i := 12) (v := ?_) rfl (by kernel_rfl) (by kernel_rfl) (by kernel_rfl) (fun _ _ _ h => h) (Or.inl ⟨by rfl, ?_⟩) hHeld ?_
          rotate_left
          · intro w hSw
            go_simp
            try with_reducible rfl
          try simp only [Act.put, List.setIfInBounds_toArray, List.set_cons_zero, List.set_cons_succ]
          refine takeH (i := 13) (v := ?_) rfl (by kernel_rfl) (by kernel_rfl) (by kernel_rfl) (fun _ _ _ h => h) (Or.inl ⟨by rfl, ?_⟩) hHeld ?_
          rotate_left
          · intro w hSw
            go_simp
            try with_reducible rfl
          try simp only [Act.put, List.setIfInBounds_toArray, List.set_cons_zero, List.set_cons_succ]
          refine takeH (i := 14) (v := ?_) rfl (by kernel_rfl) (by kernel_rfl) (by kernel_rfl) (fun _ _ _ h => h) (Or.inl ⟨by rfl, ?_⟩) hHeld ?_
          rotate_left
          · intro w hSw
            go_simp
            try with_reducible rfl
          try simp only [Act.put, List.setIfInBounds_toArray, List.set_cons_zero, List.set_cons_succ]
          refine takeH (i := 15) (v := ?_) rfl (by kernel_rfl) (by kernel_rfl) (by kernel_rfl) (fun _ _ _ h => h) (Or.inl ⟨by rfl, ?_⟩) hHeld ?_
          rotate_left
          · intro w hSw
            go_simp
            try with_reducible rfl
          try simp only [Act.put, List.setIfInBounds_toArray, List.set_cons_zero, List.set_cons_succ]
          refine takeH (i := 17) (v := ?_) rfl (by kernel_rfl) (by kernel_rfl) (by kernel_rfl) (fun _ _ _ h => h) (Or.inl ⟨by rfl, ?_⟩) hHeld ?_
          rotate_left
          · intro w hSw
            go_simp
            try with_reducible rfl
          try simp only [Act.put, List.setIfInBounds_toArray, List.set_cons_zero, List.set_cons_succ]
          refine takeH (i := 18) (v := ?_) rfl (by kernel_rfl) (by kernel_rfl) (by kernel_rfl) (fun _ _ _ h => h) (Or.inl ⟨by rfl, ?_⟩) hHeld ?_
          rotate_left
          · intro w hSw
            go_simp
            try with_reducible rfl
          try simp only [Act.put, List.setIfInBounds_toArray, List.set_cons_zero, List.set_cons_succ]
          refine takeH (i := 19) (v := ?_) rfl (by kernel_rfl) (by kernel_rfl) (by kernel_rfl) (fun _ _ _ h => h) (Or.inl ⟨by rfl, ?_⟩) hHeld ?_
          rotate_left
          · intro w hSw
            go_simp
            try with_reducible rfl
          try simp only [Act.put, List.setIfInBounds_toArray, List.set_cons_zero, List.set_cons_succ]
          refine wpAnyH_ready (rs := [16]) (by decide +kernel) (by simp) ?_
          refine consH (i := 16) rfl (fun K hK => ?_) AllReadyH.nil
          go_simp
          refine (All_any _ D _ _ (HYY.out _ hHeld) (by omega)).mono ?_
          rintro e ua ⟨va, rfl, hoa, hBa⟩; obtain ⟨Qa, oa, rfl, hsa, _⟩ := own_sees hoa
          have hTa := hHeld.trans (hBa.mono hHeld.size)
          go_wp2_with fail
          refine hK.out _ _ ?_ (fun hHeld => ?_)
          · exact hTa
          clear hK K
          try simp only [Act.put, List.setIfInBounds_toArray, List.set_cons_zero, List.set_cons_succ]
          refine wpAnyH_ready (rs := [20]) (by decide +kernel) (by simp) ?_
          refine consH (i := 20) rfl (fun K hK => ?_) AllReadyH.nil
          go_simp
          refine (All_any _ D _ _ (HZZ.out _ hHeld) (by omega)).mono ?_
          rintro e ub ⟨vb, rfl, hob, hBb⟩; obtain ⟨Qb, ob, rfl, hsb, _⟩ := own_sees hob
          have hsa := (hsa.keep hBb).more hBb.size
          have hTb := hHeld.trans (hBb.mono hHeld.size)
          go_wp2_with fail
          refine hK.out _ _ ?_ (fun hHeld => ?_)
          · exact hTb
          clear hK K
          try simp only [Act.put, List.setIfInBounds_toArray, List.set_cons_zero, List.set_cons_succ]
          refine wpAnyH_ready (rs := [21]) (by decide +kernel) (by simp) ?_
          refine consH (i := 21) rfl (fun K hK => ?_) AllReadyH.nil
          go_simp
          refine (Same_any Qa Qb D.length oa D.length ob D D _ hsa hsb (by omega)).mono ?_
          rw [HSM.out]
          rintro e uc ⟨rfl, hBc⟩; have hTc := hHeld.trans (hBc.mono hHeld.size)
          go_wp2_with fail
          refine hK.out _ _ ?_ (fun hHeld => ?_)
          · exact hTc
          clear hK K
          try simp only [Act.put, List.setIfInBounds_toArray, List.set_cons_zero, List.set_cons_succ]
          refine takeH (i := 22) (v := ?_) rfl (by kernel_rfl) (by kernel_rfl) (by kernel_rfl) (fun _ _ _ h => h) (Or.inl ⟨by rfl, ?_⟩) hHeld ?_
          rotate_left
          · intro w hSw
            go_simp
            try with_reducible rfl
          try simp only [Act.put, List.setIfInBounds_toArray, List.set_cons_zero, List.set_cons_succ]
          refine takeH (i := 23) (v := ?_) rfl (by kernel_rfl) (by kernel_rfl) (by kernel_rfl) (fun _ _ _ h => h) (Or.inl ⟨by rfl, ?_⟩) hHeld ?_
          rotate_left
          · intro w hSw
            go_simp
            try with_reducible rfl
          try simp only [Act.put, List.setIfInBounds_toArray, List.set_cons_zero, List.set_cons_succ]
          refine takeH (i := 24) (v := ?_) rfl (by kernel_rfl) (by kernel_rfl) (by kernel_rfl) (fun _ _ _ h => h) (Or.inl ⟨by rfl, ?_⟩) hHeld ?_
          rotate_left
          · intro w hSw
            go_simp
            try with_reducible rfl
          try simp only [Act.put, List.setIfInBounds_toArray, List.set_cons_zero, List.set_cons_succ]
          refine wpAnyH_done (by kernel_rfl) ?_ _
          go_wp2_with fail
          go_ret
          exact ⟨rfl, HBE.out.trans (hHeld.mono HBE.out.size)⟩
          )
end Go.Proofs.YtmpginmdaeclaaaGreat
