/- LookupFinds. No statement of the seat is proved here. (written by gen_l.py) -/
import Derived.Test.YtkgihfoknpimfaaGreatLkF
import Derived.Test.YtkgihfoknpimfaaGreatLkE
namespace Go.Proofs.YtkgihfoknpimfaaGreat
open Go.RowKit Go.Op
set_option linter.unusedVariables false
attribute [local go_sem] rr_eql rr_guard

set_option maxHeartbeats 32000000 in
set_option maxRecDepth 20000 in
theorem LookupFinds_walk (A : Option Addr) (n c : Nat) (xs : List Rrd) (P : ByteArray) (w : World) (hx : SeesR w w.heap.size A n xs) (h63 : n ≤ 9223372036854775807) :
    Calls Tryz.prog 4 #[.slice A n c, .string P] w fun e w' => e = .returned (.bool true) ∧ Below w.heap.size w w' := by
  obtain ⟨nn, hnn⟩ : ∃ nn : List UInt8, nn = [2, 101, 120, 0] := ⟨_, rfl⟩
  have HN := Lib.hid (show (⟨#[2, 101, 120, 0]⟩ : ByteArray) = mk nn by rw [hnn]; rfl)
  have HX := Lib.hid hx
  have HLX := Lib.hid hx.1
  clear hx hnn
  obtain ⟨pp, hpp⟩ : ∃ pp, P = mk pp := ⟨_, (mk_toList P).symm⟩
  have HP := Lib.hid hpp
  have HPL := Lib.hid (show pp.length = P.size by rw [hpp, mk_size])
  clear hpp
  cases hf : fewL xs with
  | false =>
    have HF := Lib.hid hf
    clear hf
    go_enter Tryz.func4, Tryz.ntmps4
    go_wp2_with fail
    refine (lawake_any _).mono ?_
    rintro e w1 ⟨rfl, hB⟩
    have HB1 := Lib.hid hB
    have HX1 := Lib.hid ((HX.out.keep hB).more hB.size)
    clear hB
    go_wp2_with fail
    refine (Few_any A n c xs _ HX1.out h63).mono ?_
    rw [HF.out]
    rintro e w2 ⟨rfl, hB⟩
    have HB2 := Lib.hid (HB1.out.trans (hB.mono HB1.out.size))
    have HX2 := Lib.hid ((HX1.out.keep hB).more hB.size)
    clear hB
    go_wp2_with fail
    refine (lawake_any _).mono ?_
    rintro e w3 ⟨rfl, hB⟩
    have HB3 := Lib.hid (HB2.out.trans (hB.mono HB2.out.size))
    have HX3 := Lib.hid ((HX2.out.keep hB).more hB.size)
    clear hB
    go_wp2_with fail
    go_ret
    exact ⟨rfl, HB3.out⟩
  | true =>
    obtain ⟨h30, hlow⟩ := fewL_is hf
    have hn30 : n ≤ 30 := by have := HLX.out; omega
    have HLOW := Lib.hid hlow
    have HF := Lib.hid hf
    clear hf hlow h30
    by_cases hp6 : P.size ≤ 600
    · have gp : ¬ ((P.size : Int) > 600) := by omega
      have hl : pp.length ≤ 1000000 := by have := HPL.out; omega
      go_enter Tryz.func4, Tryz.ntmps4
      go_wp2_with fail
      refine (lawake_any _).mono ?_
      rintro e w1 ⟨rfl, hB⟩
      have HB1 := Lib.hid hB
      have HX1 := Lib.hid ((HX.out.keep hB).more hB.size)
      clear hB
      go_wp2_with fail
      refine (Few_any A n c xs _ HX1.out h63).mono ?_
      rw [HF.out]
      rintro e w2 ⟨rfl, hB⟩
      have HB2 := Lib.hid (HB1.out.trans (hB.mono HB1.out.size))
      have HX2 := Lib.hid ((HX1.out.keep hB).more hB.size)
      clear hB
      go_wp2_with fail
      refine (ZNew_any A n c ⟨#[2, 101, 120, 0]⟩ nn xs _ HN.out HX2.out (by omega) HLOW.out).mono ?_
      rintro e w3 ⟨h, hB⟩
      have HB3 := Lib.hid (HB2.out.trans (hB.mono HB2.out.size))
      have HX3 := Lib.hid ((HX2.out.keep hB).more hB.size)
      clear hB
      rcases h with ⟨hc, rfl⟩ | ⟨hc, rfl⟩ | ⟨hc, z, rfl, hz⟩
      · have HC := Lib.hid hc
        have hb4 : Below w3.heap.size w3 (w3.alloc (.cells #[.string ⟨#[]⟩, .slice none 0 0, .string ⟨#[]⟩, .int .i64 0, .int .i64 0, .int .i64 0, .string ⟨#[]⟩] zoT)) := (Below.refl _ _).alloc (Nat.le_refl _) _
        have HB4 := Lib.hid (HB3.out.trans (hb4.mono HB3.out.size))
        have HX4 := Lib.hid ((HX3.out.keep hb4).more hb4.size)
        clear hb4
        clear hc
        unfold zeroZ
        go_wp2_with fail
        refine (RefNew_any A n c ⟨#[2, 101, 120, 0]⟩ nn xs _ HN.out HX4.out (by omega) HLOW.out).mono ?_
        rintro e w5 ⟨h, hB⟩
        have HB5 := Lib.hid (HB4.out.trans (hB.mono HB4.out.size))
        clear hB
        rcases h with ⟨hc, rfl⟩ | ⟨hc, rfl⟩ | ⟨hc, z, rfl, hz⟩
        · clear hc
          go_wp2_with fail
          go_ret
          exact ⟨rfl, HB5.out.alloc HB5.out.size _⟩
        · rw [HC.out] at hc; cases hc
        · rw [HC.out] at hc; cases hc
      · have HC := Lib.hid hc
        have hb4 : Below w3.heap.size w3 (w3.alloc (.cells #[.string ⟨#[]⟩, .slice none 0 0, .string ⟨#[]⟩, .int .i64 0, .int .i64 0, .int .i64 0, .string ⟨#[]⟩] zoT)) := (Below.refl _ _).alloc (Nat.le_refl _) _
        have HB4 := Lib.hid (HB3.out.trans (hb4.mono HB3.out.size))
        have HX4 := Lib.hid ((HX3.out.keep hb4).more hb4.size)
        clear hb4
        clear hc
        unfold zeroZ
        go_wp2_with fail
        refine (RefNew_any A n c ⟨#[2, 101, 120, 0]⟩ nn xs _ HN.out HX4.out (by omega) HLOW.out).mono ?_
        rintro e w5 ⟨h, hB⟩
        have HB5 := Lib.hid (HB4.out.trans (hB.mono HB4.out.size))
        clear hB
        rcases h with ⟨hc, rfl⟩ | ⟨hc, rfl⟩ | ⟨hc, z, rfl, hz⟩
        · rw [HC.out] at hc; cases hc
        · clear hc
          go_wp2_with fail
          go_ret
          exact ⟨rfl, HB5.out.alloc HB5.out.size _⟩
        · rw [HC.out] at hc; cases hc
      · have HC := Lib.hid hc
        obtain ⟨hname, hall, hisz⟩ := codeZ_zero hc
        have hok := HLOW.out.ok hall
        obtain ⟨D, hD⟩ : ∃ D, D = ofC xs := ⟨_, rfl⟩
        have hset : SetL cX D := by rw [hD]; exact ofC_set xs
        have hokD : OkL D := by rw [hD]; exact hok.ofC
        have hDl : D.length ≤ 30 := by rw [hD]; have := ofC_len xs; have := HLX.out; omega
        rw [← hD] at hz hisz
        have HDE := Lib.hid hD
        have HNAME := Lib.hid hname
        have HISZ := Lib.hid hisz
        have HSET := Lib.hid hset
        have HKD := Lib.hid hset.keys
        have HOKD := Lib.hid hokD
        have HZ3 := Lib.hid hz
        obtain ⟨A3, c3, s3, rfl, _, _, hsoa⟩ := hz
        have HSOA := Lib.hid hsoa
        clear hc hname hall hisz hok hD hset hokD hsoa
        have hw0 := Whole.new w3 zoT #[.string ⟨#[2, 101, 120, 0]⟩, .slice A3 D.length c3, .string s3.s, .int .i64 s3.t, .int .i64 s3.c, .int .i64 s3.l, .string s3.d]
        have hB0 : Below w3.heap.size w3 (w3.alloc (.cells #[.string ⟨#[2, 101, 120, 0]⟩, .slice A3 D.length c3, .string s3.s, .int .i64 s3.t, .int .i64 s3.c, .int .i64 s3.l, .string s3.d] zoT)) := (Below.refl _ _).alloc (Nat.le_refl _) _
        have HZ4 := Lib.hid (HZ3.out.later hB0)
        have HWZ4 := Lib.hid hw0
        have HX4 := Lib.hid ((HX3.out.keep hB0).more hB0.size)
        have HB4 := Lib.hid (HB3.out.trans (hB0.mono HB3.out.size))
        clear hw0 hB0
        go_wp2_with fail
        refine (RefNew_any A n c ⟨#[2, 101, 120, 0]⟩ nn xs _ HN.out HX4.out (by omega) HLOW.out).mono ?_
        rintro e w5 ⟨h, hB⟩
        have HZ5 := Lib.hid (HZ4.out.later hB)
        have HWZ5 := Lib.hid (HWZ4.out.below hB HWZ4.out.lt)
        have HB5 := Lib.hid (HB4.out.trans (hB.mono HB4.out.size))
        clear hB
        rcases h with ⟨hc, _⟩ | ⟨hc, _⟩ | ⟨_, r5, rfl, hr5⟩
        · rw [HC.out] at hc; cases hc
        · rw [HC.out] at hc; cases hc
        · rw [← HDE.out] at hr5
          have HR5 := Lib.hid hr5
          obtain ⟨A5, c5, rfl, hs5, _⟩ := hr5
          have hw0 := Whole.new w5 rzT #[.string ⟨#[2, 101, 120, 0]⟩, .slice A5 D.length c5]
          have hB0 : Below w5.heap.size w5 (w5.alloc (.cells #[.string ⟨#[2, 101, 120, 0]⟩, .slice A5 D.length c5] rzT)) := (Below.refl _ _).alloc (Nat.le_refl _) _
          obtain ⟨W6, hW6⟩ : ∃ W, W = w5.alloc (.cells #[.string ⟨#[2, 101, 120, 0]⟩, .slice A5 D.length c5] rzT) := ⟨_, rfl⟩
          rw [← hW6] at hw0 hB0
          have HZ6 := Lib.hid (HZ5.out.later hB0)
          have HWZ6 := Lib.hid (HWZ5.out.below hB0 HWZ5.out.lt)
          have HR6 := Lib.hid (HR5.out.later hB0)
          have HS6 := Lib.hid ((hs5.keep hB0).more hB0.size)
          have HWR6 := Lib.hid hw0
          have HB6 := Lib.hid (HB5.out.trans (hB0.mono HB5.out.size))
          have HW6 := Lib.hid hW6
          obtain ⟨gz, hgz⟩ : ∃ g, g = w3.heap.size := ⟨_, rfl⟩
          obtain ⟨gw, hgw⟩ : ∃ g, g = w5.heap.size := ⟨_, rfl⟩
          rw [← hgz] at HWZ6
          rw [← hgw] at HWR6
          have HGZ := Lib.hid hgz
          have HGW := Lib.hid hgw
          clear hw0 hB0 hs5 hW6 hgz hgw
          have GZ := Lib.hid (show GoodZ nn D from ⟨HOKD.out, HKD.out, HISZ.out, HNAME.out, by omega⟩)
          obtain ⟨C, hC⟩ : ∃ C, C = mk ((cutZ D nn pp).getD []) := ⟨_, rfl⟩
          obtain ⟨q1, hq1⟩ : ∃ q, q = (cutZ D nn pp).isSome := ⟨_, rfl⟩
          obtain ⟨E, hE⟩ : ∃ C, C = mk ((clsZ D nn pp).getD []) := ⟨_, rfl⟩
          obtain ⟨q2, hq2⟩ : ∃ q, q = (clsZ D nn pp).isSome := ⟨_, rfl⟩
          obtain ⟨l, hl'⟩ : ∃ l, l = (fndZ D nn pp).1 := ⟨_, rfl⟩
          obtain ⟨q3, hq3⟩ : ∃ q, q = (fndZ D nn pp).2 := ⟨_, rfl⟩
          obtain ⟨r, hr⟩ : ∃ r, r = noZ D := ⟨_, rfl⟩
          have HC := Lib.hid hC
          have HQ1 := Lib.hid hq1
          have HE := Lib.hid hE
          have HQ2 := Lib.hid hq2
          have HL := Lib.hid hl'
          have HQ3 := Lib.hid hq3
          have HRR := Lib.hid hr
          have HO1 := Lib.hid (show optE (cutZ D nn pp) = .returned (.tuple #[.string C, .bool q1]) by rw [hC, hq1]; rfl)
          have HO2 := Lib.hid (show optE (clsZ D nn pp) = .returned (.tuple #[.string E, .bool q2]) by rw [hE, hq2]; rfl)
          have HLL := Lib.hid (show l.length ≤ 1073741824 by rw [hl']; have := fnd_len D nn pp; omega)
          have HSM := Lib.hid (show sameX l l = true from sameX_is.2 rfl)
          have geq : eqX r r = true := eqX_is.2 rfl
          have gq1 : (q1 == q1) = true := by simp
          have gq2 : (q2 == q2) = true := by simp
          have gq3 : (q3 == q3) = true := by simp
          clear hC hq1 hE hq2 hl' hq3 hr
          obtain ⟨c0, c1, c2, c3', c4, c5', c6⟩ := zo_facts HWZ6.out
          have d0 : W6.cell? ⟨gw, 0, none⟩ = some (.string ⟨#[2, 101, 120, 0]⟩) := (HWR6.out.cell 0).trans rfl
          have d1 : W6.cell? ⟨gw, 1, none⟩ = some (.slice A5 D.length c5) := (HWR6.out.cell 1).trans rfl
          rw [HW6.out, HGZ.out] at c0 c1 c2 c3' c4 c5' c6
          rw [HW6.out, HGW.out] at d0 d1
          go_wp2_with fail
          rw [← HW6.out, ← HGZ.out, ← HGW.out]
          refine (LCut_any ⟨#[2, 101, 120, 0]⟩ nn D _ _ HZ6.out GZ.out P pp HN.out HP.out hl).mono ?_
          rw [← HC.out, ← HQ1.out]
          rintro e w7 ⟨rfl, hB⟩
          clear c0 c1 c2 c3' c4 c5' c6 d0 d1
          have HWZ7 := Lib.hid (HWZ6.out.below hB HWZ6.out.lt)
          have HWR7 := Lib.hid (HWR6.out.below hB HWR6.out.lt)
          have HZ7 := Lib.hid (HZ6.out.later hB)
          have HR7 := Lib.hid (HR6.out.later hB)
          have HB7 := Lib.hid (HB6.out.trans (hB.mono HB6.out.size))
          clear hB
          obtain ⟨c0, c1, c2, c3', c4, c5', c6⟩ := zo_facts HWZ7.out
          have d0 : w7.cell? ⟨gw, 0, none⟩ = some (.string ⟨#[2, 101, 120, 0]⟩) := (HWR7.out.cell 0).trans rfl
          have d1 : w7.cell? ⟨gw, 1, none⟩ = some (.slice A5 D.length c5) := (HWR7.out.cell 1).trans rfl
          go_wp2_with fail
          refine (RZCut_any ⟨#[2, 101, 120, 0]⟩ nn D GZ.out HN.out _ P pp _ _ HP.out HR7.out (Nat.le_refl _)).mono ?_
          rw [HO1.out]
          rintro e w8 ⟨rfl, hB⟩
          clear c0 c1 c2 c3' c4 c5' c6 d0 d1
          have HWZ8 := Lib.hid (HWZ7.out.below hB HWZ7.out.lt)
          have HWR8 := Lib.hid (HWR7.out.below hB HWR7.out.lt)
          have HZ8 := Lib.hid (HZ7.out.later hB)
          have HR8 := Lib.hid (HR7.out.later hB)
          have HB8 := Lib.hid (HB7.out.trans (hB.mono HB7.out.size))
          clear hB
          obtain ⟨c0, c1, c2, c3', c4, c5', c6⟩ := zo_facts HWZ8.out
          have d0 : w8.cell? ⟨gw, 0, none⟩ = some (.string ⟨#[2, 101, 120, 0]⟩) := (HWR8.out.cell 0).trans rfl
          have d1 : w8.cell? ⟨gw, 1, none⟩ = some (.slice A5 D.length c5) := (HWR8.out.cell 1).trans rfl
          go_wp2_with fail
          refine (LClosest_any ⟨#[2, 101, 120, 0]⟩ nn D _ _ HZ8.out GZ.out P pp HN.out HP.out hl).mono ?_
          rw [← HE.out, ← HQ2.out]
          rintro e w9 ⟨rfl, hB⟩
          clear c0 c1 c2 c3' c4 c5' c6 d0 d1
          have HWZ9 := Lib.hid (HWZ8.out.below hB HWZ8.out.lt)
          have HWR9 := Lib.hid (HWR8.out.below hB HWR8.out.lt)
          have HZ9 := Lib.hid (HZ8.out.later hB)
          have HR9 := Lib.hid (HR8.out.later hB)
          have HB9 := Lib.hid (HB8.out.trans (hB.mono HB8.out.size))
          clear hB
          obtain ⟨c0, c1, c2, c3', c4, c5', c6⟩ := zo_facts HWZ9.out
          have d0 : w9.cell? ⟨gw, 0, none⟩ = some (.string ⟨#[2, 101, 120, 0]⟩) := (HWR9.out.cell 0).trans rfl
          have d1 : w9.cell? ⟨gw, 1, none⟩ = some (.slice A5 D.length c5) := (HWR9.out.cell 1).trans rfl
          go_wp2_with fail
          refine (RZClosest_any ⟨#[2, 101, 120, 0]⟩ nn D GZ.out HN.out _ P pp _ _ HP.out HR9.out (Nat.le_refl _)).mono ?_
          rw [HO2.out]
          rintro e w10 ⟨rfl, hB⟩
          clear c0 c1 c2 c3' c4 c5' c6 d0 d1
          have HWZ10 := Lib.hid (HWZ9.out.below hB HWZ9.out.lt)
          have HWR10 := Lib.hid (HWR9.out.below hB HWR9.out.lt)
          have HZ10 := Lib.hid (HZ9.out.later hB)
          have HR10 := Lib.hid (HR9.out.later hB)
          have HB10 := Lib.hid (HB9.out.trans (hB.mono HB9.out.size))
          clear hB
          obtain ⟨c0, c1, c2, c3', c4, c5', c6⟩ := zo_facts HWZ10.out
          have d0 : w10.cell? ⟨gw, 0, none⟩ = some (.string ⟨#[2, 101, 120, 0]⟩) := (HWR10.out.cell 0).trans rfl
          have d1 : w10.cell? ⟨gw, 1, none⟩ = some (.slice A5 D.length c5) := (HWR10.out.cell 1).trans rfl
          go_wp2_with fail
          refine (LFind_any ⟨#[2, 101, 120, 0]⟩ nn D _ _ HZ10.out GZ.out P pp HN.out HP.out hl).mono ?_
          rw [← HL.out, ← HQ3.out]
          rintro e w11 ⟨⟨Ax, kx, rfl, hsx⟩, hB⟩
          have HSX11 := Lib.hid hsx
          clear hsx
          clear c0 c1 c2 c3' c4 c5' c6 d0 d1
          have HWZ11 := Lib.hid (HWZ10.out.below hB HWZ10.out.lt)
          have HWR11 := Lib.hid (HWR10.out.below hB HWR10.out.lt)
          have HZ11 := Lib.hid (HZ10.out.later hB)
          have HR11 := Lib.hid (HR10.out.later hB)
          have HB11 := Lib.hid (HB10.out.trans (hB.mono HB10.out.size))
          clear hB
          obtain ⟨c0, c1, c2, c3', c4, c5', c6⟩ := zo_facts HWZ11.out
          have d0 : w11.cell? ⟨gw, 0, none⟩ = some (.string ⟨#[2, 101, 120, 0]⟩) := (HWR11.out.cell 0).trans rfl
          have d1 : w11.cell? ⟨gw, 1, none⟩ = some (.slice A5 D.length c5) := (HWR11.out.cell 1).trans rfl
          go_wp2_with fail
          refine (RZFind_any ⟨#[2, 101, 120, 0]⟩ nn D GZ.out HN.out _ _ HR11.out P pp HP.out).mono ?_
          rw [← HL.out, ← HQ3.out]
          rintro e w12 ⟨⟨Ay, ky, rfl, hsy⟩, hB⟩
          have HSX12 := Lib.hid ((HSX11.out.keep hB).more hB.size)
          have HSY12 := Lib.hid hsy
          clear hsy
          clear c0 c1 c2 c3' c4 c5' c6 d0 d1
          have HWZ12 := Lib.hid (HWZ11.out.below hB HWZ11.out.lt)
          have HWR12 := Lib.hid (HWR11.out.below hB HWR11.out.lt)
          have HZ12 := Lib.hid (HZ11.out.later hB)
          have HR12 := Lib.hid (HR11.out.later hB)
          have HB12 := Lib.hid (HB11.out.trans (hB.mono HB11.out.size))
          clear hB
          have z0 : ∀ q : Later w12, q.val.cell? ⟨gz, 0, none⟩ = some (.string ⟨#[2, 101, 120, 0]⟩) := fun q => ((HWZ12.out.later q).cell 0).trans rfl
          have z1 : ∀ q : Later w12, q.val.cell? ⟨gz, 1, none⟩ = some (.slice A3 D.length c3) := fun q => ((HWZ12.out.later q).cell 1).trans rfl
          have z2 : ∀ q : Later w12, q.val.cell? ⟨gz, 2, none⟩ = some (.string s3.s) := fun q => ((HWZ12.out.later q).cell 2).trans rfl
          have z3 : ∀ q : Later w12, q.val.cell? ⟨gz, 3, none⟩ = some (.int .i64 s3.t) := fun q => ((HWZ12.out.later q).cell 3).trans rfl
          have z4 : ∀ q : Later w12, q.val.cell? ⟨gz, 4, none⟩ = some (.int .i64 s3.c) := fun q => ((HWZ12.out.later q).cell 4).trans rfl
          have z5 : ∀ q : Later w12, q.val.cell? ⟨gz, 5, none⟩ = some (.int .i64 s3.l) := fun q => ((HWZ12.out.later q).cell 5).trans rfl
          have z6 : ∀ q : Later w12, q.val.cell? ⟨gz, 6, none⟩ = some (.string s3.d) := fun q => ((HWZ12.out.later q).cell 6).trans rfl
          have y0 : ∀ q : Later w12, q.val.cell? ⟨gw, 0, none⟩ = some (.string ⟨#[2, 101, 120, 0]⟩) := fun q => ((HWR12.out.later q).cell 0).trans rfl
          have y1 : ∀ q : Later w12, q.val.cell? ⟨gw, 1, none⟩ = some (.slice A5 D.length c5) := fun q => ((HWR12.out.later q).cell 1).trans rfl
          have HSS := Lib.hid (show ∀ q' : Later w12, Calls Tryz.prog 21 #[.slice Ax l.length kx, .slice Ay l.length ky] q'.val fun e w'' => e = .returned (.bool true) ∧ ∃ q2 : Later w12, w'' = q2.val from
            fun q' => later_call (by rw [← HSM.out]; exact Same_any Ax Ay l.length kx l.length ky l l _ ((HSX12.out.keep q'.below).more q'.below.size) ((HSY12.out.keep q'.below).more q'.below.size) HLL.out))
          have HSN := Lib.hid (show ∀ q' : Later w12, Calls Tryz.prog 22 #[.agg #[.string ⟨#[2, 101, 120, 0]⟩, .slice A3 D.length c3, .string s3.s, .int .i64 s3.t, .int .i64 s3.c, .int .i64 s3.l, .string s3.d]] q'.val fun e w'' => e = .returned (.agg #[.string r.s, .int .i64 r.t, .int .i64 r.c, .int .i64 r.l, .string r.d]) ∧ ∃ q2 : Later w12, w'' = q2.val from
            fun q' => later_call (by rw [HRR.out]; exact No_any ⟨#[2, 101, 120, 0]⟩ nn D _ _ (HZ12.out.later q'.below) GZ.out))
          have HSR := Lib.hid (show ∀ q' : Later w12, Calls Tryz.prog 23 #[.agg #[.string ⟨#[2, 101, 120, 0]⟩, .slice A5 D.length c5]] q'.val fun e w'' => e = .returned (.agg #[.string r.s, .int .i64 r.t, .int .i64 r.c, .int .i64 r.l, .string r.d]) ∧ ∃ q2 : Later w12, w'' = q2.val from
            fun q' => later_call (by rw [HRR.out]; exact RZNo_any ⟨#[2, 101, 120, 0]⟩ nn D _ _ (HR12.out.later q'.below) GZ.out))
          go_wp2_with fail
          refine region_later (by kernel_rfl) ?_
          repeat (go_big_quiet_step ((first | (go_at_call 21; with_reducible exact HSS.out _) | (go_at_call 22; with_reducible exact HSN.out _) | (go_at_call 23; with_reducible exact HSR.out _))))
          refine wpQuiet_nil ?_
          rintro _ ⟨q2', rfl⟩
          go_wp2_with fail
          go_ret
          exact ⟨rfl, HB12.out.trans (q2'.below.mono HB12.out.size)⟩
    · have gp : (P.size : Int) > 600 := by omega
      go_enter Tryz.func4, Tryz.ntmps4
      go_wp2_with fail
      refine (lawake_any _).mono ?_
      rintro e w1 ⟨rfl, hB⟩
      have HB1 := Lib.hid hB
      have HX1 := Lib.hid ((HX.out.keep hB).more hB.size)
      clear hB
      go_wp2_with fail
      refine (Few_any A n c xs _ HX1.out h63).mono ?_
      rw [HF.out]
      rintro e w2 ⟨rfl, hB⟩
      have HB2 := Lib.hid (HB1.out.trans (hB.mono HB1.out.size))
      have HX2 := Lib.hid ((HX1.out.keep hB).more hB.size)
      clear hB
      go_wp2_with fail
      refine (lawake_any _).mono ?_
      rintro e w3 ⟨rfl, hB⟩
      have HB3 := Lib.hid (HB2.out.trans (hB.mono HB2.out.size))
      have HX3 := Lib.hid ((HX2.out.keep hB).more hB.size)
      clear hB
      go_wp2_with fail
      go_ret
      exact ⟨rfl, HB3.out⟩
end Go.Proofs.YtkgihfoknpimfaaGreat
