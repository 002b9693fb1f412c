/- ZoneTells. No statement of the seat is proved here. (written by gen_x2.py) -/
import Derived.Test.YtkmmbbcmpjkmkaaGreatZonF
import Derived.Deep.RegionHeld3
namespace Go.Proofs.YtkmmbbcmpjkmkaaGreat
open Go.RowKit Go.Op
set_option linter.unusedVariables false

set_option maxHeartbeats 32000000 in
set_option maxRecDepth 20000 in
theorem ZoneTells_walk (N : ByteArray) (A : Option Addr) (n c : Nat) (xs : List Rrd) (P : ByteArray) (w : World) (hx : SeesR w w.heap.size A n xs) (h63 : n ≤ 9223372036854775807) :
    Calls Tryz.prog 4 #[.string N, .slice A n c, .string P] w fun e w' => e = .returned (.bool true) ∧ Below w.heap.size w w' := by
  obtain ⟨nn, hnn⟩ : ∃ nn, N = mk nn := ⟨_, (mk_toList N).symm⟩
  have HN := Lib.hid hnn
  have HX := Lib.hid hx
  have HLX := Lib.hid hx.1
  clear hx hnn
  obtain ⟨pp, hpp⟩ : ∃ pp, P = mk pp := ⟨_, (mk_toList P).symm⟩
  have HP := Lib.hid hpp
  have HPL := Lib.hid (show pp.length = P.size by rw [hpp, mk_size])
  clear hpp
  cases hf : fewL xs with
  | false =>
    have HF := Lib.hid hf
    clear hf
    go_enter Tryz.func4, Tryz.ntmps4
    go_wp2_with fail
    refine (zawake_any _).mono ?_
    rintro e w1 ⟨rfl, hB⟩
    have HB1 := Lib.hid hB
    have HX1 := Lib.hid ((HX.out.keep hB).more hB.size)
    clear hB
    go_wp2_with fail
    refine (Few_any A n c xs _ HX1.out h63).mono ?_
    rw [HF.out]
    rintro e w2 ⟨rfl, hB⟩
    have HB2 := Lib.hid (HB1.out.trans (hB.mono HB1.out.size))
    have HX2 := Lib.hid ((HX1.out.keep hB).more hB.size)
    clear hB
    go_wp2_with fail
    refine (zawake_any _).mono ?_
    rintro e w3 ⟨rfl, hB⟩
    have HB3 := Lib.hid (HB2.out.trans (hB.mono HB2.out.size))
    have HX3 := Lib.hid ((HX2.out.keep hB).more hB.size)
    clear hB
    go_wp2_with fail
    go_ret
    exact ⟨rfl, HB3.out⟩
  | true =>
    obtain ⟨h30, hlow⟩ := fewL_is hf
    have hn30 : n ≤ 30 := by have := HLX.out; omega
    have HLOW := Lib.hid hlow
    have HF := Lib.hid hf
    clear hf hlow h30
    by_cases hp6 : P.size ≤ 600
    · have gp : ¬ ((P.size : Int) > 600) := by omega
      have hl : pp.length ≤ 1000000 := by have := HPL.out; omega
      go_enter Tryz.func4, Tryz.ntmps4
      go_wp2_with fail
      refine (zawake_any _).mono ?_
      rintro e w1 ⟨rfl, hB⟩
      have HB1 := Lib.hid hB
      have HX1 := Lib.hid ((HX.out.keep hB).more hB.size)
      clear hB
      go_wp2_with fail
      refine (Few_any A n c xs _ HX1.out h63).mono ?_
      rw [HF.out]
      rintro e w2 ⟨rfl, hB⟩
      have HB2 := Lib.hid (HB1.out.trans (hB.mono HB1.out.size))
      have HX2 := Lib.hid ((HX1.out.keep hB).more hB.size)
      clear hB
      go_wp2_with fail
      refine (ZNew_any A n c N nn xs _ HN.out HX2.out (by omega) HLOW.out).mono ?_
      rintro e w3 ⟨h, hB⟩
      have HB3 := Lib.hid (HB2.out.trans (hB.mono HB2.out.size))
      have HX3 := Lib.hid ((HX2.out.keep hB).more hB.size)
      clear hB
      rcases h with ⟨hc, rfl⟩ | ⟨hc, rfl⟩ | ⟨hc, z, rfl, hz⟩
      · have HC := Lib.hid hc
        have hb4 : Below w3.heap.size w3 (w3.alloc (.cells #[.string ⟨#[]⟩, .slice none 0 0, .string ⟨#[]⟩, .int .i64 0, .int .i64 0, .int .i64 0, .string ⟨#[]⟩] zoT)) := (Below.refl _ _).alloc (Nat.le_refl _) _
        have HB4 := Lib.hid (HB3.out.trans (hb4.mono HB3.out.size))
        have HX4 := Lib.hid ((HX3.out.keep hb4).more hb4.size)
        clear hb4
        clear hc
        unfold zeroZ
        go_wp2_with fail
        refine (RefNew_any A n c N nn xs _ HN.out HX4.out (by omega) HLOW.out).mono ?_
        rintro e w5 ⟨h, hB⟩
        have HB5 := Lib.hid (HB4.out.trans (hB.mono HB4.out.size))
        clear hB
        rcases h with ⟨hc, rfl⟩ | ⟨hc, rfl⟩ | ⟨hc, z, rfl, hz⟩
        · clear hc
          go_wp2_with fail
          go_ret
          exact ⟨rfl, HB5.out.alloc HB5.out.size _⟩
        · rw [HC.out] at hc; cases hc
        · rw [HC.out] at hc; cases hc
      · have HC := Lib.hid hc
        have hb4 : Below w3.heap.size w3 (w3.alloc (.cells #[.string ⟨#[]⟩, .slice none 0 0, .string ⟨#[]⟩, .int .i64 0, .int .i64 0, .int .i64 0, .string ⟨#[]⟩] zoT)) := (Below.refl _ _).alloc (Nat.le_refl _) _
        have HB4 := Lib.hid (HB3.out.trans (hb4.mono HB3.out.size))
        have HX4 := Lib.hid ((HX3.out.keep hb4).more hb4.size)
        clear hb4
        clear hc
        unfold zeroZ
        go_wp2_with fail
        refine (RefNew_any A n c N nn xs _ HN.out HX4.out (by omega) HLOW.out).mono ?_
        rintro e w5 ⟨h, hB⟩
        have HB5 := Lib.hid (HB4.out.trans (hB.mono HB4.out.size))
        clear hB
        rcases h with ⟨hc, rfl⟩ | ⟨hc, rfl⟩ | ⟨hc, z, rfl, hz⟩
        · rw [HC.out] at hc; cases hc
        · clear hc
          go_wp2_with fail
          go_ret
          exact ⟨rfl, HB5.out.alloc HB5.out.size _⟩
        · rw [HC.out] at hc; cases hc
      · have HC := Lib.hid hc
        obtain ⟨hname, hall, hisz⟩ := codeZ_zero hc
        have hok := HLOW.out.ok hall
        obtain ⟨D, hD⟩ : ∃ D, D = ofC xs := ⟨_, rfl⟩
        have hset : SetL cX D := by rw [hD]; exact ofC_set xs
        have hokD : OkL D := by rw [hD]; exact hok.ofC
        have hDl : D.length ≤ 30 := by rw [hD]; have := ofC_len xs; have := HLX.out; omega
        rw [← hD] at hz hisz
        have HDE := Lib.hid hD
        have HNAME := Lib.hid hname
        have HISZ := Lib.hid hisz
        have HSET := Lib.hid hset
        have HKD := Lib.hid hset.keys
        have HOKD := Lib.hid hokD
        have HZ3 := Lib.hid hz
        obtain ⟨A3, c3, s3, rfl, _, _, hsoa⟩ := hz
        have HSOA := Lib.hid hsoa
        clear hc hname hall hisz hok hD hset hokD hsoa
        have hw0 := Whole.new w3 zoT #[.string N, .slice A3 D.length c3, .string s3.s, .int .i64 s3.t, .int .i64 s3.c, .int .i64 s3.l, .string s3.d]
        have hB0 : Below w3.heap.size w3 (w3.alloc (.cells #[.string N, .slice A3 D.length c3, .string s3.s, .int .i64 s3.t, .int .i64 s3.c, .int .i64 s3.l, .string s3.d] zoT)) := (Below.refl _ _).alloc (Nat.le_refl _) _
        have HZ4 := Lib.hid (HZ3.out.later hB0)
        have HWZ4 := Lib.hid hw0
        have HX4 := Lib.hid ((HX3.out.keep hB0).more hB0.size)
        have HB4 := Lib.hid (HB3.out.trans (hB0.mono HB3.out.size))
        clear hw0 hB0
        go_wp2_with fail
        refine (RefNew_any A n c N nn xs _ HN.out HX4.out (by omega) HLOW.out).mono ?_
        rintro e w5 ⟨h, hB⟩
        have HZ5 := Lib.hid (HZ4.out.later hB)
        have HWZ5 := Lib.hid (HWZ4.out.below hB HWZ4.out.lt)
        have HB5 := Lib.hid (HB4.out.trans (hB.mono HB4.out.size))
        clear hB
        rcases h with ⟨hc, _⟩ | ⟨hc, _⟩ | ⟨_, r5, rfl, hr5⟩
        · rw [HC.out] at hc; cases hc
        · rw [HC.out] at hc; cases hc
        · rw [← HDE.out] at hr5
          have HR5 := Lib.hid hr5
          obtain ⟨A5, c5, rfl, hs5, _⟩ := hr5
          have hw0 := Whole.new w5 rzT #[.string N, .slice A5 D.length c5]
          have hB0 : Below w5.heap.size w5 (w5.alloc (.cells #[.string N, .slice A5 D.length c5] rzT)) := (Below.refl _ _).alloc (Nat.le_refl _) _
          obtain ⟨W6, hW6⟩ : ∃ W, W = w5.alloc (.cells #[.string N, .slice A5 D.length c5] rzT) := ⟨_, rfl⟩
          rw [← hW6] at hw0 hB0
          have HZ6 := Lib.hid (HZ5.out.later hB0)
          have HWZ6 := Lib.hid (HWZ5.out.below hB0 HWZ5.out.lt)
          have HR6 := Lib.hid (HR5.out.later hB0)
          have HS6 := Lib.hid ((hs5.keep hB0).more hB0.size)
          have HWR6 := Lib.hid hw0
          have HB6 := Lib.hid (HB5.out.trans (hB0.mono HB5.out.size))
          have HW6 := Lib.hid hW6
          obtain ⟨gz, hgz⟩ : ∃ g, g = w3.heap.size := ⟨_, rfl⟩
          obtain ⟨gw, hgw⟩ : ∃ g, g = w5.heap.size := ⟨_, rfl⟩
          rw [← hgz] at HWZ6
          rw [← hgw] at HWR6
          have HGZ := Lib.hid hgz
          have HGW := Lib.hid hgw
          clear hw0 hB0 hs5 hW6 hgz hgw
          go_wp2_with fail
          rw [← HW6.out, ← HGZ.out, ← HGW.out]
          go_loopw [11] (fun i wr => ∃ k : Nat, k ≤ 40 ∧ i = .int .i64 (k : Nat) ∧ Below W6.heap.size W6 wr) (fun i _ => 40 - (intOf i).toNat)
          case atStart => exact ⟨0, by decide, rfl, Below.refl _ _⟩
          case round =>
            obtain ⟨k, hk, rfl, hB⟩ := hrel
            have HBR := Lib.hid hB
            have HZR := Lib.hid (HZ6.out.later hB)
            have HWZR := Lib.hid (HWZ6.out.below hB HWZ6.out.lt)
            have HWRR := Lib.hid (HWR6.out.below hB HWR6.out.lt)
            have HSR := Lib.hid ((HS6.out.keep hB).more hB.size)
            have HRR := Lib.hid (HR6.out.later hB)
            clear hB
            obtain ⟨c0, c1, c2, c3', c4, c5', c6⟩ := zo_facts HWZR.out
            have d0 := (HWRR.out.cell 0).trans rfl
            have d1 := (HWRR.out.cell 1).trans rfl
            have d0' : wr.cell? ⟨gw, 0, none⟩ = some (.string N) := d0
            have d1' : wr.cell? ⟨gw, 1, none⟩ = some (.slice A5 D.length c5) := d1
            clear d0 d1
            by_cases hk4 : k < 40
            · have g2 : (k : Int) < 40 := by omega
              obtain ⟨Y, hY⟩ : ∃ Y, Y = typX (k : Nat) (atX pp D) := ⟨_, rfl⟩
              have HY := Lib.hid hY
              have HYL := Lib.hid (show Y.length ≤ 1073741824 by rw [hY]; have h1 := typX_len (k : Nat) (atX pp D); have h2 := atX_len pp D; omega)
              have HSM := Lib.hid (show sameX Y Y = true from sameX_is.2 rfl)
              clear hY
              go_wp2_with fail
              go_region_held3 (fun w' => w'.cell? ⟨gz, 0, none⟩ = some (.string N) ∧ w'.cell? ⟨gz, 1, none⟩ = some (.slice A3 D.length c3) ∧ w'.cell? ⟨gz, 2, none⟩ = some (.string s3.s) ∧ w'.cell? ⟨gz, 3, none⟩ = some (.int .i64 s3.t) ∧ w'.cell? ⟨gz, 4, none⟩ = some (.int .i64 s3.c) ∧ w'.cell? ⟨gz, 5, none⟩ = some (.int .i64 s3.l) ∧ w'.cell? ⟨gz, 6, none⟩ = some (.string s3.d) ∧ w'.cell? ⟨gw, 0, none⟩ = some (.string N) ∧ w'.cell? ⟨gw, 1, none⟩ = some (.slice A5 D.length c5)) (go_keep) (first
                | (go_at_call 18; (refine (ZSet_any N D _ _ (HZR.out.later (Below.refl _ _).drew) P pp (k : Nat) HP.out hl HOKD.out HKD.out (by omega)).mono ?_; rw [← HY.out]; rintro e w7 ⟨u7, rfl, ho7, hB7⟩; obtain ⟨A7, c7, rfl, hs7, _⟩ := own_sees ho7; have hB7 := (Below.refl _ _).drew.trans hB7; have hwz7 := HWZR.out.below hB7 HWZR.out.lt; have hwr7 := HWRR.out.below hB7 HWRR.out.lt; obtain ⟨c0, c1, c2, c3', c4, c5', c6⟩ := zo_facts hwz7; have d0' : w7.cell? ⟨gw, 0, none⟩ = some (.string N) := (hwr7.cell 0).trans rfl; have d1' : w7.cell? ⟨gw, 1, none⟩ = some (.slice A5 D.length c5) := (hwr7.cell 1).trans rfl))
                | (go_at_call 19; (refine (RefSet_any A5 D.length c5 N pp P D (k : Nat) _ HP.out ((HSR.out.keep hB7).more hB7.size) (by omega)).mono ?_; rw [← HY.out]; rintro e w8 ⟨u8, rfl, ho8, hB8⟩; obtain ⟨A8, c8, rfl, hs8, _⟩ := own_sees ho8; have hwz8 := hwz7.below hB8 hwz7.lt; have hwr8 := hwr7.below hB8 hwr7.lt; obtain ⟨c0, c1, c2, c3', c4, c5', c6⟩ := zo_facts hwz8; have d0' : w8.cell? ⟨gw, 0, none⟩ = some (.string N) := (hwr8.cell 0).trans rfl; have d1' : w8.cell? ⟨gw, 1, none⟩ = some (.slice A5 D.length c5) := (hwr8.cell 1).trans rfl))
                | (go_at_call 13; (refine (Same_any A7 A8 Y.length c7 Y.length c8 Y Y _ ((hs7.keep hB8).more hB8.size) hs8 HYL.out).mono ?_; rw [HSM.out]; rintro e w9 ⟨rfl, hB9⟩; have hwz9 := hwz8.below hB9 hwz8.lt; have hwr9 := hwr8.below hB9 hwr8.lt; obtain ⟨c0, c1, c2, c3', c4, c5', c6⟩ := zo_facts hwz9; have d0' : w9.cell? ⟨gw, 0, none⟩ = some (.string N) := (hwr9.cell 0).trans rfl; have d1' : w9.cell? ⟨gw, 1, none⟩ = some (.slice A5 D.length c5) := (hwr9.cell 1).trans rfl)))
              all_goals (
                have HB9 := Lib.hid (HBR.out.trans ((hB7.trans ((hB8.trans (hB9.mono hB8.size)).mono hB7.size)).mono HBR.out.size))
                go_wp2_with fail
                go_roundw
                case rel => exact ⟨k + 1, by omega, by go_num, HB9.out⟩
                case measure => simp [intOf]; omega)
            · obtain rfl : k = 40 := by omega
              have g2 : ¬ ((40 : Nat) : Int) < 40 := by omega
              obtain ⟨Y, hY⟩ : ∃ Y, Y = atX pp D := ⟨_, rfl⟩
              have HYL := Lib.hid (show Y.length ≤ 1073741824 by rw [hY]; have h2 := atX_len pp D; omega)
              have HSM := Lib.hid (show sameX Y Y = true from sameX_is.2 rfl)
              obtain ⟨q, hq⟩ : ∃ q, q = thereX pp D := ⟨_, rfl⟩
              have HQ2 := Lib.hid (show (!(atX pp D).isEmpty) = q by rw [hq]; exact (there_is HKD.out HOKD.out).symm)
              obtain ⟨p, hp⟩ : ∃ p, p = emptyX pp D := ⟨_, rfl⟩
              have HE2 := Lib.hid (show ((atX pp D).isEmpty && D.any fun x => underN (nmX x) pp) = p by rw [hp]; exact (empty_is HKD.out HOKD.out).symm)
              have HY := Lib.hid hY
              have HQ := Lib.hid hq
              have HE := Lib.hid hp
              have gq : (q == q) = true := by simp
              have gpp : (p == p) = true := by simp
              clear hY hq hp
              go_wp2_with fail
              go_region_held3 (fun w' => w'.cell? ⟨gz, 0, none⟩ = some (.string N) ∧ w'.cell? ⟨gz, 1, none⟩ = some (.slice A3 D.length c3) ∧ w'.cell? ⟨gz, 2, none⟩ = some (.string s3.s) ∧ w'.cell? ⟨gz, 3, none⟩ = some (.int .i64 s3.t) ∧ w'.cell? ⟨gz, 4, none⟩ = some (.int .i64 s3.c) ∧ w'.cell? ⟨gz, 5, none⟩ = some (.int .i64 s3.l) ∧ w'.cell? ⟨gz, 6, none⟩ = some (.string s3.d) ∧ w'.cell? ⟨gw, 0, none⟩ = some (.string N) ∧ w'.cell? ⟨gw, 1, none⟩ = some (.slice A5 D.length c5)) (go_keep) (first
                | (go_at_call 20; (refine (ZAt_any N D _ _ (HZR.out.later (Below.refl _ _).drew) P pp HP.out hl HOKD.out HKD.out (by omega)).mono ?_; rw [← HY.out]; rintro e w7 ⟨u7, rfl, ho7, hB7⟩; obtain ⟨A7, c7, rfl, ht7, _⟩ := own_sees ho7; have hB7 := (Below.refl _ _).drew.trans hB7; have hwz7 := (HWZR.out).below hB7 (HWZR.out).lt; have hwr7 := (HWRR.out).below hB7 (HWRR.out).lt; have hz7 := (HZR.out).later hB7; have hr7 := (HRR.out).later hB7; have hs7 := (HSR.out.keep hB7).more hB7.size; have hT7 := hB7; obtain ⟨c0, c1, c2, c3', c4, c5', c6⟩ := zo_facts hwz7; have d0' : w7.cell? ⟨gw, 0, none⟩ = some (.string N) := (hwr7.cell 0).trans rfl; have d1' : w7.cell? ⟨gw, 1, none⟩ = some (.slice A5 D.length c5) := (hwr7.cell 1).trans rfl))
                | (go_at_call 21; (refine (RefAt_any A5 D.length c5 D P pp _ hs7 (by omega) HP.out).mono ?_; rw [show (D.filter fun y => alikeN (nmX y) pp) = Y from HY.out.symm]; rintro e w8 ⟨u8, rfl, ho8, hB8⟩; obtain ⟨A8, c8, rfl, ht8, _⟩ := own_sees ho8; have hwz8 := (hwz7).below hB8 (hwz7).lt; have hwr8 := (hwr7).below hB8 (hwr7).lt; have hz8 := (hz7).later hB8; have hr8 := (hr7).later hB8; have hs8 := (hs7.keep hB8).more hB8.size; have hT8 := hT7.trans (hB8.mono hT7.size); obtain ⟨c0, c1, c2, c3', c4, c5', c6⟩ := zo_facts hwz8; have d0' : w8.cell? ⟨gw, 0, none⟩ = some (.string N) := (hwr8.cell 0).trans rfl; have d1' : w8.cell? ⟨gw, 1, none⟩ = some (.slice A5 D.length c5) := (hwr8.cell 1).trans rfl))
                | (go_at_call 13; (refine (Same_any A7 A8 Y.length c7 Y.length c8 Y Y _ ((ht7.keep hB8).more hB8.size) ht8 HYL.out).mono ?_; rw [HSM.out]; rintro e w9 ⟨rfl, hB9⟩; have hwz9 := (hwz8).below hB9 (hwz8).lt; have hwr9 := (hwr8).below hB9 (hwr8).lt; have hz9 := (hz8).later hB9; have hr9 := (hr8).later hB9; have hs9 := (hs8.keep hB9).more hB9.size; have hT9 := hT8.trans (hB9.mono hT8.size); obtain ⟨c0, c1, c2, c3', c4, c5', c6⟩ := zo_facts hwz9; have d0' : w9.cell? ⟨gw, 0, none⟩ = some (.string N) := (hwr9.cell 0).trans rfl; have d1' : w9.cell? ⟨gw, 1, none⟩ = some (.slice A5 D.length c5) := (hwr9.cell 1).trans rfl))
                | (go_at_call 22; (refine (There_any N D _ _ hz9 P pp HP.out hl HOKD.out HKD.out (by omega)).mono ?_; rw [← HQ.out]; rintro e w10 ⟨rfl, hB10⟩; have hwz10 := (hwz9).below hB10 (hwz9).lt; have hwr10 := (hwr9).below hB10 (hwr9).lt; have hz10 := (hz9).later hB10; have hr10 := (hr9).later hB10; have hs10 := (hs9.keep hB10).more hB10.size; have hT10 := hT9.trans (hB10.mono hT9.size); obtain ⟨c0, c1, c2, c3', c4, c5', c6⟩ := zo_facts hwz10; have d0' : w10.cell? ⟨gw, 0, none⟩ = some (.string N) := (hwr10.cell 0).trans rfl; have d1' : w10.cell? ⟨gw, 1, none⟩ = some (.slice A5 D.length c5) := (hwr10.cell 1).trans rfl))
                | (go_at_call 23; (refine (RefThere_any N D _ _ hr10 P pp HP.out (by omega)).mono ?_; rw [HQ2.out]; rintro e w11 ⟨rfl, hB11⟩; have hwz11 := (hwz10).below hB11 (hwz10).lt; have hwr11 := (hwr10).below hB11 (hwr10).lt; have hz11 := (hz10).later hB11; have hr11 := (hr10).later hB11; have hs11 := (hs10.keep hB11).more hB11.size; have hT11 := hT10.trans (hB11.mono hT10.size); obtain ⟨c0, c1, c2, c3', c4, c5', c6⟩ := zo_facts hwz11; have d0' : w11.cell? ⟨gw, 0, none⟩ = some (.string N) := (hwr11.cell 0).trans rfl; have d1' : w11.cell? ⟨gw, 1, none⟩ = some (.slice A5 D.length c5) := (hwr11.cell 1).trans rfl))
                | (go_at_call 24; (refine (ZEmpty_any N D _ _ hz11 P pp HP.out hl HOKD.out HKD.out (by omega)).mono ?_; rw [← HE.out]; rintro e w12 ⟨rfl, hB12⟩; have hwz12 := (hwz11).below hB12 (hwz11).lt; have hwr12 := (hwr11).below hB12 (hwr11).lt; have hz12 := (hz11).later hB12; have hr12 := (hr11).later hB12; have hs12 := (hs11.keep hB12).more hB12.size; have hT12 := hT11.trans (hB12.mono hT11.size); obtain ⟨c0, c1, c2, c3', c4, c5', c6⟩ := zo_facts hwz12; have d0' : w12.cell? ⟨gw, 0, none⟩ = some (.string N) := (hwr12.cell 0).trans rfl; have d1' : w12.cell? ⟨gw, 1, none⟩ = some (.slice A5 D.length c5) := (hwr12.cell 1).trans rfl))
                | (go_at_call 25; (refine (RefEmpty_any N D _ _ hr12 P pp HP.out (by omega)).mono ?_; rw [HE2.out]; rintro e w13 ⟨rfl, hB13⟩; have hwz13 := (hwz12).below hB13 (hwz12).lt; have hwr13 := (hwr12).below hB13 (hwr12).lt; have hz13 := (hz12).later hB13; have hr13 := (hr12).later hB13; have hs13 := (hs12.keep hB13).more hB13.size; have hT13 := hT12.trans (hB13.mono hT12.size); obtain ⟨c0, c1, c2, c3', c4, c5', c6⟩ := zo_facts hwz13; have d0' : w13.cell? ⟨gw, 0, none⟩ = some (.string N) := (hwr13.cell 0).trans rfl; have d1' : w13.cell? ⟨gw, 1, none⟩ = some (.slice A5 D.length c5) := (hwr13.cell 1).trans rfl)))
              all_goals (
                have HBF := Lib.hid (HB6.out.trans ((HBR.out.trans (hT13.mono HBR.out.size)).mono HB6.out.size))
                go_wp2_with fail
                go_ret
                exact ⟨rfl, HBF.out⟩)
    · have gp : (P.size : Int) > 600 := by omega
      go_enter Tryz.func4, Tryz.ntmps4
      go_wp2_with fail
      refine (zawake_any _).mono ?_
      rintro e w1 ⟨rfl, hB⟩
      have HB1 := Lib.hid hB
      have HX1 := Lib.hid ((HX.out.keep hB).more hB.size)
      clear hB
      go_wp2_with fail
      refine (Few_any A n c xs _ HX1.out h63).mono ?_
      rw [HF.out]
      rintro e w2 ⟨rfl, hB⟩
      have HB2 := Lib.hid (HB1.out.trans (hB.mono HB1.out.size))
      have HX2 := Lib.hid ((HX1.out.keep hB).more hB.size)
      clear hB
      go_wp2_with fail
      refine (zawake_any _).mono ?_
      rintro e w3 ⟨rfl, hB⟩
      have HB3 := Lib.hid (HB2.out.trans (hB.mono HB2.out.size))
      have HX3 := Lib.hid ((HX2.out.keep hB).more hB.size)
      clear hB
      go_wp2_with fail
      go_ret
      exact ⟨rfl, HB3.out⟩
end Go.Proofs.YtkmmbbcmpjkmkaaGreat
