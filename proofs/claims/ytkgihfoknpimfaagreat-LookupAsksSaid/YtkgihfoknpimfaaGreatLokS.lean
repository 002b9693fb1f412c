/- The reference's Ask, LookupAsks. No statement of the seat is proved here. (written by gen_s.py) -/
import Derived.Test.YtkgihfoknpimfaaGreatLkJ
import Derived.Test.YtkgihfoknpimfaaGreatLokR
import Derived.Test.YtkgihfoknpimfaaGreatLokV
namespace Go.Proofs.YtkgihfoknpimfaaGreat
open Go.RowKit Go.Op
set_option linter.unusedVariables false

set_option maxHeartbeats 32000000 in
set_option maxRecDepth 20000 in
theorem RZAsk_any (N : ByteArray) (nn : List UInt8) (D : List Rrd) (gz : GoodZ nn D) (hN : N = mk nn) (v : Value) (w : World) (hz : ZRefAt w w.heap.size N D v) (P : ByteArray) (n : List UInt8) (t : Int) (hP : P = mk n) :
    Calls Tryz.prog 14 #[v, .string P, .int .i64 t] w fun e w' => AnsOut w' (askZ D nn n t) e ∧ Below w.heap.size w w' := by
  have HZV := Lib.hid hz
  obtain ⟨A, c, rfl, hs, hcap⟩ := hz
  have GZ := Lib.hid gz
  have HN := Lib.hid hN
  have HP := Lib.hid hP
  have hB1 : Below w.heap.size w (w.alloc (.cells #[.string N, .slice A D.length c] rzT)) := (Below.refl _ _).alloc (Nat.le_refl _) _
  have hB2 : Below w.heap.size w ((w.alloc (.cells #[.string N, .slice A D.length c] rzT)).alloc (.cells #[.int .i64 0, .bool false, .slice none 0 0, .slice none 0 0, .slice none 0 0] anT)) := hB1.alloc hB1.size _
  have hwz := (Whole.new w rzT #[.string N, .slice A D.length c]).alloc (.cells #[.int .i64 0, .bool false, .slice none 0 0, .slice none 0 0, .slice none 0 0] anT)
  have hwr := Whole.new (w.alloc (.cells #[.string N, .slice A D.length c] rzT)) anT #[.int .i64 0, .bool false, .slice none 0 0, .slice none 0 0, .slice none 0 0]
  rw [World.size_alloc] at hwr
  obtain ⟨w3, hW3⟩ : ∃ W, W = (w.alloc (.cells #[.string N, .slice A D.length c] rzT)).alloc (.cells #[.int .i64 0, .bool false, .slice none 0 0, .slice none 0 0, .slice none 0 0] anT) := ⟨_, rfl⟩
  rw [← hW3] at hB2 hwz hwr
  obtain ⟨bz, hbz⟩ : ∃ b, b = w.heap.size := ⟨_, rfl⟩
  obtain ⟨br, hbr⟩ : ∃ b, b = w.heap.size + 1 := ⟨_, rfl⟩
  have HBR := Lib.hid (show w.heap.size ≤ br by omega)
  rw [← hbz] at hwz
  rw [← hbr] at hwr
  have HB3 := Lib.hid hB2
  have HWZ3 := Lib.hid hwz
  have HWR3 := Lib.hid hwr
  have HZ3 := Lib.hid (HZV.out.later hB2)
  have HW3 := Lib.hid hW3
  have HEZ := Lib.hid hbz
  have HER := Lib.hid hbr
  clear hs hcap hP hN gz hB1 hB2 hwz hwr hW3 hbz hbr
  have c0 : w3.cell? ⟨bz, 0, none⟩ = some (.string N) := (HWZ3.out.cell 0).trans rfl
  have c1 : w3.cell? ⟨bz, 1, none⟩ = some (.slice A D.length c) := (HWZ3.out.cell 1).trans rfl
  obtain ⟨r0, r1, r2, r3, r4⟩ := an_cells HWR3.out
  obtain ⟨s0, s1, s2, s3, s4⟩ := an_soft HWR3.out
  rw [HW3.out, HEZ.out] at c0 c1
  go_enter Tryz.func14, Tryz.ntmps14
  go_wp2_with fail
  rw [← HW3.out, ← HER.out, ← HEZ.out]
  clear c0 c1 r0 r1 r2 r3 r4 s0 s1 s2 s3 s4
  refine (RefUnder_any P N n nn _ HP.out HN.out).mono ?_
  cases hu : underN n nn with
  | false =>
    have HA := Lib.hid (show askZ D nn n t = ⟨5, false, [], [], []⟩ by unfold askZ; rw [hu]; rfl)
    rintro e w4 ⟨rfl, hB⟩
    clear hu
    have HWZ4 := Lib.hid (HWZ3.out.below hB HWZ3.out.lt)
    have HWR4 := Lib.hid (HWR3.out.below hB HWR3.out.lt)
    have HB4 := Lib.hid (HB3.out.trans (hB.mono HB3.out.size))
    have HZ4 := Lib.hid (HZ3.out.later hB)
    clear hB
    have c0 : w4.cell? ⟨bz, 0, none⟩ = some (.string N) := (HWZ4.out.cell 0).trans rfl
    have c1 : w4.cell? ⟨bz, 1, none⟩ = some (.slice A D.length c) := (HWZ4.out.cell 1).trans rfl
    obtain ⟨r0, r1, r2, r3, r4⟩ := an_cells HWR4.out
    obtain ⟨s0, s1, s2, s3, s4⟩ := an_soft HWR4.out
    go_wp2_with fail
    clear c0 c1 r0 r1 r2 r3 r4 s0 s1 s2 s3 s4
    refine retA5 rfl rfl rfl (five_put HWR4.out _ _ _ _ _) ⟨?_, five_below HB4.out HBR.out _ _ _ _ _⟩
    rw [HA.out]
    exact ans_fin (a := ⟨5, false, [], [], []⟩) HWR4.out (RecsAt.nil _) (RecsAt.nil _) (RecsAt.nil _)
  | true =>
    obtain ⟨R, hR⟩ : ∃ R, R = askF D nn t (7 + 1) ansO [] n := ⟨_, rfl⟩
    have HA := Lib.hid (show askZ D nn n t = R by rw [hR]; unfold askZ; rw [hu]; rfl)
    rintro e w4 ⟨rfl, hB⟩
    clear hu
    have HWZ4 := Lib.hid (HWZ3.out.below hB HWZ3.out.lt)
    have HWR4 := Lib.hid (HWR3.out.below hB HWR3.out.lt)
    have HB4 := Lib.hid (HB3.out.trans (hB.mono HB3.out.size))
    have HZ4 := Lib.hid (HZ3.out.later hB)
    clear hB
    have c0 : w4.cell? ⟨bz, 0, none⟩ = some (.string N) := (HWZ4.out.cell 0).trans rfl
    have c1 : w4.cell? ⟨bz, 1, none⟩ = some (.slice A D.length c) := (HWZ4.out.cell 1).trans rfl
    obtain ⟨r0, r1, r2, r3, r4⟩ := an_cells HWR4.out
    obtain ⟨s0, s1, s2, s3, s4⟩ := an_soft HWR4.out
    go_wp2_with fail
    clear c0 c1 r0 r1 r2 r3 r4 s0 s1 s2 s3 s4
    have hcall := RZask_any N nn D GZ.out HN.out t 7 _ w4 ansO none none none none 0 0 0 0 0 [] P n HZ4.out ⟨rfl, fun h => absurd h (by decide)⟩ rfl rfl ⟨rfl, fun h => absurd h (by decide)⟩ rfl (Nat.zero_le _) HP.out
    rw [← hR] at hcall
    clear hR
    refine hcall.mono ?_
    clear hcall
    rintro e w5 ⟨⟨vx, vy, vz, rfl, ⟨B1, j1, rfl, s1'⟩, ⟨B2, j2, rfl, s2'⟩, ⟨B3, j3, rfl, s3'⟩⟩, hB⟩
    have HS1 := Lib.hid s1'
    have HS2 := Lib.hid s2'
    have HS3 := Lib.hid s3'
    clear s1' s2' s3'
    have HWZ5 := Lib.hid (HWZ4.out.below hB HWZ4.out.lt)
    have HWR5 := Lib.hid (HWR4.out.below hB HWR4.out.lt)
    have HB5 := Lib.hid (HB4.out.trans (hB.mono HB4.out.size))
    have HZ5 := Lib.hid (HZ4.out.later hB)
    clear hB
    have c0 : w5.cell? ⟨bz, 0, none⟩ = some (.string N) := (HWZ5.out.cell 0).trans rfl
    have c1 : w5.cell? ⟨bz, 1, none⟩ = some (.slice A D.length c) := (HWZ5.out.cell 1).trans rfl
    obtain ⟨r0, r1, r2, r3, r4⟩ := an_cells HWR5.out
    obtain ⟨s0, s1, s2, s3, s4⟩ := an_soft HWR5.out
    go_wp2_with fail
    clear c0 c1 r0 r1 r2 r3 r4 s0 s1 s2 s3 s4
    refine retA5 rfl rfl rfl (five_put HWR5.out _ _ _ _ _) ⟨?_, five_below HB5.out HBR.out _ _ _ _ _⟩
    rw [HA.out]
    exact ans_fin HWR5.out ⟨B1, j1, rfl, HS1.out⟩ ⟨B2, j2, rfl, HS2.out⟩ ⟨B3, j3, rfl, HS3.out⟩
set_option maxHeartbeats 32000000 in
set_option maxRecDepth 20000 in
theorem LookupAsks_walk (A : Option Addr) (n c : Nat) (xs : List Rrd) (P : ByteArray) (t : Int) (w : World) (hx : SeesR w w.heap.size A n xs) (h63 : n ≤ 9223372036854775807) :
    Calls Tryz.prog 3 #[.slice A n c, .string P, .int .i64 t] w fun e w' => e = .returned (.bool true) ∧ Below w.heap.size w w' := by
  obtain ⟨nn, hnn⟩ : ∃ nn : List UInt8, nn = [2, 101, 120, 0] := ⟨_, rfl⟩
  have HN := Lib.hid (show (⟨#[2, 101, 120, 0]⟩ : ByteArray) = mk nn by rw [hnn]; rfl)
  have HX := Lib.hid hx
  have HLX := Lib.hid hx.1
  clear hx hnn
  obtain ⟨pp, hpp⟩ : ∃ pp, P = mk pp := ⟨_, (mk_toList P).symm⟩
  have HP := Lib.hid hpp
  have HPL := Lib.hid (show pp.length = P.size by rw [hpp, mk_size])
  clear hpp
  cases hf : fewL xs with
  | false =>
    have HF := Lib.hid hf
    clear hf
    go_enter Tryz.func3, Tryz.ntmps3
    go_wp2_with fail
    refine (lawake_any _).mono ?_
    rintro e w1 ⟨rfl, hB⟩
    have HB1 := Lib.hid hB
    have HX1 := Lib.hid ((HX.out.keep hB).more hB.size)
    clear hB
    go_wp2_with fail
    refine (Few_any A n c xs _ HX1.out h63).mono ?_
    rw [HF.out]
    rintro e w2 ⟨rfl, hB⟩
    have HB2 := Lib.hid (HB1.out.trans (hB.mono HB1.out.size))
    have HX2 := Lib.hid ((HX1.out.keep hB).more hB.size)
    clear hB
    go_wp2_with fail
    refine (lawake_any _).mono ?_
    rintro e w3 ⟨rfl, hB⟩
    have HB3 := Lib.hid (HB2.out.trans (hB.mono HB2.out.size))
    have HX3 := Lib.hid ((HX2.out.keep hB).more hB.size)
    clear hB
    go_wp2_with fail
    go_ret
    exact ⟨rfl, HB3.out⟩
  | true =>
    obtain ⟨h30, hlow⟩ := fewL_is hf
    have hn30 : n ≤ 30 := by have := HLX.out; omega
    have HLOW := Lib.hid hlow
    have HF := Lib.hid hf
    clear hf hlow h30
    by_cases hp6 : P.size ≤ 600
    · have gp : ¬ ((P.size : Int) > 600) := by omega
      have hl : pp.length ≤ 1000000 := by have := HPL.out; omega
      go_enter Tryz.func3, Tryz.ntmps3
      go_wp2_with fail
      refine (lawake_any _).mono ?_
      rintro e w1 ⟨rfl, hB⟩
      have HB1 := Lib.hid hB
      have HX1 := Lib.hid ((HX.out.keep hB).more hB.size)
      clear hB
      go_wp2_with fail
      refine (Few_any A n c xs _ HX1.out h63).mono ?_
      rw [HF.out]
      rintro e w2 ⟨rfl, hB⟩
      have HB2 := Lib.hid (HB1.out.trans (hB.mono HB1.out.size))
      have HX2 := Lib.hid ((HX1.out.keep hB).more hB.size)
      clear hB
      go_wp2_with fail
      refine (ZNew_any A n c ⟨#[2, 101, 120, 0]⟩ nn xs _ HN.out HX2.out (by omega) HLOW.out).mono ?_
      rintro e w3 ⟨h, hB⟩
      have HB3 := Lib.hid (HB2.out.trans (hB.mono HB2.out.size))
      have HX3 := Lib.hid ((HX2.out.keep hB).more hB.size)
      clear hB
      rcases h with ⟨hc, rfl⟩ | ⟨hc, rfl⟩ | ⟨hc, z, rfl, hz⟩
      · have HC := Lib.hid hc
        have hb4 : Below w3.heap.size w3 (w3.alloc (.cells #[.string ⟨#[]⟩, .slice none 0 0, .string ⟨#[]⟩, .int .i64 0, .int .i64 0, .int .i64 0, .string ⟨#[]⟩] zoT)) := (Below.refl _ _).alloc (Nat.le_refl _) _
        have HB4 := Lib.hid (HB3.out.trans (hb4.mono HB3.out.size))
        have HX4 := Lib.hid ((HX3.out.keep hb4).more hb4.size)
        clear hb4
        clear hc
        unfold zeroZ
        go_wp2_with fail
        refine (RefNew_any A n c ⟨#[2, 101, 120, 0]⟩ nn xs _ HN.out HX4.out (by omega) HLOW.out).mono ?_
        rintro e w5 ⟨h, hB⟩
        have HB5 := Lib.hid (HB4.out.trans (hB.mono HB4.out.size))
        clear hB
        rcases h with ⟨hc, rfl⟩ | ⟨hc, rfl⟩ | ⟨hc, z, rfl, hz⟩
        · clear hc
          go_wp2_with fail
          go_ret
          exact ⟨rfl, HB5.out.alloc HB5.out.size _⟩
        · rw [HC.out] at hc; cases hc
        · rw [HC.out] at hc; cases hc
      · have HC := Lib.hid hc
        have hb4 : Below w3.heap.size w3 (w3.alloc (.cells #[.string ⟨#[]⟩, .slice none 0 0, .string ⟨#[]⟩, .int .i64 0, .int .i64 0, .int .i64 0, .string ⟨#[]⟩] zoT)) := (Below.refl _ _).alloc (Nat.le_refl _) _
        have HB4 := Lib.hid (HB3.out.trans (hb4.mono HB3.out.size))
        have HX4 := Lib.hid ((HX3.out.keep hb4).more hb4.size)
        clear hb4
        clear hc
        unfold zeroZ
        go_wp2_with fail
        refine (RefNew_any A n c ⟨#[2, 101, 120, 0]⟩ nn xs _ HN.out HX4.out (by omega) HLOW.out).mono ?_
        rintro e w5 ⟨h, hB⟩
        have HB5 := Lib.hid (HB4.out.trans (hB.mono HB4.out.size))
        clear hB
        rcases h with ⟨hc, rfl⟩ | ⟨hc, rfl⟩ | ⟨hc, z, rfl, hz⟩
        · rw [HC.out] at hc; cases hc
        · clear hc
          go_wp2_with fail
          go_ret
          exact ⟨rfl, HB5.out.alloc HB5.out.size _⟩
        · rw [HC.out] at hc; cases hc
      · have HC := Lib.hid hc
        obtain ⟨hname, hall, hisz⟩ := codeZ_zero hc
        have hok := HLOW.out.ok hall
        obtain ⟨D, hD⟩ : ∃ D, D = ofC xs := ⟨_, rfl⟩
        have hset : SetL cX D := by rw [hD]; exact ofC_set xs
        have hokD : OkL D := by rw [hD]; exact hok.ofC
        have hDl : D.length ≤ 30 := by rw [hD]; have := ofC_len xs; have := HLX.out; omega
        rw [← hD] at hz hisz
        have HDE := Lib.hid hD
        have HNAME := Lib.hid hname
        have HISZ := Lib.hid hisz
        have HSET := Lib.hid hset
        have HKD := Lib.hid hset.keys
        have HOKD := Lib.hid hokD
        have HZ3 := Lib.hid hz
        obtain ⟨A3, c3, s3, rfl, _, _, hsoa⟩ := hz
        have HSOA := Lib.hid hsoa
        clear hc hname hall hisz hok hD hset hokD hsoa
        have hw0 := Whole.new w3 zoT #[.string ⟨#[2, 101, 120, 0]⟩, .slice A3 D.length c3, .string s3.s, .int .i64 s3.t, .int .i64 s3.c, .int .i64 s3.l, .string s3.d]
        have hB0 : Below w3.heap.size w3 (w3.alloc (.cells #[.string ⟨#[2, 101, 120, 0]⟩, .slice A3 D.length c3, .string s3.s, .int .i64 s3.t, .int .i64 s3.c, .int .i64 s3.l, .string s3.d] zoT)) := (Below.refl _ _).alloc (Nat.le_refl _) _
        have HZ4 := Lib.hid (HZ3.out.later hB0)
        have HWZ4 := Lib.hid hw0
        have HX4 := Lib.hid ((HX3.out.keep hB0).more hB0.size)
        have HB4 := Lib.hid (HB3.out.trans (hB0.mono HB3.out.size))
        clear hw0 hB0
        go_wp2_with fail
        refine (RefNew_any A n c ⟨#[2, 101, 120, 0]⟩ nn xs _ HN.out HX4.out (by omega) HLOW.out).mono ?_
        rintro e w5 ⟨h, hB⟩
        have HZ5 := Lib.hid (HZ4.out.later hB)
        have HWZ5 := Lib.hid (HWZ4.out.below hB HWZ4.out.lt)
        have HB5 := Lib.hid (HB4.out.trans (hB.mono HB4.out.size))
        clear hB
        rcases h with ⟨hc, _⟩ | ⟨hc, _⟩ | ⟨_, r5, rfl, hr5⟩
        · rw [HC.out] at hc; cases hc
        · rw [HC.out] at hc; cases hc
        · rw [← HDE.out] at hr5
          have HR5 := Lib.hid hr5
          obtain ⟨A5, c5, rfl, hs5, _⟩ := hr5
          have hw0 := Whole.new w5 rzT #[.string ⟨#[2, 101, 120, 0]⟩, .slice A5 D.length c5]
          have hB0 : Below w5.heap.size w5 (w5.alloc (.cells #[.string ⟨#[2, 101, 120, 0]⟩, .slice A5 D.length c5] rzT)) := (Below.refl _ _).alloc (Nat.le_refl _) _
          obtain ⟨W6, hW6⟩ : ∃ W, W = w5.alloc (.cells #[.string ⟨#[2, 101, 120, 0]⟩, .slice A5 D.length c5] rzT) := ⟨_, rfl⟩
          rw [← hW6] at hw0 hB0
          have HZ6 := Lib.hid (HZ5.out.later hB0)
          have HWZ6 := Lib.hid (HWZ5.out.below hB0 HWZ5.out.lt)
          have HR6 := Lib.hid (HR5.out.later hB0)
          have HS6 := Lib.hid ((hs5.keep hB0).more hB0.size)
          have HWR6 := Lib.hid hw0
          have HB6 := Lib.hid (HB5.out.trans (hB0.mono HB5.out.size))
          have HW6 := Lib.hid hW6
          obtain ⟨gz, hgz⟩ : ∃ g, g = w3.heap.size := ⟨_, rfl⟩
          obtain ⟨gw, hgw⟩ : ∃ g, g = w5.heap.size := ⟨_, rfl⟩
          rw [← hgz] at HWZ6
          rw [← hgw] at HWR6
          have HGZ := Lib.hid hgz
          have HGW := Lib.hid hgw
          clear hw0 hB0 hs5 hW6 hgz hgw
          have GZ := Lib.hid (show GoodZ nn D from ⟨HOKD.out, HKD.out, HISZ.out, HNAME.out, by omega⟩)
          obtain ⟨R, hR⟩ : ∃ R, R = askZ D nn pp t := ⟨_, rfl⟩
          obtain ⟨hb1, hb2, hb3⟩ := ask_bounds GZ.out.len nn pp t
          rw [← hR] at hb1 hb2 hb3
          have HR := Lib.hid hR
          have HL1 := Lib.hid (show R.an.length ≤ 1073741824 by omega)
          have HL2 := Lib.hid (show R.ns.length ≤ 1073741824 by omega)
          have HL3 := Lib.hid (show R.ad.length ≤ 1073741824 by omega)
          clear hR hb1 hb2 hb3
          have z0 : ∀ w', Below W6.heap.size W6 w' → w'.cell? ⟨gz, 0, none⟩ = some (.string ⟨#[2, 101, 120, 0]⟩) := fun w' h => ((HWZ6.out.below h HWZ6.out.lt).cell 0).trans rfl
          have z1 : ∀ w', Below W6.heap.size W6 w' → w'.cell? ⟨gz, 1, none⟩ = some (.slice A3 D.length c3) := fun w' h => ((HWZ6.out.below h HWZ6.out.lt).cell 1).trans rfl
          have z2 : ∀ w', Below W6.heap.size W6 w' → w'.cell? ⟨gz, 2, none⟩ = some (.string s3.s) := fun w' h => ((HWZ6.out.below h HWZ6.out.lt).cell 2).trans rfl
          have z3 : ∀ w', Below W6.heap.size W6 w' → w'.cell? ⟨gz, 3, none⟩ = some (.int .i64 s3.t) := fun w' h => ((HWZ6.out.below h HWZ6.out.lt).cell 3).trans rfl
          have z4 : ∀ w', Below W6.heap.size W6 w' → w'.cell? ⟨gz, 4, none⟩ = some (.int .i64 s3.c) := fun w' h => ((HWZ6.out.below h HWZ6.out.lt).cell 4).trans rfl
          have z5 : ∀ w', Below W6.heap.size W6 w' → w'.cell? ⟨gz, 5, none⟩ = some (.int .i64 s3.l) := fun w' h => ((HWZ6.out.below h HWZ6.out.lt).cell 5).trans rfl
          have z6 : ∀ w', Below W6.heap.size W6 w' → w'.cell? ⟨gz, 6, none⟩ = some (.string s3.d) := fun w' h => ((HWZ6.out.below h HWZ6.out.lt).cell 6).trans rfl
          have y0 : ∀ w', Below W6.heap.size W6 w' → w'.cell? ⟨gw, 0, none⟩ = some (.string ⟨#[2, 101, 120, 0]⟩) := fun w' h => ((HWR6.out.below h HWR6.out.lt).cell 0).trans rfl
          have y1 : ∀ w', Below W6.heap.size W6 w' → w'.cell? ⟨gw, 1, none⟩ = some (.slice A5 D.length c5) := fun w' h => ((HWR6.out.below h HWR6.out.lt).cell 1).trans rfl
          have hT0 : Below W6.heap.size W6 W6.drew := (Below.refl _ _).drew
          go_wp2_with fail
          rw [← HW6.out, ← HGZ.out, ← HGW.out]
          go_region_held3 (fun w' => Below W6.heap.size W6 w') (go_keep) (first
            | (go_at_call 13; (refine (LAsk_any ⟨#[2, 101, 120, 0]⟩ nn D _ _ (HZ6.out.later hT0) GZ.out HN.out P pp t HP.out hl).mono ?_; rw [← HR.out]; rintro e w7 ⟨⟨vx, vy, vz, rfl, ⟨Ax, kx, rfl, hsx⟩, ⟨Ay, ky, rfl, hsy⟩, ⟨Az, kz, rfl, hsz⟩⟩, hB7⟩; have hT7 := hT0.trans (hB7.mono hT0.size)))
            | (go_at_call 14; (refine (RZAsk_any ⟨#[2, 101, 120, 0]⟩ nn D GZ.out HN.out _ _ (HR6.out.later hT7) P pp t HP.out).mono ?_; rw [← HR.out]; rintro e w8 ⟨⟨ux, uy, uz, rfl, ⟨Bx, jx, rfl, hux⟩, ⟨By, jy, rfl, huy⟩, ⟨Bz, jz, rfl, huz⟩⟩, hB8⟩; have hT8 := hT7.trans (hB8.mono hT7.size)))
            | (go_at_call 12; (refine (lawSame_any R HL1.out HL2.out HL3.out (.slice Ax R.an.length kx) (.slice Ay R.ns.length ky) (.slice Az R.ad.length kz) (.slice Bx R.an.length jx) (.slice By R.ns.length jy) (.slice Bz R.ad.length jz) _ ⟨Ax, kx, rfl, (hsx.keep hB8).more hB8.size⟩ ⟨Ay, ky, rfl, (hsy.keep hB8).more hB8.size⟩ ⟨Az, kz, rfl, (hsz.keep hB8).more hB8.size⟩ ⟨Bx, jx, rfl, hux⟩ ⟨By, jy, rfl, huy⟩ ⟨Bz, jz, rfl, huz⟩).mono ?_; rintro e w9 ⟨rfl, hB9⟩; have hT9 := hT8.trans (hB9.mono hT8.size))))
          all_goals (
            have HBF := Lib.hid (HB6.out.trans (hT9.mono HB6.out.size))
            go_wp2_with fail
            go_ret
            exact ⟨rfl, HBF.out⟩)
    · have gp : (P.size : Int) > 600 := by omega
      go_enter Tryz.func3, Tryz.ntmps3
      go_wp2_with fail
      refine (lawake_any _).mono ?_
      rintro e w1 ⟨rfl, hB⟩
      have HB1 := Lib.hid hB
      have HX1 := Lib.hid ((HX.out.keep hB).more hB.size)
      clear hB
      go_wp2_with fail
      refine (Few_any A n c xs _ HX1.out h63).mono ?_
      rw [HF.out]
      rintro e w2 ⟨rfl, hB⟩
      have HB2 := Lib.hid (HB1.out.trans (hB.mono HB1.out.size))
      have HX2 := Lib.hid ((HX1.out.keep hB).more hB.size)
      clear hB
      go_wp2_with fail
      refine (lawake_any _).mono ?_
      rintro e w3 ⟨rfl, hB⟩
      have HB3 := Lib.hid (HB2.out.trans (hB.mono HB2.out.size))
      have HX3 := Lib.hid ((HX2.out.keep hB).more hB.size)
      clear hB
      go_wp2_with fail
      go_ret
      exact ⟨rfl, HB3.out⟩
end Go.Proofs.YtkgihfoknpimfaaGreat
