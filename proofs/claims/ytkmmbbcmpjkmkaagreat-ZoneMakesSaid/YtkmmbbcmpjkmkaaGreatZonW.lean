/- ZoneMakes. No statement of the seat is proved here. (written by gen_m.py) -/
import Derived.Test.YtkmmbbcmpjkmkaaGreatZonG
import Derived.Test.YtkmmbbcmpjkmkaaGreatZonI
import Derived.Deep.RegionHeld3
namespace Go.Proofs.YtkmmbbcmpjkmkaaGreat
open Go.RowKit Go.Op
set_option linter.unusedVariables false

set_option maxHeartbeats 32000000 in
set_option maxRecDepth 20000 in
theorem ZoneMakes_walk (N : ByteArray) (A : Option Addr) (n c : Nat) (xs : List Rrd) (w : World) (hx : SeesR w w.heap.size A n xs) (h63 : n ≤ 9223372036854775807) :
    Calls Tryz.prog 3 #[.string N, .slice A n c] w fun e w' => e = .returned (.bool true) ∧ Below w.heap.size w w' := by
  obtain ⟨nn, hnn⟩ : ∃ nn, N = mk nn := ⟨_, (mk_toList N).symm⟩
  have HN := Lib.hid hnn
  have HX := Lib.hid hx
  have HLX := Lib.hid hx.1
  clear hx hnn
  cases hf : fewL xs with
  | false =>
    have HF := Lib.hid hf
    clear hf
    go_enter Tryz.func3, Tryz.ntmps3
    go_wp2_with fail
    refine (zawake_any _).mono ?_
    rintro e w1 ⟨rfl, hB⟩
    have HB1 := Lib.hid hB
    have HX1 := Lib.hid ((HX.out.keep hB).more hB.size)
    clear hB
    go_wp2_with fail
    refine (Few_any A n c xs _ HX1.out h63).mono ?_
    rw [HF.out]
    rintro e w2 ⟨rfl, hB⟩
    have HB2 := Lib.hid (HB1.out.trans (hB.mono HB1.out.size))
    have HX2 := Lib.hid ((HX1.out.keep hB).more hB.size)
    clear hB
    go_wp2_with fail
    refine (zawake_any _).mono ?_
    rintro e w3 ⟨rfl, hB⟩
    have HB3 := Lib.hid (HB2.out.trans (hB.mono HB2.out.size))
    have HX3 := Lib.hid ((HX2.out.keep hB).more hB.size)
    clear hB
    go_wp2_with fail
    go_ret
    exact ⟨rfl, HB3.out⟩
  | true =>
    obtain ⟨h30, hlow⟩ := fewL_is hf
    have hn30 : n ≤ 30 := by have := HLX.out; omega
    have HLOW := Lib.hid hlow
    have HF := Lib.hid hf
    clear hf hlow h30
    by_cases hp6 : N.size ≤ 600
    · have gp : ¬ ((N.size : Int) > 600) := by omega
      go_enter Tryz.func3, Tryz.ntmps3
      go_wp2_with fail
      refine (zawake_any _).mono ?_
      rintro e w1 ⟨rfl, hB⟩
      have HB1 := Lib.hid hB
      have HX1 := Lib.hid ((HX.out.keep hB).more hB.size)
      clear hB
      go_wp2_with fail
      refine (Few_any A n c xs _ HX1.out h63).mono ?_
      rw [HF.out]
      rintro e w2 ⟨rfl, hB⟩
      have HB2 := Lib.hid (HB1.out.trans (hB.mono HB1.out.size))
      have HX2 := Lib.hid ((HX1.out.keep hB).more hB.size)
      clear hB
      go_wp2_with fail
      refine (ZNew_any A n c N nn xs _ HN.out HX2.out (by omega) HLOW.out).mono ?_
      rintro e w3 ⟨h, hB⟩
      have HB3 := Lib.hid (HB2.out.trans (hB.mono HB2.out.size))
      have HX3 := Lib.hid ((HX2.out.keep hB).more hB.size)
      clear hB
      rcases h with ⟨hc, rfl⟩ | ⟨hc, rfl⟩ | ⟨hc, z, rfl, hz⟩
      · have HC := Lib.hid hc
        have hb4 : Below w3.heap.size w3 (w3.alloc (.cells #[.string ⟨#[]⟩, .slice none 0 0, .string ⟨#[]⟩, .int .i64 0, .int .i64 0, .int .i64 0, .string ⟨#[]⟩] zoT)) := (Below.refl _ _).alloc (Nat.le_refl _) _
        have HB4 := Lib.hid (HB3.out.trans (hb4.mono HB3.out.size))
        have HX4 := Lib.hid ((HX3.out.keep hb4).more hb4.size)
        clear hb4
        clear hc
        unfold zeroZ
        go_wp2_with fail
        refine (RefNew_any A n c N nn xs _ HN.out HX4.out (by omega) HLOW.out).mono ?_
        rintro e w5 ⟨h, hB⟩
        have HB5 := Lib.hid (HB4.out.trans (hB.mono HB4.out.size))
        clear hB
        rcases h with ⟨hc, rfl⟩ | ⟨hc, rfl⟩ | ⟨hc, z, rfl, hz⟩
        · clear hc
          go_wp2_with fail
          go_ret
          exact ⟨rfl, HB5.out.alloc HB5.out.size _⟩
        · rw [HC.out] at hc; cases hc
        · rw [HC.out] at hc; cases hc
      · have HC := Lib.hid hc
        have hb4 : Below w3.heap.size w3 (w3.alloc (.cells #[.string ⟨#[]⟩, .slice none 0 0, .string ⟨#[]⟩, .int .i64 0, .int .i64 0, .int .i64 0, .string ⟨#[]⟩] zoT)) := (Below.refl _ _).alloc (Nat.le_refl _) _
        have HB4 := Lib.hid (HB3.out.trans (hb4.mono HB3.out.size))
        have HX4 := Lib.hid ((HX3.out.keep hb4).more hb4.size)
        clear hb4
        clear hc
        unfold zeroZ
        go_wp2_with fail
        refine (RefNew_any A n c N nn xs _ HN.out HX4.out (by omega) HLOW.out).mono ?_
        rintro e w5 ⟨h, hB⟩
        have HB5 := Lib.hid (HB4.out.trans (hB.mono HB4.out.size))
        clear hB
        rcases h with ⟨hc, rfl⟩ | ⟨hc, rfl⟩ | ⟨hc, z, rfl, hz⟩
        · rw [HC.out] at hc; cases hc
        · clear hc
          go_wp2_with fail
          go_ret
          exact ⟨rfl, HB5.out.alloc HB5.out.size _⟩
        · rw [HC.out] at hc; cases hc
      · have HC := Lib.hid hc
        obtain ⟨hname, hall, hisz⟩ := codeZ_zero hc
        have hok := HLOW.out.ok hall
        obtain ⟨D, hD⟩ : ∃ D, D = ofC xs := ⟨_, rfl⟩
        have hset : SetL cX D := by rw [hD]; exact ofC_set xs
        have hokD : OkL D := by rw [hD]; exact hok.ofC
        have hDl : D.length ≤ 30 := by rw [hD]; have := ofC_len xs; have := HLX.out; omega
        rw [← hD] at hz hisz
        have HDE := Lib.hid hD
        have HNAME := Lib.hid hname
        have HISZ := Lib.hid hisz
        have HSET := Lib.hid hset
        have HKD := Lib.hid hset.keys
        have HOKD := Lib.hid hokD
        have HZ3 := Lib.hid hz
        obtain ⟨A3, c3, s3, rfl, _, _, hsoa⟩ := hz
        have HSOA := Lib.hid hsoa
        clear hc hname hall hisz hok hD hset hokD hsoa
        have hw0 := Whole.new w3 zoT #[.string N, .slice A3 D.length c3, .string s3.s, .int .i64 s3.t, .int .i64 s3.c, .int .i64 s3.l, .string s3.d]
        have hB0 : Below w3.heap.size w3 (w3.alloc (.cells #[.string N, .slice A3 D.length c3, .string s3.s, .int .i64 s3.t, .int .i64 s3.c, .int .i64 s3.l, .string s3.d] zoT)) := (Below.refl _ _).alloc (Nat.le_refl _) _
        have HZ4 := Lib.hid (HZ3.out.later hB0)
        have HWZ4 := Lib.hid hw0
        have HX4 := Lib.hid ((HX3.out.keep hB0).more hB0.size)
        have HB4 := Lib.hid (HB3.out.trans (hB0.mono HB3.out.size))
        clear hw0 hB0
        go_wp2_with fail
        refine (RefNew_any A n c N nn xs _ HN.out HX4.out (by omega) HLOW.out).mono ?_
        rintro e w5 ⟨h, hB⟩
        have HZ5 := Lib.hid (HZ4.out.later hB)
        have HWZ5 := Lib.hid (HWZ4.out.below hB HWZ4.out.lt)
        have HB5 := Lib.hid (HB4.out.trans (hB.mono HB4.out.size))
        clear hB
        rcases h with ⟨hc, _⟩ | ⟨hc, _⟩ | ⟨_, r5, rfl, hr5⟩
        · rw [HC.out] at hc; cases hc
        · rw [HC.out] at hc; cases hc
        · rw [← HDE.out] at hr5
          have HR5 := Lib.hid hr5
          obtain ⟨A5, c5, rfl, hs5, _⟩ := hr5
          have hw0 := Whole.new w5 rzT #[.string N, .slice A5 D.length c5]
          have hB0 : Below w5.heap.size w5 (w5.alloc (.cells #[.string N, .slice A5 D.length c5] rzT)) := (Below.refl _ _).alloc (Nat.le_refl _) _
          obtain ⟨W6, hW6⟩ : ∃ W, W = w5.alloc (.cells #[.string N, .slice A5 D.length c5] rzT) := ⟨_, rfl⟩
          rw [← hW6] at hw0 hB0
          have HZ6 := Lib.hid (HZ5.out.later hB0)
          have HWZ6 := Lib.hid (HWZ5.out.below hB0 HWZ5.out.lt)
          have HR6 := Lib.hid (HR5.out.later hB0)
          have HS6 := Lib.hid ((hs5.keep hB0).more hB0.size)
          have HWR6 := Lib.hid hw0
          have HB6 := Lib.hid (HB5.out.trans (hB0.mono HB5.out.size))
          have HW6 := Lib.hid hW6
          obtain ⟨gz, hgz⟩ : ∃ g, g = w3.heap.size := ⟨_, rfl⟩
          obtain ⟨gw, hgw⟩ : ∃ g, g = w5.heap.size := ⟨_, rfl⟩
          rw [← hgz] at HWZ6
          rw [← hgw] at HWR6
          have HGZ := Lib.hid hgz
          have HGW := Lib.hid hgw
          clear hw0 hB0 hs5 hW6 hgz hgw
          obtain ⟨e1, e6, emem, hsl, m7, r7, a7, b7, k7, d7, f7, h7⟩ := soa_of HISZ.out HOKD.out HSOA.out
          have H7 := Lib.hid h7
          obtain ⟨M, hM⟩ : ∃ M, M = mk m7 := ⟨_, rfl⟩
          obtain ⟨R, hR⟩ : ∃ R, R = mk r7 := ⟨_, rfl⟩
          obtain ⟨n0, hn0⟩ : ∃ k, k = num a7 := ⟨_, rfl⟩
          obtain ⟨n1, hn1⟩ : ∃ k, k = num b7 := ⟨_, rfl⟩
          obtain ⟨n2, hn2⟩ : ∃ k, k = num k7 := ⟨_, rfl⟩
          obtain ⟨n3, hn3⟩ : ∃ k, k = num d7 := ⟨_, rfl⟩
          obtain ⟨n4, hn4⟩ : ∃ k, k = num f7 := ⟨_, rfl⟩
          have hag : agg7 m7 r7 (num a7) (num b7) (num k7) (num d7) (num f7) = #[.string M, .string R, .int .u32 (n0 : Nat), .int .u32 (n1 : Nat), .int .u32 (n2 : Nat), .int .u32 (n3 : Nat), .int .u32 (n4 : Nat)] := by rw [hM, hR, hn0, hn1, hn2, hn3, hn4]; rfl
          have HAG := Lib.hid hag
          clear h7 hM hR hn0 hn1 hn2 hn3 hn4 hag e1 e6 emem
          have hwz6 := HWZ6.out
          rw [HW6.out, HGZ.out] at hwz6
          obtain ⟨c0, c1, c2, c3', c4, c5', c6⟩ := zo_facts hwz6
          clear hwz6
          go_wp2_with fail
          rw [← HW6.out, ← HGZ.out, ← HGW.out]
          refine (ZSoa_any N D A3 c3 s3 m7 r7 a7 b7 k7 d7 f7 _ H7.out hsl).mono ?_
          rw [HAG.out]
          rintro en w7 ⟨rfl, hB⟩
          have hv := Whole.new w7 26 #[.string s3.s, .int .i64 s3.t, .int .i64 s3.c, .int .i64 s3.l, .string s3.d]
          have hBv : Below w7.heap.size w7 (w7.alloc (.cells #[.string s3.s, .int .i64 s3.t, .int .i64 s3.c, .int .i64 s3.l, .string s3.d] 26)) := (Below.refl _ _).alloc (Nat.le_refl _) _
          obtain ⟨V8, hV8⟩ : ∃ V, V = w7.alloc (.cells #[.string s3.s, .int .i64 s3.t, .int .i64 s3.c, .int .i64 s3.l, .string s3.d] 26) := ⟨_, rfl⟩
          rw [← hV8] at hv hBv
          have hu := Whole.new V8 soT #[.string M, .string R, .int .u32 (n0 : Nat), .int .u32 (n1 : Nat), .int .u32 (n2 : Nat), .int .u32 (n3 : Nat), .int .u32 (n4 : Nat)]
          have hBu : Below V8.heap.size V8 (V8.alloc (.cells #[.string M, .string R, .int .u32 (n0 : Nat), .int .u32 (n1 : Nat), .int .u32 (n2 : Nat), .int .u32 (n3 : Nat), .int .u32 (n4 : Nat)] soT)) := (Below.refl _ _).alloc (Nat.le_refl _) _
          obtain ⟨W8, hW8⟩ : ∃ V, V = V8.alloc (.cells #[.string M, .string R, .int .u32 (n0 : Nat), .int .u32 (n1 : Nat), .int .u32 (n2 : Nat), .int .u32 (n3 : Nat), .int .u32 (n4 : Nat)] soT) := ⟨_, rfl⟩
          rw [← hW8] at hu hBu
          have sv8 : V8.heap.size = w7.heap.size + 1 := by rw [hV8]; simp
          rw [sv8] at hu
          have hv2 := hv.below hBu hv.lt
          obtain ⟨gr, hgr⟩ : ∃ g, g = w7.heap.size := ⟨_, rfl⟩
          rw [← hgr] at hu hv2
          have hBB : Below W6.heap.size W6 W8 := hB.trans ((hBv.trans (hBu.mono hBv.size)).mono hB.size)
          have HRR8 := Lib.hid hv2
          have HSO8 := Lib.hid hu
          have HB8 := Lib.hid (HB6.out.trans (hBB.mono HB6.out.size))
          have HK8 := Lib.hid hBB
          have HZ8 := Lib.hid (HZ6.out.later hBB)
          have HWZ8 := Lib.hid (HWZ6.out.below hBB HWZ6.out.lt)
          have HR8 := Lib.hid (HR6.out.later hBB)
          have HWR8 := Lib.hid (HWR6.out.below hBB HWR6.out.lt)
          have HS8 := Lib.hid ((HS6.out.keep hBB).more hBB.size)
          have HV8 := Lib.hid hV8
          have HW8 := Lib.hid hW8
          have HgrI := Lib.hid hgr
          clear hv hBv hV8 hu hBu hW8 sv8 hv2 hgr hBB hB
          clear c0 c1 c2 c3' c4 c5' c6
          have hwr8 := HWR8.out
          rw [HW8.out, HV8.out] at hwr8
          have d0 := (hwr8.cell 0).trans (show _ = some (.string N) from rfl)
          have d1 := (hwr8.cell 1).trans (show _ = some (.slice A5 D.length c5) from rfl)
          clear hwr8
          go_wp2_with fail
          rw [← HV8.out, ← HW8.out, ← HgrI.out]
          refine (ZRSoa_any N D A5 c5 D.length s3 m7 r7 a7 b7 k7 d7 f7 _ HS8.out (by omega) HSOA.out H7.out hsl).mono ?_
          rw [HAG.out]
          rintro en w9 ⟨rfl, hB⟩
          have hrr9 := HRR8.out.below hB HRR8.out.lt
          have hso9 := HSO8.out.below hB HSO8.out.lt
          have hv := Whole.new w9 26 #[.string s3.s, .int .i64 s3.t, .int .i64 s3.c, .int .i64 s3.l, .string s3.d]
          have hBv : Below w9.heap.size w9 (w9.alloc (.cells #[.string s3.s, .int .i64 s3.t, .int .i64 s3.c, .int .i64 s3.l, .string s3.d] 26)) := (Below.refl _ _).alloc (Nat.le_refl _) _
          obtain ⟨V10, hV10⟩ : ∃ V, V = w9.alloc (.cells #[.string s3.s, .int .i64 s3.t, .int .i64 s3.c, .int .i64 s3.l, .string s3.d] 26) := ⟨_, rfl⟩
          rw [← hV10] at hv hBv
          have hu := Whole.new V10 soT #[.string M, .string R, .int .u32 (n0 : Nat), .int .u32 (n1 : Nat), .int .u32 (n2 : Nat), .int .u32 (n3 : Nat), .int .u32 (n4 : Nat)]
          have hBu : Below V10.heap.size V10 (V10.alloc (.cells #[.string M, .string R, .int .u32 (n0 : Nat), .int .u32 (n1 : Nat), .int .u32 (n2 : Nat), .int .u32 (n3 : Nat), .int .u32 (n4 : Nat)] soT)) := (Below.refl _ _).alloc (Nat.le_refl _) _
          obtain ⟨W10, hW10⟩ : ∃ V, V = V10.alloc (.cells #[.string M, .string R, .int .u32 (n0 : Nat), .int .u32 (n1 : Nat), .int .u32 (n2 : Nat), .int .u32 (n3 : Nat), .int .u32 (n4 : Nat)] soT) := ⟨_, rfl⟩
          rw [← hW10] at hu hBu
          have sv10 : V10.heap.size = w9.heap.size + 1 := by rw [hV10]; simp
          rw [sv10] at hu
          have hv2 := hv.below hBu hv.lt
          obtain ⟨gx, hgx⟩ : ∃ g, g = w9.heap.size := ⟨_, rfl⟩
          rw [← hgx] at hu hv2
          have hBB : Below W8.heap.size W8 W10 := hB.trans ((hBv.trans (hBu.mono hBv.size)).mono hB.size)
          have HRR10 := Lib.hid hv2
          have HSO10 := Lib.hid hu
          have HB10 := Lib.hid (HB8.out.trans (hBB.mono HB8.out.size))
          have HK10 := Lib.hid hBB
          have HZ10 := Lib.hid (HZ8.out.later hBB)
          have HWZ10 := Lib.hid (HWZ8.out.below hBB HWZ8.out.lt)
          have HR10 := Lib.hid (HR8.out.later hBB)
          have HWR10 := Lib.hid (HWR8.out.below hBB HWR8.out.lt)
          have HS10 := Lib.hid ((HS8.out.keep hBB).more hBB.size)
          have HV10 := Lib.hid hV10
          have HW10 := Lib.hid hW10
          have HgxI := Lib.hid hgx
          have HRR8b := Lib.hid (HRR8.out.below HK10.out HRR8.out.lt)
          have HSO8b := Lib.hid (HSO8.out.below HK10.out HSO8.out.lt)
          clear hrr9 hso9 hv hBv hV10 hu hBu hW10 sv10 hv2 hgx hBB hB
          go_wp2_with fail
          rw [← HV10.out, ← HW10.out, ← HgxI.out]
          clear d0 d1
          have za0 : ∀ w' : World, Below W10.heap.size W10 w' → w'.cell? ⟨gz, 0, none⟩ = some (.string N) := fun w' h => (h.cell (HWZ10.out.lt)).trans ((HWZ10.out.cell 0).trans rfl)
          have za1 : ∀ w' : World, Below W10.heap.size W10 w' → w'.cell? ⟨gz, 1, none⟩ = some (.slice A3 D.length c3) := fun w' h => (h.cell (HWZ10.out.lt)).trans ((HWZ10.out.cell 1).trans rfl)
          have za2 : ∀ w' : World, Below W10.heap.size W10 w' → w'.cell? ⟨gz, 2, none⟩ = some (.string s3.s) := fun w' h => (h.cell (HWZ10.out.lt)).trans ((HWZ10.out.cell 2).trans rfl)
          have za3 : ∀ w' : World, Below W10.heap.size W10 w' → w'.cell? ⟨gz, 3, none⟩ = some (.int .i64 s3.t) := fun w' h => (h.cell (HWZ10.out.lt)).trans ((HWZ10.out.cell 3).trans rfl)
          have za4 : ∀ w' : World, Below W10.heap.size W10 w' → w'.cell? ⟨gz, 4, none⟩ = some (.int .i64 s3.c) := fun w' h => (h.cell (HWZ10.out.lt)).trans ((HWZ10.out.cell 4).trans rfl)
          have za5 : ∀ w' : World, Below W10.heap.size W10 w' → w'.cell? ⟨gz, 5, none⟩ = some (.int .i64 s3.l) := fun w' h => (h.cell (HWZ10.out.lt)).trans ((HWZ10.out.cell 5).trans rfl)
          have za6 : ∀ w' : World, Below W10.heap.size W10 w' → w'.cell? ⟨gz, 6, none⟩ = some (.string s3.d) := fun w' h => (h.cell (HWZ10.out.lt)).trans ((HWZ10.out.cell 6).trans rfl)
          have wa0 : ∀ w' : World, Below W10.heap.size W10 w' → w'.cell? ⟨gw, 0, none⟩ = some (.string N) := fun w' h => (h.cell (HWR10.out.lt)).trans ((HWR10.out.cell 0).trans rfl)
          have wa1 : ∀ w' : World, Below W10.heap.size W10 w' → w'.cell? ⟨gw, 1, none⟩ = some (.slice A5 D.length c5) := fun w' h => (h.cell (HWR10.out.lt)).trans ((HWR10.out.cell 1).trans rfl)
          have ra0 : ∀ w' : World, Below W10.heap.size W10 w' → w'.cell? ⟨gr, 0, none⟩ = some (.string s3.s) := fun w' h => (h.cell (HRR8b.out.lt)).trans ((HRR8b.out.cell 0).trans rfl)
          have ra1 : ∀ w' : World, Below W10.heap.size W10 w' → w'.cell? ⟨gr, 1, none⟩ = some (.int .i64 s3.t) := fun w' h => (h.cell (HRR8b.out.lt)).trans ((HRR8b.out.cell 1).trans rfl)
          have ra2 : ∀ w' : World, Below W10.heap.size W10 w' → w'.cell? ⟨gr, 2, none⟩ = some (.int .i64 s3.c) := fun w' h => (h.cell (HRR8b.out.lt)).trans ((HRR8b.out.cell 2).trans rfl)
          have ra3 : ∀ w' : World, Below W10.heap.size W10 w' → w'.cell? ⟨gr, 3, none⟩ = some (.int .i64 s3.l) := fun w' h => (h.cell (HRR8b.out.lt)).trans ((HRR8b.out.cell 3).trans rfl)
          have ra4 : ∀ w' : World, Below W10.heap.size W10 w' → w'.cell? ⟨gr, 4, none⟩ = some (.string s3.d) := fun w' h => (h.cell (HRR8b.out.lt)).trans ((HRR8b.out.cell 4).trans rfl)
          have sa0 : ∀ w' : World, Below W10.heap.size W10 w' → w'.cell? ⟨gr + 1, 0, none⟩ = some (.string M) := fun w' h => (h.cell (HSO8b.out.lt)).trans ((HSO8b.out.cell 0).trans rfl)
          have sa1 : ∀ w' : World, Below W10.heap.size W10 w' → w'.cell? ⟨gr + 1, 1, none⟩ = some (.string R) := fun w' h => (h.cell (HSO8b.out.lt)).trans ((HSO8b.out.cell 1).trans rfl)
          have sa2 : ∀ w' : World, Below W10.heap.size W10 w' → w'.cell? ⟨gr + 1, 2, none⟩ = some (.int .u32 (n0 : Nat)) := fun w' h => (h.cell (HSO8b.out.lt)).trans ((HSO8b.out.cell 2).trans rfl)
          have sa3 : ∀ w' : World, Below W10.heap.size W10 w' → w'.cell? ⟨gr + 1, 3, none⟩ = some (.int .u32 (n1 : Nat)) := fun w' h => (h.cell (HSO8b.out.lt)).trans ((HSO8b.out.cell 3).trans rfl)
          have sa4 : ∀ w' : World, Below W10.heap.size W10 w' → w'.cell? ⟨gr + 1, 4, none⟩ = some (.int .u32 (n2 : Nat)) := fun w' h => (h.cell (HSO8b.out.lt)).trans ((HSO8b.out.cell 4).trans rfl)
          have sa5 : ∀ w' : World, Below W10.heap.size W10 w' → w'.cell? ⟨gr + 1, 5, none⟩ = some (.int .u32 (n3 : Nat)) := fun w' h => (h.cell (HSO8b.out.lt)).trans ((HSO8b.out.cell 5).trans rfl)
          have sa6 : ∀ w' : World, Below W10.heap.size W10 w' → w'.cell? ⟨gr + 1, 6, none⟩ = some (.int .u32 (n4 : Nat)) := fun w' h => (h.cell (HSO8b.out.lt)).trans ((HSO8b.out.cell 6).trans rfl)
          have xa0 : ∀ w' : World, Below W10.heap.size W10 w' → w'.cell? ⟨gx, 0, none⟩ = some (.string s3.s) := fun w' h => (h.cell (HRR10.out.lt)).trans ((HRR10.out.cell 0).trans rfl)
          have xa1 : ∀ w' : World, Below W10.heap.size W10 w' → w'.cell? ⟨gx, 1, none⟩ = some (.int .i64 s3.t) := fun w' h => (h.cell (HRR10.out.lt)).trans ((HRR10.out.cell 1).trans rfl)
          have xa2 : ∀ w' : World, Below W10.heap.size W10 w' → w'.cell? ⟨gx, 2, none⟩ = some (.int .i64 s3.c) := fun w' h => (h.cell (HRR10.out.lt)).trans ((HRR10.out.cell 2).trans rfl)
          have xa3 : ∀ w' : World, Below W10.heap.size W10 w' → w'.cell? ⟨gx, 3, none⟩ = some (.int .i64 s3.l) := fun w' h => (h.cell (HRR10.out.lt)).trans ((HRR10.out.cell 3).trans rfl)
          have xa4 : ∀ w' : World, Below W10.heap.size W10 w' → w'.cell? ⟨gx, 4, none⟩ = some (.string s3.d) := fun w' h => (h.cell (HRR10.out.lt)).trans ((HRR10.out.cell 4).trans rfl)
          have ta0 : ∀ w' : World, Below W10.heap.size W10 w' → w'.cell? ⟨gx + 1, 0, none⟩ = some (.string M) := fun w' h => (h.cell (HSO10.out.lt)).trans ((HSO10.out.cell 0).trans rfl)
          have ta1 : ∀ w' : World, Below W10.heap.size W10 w' → w'.cell? ⟨gx + 1, 1, none⟩ = some (.string R) := fun w' h => (h.cell (HSO10.out.lt)).trans ((HSO10.out.cell 1).trans rfl)
          have ta2 : ∀ w' : World, Below W10.heap.size W10 w' → w'.cell? ⟨gx + 1, 2, none⟩ = some (.int .u32 (n0 : Nat)) := fun w' h => (h.cell (HSO10.out.lt)).trans ((HSO10.out.cell 2).trans rfl)
          have ta3 : ∀ w' : World, Below W10.heap.size W10 w' → w'.cell? ⟨gx + 1, 3, none⟩ = some (.int .u32 (n1 : Nat)) := fun w' h => (h.cell (HSO10.out.lt)).trans ((HSO10.out.cell 3).trans rfl)
          have ta4 : ∀ w' : World, Below W10.heap.size W10 w' → w'.cell? ⟨gx + 1, 4, none⟩ = some (.int .u32 (n2 : Nat)) := fun w' h => (h.cell (HSO10.out.lt)).trans ((HSO10.out.cell 4).trans rfl)
          have ta5 : ∀ w' : World, Below W10.heap.size W10 w' → w'.cell? ⟨gx + 1, 5, none⟩ = some (.int .u32 (n3 : Nat)) := fun w' h => (h.cell (HSO10.out.lt)).trans ((HSO10.out.cell 5).trans rfl)
          have ta6 : ∀ w' : World, Below W10.heap.size W10 w' → w'.cell? ⟨gx + 1, 6, none⟩ = some (.int .u32 (n4 : Nat)) := fun w' h => (h.cell (HSO10.out.lt)).trans ((HSO10.out.cell 6).trans rfl)
          obtain ⟨L, hL⟩ : ∃ L, L = compS (namesX D) := ⟨_, rfl⟩
          have HL := Lib.hid hL
          have HLL := Lib.hid (show L.length ≤ 1073741824 by rw [hL]; have h1 := compS_len (namesX D); have h2 := namesX_len D; omega)
          have HSM := Lib.hid (show sameX D D = true from sameX_is.2 rfl)
          have hre := fun w => rr_eql s3 s3 w
          rw [show eqX s3 s3 = true from eqX_is.2 rfl] at hre
          have hrg := fun op x y w => rr_guard op x y s3 s3 w
          have hse := fun w => so_eql M R (n0 : Nat) (n1 : Nat) (n2 : Nat) (n3 : Nat) (n4 : Nat) w
          have hsg := fun op x y w => so_guard op x y M R (n0 : Nat) (n1 : Nat) (n2 : Nat) (n3 : Nat) (n4 : Nat) w
          have hNN : (N.toList == N.toList) = true := by simp
          have hb0 : Below W10.heap.size W10 W10 := Below.refl _ _
          have hb1 : Below W10.heap.size W10 W10.drew := (Below.refl _ _).drew
          clear hL
          go_wp2_with fail
          go_region_held3 (fun w' => Below W10.heap.size W10 w') (go_keep) (first
            | (go_at_call 12; (refine (Apex_any N D _ _ (HZ10.out.later hb1)).mono ?_; rintro e w12 ⟨rfl, hB12⟩; have hT12 : Below W10.heap.size W10 w12 := hb1.trans (hB12.mono hb1.size)))
            | (go_at_call 14; (refine (All_any N D _ _ (HZ10.out.later hT12) (by omega)).mono ?_; rintro e w13 ⟨u13, rfl, ho13, hB13⟩; obtain ⟨A13, c13, rfl, hs13, _⟩ := own_sees ho13; have hT13 : Below W10.heap.size W10 w13 := hT12.trans (hB13.mono hT12.size)))
            | (go_at_call 13; (refine (Same_any A13 A5 D.length c13 D.length c5 D D _ hs13 ((HS10.out.keep hT13).more hT13.size) (by omega)).mono ?_; rw [HSM.out]; rintro e w14 ⟨rfl, hB14⟩; have hT14 : Below W10.heap.size W10 w14 := hT13.trans (hB14.mono hT13.size)))
            | (go_at_call 16; (refine (Names_any N D _ _ (HZ10.out.later hT14) HOKD.out (by omega)).mono ?_; rw [← HL.out]; rintro e w15 ⟨u15, rfl, ho15, hB15⟩; obtain ⟨A15, c15, rfl, hs15⟩ := Sees.own ho15; have hT15 : Below W10.heap.size W10 w15 := hT14.trans (hB15.mono hT14.size)))
            | (go_at_call 17; (refine (RefNames_any N D _ _ (HR10.out.later hT15) (by omega)).mono ?_; rw [← HL.out]; rintro e w16 ⟨u16, rfl, ho16, hB16⟩; obtain ⟨A16, c16, rfl, hs16⟩ := Sees.own ho16; have hT16 : Below W10.heap.size W10 w16 := hT15.trans (hB16.mono hT15.size)))
            | (go_at_call 15; (refine (Texts_own A15 A16 L.length c15 c16 L _ ((hs15.below hB16).more hB16.size) hs16 HLL.out).mono ?_; rintro e w17 ⟨rfl, hB17⟩; have hT17 : Below W10.heap.size W10 w17 := hT16.trans (hB17.mono hT16.size))))
          all_goals (
            have HBF := Lib.hid (HB10.out.trans (hT17.mono HB10.out.size))
            clear za0 za1 za2 za3 za4 za5 za6 wa0 wa1 ra0 ra1 ra2 ra3 ra4 sa0 sa1 sa2 sa3 sa4 sa5 sa6 xa0 xa1 xa2 xa3 xa4 ta0 ta1 ta2 ta3 ta4 ta5 ta6 hre hrg hse hsg
            go_wp2_with fail
            go_ret
            exact ⟨rfl, HBF.out⟩)
    · have gp : (N.size : Int) > 600 := by omega
      go_enter Tryz.func3, Tryz.ntmps3
      go_wp2_with fail
      refine (zawake_any _).mono ?_
      rintro e w1 ⟨rfl, hB⟩
      have HB1 := Lib.hid hB
      have HX1 := Lib.hid ((HX.out.keep hB).more hB.size)
      clear hB
      go_wp2_with fail
      refine (Few_any A n c xs _ HX1.out h63).mono ?_
      rw [HF.out]
      rintro e w2 ⟨rfl, hB⟩
      have HB2 := Lib.hid (HB1.out.trans (hB.mono HB1.out.size))
      have HX2 := Lib.hid ((HX1.out.keep hB).more hB.size)
      clear hB
      go_wp2_with fail
      refine (zawake_any _).mono ?_
      rintro e w3 ⟨rfl, hB⟩
      have HB3 := Lib.hid (HB2.out.trans (hB.mono HB2.out.size))
      have HX3 := Lib.hid ((HX2.out.keep hB).more hB.size)
      clear hB
      go_wp2_with fail
      go_ret
      exact ⟨rfl, HB3.out⟩
end Go.Proofs.YtkmmbbcmpjkmkaaGreat
