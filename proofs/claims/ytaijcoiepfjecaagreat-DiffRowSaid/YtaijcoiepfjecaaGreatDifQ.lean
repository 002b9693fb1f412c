/- DiffRow. No statement of the seat is proved here. (written by gen_l.py) -/
import Derived.Test.YtaijcoiepfjecaaGreatDjJ
import Derived.Deep.RegionHeld3
namespace Go.Proofs.YtaijcoiepfjecaaGreat
open Go.RowKit Go.Op
set_option linter.unusedVariables false

set_option maxHeartbeats 64000000 in
set_option maxRecDepth 20000 in
theorem DiffRow_walk (A1 : Option Addr) (n1 c1 : Nat) (xs : List Rrd) (A2 : Option Addr) (n2 c2 : Nat) (ys : List Rrd) (A3 : Option Addr) (n3 c3 : Nat) (zs : List Rrd) (w : World) (h1 : SeesR w w.heap.size A1 n1 xs) (q1 : InCap A1 n1 c1) (u1 : n1 ≤ 9223372036854775807) (h2 : SeesR w w.heap.size A2 n2 ys) (q2 : InCap A2 n2 c2) (u2 : n2 ≤ 9223372036854775807) (h3 : SeesR w w.heap.size A3 n3 zs) (q3 : InCap A3 n3 c3) (u3 : n3 ≤ 9223372036854775807) :
    Calls Tryz.prog 7 #[.slice A1 n1 c1, .slice A2 n2 c2, .slice A3 n3 c3] w fun e w' => e = .returned (.bool true) ∧ Below w.heap.size w w' := by
  have HX1 := Lib.hid (h1)
  have HLX1 := Lib.hid h1.1
  have HCX1 := Lib.hid q1
  have HX2 := Lib.hid (h2)
  have HLX2 := Lib.hid h2.1
  have HCX2 := Lib.hid q2
  have HX3 := Lib.hid (h3)
  have HLX3 := Lib.hid h3.1
  have HCX3 := Lib.hid q3
  have HB := Lib.hid (Below.refl w.heap.size w)
  clear h1 q1 h2 q2 h3 q3
  cases hf1 : fewL xs with
  | false =>
    have HF1 := Lib.hid hf1
    clear hf1
    go_enter Tryz.func7, Tryz.ntmps7
    go_wp2_with fail
    refine (dawake_any _).mono ?_
    rintro e wa ⟨rfl, hB⟩
    replace HX1 := Lib.hid ((HX1.out.keep hB).more hB.size)
    replace HX2 := Lib.hid ((HX2.out.keep hB).more hB.size)
    replace HX3 := Lib.hid ((HX3.out.keep hB).more hB.size)
    replace HB := Lib.hid (HB.out.trans (hB.mono HB.out.size))
    clear hB
    go_wp2_with fail
    refine (Few_any A1 n1 c1 xs _ HX1.out (by omega)).mono ?_
    rw [HF1.out]
    rintro e wf1 ⟨rfl, hB⟩
    replace HX1 := Lib.hid ((HX1.out.keep hB).more hB.size)
    replace HX2 := Lib.hid ((HX2.out.keep hB).more hB.size)
    replace HX3 := Lib.hid ((HX3.out.keep hB).more hB.size)
    replace HB := Lib.hid (HB.out.trans (hB.mono HB.out.size))
    clear hB
    go_wp2_with fail
    refine (dawake_any _).mono ?_
    rintro e wz ⟨rfl, hB⟩
    replace HX1 := Lib.hid ((HX1.out.keep hB).more hB.size)
    replace HX2 := Lib.hid ((HX2.out.keep hB).more hB.size)
    replace HX3 := Lib.hid ((HX3.out.keep hB).more hB.size)
    replace HB := Lib.hid (HB.out.trans (hB.mono HB.out.size))
    clear hB
    go_wp2_with fail
    go_ret
    exact ⟨rfl, HB.out⟩
  | true =>
    obtain ⟨s1, hl1⟩ := fewL_is hf1
    have HF1 := Lib.hid hf1
    have HLO1 := Lib.hid hl1
    have v1 : n1 ≤ 30 := by have := HLX1.out; omega
    clear hf1 hl1 s1
    cases hf2 : fewL ys with
    | false =>
      have HF2 := Lib.hid hf2
      clear hf2
      go_enter Tryz.func7, Tryz.ntmps7
      go_wp2_with fail
      refine (dawake_any _).mono ?_
      rintro e wa ⟨rfl, hB⟩
      replace HX1 := Lib.hid ((HX1.out.keep hB).more hB.size)
      replace HX2 := Lib.hid ((HX2.out.keep hB).more hB.size)
      replace HX3 := Lib.hid ((HX3.out.keep hB).more hB.size)
      replace HB := Lib.hid (HB.out.trans (hB.mono HB.out.size))
      clear hB
      go_wp2_with fail
      refine (Few_any A1 n1 c1 xs _ HX1.out (by omega)).mono ?_
      rw [HF1.out]
      rintro e wf1 ⟨rfl, hB⟩
      replace HX1 := Lib.hid ((HX1.out.keep hB).more hB.size)
      replace HX2 := Lib.hid ((HX2.out.keep hB).more hB.size)
      replace HX3 := Lib.hid ((HX3.out.keep hB).more hB.size)
      replace HB := Lib.hid (HB.out.trans (hB.mono HB.out.size))
      clear hB
      go_wp2_with fail
      refine (Few_any A2 n2 c2 ys _ HX2.out (by omega)).mono ?_
      rw [HF2.out]
      rintro e wf2 ⟨rfl, hB⟩
      replace HX1 := Lib.hid ((HX1.out.keep hB).more hB.size)
      replace HX2 := Lib.hid ((HX2.out.keep hB).more hB.size)
      replace HX3 := Lib.hid ((HX3.out.keep hB).more hB.size)
      replace HB := Lib.hid (HB.out.trans (hB.mono HB.out.size))
      clear hB
      go_wp2_with fail
      refine (dawake_any _).mono ?_
      rintro e wz ⟨rfl, hB⟩
      replace HX1 := Lib.hid ((HX1.out.keep hB).more hB.size)
      replace HX2 := Lib.hid ((HX2.out.keep hB).more hB.size)
      replace HX3 := Lib.hid ((HX3.out.keep hB).more hB.size)
      replace HB := Lib.hid (HB.out.trans (hB.mono HB.out.size))
      clear hB
      go_wp2_with fail
      go_ret
      exact ⟨rfl, HB.out⟩
    | true =>
      obtain ⟨s2, hl2⟩ := fewL_is hf2
      have HF2 := Lib.hid hf2
      have HLO2 := Lib.hid hl2
      have v2 : n2 ≤ 30 := by have := HLX2.out; omega
      clear hf2 hl2 s2
      cases hf3 : fewL zs with
      | false =>
        have HF3 := Lib.hid hf3
        clear hf3
        go_enter Tryz.func7, Tryz.ntmps7
        go_wp2_with fail
        refine (dawake_any _).mono ?_
        rintro e wa ⟨rfl, hB⟩
        replace HX1 := Lib.hid ((HX1.out.keep hB).more hB.size)
        replace HX2 := Lib.hid ((HX2.out.keep hB).more hB.size)
        replace HX3 := Lib.hid ((HX3.out.keep hB).more hB.size)
        replace HB := Lib.hid (HB.out.trans (hB.mono HB.out.size))
        clear hB
        go_wp2_with fail
        refine (Few_any A1 n1 c1 xs _ HX1.out (by omega)).mono ?_
        rw [HF1.out]
        rintro e wf1 ⟨rfl, hB⟩
        replace HX1 := Lib.hid ((HX1.out.keep hB).more hB.size)
        replace HX2 := Lib.hid ((HX2.out.keep hB).more hB.size)
        replace HX3 := Lib.hid ((HX3.out.keep hB).more hB.size)
        replace HB := Lib.hid (HB.out.trans (hB.mono HB.out.size))
        clear hB
        go_wp2_with fail
        refine (Few_any A2 n2 c2 ys _ HX2.out (by omega)).mono ?_
        rw [HF2.out]
        rintro e wf2 ⟨rfl, hB⟩
        replace HX1 := Lib.hid ((HX1.out.keep hB).more hB.size)
        replace HX2 := Lib.hid ((HX2.out.keep hB).more hB.size)
        replace HX3 := Lib.hid ((HX3.out.keep hB).more hB.size)
        replace HB := Lib.hid (HB.out.trans (hB.mono HB.out.size))
        clear hB
        go_wp2_with fail
        refine (Few_any A3 n3 c3 zs _ HX3.out (by omega)).mono ?_
        rw [HF3.out]
        rintro e wf3 ⟨rfl, hB⟩
        replace HX1 := Lib.hid ((HX1.out.keep hB).more hB.size)
        replace HX2 := Lib.hid ((HX2.out.keep hB).more hB.size)
        replace HX3 := Lib.hid ((HX3.out.keep hB).more hB.size)
        replace HB := Lib.hid (HB.out.trans (hB.mono HB.out.size))
        clear hB
        go_wp2_with fail
        refine (dawake_any _).mono ?_
        rintro e wz ⟨rfl, hB⟩
        replace HX1 := Lib.hid ((HX1.out.keep hB).more hB.size)
        replace HX2 := Lib.hid ((HX2.out.keep hB).more hB.size)
        replace HX3 := Lib.hid ((HX3.out.keep hB).more hB.size)
        replace HB := Lib.hid (HB.out.trans (hB.mono HB.out.size))
        clear hB
        go_wp2_with fail
        go_ret
        exact ⟨rfl, HB.out⟩
      | true =>
        obtain ⟨s3, hl3⟩ := fewL_is hf3
        have HF3 := Lib.hid hf3
        have HLO3 := Lib.hid hl3
        have v3 : n3 ≤ 30 := by have := HLX3.out; omega
        clear hf3 hl3 s3
        go_enter Tryz.func7, Tryz.ntmps7
        go_wp2_with fail
        refine (dawake_any _).mono ?_
        rintro e wa ⟨rfl, hB⟩
        replace HX1 := Lib.hid ((HX1.out.keep hB).more hB.size)
        replace HX2 := Lib.hid ((HX2.out.keep hB).more hB.size)
        replace HX3 := Lib.hid ((HX3.out.keep hB).more hB.size)
        replace HB := Lib.hid (HB.out.trans (hB.mono HB.out.size))
        clear hB
        go_wp2_with fail
        refine (Few_any A1 n1 c1 xs _ HX1.out (by omega)).mono ?_
        rw [HF1.out]
        rintro e wf1 ⟨rfl, hB⟩
        replace HX1 := Lib.hid ((HX1.out.keep hB).more hB.size)
        replace HX2 := Lib.hid ((HX2.out.keep hB).more hB.size)
        replace HX3 := Lib.hid ((HX3.out.keep hB).more hB.size)
        replace HB := Lib.hid (HB.out.trans (hB.mono HB.out.size))
        clear hB
        go_wp2_with fail
        refine (Few_any A2 n2 c2 ys _ HX2.out (by omega)).mono ?_
        rw [HF2.out]
        rintro e wf2 ⟨rfl, hB⟩
        replace HX1 := Lib.hid ((HX1.out.keep hB).more hB.size)
        replace HX2 := Lib.hid ((HX2.out.keep hB).more hB.size)
        replace HX3 := Lib.hid ((HX3.out.keep hB).more hB.size)
        replace HB := Lib.hid (HB.out.trans (hB.mono HB.out.size))
        clear hB
        go_wp2_with fail
        refine (Few_any A3 n3 c3 zs _ HX3.out (by omega)).mono ?_
        rw [HF3.out]
        rintro e wf3 ⟨rfl, hB⟩
        replace HX1 := Lib.hid ((HX1.out.keep hB).more hB.size)
        replace HX2 := Lib.hid ((HX2.out.keep hB).more hB.size)
        replace HX3 := Lib.hid ((HX3.out.keep hB).more hB.size)
        replace HB := Lib.hid (HB.out.trans (hB.mono HB.out.size))
        clear hB
        go_wp2_with fail
        refine (two_any A1 A2 n1 c1 n2 c2 xs ys _ HX1.out HX2.out HLO1.out HLO2.out (by omega) (by omega)).mono ?_
        rintro e wt ⟨⟨Na, Ba, ma, da, ta, Nb, Bb, mb, db, tb, zzt, rfl, hz, hzz⟩, hB⟩
        replace HX1 := Lib.hid ((HX1.out.keep hB).more hB.size)
        replace HX2 := Lib.hid ((HX2.out.keep hB).more hB.size)
        replace HX3 := Lib.hid ((HX3.out.keep hB).more hB.size)
        replace HB := Lib.hid (HB.out.trans (hB.mono HB.out.size))
        clear hB
        have hwz := (Whole.new wt zoT zeroZ).alloc (.cells zeroZ zoT)
        unfold zeroZ at hwz
        obtain ⟨fz0, fz1, fz2, fz3, fz4, fz5, fz6⟩ := zo_frozen hwz
        obtain ⟨cz0, cz1, cz2, cz3, cz4, cz5, cz6⟩ := zo_facts hwz
        clear hwz
        cases zzt with
        | false =>
          have HZQt := Lib.hid hz
          clear hz hzz
          obtain ⟨Wt, hWt⟩ : ∃ W, W = ((wt.alloc (.cells #[.string Na, .slice Ba ma da, .string ta.s, .int .i64 ta.t, .int .i64 ta.c, .int .i64 ta.l, .string ta.d] zoT)).alloc (.cells #[.string Nb, .slice Bb mb db, .string tb.s, .int .i64 tb.t, .int .i64 tb.c, .int .i64 tb.l, .string tb.d] zoT)) := ⟨_, rfl⟩
          obtain ⟨ga, hga⟩ : ∃ g, g = wt.heap.size := ⟨_, rfl⟩
          obtain ⟨gb, hgb⟩ : ∃ g, g = wt.heap.size + 1 := ⟨_, rfl⟩
          have hb : Below wt.heap.size wt Wt := by rw [hWt]; exact ((Below.refl _ _).alloc (Nat.le_refl _) _).alloc (by simp) _
          replace HX1 := Lib.hid ((HX1.out.keep hb).more hb.size)
          replace HX2 := Lib.hid ((HX2.out.keep hb).more hb.size)
          replace HX3 := Lib.hid ((HX3.out.keep hb).more hb.size)
          replace HB := Lib.hid (HB.out.trans (hb.mono HB.out.size))
          have HVa := Lib.hid (show Whole Wt ga zoT #[.string Na, .slice Ba ma da, .string ta.s, .int .i64 ta.t, .int .i64 ta.c, .int .i64 ta.l, .string ta.d] from by rw [hWt, hga]; exact (Whole.new _ _ _).alloc _)
          have HVb := Lib.hid (show Whole Wt gb zoT #[.string Nb, .slice Bb mb db, .string tb.s, .int .i64 tb.t, .int .i64 tb.c, .int .i64 tb.l, .string tb.d] from by
            rw [hWt, hgb]
            have := Whole.new (wt.alloc (.cells #[.string Na, .slice Ba ma da, .string ta.s, .int .i64 ta.t, .int .i64 ta.c, .int .i64 ta.l, .string ta.d] zoT)) zoT #[.string Nb, .slice Bb mb db, .string tb.s, .int .i64 tb.t, .int .i64 tb.c, .int .i64 tb.l, .string tb.d]
            rwa [World.size_alloc] at this)
          have HWWt := Lib.hid hWt
          have HGa := Lib.hid hga
          have HGb := Lib.hid hgb
          clear hb hWt hga hgb
          go_wp2_with fail
          rw [← HWWt.out, ← HGb.out, ← HGa.out]
          refine (two_any A1 A3 n1 c1 n3 c3 xs zs _ HX1.out HX3.out HLO1.out HLO3.out (by omega) (by omega)).mono ?_
          rintro e ws ⟨⟨Ne, Be, me, de, te, Nc, Bc, mc, dc, tc, zzs, rfl, hz, hzz⟩, hB⟩
          replace HX1 := Lib.hid ((HX1.out.keep hB).more hB.size)
          replace HX2 := Lib.hid ((HX2.out.keep hB).more hB.size)
          replace HX3 := Lib.hid ((HX3.out.keep hB).more hB.size)
          replace HB := Lib.hid (HB.out.trans (hB.mono HB.out.size))
          replace HVa := Lib.hid (HVa.out.below hB HVa.out.lt)
          replace HVb := Lib.hid (HVb.out.below hB HVb.out.lt)
          clear hB hz hzz
          have hwz := (Whole.new ws zoT zeroZ).alloc (.cells zeroZ zoT)
          unfold zeroZ at hwz
          obtain ⟨fz0, fz1, fz2, fz3, fz4, fz5, fz6⟩ := zo_frozen hwz
          obtain ⟨cz0, cz1, cz2, cz3, cz4, cz5, cz6⟩ := zo_facts hwz
          clear hwz
          go_wp2_with fail
          go_ret
          exact ⟨rfl, (HB.out.alloc HB.out.size _).alloc (Nat.le_trans HB.out.size (by simp)) _⟩
        | true =>
          obtain ⟨hca, hcb⟩ := hz.1 rfl
          obtain ⟨hza, hzb⟩ := hzz rfl
          clear hz hzz
          obtain ⟨Da, hDa⟩ : ∃ D, D = ofC xs := ⟨_, rfl⟩
          obtain ⟨oka, sta, iza, ola⟩ := low_codeZ HLO1.out hca
          rw [← hDa] at oka sta iza hza
          have la : Da.length ≤ 30 := by rw [hDa]; have := ofC_len xs; have := HLX1.out; omega
          have HOKa := Lib.hid oka
          have HSTa := Lib.hid sta
          have HIZa := Lib.hid iza
          have HDa := Lib.hid hDa
          have HOLa := Lib.hid ola
          clear hDa oka sta iza ola hca
          obtain ⟨Db, hDb⟩ : ∃ D, D = ofC ys := ⟨_, rfl⟩
          obtain ⟨okb, stb, izb, olb⟩ := low_codeZ HLO2.out hcb
          rw [← hDb] at okb stb izb hzb
          have lb : Db.length ≤ 30 := by rw [hDb]; have := ofC_len ys; have := HLX2.out; omega
          have HOKb := Lib.hid okb
          have HSTb := Lib.hid stb
          have HIZb := Lib.hid izb
          have HDb := Lib.hid hDb
          have HOLb := Lib.hid olb
          clear hDb okb stb izb olb hcb
          obtain ⟨Wt, hWt⟩ : ∃ W, W = ((wt.alloc (.cells #[.string Na, .slice Ba ma da, .string ta.s, .int .i64 ta.t, .int .i64 ta.c, .int .i64 ta.l, .string ta.d] zoT)).alloc (.cells #[.string Nb, .slice Bb mb db, .string tb.s, .int .i64 tb.t, .int .i64 tb.c, .int .i64 tb.l, .string tb.d] zoT)) := ⟨_, rfl⟩
          obtain ⟨ga, hga⟩ : ∃ g, g = wt.heap.size := ⟨_, rfl⟩
          obtain ⟨gb, hgb⟩ : ∃ g, g = wt.heap.size + 1 := ⟨_, rfl⟩
          have hb : Below wt.heap.size wt Wt := by rw [hWt]; exact ((Below.refl _ _).alloc (Nat.le_refl _) _).alloc (by simp) _
          replace HX1 := Lib.hid ((HX1.out.keep hb).more hb.size)
          replace HX2 := Lib.hid ((HX2.out.keep hb).more hb.size)
          replace HX3 := Lib.hid ((HX3.out.keep hb).more hb.size)
          replace HB := Lib.hid (HB.out.trans (hb.mono HB.out.size))
          have HVa := Lib.hid (show Whole Wt ga zoT #[.string Na, .slice Ba ma da, .string ta.s, .int .i64 ta.t, .int .i64 ta.c, .int .i64 ta.l, .string ta.d] from by rw [hWt, hga]; exact (Whole.new _ _ _).alloc _)
          have HZa := Lib.hid (hza.later hb)
          have HVb := Lib.hid (show Whole Wt gb zoT #[.string Nb, .slice Bb mb db, .string tb.s, .int .i64 tb.t, .int .i64 tb.c, .int .i64 tb.l, .string tb.d] from by
            rw [hWt, hgb]
            have := Whole.new (wt.alloc (.cells #[.string Na, .slice Ba ma da, .string ta.s, .int .i64 ta.t, .int .i64 ta.c, .int .i64 ta.l, .string ta.d] zoT)) zoT #[.string Nb, .slice Bb mb db, .string tb.s, .int .i64 tb.t, .int .i64 tb.c, .int .i64 tb.l, .string tb.d]
            rwa [World.size_alloc] at this)
          have HZb := Lib.hid (hzb.later hb)
          have HWWt := Lib.hid hWt
          have HGa := Lib.hid hga
          have HGb := Lib.hid hgb
          clear hb hWt hga hgb
          go_wp2_with fail
          rw [← HWWt.out, ← HGb.out, ← HGa.out]
          refine (two_any A1 A3 n1 c1 n3 c3 xs zs _ HX1.out HX3.out HLO1.out HLO3.out (by omega) (by omega)).mono ?_
          rintro e ws ⟨⟨Ne, Be, me, de, te, Nc, Bc, mc, dc, tc, zzs, rfl, hz, hzz⟩, hB⟩
          replace HX1 := Lib.hid ((HX1.out.keep hB).more hB.size)
          replace HX2 := Lib.hid ((HX2.out.keep hB).more hB.size)
          replace HX3 := Lib.hid ((HX3.out.keep hB).more hB.size)
          replace HB := Lib.hid (HB.out.trans (hB.mono HB.out.size))
          replace HVa := Lib.hid (HVa.out.below hB HVa.out.lt)
          replace HZa := Lib.hid (HZa.out.later hB)
          replace HVb := Lib.hid (HVb.out.below hB HVb.out.lt)
          replace HZb := Lib.hid (HZb.out.later hB)
          clear hB
          have hwz := (Whole.new ws zoT zeroZ).alloc (.cells zeroZ zoT)
          unfold zeroZ at hwz
          obtain ⟨fz0, fz1, fz2, fz3, fz4, fz5, fz6⟩ := zo_frozen hwz
          obtain ⟨cz0, cz1, cz2, cz3, cz4, cz5, cz6⟩ := zo_facts hwz
          clear hwz
          cases zzs with
          | false =>
            have HZQs := Lib.hid hz
            clear hz hzz
            go_wp2_with fail
            go_ret
            exact ⟨rfl, (HB.out.alloc HB.out.size _).alloc (Nat.le_trans HB.out.size (by simp)) _⟩
          | true =>
            obtain ⟨hce, hcc⟩ := hz.1 rfl
            obtain ⟨hze, hzc⟩ := hzz rfl
            clear hz hzz
            obtain ⟨De, hDe⟩ : ∃ D, D = ofC xs := ⟨_, rfl⟩
            obtain ⟨oke, ste, ize, ole⟩ := low_codeZ HLO1.out hce
            rw [← hDe] at oke ste ize hze
            have le : De.length ≤ 30 := by rw [hDe]; have := ofC_len xs; have := HLX1.out; omega
            have HOKe := Lib.hid oke
            have HSTe := Lib.hid ste
            have HIZe := Lib.hid ize
            have HDe := Lib.hid hDe
            have HOLe := Lib.hid ole
            clear hDe oke ste ize ole hce
            obtain ⟨Dc, hDc⟩ : ∃ D, D = ofC zs := ⟨_, rfl⟩
            obtain ⟨okc, stc, izc, olc⟩ := low_codeZ HLO3.out hcc
            rw [← hDc] at okc stc izc hzc
            have lc : Dc.length ≤ 30 := by rw [hDc]; have := ofC_len zs; have := HLX3.out; omega
            have HOKc := Lib.hid okc
            have HSTc := Lib.hid stc
            have HIZc := Lib.hid izc
            have HDc := Lib.hid hDc
            have HOLc := Lib.hid olc
            clear hDc okc stc izc olc hcc
            obtain ⟨Ws, hWs⟩ : ∃ W, W = ((ws.alloc (.cells #[.string Ne, .slice Be me de, .string te.s, .int .i64 te.t, .int .i64 te.c, .int .i64 te.l, .string te.d] zoT)).alloc (.cells #[.string Nc, .slice Bc mc dc, .string tc.s, .int .i64 tc.t, .int .i64 tc.c, .int .i64 tc.l, .string tc.d] zoT)) := ⟨_, rfl⟩
            obtain ⟨ge, hge⟩ : ∃ g, g = ws.heap.size := ⟨_, rfl⟩
            obtain ⟨gc, hgc⟩ : ∃ g, g = ws.heap.size + 1 := ⟨_, rfl⟩
            have ka0 := (((HVa.out.alloc (.cells #[.string Ne, .slice Be me de, .string te.s, .int .i64 te.t, .int .i64 te.c, .int .i64 te.l, .string te.d] zoT)).alloc (.cells #[.string Nc, .slice Bc mc dc, .string tc.s, .int .i64 tc.t, .int .i64 tc.c, .int .i64 tc.l, .string tc.d] zoT)).cell 0).trans (show _ = some (.string Na) from rfl)
            have ka1 := (((HVa.out.alloc (.cells #[.string Ne, .slice Be me de, .string te.s, .int .i64 te.t, .int .i64 te.c, .int .i64 te.l, .string te.d] zoT)).alloc (.cells #[.string Nc, .slice Bc mc dc, .string tc.s, .int .i64 tc.t, .int .i64 tc.c, .int .i64 tc.l, .string tc.d] zoT)).cell 1).trans (show _ = some (.slice Ba ma da) from rfl)
            have ka2 := (((HVa.out.alloc (.cells #[.string Ne, .slice Be me de, .string te.s, .int .i64 te.t, .int .i64 te.c, .int .i64 te.l, .string te.d] zoT)).alloc (.cells #[.string Nc, .slice Bc mc dc, .string tc.s, .int .i64 tc.t, .int .i64 tc.c, .int .i64 tc.l, .string tc.d] zoT)).cell 2).trans (show _ = some (.string ta.s) from rfl)
            have ka3 := (((HVa.out.alloc (.cells #[.string Ne, .slice Be me de, .string te.s, .int .i64 te.t, .int .i64 te.c, .int .i64 te.l, .string te.d] zoT)).alloc (.cells #[.string Nc, .slice Bc mc dc, .string tc.s, .int .i64 tc.t, .int .i64 tc.c, .int .i64 tc.l, .string tc.d] zoT)).cell 3).trans (show _ = some (.int .i64 ta.t) from rfl)
            have ka4 := (((HVa.out.alloc (.cells #[.string Ne, .slice Be me de, .string te.s, .int .i64 te.t, .int .i64 te.c, .int .i64 te.l, .string te.d] zoT)).alloc (.cells #[.string Nc, .slice Bc mc dc, .string tc.s, .int .i64 tc.t, .int .i64 tc.c, .int .i64 tc.l, .string tc.d] zoT)).cell 4).trans (show _ = some (.int .i64 ta.c) from rfl)
            have ka5 := (((HVa.out.alloc (.cells #[.string Ne, .slice Be me de, .string te.s, .int .i64 te.t, .int .i64 te.c, .int .i64 te.l, .string te.d] zoT)).alloc (.cells #[.string Nc, .slice Bc mc dc, .string tc.s, .int .i64 tc.t, .int .i64 tc.c, .int .i64 tc.l, .string tc.d] zoT)).cell 5).trans (show _ = some (.int .i64 ta.l) from rfl)
            have ka6 := (((HVa.out.alloc (.cells #[.string Ne, .slice Be me de, .string te.s, .int .i64 te.t, .int .i64 te.c, .int .i64 te.l, .string te.d] zoT)).alloc (.cells #[.string Nc, .slice Bc mc dc, .string tc.s, .int .i64 tc.t, .int .i64 tc.c, .int .i64 tc.l, .string tc.d] zoT)).cell 6).trans (show _ = some (.string ta.d) from rfl)
            have kb0 := (((HVb.out.alloc (.cells #[.string Ne, .slice Be me de, .string te.s, .int .i64 te.t, .int .i64 te.c, .int .i64 te.l, .string te.d] zoT)).alloc (.cells #[.string Nc, .slice Bc mc dc, .string tc.s, .int .i64 tc.t, .int .i64 tc.c, .int .i64 tc.l, .string tc.d] zoT)).cell 0).trans (show _ = some (.string Nb) from rfl)
            have kb1 := (((HVb.out.alloc (.cells #[.string Ne, .slice Be me de, .string te.s, .int .i64 te.t, .int .i64 te.c, .int .i64 te.l, .string te.d] zoT)).alloc (.cells #[.string Nc, .slice Bc mc dc, .string tc.s, .int .i64 tc.t, .int .i64 tc.c, .int .i64 tc.l, .string tc.d] zoT)).cell 1).trans (show _ = some (.slice Bb mb db) from rfl)
            have kb2 := (((HVb.out.alloc (.cells #[.string Ne, .slice Be me de, .string te.s, .int .i64 te.t, .int .i64 te.c, .int .i64 te.l, .string te.d] zoT)).alloc (.cells #[.string Nc, .slice Bc mc dc, .string tc.s, .int .i64 tc.t, .int .i64 tc.c, .int .i64 tc.l, .string tc.d] zoT)).cell 2).trans (show _ = some (.string tb.s) from rfl)
            have kb3 := (((HVb.out.alloc (.cells #[.string Ne, .slice Be me de, .string te.s, .int .i64 te.t, .int .i64 te.c, .int .i64 te.l, .string te.d] zoT)).alloc (.cells #[.string Nc, .slice Bc mc dc, .string tc.s, .int .i64 tc.t, .int .i64 tc.c, .int .i64 tc.l, .string tc.d] zoT)).cell 3).trans (show _ = some (.int .i64 tb.t) from rfl)
            have kb4 := (((HVb.out.alloc (.cells #[.string Ne, .slice Be me de, .string te.s, .int .i64 te.t, .int .i64 te.c, .int .i64 te.l, .string te.d] zoT)).alloc (.cells #[.string Nc, .slice Bc mc dc, .string tc.s, .int .i64 tc.t, .int .i64 tc.c, .int .i64 tc.l, .string tc.d] zoT)).cell 4).trans (show _ = some (.int .i64 tb.c) from rfl)
            have kb5 := (((HVb.out.alloc (.cells #[.string Ne, .slice Be me de, .string te.s, .int .i64 te.t, .int .i64 te.c, .int .i64 te.l, .string te.d] zoT)).alloc (.cells #[.string Nc, .slice Bc mc dc, .string tc.s, .int .i64 tc.t, .int .i64 tc.c, .int .i64 tc.l, .string tc.d] zoT)).cell 5).trans (show _ = some (.int .i64 tb.l) from rfl)
            have kb6 := (((HVb.out.alloc (.cells #[.string Ne, .slice Be me de, .string te.s, .int .i64 te.t, .int .i64 te.c, .int .i64 te.l, .string te.d] zoT)).alloc (.cells #[.string Nc, .slice Bc mc dc, .string tc.s, .int .i64 tc.t, .int .i64 tc.c, .int .i64 tc.l, .string tc.d] zoT)).cell 6).trans (show _ = some (.string tb.d) from rfl)
            have hb : Below ws.heap.size ws Ws := by rw [hWs]; exact ((Below.refl _ _).alloc (Nat.le_refl _) _).alloc (by simp) _
            replace HX1 := Lib.hid ((HX1.out.keep hb).more hb.size)
            replace HX2 := Lib.hid ((HX2.out.keep hb).more hb.size)
            replace HX3 := Lib.hid ((HX3.out.keep hb).more hb.size)
            replace HB := Lib.hid (HB.out.trans (hb.mono HB.out.size))
            replace HVa := Lib.hid (HVa.out.below hb HVa.out.lt)
            replace HZa := Lib.hid (HZa.out.later hb)
            replace HVb := Lib.hid (HVb.out.below hb HVb.out.lt)
            replace HZb := Lib.hid (HZb.out.later hb)
            have HVe := Lib.hid (show Whole Ws ge zoT #[.string Ne, .slice Be me de, .string te.s, .int .i64 te.t, .int .i64 te.c, .int .i64 te.l, .string te.d] from by rw [hWs, hge]; exact (Whole.new _ _ _).alloc _)
            have HZe := Lib.hid (hze.later hb)
            have HVc := Lib.hid (show Whole Ws gc zoT #[.string Nc, .slice Bc mc dc, .string tc.s, .int .i64 tc.t, .int .i64 tc.c, .int .i64 tc.l, .string tc.d] from by
              rw [hWs, hgc]
              have := Whole.new (ws.alloc (.cells #[.string Ne, .slice Be me de, .string te.s, .int .i64 te.t, .int .i64 te.c, .int .i64 te.l, .string te.d] zoT)) zoT #[.string Nc, .slice Bc mc dc, .string tc.s, .int .i64 tc.t, .int .i64 tc.c, .int .i64 tc.l, .string tc.d]
              rwa [World.size_alloc] at this)
            have HZc := Lib.hid (hzc.later hb)
            have HWWs := Lib.hid hWs
            have HGe := Lib.hid hge
            have HGc := Lib.hid hgc
            clear hb hWs hge hgc
            go_wp2_with fail
            rw [← HWWs.out, ← HGc.out, ← HGe.out]
            clear ka0 ka1 ka2 ka3 ka4 ka5 ka6 kb0 kb1 kb2 kb3 kb4 kb5 kb6
            refine (DOf_any exN exN Da Db _ _ _ HZa.out HZb.out HOKa.out HOKb.out HSTa.out HSTb.out (by omega) (by omega)).mono ?_
            rintro e wo ⟨⟨Pu, pu, ru, Pv, pv, rv, rfl, ho1, ho2⟩, hB⟩
            replace HX1 := Lib.hid ((HX1.out.keep hB).more hB.size)
            replace HX2 := Lib.hid ((HX2.out.keep hB).more hB.size)
            replace HX3 := Lib.hid ((HX3.out.keep hB).more hB.size)
            replace HB := Lib.hid (HB.out.trans (hB.mono HB.out.size))
            replace HVa := Lib.hid (HVa.out.below hB HVa.out.lt)
            replace HZa := Lib.hid (HZa.out.later hB)
            replace HVb := Lib.hid (HVb.out.below hB HVb.out.lt)
            replace HZb := Lib.hid (HZb.out.later hB)
            replace HVe := Lib.hid (HVe.out.below hB HVe.out.lt)
            replace HZe := Lib.hid (HZe.out.later hB)
            replace HVc := Lib.hid (HVc.out.below hB HVc.out.lt)
            replace HZc := Lib.hid (HZc.out.later hB)
            clear hB
            have HOu := Lib.hid (ho1)
            have HOv := Lib.hid (ho2)
            clear ho1 ho2
            have zu : pu ≤ 30 := by have := HOu.out.1; have := lackX_len Da Db; omega
            have zv : pv ≤ 30 := by have := HOv.out.1; have := lackX_len Db Da; omega
            have kb0 := (HVb.out.cell 0).trans (show _ = some (.string Nb) from rfl)
            have kb1 := (HVb.out.cell 1).trans (show _ = some (.slice Bb mb db) from rfl)
            have kb2 := (HVb.out.cell 2).trans (show _ = some (.string tb.s) from rfl)
            have kb3 := (HVb.out.cell 3).trans (show _ = some (.int .i64 tb.t) from rfl)
            have kb4 := (HVb.out.cell 4).trans (show _ = some (.int .i64 tb.c) from rfl)
            have kb5 := (HVb.out.cell 5).trans (show _ = some (.int .i64 tb.l) from rfl)
            have kb6 := (HVb.out.cell 6).trans (show _ = some (.string tb.d) from rfl)
            have kc0 := (HVc.out.cell 0).trans (show _ = some (.string Nc) from rfl)
            have kc1 := (HVc.out.cell 1).trans (show _ = some (.slice Bc mc dc) from rfl)
            have kc2 := (HVc.out.cell 2).trans (show _ = some (.string tc.s) from rfl)
            have kc3 := (HVc.out.cell 3).trans (show _ = some (.int .i64 tc.t) from rfl)
            have kc4 := (HVc.out.cell 4).trans (show _ = some (.int .i64 tc.c) from rfl)
            have kc5 := (HVc.out.cell 5).trans (show _ = some (.int .i64 tc.l) from rfl)
            have kc6 := (HVc.out.cell 6).trans (show _ = some (.string tc.d) from rfl)
            go_wp2_with fail
            clear kb0 kb1 kb2 kb3 kb4 kb5 kb6 kc0 kc1 kc2 kc3 kc4 kc5 kc6
            refine (DOf_any exN exN Db Dc _ _ _ HZb.out HZc.out HOKb.out HOKc.out HSTb.out HSTc.out (by omega) (by omega)).mono ?_
            rintro e wk ⟨⟨Pp, pp, rp, Pq, pq, rq, rfl, ho1, ho2⟩, hB⟩
            replace HX1 := Lib.hid ((HX1.out.keep hB).more hB.size)
            replace HX2 := Lib.hid ((HX2.out.keep hB).more hB.size)
            replace HX3 := Lib.hid ((HX3.out.keep hB).more hB.size)
            replace HB := Lib.hid (HB.out.trans (hB.mono HB.out.size))
            replace HVa := Lib.hid (HVa.out.below hB HVa.out.lt)
            replace HZa := Lib.hid (HZa.out.later hB)
            replace HVb := Lib.hid (HVb.out.below hB HVb.out.lt)
            replace HZb := Lib.hid (HZb.out.later hB)
            replace HVe := Lib.hid (HVe.out.below hB HVe.out.lt)
            replace HZe := Lib.hid (HZe.out.later hB)
            replace HVc := Lib.hid (HVc.out.below hB HVc.out.lt)
            replace HZc := Lib.hid (HZc.out.later hB)
            replace HOu := Lib.hid (HOu.out.later hB)
            replace HOv := Lib.hid (HOv.out.later hB)
            clear hB
            have HOp := Lib.hid (ho1)
            have HOq := Lib.hid (ho2)
            clear ho1 ho2
            have zp : pp ≤ 30 := by have := HOp.out.1; have := lackX_len Db Dc; omega
            have zq : pq ≤ 30 := by have := HOq.out.1; have := lackX_len Dc Db; omega
            have ka0 := (HVa.out.cell 0).trans (show _ = some (.string Na) from rfl)
            have ka1 := (HVa.out.cell 1).trans (show _ = some (.slice Ba ma da) from rfl)
            have ka2 := (HVa.out.cell 2).trans (show _ = some (.string ta.s) from rfl)
            have ka3 := (HVa.out.cell 3).trans (show _ = some (.int .i64 ta.t) from rfl)
            have ka4 := (HVa.out.cell 4).trans (show _ = some (.int .i64 ta.c) from rfl)
            have ka5 := (HVa.out.cell 5).trans (show _ = some (.int .i64 ta.l) from rfl)
            have ka6 := (HVa.out.cell 6).trans (show _ = some (.string ta.d) from rfl)
            go_wp2_with fail
            clear ka0 ka1 ka2 ka3 ka4 ka5 ka6
            refine (ApplyDiff_any Da Db _ Pu Pv pu ru pv rv _ HZa.out HOu.out HOv.out HOKa.out HOKb.out HSTa.out HSTb.out HIZb.out (by omega) (by omega) (by omega) (by omega)).mono ?_
            rintro e wi ⟨⟨Nx, Bx, mx, dx, tx, rfl, hzx⟩, hB⟩
            replace HX1 := Lib.hid ((HX1.out.keep hB).more hB.size)
            replace HX2 := Lib.hid ((HX2.out.keep hB).more hB.size)
            replace HX3 := Lib.hid ((HX3.out.keep hB).more hB.size)
            replace HB := Lib.hid (HB.out.trans (hB.mono HB.out.size))
            replace HVa := Lib.hid (HVa.out.below hB HVa.out.lt)
            replace HZa := Lib.hid (HZa.out.later hB)
            replace HVb := Lib.hid (HVb.out.below hB HVb.out.lt)
            replace HZb := Lib.hid (HZb.out.later hB)
            replace HVe := Lib.hid (HVe.out.below hB HVe.out.lt)
            replace HZe := Lib.hid (HZe.out.later hB)
            replace HVc := Lib.hid (HVc.out.below hB HVc.out.lt)
            replace HZc := Lib.hid (HZc.out.later hB)
            replace HOu := Lib.hid (HOu.out.later hB)
            replace HOv := Lib.hid (HOv.out.later hB)
            replace HOp := Lib.hid (HOp.out.later hB)
            replace HOq := Lib.hid (HOq.out.later hB)
            clear hB
            obtain ⟨Wi, hWi⟩ : ∃ W, W = (wi.alloc (.cells #[.string Nx, .slice Bx mx dx, .string tx.s, .int .i64 tx.t, .int .i64 tx.c, .int .i64 tx.l, .string tx.d] zoT)) := ⟨_, rfl⟩
            obtain ⟨gx, hgx⟩ : ∃ g, g = wi.heap.size := ⟨_, rfl⟩
            have hb : Below wi.heap.size wi Wi := by rw [hWi]; exact (Below.refl _ _).alloc (Nat.le_refl _) _
            replace HX1 := Lib.hid ((HX1.out.keep hb).more hb.size)
            replace HX2 := Lib.hid ((HX2.out.keep hb).more hb.size)
            replace HX3 := Lib.hid ((HX3.out.keep hb).more hb.size)
            replace HB := Lib.hid (HB.out.trans (hb.mono HB.out.size))
            replace HVa := Lib.hid (HVa.out.below hb HVa.out.lt)
            replace HZa := Lib.hid (HZa.out.later hb)
            replace HVb := Lib.hid (HVb.out.below hb HVb.out.lt)
            replace HZb := Lib.hid (HZb.out.later hb)
            replace HVe := Lib.hid (HVe.out.below hb HVe.out.lt)
            replace HZe := Lib.hid (HZe.out.later hb)
            replace HVc := Lib.hid (HVc.out.below hb HVc.out.lt)
            replace HZc := Lib.hid (HZc.out.later hb)
            replace HOu := Lib.hid (HOu.out.later hb)
            replace HOv := Lib.hid (HOv.out.later hb)
            replace HOp := Lib.hid (HOp.out.later hb)
            replace HOq := Lib.hid (HOq.out.later hb)
            have HVx := Lib.hid (show Whole Wi gx zoT #[.string Nx, .slice Bx mx dx, .string tx.s, .int .i64 tx.t, .int .i64 tx.c, .int .i64 tx.l, .string tx.d] from by rw [hWi, hgx]; exact Whole.new _ _ _)
            have HZx := Lib.hid (hzx.later hb)
            have HWWi := Lib.hid hWi
            have HGx := Lib.hid hgx
            clear hb hWi hgx
            go_wp2_with fail
            rw [← HWWi.out, ← HGx.out]
            refine (ApplyDiff_any Db Dc _ Pp Pq pp rp pq rq _ HZx.out HOp.out HOq.out HOKb.out HOKc.out HSTb.out HSTc.out HIZc.out (by omega) (by omega) (by omega) (by omega)).mono ?_
            rintro e wj ⟨⟨Ny, By, my, dy, ty, rfl, hzy⟩, hB⟩
            replace HX1 := Lib.hid ((HX1.out.keep hB).more hB.size)
            replace HX2 := Lib.hid ((HX2.out.keep hB).more hB.size)
            replace HX3 := Lib.hid ((HX3.out.keep hB).more hB.size)
            replace HB := Lib.hid (HB.out.trans (hB.mono HB.out.size))
            replace HVa := Lib.hid (HVa.out.below hB HVa.out.lt)
            replace HZa := Lib.hid (HZa.out.later hB)
            replace HVb := Lib.hid (HVb.out.below hB HVb.out.lt)
            replace HZb := Lib.hid (HZb.out.later hB)
            replace HVe := Lib.hid (HVe.out.below hB HVe.out.lt)
            replace HZe := Lib.hid (HZe.out.later hB)
            replace HVc := Lib.hid (HVc.out.below hB HVc.out.lt)
            replace HZc := Lib.hid (HZc.out.later hB)
            replace HOu := Lib.hid (HOu.out.later hB)
            replace HOv := Lib.hid (HOv.out.later hB)
            replace HOp := Lib.hid (HOp.out.later hB)
            replace HOq := Lib.hid (HOq.out.later hB)
            replace HVx := Lib.hid (HVx.out.below hB HVx.out.lt)
            replace HZx := Lib.hid (HZx.out.later hB)
            clear hB
            obtain ⟨Wj, hWj⟩ : ∃ W, W = (wj.alloc (.cells #[.string Ny, .slice By my dy, .string ty.s, .int .i64 ty.t, .int .i64 ty.c, .int .i64 ty.l, .string ty.d] zoT)) := ⟨_, rfl⟩
            obtain ⟨gy, hgy⟩ : ∃ g, g = wj.heap.size := ⟨_, rfl⟩
            have hb : Below wj.heap.size wj Wj := by rw [hWj]; exact (Below.refl _ _).alloc (Nat.le_refl _) _
            replace HX1 := Lib.hid ((HX1.out.keep hb).more hb.size)
            replace HX2 := Lib.hid ((HX2.out.keep hb).more hb.size)
            replace HX3 := Lib.hid ((HX3.out.keep hb).more hb.size)
            replace HB := Lib.hid (HB.out.trans (hb.mono HB.out.size))
            replace HVa := Lib.hid (HVa.out.below hb HVa.out.lt)
            replace HZa := Lib.hid (HZa.out.later hb)
            replace HVb := Lib.hid (HVb.out.below hb HVb.out.lt)
            replace HZb := Lib.hid (HZb.out.later hb)
            replace HVe := Lib.hid (HVe.out.below hb HVe.out.lt)
            replace HZe := Lib.hid (HZe.out.later hb)
            replace HVc := Lib.hid (HVc.out.below hb HVc.out.lt)
            replace HZc := Lib.hid (HZc.out.later hb)
            replace HOu := Lib.hid (HOu.out.later hb)
            replace HOv := Lib.hid (HOv.out.later hb)
            replace HOp := Lib.hid (HOp.out.later hb)
            replace HOq := Lib.hid (HOq.out.later hb)
            replace HVx := Lib.hid (HVx.out.below hb HVx.out.lt)
            replace HZx := Lib.hid (HZx.out.later hb)
            have HVy := Lib.hid (show Whole Wj gy zoT #[.string Ny, .slice By my dy, .string ty.s, .int .i64 ty.t, .int .i64 ty.c, .int .i64 ty.l, .string ty.d] from by rw [hWj, hgy]; exact Whole.new _ _ _)
            have HZy := Lib.hid (hzy.later hb)
            have HWWj := Lib.hid hWj
            have HGy := Lib.hid hgy
            clear hb hWj hgy
            go_wp2_with fail
            rw [← HWWj.out, ← HGy.out]
            have HSMc := Lib.hid (show sameX Dc Dc = true from sameX_is.2 rfl)
            have hb1 : Below Wj.heap.size Wj Wj.drew := (Below.refl _ _).drew
            have ky0 : ∀ w' : World, Below Wj.heap.size Wj w' → w'.cell? ⟨gy, 0, none⟩ = some (.string Ny) := fun w' h => (h.cell (HVy.out.lt)).trans ((HVy.out.cell 0).trans rfl)
            have ky1 : ∀ w' : World, Below Wj.heap.size Wj w' → w'.cell? ⟨gy, 1, none⟩ = some (.slice By my dy) := fun w' h => (h.cell (HVy.out.lt)).trans ((HVy.out.cell 1).trans rfl)
            have ky2 : ∀ w' : World, Below Wj.heap.size Wj w' → w'.cell? ⟨gy, 2, none⟩ = some (.string ty.s) := fun w' h => (h.cell (HVy.out.lt)).trans ((HVy.out.cell 2).trans rfl)
            have ky3 : ∀ w' : World, Below Wj.heap.size Wj w' → w'.cell? ⟨gy, 3, none⟩ = some (.int .i64 ty.t) := fun w' h => (h.cell (HVy.out.lt)).trans ((HVy.out.cell 3).trans rfl)
            have ky4 : ∀ w' : World, Below Wj.heap.size Wj w' → w'.cell? ⟨gy, 4, none⟩ = some (.int .i64 ty.c) := fun w' h => (h.cell (HVy.out.lt)).trans ((HVy.out.cell 4).trans rfl)
            have ky5 : ∀ w' : World, Below Wj.heap.size Wj w' → w'.cell? ⟨gy, 5, none⟩ = some (.int .i64 ty.l) := fun w' h => (h.cell (HVy.out.lt)).trans ((HVy.out.cell 5).trans rfl)
            have ky6 : ∀ w' : World, Below Wj.heap.size Wj w' → w'.cell? ⟨gy, 6, none⟩ = some (.string ty.d) := fun w' h => (h.cell (HVy.out.lt)).trans ((HVy.out.cell 6).trans rfl)
            have kc0 : ∀ w' : World, Below Wj.heap.size Wj w' → w'.cell? ⟨gc, 0, none⟩ = some (.string Nc) := fun w' h => (h.cell (HVc.out.lt)).trans ((HVc.out.cell 0).trans rfl)
            have kc1 : ∀ w' : World, Below Wj.heap.size Wj w' → w'.cell? ⟨gc, 1, none⟩ = some (.slice Bc mc dc) := fun w' h => (h.cell (HVc.out.lt)).trans ((HVc.out.cell 1).trans rfl)
            have kc2 : ∀ w' : World, Below Wj.heap.size Wj w' → w'.cell? ⟨gc, 2, none⟩ = some (.string tc.s) := fun w' h => (h.cell (HVc.out.lt)).trans ((HVc.out.cell 2).trans rfl)
            have kc3 : ∀ w' : World, Below Wj.heap.size Wj w' → w'.cell? ⟨gc, 3, none⟩ = some (.int .i64 tc.t) := fun w' h => (h.cell (HVc.out.lt)).trans ((HVc.out.cell 3).trans rfl)
            have kc4 : ∀ w' : World, Below Wj.heap.size Wj w' → w'.cell? ⟨gc, 4, none⟩ = some (.int .i64 tc.c) := fun w' h => (h.cell (HVc.out.lt)).trans ((HVc.out.cell 4).trans rfl)
            have kc5 : ∀ w' : World, Below Wj.heap.size Wj w' → w'.cell? ⟨gc, 5, none⟩ = some (.int .i64 tc.l) := fun w' h => (h.cell (HVc.out.lt)).trans ((HVc.out.cell 5).trans rfl)
            have kc6 : ∀ w' : World, Below Wj.heap.size Wj w' → w'.cell? ⟨gc, 6, none⟩ = some (.string tc.d) := fun w' h => (h.cell (HVc.out.lt)).trans ((HVc.out.cell 6).trans rfl)
            go_region_held3 (fun w' => Below Wj.heap.size Wj w') (go_keep) (first
              | (go_at_call 13; (refine (Same_any Q1 Q2 Dc.length o1 Dc.length o2 Dc Dc _ (hs1.later hB2).2.1 hs2.2.1 (by omega)).mono ?_; rw [HSMc.out]; rintro e w3 ⟨rfl, hB3⟩; have hT3 : Below Wj.heap.size Wj w3 := hT2.trans (hB3.mono hT2.size)))
              | (go_at_call 20; (refine (All_any exN Dc _ _ (HZc.out.later hT1) (by omega)).mono ?_; rintro e w2 ⟨u2, rfl, ho2, hB2⟩; obtain ⟨Q2, o2, rfl, hs2⟩ := own_L ho2; have hT2 : Below Wj.heap.size Wj w2 := hT1.trans (hB2.mono hT1.size)))
              | (go_at_call 20; (refine (All_any exN Dc _ _ (HZy.out.later hb1) (by omega)).mono ?_; rintro e w1 ⟨u1, rfl, ho1, hB1⟩; obtain ⟨Q1, o1, rfl, hs1⟩ := own_L ho1; have hT1 : Below Wj.heap.size Wj w1 := hb1.trans (hB1.mono hb1.size))))
            all_goals (
              replace HB := Lib.hid (HB.out.trans (hT3.mono HB.out.size))
              clear ky0 ky1 ky2 ky3 ky4 ky5 ky6 kc0 kc1 kc2 kc3 kc4 kc5 kc6
              go_wp2_with fail
              go_ret
              exact ⟨rfl, HB.out⟩)
end Go.Proofs.YtaijcoiepfjecaaGreat
