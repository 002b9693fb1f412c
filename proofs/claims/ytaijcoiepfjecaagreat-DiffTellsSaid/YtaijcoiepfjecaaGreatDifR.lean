/- DiffTells. No statement of the seat is proved here. (written by gen_l.py) -/
import Derived.Test.YtaijcoiepfjecaaGreatDjJ
import Derived.Deep.RegionHeld3
namespace Go.Proofs.YtaijcoiepfjecaaGreat
open Go.RowKit Go.Op
set_option linter.unusedVariables false

set_option maxHeartbeats 64000000 in
set_option maxRecDepth 20000 in
theorem DiffTells_walk (A1 : Option Addr) (n1 c1 : Nat) (xs : List Rrd) (A2 : Option Addr) (n2 c2 : Nat) (ys : List Rrd) (w : World) (h1 : SeesR w w.heap.size A1 n1 xs) (q1 : InCap A1 n1 c1) (u1 : n1 ≤ 9223372036854775807) (h2 : SeesR w w.heap.size A2 n2 ys) (q2 : InCap A2 n2 c2) (u2 : n2 ≤ 9223372036854775807) :
    Calls Tryz.prog 3 #[.slice A1 n1 c1, .slice A2 n2 c2] w fun e w' => e = .returned (.bool true) ∧ Below w.heap.size w w' := by
  have HX1 := Lib.hid (h1)
  have HLX1 := Lib.hid h1.1
  have HCX1 := Lib.hid q1
  have HX2 := Lib.hid (h2)
  have HLX2 := Lib.hid h2.1
  have HCX2 := Lib.hid q2
  have HB := Lib.hid (Below.refl w.heap.size w)
  clear h1 q1 h2 q2
  cases hf1 : fewL xs with
  | false =>
    have HF1 := Lib.hid hf1
    clear hf1
    go_enter Tryz.func3, Tryz.ntmps3
    go_wp2_with fail
    refine (dawake_any _).mono ?_
    rintro e wa ⟨rfl, hB⟩
    replace HX1 := Lib.hid ((HX1.out.keep hB).more hB.size)
    replace HX2 := Lib.hid ((HX2.out.keep hB).more hB.size)
    replace HB := Lib.hid (HB.out.trans (hB.mono HB.out.size))
    clear hB
    go_wp2_with fail
    refine (Few_any A1 n1 c1 xs _ HX1.out (by omega)).mono ?_
    rw [HF1.out]
    rintro e wf1 ⟨rfl, hB⟩
    replace HX1 := Lib.hid ((HX1.out.keep hB).more hB.size)
    replace HX2 := Lib.hid ((HX2.out.keep hB).more hB.size)
    replace HB := Lib.hid (HB.out.trans (hB.mono HB.out.size))
    clear hB
    go_wp2_with fail
    refine (dawake_any _).mono ?_
    rintro e wz ⟨rfl, hB⟩
    replace HX1 := Lib.hid ((HX1.out.keep hB).more hB.size)
    replace HX2 := Lib.hid ((HX2.out.keep hB).more hB.size)
    replace HB := Lib.hid (HB.out.trans (hB.mono HB.out.size))
    clear hB
    go_wp2_with fail
    go_ret
    exact ⟨rfl, HB.out⟩
  | true =>
    obtain ⟨s1, hl1⟩ := fewL_is hf1
    have HF1 := Lib.hid hf1
    have HLO1 := Lib.hid hl1
    have v1 : n1 ≤ 30 := by have := HLX1.out; omega
    clear hf1 hl1 s1
    cases hf2 : fewL ys with
    | false =>
      have HF2 := Lib.hid hf2
      clear hf2
      go_enter Tryz.func3, Tryz.ntmps3
      go_wp2_with fail
      refine (dawake_any _).mono ?_
      rintro e wa ⟨rfl, hB⟩
      replace HX1 := Lib.hid ((HX1.out.keep hB).more hB.size)
      replace HX2 := Lib.hid ((HX2.out.keep hB).more hB.size)
      replace HB := Lib.hid (HB.out.trans (hB.mono HB.out.size))
      clear hB
      go_wp2_with fail
      refine (Few_any A1 n1 c1 xs _ HX1.out (by omega)).mono ?_
      rw [HF1.out]
      rintro e wf1 ⟨rfl, hB⟩
      replace HX1 := Lib.hid ((HX1.out.keep hB).more hB.size)
      replace HX2 := Lib.hid ((HX2.out.keep hB).more hB.size)
      replace HB := Lib.hid (HB.out.trans (hB.mono HB.out.size))
      clear hB
      go_wp2_with fail
      refine (Few_any A2 n2 c2 ys _ HX2.out (by omega)).mono ?_
      rw [HF2.out]
      rintro e wf2 ⟨rfl, hB⟩
      replace HX1 := Lib.hid ((HX1.out.keep hB).more hB.size)
      replace HX2 := Lib.hid ((HX2.out.keep hB).more hB.size)
      replace HB := Lib.hid (HB.out.trans (hB.mono HB.out.size))
      clear hB
      go_wp2_with fail
      refine (dawake_any _).mono ?_
      rintro e wz ⟨rfl, hB⟩
      replace HX1 := Lib.hid ((HX1.out.keep hB).more hB.size)
      replace HX2 := Lib.hid ((HX2.out.keep hB).more hB.size)
      replace HB := Lib.hid (HB.out.trans (hB.mono HB.out.size))
      clear hB
      go_wp2_with fail
      go_ret
      exact ⟨rfl, HB.out⟩
    | true =>
      obtain ⟨s2, hl2⟩ := fewL_is hf2
      have HF2 := Lib.hid hf2
      have HLO2 := Lib.hid hl2
      have v2 : n2 ≤ 30 := by have := HLX2.out; omega
      clear hf2 hl2 s2
      go_enter Tryz.func3, Tryz.ntmps3
      go_wp2_with fail
      refine (dawake_any _).mono ?_
      rintro e wa ⟨rfl, hB⟩
      replace HX1 := Lib.hid ((HX1.out.keep hB).more hB.size)
      replace HX2 := Lib.hid ((HX2.out.keep hB).more hB.size)
      replace HB := Lib.hid (HB.out.trans (hB.mono HB.out.size))
      clear hB
      go_wp2_with fail
      refine (Few_any A1 n1 c1 xs _ HX1.out (by omega)).mono ?_
      rw [HF1.out]
      rintro e wf1 ⟨rfl, hB⟩
      replace HX1 := Lib.hid ((HX1.out.keep hB).more hB.size)
      replace HX2 := Lib.hid ((HX2.out.keep hB).more hB.size)
      replace HB := Lib.hid (HB.out.trans (hB.mono HB.out.size))
      clear hB
      go_wp2_with fail
      refine (Few_any A2 n2 c2 ys _ HX2.out (by omega)).mono ?_
      rw [HF2.out]
      rintro e wf2 ⟨rfl, hB⟩
      replace HX1 := Lib.hid ((HX1.out.keep hB).more hB.size)
      replace HX2 := Lib.hid ((HX2.out.keep hB).more hB.size)
      replace HB := Lib.hid (HB.out.trans (hB.mono HB.out.size))
      clear hB
      go_wp2_with fail
      refine (two_any A1 A2 n1 c1 n2 c2 xs ys _ HX1.out HX2.out HLO1.out HLO2.out (by omega) (by omega)).mono ?_
      rintro e wt ⟨⟨Na, Ba, ma, da, ta, Nb, Bb, mb, db, tb, zzt, rfl, hz, hzz⟩, hB⟩
      replace HX1 := Lib.hid ((HX1.out.keep hB).more hB.size)
      replace HX2 := Lib.hid ((HX2.out.keep hB).more hB.size)
      replace HB := Lib.hid (HB.out.trans (hB.mono HB.out.size))
      clear hB
      have hwz := (Whole.new wt zoT zeroZ).alloc (.cells zeroZ zoT)
      unfold zeroZ at hwz
      obtain ⟨fz0, fz1, fz2, fz3, fz4, fz5, fz6⟩ := zo_frozen hwz
      obtain ⟨cz0, cz1, cz2, cz3, cz4, cz5, cz6⟩ := zo_facts hwz
      clear hwz
      cases zzt with
      | false =>
        have HZQt := Lib.hid hz
        clear hz hzz
        obtain ⟨Wt, hWt⟩ : ∃ W, W = ((wt.alloc (.cells #[.string Na, .slice Ba ma da, .string ta.s, .int .i64 ta.t, .int .i64 ta.c, .int .i64 ta.l, .string ta.d] zoT)).alloc (.cells #[.string Nb, .slice Bb mb db, .string tb.s, .int .i64 tb.t, .int .i64 tb.c, .int .i64 tb.l, .string tb.d] zoT)) := ⟨_, rfl⟩
        obtain ⟨ga, hga⟩ : ∃ g, g = wt.heap.size := ⟨_, rfl⟩
        obtain ⟨gb, hgb⟩ : ∃ g, g = wt.heap.size + 1 := ⟨_, rfl⟩
        have hb : Below wt.heap.size wt Wt := by rw [hWt]; exact ((Below.refl _ _).alloc (Nat.le_refl _) _).alloc (by simp) _
        replace HX1 := Lib.hid ((HX1.out.keep hb).more hb.size)
        replace HX2 := Lib.hid ((HX2.out.keep hb).more hb.size)
        replace HB := Lib.hid (HB.out.trans (hb.mono HB.out.size))
        have HVa := Lib.hid (show Whole Wt ga zoT #[.string Na, .slice Ba ma da, .string ta.s, .int .i64 ta.t, .int .i64 ta.c, .int .i64 ta.l, .string ta.d] from by rw [hWt, hga]; exact (Whole.new _ _ _).alloc _)
        have HVb := Lib.hid (show Whole Wt gb zoT #[.string Nb, .slice Bb mb db, .string tb.s, .int .i64 tb.t, .int .i64 tb.c, .int .i64 tb.l, .string tb.d] from by
          rw [hWt, hgb]
          have := Whole.new (wt.alloc (.cells #[.string Na, .slice Ba ma da, .string ta.s, .int .i64 ta.t, .int .i64 ta.c, .int .i64 ta.l, .string ta.d] zoT)) zoT #[.string Nb, .slice Bb mb db, .string tb.s, .int .i64 tb.t, .int .i64 tb.c, .int .i64 tb.l, .string tb.d]
          rwa [World.size_alloc] at this)
        have HWWt := Lib.hid hWt
        have HGa := Lib.hid hga
        have HGb := Lib.hid hgb
        clear hb hWt hga hgb
        go_wp2_with fail
        rw [← HWWt.out, ← HGb.out, ← HGa.out]
        obtain ⟨Kf, hKf⟩ : ∃ K, K = codeZ exL xs := ⟨_, rfl⟩
        have HKf := Lib.hid hKf
        refine (RefNewU_any A1 n1 c1 exN exL xs _ exN_is HX1.out (by omega) HLO1.out).mono ?_
        rw [← hKf]
        clear hKf
        rintro e wg ⟨⟨Mf, Rf, xf, yf, rfl, _⟩, hB⟩
        replace HX1 := Lib.hid ((HX1.out.keep hB).more hB.size)
        replace HX2 := Lib.hid ((HX2.out.keep hB).more hB.size)
        replace HB := Lib.hid (HB.out.trans (hB.mono HB.out.size))
        replace HVa := Lib.hid (HVa.out.below hB HVa.out.lt)
        replace HVb := Lib.hid (HVb.out.below hB HVb.out.lt)
        clear hB
        obtain ⟨Wg, hWg⟩ : ∃ W, W = (wg.alloc (.cells #[.string Mf, .slice Rf xf yf] rzT)) := ⟨_, rfl⟩
        obtain ⟨gf, hgf⟩ : ∃ g, g = wg.heap.size := ⟨_, rfl⟩
        have hb : Below wg.heap.size wg Wg := by rw [hWg]; exact (Below.refl _ _).alloc (Nat.le_refl _) _
        replace HX1 := Lib.hid ((HX1.out.keep hb).more hb.size)
        replace HX2 := Lib.hid ((HX2.out.keep hb).more hb.size)
        replace HB := Lib.hid (HB.out.trans (hb.mono HB.out.size))
        replace HVa := Lib.hid (HVa.out.below hb HVa.out.lt)
        replace HVb := Lib.hid (HVb.out.below hb HVb.out.lt)
        have HVf := Lib.hid (show Whole Wg gf rzT #[.string Mf, .slice Rf xf yf] from by rw [hWg, hgf]; exact Whole.new _ _ _)
        have HWWg := Lib.hid hWg
        have HGf := Lib.hid hgf
        clear hb hWg hgf
        go_wp2_with fail
        rw [← HWWg.out, ← HGf.out]
        obtain ⟨Kh, hKh⟩ : ∃ K, K = codeZ exL ys := ⟨_, rfl⟩
        have HKh := Lib.hid hKh
        refine (RefNewU_any A2 n2 c2 exN exL ys _ exN_is HX2.out (by omega) HLO2.out).mono ?_
        rw [← hKh]
        clear hKh
        rintro e wi ⟨⟨Mh, Rh, xh, yh, rfl, _⟩, hB⟩
        replace HX1 := Lib.hid ((HX1.out.keep hB).more hB.size)
        replace HX2 := Lib.hid ((HX2.out.keep hB).more hB.size)
        replace HB := Lib.hid (HB.out.trans (hB.mono HB.out.size))
        replace HVa := Lib.hid (HVa.out.below hB HVa.out.lt)
        replace HVb := Lib.hid (HVb.out.below hB HVb.out.lt)
        replace HVf := Lib.hid (HVf.out.below hB HVf.out.lt)
        clear hB
        by_cases hk1 : Kf = 0
        · subst hk1
          have hk2 : ¬ Kh = 0 := fun e => by
            have := HZQt.out.2 ⟨HKf.out.symm, HKh.out.symm.trans e⟩
            cases this
          have gk : (Kh == 0) = false := by rw [beq_eq_false_iff_ne]; exact hk2
          have gk2 : decide (Kh = 0) = false := decide_eq_false hk2
          go_wp2_with fail
          go_ret
          refine ⟨?_, HB.out.alloc HB.out.size _⟩
          simp [hk2]
        · have gk : (Kf == 0) = false := by rw [beq_eq_false_iff_ne]; exact hk1
          have gk2 : decide (Kf = 0) = false := decide_eq_false hk1
          go_wp2_with fail
          go_ret
          exact ⟨rfl, HB.out.alloc HB.out.size _⟩
      | true =>
        obtain ⟨hca, hcb⟩ := hz.1 rfl
        obtain ⟨hza, hzb⟩ := hzz rfl
        clear hz hzz
        have HCDa := Lib.hid hca
        have HCDb := Lib.hid hcb
        obtain ⟨Da, hDa⟩ : ∃ D, D = ofC xs := ⟨_, rfl⟩
        obtain ⟨oka, sta, iza, ola⟩ := low_codeZ HLO1.out hca
        rw [← hDa] at oka sta iza hza
        have la : Da.length ≤ 30 := by rw [hDa]; have := ofC_len xs; have := HLX1.out; omega
        have HOKa := Lib.hid oka
        have HSTa := Lib.hid sta
        have HIZa := Lib.hid iza
        have HDa := Lib.hid hDa
        have HOLa := Lib.hid ola
        clear hDa oka sta iza ola hca
        obtain ⟨Db, hDb⟩ : ∃ D, D = ofC ys := ⟨_, rfl⟩
        obtain ⟨okb, stb, izb, olb⟩ := low_codeZ HLO2.out hcb
        rw [← hDb] at okb stb izb hzb
        have lb : Db.length ≤ 30 := by rw [hDb]; have := ofC_len ys; have := HLX2.out; omega
        have HOKb := Lib.hid okb
        have HSTb := Lib.hid stb
        have HIZb := Lib.hid izb
        have HDb := Lib.hid hDb
        have HOLb := Lib.hid olb
        clear hDb okb stb izb olb hcb
        obtain ⟨Wt, hWt⟩ : ∃ W, W = ((wt.alloc (.cells #[.string Na, .slice Ba ma da, .string ta.s, .int .i64 ta.t, .int .i64 ta.c, .int .i64 ta.l, .string ta.d] zoT)).alloc (.cells #[.string Nb, .slice Bb mb db, .string tb.s, .int .i64 tb.t, .int .i64 tb.c, .int .i64 tb.l, .string tb.d] zoT)) := ⟨_, rfl⟩
        obtain ⟨ga, hga⟩ : ∃ g, g = wt.heap.size := ⟨_, rfl⟩
        obtain ⟨gb, hgb⟩ : ∃ g, g = wt.heap.size + 1 := ⟨_, rfl⟩
        have hb : Below wt.heap.size wt Wt := by rw [hWt]; exact ((Below.refl _ _).alloc (Nat.le_refl _) _).alloc (by simp) _
        replace HX1 := Lib.hid ((HX1.out.keep hb).more hb.size)
        replace HX2 := Lib.hid ((HX2.out.keep hb).more hb.size)
        replace HB := Lib.hid (HB.out.trans (hb.mono HB.out.size))
        have HVa := Lib.hid (show Whole Wt ga zoT #[.string Na, .slice Ba ma da, .string ta.s, .int .i64 ta.t, .int .i64 ta.c, .int .i64 ta.l, .string ta.d] from by rw [hWt, hga]; exact (Whole.new _ _ _).alloc _)
        have HZa := Lib.hid (hza.later hb)
        have HVb := Lib.hid (show Whole Wt gb zoT #[.string Nb, .slice Bb mb db, .string tb.s, .int .i64 tb.t, .int .i64 tb.c, .int .i64 tb.l, .string tb.d] from by
          rw [hWt, hgb]
          have := Whole.new (wt.alloc (.cells #[.string Na, .slice Ba ma da, .string ta.s, .int .i64 ta.t, .int .i64 ta.c, .int .i64 ta.l, .string ta.d] zoT)) zoT #[.string Nb, .slice Bb mb db, .string tb.s, .int .i64 tb.t, .int .i64 tb.c, .int .i64 tb.l, .string tb.d]
          rwa [World.size_alloc] at this)
        have HZb := Lib.hid (hzb.later hb)
        have HWWt := Lib.hid hWt
        have HGa := Lib.hid hga
        have HGb := Lib.hid hgb
        clear hb hWt hga hgb
        go_wp2_with fail
        rw [← HWWt.out, ← HGb.out, ← HGa.out]
        refine (RefNewOK_any A1 n1 c1 xs _ HX1.out (by omega) HLO1.out HCDa.out).mono ?_
        rintro e wg ⟨⟨Rf, xf, yf, rfl, ho⟩, hB⟩
        rw [← HDa.out] at ho
        replace HX1 := Lib.hid ((HX1.out.keep hB).more hB.size)
        replace HX2 := Lib.hid ((HX2.out.keep hB).more hB.size)
        replace HB := Lib.hid (HB.out.trans (hB.mono HB.out.size))
        replace HVa := Lib.hid (HVa.out.below hB HVa.out.lt)
        replace HZa := Lib.hid (HZa.out.later hB)
        replace HVb := Lib.hid (HVb.out.below hB HVb.out.lt)
        replace HZb := Lib.hid (HZb.out.later hB)
        have HLf := Lib.hid (ho)
        clear hB ho
        obtain ⟨Wg, hWg⟩ : ∃ W, W = (wg.alloc (.cells #[.string exN, .slice Rf xf yf] rzT)) := ⟨_, rfl⟩
        obtain ⟨gf, hgf⟩ : ∃ g, g = wg.heap.size := ⟨_, rfl⟩
        have hb : Below wg.heap.size wg Wg := by rw [hWg]; exact (Below.refl _ _).alloc (Nat.le_refl _) _
        replace HX1 := Lib.hid ((HX1.out.keep hb).more hb.size)
        replace HX2 := Lib.hid ((HX2.out.keep hb).more hb.size)
        replace HB := Lib.hid (HB.out.trans (hb.mono HB.out.size))
        replace HVa := Lib.hid (HVa.out.below hb HVa.out.lt)
        replace HZa := Lib.hid (HZa.out.later hb)
        replace HVb := Lib.hid (HVb.out.below hb HVb.out.lt)
        replace HZb := Lib.hid (HZb.out.later hb)
        replace HLf := Lib.hid (HLf.out.later hb)
        have HVf := Lib.hid (show Whole Wg gf rzT #[.string exN, .slice Rf xf yf] from by rw [hWg, hgf]; exact Whole.new _ _ _)
        have HWWg := Lib.hid hWg
        have HGf := Lib.hid hgf
        clear hb hWg hgf
        go_wp2_with fail
        rw [← HWWg.out, ← HGf.out]
        refine (RefNewOK_any A2 n2 c2 ys _ HX2.out (by omega) HLO2.out HCDb.out).mono ?_
        rintro e wi ⟨⟨Rh, xh, yh, rfl, ho⟩, hB⟩
        rw [← HDb.out] at ho
        replace HX1 := Lib.hid ((HX1.out.keep hB).more hB.size)
        replace HX2 := Lib.hid ((HX2.out.keep hB).more hB.size)
        replace HB := Lib.hid (HB.out.trans (hB.mono HB.out.size))
        replace HVa := Lib.hid (HVa.out.below hB HVa.out.lt)
        replace HZa := Lib.hid (HZa.out.later hB)
        replace HVb := Lib.hid (HVb.out.below hB HVb.out.lt)
        replace HZb := Lib.hid (HZb.out.later hB)
        replace HLf := Lib.hid (HLf.out.later hB)
        replace HVf := Lib.hid (HVf.out.below hB HVf.out.lt)
        have HLh := Lib.hid (ho)
        clear hB ho
        obtain ⟨Wi, hWi⟩ : ∃ W, W = (wi.alloc (.cells #[.string exN, .slice Rh xh yh] rzT)) := ⟨_, rfl⟩
        obtain ⟨gh, hgh⟩ : ∃ g, g = wi.heap.size := ⟨_, rfl⟩
        have ka0 := ((HVa.out.alloc (.cells #[.string exN, .slice Rh xh yh] rzT)).cell 0).trans (show _ = some (.string Na) from rfl)
        have ka1 := ((HVa.out.alloc (.cells #[.string exN, .slice Rh xh yh] rzT)).cell 1).trans (show _ = some (.slice Ba ma da) from rfl)
        have ka2 := ((HVa.out.alloc (.cells #[.string exN, .slice Rh xh yh] rzT)).cell 2).trans (show _ = some (.string ta.s) from rfl)
        have ka3 := ((HVa.out.alloc (.cells #[.string exN, .slice Rh xh yh] rzT)).cell 3).trans (show _ = some (.int .i64 ta.t) from rfl)
        have ka4 := ((HVa.out.alloc (.cells #[.string exN, .slice Rh xh yh] rzT)).cell 4).trans (show _ = some (.int .i64 ta.c) from rfl)
        have ka5 := ((HVa.out.alloc (.cells #[.string exN, .slice Rh xh yh] rzT)).cell 5).trans (show _ = some (.int .i64 ta.l) from rfl)
        have ka6 := ((HVa.out.alloc (.cells #[.string exN, .slice Rh xh yh] rzT)).cell 6).trans (show _ = some (.string ta.d) from rfl)
        have kb0 := ((HVb.out.alloc (.cells #[.string exN, .slice Rh xh yh] rzT)).cell 0).trans (show _ = some (.string Nb) from rfl)
        have kb1 := ((HVb.out.alloc (.cells #[.string exN, .slice Rh xh yh] rzT)).cell 1).trans (show _ = some (.slice Bb mb db) from rfl)
        have kb2 := ((HVb.out.alloc (.cells #[.string exN, .slice Rh xh yh] rzT)).cell 2).trans (show _ = some (.string tb.s) from rfl)
        have kb3 := ((HVb.out.alloc (.cells #[.string exN, .slice Rh xh yh] rzT)).cell 3).trans (show _ = some (.int .i64 tb.t) from rfl)
        have kb4 := ((HVb.out.alloc (.cells #[.string exN, .slice Rh xh yh] rzT)).cell 4).trans (show _ = some (.int .i64 tb.c) from rfl)
        have kb5 := ((HVb.out.alloc (.cells #[.string exN, .slice Rh xh yh] rzT)).cell 5).trans (show _ = some (.int .i64 tb.l) from rfl)
        have kb6 := ((HVb.out.alloc (.cells #[.string exN, .slice Rh xh yh] rzT)).cell 6).trans (show _ = some (.string tb.d) from rfl)
        have hb : Below wi.heap.size wi Wi := by rw [hWi]; exact (Below.refl _ _).alloc (Nat.le_refl _) _
        replace HX1 := Lib.hid ((HX1.out.keep hb).more hb.size)
        replace HX2 := Lib.hid ((HX2.out.keep hb).more hb.size)
        replace HB := Lib.hid (HB.out.trans (hb.mono HB.out.size))
        replace HVa := Lib.hid (HVa.out.below hb HVa.out.lt)
        replace HZa := Lib.hid (HZa.out.later hb)
        replace HVb := Lib.hid (HVb.out.below hb HVb.out.lt)
        replace HZb := Lib.hid (HZb.out.later hb)
        replace HLf := Lib.hid (HLf.out.later hb)
        replace HVf := Lib.hid (HVf.out.below hb HVf.out.lt)
        replace HLh := Lib.hid (HLh.out.later hb)
        have HVh := Lib.hid (show Whole Wi gh rzT #[.string exN, .slice Rh xh yh] from by rw [hWi, hgh]; exact Whole.new _ _ _)
        have HWWi := Lib.hid hWi
        have HGh := Lib.hid hgh
        clear hb hWi hgh
        go_wp2_with fail
        rw [← HWWi.out, ← HGh.out]
        clear ka0 ka1 ka2 ka3 ka4 ka5 ka6 kb0 kb1 kb2 kb3 kb4 kb5 kb6
        refine (DOf_any exN exN Da Db _ _ _ HZa.out HZb.out HOKa.out HOKb.out HSTa.out HSTb.out (by omega) (by omega)).mono ?_
        rintro e wo ⟨⟨Pu, pu, ru, Pv, pv, rv, rfl, ho1, ho2⟩, hB⟩
        replace HX1 := Lib.hid ((HX1.out.keep hB).more hB.size)
        replace HX2 := Lib.hid ((HX2.out.keep hB).more hB.size)
        replace HB := Lib.hid (HB.out.trans (hB.mono HB.out.size))
        replace HVa := Lib.hid (HVa.out.below hB HVa.out.lt)
        replace HZa := Lib.hid (HZa.out.later hB)
        replace HVb := Lib.hid (HVb.out.below hB HVb.out.lt)
        replace HZb := Lib.hid (HZb.out.later hB)
        replace HLf := Lib.hid (HLf.out.later hB)
        replace HVf := Lib.hid (HVf.out.below hB HVf.out.lt)
        replace HLh := Lib.hid (HLh.out.later hB)
        replace HVh := Lib.hid (HVh.out.below hB HVh.out.lt)
        clear hB
        have HOu := Lib.hid (ho1)
        have HOv := Lib.hid (ho2)
        clear ho1 ho2
        have zu : pu ≤ 30 := by have := HOu.out.1; have := lackX_len Da Db; omega
        have zv : pv ≤ 30 := by have := HOv.out.1; have := lackX_len Db Da; omega
        obtain ⟨sq, hsq⟩ : ∃ q, q = sameX Da Db := ⟨_, rfl⟩
        have HSQ := Lib.hid hsq
        clear hsq
        have gsq : (sq == sq) = true := by simp
        have b1 : (lackX Da Db).length ≤ 1000000 := by have := lackX_len Da Db; omega
        have b2 : (lackX Db Da).length ≤ 1000000 := by have := lackX_len Db Da; omega
        have ka0 := (HVa.out.cell 0).trans (show _ = some (.string Na) from rfl)
        have ka1 := (HVa.out.cell 1).trans (show _ = some (.slice Ba ma da) from rfl)
        have ka2 := (HVa.out.cell 2).trans (show _ = some (.string ta.s) from rfl)
        have ka3 := (HVa.out.cell 3).trans (show _ = some (.int .i64 ta.t) from rfl)
        have ka4 := (HVa.out.cell 4).trans (show _ = some (.int .i64 ta.c) from rfl)
        have ka5 := (HVa.out.cell 5).trans (show _ = some (.int .i64 ta.l) from rfl)
        have ka6 := (HVa.out.cell 6).trans (show _ = some (.string ta.d) from rfl)
        have kb0 := (HVb.out.cell 0).trans (show _ = some (.string Nb) from rfl)
        have kb1 := (HVb.out.cell 1).trans (show _ = some (.slice Bb mb db) from rfl)
        have kb2 := (HVb.out.cell 2).trans (show _ = some (.string tb.s) from rfl)
        have kb3 := (HVb.out.cell 3).trans (show _ = some (.int .i64 tb.t) from rfl)
        have kb4 := (HVb.out.cell 4).trans (show _ = some (.int .i64 tb.c) from rfl)
        have kb5 := (HVb.out.cell 5).trans (show _ = some (.int .i64 tb.l) from rfl)
        have kb6 := (HVb.out.cell 6).trans (show _ = some (.string tb.d) from rfl)
        have kf0 := (HVf.out.cell 0).trans (show _ = some (.string exN) from rfl)
        have kf1 := (HVf.out.cell 1).trans (show _ = some (.slice Rf xf yf) from rfl)
        have kh0 := (HVh.out.cell 0).trans (show _ = some (.string exN) from rfl)
        have kh1 := (HVh.out.cell 1).trans (show _ = some (.slice Rh xh yh) from rfl)
        go_wp2_with fail
        clear ka0 ka1 ka2 ka3 ka4 ka5 ka6 kb0 kb1 kb2 kb3 kb4 kb5 kb6 kf0 kf1 kh0 kh1
        have hb1 : Below wo.heap.size wo wo.drew := (Below.refl _ _).drew
        have ka0 : ∀ w' : World, Below wo.heap.size wo w' → w'.cell? ⟨ga, 0, none⟩ = some (.string Na) := fun w' h => (h.cell (HVa.out.lt)).trans ((HVa.out.cell 0).trans rfl)
        have ka1 : ∀ w' : World, Below wo.heap.size wo w' → w'.cell? ⟨ga, 1, none⟩ = some (.slice Ba ma da) := fun w' h => (h.cell (HVa.out.lt)).trans ((HVa.out.cell 1).trans rfl)
        have ka2 : ∀ w' : World, Below wo.heap.size wo w' → w'.cell? ⟨ga, 2, none⟩ = some (.string ta.s) := fun w' h => (h.cell (HVa.out.lt)).trans ((HVa.out.cell 2).trans rfl)
        have ka3 : ∀ w' : World, Below wo.heap.size wo w' → w'.cell? ⟨ga, 3, none⟩ = some (.int .i64 ta.t) := fun w' h => (h.cell (HVa.out.lt)).trans ((HVa.out.cell 3).trans rfl)
        have ka4 : ∀ w' : World, Below wo.heap.size wo w' → w'.cell? ⟨ga, 4, none⟩ = some (.int .i64 ta.c) := fun w' h => (h.cell (HVa.out.lt)).trans ((HVa.out.cell 4).trans rfl)
        have ka5 : ∀ w' : World, Below wo.heap.size wo w' → w'.cell? ⟨ga, 5, none⟩ = some (.int .i64 ta.l) := fun w' h => (h.cell (HVa.out.lt)).trans ((HVa.out.cell 5).trans rfl)
        have ka6 : ∀ w' : World, Below wo.heap.size wo w' → w'.cell? ⟨ga, 6, none⟩ = some (.string ta.d) := fun w' h => (h.cell (HVa.out.lt)).trans ((HVa.out.cell 6).trans rfl)
        have kb0 : ∀ w' : World, Below wo.heap.size wo w' → w'.cell? ⟨gb, 0, none⟩ = some (.string Nb) := fun w' h => (h.cell (HVb.out.lt)).trans ((HVb.out.cell 0).trans rfl)
        have kb1 : ∀ w' : World, Below wo.heap.size wo w' → w'.cell? ⟨gb, 1, none⟩ = some (.slice Bb mb db) := fun w' h => (h.cell (HVb.out.lt)).trans ((HVb.out.cell 1).trans rfl)
        have kb2 : ∀ w' : World, Below wo.heap.size wo w' → w'.cell? ⟨gb, 2, none⟩ = some (.string tb.s) := fun w' h => (h.cell (HVb.out.lt)).trans ((HVb.out.cell 2).trans rfl)
        have kb3 : ∀ w' : World, Below wo.heap.size wo w' → w'.cell? ⟨gb, 3, none⟩ = some (.int .i64 tb.t) := fun w' h => (h.cell (HVb.out.lt)).trans ((HVb.out.cell 3).trans rfl)
        have kb4 : ∀ w' : World, Below wo.heap.size wo w' → w'.cell? ⟨gb, 4, none⟩ = some (.int .i64 tb.c) := fun w' h => (h.cell (HVb.out.lt)).trans ((HVb.out.cell 4).trans rfl)
        have kb5 : ∀ w' : World, Below wo.heap.size wo w' → w'.cell? ⟨gb, 5, none⟩ = some (.int .i64 tb.l) := fun w' h => (h.cell (HVb.out.lt)).trans ((HVb.out.cell 5).trans rfl)
        have kb6 : ∀ w' : World, Below wo.heap.size wo w' → w'.cell? ⟨gb, 6, none⟩ = some (.string tb.d) := fun w' h => (h.cell (HVb.out.lt)).trans ((HVb.out.cell 6).trans rfl)
        have kf0 : ∀ w' : World, Below wo.heap.size wo w' → w'.cell? ⟨gf, 0, none⟩ = some (.string exN) := fun w' h => (h.cell (HVf.out.lt)).trans ((HVf.out.cell 0).trans rfl)
        have kf1 : ∀ w' : World, Below wo.heap.size wo w' → w'.cell? ⟨gf, 1, none⟩ = some (.slice Rf xf yf) := fun w' h => (h.cell (HVf.out.lt)).trans ((HVf.out.cell 1).trans rfl)
        have kh0 : ∀ w' : World, Below wo.heap.size wo w' → w'.cell? ⟨gh, 0, none⟩ = some (.string exN) := fun w' h => (h.cell (HVh.out.lt)).trans ((HVh.out.cell 0).trans rfl)
        have kh1 : ∀ w' : World, Below wo.heap.size wo w' → w'.cell? ⟨gh, 1, none⟩ = some (.slice Rh xh yh) := fun w' h => (h.cell (HVh.out.lt)).trans ((HVh.out.cell 1).trans rfl)
        go_region_held3 (fun w' => Below wo.heap.size wo w') (go_keep) (first
          | (go_at_call 13; (refine (Same_any Rf Rh xf yf xh yh Da Db _ (HLf.out.later hT5).2.1 (HLh.out.later hT5).2.1 (by have := HLf.out.1; omega)).mono ?_; rw [← HSQ.out]; rintro e w6 ⟨rfl, hB6⟩; have hT6 : Below wo.heap.size wo w6 := hT5.trans (hB6.mono hT5.size)))
          | (go_at_call 15; (refine (DSame_any exN Da Db _ _ _ (HZa.out.later hT4) (HZb.out.later hT4) HOKa.out HOKb.out HSTa.out HSTb.out (by omega) (by omega)).mono ?_; rw [← HSQ.out]; rintro e w5 ⟨rfl, hB5⟩; have hT5 : Below wo.heap.size wo w5 := hT4.trans (hB5.mono hT4.size)))
          | (go_at_call 13; (refine (Same_any Pv Q3 pv rv (lackX Db Da).length o3 (lackX Db Da) (lackX Db Da) _ (HOv.out.later hT3).2.1 hs3.2.1 (by omega)).mono ?_; rw [sameX_is.2 rfl]; rintro e w4 ⟨rfl, hB4⟩; have hT4 : Below wo.heap.size wo w4 := hT3.trans (hB4.mono hT3.size)))
          | (go_at_call 14; (refine (RefLacks_any Rh Rf xh yh xf yf Db Da _ (HLh.out.later hT2).2.1 (HLf.out.later hT2).2.1 (by have := HLh.out.1; omega) (by have := HLf.out.1; omega)).mono ?_; rintro e w3 ⟨u3, rfl, ho3, hB3⟩; obtain ⟨Q3, o3, rfl, hs3⟩ := own_L ho3; have hT3 : Below wo.heap.size wo w3 := hT2.trans (hB3.mono hT2.size)))
          | (go_at_call 13; (refine (Same_any Pu Q1 pu ru (lackX Da Db).length o1 (lackX Da Db) (lackX Da Db) _ (HOu.out.later hT1).2.1 hs1.2.1 (by omega)).mono ?_; rw [sameX_is.2 rfl]; rintro e w2 ⟨rfl, hB2⟩; have hT2 : Below wo.heap.size wo w2 := hT1.trans (hB2.mono hT1.size)))
          | (go_at_call 14; (refine (RefLacks_any Rf Rh xf yf xh yh Da Db _ (HLf.out.later hb1).2.1 (HLh.out.later hb1).2.1 (by have := HLf.out.1; omega) (by have := HLh.out.1; omega)).mono ?_; rintro e w1 ⟨u1, rfl, ho1, hB1⟩; obtain ⟨Q1, o1, rfl, hs1⟩ := own_L ho1; have hT1 : Below wo.heap.size wo w1 := hb1.trans (hB1.mono hb1.size))))
        all_goals (
          replace HB := Lib.hid (HB.out.trans (hT6.mono HB.out.size))
          clear ka0 ka1 ka2 ka3 ka4 ka5 ka6 kb0 kb1 kb2 kb3 kb4 kb5 kb6 kf0 kf1 kh0 kh1
          go_wp2_with fail
          go_ret
          exact ⟨by cases sq <;> rfl, HB.out⟩)
end Go.Proofs.YtaijcoiepfjecaaGreat
