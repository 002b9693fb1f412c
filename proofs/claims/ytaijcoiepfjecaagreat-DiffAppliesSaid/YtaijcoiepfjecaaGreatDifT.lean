/- DiffApplies. No statement of the seat is proved here. (written by gen_l.py) -/
import Derived.Test.YtaijcoiepfjecaaGreatDjJ
import Derived.Deep.RegionHeld3
namespace Go.Proofs.YtaijcoiepfjecaaGreat
open Go.RowKit Go.Op
set_option linter.unusedVariables false

set_option maxHeartbeats 64000000 in
set_option maxRecDepth 20000 in
theorem DiffApplies_walk (A1 : Option Addr) (n1 c1 : Nat) (xs : List Rrd) (A2 : Option Addr) (n2 c2 : Nat) (ys : List Rrd) (A3 : Option Addr) (n3 c3 : Nat) (zs : List Rrd) (w : World) (h1 : SeesR w w.heap.size A1 n1 xs) (q1 : InCap A1 n1 c1) (u1 : n1 ≤ 9223372036854775807) (h2 : SeesR w w.heap.size A2 n2 ys) (q2 : InCap A2 n2 c2) (u2 : n2 ≤ 9223372036854775807) (h3 : SeesR w w.heap.size A3 n3 zs) (q3 : InCap A3 n3 c3) (u3 : n3 ≤ 9223372036854775807) :
    Calls Tryz.prog 4 #[.slice A1 n1 c1, .slice A2 n2 c2, .slice A3 n3 c3] w fun e w' => e = .returned (.bool true) ∧ Below w.heap.size w w' := by
  have HX1 := Lib.hid (h1)
  have HLX1 := Lib.hid h1.1
  have HCX1 := Lib.hid q1
  have HX2 := Lib.hid (h2)
  have HLX2 := Lib.hid h2.1
  have HCX2 := Lib.hid q2
  have HX3 := Lib.hid (h3)
  have HLX3 := Lib.hid h3.1
  have HCX3 := Lib.hid q3
  have HB := Lib.hid (Below.refl w.heap.size w)
  clear h1 q1 h2 q2 h3 q3
  cases hf1 : fewL xs with
  | false =>
    have HF1 := Lib.hid hf1
    clear hf1
    go_enter Tryz.func4, Tryz.ntmps4
    go_wp2_with fail
    refine (dawake_any _).mono ?_
    rintro e wa ⟨rfl, hB⟩
    replace HX1 := Lib.hid ((HX1.out.keep hB).more hB.size)
    replace HX2 := Lib.hid ((HX2.out.keep hB).more hB.size)
    replace HX3 := Lib.hid ((HX3.out.keep hB).more hB.size)
    replace HB := Lib.hid (HB.out.trans (hB.mono HB.out.size))
    clear hB
    go_wp2_with fail
    refine (Few_any A1 n1 c1 xs _ HX1.out (by omega)).mono ?_
    rw [HF1.out]
    rintro e wf1 ⟨rfl, hB⟩
    replace HX1 := Lib.hid ((HX1.out.keep hB).more hB.size)
    replace HX2 := Lib.hid ((HX2.out.keep hB).more hB.size)
    replace HX3 := Lib.hid ((HX3.out.keep hB).more hB.size)
    replace HB := Lib.hid (HB.out.trans (hB.mono HB.out.size))
    clear hB
    go_wp2_with fail
    refine (dawake_any _).mono ?_
    rintro e wz ⟨rfl, hB⟩
    replace HX1 := Lib.hid ((HX1.out.keep hB).more hB.size)
    replace HX2 := Lib.hid ((HX2.out.keep hB).more hB.size)
    replace HX3 := Lib.hid ((HX3.out.keep hB).more hB.size)
    replace HB := Lib.hid (HB.out.trans (hB.mono HB.out.size))
    clear hB
    go_wp2_with fail
    go_ret
    exact ⟨rfl, HB.out⟩
  | true =>
    obtain ⟨s1, hl1⟩ := fewL_is hf1
    have HF1 := Lib.hid hf1
    have HLO1 := Lib.hid hl1
    have v1 : n1 ≤ 30 := by have := HLX1.out; omega
    clear hf1 hl1 s1
    cases hf2 : fewL ys with
    | false =>
      have HF2 := Lib.hid hf2
      clear hf2
      go_enter Tryz.func4, Tryz.ntmps4
      go_wp2_with fail
      refine (dawake_any _).mono ?_
      rintro e wa ⟨rfl, hB⟩
      replace HX1 := Lib.hid ((HX1.out.keep hB).more hB.size)
      replace HX2 := Lib.hid ((HX2.out.keep hB).more hB.size)
      replace HX3 := Lib.hid ((HX3.out.keep hB).more hB.size)
      replace HB := Lib.hid (HB.out.trans (hB.mono HB.out.size))
      clear hB
      go_wp2_with fail
      refine (Few_any A1 n1 c1 xs _ HX1.out (by omega)).mono ?_
      rw [HF1.out]
      rintro e wf1 ⟨rfl, hB⟩
      replace HX1 := Lib.hid ((HX1.out.keep hB).more hB.size)
      replace HX2 := Lib.hid ((HX2.out.keep hB).more hB.size)
      replace HX3 := Lib.hid ((HX3.out.keep hB).more hB.size)
      replace HB := Lib.hid (HB.out.trans (hB.mono HB.out.size))
      clear hB
      go_wp2_with fail
      refine (Few_any A2 n2 c2 ys _ HX2.out (by omega)).mono ?_
      rw [HF2.out]
      rintro e wf2 ⟨rfl, hB⟩
      replace HX1 := Lib.hid ((HX1.out.keep hB).more hB.size)
      replace HX2 := Lib.hid ((HX2.out.keep hB).more hB.size)
      replace HX3 := Lib.hid ((HX3.out.keep hB).more hB.size)
      replace HB := Lib.hid (HB.out.trans (hB.mono HB.out.size))
      clear hB
      go_wp2_with fail
      refine (dawake_any _).mono ?_
      rintro e wz ⟨rfl, hB⟩
      replace HX1 := Lib.hid ((HX1.out.keep hB).more hB.size)
      replace HX2 := Lib.hid ((HX2.out.keep hB).more hB.size)
      replace HX3 := Lib.hid ((HX3.out.keep hB).more hB.size)
      replace HB := Lib.hid (HB.out.trans (hB.mono HB.out.size))
      clear hB
      go_wp2_with fail
      go_ret
      exact ⟨rfl, HB.out⟩
    | true =>
      obtain ⟨s2, hl2⟩ := fewL_is hf2
      have HF2 := Lib.hid hf2
      have HLO2 := Lib.hid hl2
      have v2 : n2 ≤ 30 := by have := HLX2.out; omega
      clear hf2 hl2 s2
      cases hf3 : fewL zs with
      | false =>
        have HF3 := Lib.hid hf3
        clear hf3
        go_enter Tryz.func4, Tryz.ntmps4
        go_wp2_with fail
        refine (dawake_any _).mono ?_
        rintro e wa ⟨rfl, hB⟩
        replace HX1 := Lib.hid ((HX1.out.keep hB).more hB.size)
        replace HX2 := Lib.hid ((HX2.out.keep hB).more hB.size)
        replace HX3 := Lib.hid ((HX3.out.keep hB).more hB.size)
        replace HB := Lib.hid (HB.out.trans (hB.mono HB.out.size))
        clear hB
        go_wp2_with fail
        refine (Few_any A1 n1 c1 xs _ HX1.out (by omega)).mono ?_
        rw [HF1.out]
        rintro e wf1 ⟨rfl, hB⟩
        replace HX1 := Lib.hid ((HX1.out.keep hB).more hB.size)
        replace HX2 := Lib.hid ((HX2.out.keep hB).more hB.size)
        replace HX3 := Lib.hid ((HX3.out.keep hB).more hB.size)
        replace HB := Lib.hid (HB.out.trans (hB.mono HB.out.size))
        clear hB
        go_wp2_with fail
        refine (Few_any A2 n2 c2 ys _ HX2.out (by omega)).mono ?_
        rw [HF2.out]
        rintro e wf2 ⟨rfl, hB⟩
        replace HX1 := Lib.hid ((HX1.out.keep hB).more hB.size)
        replace HX2 := Lib.hid ((HX2.out.keep hB).more hB.size)
        replace HX3 := Lib.hid ((HX3.out.keep hB).more hB.size)
        replace HB := Lib.hid (HB.out.trans (hB.mono HB.out.size))
        clear hB
        go_wp2_with fail
        refine (Few_any A3 n3 c3 zs _ HX3.out (by omega)).mono ?_
        rw [HF3.out]
        rintro e wf3 ⟨rfl, hB⟩
        replace HX1 := Lib.hid ((HX1.out.keep hB).more hB.size)
        replace HX2 := Lib.hid ((HX2.out.keep hB).more hB.size)
        replace HX3 := Lib.hid ((HX3.out.keep hB).more hB.size)
        replace HB := Lib.hid (HB.out.trans (hB.mono HB.out.size))
        clear hB
        go_wp2_with fail
        refine (dawake_any _).mono ?_
        rintro e wz ⟨rfl, hB⟩
        replace HX1 := Lib.hid ((HX1.out.keep hB).more hB.size)
        replace HX2 := Lib.hid ((HX2.out.keep hB).more hB.size)
        replace HX3 := Lib.hid ((HX3.out.keep hB).more hB.size)
        replace HB := Lib.hid (HB.out.trans (hB.mono HB.out.size))
        clear hB
        go_wp2_with fail
        go_ret
        exact ⟨rfl, HB.out⟩
      | true =>
        obtain ⟨s3, hl3⟩ := fewL_is hf3
        have HF3 := Lib.hid hf3
        have HLO3 := Lib.hid hl3
        have v3 : n3 ≤ 30 := by have := HLX3.out; omega
        clear hf3 hl3 s3
        go_enter Tryz.func4, Tryz.ntmps4
        go_wp2_with fail
        refine (dawake_any _).mono ?_
        rintro e wa ⟨rfl, hB⟩
        replace HX1 := Lib.hid ((HX1.out.keep hB).more hB.size)
        replace HX2 := Lib.hid ((HX2.out.keep hB).more hB.size)
        replace HX3 := Lib.hid ((HX3.out.keep hB).more hB.size)
        replace HB := Lib.hid (HB.out.trans (hB.mono HB.out.size))
        clear hB
        go_wp2_with fail
        refine (Few_any A1 n1 c1 xs _ HX1.out (by omega)).mono ?_
        rw [HF1.out]
        rintro e wf1 ⟨rfl, hB⟩
        replace HX1 := Lib.hid ((HX1.out.keep hB).more hB.size)
        replace HX2 := Lib.hid ((HX2.out.keep hB).more hB.size)
        replace HX3 := Lib.hid ((HX3.out.keep hB).more hB.size)
        replace HB := Lib.hid (HB.out.trans (hB.mono HB.out.size))
        clear hB
        go_wp2_with fail
        refine (Few_any A2 n2 c2 ys _ HX2.out (by omega)).mono ?_
        rw [HF2.out]
        rintro e wf2 ⟨rfl, hB⟩
        replace HX1 := Lib.hid ((HX1.out.keep hB).more hB.size)
        replace HX2 := Lib.hid ((HX2.out.keep hB).more hB.size)
        replace HX3 := Lib.hid ((HX3.out.keep hB).more hB.size)
        replace HB := Lib.hid (HB.out.trans (hB.mono HB.out.size))
        clear hB
        go_wp2_with fail
        refine (Few_any A3 n3 c3 zs _ HX3.out (by omega)).mono ?_
        rw [HF3.out]
        rintro e wf3 ⟨rfl, hB⟩
        replace HX1 := Lib.hid ((HX1.out.keep hB).more hB.size)
        replace HX2 := Lib.hid ((HX2.out.keep hB).more hB.size)
        replace HX3 := Lib.hid ((HX3.out.keep hB).more hB.size)
        replace HB := Lib.hid (HB.out.trans (hB.mono HB.out.size))
        clear hB
        go_wp2_with fail
        by_cases hk1 : codeZ exL xs = 0
        rotate_left
        · obtain ⟨K, hK⟩ : ∃ K, K = codeZ exL xs := ⟨_, rfl⟩
          have HK := Lib.hid hK
          rw [← hK] at hk1
          clear hK
          refine (ZNewU_any A1 n1 c1 exN exL xs _ exN_is HX1.out (by omega) HLO1.out).mono ?_
          rw [← HK.out]
          rintro e wt ⟨⟨Na, Ba, ma, da, ta, rfl, _⟩, hB⟩
          replace HX1 := Lib.hid ((HX1.out.keep hB).more hB.size)
          replace HX2 := Lib.hid ((HX2.out.keep hB).more hB.size)
          replace HX3 := Lib.hid ((HX3.out.keep hB).more hB.size)
          replace HB := Lib.hid (HB.out.trans (hB.mono HB.out.size))
          clear hB
          obtain ⟨Wt, hWt⟩ : ∃ W, W = (wt.alloc (.cells #[.string Na, .slice Ba ma da, .string ta.s, .int .i64 ta.t, .int .i64 ta.c, .int .i64 ta.l, .string ta.d] zoT)) := ⟨_, rfl⟩
          obtain ⟨ga, hga⟩ : ∃ g, g = wt.heap.size := ⟨_, rfl⟩
          have hb : Below wt.heap.size wt Wt := by rw [hWt]; exact (Below.refl _ _).alloc (Nat.le_refl _) _
          replace HX1 := Lib.hid ((HX1.out.keep hb).more hb.size)
          replace HX2 := Lib.hid ((HX2.out.keep hb).more hb.size)
          replace HX3 := Lib.hid ((HX3.out.keep hb).more hb.size)
          replace HB := Lib.hid (HB.out.trans (hb.mono HB.out.size))
          have HVa := Lib.hid (show Whole Wt ga zoT #[.string Na, .slice Ba ma da, .string ta.s, .int .i64 ta.t, .int .i64 ta.c, .int .i64 ta.l, .string ta.d] from by rw [hWt, hga]; exact Whole.new _ _ _)
          have HWWt := Lib.hid hWt
          have HGa := Lib.hid hga
          clear hb hWt hga
          go_wp2_with fail
          rw [← HWWt.out, ← HGa.out]
          refine (RefNewU_any A1 n1 c1 exN exL xs _ exN_is HX1.out (by omega) HLO1.out).mono ?_
          rw [← HK.out]
          rintro e ws ⟨⟨M, R, x, y, rfl, _⟩, hB⟩
          replace HX1 := Lib.hid ((HX1.out.keep hB).more hB.size)
          replace HX2 := Lib.hid ((HX2.out.keep hB).more hB.size)
          replace HX3 := Lib.hid ((HX3.out.keep hB).more hB.size)
          replace HB := Lib.hid (HB.out.trans (hB.mono HB.out.size))
          replace HVa := Lib.hid (HVa.out.below hB HVa.out.lt)
          clear hB
          have gk : (K == 0) = false := by rw [beq_eq_false_iff_ne]; exact hk1
          have gk2 : decide (K = 0) = false := decide_eq_false hk1
          go_wp2_with fail
          go_ret
          refine ⟨?_, HB.out.alloc HB.out.size _⟩
          simp
        · have hca := hk1
          have HCD := Lib.hid hk1
          refine (ZNewU_any A1 n1 c1 exN exL xs _ exN_is HX1.out (by omega) HLO1.out).mono ?_
          rw [HCD.out]
          rintro e wt ⟨⟨Na, Ba, ma, da, ta, rfl, hza⟩, hB⟩
          replace hza := hza HCD.out
          replace HX1 := Lib.hid ((HX1.out.keep hB).more hB.size)
          replace HX2 := Lib.hid ((HX2.out.keep hB).more hB.size)
          replace HX3 := Lib.hid ((HX3.out.keep hB).more hB.size)
          replace HB := Lib.hid (HB.out.trans (hB.mono HB.out.size))
          clear hB hk1
          obtain ⟨Da, hDa⟩ : ∃ D, D = ofC xs := ⟨_, rfl⟩
          obtain ⟨oka, sta, iza, ola⟩ := low_codeZ HLO1.out hca
          rw [← hDa] at oka sta iza hza
          have la : Da.length ≤ 30 := by rw [hDa]; have := ofC_len xs; have := HLX1.out; omega
          have HOKa := Lib.hid oka
          have HSTa := Lib.hid sta
          have HIZa := Lib.hid iza
          have HDa := Lib.hid hDa
          have HOLa := Lib.hid ola
          clear hDa oka sta iza ola hca
          obtain ⟨Wt, hWt⟩ : ∃ W, W = (wt.alloc (.cells #[.string Na, .slice Ba ma da, .string ta.s, .int .i64 ta.t, .int .i64 ta.c, .int .i64 ta.l, .string ta.d] zoT)) := ⟨_, rfl⟩
          obtain ⟨ga, hga⟩ : ∃ g, g = wt.heap.size := ⟨_, rfl⟩
          have hb : Below wt.heap.size wt Wt := by rw [hWt]; exact (Below.refl _ _).alloc (Nat.le_refl _) _
          replace HX1 := Lib.hid ((HX1.out.keep hb).more hb.size)
          replace HX2 := Lib.hid ((HX2.out.keep hb).more hb.size)
          replace HX3 := Lib.hid ((HX3.out.keep hb).more hb.size)
          replace HB := Lib.hid (HB.out.trans (hb.mono HB.out.size))
          have HVa := Lib.hid (show Whole Wt ga zoT #[.string Na, .slice Ba ma da, .string ta.s, .int .i64 ta.t, .int .i64 ta.c, .int .i64 ta.l, .string ta.d] from by rw [hWt, hga]; exact Whole.new _ _ _)
          have HZa := Lib.hid (hza.later hb)
          have HWWt := Lib.hid hWt
          have HGa := Lib.hid hga
          clear hb hWt hga
          go_wp2_with fail
          rw [← HWWt.out, ← HGa.out]
          refine (RefNewOK_any A1 n1 c1 xs _ HX1.out (by omega) HLO1.out HCD.out).mono ?_
          rintro e wg ⟨⟨Rf, xf, yf, rfl, ho⟩, hB⟩
          rw [← HDa.out] at ho
          replace HX1 := Lib.hid ((HX1.out.keep hB).more hB.size)
          replace HX2 := Lib.hid ((HX2.out.keep hB).more hB.size)
          replace HX3 := Lib.hid ((HX3.out.keep hB).more hB.size)
          replace HB := Lib.hid (HB.out.trans (hB.mono HB.out.size))
          replace HVa := Lib.hid (HVa.out.below hB HVa.out.lt)
          replace HZa := Lib.hid (HZa.out.later hB)
          have HLf := Lib.hid (ho)
          clear hB ho
          obtain ⟨Wg, hWg⟩ : ∃ W, W = (wg.alloc (.cells #[.string exN, .slice Rf xf yf] rzT)) := ⟨_, rfl⟩
          obtain ⟨gf, hgf⟩ : ∃ g, g = wg.heap.size := ⟨_, rfl⟩
          have hb : Below wg.heap.size wg Wg := by rw [hWg]; exact (Below.refl _ _).alloc (Nat.le_refl _) _
          replace HX1 := Lib.hid ((HX1.out.keep hb).more hb.size)
          replace HX2 := Lib.hid ((HX2.out.keep hb).more hb.size)
          replace HX3 := Lib.hid ((HX3.out.keep hb).more hb.size)
          replace HB := Lib.hid (HB.out.trans (hb.mono HB.out.size))
          replace HVa := Lib.hid (HVa.out.below hb HVa.out.lt)
          replace HZa := Lib.hid (HZa.out.later hb)
          replace HLf := Lib.hid (HLf.out.later hb)
          have HVf := Lib.hid (show Whole Wg gf rzT #[.string exN, .slice Rf xf yf] from by rw [hWg, hgf]; exact Whole.new _ _ _)
          have HWWg := Lib.hid hWg
          have HGf := Lib.hid hgf
          clear hb hWg hgf
          go_wp2_with fail
          rw [← HWWg.out, ← HGf.out]
          refine (rights16_any A2 n2 c2 ys _ HX2.out HLO2.out (by omega)).mono ?_
          obtain ⟨z2, hz2⟩ : ∃ z, z = ys.all fun x => okR x.toRec := ⟨_, rfl⟩
          have HZ2 := Lib.hid hz2
          rw [← hz2]
          clear hz2
          rintro e wr2 ⟨rfl, hB⟩
          replace HX1 := Lib.hid ((HX1.out.keep hB).more hB.size)
          replace HX2 := Lib.hid ((HX2.out.keep hB).more hB.size)
          replace HX3 := Lib.hid ((HX3.out.keep hB).more hB.size)
          replace HB := Lib.hid (HB.out.trans (hB.mono HB.out.size))
          replace HVa := Lib.hid (HVa.out.below hB HVa.out.lt)
          replace HZa := Lib.hid (HZa.out.later hB)
          replace HLf := Lib.hid (HLf.out.later hB)
          replace HVf := Lib.hid (HVf.out.below hB HVf.out.lt)
          clear hB
          cases z2 with
          | false =>
            go_wp2_with fail
            go_ret
            exact ⟨rfl, HB.out⟩
          | true =>
            have HOL2 := Lib.hid (HLO2.out.ok HZ2.out.symm)
            go_wp2_with fail
            refine (rights16_any A3 n3 c3 zs _ HX3.out HLO3.out (by omega)).mono ?_
            obtain ⟨z3, hz3⟩ : ∃ z, z = zs.all fun x => okR x.toRec := ⟨_, rfl⟩
            have HZ3 := Lib.hid hz3
            rw [← hz3]
            clear hz3
            rintro e wr3 ⟨rfl, hB⟩
            replace HX1 := Lib.hid ((HX1.out.keep hB).more hB.size)
            replace HX2 := Lib.hid ((HX2.out.keep hB).more hB.size)
            replace HX3 := Lib.hid ((HX3.out.keep hB).more hB.size)
            replace HB := Lib.hid (HB.out.trans (hB.mono HB.out.size))
            replace HVa := Lib.hid (HVa.out.below hB HVa.out.lt)
            replace HZa := Lib.hid (HZa.out.later hB)
            replace HLf := Lib.hid (HLf.out.later hB)
            replace HVf := Lib.hid (HVf.out.below hB HVf.out.lt)
            clear hB
            cases z3 with
            | false =>
              go_wp2_with fail
              go_ret
              exact ⟨rfl, HB.out⟩
            | true =>
              have HOL3 := Lib.hid (HLO3.out.ok HZ3.out.symm)
              have ka0 := (HVa.out.cell 0).trans (show _ = some (.string Na) from rfl)
              have ka1 := (HVa.out.cell 1).trans (show _ = some (.slice Ba ma da) from rfl)
              have ka2 := (HVa.out.cell 2).trans (show _ = some (.string ta.s) from rfl)
              have ka3 := (HVa.out.cell 3).trans (show _ = some (.int .i64 ta.t) from rfl)
              have ka4 := (HVa.out.cell 4).trans (show _ = some (.int .i64 ta.c) from rfl)
              have ka5 := (HVa.out.cell 5).trans (show _ = some (.int .i64 ta.l) from rfl)
              have ka6 := (HVa.out.cell 6).trans (show _ = some (.string ta.d) from rfl)
              go_wp2_with fail
              clear ka0 ka1 ka2 ka3 ka4 ka5 ka6
              obtain rfl : xf = Da.length := HLf.out.1
              refine (Apply_any exN exL Da ys zs _ A2 A3 n2 c2 n3 c3 _ exN_is HZa.out HX2.out HX3.out HOKa.out HSTa.out HOL2.out HOL3.out (by omega) (by omega) (by omega)).mono ?_
              rintro e wx ⟨h, hB⟩
              replace HX1 := Lib.hid ((HX1.out.keep hB).more hB.size)
              replace HX2 := Lib.hid ((HX2.out.keep hB).more hB.size)
              replace HX3 := Lib.hid ((HX3.out.keep hB).more hB.size)
              replace HB := Lib.hid (HB.out.trans (hB.mono HB.out.size))
              replace HVa := Lib.hid (HVa.out.below hB HVa.out.lt)
              replace HZa := Lib.hid (HZa.out.later hB)
              replace HLf := Lib.hid (HLf.out.later hB)
              replace HVf := Lib.hid (HVf.out.below hB HVf.out.lt)
              clear hB
              rcases h with ⟨hno, rfl⟩ | ⟨hdo, ⟨hc, rfl⟩ | ⟨hc, rfl⟩ | ⟨hc, v, rfl, hz⟩⟩
              · have HC := Lib.hid hno
                clear hno
                unfold zeroZ
                obtain ⟨Wx, hWx⟩ : ∃ W, W = (wx.alloc (.cells #[.string ⟨#[]⟩, .slice none 0 0, .string ⟨#[]⟩, .int .i64 0, .int .i64 0, .int .i64 0, .string ⟨#[]⟩] zoT)) := ⟨_, rfl⟩
                obtain ⟨gx, hgx⟩ : ∃ g, g = wx.heap.size := ⟨_, rfl⟩
                have kf0 := ((HVf.out.alloc (.cells #[.string ⟨#[]⟩, .slice none 0 0, .string ⟨#[]⟩, .int .i64 0, .int .i64 0, .int .i64 0, .string ⟨#[]⟩] zoT)).cell 0).trans (show _ = some (.string exN) from rfl)
                have kf1 := ((HVf.out.alloc (.cells #[.string ⟨#[]⟩, .slice none 0 0, .string ⟨#[]⟩, .int .i64 0, .int .i64 0, .int .i64 0, .string ⟨#[]⟩] zoT)).cell 1).trans (show _ = some (.slice Rf Da.length yf) from rfl)
                have hb : Below wx.heap.size wx Wx := by rw [hWx]; exact (Below.refl _ _).alloc (Nat.le_refl _) _
                replace HX1 := Lib.hid ((HX1.out.keep hb).more hb.size)
                replace HX2 := Lib.hid ((HX2.out.keep hb).more hb.size)
                replace HX3 := Lib.hid ((HX3.out.keep hb).more hb.size)
                replace HB := Lib.hid (HB.out.trans (hb.mono HB.out.size))
                replace HVa := Lib.hid (HVa.out.below hb HVa.out.lt)
                replace HZa := Lib.hid (HZa.out.later hb)
                replace HLf := Lib.hid (HLf.out.later hb)
                replace HVf := Lib.hid (HVf.out.below hb HVf.out.lt)
                have HVx := Lib.hid (show Whole Wx gx zoT #[.string ⟨#[]⟩, .slice none 0 0, .string ⟨#[]⟩, .int .i64 0, .int .i64 0, .int .i64 0, .string ⟨#[]⟩] from by rw [hWx, hgx]; exact Whole.new _ _ _)
                have HWWx := Lib.hid hWx
                have HGx := Lib.hid hgx
                clear hb hWx hgx
                go_wp2_with fail
                rw [← HWWx.out, ← HGx.out]
                clear kf0 kf1
                refine (RefApply_any exN exL Da ys zs Rf A2 A3 yf n2 c2 n3 c3 _ exN_is HLf.out.2.1 HX2.out HX3.out HCX2.out HCX3.out HOKa.out HOL2.out HOL3.out (by omega) (by omega) (by omega)).mono ?_
                rintro e wy ⟨h, hB⟩
                replace HX1 := Lib.hid ((HX1.out.keep hB).more hB.size)
                replace HX2 := Lib.hid ((HX2.out.keep hB).more hB.size)
                replace HX3 := Lib.hid ((HX3.out.keep hB).more hB.size)
                replace HB := Lib.hid (HB.out.trans (hB.mono HB.out.size))
                replace HVa := Lib.hid (HVa.out.below hB HVa.out.lt)
                replace HZa := Lib.hid (HZa.out.later hB)
                replace HLf := Lib.hid (HLf.out.later hB)
                replace HVf := Lib.hid (HVf.out.below hB HVf.out.lt)
                replace HVx := Lib.hid (HVx.out.below hB HVx.out.lt)
                clear hB
                obtain rfl : e = .returned (.tuple #[.agg #[.string ⟨#[]⟩, .slice none 0 0], .int .i64 8]) := by
                  rcases h with ⟨_, h⟩ | ⟨h, _⟩
                  · exact h
                  · exact absurd h HC.out
                clear h
                obtain ⟨Wy, hWy⟩ : ∃ W, W = (wy.alloc (.cells #[.string ⟨#[]⟩, .slice none 0 0] rzT)) := ⟨_, rfl⟩
                obtain ⟨gy, hgy⟩ : ∃ g, g = wy.heap.size := ⟨_, rfl⟩
                have hb : Below wy.heap.size wy Wy := by rw [hWy]; exact (Below.refl _ _).alloc (Nat.le_refl _) _
                replace HX1 := Lib.hid ((HX1.out.keep hb).more hb.size)
                replace HX2 := Lib.hid ((HX2.out.keep hb).more hb.size)
                replace HX3 := Lib.hid ((HX3.out.keep hb).more hb.size)
                replace HB := Lib.hid (HB.out.trans (hb.mono HB.out.size))
                replace HVa := Lib.hid (HVa.out.below hb HVa.out.lt)
                replace HZa := Lib.hid (HZa.out.later hb)
                replace HLf := Lib.hid (HLf.out.later hb)
                replace HVf := Lib.hid (HVf.out.below hb HVf.out.lt)
                replace HVx := Lib.hid (HVx.out.below hb HVx.out.lt)
                have HVy := Lib.hid (show Whole Wy gy rzT #[.string ⟨#[]⟩, .slice none 0 0] from by rw [hWy, hgy]; exact Whole.new _ _ _)
                have HWWy := Lib.hid hWy
                have HGy := Lib.hid hgy
                clear hb hWy hgy
                go_wp2_with fail
                rw [← HWWy.out, ← HGy.out]
                refine region_later (by kernel_rfl) ?_
                repeat (go_big_quiet_step (fail))
                refine wpQuiet_nil ?_
                rintro _ ⟨q2, rfl⟩
                replace HB := Lib.hid (HB.out.trans (q2.below.mono HB.out.size))
                go_wp2_with fail
                go_ret
                exact ⟨rfl, HB.out⟩
              · have HC := Lib.hid hc
                have HDO := Lib.hid hdo
                clear hdo
                clear hc
                unfold zeroZ
                obtain ⟨Wx, hWx⟩ : ∃ W, W = (wx.alloc (.cells #[.string ⟨#[]⟩, .slice none 0 0, .string ⟨#[]⟩, .int .i64 0, .int .i64 0, .int .i64 0, .string ⟨#[]⟩] zoT)) := ⟨_, rfl⟩
                obtain ⟨gx, hgx⟩ : ∃ g, g = wx.heap.size := ⟨_, rfl⟩
                have kf0 := ((HVf.out.alloc (.cells #[.string ⟨#[]⟩, .slice none 0 0, .string ⟨#[]⟩, .int .i64 0, .int .i64 0, .int .i64 0, .string ⟨#[]⟩] zoT)).cell 0).trans (show _ = some (.string exN) from rfl)
                have kf1 := ((HVf.out.alloc (.cells #[.string ⟨#[]⟩, .slice none 0 0, .string ⟨#[]⟩, .int .i64 0, .int .i64 0, .int .i64 0, .string ⟨#[]⟩] zoT)).cell 1).trans (show _ = some (.slice Rf Da.length yf) from rfl)
                have hb : Below wx.heap.size wx Wx := by rw [hWx]; exact (Below.refl _ _).alloc (Nat.le_refl _) _
                replace HX1 := Lib.hid ((HX1.out.keep hb).more hb.size)
                replace HX2 := Lib.hid ((HX2.out.keep hb).more hb.size)
                replace HX3 := Lib.hid ((HX3.out.keep hb).more hb.size)
                replace HB := Lib.hid (HB.out.trans (hb.mono HB.out.size))
                replace HVa := Lib.hid (HVa.out.below hb HVa.out.lt)
                replace HZa := Lib.hid (HZa.out.later hb)
                replace HLf := Lib.hid (HLf.out.later hb)
                replace HVf := Lib.hid (HVf.out.below hb HVf.out.lt)
                have HVx := Lib.hid (show Whole Wx gx zoT #[.string ⟨#[]⟩, .slice none 0 0, .string ⟨#[]⟩, .int .i64 0, .int .i64 0, .int .i64 0, .string ⟨#[]⟩] from by rw [hWx, hgx]; exact Whole.new _ _ _)
                have HWWx := Lib.hid hWx
                have HGx := Lib.hid hgx
                clear hb hWx hgx
                go_wp2_with fail
                rw [← HWWx.out, ← HGx.out]
                clear kf0 kf1
                refine (RefApply_any exN exL Da ys zs Rf A2 A3 yf n2 c2 n3 c3 _ exN_is HLf.out.2.1 HX2.out HX3.out HCX2.out HCX3.out HOKa.out HOL2.out HOL3.out (by omega) (by omega) (by omega)).mono ?_
                rintro e wy ⟨h, hB⟩
                replace HX1 := Lib.hid ((HX1.out.keep hB).more hB.size)
                replace HX2 := Lib.hid ((HX2.out.keep hB).more hB.size)
                replace HX3 := Lib.hid ((HX3.out.keep hB).more hB.size)
                replace HB := Lib.hid (HB.out.trans (hB.mono HB.out.size))
                replace HVa := Lib.hid (HVa.out.below hB HVa.out.lt)
                replace HZa := Lib.hid (HZa.out.later hB)
                replace HLf := Lib.hid (HLf.out.later hB)
                replace HVf := Lib.hid (HVf.out.below hB HVf.out.lt)
                replace HVx := Lib.hid (HVx.out.below hB HVx.out.lt)
                clear hB
                obtain rfl : e = .returned (.tuple #[.agg #[.string ⟨#[]⟩, .slice none 0 0], .int .i64 2]) := by
                  rcases h with ⟨h, _⟩ | ⟨_, ⟨h, e1⟩ | ⟨h, e1⟩ | ⟨h, _⟩⟩
                  · exact absurd HDO.out h
                  · exact e1
                  · rw [HC.out] at h; cases h
                  · rw [HC.out] at h; cases h
                clear h
                obtain ⟨Wy, hWy⟩ : ∃ W, W = (wy.alloc (.cells #[.string ⟨#[]⟩, .slice none 0 0] rzT)) := ⟨_, rfl⟩
                obtain ⟨gy, hgy⟩ : ∃ g, g = wy.heap.size := ⟨_, rfl⟩
                have hb : Below wy.heap.size wy Wy := by rw [hWy]; exact (Below.refl _ _).alloc (Nat.le_refl _) _
                replace HX1 := Lib.hid ((HX1.out.keep hb).more hb.size)
                replace HX2 := Lib.hid ((HX2.out.keep hb).more hb.size)
                replace HX3 := Lib.hid ((HX3.out.keep hb).more hb.size)
                replace HB := Lib.hid (HB.out.trans (hb.mono HB.out.size))
                replace HVa := Lib.hid (HVa.out.below hb HVa.out.lt)
                replace HZa := Lib.hid (HZa.out.later hb)
                replace HLf := Lib.hid (HLf.out.later hb)
                replace HVf := Lib.hid (HVf.out.below hb HVf.out.lt)
                replace HVx := Lib.hid (HVx.out.below hb HVx.out.lt)
                have HVy := Lib.hid (show Whole Wy gy rzT #[.string ⟨#[]⟩, .slice none 0 0] from by rw [hWy, hgy]; exact Whole.new _ _ _)
                have HWWy := Lib.hid hWy
                have HGy := Lib.hid hgy
                clear hb hWy hgy
                go_wp2_with fail
                rw [← HWWy.out, ← HGy.out]
                refine region_later (by kernel_rfl) ?_
                repeat (go_big_quiet_step (fail))
                refine wpQuiet_nil ?_
                rintro _ ⟨q2, rfl⟩
                replace HB := Lib.hid (HB.out.trans (q2.below.mono HB.out.size))
                go_wp2_with fail
                go_ret
                exact ⟨rfl, HB.out⟩
              · have HC := Lib.hid hc
                have HDO := Lib.hid hdo
                clear hdo
                clear hc
                unfold zeroZ
                obtain ⟨Wx, hWx⟩ : ∃ W, W = (wx.alloc (.cells #[.string ⟨#[]⟩, .slice none 0 0, .string ⟨#[]⟩, .int .i64 0, .int .i64 0, .int .i64 0, .string ⟨#[]⟩] zoT)) := ⟨_, rfl⟩
                obtain ⟨gx, hgx⟩ : ∃ g, g = wx.heap.size := ⟨_, rfl⟩
                have kf0 := ((HVf.out.alloc (.cells #[.string ⟨#[]⟩, .slice none 0 0, .string ⟨#[]⟩, .int .i64 0, .int .i64 0, .int .i64 0, .string ⟨#[]⟩] zoT)).cell 0).trans (show _ = some (.string exN) from rfl)
                have kf1 := ((HVf.out.alloc (.cells #[.string ⟨#[]⟩, .slice none 0 0, .string ⟨#[]⟩, .int .i64 0, .int .i64 0, .int .i64 0, .string ⟨#[]⟩] zoT)).cell 1).trans (show _ = some (.slice Rf Da.length yf) from rfl)
                have hb : Below wx.heap.size wx Wx := by rw [hWx]; exact (Below.refl _ _).alloc (Nat.le_refl _) _
                replace HX1 := Lib.hid ((HX1.out.keep hb).more hb.size)
                replace HX2 := Lib.hid ((HX2.out.keep hb).more hb.size)
                replace HX3 := Lib.hid ((HX3.out.keep hb).more hb.size)
                replace HB := Lib.hid (HB.out.trans (hb.mono HB.out.size))
                replace HVa := Lib.hid (HVa.out.below hb HVa.out.lt)
                replace HZa := Lib.hid (HZa.out.later hb)
                replace HLf := Lib.hid (HLf.out.later hb)
                replace HVf := Lib.hid (HVf.out.below hb HVf.out.lt)
                have HVx := Lib.hid (show Whole Wx gx zoT #[.string ⟨#[]⟩, .slice none 0 0, .string ⟨#[]⟩, .int .i64 0, .int .i64 0, .int .i64 0, .string ⟨#[]⟩] from by rw [hWx, hgx]; exact Whole.new _ _ _)
                have HWWx := Lib.hid hWx
                have HGx := Lib.hid hgx
                clear hb hWx hgx
                go_wp2_with fail
                rw [← HWWx.out, ← HGx.out]
                clear kf0 kf1
                refine (RefApply_any exN exL Da ys zs Rf A2 A3 yf n2 c2 n3 c3 _ exN_is HLf.out.2.1 HX2.out HX3.out HCX2.out HCX3.out HOKa.out HOL2.out HOL3.out (by omega) (by omega) (by omega)).mono ?_
                rintro e wy ⟨h, hB⟩
                replace HX1 := Lib.hid ((HX1.out.keep hB).more hB.size)
                replace HX2 := Lib.hid ((HX2.out.keep hB).more hB.size)
                replace HX3 := Lib.hid ((HX3.out.keep hB).more hB.size)
                replace HB := Lib.hid (HB.out.trans (hB.mono HB.out.size))
                replace HVa := Lib.hid (HVa.out.below hB HVa.out.lt)
                replace HZa := Lib.hid (HZa.out.later hB)
                replace HLf := Lib.hid (HLf.out.later hB)
                replace HVf := Lib.hid (HVf.out.below hB HVf.out.lt)
                replace HVx := Lib.hid (HVx.out.below hB HVx.out.lt)
                clear hB
                obtain rfl : e = .returned (.tuple #[.agg #[.string ⟨#[]⟩, .slice none 0 0], .int .i64 9]) := by
                  rcases h with ⟨h, _⟩ | ⟨_, ⟨h, e1⟩ | ⟨h, e1⟩ | ⟨h, _⟩⟩
                  · exact absurd HDO.out h
                  · rw [HC.out] at h; cases h
                  · exact e1
                  · rw [HC.out] at h; cases h
                clear h
                obtain ⟨Wy, hWy⟩ : ∃ W, W = (wy.alloc (.cells #[.string ⟨#[]⟩, .slice none 0 0] rzT)) := ⟨_, rfl⟩
                obtain ⟨gy, hgy⟩ : ∃ g, g = wy.heap.size := ⟨_, rfl⟩
                have hb : Below wy.heap.size wy Wy := by rw [hWy]; exact (Below.refl _ _).alloc (Nat.le_refl _) _
                replace HX1 := Lib.hid ((HX1.out.keep hb).more hb.size)
                replace HX2 := Lib.hid ((HX2.out.keep hb).more hb.size)
                replace HX3 := Lib.hid ((HX3.out.keep hb).more hb.size)
                replace HB := Lib.hid (HB.out.trans (hb.mono HB.out.size))
                replace HVa := Lib.hid (HVa.out.below hb HVa.out.lt)
                replace HZa := Lib.hid (HZa.out.later hb)
                replace HLf := Lib.hid (HLf.out.later hb)
                replace HVf := Lib.hid (HVf.out.below hb HVf.out.lt)
                replace HVx := Lib.hid (HVx.out.below hb HVx.out.lt)
                have HVy := Lib.hid (show Whole Wy gy rzT #[.string ⟨#[]⟩, .slice none 0 0] from by rw [hWy, hgy]; exact Whole.new _ _ _)
                have HWWy := Lib.hid hWy
                have HGy := Lib.hid hgy
                clear hb hWy hgy
                go_wp2_with fail
                rw [← HWWy.out, ← HGy.out]
                refine region_later (by kernel_rfl) ?_
                repeat (go_big_quiet_step (fail))
                refine wpQuiet_nil ?_
                rintro _ ⟨q2, rfl⟩
                replace HB := Lib.hid (HB.out.trans (q2.below.mono HB.out.size))
                go_wp2_with fail
                go_ret
                exact ⟨rfl, HB.out⟩
              · have HC := Lib.hid hc
                have HDO := Lib.hid hdo
                obtain ⟨De, hDe⟩ : ∃ D, D = ofC (lackX Da ys ++ zs) := ⟨_, rfl⟩
                rw [← hDe] at hz
                have HDe := Lib.hid hDe
                have le : De.length ≤ 60 := by rw [hDe]; have h1 := ofC_len (lackX Da ys ++ zs); rw [List.length_append] at h1; have h2 := lackX_len Da ys; have := HLX3.out; omega
                have hzx := hz
                obtain ⟨Bx, dx, tx, rfl, _, _, _⟩ := hz
                clear hc hdo hDe
                obtain ⟨Wx, hWx⟩ : ∃ W, W = (wx.alloc (.cells #[.string exN, .slice Bx De.length dx, .string tx.s, .int .i64 tx.t, .int .i64 tx.c, .int .i64 tx.l, .string tx.d] zoT)) := ⟨_, rfl⟩
                obtain ⟨gx, hgx⟩ : ∃ g, g = wx.heap.size := ⟨_, rfl⟩
                have kf0 := ((HVf.out.alloc (.cells #[.string exN, .slice Bx De.length dx, .string tx.s, .int .i64 tx.t, .int .i64 tx.c, .int .i64 tx.l, .string tx.d] zoT)).cell 0).trans (show _ = some (.string exN) from rfl)
                have kf1 := ((HVf.out.alloc (.cells #[.string exN, .slice Bx De.length dx, .string tx.s, .int .i64 tx.t, .int .i64 tx.c, .int .i64 tx.l, .string tx.d] zoT)).cell 1).trans (show _ = some (.slice Rf Da.length yf) from rfl)
                have hb : Below wx.heap.size wx Wx := by rw [hWx]; exact (Below.refl _ _).alloc (Nat.le_refl _) _
                replace HX1 := Lib.hid ((HX1.out.keep hb).more hb.size)
                replace HX2 := Lib.hid ((HX2.out.keep hb).more hb.size)
                replace HX3 := Lib.hid ((HX3.out.keep hb).more hb.size)
                replace HB := Lib.hid (HB.out.trans (hb.mono HB.out.size))
                replace HVa := Lib.hid (HVa.out.below hb HVa.out.lt)
                replace HZa := Lib.hid (HZa.out.later hb)
                replace HLf := Lib.hid (HLf.out.later hb)
                replace HVf := Lib.hid (HVf.out.below hb HVf.out.lt)
                have HVx := Lib.hid (show Whole Wx gx zoT #[.string exN, .slice Bx De.length dx, .string tx.s, .int .i64 tx.t, .int .i64 tx.c, .int .i64 tx.l, .string tx.d] from by rw [hWx, hgx]; exact Whole.new _ _ _)
                have HZx := Lib.hid (hzx.later hb)
                have HWWx := Lib.hid hWx
                have HGx := Lib.hid hgx
                clear hb hWx hgx
                go_wp2_with fail
                rw [← HWWx.out, ← HGx.out]
                clear kf0 kf1
                refine (RefApply_any exN exL Da ys zs Rf A2 A3 yf n2 c2 n3 c3 _ exN_is HLf.out.2.1 HX2.out HX3.out HCX2.out HCX3.out HOKa.out HOL2.out HOL3.out (by omega) (by omega) (by omega)).mono ?_
                rintro e wy ⟨h, hB⟩
                replace HX1 := Lib.hid ((HX1.out.keep hB).more hB.size)
                replace HX2 := Lib.hid ((HX2.out.keep hB).more hB.size)
                replace HX3 := Lib.hid ((HX3.out.keep hB).more hB.size)
                replace HB := Lib.hid (HB.out.trans (hB.mono HB.out.size))
                replace HVa := Lib.hid (HVa.out.below hB HVa.out.lt)
                replace HZa := Lib.hid (HZa.out.later hB)
                replace HLf := Lib.hid (HLf.out.later hB)
                replace HVf := Lib.hid (HVf.out.below hB HVf.out.lt)
                replace HVx := Lib.hid (HVx.out.below hB HVx.out.lt)
                replace HZx := Lib.hid (HZx.out.later hB)
                clear hB
                obtain ⟨Ry, yy, rfl, hoy⟩ : ∃ A c, e = .returned (.tuple #[.agg #[.string exN, .slice A De.length c], .int .i64 0]) ∧ OwnL wy A De.length c De := by
                  rcases h with ⟨h, _⟩ | ⟨_, ⟨h, e1⟩ | ⟨h, e1⟩ | ⟨h, v, rfl, A, c, rfl, hs, hcap⟩⟩
                  · exact absurd HDO.out h
                  · rw [HC.out] at h; cases h
                  · rw [HC.out] at h; cases h
                  · rw [← HDe.out] at hs hcap ⊢
                    exact ⟨A, c, rfl, rfl, hs, hcap⟩
                have HLy := Lib.hid (hoy)
                clear h hoy
                obtain ⟨Wy, hWy⟩ : ∃ W, W = (wy.alloc (.cells #[.string exN, .slice Ry De.length yy] rzT)) := ⟨_, rfl⟩
                obtain ⟨gy, hgy⟩ : ∃ g, g = wy.heap.size := ⟨_, rfl⟩
                have hb : Below wy.heap.size wy Wy := by rw [hWy]; exact (Below.refl _ _).alloc (Nat.le_refl _) _
                replace HX1 := Lib.hid ((HX1.out.keep hb).more hb.size)
                replace HX2 := Lib.hid ((HX2.out.keep hb).more hb.size)
                replace HX3 := Lib.hid ((HX3.out.keep hb).more hb.size)
                replace HB := Lib.hid (HB.out.trans (hb.mono HB.out.size))
                replace HVa := Lib.hid (HVa.out.below hb HVa.out.lt)
                replace HZa := Lib.hid (HZa.out.later hb)
                replace HLf := Lib.hid (HLf.out.later hb)
                replace HVf := Lib.hid (HVf.out.below hb HVf.out.lt)
                replace HVx := Lib.hid (HVx.out.below hb HVx.out.lt)
                replace HZx := Lib.hid (HZx.out.later hb)
                replace HLy := Lib.hid (HLy.out.later hb)
                have HVy := Lib.hid (show Whole Wy gy rzT #[.string exN, .slice Ry De.length yy] from by rw [hWy, hgy]; exact Whole.new _ _ _)
                have HWWy := Lib.hid hWy
                have HGy := Lib.hid hgy
                clear hb hWy hgy
                go_wp2_with fail
                rw [← HWWy.out, ← HGy.out]
                have HSMe := Lib.hid (show sameX De De = true from sameX_is.2 rfl)
                have hb1 : Below Wy.heap.size Wy Wy.drew := (Below.refl _ _).drew
                have kx0 : ∀ w' : World, Below Wy.heap.size Wy w' → w'.cell? ⟨gx, 0, none⟩ = some (.string exN) := fun w' h => (h.cell (HVx.out.lt)).trans ((HVx.out.cell 0).trans rfl)
                have kx1 : ∀ w' : World, Below Wy.heap.size Wy w' → w'.cell? ⟨gx, 1, none⟩ = some (.slice Bx De.length dx) := fun w' h => (h.cell (HVx.out.lt)).trans ((HVx.out.cell 1).trans rfl)
                have kx2 : ∀ w' : World, Below Wy.heap.size Wy w' → w'.cell? ⟨gx, 2, none⟩ = some (.string tx.s) := fun w' h => (h.cell (HVx.out.lt)).trans ((HVx.out.cell 2).trans rfl)
                have kx3 : ∀ w' : World, Below Wy.heap.size Wy w' → w'.cell? ⟨gx, 3, none⟩ = some (.int .i64 tx.t) := fun w' h => (h.cell (HVx.out.lt)).trans ((HVx.out.cell 3).trans rfl)
                have kx4 : ∀ w' : World, Below Wy.heap.size Wy w' → w'.cell? ⟨gx, 4, none⟩ = some (.int .i64 tx.c) := fun w' h => (h.cell (HVx.out.lt)).trans ((HVx.out.cell 4).trans rfl)
                have kx5 : ∀ w' : World, Below Wy.heap.size Wy w' → w'.cell? ⟨gx, 5, none⟩ = some (.int .i64 tx.l) := fun w' h => (h.cell (HVx.out.lt)).trans ((HVx.out.cell 5).trans rfl)
                have kx6 : ∀ w' : World, Below Wy.heap.size Wy w' → w'.cell? ⟨gx, 6, none⟩ = some (.string tx.d) := fun w' h => (h.cell (HVx.out.lt)).trans ((HVx.out.cell 6).trans rfl)
                have ky0 : ∀ w' : World, Below Wy.heap.size Wy w' → w'.cell? ⟨gy, 0, none⟩ = some (.string exN) := fun w' h => (h.cell (HVy.out.lt)).trans ((HVy.out.cell 0).trans rfl)
                have ky1 : ∀ w' : World, Below Wy.heap.size Wy w' → w'.cell? ⟨gy, 1, none⟩ = some (.slice Ry De.length yy) := fun w' h => (h.cell (HVy.out.lt)).trans ((HVy.out.cell 1).trans rfl)
                go_region_held3 (fun w' => Below Wy.heap.size Wy w') (go_keep) (first
                  | (go_at_call 21; (refine (Apex_any exN De _ _ (HZx.out.later hT2)).mono ?_; rintro e w3 ⟨rfl, hB3⟩; have hT3 : Below Wy.heap.size Wy w3 := hT2.trans (hB3.mono hT2.size)))
                  | (go_at_call 13; (refine (Same_any Q1 Ry De.length o1 De.length yy De De _ hs1.2.1 (HLy.out.later hT1).2.1 (by omega)).mono ?_; rw [HSMe.out]; rintro e w2 ⟨rfl, hB2⟩; have hT2 : Below Wy.heap.size Wy w2 := hT1.trans (hB2.mono hT1.size)))
                  | (go_at_call 20; (refine (All_any exN De _ _ (HZx.out.later hb1) (by omega)).mono ?_; rintro e w1 ⟨u1, rfl, ho1, hB1⟩; obtain ⟨Q1, o1, rfl, hs1⟩ := own_L ho1; have hT1 : Below Wy.heap.size Wy w1 := hb1.trans (hB1.mono hb1.size))))
                all_goals (
                  replace HB := Lib.hid (HB.out.trans (hT3.mono HB.out.size))
                  clear kx0 kx1 kx2 kx3 kx4 kx5 kx6 ky0 ky1
                  go_wp2_with fail
                  go_ret
                  exact ⟨rfl, HB.out⟩)
end Go.Proofs.YtaijcoiepfjecaaGreat
