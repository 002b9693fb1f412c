/- DiffBack. No statement of the seat is proved here. (written by gen_l.py) -/
import Derived.Test.YtaijcoiepfjecaaGreatDjJ
import Derived.Deep.RegionHeld3
namespace Go.Proofs.YtaijcoiepfjecaaGreat
open Go.RowKit Go.Op
set_option linter.unusedVariables false

set_option maxHeartbeats 64000000 in
set_option maxRecDepth 20000 in
theorem DiffBack_walk (A1 : Option Addr) (n1 c1 : Nat) (xs : List Rrd) (A2 : Option Addr) (n2 c2 : Nat) (ys : List Rrd) (w : World) (h1 : SeesR w w.heap.size A1 n1 xs) (q1 : InCap A1 n1 c1) (u1 : n1 ≤ 9223372036854775807) (h2 : SeesR w w.heap.size A2 n2 ys) (q2 : InCap A2 n2 c2) (u2 : n2 ≤ 9223372036854775807) :
    Calls Tryz.prog 5 #[.slice A1 n1 c1, .slice A2 n2 c2] w fun e w' => e = .returned (.bool true) ∧ Below w.heap.size w w' := by
  have HX1 := Lib.hid (h1)
  have HLX1 := Lib.hid h1.1
  have HCX1 := Lib.hid q1
  have HX2 := Lib.hid (h2)
  have HLX2 := Lib.hid h2.1
  have HCX2 := Lib.hid q2
  have HB := Lib.hid (Below.refl w.heap.size w)
  clear h1 q1 h2 q2
  cases hf1 : fewL xs with
  | false =>
    have HF1 := Lib.hid hf1
    clear hf1
    go_enter Tryz.func5, Tryz.ntmps5
    go_wp2_with fail
    refine (dawake_any _).mono ?_
    rintro e wa ⟨rfl, hB⟩
    replace HX1 := Lib.hid ((HX1.out.keep hB).more hB.size)
    replace HX2 := Lib.hid ((HX2.out.keep hB).more hB.size)
    replace HB := Lib.hid (HB.out.trans (hB.mono HB.out.size))
    clear hB
    go_wp2_with fail
    refine (Few_any A1 n1 c1 xs _ HX1.out (by omega)).mono ?_
    rw [HF1.out]
    rintro e wf1 ⟨rfl, hB⟩
    replace HX1 := Lib.hid ((HX1.out.keep hB).more hB.size)
    replace HX2 := Lib.hid ((HX2.out.keep hB).more hB.size)
    replace HB := Lib.hid (HB.out.trans (hB.mono HB.out.size))
    clear hB
    go_wp2_with fail
    refine (dawake_any _).mono ?_
    rintro e wz ⟨rfl, hB⟩
    replace HX1 := Lib.hid ((HX1.out.keep hB).more hB.size)
    replace HX2 := Lib.hid ((HX2.out.keep hB).more hB.size)
    replace HB := Lib.hid (HB.out.trans (hB.mono HB.out.size))
    clear hB
    go_wp2_with fail
    go_ret
    exact ⟨rfl, HB.out⟩
  | true =>
    obtain ⟨s1, hl1⟩ := fewL_is hf1
    have HF1 := Lib.hid hf1
    have HLO1 := Lib.hid hl1
    have v1 : n1 ≤ 30 := by have := HLX1.out; omega
    clear hf1 hl1 s1
    cases hf2 : fewL ys with
    | false =>
      have HF2 := Lib.hid hf2
      clear hf2
      go_enter Tryz.func5, Tryz.ntmps5
      go_wp2_with fail
      refine (dawake_any _).mono ?_
      rintro e wa ⟨rfl, hB⟩
      replace HX1 := Lib.hid ((HX1.out.keep hB).more hB.size)
      replace HX2 := Lib.hid ((HX2.out.keep hB).more hB.size)
      replace HB := Lib.hid (HB.out.trans (hB.mono HB.out.size))
      clear hB
      go_wp2_with fail
      refine (Few_any A1 n1 c1 xs _ HX1.out (by omega)).mono ?_
      rw [HF1.out]
      rintro e wf1 ⟨rfl, hB⟩
      replace HX1 := Lib.hid ((HX1.out.keep hB).more hB.size)
      replace HX2 := Lib.hid ((HX2.out.keep hB).more hB.size)
      replace HB := Lib.hid (HB.out.trans (hB.mono HB.out.size))
      clear hB
      go_wp2_with fail
      refine (Few_any A2 n2 c2 ys _ HX2.out (by omega)).mono ?_
      rw [HF2.out]
      rintro e wf2 ⟨rfl, hB⟩
      replace HX1 := Lib.hid ((HX1.out.keep hB).more hB.size)
      replace HX2 := Lib.hid ((HX2.out.keep hB).more hB.size)
      replace HB := Lib.hid (HB.out.trans (hB.mono HB.out.size))
      clear hB
      go_wp2_with fail
      refine (dawake_any _).mono ?_
      rintro e wz ⟨rfl, hB⟩
      replace HX1 := Lib.hid ((HX1.out.keep hB).more hB.size)
      replace HX2 := Lib.hid ((HX2.out.keep hB).more hB.size)
      replace HB := Lib.hid (HB.out.trans (hB.mono HB.out.size))
      clear hB
      go_wp2_with fail
      go_ret
      exact ⟨rfl, HB.out⟩
    | true =>
      obtain ⟨s2, hl2⟩ := fewL_is hf2
      have HF2 := Lib.hid hf2
      have HLO2 := Lib.hid hl2
      have v2 : n2 ≤ 30 := by have := HLX2.out; omega
      clear hf2 hl2 s2
      go_enter Tryz.func5, Tryz.ntmps5
      go_wp2_with fail
      refine (dawake_any _).mono ?_
      rintro e wa ⟨rfl, hB⟩
      replace HX1 := Lib.hid ((HX1.out.keep hB).more hB.size)
      replace HX2 := Lib.hid ((HX2.out.keep hB).more hB.size)
      replace HB := Lib.hid (HB.out.trans (hB.mono HB.out.size))
      clear hB
      go_wp2_with fail
      refine (Few_any A1 n1 c1 xs _ HX1.out (by omega)).mono ?_
      rw [HF1.out]
      rintro e wf1 ⟨rfl, hB⟩
      replace HX1 := Lib.hid ((HX1.out.keep hB).more hB.size)
      replace HX2 := Lib.hid ((HX2.out.keep hB).more hB.size)
      replace HB := Lib.hid (HB.out.trans (hB.mono HB.out.size))
      clear hB
      go_wp2_with fail
      refine (Few_any A2 n2 c2 ys _ HX2.out (by omega)).mono ?_
      rw [HF2.out]
      rintro e wf2 ⟨rfl, hB⟩
      replace HX1 := Lib.hid ((HX1.out.keep hB).more hB.size)
      replace HX2 := Lib.hid ((HX2.out.keep hB).more hB.size)
      replace HB := Lib.hid (HB.out.trans (hB.mono HB.out.size))
      clear hB
      go_wp2_with fail
      refine (two_any A1 A2 n1 c1 n2 c2 xs ys _ HX1.out HX2.out HLO1.out HLO2.out (by omega) (by omega)).mono ?_
      rintro e wt ⟨⟨Na, Ba, ma, da, ta, Nb, Bb, mb, db, tb, zzt, rfl, hz, hzz⟩, hB⟩
      replace HX1 := Lib.hid ((HX1.out.keep hB).more hB.size)
      replace HX2 := Lib.hid ((HX2.out.keep hB).more hB.size)
      replace HB := Lib.hid (HB.out.trans (hB.mono HB.out.size))
      clear hB
      have hwz := (Whole.new wt zoT zeroZ).alloc (.cells zeroZ zoT)
      unfold zeroZ at hwz
      obtain ⟨fz0, fz1, fz2, fz3, fz4, fz5, fz6⟩ := zo_frozen hwz
      obtain ⟨cz0, cz1, cz2, cz3, cz4, cz5, cz6⟩ := zo_facts hwz
      clear hwz
      cases zzt with
      | false =>
        have HZQt := Lib.hid hz
        clear hz hzz
        go_wp2_with fail
        go_ret
        exact ⟨rfl, (HB.out.alloc HB.out.size _).alloc (Nat.le_trans HB.out.size (by simp)) _⟩
      | true =>
        obtain ⟨hca, hcb⟩ := hz.1 rfl
        obtain ⟨hza, hzb⟩ := hzz rfl
        clear hz hzz
        obtain ⟨Da, hDa⟩ : ∃ D, D = ofC xs := ⟨_, rfl⟩
        obtain ⟨oka, sta, iza, ola⟩ := low_codeZ HLO1.out hca
        rw [← hDa] at oka sta iza hza
        have la : Da.length ≤ 30 := by rw [hDa]; have := ofC_len xs; have := HLX1.out; omega
        have HOKa := Lib.hid oka
        have HSTa := Lib.hid sta
        have HIZa := Lib.hid iza
        have HDa := Lib.hid hDa
        have HOLa := Lib.hid ola
        clear hDa oka sta iza ola hca
        obtain ⟨Db, hDb⟩ : ∃ D, D = ofC ys := ⟨_, rfl⟩
        obtain ⟨okb, stb, izb, olb⟩ := low_codeZ HLO2.out hcb
        rw [← hDb] at okb stb izb hzb
        have lb : Db.length ≤ 30 := by rw [hDb]; have := ofC_len ys; have := HLX2.out; omega
        have HOKb := Lib.hid okb
        have HSTb := Lib.hid stb
        have HIZb := Lib.hid izb
        have HDb := Lib.hid hDb
        have HOLb := Lib.hid olb
        clear hDb okb stb izb olb hcb
        obtain ⟨Wt, hWt⟩ : ∃ W, W = ((wt.alloc (.cells #[.string Na, .slice Ba ma da, .string ta.s, .int .i64 ta.t, .int .i64 ta.c, .int .i64 ta.l, .string ta.d] zoT)).alloc (.cells #[.string Nb, .slice Bb mb db, .string tb.s, .int .i64 tb.t, .int .i64 tb.c, .int .i64 tb.l, .string tb.d] zoT)) := ⟨_, rfl⟩
        obtain ⟨ga, hga⟩ : ∃ g, g = wt.heap.size := ⟨_, rfl⟩
        obtain ⟨gb, hgb⟩ : ∃ g, g = wt.heap.size + 1 := ⟨_, rfl⟩
        have hb : Below wt.heap.size wt Wt := by rw [hWt]; exact ((Below.refl _ _).alloc (Nat.le_refl _) _).alloc (by simp) _
        replace HX1 := Lib.hid ((HX1.out.keep hb).more hb.size)
        replace HX2 := Lib.hid ((HX2.out.keep hb).more hb.size)
        replace HB := Lib.hid (HB.out.trans (hb.mono HB.out.size))
        have HVa := Lib.hid (show Whole Wt ga zoT #[.string Na, .slice Ba ma da, .string ta.s, .int .i64 ta.t, .int .i64 ta.c, .int .i64 ta.l, .string ta.d] from by rw [hWt, hga]; exact (Whole.new _ _ _).alloc _)
        have HZa := Lib.hid (hza.later hb)
        have HVb := Lib.hid (show Whole Wt gb zoT #[.string Nb, .slice Bb mb db, .string tb.s, .int .i64 tb.t, .int .i64 tb.c, .int .i64 tb.l, .string tb.d] from by
          rw [hWt, hgb]
          have := Whole.new (wt.alloc (.cells #[.string Na, .slice Ba ma da, .string ta.s, .int .i64 ta.t, .int .i64 ta.c, .int .i64 ta.l, .string ta.d] zoT)) zoT #[.string Nb, .slice Bb mb db, .string tb.s, .int .i64 tb.t, .int .i64 tb.c, .int .i64 tb.l, .string tb.d]
          rwa [World.size_alloc] at this)
        have HZb := Lib.hid (hzb.later hb)
        have HWWt := Lib.hid hWt
        have HGa := Lib.hid hga
        have HGb := Lib.hid hgb
        clear hb hWt hga hgb
        go_wp2_with fail
        rw [← HWWt.out, ← HGb.out, ← HGa.out]
        refine (DOf_any exN exN Da Db _ _ _ HZa.out HZb.out HOKa.out HOKb.out HSTa.out HSTb.out (by omega) (by omega)).mono ?_
        rintro e wo ⟨⟨Pu, pu, ru, Pv, pv, rv, rfl, ho1, ho2⟩, hB⟩
        replace HX1 := Lib.hid ((HX1.out.keep hB).more hB.size)
        replace HX2 := Lib.hid ((HX2.out.keep hB).more hB.size)
        replace HB := Lib.hid (HB.out.trans (hB.mono HB.out.size))
        replace HVa := Lib.hid (HVa.out.below hB HVa.out.lt)
        replace HZa := Lib.hid (HZa.out.later hB)
        replace HVb := Lib.hid (HVb.out.below hB HVb.out.lt)
        replace HZb := Lib.hid (HZb.out.later hB)
        clear hB
        have HOu := Lib.hid (ho1)
        have HOv := Lib.hid (ho2)
        clear ho1 ho2
        have zu : pu ≤ 30 := by have := HOu.out.1; have := lackX_len Da Db; omega
        have zv : pv ≤ 30 := by have := HOv.out.1; have := lackX_len Db Da; omega
        have ka0 := (HVa.out.cell 0).trans (show _ = some (.string Na) from rfl)
        have ka1 := (HVa.out.cell 1).trans (show _ = some (.slice Ba ma da) from rfl)
        have ka2 := (HVa.out.cell 2).trans (show _ = some (.string ta.s) from rfl)
        have ka3 := (HVa.out.cell 3).trans (show _ = some (.int .i64 ta.t) from rfl)
        have ka4 := (HVa.out.cell 4).trans (show _ = some (.int .i64 ta.c) from rfl)
        have ka5 := (HVa.out.cell 5).trans (show _ = some (.int .i64 ta.l) from rfl)
        have ka6 := (HVa.out.cell 6).trans (show _ = some (.string ta.d) from rfl)
        have kb0 := (HVb.out.cell 0).trans (show _ = some (.string Nb) from rfl)
        have kb1 := (HVb.out.cell 1).trans (show _ = some (.slice Bb mb db) from rfl)
        have kb2 := (HVb.out.cell 2).trans (show _ = some (.string tb.s) from rfl)
        have kb3 := (HVb.out.cell 3).trans (show _ = some (.int .i64 tb.t) from rfl)
        have kb4 := (HVb.out.cell 4).trans (show _ = some (.int .i64 tb.c) from rfl)
        have kb5 := (HVb.out.cell 5).trans (show _ = some (.int .i64 tb.l) from rfl)
        have kb6 := (HVb.out.cell 6).trans (show _ = some (.string tb.d) from rfl)
        go_wp2_with fail
        clear ka0 ka1 ka2 ka3 ka4 ka5 ka6 kb0 kb1 kb2 kb3 kb4 kb5 kb6
        refine (ApplyDiff_any Da Db _ Pu Pv pu ru pv rv _ HZa.out HOu.out HOv.out HOKa.out HOKb.out HSTa.out HSTb.out HIZb.out (by omega) (by omega) (by omega) (by omega)).mono ?_
        rintro e wp ⟨⟨Nx, Bx, mx, dx, tx, rfl, hzx⟩, hB⟩
        replace HX1 := Lib.hid ((HX1.out.keep hB).more hB.size)
        replace HX2 := Lib.hid ((HX2.out.keep hB).more hB.size)
        replace HB := Lib.hid (HB.out.trans (hB.mono HB.out.size))
        replace HVa := Lib.hid (HVa.out.below hB HVa.out.lt)
        replace HZa := Lib.hid (HZa.out.later hB)
        replace HVb := Lib.hid (HVb.out.below hB HVb.out.lt)
        replace HZb := Lib.hid (HZb.out.later hB)
        replace HOu := Lib.hid (HOu.out.later hB)
        replace HOv := Lib.hid (HOv.out.later hB)
        clear hB
        obtain ⟨Wp, hWp⟩ : ∃ W, W = (wp.alloc (.cells #[.string Nx, .slice Bx mx dx, .string tx.s, .int .i64 tx.t, .int .i64 tx.c, .int .i64 tx.l, .string tx.d] zoT)) := ⟨_, rfl⟩
        obtain ⟨gx, hgx⟩ : ∃ g, g = wp.heap.size := ⟨_, rfl⟩
        have ka0 := ((HVa.out.alloc (.cells #[.string Nx, .slice Bx mx dx, .string tx.s, .int .i64 tx.t, .int .i64 tx.c, .int .i64 tx.l, .string tx.d] zoT)).cell 0).trans (show _ = some (.string Na) from rfl)
        have ka1 := ((HVa.out.alloc (.cells #[.string Nx, .slice Bx mx dx, .string tx.s, .int .i64 tx.t, .int .i64 tx.c, .int .i64 tx.l, .string tx.d] zoT)).cell 1).trans (show _ = some (.slice Ba ma da) from rfl)
        have ka2 := ((HVa.out.alloc (.cells #[.string Nx, .slice Bx mx dx, .string tx.s, .int .i64 tx.t, .int .i64 tx.c, .int .i64 tx.l, .string tx.d] zoT)).cell 2).trans (show _ = some (.string ta.s) from rfl)
        have ka3 := ((HVa.out.alloc (.cells #[.string Nx, .slice Bx mx dx, .string tx.s, .int .i64 tx.t, .int .i64 tx.c, .int .i64 tx.l, .string tx.d] zoT)).cell 3).trans (show _ = some (.int .i64 ta.t) from rfl)
        have ka4 := ((HVa.out.alloc (.cells #[.string Nx, .slice Bx mx dx, .string tx.s, .int .i64 tx.t, .int .i64 tx.c, .int .i64 tx.l, .string tx.d] zoT)).cell 4).trans (show _ = some (.int .i64 ta.c) from rfl)
        have ka5 := ((HVa.out.alloc (.cells #[.string Nx, .slice Bx mx dx, .string tx.s, .int .i64 tx.t, .int .i64 tx.c, .int .i64 tx.l, .string tx.d] zoT)).cell 5).trans (show _ = some (.int .i64 ta.l) from rfl)
        have ka6 := ((HVa.out.alloc (.cells #[.string Nx, .slice Bx mx dx, .string tx.s, .int .i64 tx.t, .int .i64 tx.c, .int .i64 tx.l, .string tx.d] zoT)).cell 6).trans (show _ = some (.string ta.d) from rfl)
        have kb0 := ((HVb.out.alloc (.cells #[.string Nx, .slice Bx mx dx, .string tx.s, .int .i64 tx.t, .int .i64 tx.c, .int .i64 tx.l, .string tx.d] zoT)).cell 0).trans (show _ = some (.string Nb) from rfl)
        have kb1 := ((HVb.out.alloc (.cells #[.string Nx, .slice Bx mx dx, .string tx.s, .int .i64 tx.t, .int .i64 tx.c, .int .i64 tx.l, .string tx.d] zoT)).cell 1).trans (show _ = some (.slice Bb mb db) from rfl)
        have kb2 := ((HVb.out.alloc (.cells #[.string Nx, .slice Bx mx dx, .string tx.s, .int .i64 tx.t, .int .i64 tx.c, .int .i64 tx.l, .string tx.d] zoT)).cell 2).trans (show _ = some (.string tb.s) from rfl)
        have kb3 := ((HVb.out.alloc (.cells #[.string Nx, .slice Bx mx dx, .string tx.s, .int .i64 tx.t, .int .i64 tx.c, .int .i64 tx.l, .string tx.d] zoT)).cell 3).trans (show _ = some (.int .i64 tb.t) from rfl)
        have kb4 := ((HVb.out.alloc (.cells #[.string Nx, .slice Bx mx dx, .string tx.s, .int .i64 tx.t, .int .i64 tx.c, .int .i64 tx.l, .string tx.d] zoT)).cell 4).trans (show _ = some (.int .i64 tb.c) from rfl)
        have kb5 := ((HVb.out.alloc (.cells #[.string Nx, .slice Bx mx dx, .string tx.s, .int .i64 tx.t, .int .i64 tx.c, .int .i64 tx.l, .string tx.d] zoT)).cell 5).trans (show _ = some (.int .i64 tb.l) from rfl)
        have kb6 := ((HVb.out.alloc (.cells #[.string Nx, .slice Bx mx dx, .string tx.s, .int .i64 tx.t, .int .i64 tx.c, .int .i64 tx.l, .string tx.d] zoT)).cell 6).trans (show _ = some (.string tb.d) from rfl)
        have hb : Below wp.heap.size wp Wp := by rw [hWp]; exact (Below.refl _ _).alloc (Nat.le_refl _) _
        replace HX1 := Lib.hid ((HX1.out.keep hb).more hb.size)
        replace HX2 := Lib.hid ((HX2.out.keep hb).more hb.size)
        replace HB := Lib.hid (HB.out.trans (hb.mono HB.out.size))
        replace HVa := Lib.hid (HVa.out.below hb HVa.out.lt)
        replace HZa := Lib.hid (HZa.out.later hb)
        replace HVb := Lib.hid (HVb.out.below hb HVb.out.lt)
        replace HZb := Lib.hid (HZb.out.later hb)
        replace HOu := Lib.hid (HOu.out.later hb)
        replace HOv := Lib.hid (HOv.out.later hb)
        have HVx := Lib.hid (show Whole Wp gx zoT #[.string Nx, .slice Bx mx dx, .string tx.s, .int .i64 tx.t, .int .i64 tx.c, .int .i64 tx.l, .string tx.d] from by rw [hWp, hgx]; exact Whole.new _ _ _)
        have HZx := Lib.hid (hzx.later hb)
        have HWWp := Lib.hid hWp
        have HGx := Lib.hid hgx
        clear hb hWp hgx
        go_wp2_with fail
        rw [← HWWp.out, ← HGx.out]
        clear ka0 ka1 ka2 ka3 ka4 ka5 ka6 kb0 kb1 kb2 kb3 kb4 kb5 kb6
        refine (ApplyDiff_any Db Da _ Pv Pu pv rv pu ru _ HZb.out HOv.out HOu.out HOKb.out HOKa.out HSTb.out HSTa.out HIZa.out (by omega) (by omega) (by omega) (by omega)).mono ?_
        rintro e wq ⟨⟨Ny, By, my, dy, ty, rfl, hzy⟩, hB⟩
        replace HX1 := Lib.hid ((HX1.out.keep hB).more hB.size)
        replace HX2 := Lib.hid ((HX2.out.keep hB).more hB.size)
        replace HB := Lib.hid (HB.out.trans (hB.mono HB.out.size))
        replace HVa := Lib.hid (HVa.out.below hB HVa.out.lt)
        replace HZa := Lib.hid (HZa.out.later hB)
        replace HVb := Lib.hid (HVb.out.below hB HVb.out.lt)
        replace HZb := Lib.hid (HZb.out.later hB)
        replace HOu := Lib.hid (HOu.out.later hB)
        replace HOv := Lib.hid (HOv.out.later hB)
        replace HVx := Lib.hid (HVx.out.below hB HVx.out.lt)
        replace HZx := Lib.hid (HZx.out.later hB)
        clear hB
        obtain ⟨Wq, hWq⟩ : ∃ W, W = (wq.alloc (.cells #[.string Ny, .slice By my dy, .string ty.s, .int .i64 ty.t, .int .i64 ty.c, .int .i64 ty.l, .string ty.d] zoT)) := ⟨_, rfl⟩
        obtain ⟨gy, hgy⟩ : ∃ g, g = wq.heap.size := ⟨_, rfl⟩
        have hb : Below wq.heap.size wq Wq := by rw [hWq]; exact (Below.refl _ _).alloc (Nat.le_refl _) _
        replace HX1 := Lib.hid ((HX1.out.keep hb).more hb.size)
        replace HX2 := Lib.hid ((HX2.out.keep hb).more hb.size)
        replace HB := Lib.hid (HB.out.trans (hb.mono HB.out.size))
        replace HVa := Lib.hid (HVa.out.below hb HVa.out.lt)
        replace HZa := Lib.hid (HZa.out.later hb)
        replace HVb := Lib.hid (HVb.out.below hb HVb.out.lt)
        replace HZb := Lib.hid (HZb.out.later hb)
        replace HOu := Lib.hid (HOu.out.later hb)
        replace HOv := Lib.hid (HOv.out.later hb)
        replace HVx := Lib.hid (HVx.out.below hb HVx.out.lt)
        replace HZx := Lib.hid (HZx.out.later hb)
        have HVy := Lib.hid (show Whole Wq gy zoT #[.string Ny, .slice By my dy, .string ty.s, .int .i64 ty.t, .int .i64 ty.c, .int .i64 ty.l, .string ty.d] from by rw [hWq, hgy]; exact Whole.new _ _ _)
        have HZy := Lib.hid (hzy.later hb)
        have HWWq := Lib.hid hWq
        have HGy := Lib.hid hgy
        clear hb hWq hgy
        go_wp2_with fail
        rw [← HWWq.out, ← HGy.out]
        have HSMa := Lib.hid (show sameX Da Da = true from sameX_is.2 rfl)
        have HSMb := Lib.hid (show sameX Db Db = true from sameX_is.2 rfl)
        have hb1 : Below Wq.heap.size Wq Wq.drew := (Below.refl _ _).drew
        have ka0 : ∀ w' : World, Below Wq.heap.size Wq w' → w'.cell? ⟨ga, 0, none⟩ = some (.string Na) := fun w' h => (h.cell (HVa.out.lt)).trans ((HVa.out.cell 0).trans rfl)
        have ka1 : ∀ w' : World, Below Wq.heap.size Wq w' → w'.cell? ⟨ga, 1, none⟩ = some (.slice Ba ma da) := fun w' h => (h.cell (HVa.out.lt)).trans ((HVa.out.cell 1).trans rfl)
        have ka2 : ∀ w' : World, Below Wq.heap.size Wq w' → w'.cell? ⟨ga, 2, none⟩ = some (.string ta.s) := fun w' h => (h.cell (HVa.out.lt)).trans ((HVa.out.cell 2).trans rfl)
        have ka3 : ∀ w' : World, Below Wq.heap.size Wq w' → w'.cell? ⟨ga, 3, none⟩ = some (.int .i64 ta.t) := fun w' h => (h.cell (HVa.out.lt)).trans ((HVa.out.cell 3).trans rfl)
        have ka4 : ∀ w' : World, Below Wq.heap.size Wq w' → w'.cell? ⟨ga, 4, none⟩ = some (.int .i64 ta.c) := fun w' h => (h.cell (HVa.out.lt)).trans ((HVa.out.cell 4).trans rfl)
        have ka5 : ∀ w' : World, Below Wq.heap.size Wq w' → w'.cell? ⟨ga, 5, none⟩ = some (.int .i64 ta.l) := fun w' h => (h.cell (HVa.out.lt)).trans ((HVa.out.cell 5).trans rfl)
        have ka6 : ∀ w' : World, Below Wq.heap.size Wq w' → w'.cell? ⟨ga, 6, none⟩ = some (.string ta.d) := fun w' h => (h.cell (HVa.out.lt)).trans ((HVa.out.cell 6).trans rfl)
        have kb0 : ∀ w' : World, Below Wq.heap.size Wq w' → w'.cell? ⟨gb, 0, none⟩ = some (.string Nb) := fun w' h => (h.cell (HVb.out.lt)).trans ((HVb.out.cell 0).trans rfl)
        have kb1 : ∀ w' : World, Below Wq.heap.size Wq w' → w'.cell? ⟨gb, 1, none⟩ = some (.slice Bb mb db) := fun w' h => (h.cell (HVb.out.lt)).trans ((HVb.out.cell 1).trans rfl)
        have kb2 : ∀ w' : World, Below Wq.heap.size Wq w' → w'.cell? ⟨gb, 2, none⟩ = some (.string tb.s) := fun w' h => (h.cell (HVb.out.lt)).trans ((HVb.out.cell 2).trans rfl)
        have kb3 : ∀ w' : World, Below Wq.heap.size Wq w' → w'.cell? ⟨gb, 3, none⟩ = some (.int .i64 tb.t) := fun w' h => (h.cell (HVb.out.lt)).trans ((HVb.out.cell 3).trans rfl)
        have kb4 : ∀ w' : World, Below Wq.heap.size Wq w' → w'.cell? ⟨gb, 4, none⟩ = some (.int .i64 tb.c) := fun w' h => (h.cell (HVb.out.lt)).trans ((HVb.out.cell 4).trans rfl)
        have kb5 : ∀ w' : World, Below Wq.heap.size Wq w' → w'.cell? ⟨gb, 5, none⟩ = some (.int .i64 tb.l) := fun w' h => (h.cell (HVb.out.lt)).trans ((HVb.out.cell 5).trans rfl)
        have kb6 : ∀ w' : World, Below Wq.heap.size Wq w' → w'.cell? ⟨gb, 6, none⟩ = some (.string tb.d) := fun w' h => (h.cell (HVb.out.lt)).trans ((HVb.out.cell 6).trans rfl)
        have kx0 : ∀ w' : World, Below Wq.heap.size Wq w' → w'.cell? ⟨gx, 0, none⟩ = some (.string Nx) := fun w' h => (h.cell (HVx.out.lt)).trans ((HVx.out.cell 0).trans rfl)
        have kx1 : ∀ w' : World, Below Wq.heap.size Wq w' → w'.cell? ⟨gx, 1, none⟩ = some (.slice Bx mx dx) := fun w' h => (h.cell (HVx.out.lt)).trans ((HVx.out.cell 1).trans rfl)
        have kx2 : ∀ w' : World, Below Wq.heap.size Wq w' → w'.cell? ⟨gx, 2, none⟩ = some (.string tx.s) := fun w' h => (h.cell (HVx.out.lt)).trans ((HVx.out.cell 2).trans rfl)
        have kx3 : ∀ w' : World, Below Wq.heap.size Wq w' → w'.cell? ⟨gx, 3, none⟩ = some (.int .i64 tx.t) := fun w' h => (h.cell (HVx.out.lt)).trans ((HVx.out.cell 3).trans rfl)
        have kx4 : ∀ w' : World, Below Wq.heap.size Wq w' → w'.cell? ⟨gx, 4, none⟩ = some (.int .i64 tx.c) := fun w' h => (h.cell (HVx.out.lt)).trans ((HVx.out.cell 4).trans rfl)
        have kx5 : ∀ w' : World, Below Wq.heap.size Wq w' → w'.cell? ⟨gx, 5, none⟩ = some (.int .i64 tx.l) := fun w' h => (h.cell (HVx.out.lt)).trans ((HVx.out.cell 5).trans rfl)
        have kx6 : ∀ w' : World, Below Wq.heap.size Wq w' → w'.cell? ⟨gx, 6, none⟩ = some (.string tx.d) := fun w' h => (h.cell (HVx.out.lt)).trans ((HVx.out.cell 6).trans rfl)
        have ky0 : ∀ w' : World, Below Wq.heap.size Wq w' → w'.cell? ⟨gy, 0, none⟩ = some (.string Ny) := fun w' h => (h.cell (HVy.out.lt)).trans ((HVy.out.cell 0).trans rfl)
        have ky1 : ∀ w' : World, Below Wq.heap.size Wq w' → w'.cell? ⟨gy, 1, none⟩ = some (.slice By my dy) := fun w' h => (h.cell (HVy.out.lt)).trans ((HVy.out.cell 1).trans rfl)
        have ky2 : ∀ w' : World, Below Wq.heap.size Wq w' → w'.cell? ⟨gy, 2, none⟩ = some (.string ty.s) := fun w' h => (h.cell (HVy.out.lt)).trans ((HVy.out.cell 2).trans rfl)
        have ky3 : ∀ w' : World, Below Wq.heap.size Wq w' → w'.cell? ⟨gy, 3, none⟩ = some (.int .i64 ty.t) := fun w' h => (h.cell (HVy.out.lt)).trans ((HVy.out.cell 3).trans rfl)
        have ky4 : ∀ w' : World, Below Wq.heap.size Wq w' → w'.cell? ⟨gy, 4, none⟩ = some (.int .i64 ty.c) := fun w' h => (h.cell (HVy.out.lt)).trans ((HVy.out.cell 4).trans rfl)
        have ky5 : ∀ w' : World, Below Wq.heap.size Wq w' → w'.cell? ⟨gy, 5, none⟩ = some (.int .i64 ty.l) := fun w' h => (h.cell (HVy.out.lt)).trans ((HVy.out.cell 5).trans rfl)
        have ky6 : ∀ w' : World, Below Wq.heap.size Wq w' → w'.cell? ⟨gy, 6, none⟩ = some (.string ty.d) := fun w' h => (h.cell (HVy.out.lt)).trans ((HVy.out.cell 6).trans rfl)
        go_region_held3 (fun w' => Below Wq.heap.size Wq w') (go_keep) (first
          | (go_at_call 13; (refine (Same_any Q6 Q7 Da.length o6 Da.length o7 Da Da _ (hs6.later hB7).2.1 hs7.2.1 (by omega)).mono ?_; rw [HSMa.out]; rintro e w8 ⟨rfl, hB8⟩; have hT8 : Below Wq.heap.size Wq w8 := hT7.trans (hB8.mono hT7.size)))
          | (go_at_call 20; (refine (All_any exN Da _ _ (HZa.out.later hT6) (by omega)).mono ?_; rintro e w7 ⟨u7, rfl, ho7, hB7⟩; obtain ⟨Q7, o7, rfl, hs7⟩ := own_L ho7; have hT7 : Below Wq.heap.size Wq w7 := hT6.trans (hB7.mono hT6.size)))
          | (go_at_call 20; (refine (All_any exN Da _ _ (HZy.out.later hT5) (by omega)).mono ?_; rintro e w6 ⟨u6, rfl, ho6, hB6⟩; obtain ⟨Q6, o6, rfl, hs6⟩ := own_L ho6; have hT6 : Below Wq.heap.size Wq w6 := hT5.trans (hB6.mono hT5.size)))
          | (go_at_call 13; (refine (Same_any Q3 Q4 Db.length o3 Db.length o4 Db Db _ (hs3.later hB4).2.1 hs4.2.1 (by omega)).mono ?_; rw [HSMb.out]; rintro e w5 ⟨rfl, hB5⟩; have hT5 : Below Wq.heap.size Wq w5 := hT4.trans (hB5.mono hT4.size)))
          | (go_at_call 20; (refine (All_any exN Db _ _ (HZb.out.later hT3) (by omega)).mono ?_; rintro e w4 ⟨u4, rfl, ho4, hB4⟩; obtain ⟨Q4, o4, rfl, hs4⟩ := own_L ho4; have hT4 : Below Wq.heap.size Wq w4 := hT3.trans (hB4.mono hT3.size)))
          | (go_at_call 20; (refine (All_any exN Db _ _ (HZx.out.later hT2) (by omega)).mono ?_; rintro e w3 ⟨u3, rfl, ho3, hB3⟩; obtain ⟨Q3, o3, rfl, hs3⟩ := own_L ho3; have hT3 : Below Wq.heap.size Wq w3 := hT2.trans (hB3.mono hT2.size)))
          | (go_at_call 15; (refine (DSame_any exN Da Da _ _ _ (HZy.out.later hT1) (HZa.out.later hT1) HOKa.out HOKa.out HSTa.out HSTa.out (by omega) (by omega)).mono ?_; rw [HSMa.out]; rintro e w2 ⟨rfl, hB2⟩; have hT2 : Below Wq.heap.size Wq w2 := hT1.trans (hB2.mono hT1.size)))
          | (go_at_call 15; (refine (DSame_any exN Db Db _ _ _ (HZx.out.later hb1) (HZb.out.later hb1) HOKb.out HOKb.out HSTb.out HSTb.out (by omega) (by omega)).mono ?_; rw [HSMb.out]; rintro e w1 ⟨rfl, hB1⟩; have hT1 : Below Wq.heap.size Wq w1 := hb1.trans (hB1.mono hb1.size))))
        all_goals (
          replace HB := Lib.hid (HB.out.trans (hT8.mono HB.out.size))
          clear ka0 ka1 ka2 ka3 ka4 ka5 ka6 kb0 kb1 kb2 kb3 kb4 kb5 kb6 kx0 kx1 kx2 kx3 kx4 kx5 kx6 ky0 ky1 ky2 ky3 ky4 ky5 ky6
          go_wp2_with fail
          go_ret
          exact ⟨rfl, HB.out⟩)
end Go.Proofs.YtaijcoiepfjecaaGreat
