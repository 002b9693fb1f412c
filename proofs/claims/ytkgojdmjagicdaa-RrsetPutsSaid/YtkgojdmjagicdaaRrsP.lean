/- RrsetPuts. No statement of the seat is proved here. (written by gen_p.py) -/
import Derived.Test.YtkgojdmjagicdaaRrsO
namespace Go.Proofs.Ytkgojdmjagicdaa
open Go.RowKit Go.Op

set_option maxHeartbeats 16000000 in
set_option maxRecDepth 20000 in
theorem RrsetPuts_walk (A : Option Addr) (n c : Nat) (xs : List Rrd) (r : Rrd) (w : World) (hx : SeesR w w.heap.size A n xs) (hcap : InCap A n c) (h63 : n ≤ 9223372036854775807) :
    Calls Try.prog 3 #[.slice A n c, .agg #[.string r.s, .int .i64 r.t, .int .i64 r.c, .int .i64 r.l, .string r.d]] w fun e w' => e = .returned (.bool true) ∧ Below w.heap.size w w' := by
  obtain ⟨W, hW⟩ : ∃ W, W = w.alloc (.cells #[.string r.s, .int .i64 r.t, .int .i64 r.c, .int .i64 r.l, .string r.d] 24) := ⟨_, rfl⟩
  obtain ⟨g, hg⟩ : ∃ g, g = w.heap.size := ⟨_, rfl⟩
  have HB0 := Lib.hid (show Below w.heap.size w W by rw [hW]; exact (Below.refl _ _).alloc (Nat.le_refl _) _)
  have HBX := Lib.hid (show Five W g 0 r by rw [hW, hg]; exact box_five w r)
  have HGL := Lib.hid (show g < W.heap.size by rw [hW, hg]; simp)
  have HX := Lib.hid ((hx.keep HB0.out).more HB0.out.size)
  have HCAP := Lib.hid hcap
  have HLEN := Lib.hid hx.1
  have HW := Lib.hid hW
  have HG := Lib.hid hg
  clear hW hg hx hcap
  cases hr1 : rightsX xs with
  | false =>
    have HR1 := Lib.hid hr1
    clear hr1
    go_enter Try.func3, Try.ntmps3
    go_wp2_with fail
    rw [← HW.out, ← HG.out]
    refine (awake_any _).mono ?_
    rintro e w1 ⟨rfl, hB⟩
    have HB1 := Lib.hid hB
    have HX1 := Lib.hid ((HX.out.keep HB1.out).more HB1.out.size)
    clear hB
    go_wp2_with fail
    refine (Rights_any A n c xs _ HX1.out h63).mono ?_
    rw [HR1.out]
    rintro e w2 ⟨rfl, hB⟩
    have HB2 := Lib.hid (HB1.out.trans (hB.mono HB1.out.size))
    clear hB
    go_wp2_with fail
    refine (awake_any _).mono ?_
    rintro e w3 ⟨rfl, hB⟩
    have HB3 := Lib.hid (HB2.out.trans (hB.mono HB2.out.size))
    clear hB
    go_wp2_with fail
    go_ret
    exact ⟨rfl, HB0.out.trans (HB3.out.mono HB0.out.size)⟩
  | true =>
    obtain ⟨hok, h30⟩ := rightsX_is hr1
    have hn30 : n ≤ 30 := by have := HLEN.out; omega
    have HOK := Lib.hid hok
    have HR1 := Lib.hid hr1
    clear hr1 hok h30
    cases hr2 : setX xs with
    | false =>
      have HR2 := Lib.hid hr2
      clear hr2
      go_enter Try.func3, Try.ntmps3
      go_wp2_with fail
      rw [← HW.out, ← HG.out]
      refine (awake_any _).mono ?_
      rintro e w1 ⟨rfl, hB⟩
      have HB1 := Lib.hid hB
      have HX1 := Lib.hid ((HX.out.keep HB1.out).more HB1.out.size)
      clear hB
      go_wp2_with fail
      refine (Rights_any A n c xs _ HX1.out h63).mono ?_
      rw [HR1.out]
      rintro e w2 ⟨rfl, hB⟩
      have HB2 := Lib.hid (HB1.out.trans (hB.mono HB1.out.size))
      have HX2 := Lib.hid ((HX.out.keep HB2.out).more HB2.out.size)
      clear hB
      go_wp2_with fail
      refine (RefIs_any A n c xs _ HX2.out HOK.out (by omega)).mono ?_
      rw [HR2.out]
      rintro e w3 ⟨rfl, hB⟩
      have HB3 := Lib.hid (HB2.out.trans (hB.mono HB2.out.size))
      clear hB
      go_wp2_with fail
      refine (awake_any _).mono ?_
      rintro e w4 ⟨rfl, hB⟩
      have HB4 := Lib.hid (HB3.out.trans (hB.mono HB3.out.size))
      clear hB
      go_wp2_with fail
      go_ret
      exact ⟨rfl, HB0.out.trans (HB4.out.mono HB0.out.size)⟩
    | true =>
      have HSET := Lib.hid ((setX_is HOK.out).1 hr2)
      have HR2 := Lib.hid hr2
      clear hr2
      cases hr3 : okX r with
      | false =>
        have HR3 := Lib.hid ((rights_one r).trans hr3)
        clear hr3
        go_enter Try.func3, Try.ntmps3
        go_wp2_with fail
        rw [← HW.out, ← HG.out]
        refine (awake_any _).mono ?_
        rintro e w1 ⟨rfl, hB⟩
        have HB1 := Lib.hid hB
        have HX1 := Lib.hid ((HX.out.keep HB1.out).more HB1.out.size)
        clear hB
        go_wp2_with fail
        refine (Rights_any A n c xs _ HX1.out h63).mono ?_
        rw [HR1.out]
        rintro e w2 ⟨rfl, hB⟩
        have HB2 := Lib.hid (HB1.out.trans (hB.mono HB1.out.size))
        have HX2 := Lib.hid ((HX.out.keep HB2.out).more HB2.out.size)
        clear hB
        go_wp2_with fail
        refine (RefIs_any A n c xs _ HX2.out HOK.out (by omega)).mono ?_
        rw [HR2.out]
        rintro e w3 ⟨rfl, hB⟩
        have HB3 := Lib.hid (HB2.out.trans (hB.mono HB2.out.size))
        obtain ⟨p0, p1, p2, p3, p4⟩ := HBX.out.keep HB3.out HGL.out
        have HBA := Lib.hid (show Below W.heap.size W (w3.alloc (.cells #[.string r.s, .int .i64 r.t, .int .i64 r.c, .int .i64 r.l, .string r.d] 24)) from HB3.out.alloc HB3.out.size _)
        have HX3 := Lib.hid (show SeesR (w3.alloc (.cells #[.string r.s, .int .i64 r.t, .int .i64 r.c, .int .i64 r.l, .string r.d] 24)) (w3.alloc (.cells #[.string r.s, .int .i64 r.t, .int .i64 r.c, .int .i64 r.l, .string r.d] 24)).heap.size (some ⟨w3.heap.size, 0, none⟩) 1 [r] by rw [World.size_alloc]; exact SeesR.one w3 r)
        clear hB
        go_wp2_with fail
        refine (Rights_any _ 1 1 [r] _ HX3.out (by omega)).mono ?_
        rw [HR3.out]
        rintro e w4 ⟨rfl, hB⟩
        have HB4 := Lib.hid (HBA.out.trans (hB.mono HBA.out.size))
        clear hB p0 p1 p2 p3 p4
        go_wp2_with fail
        refine (awake_any _).mono ?_
        rintro e w5 ⟨rfl, hB⟩
        have HB5 := Lib.hid (HB4.out.trans (hB.mono HB4.out.size))
        clear hB
        go_wp2_with fail
        go_ret
        exact ⟨rfl, HB0.out.trans (HB5.out.mono HB0.out.size)⟩
      | true =>
        have HOR := Lib.hid (okX_is.1 hr3)
        have HR3 := Lib.hid ((rights_one r).trans hr3)
        clear hr3
        go_enter Try.func3, Try.ntmps3
        go_wp2_with fail
        rw [← HW.out, ← HG.out]
        refine (awake_any _).mono ?_
        rintro e w1 ⟨rfl, hB⟩
        have HB1 := Lib.hid hB
        have HX1 := Lib.hid ((HX.out.keep HB1.out).more HB1.out.size)
        clear hB
        go_wp2_with fail
        refine (Rights_any A n c xs _ HX1.out h63).mono ?_
        rw [HR1.out]
        rintro e w2 ⟨rfl, hB⟩
        have HB2 := Lib.hid (HB1.out.trans (hB.mono HB1.out.size))
        have HX2 := Lib.hid ((HX.out.keep HB2.out).more HB2.out.size)
        clear hB
        go_wp2_with fail
        refine (RefIs_any A n c xs _ HX2.out HOK.out (by omega)).mono ?_
        rw [HR2.out]
        rintro e w3 ⟨rfl, hB⟩
        have HB3 := Lib.hid (HB2.out.trans (hB.mono HB2.out.size))
        obtain ⟨p0, p1, p2, p3, p4⟩ := HBX.out.keep HB3.out HGL.out
        have HBA := Lib.hid (show Below W.heap.size W (w3.alloc (.cells #[.string r.s, .int .i64 r.t, .int .i64 r.c, .int .i64 r.l, .string r.d] 24)) from HB3.out.alloc HB3.out.size _)
        have HX3 := Lib.hid (show SeesR (w3.alloc (.cells #[.string r.s, .int .i64 r.t, .int .i64 r.c, .int .i64 r.l, .string r.d] 24)) (w3.alloc (.cells #[.string r.s, .int .i64 r.t, .int .i64 r.c, .int .i64 r.l, .string r.d] 24)).heap.size (some ⟨w3.heap.size, 0, none⟩) 1 [r] by rw [World.size_alloc]; exact SeesR.one w3 r)
        clear hB
        go_wp2_with fail
        refine (Rights_any _ 1 1 [r] _ HX3.out (by omega)).mono ?_
        rw [HR3.out]
        rintro e w4 ⟨rfl, hB⟩
        have HB4 := Lib.hid (HBA.out.trans (hB.mono HBA.out.size))
        clear hB p0 p1 p2 p3 p4
        obtain ⟨p0, p1, p2, p3, p4⟩ := HBX.out.keep HB4.out HGL.out
        go_wp2_with fail
        refine (Put_any A n c xs r _ ((HX.out.keep HB4.out).more HB4.out.size) HCAP.out HOK.out HOR.out HSET.out (by omega)).mono ?_
        rintro e w5 ⟨va, rfl, ho, hB⟩
        have HB5 := Lib.hid (HB4.out.trans (hB.mono HB4.out.size))
        obtain ⟨Aa, ca, rfl, hsa, hca⟩ := own_sees ho
        have HSa := Lib.hid hsa
        have HCa := Lib.hid hca
        clear ho hsa hca
        clear hB p0 p1 p2 p3 p4
        obtain ⟨p0, p1, p2, p3, p4⟩ := HBX.out.keep HB5.out HGL.out
        go_wp2_with fail
        refine (Drop_any A n c xs r _ ((HX.out.keep HB5.out).more HB5.out.size) HCAP.out HOK.out HOR.out HSET.out (by omega)).mono ?_
        rintro e w6 ⟨vb, rfl, ho, hB⟩
        have HB6 := Lib.hid (HB5.out.trans (hB.mono HB5.out.size))
        have HSa6 := Lib.hid ((HSa.out.keep hB).more hB.size)
        obtain ⟨Ab, cb, rfl, hsb, hcb⟩ := own_sees ho
        have HSb := Lib.hid hsb
        have HCb := Lib.hid hcb
        clear ho hsb hcb
        clear hB p0 p1 p2 p3 p4
        obtain ⟨p0, p1, p2, p3, p4⟩ := HBX.out.keep HB6.out HGL.out
        go_wp2_with fail
        refine (Find_any A n c xs r _ ((HX.out.keep HB6.out).more HB6.out.size) HOK.out HOR.out HSET.out (by omega)).mono ?_
        rintro e w7 ⟨x, hfx, rfl, hB⟩
        have hB := hB.alloc hB.size (.cells #[.string x.s, .int .i64 x.t, .int .i64 x.c, .int .i64 x.l, .string x.d] 24)
        have HB7 := Lib.hid (HB6.out.trans (hB.mono HB6.out.size))
        have HSa7 := Lib.hid ((HSa6.out.keep hB).more hB.size)
        have HSb7 := Lib.hid ((HSb.out.keep hB).more hB.size)
        have HXF := Lib.hid (box_five w7 x)
        have HFX := Lib.hid hfx
        clear hfx hB p0 p1 p2 p3 p4
        obtain ⟨p0, p1, p2, p3, p4⟩ := HBX.out.keep HB7.out HGL.out
        go_wp2_with fail
        refine (RefPut_any A n c xs r _ ((HX.out.keep HB7.out).more HB7.out.size) HOK.out HOR.out (by omega)).mono ?_
        rw [refP_set ordX HOR.out xs HOK.out HSET.out]
        rintro e w8 ⟨vc, rfl, ho, hB⟩
        have HB8 := Lib.hid (HB7.out.trans (hB.mono HB7.out.size))
        have HSa8 := Lib.hid ((HSa7.out.keep hB).more hB.size)
        have HSb8 := Lib.hid ((HSb7.out.keep hB).more hB.size)
        have HXF8 := Lib.hid (HXF.out.keep hB (by simp))
        have HXL8 := Lib.hid (show w7.heap.size < w8.heap.size by have := hB.size; simp at this; omega)
        obtain ⟨Ac, cc, rfl, hsc, hcc⟩ := own_sees ho
        have HSc := Lib.hid hsc
        have HCc := Lib.hid hcc
        clear ho hsc hcc
        clear hB p0 p1 p2 p3 p4
        obtain ⟨p0, p1, p2, p3, p4⟩ := HBX.out.keep HB8.out HGL.out
        go_wp2_with fail
        refine (RefDrop_any A n c xs r _ ((HX.out.keep HB8.out).more HB8.out.size) HCAP.out HOK.out HOR.out HSET.out (by omega)).mono ?_
        rintro e w9 ⟨Ad, md, cd, rfl, hsd, hmd, hB⟩
        have HB9 := Lib.hid (HB8.out.trans (hB.mono HB8.out.size))
        have HSa9 := Lib.hid ((HSa8.out.keep hB).more hB.size)
        have HSb9 := Lib.hid ((HSb8.out.keep hB).more hB.size)
        have HSc9 := Lib.hid ((HSc.out.keep hB).more hB.size)
        have HXF9 := Lib.hid (HXF8.out.keep hB HXL8.out)
        have HXL9 := Lib.hid (Nat.lt_of_lt_of_le HXL8.out hB.size)
        have HSd := Lib.hid hsd
        have HMD := Lib.hid hmd
        clear hsd hmd
        clear hB p0 p1 p2 p3 p4
        obtain ⟨p0, p1, p2, p3, p4⟩ := HBX.out.keep HB9.out HGL.out
        go_wp2_with fail
        refine (RefFind_any A n c xs r _ ((HX.out.keep HB9.out).more HB9.out.size) HOK.out HOR.out HSET.out (by omega)).mono ?_
        rintro e w10 ⟨y, hfy, rfl, hB⟩
        obtain rfl : y = x := hfy.trans HFX.out.symm
        clear hfy
        have hB := hB.alloc hB.size (.cells #[.string y.s, .int .i64 y.t, .int .i64 y.c, .int .i64 y.l, .string y.d] 24)
        have HB10 := Lib.hid (HB9.out.trans (hB.mono HB9.out.size))
        have HSa10 := Lib.hid ((HSa9.out.keep hB).more hB.size)
        have HSb10 := Lib.hid ((HSb9.out.keep hB).more hB.size)
        have HSc10 := Lib.hid ((HSc9.out.keep hB).more hB.size)
        have HSd10 := Lib.hid ((HSd.out.keep hB).more hB.size)
        have HXF10 := Lib.hid (HXF9.out.keep hB HXL9.out)
        have HYF := Lib.hid (box_five w10 y)
        have HXL10 := Lib.hid (Nat.lt_of_lt_of_le HXL9.out hB.size)
        have HYL := Lib.hid (show w10.heap.size < (w10.alloc (.cells #[.string y.s, .int .i64 y.t, .int .i64 y.c, .int .i64 y.l, .string y.d] 24)).heap.size by simp)
        have HAA := Lib.hid (show sameX (putX cmpX r xs) (putX cmpX r xs) = true from sameX_is.2 rfl)
        have HDD := Lib.hid (show sameX (dropX cmpX r xs) (dropX cmpX r xs) = true from sameX_is.2 rfl)
        clear hB p0 p1 p2 p3 p4
        have hln : (putX cmpX r xs).length ≤ 1073741824 := by
          have h1 := dropX_len (cmp := cmpX) r xs
          have h2 := drop_le (cmp := cmpX) r xs
          have := HLEN.out
          omega
        have hln2 : (dropX cmpX r xs).length ≤ 1073741824 := by
          have h2 := drop_le (cmp := cmpX) r xs
          have := HLEN.out
          omega
        have HLP := Lib.hid hln
        have HLD := Lib.hid hln2
        have hne := rr_eql y y
        have hgd := fun op a b => rr_guard op a b y y
        rw [eqX_is.2 rfl] at hne
        clear hln hln2
        cases ho : otherX r xs <;> cases hh : hitX cmpX r xs
        all_goals (
          have HOS := Lib.hid ((other_same r xs).trans (by rw [ho]))
          have HHO := Lib.hid ho
          have HHH := Lib.hid hh
          clear ho hh
          go_wp2_with fail
          refine (Same_any Aa Ac _ ca _ cc _ _ _ HSa10.out HSc10.out HLP.out).mono ?_
          rw [HAA.out]
          rintro e w11 ⟨rfl, hB⟩
          have HB11 := Lib.hid (HB10.out.trans (hB.mono HB10.out.size))
          have HSb11 := Lib.hid ((HSb10.out.keep hB).more hB.size)
          have HSc11 := Lib.hid ((HSc10.out.keep hB).more hB.size)
          have HSd11 := Lib.hid ((HSd10.out.keep hB).more hB.size)
          have HXF11 := Lib.hid (HXF10.out.keep hB HXL10.out)
          have HYF11 := Lib.hid (HYF.out.keep hB HYL.out)
          have HXL11 := Lib.hid (Nat.lt_of_lt_of_le HXL10.out hB.size)
          have HYL11 := Lib.hid (Nat.lt_of_lt_of_le HYL.out hB.size)
          clear hB
          go_wp2_with fail
          refine (Same_any A Ac n c _ cc _ _ _ ((HX.out.keep HB11.out).more HB11.out.size) HSc11.out (by omega)).mono ?_
          rw [HOS.out]
          rintro e w12 ⟨rfl, hB⟩
          have HB12 := Lib.hid (HB11.out.trans (hB.mono HB11.out.size))
          have HSb12 := Lib.hid ((HSb11.out.keep hB).more hB.size)
          have HSd12 := Lib.hid ((HSd11.out.keep hB).more hB.size)
          have HXF12 := Lib.hid (HXF11.out.keep hB HXL11.out)
          have HYF12 := Lib.hid (HYF11.out.keep hB HYL11.out)
          have HXL12 := Lib.hid (Nat.lt_of_lt_of_le HXL11.out hB.size)
          have HYL12 := Lib.hid (Nat.lt_of_lt_of_le HYL11.out hB.size)
          clear hB
          go_wp2_with fail
          refine (Same_any Ab Ad _ cb _ cd _ _ _ HSb12.out HSd12.out HLD.out).mono ?_
          rw [HDD.out]
          rintro e w13 ⟨rfl, hB⟩
          have HB13 := Lib.hid (HB12.out.trans (hB.mono HB12.out.size))
          obtain ⟨q0, q1, q2, q3, q4⟩ := HXF12.out.keep hB HXL12.out
          obtain ⟨r0, r1, r2, r3, r4⟩ := HYF12.out.keep hB HYL12.out
          clear hB
          go_wp2_with fail
          go_ret
          exact ⟨rfl, HB0.out.trans (HB13.out.mono HB0.out.size)⟩)
end Go.Proofs.Ytkgojdmjagicdaa
