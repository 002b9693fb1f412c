/- RrsetFinds. No statement of the seat is proved here. (written by gen_p.py) -/
import Derived.Test.YtkgojdmjagicdaaRrsO
namespace Go.Proofs.Ytkgojdmjagicdaa
open Go.RowKit Go.Op

set_option maxHeartbeats 16000000 in
set_option maxRecDepth 20000 in
theorem RrsetFinds_walk (A : Option Addr) (n c : Nat) (xs : List Rrd) (r : Rrd) (w : World) (hx : SeesR w w.heap.size A n xs) (hcap : InCap A n c) (h63 : n ≤ 9223372036854775807) :
    Calls Try.prog 4 #[.slice A n c, .agg #[.string r.s, .int .i64 r.t, .int .i64 r.c, .int .i64 r.l, .string r.d]] w fun e w' => e = .returned (.bool true) ∧ Below w.heap.size w w' := by
  obtain ⟨W, hW⟩ : ∃ W, W = w.alloc (.cells #[.string r.s, .int .i64 r.t, .int .i64 r.c, .int .i64 r.l, .string r.d] 24) := ⟨_, rfl⟩
  obtain ⟨g, hg⟩ : ∃ g, g = w.heap.size := ⟨_, rfl⟩
  have HB0 := Lib.hid (show Below w.heap.size w W by rw [hW]; exact (Below.refl _ _).alloc (Nat.le_refl _) _)
  have HBX := Lib.hid (show Five W g 0 r by rw [hW, hg]; exact box_five w r)
  have HGL := Lib.hid (show g < W.heap.size by rw [hW, hg]; simp)
  have HX := Lib.hid ((hx.keep HB0.out).more HB0.out.size)
  have HCAP := Lib.hid hcap
  have HLEN := Lib.hid hx.1
  have HW := Lib.hid hW
  have HG := Lib.hid hg
  clear hW hg hx hcap
  cases hr1 : rightsX xs with
  | false =>
    have HR1 := Lib.hid hr1
    clear hr1
    go_enter Try.func4, Try.ntmps4
    go_wp2_with fail
    rw [← HW.out, ← HG.out]
    refine (awake_any _).mono ?_
    rintro e w1 ⟨rfl, hB⟩
    have HB1 := Lib.hid hB
    have HX1 := Lib.hid ((HX.out.keep HB1.out).more HB1.out.size)
    clear hB
    go_wp2_with fail
    refine (Rights_any A n c xs _ HX1.out h63).mono ?_
    rw [HR1.out]
    rintro e w2 ⟨rfl, hB⟩
    have HB2 := Lib.hid (HB1.out.trans (hB.mono HB1.out.size))
    clear hB
    go_wp2_with fail
    refine (awake_any _).mono ?_
    rintro e w3 ⟨rfl, hB⟩
    have HB3 := Lib.hid (HB2.out.trans (hB.mono HB2.out.size))
    clear hB
    go_wp2_with fail
    go_ret
    exact ⟨rfl, HB0.out.trans (HB3.out.mono HB0.out.size)⟩
  | true =>
    obtain ⟨hok, h30⟩ := rightsX_is hr1
    have hn30 : n ≤ 30 := by have := HLEN.out; omega
    have HOK := Lib.hid hok
    have HR1 := Lib.hid hr1
    clear hr1 hok h30
    cases hr2 : setX xs with
    | false =>
      have HR2 := Lib.hid hr2
      clear hr2
      go_enter Try.func4, Try.ntmps4
      go_wp2_with fail
      rw [← HW.out, ← HG.out]
      refine (awake_any _).mono ?_
      rintro e w1 ⟨rfl, hB⟩
      have HB1 := Lib.hid hB
      have HX1 := Lib.hid ((HX.out.keep HB1.out).more HB1.out.size)
      clear hB
      go_wp2_with fail
      refine (Rights_any A n c xs _ HX1.out h63).mono ?_
      rw [HR1.out]
      rintro e w2 ⟨rfl, hB⟩
      have HB2 := Lib.hid (HB1.out.trans (hB.mono HB1.out.size))
      have HX2 := Lib.hid ((HX.out.keep HB2.out).more HB2.out.size)
      clear hB
      go_wp2_with fail
      refine (RefIs_any A n c xs _ HX2.out HOK.out (by omega)).mono ?_
      rw [HR2.out]
      rintro e w3 ⟨rfl, hB⟩
      have HB3 := Lib.hid (HB2.out.trans (hB.mono HB2.out.size))
      clear hB
      go_wp2_with fail
      refine (awake_any _).mono ?_
      rintro e w4 ⟨rfl, hB⟩
      have HB4 := Lib.hid (HB3.out.trans (hB.mono HB3.out.size))
      clear hB
      go_wp2_with fail
      go_ret
      exact ⟨rfl, HB0.out.trans (HB4.out.mono HB0.out.size)⟩
    | true =>
      have HSET := Lib.hid ((setX_is HOK.out).1 hr2)
      have HR2 := Lib.hid hr2
      clear hr2
      cases hr3 : okX r with
      | false =>
        have HR3 := Lib.hid ((rights_one r).trans hr3)
        clear hr3
        go_enter Try.func4, Try.ntmps4
        go_wp2_with fail
        rw [← HW.out, ← HG.out]
        refine (awake_any _).mono ?_
        rintro e w1 ⟨rfl, hB⟩
        have HB1 := Lib.hid hB
        have HX1 := Lib.hid ((HX.out.keep HB1.out).more HB1.out.size)
        clear hB
        go_wp2_with fail
        refine (Rights_any A n c xs _ HX1.out h63).mono ?_
        rw [HR1.out]
        rintro e w2 ⟨rfl, hB⟩
        have HB2 := Lib.hid (HB1.out.trans (hB.mono HB1.out.size))
        have HX2 := Lib.hid ((HX.out.keep HB2.out).more HB2.out.size)
        clear hB
        go_wp2_with fail
        refine (RefIs_any A n c xs _ HX2.out HOK.out (by omega)).mono ?_
        rw [HR2.out]
        rintro e w3 ⟨rfl, hB⟩
        have HB3 := Lib.hid (HB2.out.trans (hB.mono HB2.out.size))
        obtain ⟨p0, p1, p2, p3, p4⟩ := HBX.out.keep HB3.out HGL.out
        have HBA := Lib.hid (show Below W.heap.size W (w3.alloc (.cells #[.string r.s, .int .i64 r.t, .int .i64 r.c, .int .i64 r.l, .string r.d] 24)) from HB3.out.alloc HB3.out.size _)
        have HX3 := Lib.hid (show SeesR (w3.alloc (.cells #[.string r.s, .int .i64 r.t, .int .i64 r.c, .int .i64 r.l, .string r.d] 24)) (w3.alloc (.cells #[.string r.s, .int .i64 r.t, .int .i64 r.c, .int .i64 r.l, .string r.d] 24)).heap.size (some ⟨w3.heap.size, 0, none⟩) 1 [r] by rw [World.size_alloc]; exact SeesR.one w3 r)
        clear hB
        go_wp2_with fail
        refine (Rights_any _ 1 1 [r] _ HX3.out (by omega)).mono ?_
        rw [HR3.out]
        rintro e w4 ⟨rfl, hB⟩
        have HB4 := Lib.hid (HBA.out.trans (hB.mono HBA.out.size))
        clear hB p0 p1 p2 p3 p4
        go_wp2_with fail
        refine (awake_any _).mono ?_
        rintro e w5 ⟨rfl, hB⟩
        have HB5 := Lib.hid (HB4.out.trans (hB.mono HB4.out.size))
        clear hB
        go_wp2_with fail
        go_ret
        exact ⟨rfl, HB0.out.trans (HB5.out.mono HB0.out.size)⟩
      | true =>
        have HOR := Lib.hid (okX_is.1 hr3)
        have HR3 := Lib.hid ((rights_one r).trans hr3)
        clear hr3
        go_enter Try.func4, Try.ntmps4
        go_wp2_with fail
        rw [← HW.out, ← HG.out]
        refine (awake_any _).mono ?_
        rintro e w1 ⟨rfl, hB⟩
        have HB1 := Lib.hid hB
        have HX1 := Lib.hid ((HX.out.keep HB1.out).more HB1.out.size)
        clear hB
        go_wp2_with fail
        refine (Rights_any A n c xs _ HX1.out h63).mono ?_
        rw [HR1.out]
        rintro e w2 ⟨rfl, hB⟩
        have HB2 := Lib.hid (HB1.out.trans (hB.mono HB1.out.size))
        have HX2 := Lib.hid ((HX.out.keep HB2.out).more HB2.out.size)
        clear hB
        go_wp2_with fail
        refine (RefIs_any A n c xs _ HX2.out HOK.out (by omega)).mono ?_
        rw [HR2.out]
        rintro e w3 ⟨rfl, hB⟩
        have HB3 := Lib.hid (HB2.out.trans (hB.mono HB2.out.size))
        obtain ⟨p0, p1, p2, p3, p4⟩ := HBX.out.keep HB3.out HGL.out
        have HBA := Lib.hid (show Below W.heap.size W (w3.alloc (.cells #[.string r.s, .int .i64 r.t, .int .i64 r.c, .int .i64 r.l, .string r.d] 24)) from HB3.out.alloc HB3.out.size _)
        have HX3 := Lib.hid (show SeesR (w3.alloc (.cells #[.string r.s, .int .i64 r.t, .int .i64 r.c, .int .i64 r.l, .string r.d] 24)) (w3.alloc (.cells #[.string r.s, .int .i64 r.t, .int .i64 r.c, .int .i64 r.l, .string r.d] 24)).heap.size (some ⟨w3.heap.size, 0, none⟩) 1 [r] by rw [World.size_alloc]; exact SeesR.one w3 r)
        clear hB
        go_wp2_with fail
        refine (Rights_any _ 1 1 [r] _ HX3.out (by omega)).mono ?_
        rw [HR3.out]
        rintro e w4 ⟨rfl, hB⟩
        have HB4 := Lib.hid (HBA.out.trans (hB.mono HBA.out.size))
        clear hB p0 p1 p2 p3 p4
        obtain ⟨P, hP⟩ : ∃ P, P = putX cmpX r xs := ⟨_, rfl⟩
        obtain ⟨D, hD⟩ : ∃ D, D = dropX cmpX r xs := ⟨_, rfl⟩
        have hfp := findX_put ordX r xs
        have hdp := dropX_put ordX r xs
        have hda := dropX_again ordX HOR.out xs HOK.out HSET.out
        have hps := putX_set ordX HOR.out xs HOK.out HSET.out
        have hds := dropX_set (cmp := cmpX) r xs HSET.out
        have hpo : OkL (putX cmpX r xs) := fun y hy => by
          rcases putX_mem r xs y hy with rfl | h
          · exact HOR.out
          · exact HOK.out y h
        have hdo : OkL (dropX cmpX r xs) := fun y hy => HOK.out y (dropX_mem r xs y hy)
        have hln := dropX_len (cmp := cmpX) r xs
        have hdl := drop_le (cmp := cmpX) r xs
        have hll := HLEN.out
        rw [← hP] at hfp hdp hps hpo hln
        rw [← hD] at hdp hda hds hdo hln hdl
        have HP := Lib.hid hP
        have HD := Lib.hid hD
        have HFP := Lib.hid hfp
        have HDP := Lib.hid hdp
        have HDA := Lib.hid hda
        have HPS := Lib.hid hps
        have HDS := Lib.hid hds
        have HPO := Lib.hid hpo
        have HDO := Lib.hid hdo
        have hlP : P.length ≤ 1000 := by omega
        have hlD : D.length ≤ 999 := by omega
        have HLP := Lib.hid (show P.length ≤ 1000000 by omega)
        have HLD := Lib.hid (show D.length ≤ 1000000 by omega)
        have HLP2 := Lib.hid (show P.length ≤ 1073741824 by omega)
        have HLD2 := Lib.hid (show D.length ≤ 1073741824 by omega)
        have hpd : ((P.length : Int) == ((D.length : Int) + 1)) = true := by rw [beq_iff_eq]; omega
        have HOT := Lib.hid (show otherX r P = false by unfold otherX; rw [hfp.1]; simp [eqX_is.2 rfl])
        have HIP := Lib.hid (show setX P = true from (setX_is hpo).2 hps)
        have HID := Lib.hid (show setX D = true from (setX_is hdo).2 hds)
        have HAA := Lib.hid (show sameX P P = true from sameX_is.2 rfl)
        have HDD := Lib.hid (show sameX D D = true from sameX_is.2 rfl)
        clear hP hD hfp hdp hda hps hds hpo hdo hln hdl hll
        obtain ⟨p0, p1, p2, p3, p4⟩ := HBX.out.keep HB4.out HGL.out
        go_wp2_with fail
        refine (Put_any A n c xs r _ ((HX.out.keep HB4.out).more HB4.out.size) HCAP.out HOK.out HOR.out HSET.out (by omega)).mono ?_
        rw [← HP.out]
        rintro e w5 ⟨va, rfl, ho, hB⟩
        have HB5 := Lib.hid (HB4.out.trans (hB.mono HB4.out.size))
        obtain ⟨Aa, ca, rfl, hsa, hca⟩ := own_sees ho
        have HSa := Lib.hid hsa
        have HCa := Lib.hid hca
        clear ho hsa hca
        clear hB p0 p1 p2 p3 p4
        obtain ⟨p0, p1, p2, p3, p4⟩ := HBX.out.keep HB5.out HGL.out
        go_wp2_with fail
        refine (Find_any Aa _ ca P r _ HSa.out HPO.out HOR.out HPS.out HLP.out).mono ?_
        rw [HFP.out.2.1]
        rintro e w6 ⟨x, hfx, rfl, hB⟩
        have hB := hB.alloc hB.size (.cells #[.string x.s, .int .i64 x.t, .int .i64 x.c, .int .i64 x.l, .string x.d] 24)
        have HB6 := Lib.hid (HB5.out.trans (hB.mono HB5.out.size))
        have HSa6 := Lib.hid ((HSa.out.keep hB).more hB.size)
        have hxr : x = r := by rw [hfx, HFP.out.1]; rfl
        have HXF := Lib.hid (box_five w6 x)
        rw [hxr] at HXF
        have HXR := Lib.hid hxr
        clear hxr hfx
        clear hB p0 p1 p2 p3 p4
        obtain ⟨p0, p1, p2, p3, p4⟩ := HBX.out.keep HB6.out HGL.out
        go_wp2_with fail
        refine (Put_any Aa _ ca P r _ HSa6.out HCa.out HPO.out HOR.out HPS.out HLP.out).mono ?_
        rw [HFP.out.2.2, HOT.out]
        rintro e w7 ⟨vb, rfl, ho, hB⟩
        have HB7 := Lib.hid (HB6.out.trans (hB.mono HB6.out.size))
        have HSa7 := Lib.hid ((HSa6.out.keep hB).more hB.size)
        have HXF7 := Lib.hid (HXF.out.keep (by rw [← HXR.out]; exact hB) (by simp))
        have HXL7 := Lib.hid (show w6.heap.size < w7.heap.size by have := hB.size; simp at this; omega)
        obtain ⟨Ab, cb, rfl, hsb, hcb⟩ := own_sees ho
        have HSb := Lib.hid hsb
        have HCb := Lib.hid hcb
        clear ho hsb hcb
        clear hB p0 p1 p2 p3 p4
        obtain ⟨p0, p1, p2, p3, p4⟩ := HBX.out.keep HB7.out HGL.out
        go_wp2_with fail
        refine (Drop_any Aa _ ca P r _ HSa7.out HCa.out HPO.out HOR.out HPS.out HLP.out).mono ?_
        rw [HFP.out.2.1, HDP.out]
        rintro e w8 ⟨vc, rfl, ho, hB⟩
        have HB8 := Lib.hid (HB7.out.trans (hB.mono HB7.out.size))
        have HSa8 := Lib.hid ((HSa7.out.keep hB).more hB.size)
        have HSb8 := Lib.hid ((HSb.out.keep hB).more hB.size)
        have HXF8 := Lib.hid (HXF7.out.keep hB HXL7.out)
        have HXL8 := Lib.hid (Nat.lt_of_lt_of_le HXL7.out hB.size)
        obtain ⟨Ac, cc, rfl, hsc, hcc⟩ := own_sees ho
        have HSc := Lib.hid hsc
        have HCc := Lib.hid hcc
        clear ho hsc hcc
        clear hB p0 p1 p2 p3 p4
        obtain ⟨p0, p1, p2, p3, p4⟩ := HBX.out.keep HB8.out HGL.out
        go_wp2_with fail
        refine (Find_any Ac _ cc D r _ HSc.out HDO.out HOR.out HDS.out HLD.out).mono ?_
        rw [HDA.out.1]
        rintro e w9 ⟨y, hfx, rfl, hB⟩
        have hB := hB.alloc hB.size (.cells #[.string y.s, .int .i64 y.t, .int .i64 y.c, .int .i64 y.l, .string y.d] 24)
        have HB9 := Lib.hid (HB8.out.trans (hB.mono HB8.out.size))
        have HSa9 := Lib.hid ((HSa8.out.keep hB).more hB.size)
        have HSb9 := Lib.hid ((HSb8.out.keep hB).more hB.size)
        have HSc9 := Lib.hid ((HSc.out.keep hB).more hB.size)
        have HXF9 := Lib.hid (HXF8.out.keep hB HXL8.out)
        have HXL9 := Lib.hid (Nat.lt_of_lt_of_le HXL8.out hB.size)
        clear hfx
        clear hB p0 p1 p2 p3 p4
        obtain ⟨p0, p1, p2, p3, p4⟩ := HBX.out.keep HB9.out HGL.out
        go_wp2_with fail
        refine (Drop_any Ac _ cc D r _ HSc9.out HCc.out HDO.out HOR.out HDS.out HLD.out).mono ?_
        rw [HDA.out.1, HDA.out.2]
        rintro e w10 ⟨vd, rfl, ho, hB⟩
        have HB10 := Lib.hid (HB9.out.trans (hB.mono HB9.out.size))
        have HSa10 := Lib.hid ((HSa9.out.keep hB).more hB.size)
        have HSb10 := Lib.hid ((HSb9.out.keep hB).more hB.size)
        have HSc10 := Lib.hid ((HSc9.out.keep hB).more hB.size)
        have HXF10 := Lib.hid (HXF9.out.keep hB HXL9.out)
        have HXL10 := Lib.hid (Nat.lt_of_lt_of_le HXL9.out hB.size)
        obtain ⟨Ad, cd, rfl, hsd, hcd⟩ := own_sees ho
        have HSd := Lib.hid hsd
        have HCd := Lib.hid hcd
        clear ho hsd hcd
        clear hB p0 p1 p2 p3 p4
        obtain ⟨p0, p1, p2, p3, p4⟩ := HBX.out.keep HB10.out HGL.out
        go_wp2_with fail
        refine (Is_any Aa _ ca P _ HSa10.out HPO.out HLP2.out).mono ?_
        rw [HIP.out]
        rintro e w11 ⟨rfl, hB⟩
        have HB11 := Lib.hid (HB10.out.trans (hB.mono HB10.out.size))
        have HSa11 := Lib.hid ((HSa10.out.keep hB).more hB.size)
        have HSb11 := Lib.hid ((HSb10.out.keep hB).more hB.size)
        have HSc11 := Lib.hid ((HSc10.out.keep hB).more hB.size)
        have HSd11 := Lib.hid ((HSd.out.keep hB).more hB.size)
        have HXF11 := Lib.hid (HXF10.out.keep hB HXL10.out)
        have HXL11 := Lib.hid (Nat.lt_of_lt_of_le HXL10.out hB.size)
        clear hB p0 p1 p2 p3 p4
        go_wp2_with fail
        refine (Is_any Ac _ cc D _ HSc11.out HDO.out HLD2.out).mono ?_
        rw [HID.out]
        rintro e w12 ⟨rfl, hB⟩
        have HB12 := Lib.hid (HB11.out.trans (hB.mono HB11.out.size))
        have HSa12 := Lib.hid ((HSa11.out.keep hB).more hB.size)
        have HSb12 := Lib.hid ((HSb11.out.keep hB).more hB.size)
        have HSc12 := Lib.hid ((HSc11.out.keep hB).more hB.size)
        have HSd12 := Lib.hid ((HSd11.out.keep hB).more hB.size)
        have HXF12 := Lib.hid (HXF11.out.keep hB HXL11.out)
        have hne := rr_eql r r
        have hgd := fun op a b => rr_guard op a b r r
        rw [eqX_is.2 rfl] at hne
        clear hB
        obtain ⟨p0, p1, p2, p3, p4⟩ := HBX.out.keep HB12.out HGL.out
        obtain ⟨q0, q1, q2, q3, q4⟩ := HXF12.out
        go_wp2_with fail
        refine (Same_any Aa Ab _ ca _ cb _ _ _ HSa12.out HSb12.out HLP2.out).mono ?_
        rw [HAA.out]
        rintro e w13 ⟨rfl, hB⟩
        have HB13 := Lib.hid (HB12.out.trans (hB.mono HB12.out.size))
        have HSc13 := Lib.hid ((HSc12.out.keep hB).more hB.size)
        have HSd13 := Lib.hid ((HSd12.out.keep hB).more hB.size)
        clear hB p0 p1 p2 p3 p4 q0 q1 q2 q3 q4
        go_wp2_with fail
        refine (Same_any Ac Ad _ cc _ cd _ _ _ HSc13.out HSd13.out HLD2.out).mono ?_
        rw [HDD.out]
        rintro e w14 ⟨rfl, hB⟩
        have HB14 := Lib.hid (HB13.out.trans (hB.mono HB13.out.size))
        clear hB
        go_wp2_with fail
        go_ret
        exact ⟨rfl, HB0.out.trans (HB14.out.mono HB0.out.size)⟩
end Go.Proofs.Ytkgojdmjagicdaa
