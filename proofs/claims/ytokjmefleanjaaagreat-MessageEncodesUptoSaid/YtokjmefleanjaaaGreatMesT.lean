/- The reference's Formed. No statement of the seat is proved here. -/
import Derived.Test.YtokjmefleanjaaaGreatMesF
import Derived.Test.YtokjmefleanjaaaGreatReE
namespace Go.Proofs.YtokjmefleanjaaaGreat
open Go.RowKit Go.Op

theorem refIn_any (n top : Int) (w : World) : Calls Tryz.prog 23 #[.int .i64 n, .int .i64 top] w fun e w' => e = .returned (.bool (inB n top)) ∧ w = w' := by
  by_cases h1 : 0 ≤ n
  · by_cases h2 : n ≤ top
    · have HE := Lib.hid (show inB n top = true by unfold inB; simp [h1, h2])
      go_enter Tryz.func23, Tryz.ntmps23
      go_wp2_with fail
      go_ret
      exact ⟨by rw [HE.out]; rfl, rfl⟩
    · have HE := Lib.hid (show inB n top = false by unfold inB; simp [h2])
      have g2 : decide (n ≤ top) = false := by rw [decide_eq_false_iff_not]; omega
      clear h2
      go_enter Tryz.func23, Tryz.ntmps23
      go_wp2_with fail
      go_ret
      exact ⟨by rw [HE.out]; rfl, rfl⟩
  · have HE := Lib.hid (show inB n top = false by unfold inB; simp [h1])
    have g2 : decide (0 ≤ n) = false := by rw [decide_eq_false_iff_not]; omega
    clear h1
    go_enter Tryz.func23, Tryz.ntmps23
    go_wp2_with fail
    go_ret
    exact ⟨by rw [HE.out]; rfl, rfl⟩

set_option maxHeartbeats 2000000 in
set_option maxRecDepth 20000 in
theorem rights_any (A : Option Addr) (n c : Nat) (xs : List Rrd) (w : World) (hx : SeesR w w.heap.size A n xs) (hs : SmallR xs) (h65 : n ≤ 65535) :
    Calls Tryz.prog 24 #[.slice A n c] w fun e w' => e = .returned (.bool (okSec okR (xs.map Rrd.toRec))) ∧ Below w.heap.size w w' := by
  have hok := okSec_map (g := Rrd.toRec) (f := okR) (xs := xs)
  have hn := hx.1
  have hok : okSec okR (xs.map Rrd.toRec) = xs.all fun x => okR x.toRec := by rw [hok, hn, decide_eq_true h65]; rfl
  have HOK := Lib.hid hok
  have HX := Lib.hid hx
  have HS := Lib.hid hs
  have HN := Lib.hid hn
  have g1 : decide ((n : Int) ≤ 65535) = true := by rw [decide_eq_true_iff]; omega
  have HB := Lib.hid (Below.refl w.heap.size w)
  clear hok hn hx hs
  go_enter Tryz.func24, Tryz.ntmps24
  go_wp2_with fail
  go_loopw [3] (fun i wr => ∃ k : Nat, k ≤ n ∧ i = .int .i64 (k : Nat) ∧ Upto (fun x => okR x.toRec) xs k ∧ Below w.heap.size w wr) (fun i _ => n - (intOf i).toNat)
  case atStart => exact ⟨0, Nat.zero_le _, rfl, Upto.zero _ _, HB.out⟩
  case round =>
    obtain ⟨k, hk, rfl, hup, hB⟩ := hrel
    have HU := Lib.hid hup
    have HB1 := Lib.hid hB
    clear hup hB
    by_cases hkn : k < n
    · have g2 : (k : Int) < (n : Int) := by omega
      obtain ⟨b, off, x, rfl, hb, hxk, ht⟩ := (HX.out.keep HB1.out).at hkn
      obtain ⟨x0, x1, x2, x3, x4⟩ := ht
      have HXK := Lib.hid hxk
      clear hxk
      cases hr : okR x.toRec with
      | true =>
        have HR := Lib.hid hr
        clear hr
        go_wp2_with fail
        refine (RefRRight_any x.s x.d x.toRec _ (rrd_name x) (rrd_data x) (HS.out x (List.mem_of_getElem? HXK.out)).2).mono ?_
        rw [HR.out]
        rintro e w1 ⟨rfl, hB2⟩
        have HB2 := Lib.hid (HB1.out.trans (hB2.mono HB1.out.size))
        have HU2 := Lib.hid (HU.out.succ HXK.out HR.out)
        clear hB2 x0 x1 x2 x3 x4
        go_wp2_with fail
        go_roundw
        case rel => exact ⟨k + 1, by omega, by go_num, HU2.out, HB2.out⟩
        case measure => simp [intOf]; omega
      | false =>
        have HR := Lib.hid hr
        clear hr
        go_wp2_with fail
        refine (RefRRight_any x.s x.d x.toRec _ (rrd_name x) (rrd_data x) (HS.out x (List.mem_of_getElem? HXK.out)).2).mono ?_
        rw [HR.out]
        rintro e w1 ⟨rfl, hB2⟩
        have HB2 := Lib.hid (HB1.out.trans (hB2.mono HB1.out.size))
        clear hB2 x0 x1 x2 x3 x4
        go_wp2_with fail
        go_ret
        exact ⟨by rw [HOK.out, not_all HXK.out HR.out]; rfl, HB2.out⟩
    · obtain rfl : k = n := by omega
      have hu := HU.out
      rw [← HN.out] at hu
      have HO := Lib.hid (show okSec okR (xs.map Rrd.toRec) = true by rw [HOK.out, hu.all])
      clear hu
      go_wp2_with fail
      go_ret
      exact ⟨by rw [HO.out]; rfl, HB1.out⟩

set_option maxHeartbeats 8000000 in
set_option maxRecDepth 20000 in
theorem RefFormed_any (h : Hd) (x : Mrd) (w : World) (hx : SeesM w w.heap.size x) (hs : SmallR x.la ∧ SmallR x.ln ∧ SmallR x.ld) (hqn : x.qn ≤ 65535) (han : x.an ≤ 65535) (hnn : x.nn ≤ 65535) (hdn : x.dn ≤ 65535) :
    Calls Tryz.prog 8 #[.agg (msV h x)] w fun e w' => e = .returned (.bool (okM (x.toMes h))) ∧ Below w.heap.size w w' := by
  obtain ⟨W, hW⟩ : ∃ W, W = w.alloc (.cells (msV h x) msT) := ⟨_, rfl⟩
  obtain ⟨g, hg⟩ : ∃ g, g = w.heap.size := ⟨_, rfl⟩
  have HB0 := Lib.hid (show Below w.heap.size w W by rw [hW]; exact (Below.refl _ _).alloc (Nat.le_refl _) _)
  have HW0 := Lib.hid (show Whole W g msT (msV h x) by rw [hW, hg]; exact Whole.new w msT (msV h x))
  have HX := Lib.hid ((hx.keep HB0.out).more HB0.out.size)
  have HS := Lib.hid hs
  have HQN := Lib.hid hx.q.1
  have HWW := Lib.hid hW
  have HG := Lib.hid hg
  obtain ⟨m, hm⟩ : ∃ m, m = x.toMes h := ⟨_, rfl⟩
  have HM := Lib.hid hm
  have HOKM := Lib.hid (show okM m = (okH h && (okSec okR m.an && (okSec okR m.ns && (okSec okR m.ad && okSec okQ m.q)))) by rw [hm]; rfl)
  have HOKH := Lib.hid (show okH h = (inB h.id 65535 && inB h.op 15 && inB h.z 7 && inB h.rc 15) from rfl)
  have HOKQ := Lib.hid (show okSec okQ m.q = x.lq.all (fun y => okQ y.toQue) by
    rw [hm]
    show okSec okQ (x.lq.map Qrd.toQue) = _
    rw [okSec_map, hx.q.1, decide_eq_true hqn]; rfl)
  have HMV := Lib.hid (show msV h x = #[.int .i64 h.id, .bool h.qr, .int .i64 h.op, .bool h.aa, .bool h.tc, .bool h.rd, .bool h.ra, .int .i64 h.z, .int .i64 h.rc, .slice x.qA x.qn x.qc, .slice x.aA x.an x.ac, .slice x.nA x.nn x.nc, .slice x.dA x.dn x.dc] from rfl)
  rw [← hm]
  clear hW hg hx hs hm
  rw [HMV.out]
  go_enter Tryz.func8, Tryz.ntmps8
  go_wp2_with fail
  rw [← HMV.out, ← HWW.out, ← HG.out]
  go_loopw [3] (fun i wr => ∃ k : Nat, k ≤ x.qn ∧ i = .int .i64 (k : Nat) ∧ Upto (fun y => okQ y.toQue) x.lq k ∧ Below W.heap.size W wr) (fun i _ => x.qn - (intOf i).toNat)
  case atStart => exact ⟨0, Nat.zero_le _, rfl, Upto.zero _ _, Below.refl _ _⟩
  case round =>
    obtain ⟨k, hk, rfl, hup, hB⟩ := hrel
    have HU := Lib.hid hup
    have HBR := Lib.hid (HB0.out.trans (hB.mono HB0.out.size))
    have HB1 := Lib.hid hB
    have HWR := Lib.hid (HW0.out.below hB HW0.out.lt)
    have HXR := Lib.hid ((HX.out.keep hB).more hB.size)
    clear hup hB
    obtain ⟨c0, _, c2, _, _, _, _, c7, c8, c9, c10, c11, c12⟩ := ms_facts HWR.out
    by_cases hkn : k < x.qn
    · have g2 : (k : Int) < (x.qn : Int) := by omega
      obtain ⟨b, off, y, hA, hb, hyk, ht⟩ := HXR.out.q.at hkn
      obtain ⟨y0, y1, y2⟩ := ht
      have HYK := Lib.hid hyk
      have HQ1 := Lib.hid (show okQ y.toQue = ((nameL y.toQue.n).isSome && inB y.t 65535 && inB y.c 65535) from rfl)
      rw [hA] at c9
      clear hyk c0 c2 c7 c8 c10 c11 c12
      cases h1 : (nameL y.toQue.n).isSome with
      | false =>
        have H1 := Lib.hid h1
        have HNO := Lib.hid (show okM m = false by
          rw [HOKM.out, HOKQ.out, not_all (f := fun y => okQ y.toQue) HYK.out (by rw [HQ1.out, h1]; rfl)]
          simp)
        clear h1
        go_wp2_with fail
        refine (RefRight_any y.s y.toQue.n _ (qrd_name y)).mono ?_
        rw [H1.out]
        rintro e w1 ⟨rfl, hB⟩
        go_wp2_with fail
        go_ret
        exact ⟨by rw [HNO.out]; rfl, HBR.out.trans (hB.mono HBR.out.size)⟩
      | true =>
        have H1 := Lib.hid h1
        cases h2 : inB y.t 65535 with
        | false =>
          have H2 := Lib.hid h2
          have HNO := Lib.hid (show okM m = false by
            rw [HOKM.out, HOKQ.out, not_all (f := fun y => okQ y.toQue) HYK.out (by rw [HQ1.out, h1, h2]; rfl)]
            simp)
          clear h1 h2
          go_wp2_with fail
          refine (RefRight_any y.s y.toQue.n _ (qrd_name y)).mono ?_
          rw [H1.out]
          rintro e w1 ⟨rfl, hB⟩
          have y1' := (hB.cell (p := ⟨b, off + k * 3 + 1, none⟩) hb).trans y1
          have c9' := (hB.cell (p := ⟨g, 9, none⟩) HWR.out.lt).trans c9
          have HB2 := Lib.hid (HBR.out.trans (hB.mono HBR.out.size))
          clear hB
          go_wp2_with fail
          refine (refIn_any y.t 65535 _).mono ?_
          rw [H2.out]
          rintro e w2 ⟨rfl, rfl⟩
          go_wp2_with fail
          go_ret
          exact ⟨by rw [HNO.out]; rfl, HB2.out⟩
        | true =>
          have H2 := Lib.hid h2
          cases h3 : inB y.c 65535 with
          | false =>
            have H3 := Lib.hid h3
            have HNO := Lib.hid (show okM m = false by
              rw [HOKM.out, HOKQ.out, not_all (f := fun y => okQ y.toQue) HYK.out (by rw [HQ1.out, h1, h2, h3]; rfl)]
              simp)
            clear h1 h2 h3
            go_wp2_with fail
            refine (RefRight_any y.s y.toQue.n _ (qrd_name y)).mono ?_
            rw [H1.out]
            rintro e w1 ⟨rfl, hB⟩
            have y1' := (hB.cell (p := ⟨b, off + k * 3 + 1, none⟩) hb).trans y1
            have y2' := (hB.cell (p := ⟨b, off + k * 3 + 2, none⟩) hb).trans y2
            have c9' := (hB.cell (p := ⟨g, 9, none⟩) HWR.out.lt).trans c9
            have HB2 := Lib.hid (HBR.out.trans (hB.mono HBR.out.size))
            clear hB
            go_wp2_with fail
            refine (refIn_any y.t 65535 _).mono ?_
            rw [H2.out]
            rintro e w2 ⟨rfl, rfl⟩
            go_wp2_with fail
            refine (refIn_any y.c 65535 _).mono ?_
            rw [H3.out]
            rintro e w2 ⟨rfl, rfl⟩
            go_wp2_with fail
            go_ret
            exact ⟨by rw [HNO.out]; rfl, HB2.out⟩
          | true =>
            have H3 := Lib.hid h3
            have HU2 := Lib.hid (HU.out.succ HYK.out (show okQ y.toQue = true by rw [HQ1.out, h1, h2, h3]; rfl))
            clear h1 h2 h3
            go_wp2_with fail
            refine (RefRight_any y.s y.toQue.n _ (qrd_name y)).mono ?_
            rw [H1.out]
            rintro e w1 ⟨rfl, hB⟩
            have y1' := (hB.cell (p := ⟨b, off + k * 3 + 1, none⟩) hb).trans y1
            have y2' := (hB.cell (p := ⟨b, off + k * 3 + 2, none⟩) hb).trans y2
            have c9' := (hB.cell (p := ⟨g, 9, none⟩) HWR.out.lt).trans c9
            have HB2 := Lib.hid (HB1.out.trans (hB.mono HB1.out.size))
            clear hB
            go_wp2_with fail
            refine (refIn_any y.t 65535 _).mono ?_
            rw [H2.out]
            rintro e w2 ⟨rfl, rfl⟩
            go_wp2_with fail
            refine (refIn_any y.c 65535 _).mono ?_
            rw [H3.out]
            rintro e w2 ⟨rfl, rfl⟩
            go_wp2_with fail
            go_roundw
            case rel => exact ⟨k + 1, by omega, by go_num, HU2.out, HB2.out⟩
            case measure => simp [intOf]; omega
    · obtain rfl : k = x.qn := by omega
      have hu := HU.out
      rw [← HQN.out] at hu
      have HQALL := Lib.hid (show okSec okQ m.q = true by rw [HOKQ.out, hu.all])
      have g65 : decide ((x.qn : Int) ≤ 65535) = true := by rw [decide_eq_true_iff]; omega
      clear hu
      cases h0 : inB h.id 65535 with
      | false =>
        have HNO := Lib.hid (show okM m = false by rw [HOKM.out, HOKH.out, h0]; simp)
        have H0 := Lib.hid h0
        clear h0
        go_wp2_with fail
        refine (refIn_any h.id 65535 _).mono ?_
        rw [H0.out]
        rintro e w1 ⟨rfl, rfl⟩
        go_wp2_with fail
        go_ret
        exact ⟨by rw [HNO.out]; rfl, HBR.out⟩
      | true =>
        have H0 := Lib.hid h0
        cases h1 : inB h.op 15 with
        | false =>
          have HNO := Lib.hid (show okM m = false by rw [HOKM.out, HOKH.out, h0, h1]; simp)
          have H1 := Lib.hid h1
          clear h1
          go_wp2_with fail
          refine (refIn_any h.id 65535 _).mono ?_
          rw [H0.out]
          rintro e w1 ⟨rfl, rfl⟩
          go_wp2_with fail
          refine (refIn_any h.op 15 _).mono ?_
          rw [H1.out]
          rintro e w1 ⟨rfl, rfl⟩
          go_wp2_with fail
          go_ret
          exact ⟨by rw [HNO.out]; rfl, HBR.out⟩
        | true =>
          have H1 := Lib.hid h1
          cases h2 : inB h.z 7 with
          | false =>
            have HNO := Lib.hid (show okM m = false by rw [HOKM.out, HOKH.out, h0, h1, h2]; simp)
            have H2 := Lib.hid h2
            clear h2
            go_wp2_with fail
            refine (refIn_any h.id 65535 _).mono ?_
            rw [H0.out]
            rintro e w1 ⟨rfl, rfl⟩
            go_wp2_with fail
            refine (refIn_any h.op 15 _).mono ?_
            rw [H1.out]
            rintro e w1 ⟨rfl, rfl⟩
            go_wp2_with fail
            refine (refIn_any h.z 7 _).mono ?_
            rw [H2.out]
            rintro e w1 ⟨rfl, rfl⟩
            go_wp2_with fail
            go_ret
            exact ⟨by rw [HNO.out]; rfl, HBR.out⟩
          | true =>
            have H2 := Lib.hid h2
            cases h3 : inB h.rc 15 with
            | false =>
              have HNO := Lib.hid (show okM m = false by rw [HOKM.out, HOKH.out, h0, h1, h2, h3]; simp)
              have H3 := Lib.hid h3
              clear h3
              go_wp2_with fail
              refine (refIn_any h.id 65535 _).mono ?_
              rw [H0.out]
              rintro e w1 ⟨rfl, rfl⟩
              go_wp2_with fail
              refine (refIn_any h.op 15 _).mono ?_
              rw [H1.out]
              rintro e w1 ⟨rfl, rfl⟩
              go_wp2_with fail
              refine (refIn_any h.z 7 _).mono ?_
              rw [H2.out]
              rintro e w1 ⟨rfl, rfl⟩
              go_wp2_with fail
              refine (refIn_any h.rc 15 _).mono ?_
              rw [H3.out]
              rintro e w1 ⟨rfl, rfl⟩
              go_wp2_with fail
              go_ret
              exact ⟨by rw [HNO.out]; rfl, HBR.out⟩
            | true =>
              have H3 := Lib.hid h3
              have HYES := Lib.hid (show okM m = (okSec okR m.an && (okSec okR m.ns && okSec okR m.ad)) by rw [HOKM.out, HOKH.out, h0, h1, h2, h3, HQALL.out]; simp)
              clear h0 h1 h2 h3
              cases r0 : okSec okR m.an with
              | false =>
                have HRES := Lib.hid (show okM m = false by rw [HYES.out, r0]; rfl)
                have R0 := Lib.hid r0
                have HX0 := Lib.hid HXR.out
                have HBX0 := Lib.hid HBR.out
                have HWX0 := Lib.hid HWR.out
                clear r0
                go_wp2_with fail
                refine (refIn_any h.id 65535 _).mono ?_
                rw [H0.out]
                rintro e w1 ⟨rfl, rfl⟩
                go_wp2_with fail
                refine (refIn_any h.op 15 _).mono ?_
                rw [H1.out]
                rintro e w1 ⟨rfl, rfl⟩
                go_wp2_with fail
                refine (refIn_any h.z 7 _).mono ?_
                rw [H2.out]
                rintro e w1 ⟨rfl, rfl⟩
                go_wp2_with fail
                refine (refIn_any h.rc 15 _).mono ?_
                rw [H3.out]
                rintro e w1 ⟨rfl, rfl⟩
                go_wp2_with fail
                refine (rights_any x.aA x.an x.ac x.la _ HX0.out.a HS.out.1 han).mono ?_
                rw [show okSec okR (x.la.map Rrd.toRec) = okSec okR m.an by rw [HM.out]; rfl, R0.out]
                rintro e w2 ⟨rfl, hB⟩
                have HXN0 := Lib.hid ((HX0.out.keep hB).more hB.size)
                have HBN0 := Lib.hid (HBX0.out.trans (hB.mono HBX0.out.size))
                have HWN0 := Lib.hid (HWX0.out.below hB HWX0.out.lt)
                clear hB
                go_wp2_with fail
                go_ret
                exact ⟨by rw [HRES.out]; rfl, HBN0.out⟩
              | true =>
                have R0 := Lib.hid r0
                cases r1 : okSec okR m.ns with
                | false =>
                  have HRES := Lib.hid (show okM m = false by rw [HYES.out, r0, r1]; rfl)
                  have R1 := Lib.hid r1
                  have HX0 := Lib.hid HXR.out
                  have HBX0 := Lib.hid HBR.out
                  have HWX0 := Lib.hid HWR.out
                  clear r1
                  go_wp2_with fail
                  refine (refIn_any h.id 65535 _).mono ?_
                  rw [H0.out]
                  rintro e w1 ⟨rfl, rfl⟩
                  go_wp2_with fail
                  refine (refIn_any h.op 15 _).mono ?_
                  rw [H1.out]
                  rintro e w1 ⟨rfl, rfl⟩
                  go_wp2_with fail
                  refine (refIn_any h.z 7 _).mono ?_
                  rw [H2.out]
                  rintro e w1 ⟨rfl, rfl⟩
                  go_wp2_with fail
                  refine (refIn_any h.rc 15 _).mono ?_
                  rw [H3.out]
                  rintro e w1 ⟨rfl, rfl⟩
                  go_wp2_with fail
                  refine (rights_any x.aA x.an x.ac x.la _ HX0.out.a HS.out.1 han).mono ?_
                  rw [show okSec okR (x.la.map Rrd.toRec) = okSec okR m.an by rw [HM.out]; rfl, R0.out]
                  rintro e w2 ⟨rfl, hB⟩
                  have HXN0 := Lib.hid ((HX0.out.keep hB).more hB.size)
                  have HBN0 := Lib.hid (HBX0.out.trans (hB.mono HBX0.out.size))
                  have HWN0 := Lib.hid (HWX0.out.below hB HWX0.out.lt)
                  clear hB
                  have HX1 := Lib.hid HXN0.out
                  have HBX1 := Lib.hid HBN0.out
                  have HWX1 := Lib.hid HWN0.out
                  clear c0 c2 c7 c8 c9 c10 c11 c12
                  obtain ⟨c0, _, c2, _, _, _, _, c7, c8, c9, c10, c11, c12⟩ := ms_facts HWX1.out
                  go_wp2_with fail
                  refine (rights_any x.nA x.nn x.nc x.ln _ HX1.out.n HS.out.2.1 hnn).mono ?_
                  rw [show okSec okR (x.ln.map Rrd.toRec) = okSec okR m.ns by rw [HM.out]; rfl, R1.out]
                  rintro e w2 ⟨rfl, hB⟩
                  have HXN1 := Lib.hid ((HX1.out.keep hB).more hB.size)
                  have HBN1 := Lib.hid (HBX1.out.trans (hB.mono HBX1.out.size))
                  have HWN1 := Lib.hid (HWX1.out.below hB HWX1.out.lt)
                  clear hB
                  go_wp2_with fail
                  go_ret
                  exact ⟨by rw [HRES.out]; rfl, HBN1.out⟩
                | true =>
                  have R1 := Lib.hid r1
                  cases r2 : okSec okR m.ad with
                  | false =>
                    have HRES := Lib.hid (show okM m = false by rw [HYES.out, r0, r1, r2]; rfl)
                    have R2 := Lib.hid r2
                    have HX0 := Lib.hid HXR.out
                    have HBX0 := Lib.hid HBR.out
                    have HWX0 := Lib.hid HWR.out
                    clear r2
                    go_wp2_with fail
                    refine (refIn_any h.id 65535 _).mono ?_
                    rw [H0.out]
                    rintro e w1 ⟨rfl, rfl⟩
                    go_wp2_with fail
                    refine (refIn_any h.op 15 _).mono ?_
                    rw [H1.out]
                    rintro e w1 ⟨rfl, rfl⟩
                    go_wp2_with fail
                    refine (refIn_any h.z 7 _).mono ?_
                    rw [H2.out]
                    rintro e w1 ⟨rfl, rfl⟩
                    go_wp2_with fail
                    refine (refIn_any h.rc 15 _).mono ?_
                    rw [H3.out]
                    rintro e w1 ⟨rfl, rfl⟩
                    go_wp2_with fail
                    refine (rights_any x.aA x.an x.ac x.la _ HX0.out.a HS.out.1 han).mono ?_
                    rw [show okSec okR (x.la.map Rrd.toRec) = okSec okR m.an by rw [HM.out]; rfl, R0.out]
                    rintro e w2 ⟨rfl, hB⟩
                    have HXN0 := Lib.hid ((HX0.out.keep hB).more hB.size)
                    have HBN0 := Lib.hid (HBX0.out.trans (hB.mono HBX0.out.size))
                    have HWN0 := Lib.hid (HWX0.out.below hB HWX0.out.lt)
                    clear hB
                    have HX1 := Lib.hid HXN0.out
                    have HBX1 := Lib.hid HBN0.out
                    have HWX1 := Lib.hid HWN0.out
                    clear c0 c2 c7 c8 c9 c10 c11 c12
                    obtain ⟨c0, _, c2, _, _, _, _, c7, c8, c9, c10, c11, c12⟩ := ms_facts HWX1.out
                    go_wp2_with fail
                    refine (rights_any x.nA x.nn x.nc x.ln _ HX1.out.n HS.out.2.1 hnn).mono ?_
                    rw [show okSec okR (x.ln.map Rrd.toRec) = okSec okR m.ns by rw [HM.out]; rfl, R1.out]
                    rintro e w2 ⟨rfl, hB⟩
                    have HXN1 := Lib.hid ((HX1.out.keep hB).more hB.size)
                    have HBN1 := Lib.hid (HBX1.out.trans (hB.mono HBX1.out.size))
                    have HWN1 := Lib.hid (HWX1.out.below hB HWX1.out.lt)
                    clear hB
                    have HX2 := Lib.hid HXN1.out
                    have HBX2 := Lib.hid HBN1.out
                    have HWX2 := Lib.hid HWN1.out
                    clear c0 c2 c7 c8 c9 c10 c11 c12
                    obtain ⟨c0, _, c2, _, _, _, _, c7, c8, c9, c10, c11, c12⟩ := ms_facts HWX2.out
                    go_wp2_with fail
                    refine (rights_any x.dA x.dn x.dc x.ld _ HX2.out.d HS.out.2.2 hdn).mono ?_
                    rw [show okSec okR (x.ld.map Rrd.toRec) = okSec okR m.ad by rw [HM.out]; rfl, R2.out]
                    rintro e w2 ⟨rfl, hB⟩
                    have HXN2 := Lib.hid ((HX2.out.keep hB).more hB.size)
                    have HBN2 := Lib.hid (HBX2.out.trans (hB.mono HBX2.out.size))
                    have HWN2 := Lib.hid (HWX2.out.below hB HWX2.out.lt)
                    clear hB
                    go_wp2_with fail
                    go_ret
                    exact ⟨by rw [HRES.out]; rfl, HBN2.out⟩
                  | true =>
                    have HRES := Lib.hid (show okM m = true by rw [HYES.out, r0, r1, r2]; rfl)
                    have R2 := Lib.hid r2
                    have HX0 := Lib.hid HXR.out
                    have HBX0 := Lib.hid HBR.out
                    have HWX0 := Lib.hid HWR.out
                    clear r2
                    go_wp2_with fail
                    refine (refIn_any h.id 65535 _).mono ?_
                    rw [H0.out]
                    rintro e w1 ⟨rfl, rfl⟩
                    go_wp2_with fail
                    refine (refIn_any h.op 15 _).mono ?_
                    rw [H1.out]
                    rintro e w1 ⟨rfl, rfl⟩
                    go_wp2_with fail
                    refine (refIn_any h.z 7 _).mono ?_
                    rw [H2.out]
                    rintro e w1 ⟨rfl, rfl⟩
                    go_wp2_with fail
                    refine (refIn_any h.rc 15 _).mono ?_
                    rw [H3.out]
                    rintro e w1 ⟨rfl, rfl⟩
                    go_wp2_with fail
                    refine (rights_any x.aA x.an x.ac x.la _ HX0.out.a HS.out.1 han).mono ?_
                    rw [show okSec okR (x.la.map Rrd.toRec) = okSec okR m.an by rw [HM.out]; rfl, R0.out]
                    rintro e w2 ⟨rfl, hB⟩
                    have HXN0 := Lib.hid ((HX0.out.keep hB).more hB.size)
                    have HBN0 := Lib.hid (HBX0.out.trans (hB.mono HBX0.out.size))
                    have HWN0 := Lib.hid (HWX0.out.below hB HWX0.out.lt)
                    clear hB
                    have HX1 := Lib.hid HXN0.out
                    have HBX1 := Lib.hid HBN0.out
                    have HWX1 := Lib.hid HWN0.out
                    clear c0 c2 c7 c8 c9 c10 c11 c12
                    obtain ⟨c0, _, c2, _, _, _, _, c7, c8, c9, c10, c11, c12⟩ := ms_facts HWX1.out
                    go_wp2_with fail
                    refine (rights_any x.nA x.nn x.nc x.ln _ HX1.out.n HS.out.2.1 hnn).mono ?_
                    rw [show okSec okR (x.ln.map Rrd.toRec) = okSec okR m.ns by rw [HM.out]; rfl, R1.out]
                    rintro e w2 ⟨rfl, hB⟩
                    have HXN1 := Lib.hid ((HX1.out.keep hB).more hB.size)
                    have HBN1 := Lib.hid (HBX1.out.trans (hB.mono HBX1.out.size))
                    have HWN1 := Lib.hid (HWX1.out.below hB HWX1.out.lt)
                    clear hB
                    have HX2 := Lib.hid HXN1.out
                    have HBX2 := Lib.hid HBN1.out
                    have HWX2 := Lib.hid HWN1.out
                    clear c0 c2 c7 c8 c9 c10 c11 c12
                    obtain ⟨c0, _, c2, _, _, _, _, c7, c8, c9, c10, c11, c12⟩ := ms_facts HWX2.out
                    go_wp2_with fail
                    refine (rights_any x.dA x.dn x.dc x.ld _ HX2.out.d HS.out.2.2 hdn).mono ?_
                    rw [show okSec okR (x.ld.map Rrd.toRec) = okSec okR m.ad by rw [HM.out]; rfl, R2.out]
                    rintro e w2 ⟨rfl, hB⟩
                    have HXN2 := Lib.hid ((HX2.out.keep hB).more hB.size)
                    have HBN2 := Lib.hid (HBX2.out.trans (hB.mono HBX2.out.size))
                    have HWN2 := Lib.hid (HWX2.out.below hB HWX2.out.lt)
                    clear hB
                    go_wp2_with fail
                    go_ret
                    exact ⟨by rw [HRES.out]; rfl, HBN2.out⟩
end Go.Proofs.YtokjmefleanjaaaGreat
