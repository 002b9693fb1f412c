/- MessageAgain. No statement of the seat is proved here. -/
import Derived.Test.YtokjmefleanjaaaMesR
import Derived.Test.YtokjmefleanjaaaMesE
import Derived.Test.YtokjmefleanjaaaMesG
namespace Go.Proofs.Ytokjmefleanjaaa
open Go.RowKit Go.Op

theorem q2d_back (l : List Que) : (l.map q2d).map Qrd.toQue = l := by
  induction l with
  | nil => rfl
  | cons q l ih => simp only [List.map_cons, ih]; rfl
theorem r2d_back (l : List Rec) : (l.map r2d).map Rrd.toRec = l := by
  induction l with
  | nil => rfl
  | cons q l ih => simp only [List.map_cons, ih]; rfl
theorem toMes_of {x : Mrd} {m : Mes} (e1 : x.lq = m.q.map q2d) (e2 : x.la = m.an.map r2d) (e3 : x.ln = m.ns.map r2d) (e4 : x.ld = m.ad.map r2d) : x.toMes m.h = m := by
  unfold Mrd.toMes
  rw [e1, e2, e3, e4, q2d_back, r2d_back, r2d_back, r2d_back]
theorem small_of {x : Mrd} {m : Mes} (hok : okM m = true) (e1 : x.lq = m.q.map q2d) (e2 : x.la = m.an.map r2d) (e3 : x.ln = m.ns.map r2d) (e4 : x.ld = m.ad.map r2d) : SmallM x := by
  obtain ⟨_, ha, hn, hd, hq⟩ := okM_is hok
  have R : ∀ l : List Rec, okSec okR l = true → SmallR (l.map r2d) := fun l hl y hy => by
    obtain ⟨r, hr, rfl⟩ := List.mem_map.1 hy
    have hr' := (okSec_is.1 hl).2 r hr
    obtain ⟨_, _, _, _, h5⟩ := ok_parts hr'
    exact ⟨by show (mk r.n).size ≤ _; rw [mk_size]; exact name_room hr', by show (mk r.d).size ≤ _; rw [mk_size]; exact (right_is h5).1⟩
  refine ⟨?_, by rw [e2]; exact R _ ha, by rw [e3]; exact R _ hn, by rw [e4]; exact R _ hd⟩
  rw [e1]
  intro y hy
  obtain ⟨q, hq', rfl⟩ := List.mem_map.1 hy
  obtain ⟨⟨L, hL⟩, _⟩ := okQ_is ((okSec_is.1 hq).2 q hq')
  obtain ⟨he, _, hl⟩ := nameL_is hL
  show (mk q.n).size ≤ _
  rw [mk_size]; omega
theorem counts_of {x : Mrd} {m : Mes} {w : World} {B : Nat} (hok : okM m = true) (hs : SeesM w B x) (e1 : x.lq = m.q.map q2d) (e2 : x.la = m.an.map r2d) (e3 : x.ln = m.ns.map r2d) (e4 : x.ld = m.ad.map r2d) : x.qn ≤ 65535 ∧ x.an ≤ 65535 ∧ x.nn ≤ 65535 ∧ x.dn ≤ 65535 := by
  obtain ⟨_, ha, hn, hd, hq⟩ := okM_is hok
  refine ⟨?_, ?_, ?_, ?_⟩
  · rw [← hs.q.1, e1, List.length_map]; exact (okSec_is.1 hq).1
  · rw [← hs.a.1, e2, List.length_map]; exact (okSec_is.1 ha).1
  · rw [← hs.n.1, e3, List.length_map]; exact (okSec_is.1 hn).1
  · rw [← hs.d.1, e4, List.length_map]; exact (okSec_is.1 hd).1

set_option maxHeartbeats 8000000 in
set_option maxRecDepth 20000 in
theorem MessageAgain_walk (S : ByteArray) (w : World) (_hz : S.size ≤ maxLen) :
    Calls Try.prog 4 #[.string S] w fun e w' => e = .returned (.bool true) ∧ Below w.heap.size w w' := by
  by_cases h3 : S.size ≤ 3000
  · obtain ⟨M, hS⟩ : ∃ M, S = mk M := ⟨S.data.toList, (mk_toList S).symm⟩
    have hMl : M.length ≤ 3000 := by rw [hS, mk_size] at h3; exact h3
    have HS := Lib.hid hS
    have g1 : decide ((3000 : Int) < (S.size : Int)) = false := by rw [decide_eq_false_iff_not]; omega
    clear hS
    cases hdec : decR M with
    | none =>
      have HD := Lib.hid hdec
      clear hdec
      go_enter Try.func4, Try.ntmps4
      go_wp2_with fail
      refine (awake_any _).mono ?_
      rintro e w1 ⟨rfl, hB1⟩
      have HB1 := Lib.hid hB1
      clear hB1
      go_wp2_with fail
      refine (Decode_any S M _ HS.out (by omega)).mono ?_
      rintro e w2 ⟨hB2, he⟩
      rw [HD.out] at he
      simp only at he
      subst he
      have HB2 := Lib.hid (HB1.out.trans (hB2.mono HB1.out.size))
      have HB3 := Lib.hid (HB2.out.alloc HB2.out.size (.cells zeroM msT))
      clear hB2
      rw [← zeroM_is]
      unfold zeroM at *
      go_wp2_with fail
      go_ret
      exact ⟨rfl, HB3.out⟩
    | some m =>
      have hok := dec_ok (by omega) hdec
      have HD := Lib.hid hdec
      have HOK := Lib.hid hok
      clear hdec
      go_enter Try.func4, Try.ntmps4
      go_wp2_with fail
      refine (awake_any _).mono ?_
      rintro e w1 ⟨rfl, hB1⟩
      have HB1 := Lib.hid hB1
      clear hB1
      go_wp2_with fail
      refine (Decode_any S M _ HS.out (by omega)).mono ?_
      rintro e w2 ⟨hB2, he⟩
      rw [HD.out] at he
      obtain ⟨x, rfl, hsee, e1, e2, e3, e4⟩ := he
      have HB2 := Lib.hid (HB1.out.trans (hB2.mono HB1.out.size))
      have HSM := Lib.hid (small_of hok e1 e2 e3 e4)
      have HTO := Lib.hid (toMes_of e1 e2 e3 e4)
      obtain ⟨q1, q2, q3, q4⟩ := counts_of hok hsee e1 e2 e3 e4
      obtain ⟨hd, hhd⟩ : ∃ hd, hd = m.h := ⟨_, rfl⟩
      have HHD := Lib.hid hhd
      rw [← hhd]
      obtain ⟨W, hW⟩ : ∃ W, W = w2.alloc (.cells (msV hd x) msT) := ⟨_, rfl⟩
      obtain ⟨g, hg⟩ : ∃ g, g = w2.heap.size := ⟨_, rfl⟩
      have HBW := Lib.hid (show Below w2.heap.size w2 W by rw [hW]; exact (Below.refl _ _).alloc (Nat.le_refl _) _)
      have HW0 := Lib.hid (show Whole W g msT (msV hd x) by rw [hW, hg]; exact Whole.new w2 msT _)
      have HX := Lib.hid ((hsee.keep HBW.out).more HBW.out.size)
      have HB3 := Lib.hid (HB2.out.trans (HBW.out.mono HB2.out.size))
      have E1 := Lib.hid e1
      have E2 := Lib.hid e2
      have E3 := Lib.hid e3
      have E4 := Lib.hid e4
      have HWW := Lib.hid hW
      have HG := Lib.hid hg
      have HMV := Lib.hid (show msV hd x = #[.int .i64 hd.id, .bool hd.qr, .int .i64 hd.op, .bool hd.aa, .bool hd.tc, .bool hd.rd, .bool hd.ra, .int .i64 hd.z, .int .i64 hd.rc, .slice x.qA x.qn x.qc, .slice x.aA x.an x.ac, .slice x.nA x.nn x.nc, .slice x.dA x.dn x.dc] from rfl)
      clear hB2 hsee e1 e2 e3 e4 hhd hW hg hok
      rw [HMV.out]
      go_wp2_with fail
      rw [← HMV.out, ← HWW.out, ← HG.out]
      have HXM := Lib.hid (show x.toMes hd = m by rw [HHD.out]; exact HTO.out)
      refine (Encode_any hd x _ HX.out HSM.out).mono ?_
      rw [HXM.out]
      by_cases hlong : (fullW m).1.length ≤ 65535
      · have HENC := Lib.hid (show encR m = (mk (fullW m).1, 0) by unfold encR; rw [if_pos HOK.out, if_pos hlong])
        have HBACK := Lib.hid (dec_back HOK.out)
        have hF8 : (fullW m).1.length ≤ 800000 := by omega
        obtain ⟨F, hF⟩ : ∃ F, F = (fullW m).1 := ⟨_, rfl⟩
        have HFF := Lib.hid hF
        rw [HENC.out]
        rw [← hF] at HBACK hF8 ⊢
        clear hlong hF
        rintro e w4 ⟨rfl, hB4⟩
        have HW4 := Lib.hid (HW0.out.below hB4 HW0.out.lt)
        have HX4 := Lib.hid ((HX.out.keep hB4).more hB4.size)
        have HB4 := Lib.hid (HB3.out.trans (hB4.mono HB3.out.size))
        clear hB4
        obtain ⟨FS, hFS⟩ : ∃ FS, FS = mk F := ⟨_, rfl⟩
        have HFS := Lib.hid hFS
        simp only
        rw [← hFS]
        clear hFS
        go_wp2_with fail
        refine (Decode_any FS F _ HFS.out hF8).mono ?_
        rintro e w5 ⟨hB5, he⟩
        rw [HBACK.out] at he
        obtain ⟨y, rfl, hsy, f1, f2, f3, f4⟩ := he
        rw [← HHD.out]
        obtain ⟨W5, hW5⟩ : ∃ W5, W5 = w5.alloc (.cells (msV hd y) msT) := ⟨_, rfl⟩
        obtain ⟨g5, hg5⟩ : ∃ g5, g5 = w5.heap.size := ⟨_, rfl⟩
        have HBW5 := Lib.hid (show Below w5.heap.size w5 W5 by rw [hW5]; exact (Below.refl _ _).alloc (Nat.le_refl _) _)
        have HW5 := Lib.hid (show Whole W5 g5 msT (msV hd y) by rw [hW5, hg5]; exact Whole.new w5 msT _)
        have HY5 := Lib.hid ((hsy.keep HBW5.out).more HBW5.out.size)
        have HX5 := Lib.hid ((((HX4.out.keep hB5).more hB5.size).keep HBW5.out).more HBW5.out.size)
        have HW6 := Lib.hid ((HW4.out.below hB5 HW4.out.lt).below HBW5.out (HW4.out.below hB5 HW4.out.lt).lt)
        have HB5 := Lib.hid (HB4.out.trans ((hB5.trans (HBW5.out.mono hB5.size)).mono HB4.out.size))
        have D1 := Lib.hid (show y.lq = x.lq by rw [f1, E1.out])
        have D2 := Lib.hid (show y.la = x.la by rw [f2, E2.out])
        have D3 := Lib.hid (show y.ln = x.ln by rw [f3, E3.out])
        have D4 := Lib.hid (show y.ld = x.ld by rw [f4, E4.out])
        obtain ⟨r1, r2, r3, r4⟩ := counts_of HOK.out hsy f1 f2 f3 f4
        have HWW5 := Lib.hid hW5
        have HG5 := Lib.hid hg5
        have HMY := Lib.hid (show msV hd y = #[.int .i64 hd.id, .bool hd.qr, .int .i64 hd.op, .bool hd.aa, .bool hd.tc, .bool hd.rd, .bool hd.ra, .int .i64 hd.z, .int .i64 hd.rc, .slice y.qA y.qn y.qc, .slice y.aA y.an y.ac, .slice y.nA y.nn y.nc, .slice y.dA y.dn y.dc] from rfl)
        have t0 := ms_facts HW6.out
        rw [hW5] at t0
        unfold msV msA at t0
        obtain ⟨c0, c1, c2, c3, c4, c5, c6, c7, c8, c9, c10, c11, c12⟩ := t0
        clear hB5 hsy f1 f2 f3 f4 hW5 hg5
        rw [HMY.out, HMV.out]
        go_wp2_with fail
        rw [← HMV.out, ← HMY.out, ← HWW5.out, ← HG5.out]
        clear c0 c1 c2 c3 c4 c5 c6 c7 c8 c9 c10 c11 c12
        refine (Formed_any hd x _ HX5.out HSM.out).mono ?_
        rw [HXM.out, HOK.out]
        rintro e w7 ⟨rfl, hB7⟩
        have HW7 := Lib.hid (HW5.out.below hB7 HW5.out.lt)
        have HW8 := Lib.hid (HW6.out.below hB7 HW6.out.lt)
        have HX7 := Lib.hid ((HX5.out.keep hB7).more hB7.size)
        have HY7 := Lib.hid ((HY5.out.keep hB7).more hB7.size)
        have HB7 := Lib.hid (HB5.out.trans (hB7.mono HB5.out.size))
        clear hB7
        obtain ⟨c0, c1, c2, c3, c4, c5, c6, c7, c8, c9, c10, c11, c12⟩ := ms_facts HW8.out
        obtain ⟨d0, d1, d2, d3, d4, d5, d6, d7, d8, d9, d10, d11, d12⟩ := ms_facts HW7.out
        rw [HMY.out, HMV.out]
        go_wp2_with fail
        rw [← HMV.out, ← HMY.out]
        refine (Same_yes hd y x _ HY7.out HX7.out D1.out D2.out D3.out D4.out (by omega) (by omega) (by omega) (by omega)).mono ?_
        rintro e w8 ⟨rfl, hB8⟩
        have HB8 := Lib.hid (HB7.out.trans (hB8.mono HB7.out.size))
        clear hB8 c0 c1 c2 c3 c4 c5 c6 c7 c8 c9 c10 c11 c12 d0 d1 d2 d3 d4 d5 d6 d7 d8 d9 d10 d11 d12
        go_wp2_with fail
        go_ret
        exact ⟨rfl, HB8.out⟩
      · have HENC := Lib.hid (show encR m = (empty, 3) by unfold encR; rw [if_pos HOK.out, if_neg hlong])
        rw [HENC.out]
        clear hlong
        rintro e w4 ⟨rfl, hB4⟩
        have HW4 := Lib.hid (HW0.out.below hB4 HW0.out.lt)
        have HX4 := Lib.hid ((HX.out.keep hB4).more hB4.size)
        have HB4 := Lib.hid (HB3.out.trans (hB4.mono HB3.out.size))
        clear hB4
        obtain ⟨c0, c1, c2, c3, c4, c5, c6, c7, c8, c9, c10, c11, c12⟩ := ms_facts HW4.out
        rw [HMV.out]
        go_wp2_with fail
        rw [← HMV.out]
        refine (Formed_any hd x _ HX4.out HSM.out).mono ?_
        rw [HXM.out, HOK.out]
        rintro e w5 ⟨rfl, hB5⟩
        have HB5 := Lib.hid (HB4.out.trans (hB5.mono HB4.out.size))
        clear hB5 c0 c1 c2 c3 c4 c5 c6 c7 c8 c9 c10 c11 c12
        go_wp2_with fail
        go_ret
        exact ⟨rfl, HB5.out⟩
  · have g1 : (3000 : Int) < (S.size : Int) := by omega
    go_enter Try.func4, Try.ntmps4
    go_wp2_with fail
    refine (awake_any _).mono ?_
    rintro e w1 ⟨rfl, hB1⟩
    go_wp2_with fail
    refine (awake_any _).mono ?_
    rintro e w2 ⟨rfl, hB2⟩
    go_wp2_with fail
    go_ret
    exact ⟨rfl, hB1.trans (hB2.mono hB1.size)⟩
end Go.Proofs.Ytokjmefleanjaaa
