/- MessageBack. No statement of the seat is proved here. -/
import Derived.Test.YtokjmefleanjaaaGreatMesS
import Derived.Test.YtokjmefleanjaaaGreatMesT
namespace Go.Proofs.YtokjmefleanjaaaGreat
open Go.RowKit Go.Op

theorem q2d_fwd (l : List Qrd) : (l.map Qrd.toQue).map q2d = l := by
  induction l with
  | nil => rfl
  | cons q l ih => simp only [List.map_cons, ih]; show (⟨mk q.s.data.toList, q.t, q.c⟩ : Qrd) :: l = q :: l; rw [mk_toList]
theorem r2d_fwd (l : List Rrd) : (l.map Rrd.toRec).map r2d = l := by
  induction l with
  | nil => rfl
  | cons q l ih => simp only [List.map_cons, ih]; show (⟨mk q.s.data.toList, q.t, q.c, q.l, mk q.d.data.toList⟩ : Rrd) :: l = q :: l; rw [mk_toList, mk_toList]
theorem fewM_is {x : Mrd} (h : fewM x = true) : (SmallR x.la ∧ SmallR x.ln ∧ SmallR x.ld) ∧ x.an + x.nn + x.dn ≤ 30 ∧ x.qn ≤ 10 := by
  unfold fewM at h
  simp only [Bool.and_eq_true, decide_eq_true_eq] at h
  obtain ⟨h1, h2, h3⟩ := h
  rw [List.all_eq_true] at h1
  have R : ∀ l : List Rrd, (∀ y ∈ l, y ∈ x.la ++ x.ln ++ x.ld) → SmallR l := fun l hl y hy => by
    have := fewR_is.1 (h1 y (hl y hy))
    exact ⟨by omega, by omega⟩
  exact ⟨⟨R _ fun y hy => by simp [hy], R _ fun y hy => by simp [hy], R _ fun y hy => by simp [hy]⟩, h2, h3⟩
theorem few_ok_small {x : Mrd} {h : Hd} (hf : fewM x = true) (ho : okM (x.toMes h) = true) : SmallM x := by
  obtain ⟨⟨ha, hn, hd⟩, _, _⟩ := fewM_is hf
  refine ⟨fun y hy => ?_, ha, hn, hd⟩
  obtain ⟨_, _, _, _, hq⟩ := okM_is ho
  obtain ⟨⟨L, hL⟩, _⟩ := okQ_is ((okSec_is.1 hq).2 y.toQue (List.mem_map_of_mem hy))
  obtain ⟨he, _, hl⟩ := nameL_is hL
  have : y.s.size = y.toQue.n.length := by rw [qrd_name y, mk_size]
  omega
theorem u8_wf {n : Int} (h : (Lit.int .u8 n).wf = true) : ∃ k : Nat, k < 256 ∧ n = (k : Int) := by
  simp only [Lit.wf, Bool.and_eq_true, decide_eq_true_eq] at h
  have h1 : (0 : Int) ≤ n := h.1
  have h2 : n ≤ 255 := h.2
  exact ⟨n.toNat, by omega, by omega⟩

set_option maxHeartbeats 8000000 in
set_option maxRecDepth 20000 in
theorem MessageBack_walk (hd : Hd) (x : Mrd) (c : Int) (w : World) (hx : SeesM w w.heap.size x) (hq : x.qn ≤ 100000000) (ha : x.an ≤ 100000000) (hn : x.nn ≤ 100000000) (hdn : x.dn ≤ 100000000) (hc : (Lit.int .u8 c).wf = true) :
    Calls Tryz.prog 4 #[.agg (msV hd x), .int .u8 c] w fun e w' => e = .returned (.bool true) ∧ Below w.heap.size w w' := by
  obtain ⟨k, hk, rfl⟩ := u8_wf hc
  clear hc
  obtain ⟨W, hW⟩ : ∃ W, W = w.alloc (.cells (msV hd x) msT) := ⟨_, rfl⟩
  obtain ⟨g, hg⟩ : ∃ g, g = w.heap.size := ⟨_, rfl⟩
  have HB0 := Lib.hid (show Below w.heap.size w W by rw [hW]; exact (Below.refl _ _).alloc (Nat.le_refl _) _)
  have HW0 := Lib.hid (show Whole W g msT (msV hd x) by rw [hW, hg]; exact Whole.new w msT _)
  have HX := Lib.hid ((hx.keep HB0.out).more HB0.out.size)
  have HWW := Lib.hid hW
  have HG := Lib.hid hg
  have HMV := Lib.hid (show msV hd x = #[.int .i64 hd.id, .bool hd.qr, .int .i64 hd.op, .bool hd.aa, .bool hd.tc, .bool hd.rd, .bool hd.ra, .int .i64 hd.z, .int .i64 hd.rc, .slice x.qA x.qn x.qc, .slice x.aA x.an x.ac, .slice x.nA x.nn x.nc, .slice x.dA x.dn x.dc] from rfl)
  clear hW hg hx
  rw [HMV.out]
  cases hf : fewM x with
  | false =>
    have HF := Lib.hid hf
    clear hf
    go_enter Tryz.func4, Tryz.ntmps4
    go_wp2_with fail
    rw [← HMV.out, ← HWW.out, ← HG.out]
    refine (awake_any _).mono ?_
    rintro e w1 ⟨rfl, hB⟩
    have HB1 := Lib.hid (HB0.out.trans (hB.mono HB0.out.size))
    have HX1 := Lib.hid ((HX.out.keep hB).more hB.size)
    obtain ⟨c0, c1, c2, c3, c4, c5, c6, c7, c8, c9, c10, c11, c12⟩ := ms_facts (HW0.out.below hB HW0.out.lt)
    clear hB
    go_wp2_with fail
    refine (Few_any hd x _ HX1.out ha hn hdn).mono ?_
    rw [HF.out]
    rintro e w2 ⟨rfl, hB⟩
    have HB2 := Lib.hid (HB1.out.trans (hB.mono HB1.out.size))
    clear hB c0 c1 c2 c3 c4 c5 c6 c7 c8 c9 c10 c11 c12
    go_wp2_with fail
    refine (awake_any _).mono ?_
    rintro e w3 ⟨rfl, hB⟩
    go_wp2_with fail
    go_ret
    exact ⟨rfl, HB2.out.trans (hB.mono HB2.out.size)⟩
  | true =>
    obtain ⟨hsm, h30, h10⟩ := fewM_is hf
    have HF := Lib.hid hf
    have HSR := Lib.hid hsm
    clear hf hsm
    go_enter Tryz.func4, Tryz.ntmps4
    go_wp2_with fail
    rw [← HMV.out, ← HWW.out, ← HG.out]
    refine (awake_any _).mono ?_
    rintro e w1 ⟨rfl, hB⟩
    have HB1 := Lib.hid (HB0.out.trans (hB.mono HB0.out.size))
    have HX1 := Lib.hid ((HX.out.keep hB).more hB.size)
    have HW1 := Lib.hid (HW0.out.below hB HW0.out.lt)
    obtain ⟨c0, c1, c2, c3, c4, c5, c6, c7, c8, c9, c10, c11, c12⟩ := ms_facts HW1.out
    clear hB
    go_wp2_with fail
    refine (Few_any hd x _ HX1.out ha hn hdn).mono ?_
    rw [HF.out]
    rintro e w2 ⟨rfl, hB⟩
    have HB2 := Lib.hid (HB1.out.trans (hB.mono HB1.out.size))
    have HX2 := Lib.hid ((HX1.out.keep hB).more hB.size)
    have HW2 := Lib.hid (HW1.out.below hB HW1.out.lt)
    clear hB c0 c1 c2 c3 c4 c5 c6 c7 c8 c9 c10 c11 c12
    obtain ⟨c0, c1, c2, c3, c4, c5, c6, c7, c8, c9, c10, c11, c12⟩ := ms_facts HW2.out
    go_wp2_with fail
    rw [← HMV.out]
    refine (RefFormed_any hd x _ HX2.out HSR.out (by omega) (by omega) (by omega) (by omega)).mono ?_
    obtain ⟨m, hm⟩ : ∃ m, m = x.toMes hd := ⟨_, rfl⟩
    have HM := Lib.hid hm
    rw [← hm]
    clear hm c0 c1 c2 c3 c4 c5 c6 c7 c8 c9 c10 c11 c12
    cases hok : okM m with
    | false =>
      clear hok
      rintro e w3 ⟨rfl, hB⟩
      have HB3 := Lib.hid (HB2.out.trans (hB.mono HB2.out.size))
      clear hB
      go_wp2_with fail
      refine (awake_any _).mono ?_
      rintro e w4 ⟨rfl, hB⟩
      go_wp2_with fail
      go_ret
      exact ⟨rfl, HB3.out.trans (hB.mono HB3.out.size)⟩
    | true =>
      have HOK := Lib.hid hok
      have HSM := Lib.hid (few_ok_small HF.out (by rw [← HM.out]; exact hok))
      clear hok
      rintro e w3 ⟨rfl, hB⟩
      have HB3 := Lib.hid (HB2.out.trans (hB.mono HB2.out.size))
      have HX3 := Lib.hid ((HX2.out.keep hB).more hB.size)
      have HW3 := Lib.hid (HW2.out.below hB HW2.out.lt)
      clear hB
      obtain ⟨c0, c1, c2, c3, c4, c5, c6, c7, c8, c9, c10, c11, c12⟩ := ms_facts HW3.out
      rw [HMV.out]
      go_wp2_with fail
      rw [← HMV.out]
      clear c0 c1 c2 c3 c4 c5 c6 c7 c8 c9 c10 c11 c12
      refine (Encode_any hd x _ HX3.out HSM.out).mono ?_
      rw [← HM.out]
      by_cases hlong : (fullW m).1.length ≤ 65535
      · have HENC := Lib.hid (show encR m = (mk (fullW m).1, 0) by unfold encR; rw [if_pos HOK.out, if_pos hlong])
        obtain ⟨F, hF⟩ : ∃ F, F = (fullW m).1 := ⟨_, rfl⟩
        have HBACK := Lib.hid (show decR F = some m by rw [hF]; exact dec_back HOK.out)
        have HMORE := Lib.hid (show decR (F ++ [UInt8.ofNat k]) = none by rw [hF]; exact dec_more HOK.out _)
        have h12 : 12 ≤ F.length := by rw [hF]; exact full_long HOK.out
        have HCUT := Lib.hid (show decR F.dropLast = none from dec_cut (c := F.getLast (by intro h; rw [h] at h12; simp at h12)) HOK.out (by rw [← hF, List.dropLast_concat_getLast]))
        rw [HENC.out, ← hF]
        rw [← hF] at hlong
        clear hF
        obtain ⟨FS, hFS⟩ : ∃ FS, FS = mk F := ⟨_, rfl⟩
        have HFS := Lib.hid hFS
        have hsz : FS.size = F.length := by rw [hFS, mk_size]
        rintro e w4 ⟨rfl, hB⟩
        have HB4 := Lib.hid (HB3.out.trans (hB.mono HB3.out.size))
        have HX4 := Lib.hid ((HX3.out.keep hB).more hB.size)
        have HW4 := Lib.hid (HW3.out.below hB HW3.out.lt)
        clear hB
        simp only
        rw [← hFS]
        clear hFS
        have g12 : decide ((FS.size : Int) < 12) = false := by rw [decide_eq_false_iff_not]; omega
        go_wp2_with fail
        refine (Decode_any FS F _ HFS.out (by omega)).mono ?_
        rintro e w5 ⟨hB, he⟩
        rw [HBACK.out] at he
        obtain ⟨y, rfl, hsy, f1, f2, f3, f4⟩ := he
        have hh : m.h = hd := by rw [HM.out]; rfl
        rw [hh]
        clear hh
        obtain ⟨W5, hW5⟩ : ∃ W5, W5 = w5.alloc (.cells (msV hd y) msT) := ⟨_, rfl⟩
        obtain ⟨g5, hg5⟩ : ∃ g5, g5 = w5.heap.size := ⟨_, rfl⟩
        have HBW := Lib.hid (show Below w5.heap.size w5 W5 by rw [hW5]; exact (Below.refl _ _).alloc (Nat.le_refl _) _)
        have HY5 := Lib.hid (show Whole W5 g5 msT (msV hd y) by rw [hW5, hg5]; exact Whole.new w5 msT _)
        have HSY5 := Lib.hid ((hsy.keep HBW.out).more HBW.out.size)
        have HX5 := Lib.hid ((((HX4.out.keep hB).more hB.size).keep HBW.out).more HBW.out.size)
        have HW5 := Lib.hid ((HW4.out.below hB HW4.out.lt).below HBW.out (HW4.out.below hB HW4.out.lt).lt)
        have HB5 := Lib.hid (HB4.out.trans ((hB.trans (HBW.out.mono hB.size)).mono HB4.out.size))
        have D1 := Lib.hid (show y.lq = x.lq by rw [f1, HM.out]; exact q2d_fwd _)
        have D2 := Lib.hid (show y.la = x.la by rw [f2, HM.out]; exact r2d_fwd _)
        have D3 := Lib.hid (show y.ln = x.ln by rw [f3, HM.out]; exact r2d_fwd _)
        have D4 := Lib.hid (show y.ld = x.ld by rw [f4, HM.out]; exact r2d_fwd _)
        have hyq := Lib.hid (show y.qn = x.qn by rw [← hsy.q.1, ← HX4.out.q.1, D1.out])
        have hya := Lib.hid (show y.an = x.an by rw [← hsy.a.1, ← HX4.out.a.1, D2.out])
        have hyn := Lib.hid (show y.nn = x.nn by rw [← hsy.n.1, ← HX4.out.n.1, D3.out])
        have hyd := Lib.hid (show y.dn = x.dn by rw [← hsy.d.1, ← HX4.out.d.1, D4.out])
        have HWW5 := Lib.hid hW5
        have HG5 := Lib.hid hg5
        have HMY := Lib.hid (show msV hd y = #[.int .i64 hd.id, .bool hd.qr, .int .i64 hd.op, .bool hd.aa, .bool hd.tc, .bool hd.rd, .bool hd.ra, .int .i64 hd.z, .int .i64 hd.rc, .slice y.qA y.qn y.qc, .slice y.aA y.an y.ac, .slice y.nA y.nn y.nc, .slice y.dA y.dn y.dc] from rfl)
        have hcv : (convert 35 9 (.slice (some ⟨w5.heap.size + 1, 0, none⟩) 1 1)).run Tryz.prog ((w5.alloc (.cells (msV hd y) msT)).alloc (.cells #[.int .u8 (k : Int)] 5)) = .ok (.string (mk [UInt8.ofNat k])) ((w5.alloc (.cells (msV hd y) msT)).alloc (.cells #[.int .u8 (k : Int)] 5)) := by
          have hb := Whole.new (w5.alloc (.cells (msV hd y) msT)) 5 #[.int .u8 (k : Int)]
          have he : (w5.alloc (.cells (msV hd y) msT)).heap.size = w5.heap.size + 1 := by simp
          rw [he] at hb
          exact byte_str k _ _ _ hk hb.cell1
        have hk1 : (mk [UInt8.ofNat k]).size = 1 := by rw [mk_size]; rfl
        clear hB hsy f1 f2 f3 f4 hW5 hg5
        rw [HMY.out] at hcv ⊢
        go_wp2_with fail
        rw [← HMY.out, ← HWW5.out]
        obtain ⟨W6, hW6⟩ : ∃ W6, W6 = W5.alloc (.cells #[.int .u8 (k : Int)] 5) := ⟨_, rfl⟩
        have HBV := Lib.hid (show Below W5.heap.size W5 W6 by rw [hW6]; exact (Below.refl _ _).alloc (Nat.le_refl _) _)
        rw [← hW6, ← HG5.out]
        have hap : FS ++ mk [UInt8.ofNat k] = mk (F ++ [UInt8.ofNat k]) := by rw [HFS.out, mk_append]
        rw [hap]
        clear hW6 hap
        refine (Decode_any _ (F ++ [UInt8.ofNat k]) _ rfl (by simp; omega)).mono ?_
        rintro e w7 ⟨hB, he⟩
        rw [HMORE.out] at he
        simp only at he
        subst he
        have HB6 := Lib.hid (HBV.out.trans (hB.mono HBV.out.size))
        have HY7 := Lib.hid (HY5.out.below HB6.out HY5.out.lt)
        have HSY7 := Lib.hid ((HSY5.out.keep HB6.out).more HB6.out.size)
        have HX7 := Lib.hid ((HX5.out.keep HB6.out).more HB6.out.size)
        have HW7 := Lib.hid (HW5.out.below HB6.out HW5.out.lt)
        have HB7 := Lib.hid (HB5.out.trans (HB6.out.mono HB5.out.size))
        obtain ⟨W8, hW8⟩ : ∃ W8, W8 = w7.alloc (.cells zeroM msT) := ⟨_, rfl⟩
        have HB8 := Lib.hid (show Below w7.heap.size w7 W8 by rw [hW8]; exact (Below.refl _ _).alloc (Nat.le_refl _) _)
        have HWW8 := Lib.hid hW8
        have hex : FS.extract 0 (F.length - 1) = mk F.dropLast := by rw [HFS.out, mk_extract, List.drop_zero, ← List.dropLast_eq_take]
        clear hB hW8
        rw [← zeroM_is]
        unfold zeroM at *
        go_wp2_with fail
        rw [← HWW8.out]
        refine (Decode_any _ F.dropLast _ rfl (by rw [List.length_dropLast]; omega)).mono ?_
        rintro e w9 ⟨hB, he⟩
        rw [HCUT.out] at he
        simp only at he
        subst he
        have HBX := Lib.hid (show Below w7.heap.size w7 (w9.alloc (.cells zeroM msT)) from (HB8.out.trans (hB.mono HB8.out.size)).alloc (HB8.out.trans (hB.mono HB8.out.size)).size _)
        have HYX := Lib.hid (HY7.out.below HBX.out HY7.out.lt)
        have HSYX := Lib.hid ((HSY7.out.keep HBX.out).more HBX.out.size)
        have HXX := Lib.hid ((HX7.out.keep HBX.out).more HBX.out.size)
        have HWX := Lib.hid (HW7.out.below HBX.out HW7.out.lt)
        have HBF := Lib.hid (HB7.out.trans (HBX.out.mono HB7.out.size))
        clear hB hex
        rw [← zeroM_is]
        unfold zeroM at *
        obtain ⟨c0, c1, c2, c3, c4, c5, c6, c7, c8, c9, c10, c11, c12⟩ := ms_facts HWX.out
        obtain ⟨d0, d1, d2, d3, d4, d5, d6, d7, d8, d9, d10, d11, d12⟩ := ms_facts HYX.out
        rw [HMY.out, HMV.out]
        go_wp2_with fail
        rw [← HMV.out, ← HMY.out]
        refine (Same_yes hd y x _ HSYX.out HXX.out D1.out D2.out D3.out D4.out (by rw [hyq.out]; omega) (by rw [hya.out]; omega) (by rw [hyn.out]; omega) (by rw [hyd.out]; omega)).mono ?_
        rintro e wz ⟨rfl, hB⟩
        have HBZ := Lib.hid (HBF.out.trans (hB.mono HBF.out.size))
        clear hB c0 c1 c2 c3 c4 c5 c6 c7 c8 c9 c10 c11 c12 d0 d1 d2 d3 d4 d5 d6 d7 d8 d9 d10 d11 d12
        go_wp2_with fail
        go_ret
        exact ⟨rfl, HBZ.out⟩
      · have HENC := Lib.hid (show encR m = (empty, 3) by unfold encR; rw [if_pos HOK.out, if_neg hlong])
        rw [HENC.out]
        clear hlong
        rintro e w4 ⟨rfl, hB⟩
        have HB4 := Lib.hid (HB3.out.trans (hB.mono HB3.out.size))
        clear hB
        go_wp2_with fail
        go_ret
        exact ⟨rfl, HB4.out⟩
end Go.Proofs.YtokjmefleanjaaaGreat
