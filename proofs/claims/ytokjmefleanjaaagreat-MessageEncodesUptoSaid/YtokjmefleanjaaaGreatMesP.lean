/- MessageEncodes. No statement of the seat is proved here. -/
import Derived.Test.YtokjmefleanjaaaGreatMesU
import Derived.Test.YtokjmefleanjaaaGreatMesW
namespace Go.Proofs.YtokjmefleanjaaaGreat
open Go.RowKit Go.Op

theorem empty_list : ByteArray.empty.toList = [] := by unfold ByteArray.toList ByteArray.toList.loop; rfl
set_option maxHeartbeats 8000000 in
set_option maxRecDepth 20000 in
theorem MessageEncodes_walk (hd : Hd) (x : Mrd) (w : World) (hx : SeesM w w.heap.size x) (hq : x.qn ≤ 100000000) (ha : x.an ≤ 100000000) (hn : x.nn ≤ 100000000) (hdn : x.dn ≤ 100000000) (hql : SmallQ x.lq) :
    Calls Tryz.prog 3 #[.agg (msV hd x)] w fun e w' => e = .returned (.bool true) ∧ Below w.heap.size w w' := by
  obtain ⟨W, hW⟩ : ∃ W, W = w.alloc (.cells (msV hd x) msT) := ⟨_, rfl⟩
  obtain ⟨g, hg⟩ : ∃ g, g = w.heap.size := ⟨_, rfl⟩
  have HB0 := Lib.hid (show Below w.heap.size w W by rw [hW]; exact (Below.refl _ _).alloc (Nat.le_refl _) _)
  have HW0 := Lib.hid (show Whole W g msT (msV hd x) by rw [hW, hg]; exact Whole.new w msT _)
  have HX := Lib.hid ((hx.keep HB0.out).more HB0.out.size)
  have HWW := Lib.hid hW
  have HG := Lib.hid hg
  have HMV := Lib.hid (show msV hd x = #[.int .i64 hd.id, .bool hd.qr, .int .i64 hd.op, .bool hd.aa, .bool hd.tc, .bool hd.rd, .bool hd.ra, .int .i64 hd.z, .int .i64 hd.rc, .slice x.qA x.qn x.qc, .slice x.aA x.an x.ac, .slice x.nA x.nn x.nc, .slice x.dA x.dn x.dc] from rfl)
  clear hW hg hx
  rw [HMV.out]
  cases hf : fewM x with
  | false =>
    have HF := Lib.hid hf
    clear hf
    go_enter Tryz.func3, Tryz.ntmps3
    go_wp2_with fail
    rw [← HMV.out, ← HWW.out, ← HG.out]
    refine (awake_any _).mono ?_
    rintro e w1 ⟨rfl, hB⟩
    have HB1 := Lib.hid (HB0.out.trans (hB.mono HB0.out.size))
    have HX1 := Lib.hid ((HX.out.keep hB).more hB.size)
    obtain ⟨c0, c1, c2, c3, c4, c5, c6, c7, c8, c9, c10, c11, c12⟩ := ms_facts (HW0.out.below hB HW0.out.lt)
    clear hB
    go_wp2_with fail
    refine (Few_any hd x _ HX1.out ha hn hdn).mono ?_
    rw [HF.out]
    rintro e w2 ⟨rfl, hB⟩
    have HB2 := Lib.hid (HB1.out.trans (hB.mono HB1.out.size))
    clear hB c0 c1 c2 c3 c4 c5 c6 c7 c8 c9 c10 c11 c12
    go_wp2_with fail
    refine (awake_any _).mono ?_
    rintro e w3 ⟨rfl, hB⟩
    go_wp2_with fail
    go_ret
    exact ⟨rfl, HB2.out.trans (hB.mono HB2.out.size)⟩
  | true =>
    obtain ⟨hsm, h30, h10⟩ := fewM_is hf
    have HF := Lib.hid hf
    have HSR := Lib.hid hsm
    clear hf hsm
    go_enter Tryz.func3, Tryz.ntmps3
    go_wp2_with fail
    rw [← HMV.out, ← HWW.out, ← HG.out]
    refine (awake_any _).mono ?_
    rintro e w1 ⟨rfl, hB⟩
    have HB1 := Lib.hid (HB0.out.trans (hB.mono HB0.out.size))
    have HX1 := Lib.hid ((HX.out.keep hB).more hB.size)
    have HW1 := Lib.hid (HW0.out.below hB HW0.out.lt)
    obtain ⟨c0, c1, c2, c3, c4, c5, c6, c7, c8, c9, c10, c11, c12⟩ := ms_facts HW1.out
    clear hB
    go_wp2_with fail
    refine (Few_any hd x _ HX1.out ha hn hdn).mono ?_
    rw [HF.out]
    rintro e w2 ⟨rfl, hB⟩
    have HB2 := Lib.hid (HB1.out.trans (hB.mono HB1.out.size))
    have HX2 := Lib.hid ((HX1.out.keep hB).more hB.size)
    have HW2 := Lib.hid (HW1.out.below hB HW1.out.lt)
    clear hB c0 c1 c2 c3 c4 c5 c6 c7 c8 c9 c10 c11 c12
    obtain ⟨c0, c1, c2, c3, c4, c5, c6, c7, c8, c9, c10, c11, c12⟩ := ms_facts HW2.out
    go_wp2_with fail
    rw [← HMV.out]
    have HSM := Lib.hid (show SmallM x from ⟨hql, HSR.out.1, HSR.out.2.1, HSR.out.2.2⟩)
    obtain ⟨m, hm⟩ : ∃ m, m = x.toMes hd := ⟨_, rfl⟩
    have HM := Lib.hid hm
    clear hm c0 c1 c2 c3 c4 c5 c6 c7 c8 c9 c10 c11 c12
    refine (Encode_any hd x _ HX2.out HSM.out).mono ?_
    rw [← HM.out]
    obtain ⟨FS, hFS⟩ : ∃ FS, FS = mk (fullW m).1 := ⟨_, rfl⟩
    have hsz : FS.size = (fullW m).1.length := by rw [hFS, mk_size]
    cases hok : okM m with
    | false =>
      have HOK := Lib.hid hok
      have HENC := Lib.hid (show encR m = (empty, 1) by unfold encR; rw [hok]; rfl)
      rw [HENC.out]
      clear hok hFS hsz
      rintro e w3 ⟨rfl, hB⟩
      have HB3 := Lib.hid (HB2.out.trans (hB.mono HB2.out.size))
      have HX3 := Lib.hid ((HX2.out.keep hB).more hB.size)
      have HW3 := Lib.hid (HW2.out.below hB HW2.out.lt)
      clear hB
      obtain ⟨c0, c1, c2, c3, c4, c5, c6, c7, c8, c9, c10, c11, c12⟩ := ms_facts HW3.out
      rw [HMV.out]
      go_wp2_with fail
      rw [← HMV.out]
      refine (RefFormed_any hd x _ HX3.out HSR.out (by omega) (by omega) (by omega) (by omega)).mono ?_
      rw [← HM.out, HOK.out]
      rintro e w4 ⟨rfl, hB⟩
      have HB4 := Lib.hid (HB3.out.trans (hB.mono HB3.out.size))
      have HX4 := Lib.hid ((HX3.out.keep hB).more hB.size)
      have HW4 := Lib.hid (HW3.out.below hB HW3.out.lt)
      clear hB c0 c1 c2 c3 c4 c5 c6 c7 c8 c9 c10 c11 c12
      obtain ⟨c0, c1, c2, c3, c4, c5, c6, c7, c8, c9, c10, c11, c12⟩ := ms_facts HW4.out
      rw [HMV.out]
      go_wp2_with fail
      rw [← HMV.out]
      refine (Formed_any hd x _ HX4.out HSM.out).mono ?_
      rw [← HM.out, HOK.out]
      rintro e w5 ⟨rfl, hB⟩
      have HB5 := Lib.hid (HB4.out.trans (hB.mono HB4.out.size))
      clear hB c0 c1 c2 c3 c4 c5 c6 c7 c8 c9 c10 c11 c12
      have gel := empty_list
      go_wp2_with fail
      go_ret
      exact ⟨rfl, HB5.out⟩
    | true =>
      have HOK := Lib.hid hok
      have HFS := Lib.hid hFS
      have hE : encR m = if (fullW m).1.length ≤ 65535 then (FS, 0) else (empty, 3) := by unfold encR; rw [if_pos hok, hFS]
      obtain ⟨E, hEE⟩ : ∃ E, E = encR m := ⟨_, rfl⟩
      rw [← hEE] at hE ⊢
      have HE := Lib.hid hE
      clear hok hFS hE hEE
      by_cases hlong : FS.size ≤ 65535
      · have hEv : E = (FS, 0) := by rw [HE.out, if_pos (by omega)]
        subst hEv
        clear HE hsz
        simp only
        rintro e w3 ⟨rfl, hB⟩
        have HB3 := Lib.hid (HB2.out.trans (hB.mono HB2.out.size))
        have HX3 := Lib.hid ((HX2.out.keep hB).more hB.size)
        have HW3 := Lib.hid (HW2.out.below hB HW2.out.lt)
        clear hB
        obtain ⟨c0, c1, c2, c3, c4, c5, c6, c7, c8, c9, c10, c11, c12⟩ := ms_facts HW3.out
        rw [HMV.out]
        go_wp2_with fail
        rw [← HMV.out]
        refine (RefFormed_any hd x _ HX3.out HSR.out (by omega) (by omega) (by omega) (by omega)).mono ?_
        rw [← HM.out, HOK.out]
        rintro e w4 ⟨rfl, hB⟩
        have HB4 := Lib.hid (HB3.out.trans (hB.mono HB3.out.size))
        have HX4 := Lib.hid ((HX3.out.keep hB).more hB.size)
        have HW4 := Lib.hid (HW3.out.below hB HW3.out.lt)
        clear hB c0 c1 c2 c3 c4 c5 c6 c7 c8 c9 c10 c11 c12
        obtain ⟨c0, c1, c2, c3, c4, c5, c6, c7, c8, c9, c10, c11, c12⟩ := ms_facts HW4.out
        rw [HMV.out]
        go_wp2_with fail
        rw [← HMV.out]
        refine (RefBytesM_any hd x _ HX4.out (by rw [← HM.out]; exact HOK.out) HF.out).mono ?_
        rw [← HM.out, ← HFS.out]
        rintro e w5 ⟨rfl, hB⟩
        have HB5 := Lib.hid (HB4.out.trans (hB.mono HB4.out.size))
        have HX5 := Lib.hid ((HX4.out.keep hB).more hB.size)
        have HW5 := Lib.hid (HW4.out.below hB HW4.out.lt)
        clear hB c0 c1 c2 c3 c4 c5 c6 c7 c8 c9 c10 c11 c12
        obtain ⟨c0, c1, c2, c3, c4, c5, c6, c7, c8, c9, c10, c11, c12⟩ := ms_facts HW5.out
        rw [HMV.out]
        go_wp2_with fail
        rw [← HMV.out]
        refine (Formed_any hd x _ HX5.out HSM.out).mono ?_
        rw [← HM.out, HOK.out]
        rintro e w6 ⟨rfl, hB⟩
        have HB6 := Lib.hid (HB5.out.trans (hB.mono HB5.out.size))
        clear hB c0 c1 c2 c3 c4 c5 c6 c7 c8 c9 c10 c11 c12
        have g3 : decide ((FS.size : Int) ≤ 65535) = true := by rw [decide_eq_true_iff]; omega
        go_wp2_with fail
        go_ret
        exact ⟨rfl, HB6.out⟩
      · have hEv : E = (empty, 3) := by rw [HE.out, if_neg (by omega)]
        subst hEv
        clear HE hsz
        simp only
        rintro e w3 ⟨rfl, hB⟩
        have HB3 := Lib.hid (HB2.out.trans (hB.mono HB2.out.size))
        have HX3 := Lib.hid ((HX2.out.keep hB).more hB.size)
        have HW3 := Lib.hid (HW2.out.below hB HW2.out.lt)
        clear hB
        obtain ⟨c0, c1, c2, c3, c4, c5, c6, c7, c8, c9, c10, c11, c12⟩ := ms_facts HW3.out
        rw [HMV.out]
        go_wp2_with fail
        rw [← HMV.out]
        refine (RefFormed_any hd x _ HX3.out HSR.out (by omega) (by omega) (by omega) (by omega)).mono ?_
        rw [← HM.out, HOK.out]
        rintro e w4 ⟨rfl, hB⟩
        have HB4 := Lib.hid (HB3.out.trans (hB.mono HB3.out.size))
        have HX4 := Lib.hid ((HX3.out.keep hB).more hB.size)
        have HW4 := Lib.hid (HW3.out.below hB HW3.out.lt)
        clear hB c0 c1 c2 c3 c4 c5 c6 c7 c8 c9 c10 c11 c12
        obtain ⟨c0, c1, c2, c3, c4, c5, c6, c7, c8, c9, c10, c11, c12⟩ := ms_facts HW4.out
        rw [HMV.out]
        go_wp2_with fail
        rw [← HMV.out]
        refine (RefBytesM_any hd x _ HX4.out (by rw [← HM.out]; exact HOK.out) HF.out).mono ?_
        rw [← HM.out, ← HFS.out]
        rintro e w5 ⟨rfl, hB⟩
        have HB5 := Lib.hid (HB4.out.trans (hB.mono HB4.out.size))
        have HX5 := Lib.hid ((HX4.out.keep hB).more hB.size)
        have HW5 := Lib.hid (HW4.out.below hB HW4.out.lt)
        clear hB c0 c1 c2 c3 c4 c5 c6 c7 c8 c9 c10 c11 c12
        obtain ⟨c0, c1, c2, c3, c4, c5, c6, c7, c8, c9, c10, c11, c12⟩ := ms_facts HW5.out
        rw [HMV.out]
        go_wp2_with fail
        rw [← HMV.out]
        refine (Formed_any hd x _ HX5.out HSM.out).mono ?_
        rw [← HM.out, HOK.out]
        rintro e w6 ⟨rfl, hB⟩
        have HB6 := Lib.hid (HB5.out.trans (hB.mono HB5.out.size))
        clear hB c0 c1 c2 c3 c4 c5 c6 c7 c8 c9 c10 c11 c12
        have g3 : decide ((FS.size : Int) ≤ 65535) = false := by rw [decide_eq_false_iff_not]; omega
        have g4 : (65535 : Int) < (FS.size : Int) := by omega
        have gel := empty_list
        go_wp2_with fail
        go_ret
        exact ⟨rfl, HB6.out⟩
end Go.Proofs.YtokjmefleanjaaaGreat
