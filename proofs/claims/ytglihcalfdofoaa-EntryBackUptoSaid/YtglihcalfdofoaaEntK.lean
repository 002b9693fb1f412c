/- EntryBack. No statement of the seat is proved here. -/
import Derived.Test.YtglihcalfdofoaaEntJ
import Derived.Test.YtglihcalfdofoaaEntE
namespace Go.Proofs.Ytglihcalfdofoaa
open Go.RowKit Go.Op

theorem back_recs (xs : List Rrd) : (xs.map Rrd.toRec).map ofRec = xs := by
  induction xs with
  | nil => rfl
  | cons x xs ih =>
    rw [List.map_cons, List.map_cons, ih]
    have h : ofRec x.toRec = x := by
      obtain ⟨s, t, c, l, d⟩ := x
      show (⟨mk s.data.toList, t, c, l, mk d.data.toList⟩ : Rrd) = _
      rw [mk_toList, mk_toList]
    rw [h]
set_option maxHeartbeats 4000000 in
set_option maxRecDepth 20000 in
theorem EntryBack_walk (f t : Int) (A A' : Option Addr) (n c n' c' : Nat) (xs ys : List Rrd) (w : World) (h1 : SeesR w w.heap.size A n xs) (h2 : SeesR w w.heap.size A' n' ys) (hf : u32 f) (ht : u32 t) (hn : n ≤ 100000000) (hn' : n' ≤ 100000000) :
    Calls Try.prog 6 #[.agg #[.int .u32 f, .int .u32 t, .slice A n c, .slice A' n' c']] w fun e w' => e = .returned (.bool true) ∧ Below w.heap.size w w' := by
  have HB0 := Lib.hid (show Below w.heap.size w (w.alloc (.cells #[.int .u32 f, .int .u32 t, .slice A n c, .slice A' n' c'] enT)) from (Below.refl _ _).alloc (Nat.le_refl _) _)
  have HW0 := Lib.hid (Whole.new w enT (enA f t A n c A' n' c'))
  have H1 := Lib.hid h1
  have H2 := Lib.hid h2
  have HF := Lib.hid hf
  have HT := Lib.hid ht
  have HXN := Lib.hid h1.1
  have HYN := Lib.hid h2.1
  clear h1 h2 hf ht
  go_enter Try.func6, Try.ntmps6
  go_wp2_with fail
  refine (awake_any _).mono ?_
  rintro e w1 ⟨rfl, hB⟩
  have HB1 := Lib.hid (HB0.out.trans (hB.mono HB0.out.size))
  have HW1 := Lib.hid (HW0.out.below hB HW0.out.lt)
  clear hB
  obtain ⟨c0, c1, c2, c3⟩ := en_facts HW1.out
  go_wp2_with fail
  refine (Few_any f t A A' n c n' c' xs ys _ ((H1.out.keep HB1.out).more HB1.out.size) ((H2.out.keep HB1.out).more HB1.out.size) hn hn').mono ?_
  rintro e w2 ⟨rfl, hB⟩
  have HB2 := Lib.hid (HB1.out.trans (hB.mono HB1.out.size))
  have HW2 := Lib.hid (HW1.out.below hB HW1.out.lt)
  clear hB c0 c1 c2 c3
  cases hfw : fewE xs ys with
  | false =>
    clear hfw
    go_wp2_with fail
    refine (awake_any _).mono ?_
    rintro e w3 ⟨rfl, hB⟩
    have HB3 := Lib.hid (HB2.out.trans (hB.mono HB2.out.size))
    clear hB
    go_wp2_with fail
    go_ret
    exact ⟨rfl, HB3.out⟩
  | true =>
    obtain ⟨hsm, h30⟩ := few_is hfw
    have hN : n + n' ≤ 30 := by rw [List.length_append, HXN.out, HYN.out] at h30; exact h30
    have HSM := Lib.hid hsm
    clear hfw hsm h30
    obtain ⟨c0, c1, c2, c3⟩ := en_facts HW2.out
    go_wp2_with fail
    refine (Formed_any f t A A' n c n' c' xs ys _ ((H1.out.keep HB2.out).more HB2.out.size) ((H2.out.keep HB2.out).more HB2.out.size) (by omega) (by omega) HSM.out).mono ?_
    rintro e w3 ⟨rfl, hB⟩
    have HB3 := Lib.hid (HB2.out.trans (hB.mono HB2.out.size))
    have HW3 := Lib.hid (HW2.out.below hB HW2.out.lt)
    clear hB c0 c1 c2 c3
    obtain ⟨c0, c1, c2, c3⟩ := en_facts HW3.out
    cases hok : okE (entOf f t xs ys) with
    | false =>
      clear hok
      go_wp2_with fail
      refine (awake_any _).mono ?_
      rintro e w4 ⟨rfl, hB⟩
      have HB4 := Lib.hid (HB3.out.trans (hB.mono HB3.out.size))
      clear hB
      go_wp2_with fail
      go_ret
      exact ⟨rfl, HB4.out⟩
    | true =>
      have HO := Lib.hid hok
      obtain ⟨E, hE⟩ : ∃ E, E = entOf f t xs ys := ⟨_, rfl⟩
      have hEf : E.f = f := by rw [hE]; rfl
      have hEt : E.t = t := by rw [hE]; rfl
      have hEx : E.xs = xs.map Rrd.toRec := by rw [hE]; rfl
      have hEy : E.ys = ys.map Rrd.toRec := by rw [hE]; rfl
      obtain ⟨Bv, hBv⟩ : ∃ Bv, Bv = mk (bytesE E) := ⟨_, rfl⟩
      have hbl := bytes_len (e := E) (by rw [hE]; exact hok) (fun r hr => by
        rw [hEx, hEy, ← List.map_append] at hr
        obtain ⟨x, hx, rfl⟩ := List.mem_map.1 hr
        have := (HSM.out x hx).2
        rw [rrd_data x, mk_size] at this
        exact this)
      have hbn : (E.xs ++ E.ys).length ≤ 30 := by rw [hEx, hEy, List.length_append, List.length_map, List.length_map, HXN.out, HYN.out]; exact hN
      have hBz : Bv.size = (bytesE E).length := by rw [hBv, mk_size]
      have hB12 : (12 : Int) ≤ (Bv.size : Int) := by omega
      have hB80 : Bv.size ≤ 800000 := by omega
      have hBe : bytesT (entOf f t xs ys) = .tuple #[.string Bv, .int .i64 0] := by unfold bytesT; rw [if_pos hok, hBv, hE]
      have HOF := Lib.hid (show ofE Bv = some E by rw [hBv]; exact of_bytes (by rw [hE]; exact hok) (by rw [hEf]; exact HF.out) (by rw [hEt]; exact HT.out) (by rw [List.length_append] at hbn; omega))
      have HOS := Lib.hid (show ofE (Bv.extract 0 (Bv.size - 1)) = none by rw [hBz, hBv, mk_shorter]; exact of_short (by rw [hE]; exact hok))
      have HBE := Lib.hid hBe
      have HEX := Lib.hid (show E.xs.map ofRec = xs by rw [hEx]; exact back_recs xs)
      have HEY := Lib.hid (show E.ys.map ofRec = ys by rw [hEy]; exact back_recs ys)
      have HEF := Lib.hid hEf
      have HET := Lib.hid hEt
      clear hok hE hEf hEt hEx hEy hBv hbl hbn hBz hBe
      go_wp2_with fail
      refine (EBytes_any f t A A' n c n' c' xs ys _ ((H1.out.keep HB3.out).more HB3.out.size) ((H2.out.keep HB3.out).more HB3.out.size) HF.out HT.out hN HSM.out).mono ?_
      rw [HBE.out]
      rintro e w4 ⟨rfl, hB⟩
      have HB4 := Lib.hid (HB3.out.trans (hB.mono HB3.out.size))
      have HW4 := Lib.hid (HW3.out.below hB HW3.out.lt)
      clear hB c0 c1 c2 c3
      have g12 : ¬ ((Bv.size : Int) < 12) := by omega
      go_wp2_with fail
      refine (Of_any Bv _ hB80).mono ?_
      rintro e w5 ⟨A1, n1, c1, A2, n2, c2, rfl, hs1, hs2, hB⟩
      have hz : errO (ofE Bv) = .int .i64 0 := by unfold errO; rw [HOF.out]; rfl
      have hg : (ofE Bv).getD zeroE = E := by rw [HOF.out]; rfl
      rw [hg] at hs1 hs2 ⊢
      rw [hz]
      rw [HEX.out] at hs1
      rw [HEY.out] at hs2
      rw [HEF.out, HET.out]
      have HB5 := Lib.hid (HB4.out.trans (hB.mono HB4.out.size))
      have HW5 := Lib.hid (HW4.out.below hB HW4.out.lt)
      have HY5 := Lib.hid (Whole.new w5 enT (enA f t A1 n1 c1 A2 n2 c2))
      have HW6 := Lib.hid (HW5.out.alloc (.cells (enA f t A1 n1 c1 A2 n2 c2) enT))
      have HB6 := Lib.hid (HB5.out.alloc HB5.out.size (.cells (enA f t A1 n1 c1 A2 n2 c2) enT))
      have hb6 : Below w5.heap.size w5 (w5.alloc (.cells (enA f t A1 n1 c1 A2 n2 c2) enT)) := (Below.refl _ _).alloc (Nat.le_refl _) _
      have HS1 := Lib.hid ((hs1.keep hb6).more hb6.size)
      have HS2 := Lib.hid ((hs2.keep hb6).more hb6.size)
      clear hB hs1 hs2 hb6 hz hg
      unfold enA at *
      go_wp2_with fail
      refine (Of_any (Bv.extract 0 (Bv.size - 1)) _ (by rw [ByteArray.size_extract]; omega)).mono ?_
      rintro e w7 ⟨A3, n3, c3v, A4, n4, c4, rfl, _, _, hB⟩
      have hz : errO (ofE (Bv.extract 0 (Bv.size - 1))) = .int .i64 2 := by unfold errO; rw [HOS.out]; rfl
      rw [hz]
      unfold enA
      obtain ⟨F3, hF3⟩ : ∃ F, F = ((ofE (Bv.extract 0 (Bv.size - 1))).getD zeroE).f := ⟨_, rfl⟩
      obtain ⟨T3, hT3⟩ : ∃ F, F = ((ofE (Bv.extract 0 (Bv.size - 1))).getD zeroE).t := ⟨_, rfl⟩
      rw [← hF3, ← hT3]
      have HB7 := Lib.hid (HB6.out.trans (hB.mono HB6.out.size))
      have HW7 := Lib.hid (HW6.out.below hB HW6.out.lt)
      have HY7 := Lib.hid (HY5.out.below hB HY5.out.lt)
      have HS3 := Lib.hid ((HS1.out.keep hB).more hB.size)
      have HS4 := Lib.hid ((HS2.out.keep hB).more hB.size)
      have hb8 : Below w7.heap.size w7 (w7.alloc (.cells #[.int .u32 F3, .int .u32 T3, .slice A3 n3 c3v, .slice A4 n4 c4] enT)) := (Below.refl _ _).alloc (Nat.le_refl _) _
      have HB8 := Lib.hid (HB7.out.trans (hb8.mono HB7.out.size))
      have HW8 := Lib.hid (HW7.out.below hb8 HW7.out.lt)
      have HY8 := Lib.hid (HY7.out.below hb8 HY7.out.lt)
      have HS5 := Lib.hid ((HS3.out.keep hb8).more hb8.size)
      have HS6 := Lib.hid ((HS4.out.keep hb8).more hb8.size)
      obtain ⟨c0, c1, c2, c3⟩ := en_facts HW8.out
      obtain ⟨d0, d1, d2, d3⟩ := en_facts HY8.out
      clear hB hb8 hz hF3 hT3
      go_wp2_with fail
      refine (ESame_yes f t A A' A1 A2 n c n' c' n1 _ n2 _ xs ys _ ((H1.out.keep HB8.out).more HB8.out.size) ((H2.out.keep HB8.out).more HB8.out.size) HS5.out HS6.out (by omega) (by omega)).mono ?_
      rintro e w9 ⟨rfl, hB⟩
      have HB9 := Lib.hid (HB8.out.trans (hB.mono HB8.out.size))
      clear hB
      go_wp2_with fail
      go_ret
      exact ⟨rfl, HB9.out⟩
end Go.Proofs.Ytglihcalfdofoaa
