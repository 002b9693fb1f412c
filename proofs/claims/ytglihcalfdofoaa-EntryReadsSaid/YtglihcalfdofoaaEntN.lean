/- EntryReads. No statement of the seat is proved here. -/
import Derived.Test.YtglihcalfdofoaaEntI
import Derived.Test.YtglihcalfdofoaaEntH
namespace Go.Proofs.Ytglihcalfdofoaa
open Go.RowKit Go.Op

theorem recsE_len (s : ByteArray) : ((recsE s).getD []).length ≤ s.size := by
  unfold recsE
  split
  · cases h : recsP (piecesR s 4).1 with
    | none => exact Nat.zero_le _
    | some l =>
      have h1 := recsP_len _ l h
      have h2 := piecesR_len s 4
      show l.length ≤ s.size
      omega
  · exact Nat.zero_le _
theorem ofE_len (s : ByteArray) : ((ofE s).getD zeroE).xs.length ≤ s.size ∧ ((ofE s).getD zeroE).ys.length ≤ s.size := by
  unfold ofE
  split
  · exact ⟨Nat.zero_le _, Nat.zero_le _⟩
  · have h1 := recsE_len (s.extract 12 s.size)
    rw [ByteArray.size_extract] at h1
    cases h : recsE (s.extract 12 s.size) with
    | none => exact ⟨Nat.zero_le _, Nat.zero_le _⟩
    | some l =>
      rw [h] at h1
      have h2 : l.length ≤ min s.size s.size - 12 := h1
      simp only
      split
      · exact ⟨Nat.zero_le _, Nat.zero_le _⟩
      · show (l.take _).length ≤ s.size ∧ (l.drop _).length ≤ s.size
        rw [List.length_take, List.length_drop]
        omega

set_option maxHeartbeats 8000000 in
set_option maxRecDepth 20000 in
theorem EntryReads_walk (S : ByteArray) (w : World) (_hS : S.size ≤ maxLen) :
    Calls Try.prog 4 #[.string S] w fun e w' => e = .returned (.bool true) ∧ Below w.heap.size w w' := by
  by_cases h3 : S.size ≤ 3000
  · have g1 : ¬ ((3000 : Int) < (S.size : Int)) := by omega
    obtain ⟨E, hE⟩ : ∃ E, E = (ofE S).getD zeroE := ⟨_, rfl⟩
    obtain ⟨L, hL⟩ : ∃ L, L = ((recsE S).getD []).map ofRec := ⟨_, rfl⟩
    have HE := Lib.hid hE
    have HL := Lib.hid hL
    have HEL := Lib.hid (show E.xs.length ≤ 3000 ∧ E.ys.length ≤ 3000 by rw [hE]; have := ofE_len S; omega)
    have HLL := Lib.hid (show L.length ≤ 3000 by rw [hL, List.length_map]; have := recsE_len S; omega)
    clear hE hL
    cases ho : (ofE S).isSome
    all_goals (
      cases hr : (recsE S).isSome
      all_goals (
        have HO := Lib.hid (show errO (ofE S) = _ from by unfold errO; rw [ho])
        have HR := Lib.hid (show errE (recsE S) = _ from by unfold errE; rw [hr])
        simp only [if_true, if_false, Bool.false_eq_true] at HO HR
        have HOB := Lib.hid ho
        have HRB := Lib.hid hr
        clear ho hr
        go_enter Try.func4, Try.ntmps4
        go_wp2_with fail
        refine (awake_any _).mono ?_
        rintro e w1 ⟨rfl, hB⟩
        have HB1 := Lib.hid hB
        clear hB
        go_wp2_with fail
        refine (Of_any S _ (by omega)).mono ?_
        rintro e w2 ⟨A1, n1, c1, A2, n2, c2, rfl, hs1, hs2, hB⟩
        rw [HO.out]
        rw [← HE.out] at hs1 hs2 ⊢
        unfold enA
        have HB2 := Lib.hid (HB1.out.trans (hB.mono HB1.out.size))
        have HY2 := Lib.hid (Whole.new w2 enT (enA E.f E.t A1 n1 c1 A2 n2 c2))
        have hb3 : Below w2.heap.size w2 (w2.alloc (.cells #[.int .u32 E.f, .int .u32 E.t, .slice A1 n1 c1, .slice A2 n2 c2] enT)) := (Below.refl _ _).alloc (Nat.le_refl _) _
        have HB3 := Lib.hid (HB2.out.trans (hb3.mono HB2.out.size))
        have HS1 := Lib.hid ((hs1.keep hb3).more hb3.size)
        have HS2 := Lib.hid ((hs2.keep hb3).more hb3.size)
        clear hB hs1 hs2 hb3
        go_wp2_with fail
        refine (RefOf_any S _ h3).mono ?_
        rintro e w4 ⟨A3, n3, c3, A4, n4, c4, rfl, hs3, hs4, hB⟩
        rw [HOB.out]
        rw [← HE.out] at hs3 hs4 ⊢
        unfold enA
        have HB4 := Lib.hid (HB3.out.trans (hB.mono HB3.out.size))
        have HY4 := Lib.hid (HY2.out.below hB HY2.out.lt)
        have HS3 := Lib.hid ((HS1.out.keep hB).more hB.size)
        have HS4 := Lib.hid ((HS2.out.keep hB).more hB.size)
        have HZ4 := Lib.hid (Whole.new w4 enT (enA E.f E.t A3 n3 c3 A4 n4 c4))
        have hb5 : Below w4.heap.size w4 (w4.alloc (.cells #[.int .u32 E.f, .int .u32 E.t, .slice A3 n3 c3, .slice A4 n4 c4] enT)) := (Below.refl _ _).alloc (Nat.le_refl _) _
        have HB5 := Lib.hid (HB4.out.trans (hb5.mono HB4.out.size))
        have HY5 := Lib.hid (HY4.out.below hb5 HY4.out.lt)
        have HS5 := Lib.hid ((HS3.out.keep hb5).more hb5.size)
        have HS6 := Lib.hid ((HS4.out.keep hb5).more hb5.size)
        have HS7 := Lib.hid ((hs3.keep hb5).more hb5.size)
        have HS8 := Lib.hid ((hs4.keep hb5).more hb5.size)
        clear hB hs3 hs4 hb5
        go_wp2_with fail
        refine (Records_any S _ (by omega)).mono ?_
        rintro e w6 ⟨A5, n5, c5, rfl, hs5, hcap5, hB⟩
        rw [HR.out]
        rw [← HL.out] at hs5
        have HB6 := Lib.hid (HB5.out.trans (hB.mono HB5.out.size))
        have HY6 := Lib.hid (HY5.out.below hB HY5.out.lt)
        have HZ6 := Lib.hid (HZ4.out.below hB HZ4.out.lt)
        have HT5 := Lib.hid ((HS5.out.keep hB).more hB.size)
        have HT6 := Lib.hid ((HS6.out.keep hB).more hB.size)
        have HT7 := Lib.hid ((HS7.out.keep hB).more hB.size)
        have HT8 := Lib.hid ((HS8.out.keep hB).more hB.size)
        have HL5 := Lib.hid hs5
        have HC5 := Lib.hid hcap5
        clear hB hs5 hcap5
        go_wp2_with fail
        refine (RefRecords_any S _ h3).mono ?_
        rintro e w7 ⟨A6, n6, c6, rfl, hs6, hcap6, hB⟩
        rw [HRB.out]
        rw [← HL.out] at hs6
        have HB7 := Lib.hid (HB6.out.trans (hB.mono HB6.out.size))
        have HY7 := Lib.hid (HY6.out.below hB HY6.out.lt)
        have HZ7 := Lib.hid (HZ6.out.below hB HZ6.out.lt)
        have HU5 := Lib.hid ((HT5.out.keep hB).more hB.size)
        have HU6 := Lib.hid ((HT6.out.keep hB).more hB.size)
        have HU7 := Lib.hid ((HT7.out.keep hB).more hB.size)
        have HU8 := Lib.hid ((HT8.out.keep hB).more hB.size)
        have HM5 := Lib.hid ((HL5.out.keep hB).more hB.size)
        have HM6 := Lib.hid hs6
        obtain ⟨c0, c1', c2', c3'⟩ := en_facts HY7.out
        obtain ⟨d0, d1, d2, d3⟩ := en_facts HZ7.out
        have hb1 : n1 ≤ 1073741824 := by have h1 := HU5.out.1; have h2 := HEL.out.1; rw [List.length_map] at h1; omega
        have hb2 : n2 ≤ 1073741824 := by have h1 := HU6.out.1; have h2 := HEL.out.2; rw [List.length_map] at h1; omega
        have hb5 : n5 ≤ 1073741824 := by have h1 := HM5.out.1; have h2 := HLL.out; omega
        clear hB hs6 hcap6
        go_wp2_with fail
        refine (ESame_yes E.f E.t A1 A2 A3 A4 n1 c1 n2 c2 n3 c3 n4 c4 _ _ _ HU5.out HU6.out HU7.out HU8.out hb1 hb2).mono ?_
        rintro e w8 ⟨rfl, hB⟩
        have HB8 := Lib.hid (HB7.out.trans (hB.mono HB7.out.size))
        have HN5 := Lib.hid ((HM5.out.keep hB).more hB.size)
        have HN6 := Lib.hid ((HM6.out.keep hB).more hB.size)
        clear hB c0 c1' c2' c3' d0 d1 d2 d3
        go_wp2_with fail
        refine (SameR_yes A5 A6 n5 c5 n6 c6 L _ HN5.out HN6.out hb5).mono ?_
        rintro e w9 ⟨rfl, hB⟩
        have HB9 := Lib.hid (HB8.out.trans (hB.mono HB8.out.size))
        clear hB
        go_wp2_with fail
        go_ret
        exact ⟨rfl, HB9.out⟩))
  · have g1 : (3000 : Int) < (S.size : Int) := by omega
    go_enter Try.func4, Try.ntmps4
    go_wp2_with fail
    refine (awake_any _).mono ?_
    rintro e w1 ⟨rfl, hB⟩
    have HB1 := Lib.hid hB
    clear hB
    go_wp2_with fail
    refine (awake_any _).mono ?_
    rintro e w2 ⟨rfl, hB⟩
    have HB2 := Lib.hid (HB1.out.trans (hB.mono HB1.out.size))
    clear hB
    go_wp2_with fail
    go_ret
    exact ⟨rfl, HB2.out⟩
end Go.Proofs.Ytglihcalfdofoaa
