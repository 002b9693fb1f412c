/- RecordTells. No statement of the seat is proved here. (written by gen_h.py) -/
import Derived.Test.YtdanncclnhkmgaaRecF
namespace Go.Proofs.Ytdanncclnhkmgaa
open Go.RowKit

theorem few_is {N D : ByteArray} {n d : List UInt8} (h : fewB N.size D.size = true) (hN : N = mk n) (hD : D = mk d) : n.length ≤ 600 ∧ d.length ≤ 2000 := by
  unfold fewB at h
  rw [hN, hD, mk_size, mk_size] at h
  simpa using h
/-- a record of ours for one that came in -/
def recOf (N D : ByteArray) (t c l : Int) : Rec := ⟨N.data.toList, t, c, l, D.data.toList⟩
theorem recOf_n (N D : ByteArray) (t c l : Int) : N = mk (recOf N D t c l).n := (mk_toList N).symm
theorem recOf_d (N D : ByteArray) (t c l : Int) : D = mk (recOf N D t c l).d := (mk_toList D).symm

set_option maxHeartbeats 4000000 in
set_option maxRecDepth 20000 in
theorem RecordTells_walk (N D N' D' : ByteArray) (t c l t' c' l' : Int) (w : World) :
    Calls Try.prog 3 #[.agg (rrA N D t c l), .agg (rrA N' D' t' c' l')] w fun e w' => e = .returned (.bool true) ∧ Below w.heap.size w w' := by
  obtain ⟨hW0, hW1, hB0⟩ := two_new w (rrA N D t c l) (rrA N' D' t' c' l') rrT rrT
  have HB0 := Lib.hid hB0
  have HW0 := Lib.hid hW0
  have HX0 := Lib.hid hW1
  clear hB0 hW0 hW1
  unfold rrA at *
  obtain ⟨fa, hfa⟩ : ∃ fa, fa = fewB N.size D.size := ⟨_, rfl⟩
  obtain ⟨fb, hfb⟩ : ∃ fb, fb = fewB N'.size D'.size := ⟨_, rfl⟩
  have HFA := Lib.hid hfa
  have HFB := Lib.hid hfb
  clear hfa hfb
  cases fa with
  | false =>
    go_enter Try.func3, Try.ntmps3
    go_wp2_with fail
    refine (awake_any _).mono ?_
    rintro e w1 ⟨rfl, hB⟩
    have HB1 := Lib.hid (HB0.out.trans (hB.mono HB0.out.size))
    have HW1 := Lib.hid (HW0.out.below hB HW0.out.lt)
    have HX1 := Lib.hid (HX0.out.below hB HX0.out.lt)
    clear hB
    obtain ⟨k0, k1, k2, k3, k4⟩ := rr_facts HW1.out
    obtain ⟨m0, m1, m2, m3, m4⟩ := rr_facts HX1.out
    go_wp2_with fail
    refine (few_any N D t c l _).mono ?_
    rw [← HFA.out]
    rintro e w2 ⟨rfl, hB⟩
    have HB2 := Lib.hid (HB1.out.trans (hB.mono HB1.out.size))
    have HW2 := Lib.hid (HW1.out.below hB HW1.out.lt)
    have HX2 := Lib.hid (HX1.out.below hB HX1.out.lt)
    clear hB
    go_wp2_with fail
    refine (awake_any _).mono ?_
    rintro e w9 ⟨rfl, hB⟩
    go_wp2_with fail
    go_ret
    exact ⟨rfl, HB2.out.trans (hB.mono HB2.out.size)⟩
  | true =>
    cases fb with
    | false =>
      go_enter Try.func3, Try.ntmps3
      go_wp2_with fail
      refine (awake_any _).mono ?_
      rintro e w1 ⟨rfl, hB⟩
      have HB1 := Lib.hid (HB0.out.trans (hB.mono HB0.out.size))
      have HW1 := Lib.hid (HW0.out.below hB HW0.out.lt)
      have HX1 := Lib.hid (HX0.out.below hB HX0.out.lt)
      clear hB
      obtain ⟨k0, k1, k2, k3, k4⟩ := rr_facts HW1.out
      obtain ⟨m0, m1, m2, m3, m4⟩ := rr_facts HX1.out
      go_wp2_with fail
      refine (few_any N D t c l _).mono ?_
      rw [← HFA.out]
      rintro e w2 ⟨rfl, hB⟩
      have HB2 := Lib.hid (HB1.out.trans (hB.mono HB1.out.size))
      have HW2 := Lib.hid (HW1.out.below hB HW1.out.lt)
      have HX2 := Lib.hid (HX1.out.below hB HX1.out.lt)
      clear hB
      clear k0 k1 k2 k3 k4
      clear m0 m1 m2 m3 m4
      obtain ⟨k0, k1, k2, k3, k4⟩ := rr_facts HW2.out
      obtain ⟨m0, m1, m2, m3, m4⟩ := rr_facts HX2.out
      go_wp2_with fail
      refine (few_any N' D' t' c' l' _).mono ?_
      rw [← HFB.out]
      rintro e w3 ⟨rfl, hB⟩
      have HB3 := Lib.hid (HB2.out.trans (hB.mono HB2.out.size))
      have HW3 := Lib.hid (HW2.out.below hB HW2.out.lt)
      have HX3 := Lib.hid (HX2.out.below hB HX2.out.lt)
      clear hB
      go_wp2_with fail
      refine (awake_any _).mono ?_
      rintro e w9 ⟨rfl, hB⟩
      go_wp2_with fail
      go_ret
      exact ⟨rfl, HB3.out.trans (hB.mono HB3.out.size)⟩
    | true =>
      obtain ⟨hn, hd⟩ := few_is HFA.out.symm (recOf_n N D t c l) (recOf_d N D t c l)
      obtain ⟨hn', hd'⟩ := few_is HFB.out.symm (recOf_n N' D' t' c' l') (recOf_d N' D' t' c' l')
      obtain ⟨RA, hRA⟩ : ∃ RA, RA = okR (recOf N D t c l) := ⟨_, rfl⟩
      obtain ⟨OB, hOB⟩ : ∃ OB, OB = oneR (recOf N D t c l) (recOf N' D' t' c' l') := ⟨_, rfl⟩
      obtain ⟨SA, hSA⟩ : ∃ SA, SA = mk (saidR t (recOf N D t c l).d) := ⟨_, rfl⟩
      obtain ⟨CX, hCX⟩ : ∃ CX, CX = cmpR (recOf N D t c l) (recOf N' D' t' c' l') := ⟨_, rfl⟩
      have hself : (SA.toList == SA.toList) = true := by simp
      have hCC : (CX == CX) = true := by simp
      have HL1 := Lib.hid (show ∀ (V : World) (q : Later V), Calls Try.prog 9 #[.agg #[.string N, .int .i64 t, .int .i64 c, .int .i64 l, .string D]] q.val fun e w'' => e = .returned (.bool RA) ∧ ∃ q' : Later V, w'' = q'.val from
        fun V q => later_call (by rw [hRA]; exact RRight_any N D (recOf N D t c l) _ (recOf_n N D t c l) (recOf_d N D t c l) (by omega) (by omega)))
      have HL2 := Lib.hid (show ∀ (V : World) (q : Later V), Calls Try.prog 10 #[.agg #[.string N, .int .i64 t, .int .i64 c, .int .i64 l, .string D]] q.val fun e w'' => e = .returned (.bool RA) ∧ ∃ q' : Later V, w'' = q'.val from
        fun V q => later_call (by rw [hRA]; exact RefRRight_any N D (recOf N D t c l) _ (recOf_n N D t c l) (recOf_d N D t c l) (by omega)))
      have HL3 := Lib.hid (show ∀ (V : World) (q : Later V), Calls Try.prog 11 #[.agg #[.string N, .int .i64 t, .int .i64 c, .int .i64 l, .string D]] q.val fun e w'' => e = .returned (.string SA) ∧ ∃ q' : Later V, w'' = q'.val from
        fun V q => later_call (by rw [hSA]; exact Said_any N D t c l _ _ (recOf_d N D t c l) (by omega)))
      have HL4 := Lib.hid (show ∀ (V : World) (q : Later V), Calls Try.prog 12 #[.agg #[.string N, .int .i64 t, .int .i64 c, .int .i64 l, .string D]] q.val fun e w'' => e = .returned (.string SA) ∧ ∃ q' : Later V, w'' = q'.val from
        fun V q => later_call (by rw [hSA]; exact RefSaid_any N D t c l _ _ (recOf_d N D t c l) (by omega)))
      have HL5 := Lib.hid (show ∀ (V : World) (q : Later V), Calls Try.prog 13 #[.agg #[.string N, .int .i64 t, .int .i64 c, .int .i64 l, .string D], .agg #[.string N', .int .i64 t', .int .i64 c', .int .i64 l', .string D']] q.val fun e w'' => e = .returned (.bool OB) ∧ ∃ q' : Later V, w'' = q'.val from
        fun V q => later_call (by rw [hOB]; exact One_any N D N' D' (recOf N D t c l) (recOf N' D' t' c' l') _ (recOf_n N D t c l) (recOf_d N D t c l) (recOf_n N' D' t' c' l') (recOf_d N' D' t' c' l') (by omega) (by omega) (by omega) (by omega)))
      have HL6 := Lib.hid (show ∀ (V : World) (q : Later V), Calls Try.prog 14 #[.agg #[.string N, .int .i64 t, .int .i64 c, .int .i64 l, .string D], .agg #[.string N', .int .i64 t', .int .i64 c', .int .i64 l', .string D']] q.val fun e w'' => e = .returned (.bool OB) ∧ ∃ q' : Later V, w'' = q'.val from
        fun V q => later_call (by rw [hOB]; exact RefOne_any N D N' D' (recOf N D t c l) (recOf N' D' t' c' l') _ (recOf_n N D t c l) (recOf_d N D t c l) (recOf_n N' D' t' c' l') (recOf_d N' D' t' c' l') (by omega) (by omega)))
      have HL7 := Lib.hid (show ∀ (V : World) (q : Later V), Calls Try.prog 15 #[.agg #[.string N, .int .i64 t, .int .i64 c, .int .i64 l, .string D], .agg #[.string N', .int .i64 t', .int .i64 c', .int .i64 l', .string D']] q.val fun e w'' => e = .returned (.int .i64 CX) ∧ ∃ q' : Later V, w'' = q'.val from
        fun V q => later_call (by rw [hCX]; exact RCompare_any N D N' D' (recOf N D t c l) (recOf N' D' t' c' l') _ (recOf_n N D t c l) (recOf_d N D t c l) (recOf_n N' D' t' c' l') (recOf_d N' D' t' c' l') (by omega) (by omega) (by omega) (by omega)))
      have HL8 := Lib.hid (show ∀ (V : World) (q : Later V), Calls Try.prog 16 #[.agg #[.string N, .int .i64 t, .int .i64 c, .int .i64 l, .string D], .agg #[.string N', .int .i64 t', .int .i64 c', .int .i64 l', .string D']] q.val fun e w'' => e = .returned (.int .i64 CX) ∧ ∃ q' : Later V, w'' = q'.val from
        fun V q => later_call (by rw [hCX]; exact RefRCompare_any N D N' D' (recOf N D t c l) (recOf N' D' t' c' l') _ (recOf_n N D t c l) (recOf_d N D t c l) (recOf_n N' D' t' c' l') (recOf_d N' D' t' c' l') (by omega) (by omega)))
      clear hRA hOB hSA hCX hn hd hn' hd'
      cases RA <;> cases OB
      all_goals (
        go_enter Try.func3, Try.ntmps3
        go_wp2_with fail
        refine (awake_any _).mono ?_
        rintro e w1 ⟨rfl, hB⟩
        have HB1 := Lib.hid (HB0.out.trans (hB.mono HB0.out.size))
        have HW1 := Lib.hid (HW0.out.below hB HW0.out.lt)
        have HX1 := Lib.hid (HX0.out.below hB HX0.out.lt)
        clear hB
        obtain ⟨k0, k1, k2, k3, k4⟩ := rr_facts HW1.out
        obtain ⟨m0, m1, m2, m3, m4⟩ := rr_facts HX1.out
        go_wp2_with fail
        refine (few_any N D t c l _).mono ?_
        rw [← HFA.out]
        rintro e w2 ⟨rfl, hB⟩
        have HB2 := Lib.hid (HB1.out.trans (hB.mono HB1.out.size))
        have HW2 := Lib.hid (HW1.out.below hB HW1.out.lt)
        have HX2 := Lib.hid (HX1.out.below hB HX1.out.lt)
        clear hB
        clear k0 k1 k2 k3 k4
        clear m0 m1 m2 m3 m4
        obtain ⟨k0, k1, k2, k3, k4⟩ := rr_facts HW2.out
        obtain ⟨m0, m1, m2, m3, m4⟩ := rr_facts HX2.out
        go_wp2_with fail
        refine (few_any N' D' t' c' l' _).mono ?_
        rw [← HFB.out]
        rintro e w3 ⟨rfl, hB⟩
        have HB3 := Lib.hid (HB2.out.trans (hB.mono HB2.out.size))
        have HW3 := Lib.hid (HW2.out.below hB HW2.out.lt)
        have HX3 := Lib.hid (HX2.out.below hB HX2.out.lt)
        clear hB
        clear k0 k1 k2 k3 k4 m0 m1 m2 m3 m4
        obtain ⟨k0, k1, k2, k3, k4⟩ := rr_facts HW3.out
        obtain ⟨m0, m1, m2, m3, m4⟩ := rr_facts HX3.out
        go_wp2_with fail
        clear k0 k1 k2 k3 k4 m0 m1 m2 m3 m4
        obtain ⟨d0, d1, d2, d3, d4⟩ := rr_later HW3.out
        obtain ⟨e0, e1, e2, e3, e4⟩ := rr_later HX3.out
        refine region_later (by kernel_rfl) ?_
        repeat (go_big_quiet_step ((first
          | (go_at_call 9; with_reducible exact HL1.out _ _)
          | (go_at_call 10; with_reducible exact HL2.out _ _)
          | (go_at_call 11; with_reducible exact HL3.out _ _)
          | (go_at_call 12; with_reducible exact HL4.out _ _)
          | (go_at_call 13; with_reducible exact HL5.out _ _)
          | (go_at_call 14; with_reducible exact HL6.out _ _)
          | (go_at_call 15; with_reducible exact HL7.out _ _)
          | (go_at_call 16; with_reducible exact HL8.out _ _))))
        refine wpQuiet_nil ?_
        rintro _ ⟨q2, rfl⟩
        go_wp2_with fail
        go_ret
        exact ⟨rfl, HB3.out.trans (q2.below.mono HB3.out.size)⟩)
end Go.Proofs.Ytdanncclnhkmgaa
