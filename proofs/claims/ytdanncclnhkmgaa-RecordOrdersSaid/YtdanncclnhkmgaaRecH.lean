/- RecordOrders. No statement of the seat is proved here. (written by gen_o.py) -/
import Derived.Test.YtdanncclnhkmgaaRecG
namespace Go.Proofs.Ytdanncclnhkmgaa
open Go.RowKit

theorem three_new (w : World) (a b c : Array Value) (ta tb tc : TypeId) :
    Whole (((w.alloc (.cells a ta)).alloc (.cells b tb)).alloc (.cells c tc)) w.heap.size ta a ∧ Whole (((w.alloc (.cells a ta)).alloc (.cells b tb)).alloc (.cells c tc)) (w.heap.size + 1) tb b ∧
    Whole (((w.alloc (.cells a ta)).alloc (.cells b tb)).alloc (.cells c tc)) (w.heap.size + 1 + 1) tc c ∧ Below w.heap.size w (((w.alloc (.cells a ta)).alloc (.cells b tb)).alloc (.cells c tc)) := by
  have h0 := Whole.new w ta a
  have h1 := Whole.new (w.alloc (.cells a ta)) tb b
  have h2 := Whole.new ((w.alloc (.cells a ta)).alloc (.cells b tb)) tc c
  simp only [World.size_alloc] at h1 h2
  exact ⟨(h0.alloc _).alloc _, h1.alloc _, h2, (((Below.refl _ _).alloc (Nat.le_refl _) _).alloc (by simp) _).alloc (by simp; omega) _⟩

set_option maxHeartbeats 4000000 in
set_option maxRecDepth 20000 in
theorem RecordOrders_walk (N D N' D' E F : ByteArray) (t c l t' c' l' t'' c'' l'' : Int) (w : World) :
    Calls Try.prog 5 #[.agg (rrA N D t c l), .agg (rrA N' D' t' c' l'), .agg (rrA E F t'' c'' l'')] w fun e w' => e = .returned (.bool true) ∧ Below w.heap.size w w' := by
  obtain ⟨hW0, hW1, hW2, hB0⟩ := three_new w (rrA N D t c l) (rrA N' D' t' c' l') (rrA E F t'' c'' l'') rrT rrT rrT
  have HB0 := Lib.hid hB0
  have HW0 := Lib.hid hW0
  have HX0 := Lib.hid hW1
  have HY0 := Lib.hid hW2
  clear hB0 hW0 hW1 hW2
  unfold rrA at *
  obtain ⟨fa, hfa⟩ : ∃ fa, fa = fewB N.size D.size := ⟨_, rfl⟩
  have HFA := Lib.hid hfa
  obtain ⟨fb, hfb⟩ : ∃ fb, fb = fewB N'.size D'.size := ⟨_, rfl⟩
  have HFB := Lib.hid hfb
  obtain ⟨fc, hfc⟩ : ∃ fc, fc = fewB E.size F.size := ⟨_, rfl⟩
  have HFC := Lib.hid hfc
  obtain ⟨ra, hra⟩ : ∃ ra, ra = okR (recOf N D t c l) := ⟨_, rfl⟩
  have HRA := Lib.hid hra
  obtain ⟨rb, hrb⟩ : ∃ rb, rb = okR (recOf N' D' t' c' l') := ⟨_, rfl⟩
  have HRB := Lib.hid hrb
  obtain ⟨rc, hrc⟩ : ∃ rc, rc = okR (recOf E F t'' c'' l'') := ⟨_, rfl⟩
  have HRC := Lib.hid hrc
  clear hfa hfb hfc hra hrb hrc
  cases fa with
  | false =>
    go_enter Try.func5, Try.ntmps5
    go_wp2_with fail
    refine (awake_any _).mono ?_
    rintro e w1 ⟨rfl, hB⟩
    have HB1 := Lib.hid (HB0.out.trans (hB.mono HB0.out.size))
    have HW1 := Lib.hid (HW0.out.below hB HW0.out.lt)
    have HX1 := Lib.hid (HX0.out.below hB HX0.out.lt)
    have HY1 := Lib.hid (HY0.out.below hB HY0.out.lt)
    clear hB
    obtain ⟨k0, k1, k2, k3, k4⟩ := rr_facts HW1.out
    obtain ⟨m0, m1, m2, m3, m4⟩ := rr_facts HX1.out
    obtain ⟨n0, n1, n2, n3, n4⟩ := rr_facts HY1.out
    go_wp2_with fail
    refine (few_any N D t c l _).mono ?_
    rw [← HFA.out]
    rintro e w2 ⟨rfl, hB⟩
    have HB2 := Lib.hid (HB1.out.trans (hB.mono HB1.out.size))
    have HW2 := Lib.hid (HW1.out.below hB HW1.out.lt)
    have HX2 := Lib.hid (HX1.out.below hB HX1.out.lt)
    have HY2 := Lib.hid (HY1.out.below hB HY1.out.lt)
    clear hB
    go_wp2_with fail
    refine (awake_any _).mono ?_
    rintro e w9 ⟨rfl, hB⟩
    go_wp2_with fail
    go_ret
    exact ⟨rfl, HB2.out.trans (hB.mono HB2.out.size)⟩
  | true =>
    obtain ⟨hn, hd⟩ := few_is HFA.out.symm (recOf_n N D t c l) (recOf_d N D t c l)
    cases fb with
    | false =>
      go_enter Try.func5, Try.ntmps5
      go_wp2_with fail
      refine (awake_any _).mono ?_
      rintro e w1 ⟨rfl, hB⟩
      have HB1 := Lib.hid (HB0.out.trans (hB.mono HB0.out.size))
      have HW1 := Lib.hid (HW0.out.below hB HW0.out.lt)
      have HX1 := Lib.hid (HX0.out.below hB HX0.out.lt)
      have HY1 := Lib.hid (HY0.out.below hB HY0.out.lt)
      clear hB
      obtain ⟨k0, k1, k2, k3, k4⟩ := rr_facts HW1.out
      obtain ⟨m0, m1, m2, m3, m4⟩ := rr_facts HX1.out
      obtain ⟨n0, n1, n2, n3, n4⟩ := rr_facts HY1.out
      go_wp2_with fail
      refine (few_any N D t c l _).mono ?_
      rw [← HFA.out]
      rintro e w2 ⟨rfl, hB⟩
      have HB2 := Lib.hid (HB1.out.trans (hB.mono HB1.out.size))
      have HW2 := Lib.hid (HW1.out.below hB HW1.out.lt)
      have HX2 := Lib.hid (HX1.out.below hB HX1.out.lt)
      have HY2 := Lib.hid (HY1.out.below hB HY1.out.lt)
      clear hB
      clear k0 k1 k2 k3 k4 m0 m1 m2 m3 m4 n0 n1 n2 n3 n4
      obtain ⟨k0, k1, k2, k3, k4⟩ := rr_facts HW2.out
      obtain ⟨m0, m1, m2, m3, m4⟩ := rr_facts HX2.out
      obtain ⟨n0, n1, n2, n3, n4⟩ := rr_facts HY2.out
      go_wp2_with fail
      refine (few_any N' D' t' c' l' _).mono ?_
      rw [← HFB.out]
      rintro e w3 ⟨rfl, hB⟩
      have HB3 := Lib.hid (HB2.out.trans (hB.mono HB2.out.size))
      have HW3 := Lib.hid (HW2.out.below hB HW2.out.lt)
      have HX3 := Lib.hid (HX2.out.below hB HX2.out.lt)
      have HY3 := Lib.hid (HY2.out.below hB HY2.out.lt)
      clear hB
      go_wp2_with fail
      refine (awake_any _).mono ?_
      rintro e w9 ⟨rfl, hB⟩
      go_wp2_with fail
      go_ret
      exact ⟨rfl, HB3.out.trans (hB.mono HB3.out.size)⟩
    | true =>
      obtain ⟨hn', hd'⟩ := few_is HFB.out.symm (recOf_n N' D' t' c' l') (recOf_d N' D' t' c' l')
      cases fc with
      | false =>
        go_enter Try.func5, Try.ntmps5
        go_wp2_with fail
        refine (awake_any _).mono ?_
        rintro e w1 ⟨rfl, hB⟩
        have HB1 := Lib.hid (HB0.out.trans (hB.mono HB0.out.size))
        have HW1 := Lib.hid (HW0.out.below hB HW0.out.lt)
        have HX1 := Lib.hid (HX0.out.below hB HX0.out.lt)
        have HY1 := Lib.hid (HY0.out.below hB HY0.out.lt)
        clear hB
        obtain ⟨k0, k1, k2, k3, k4⟩ := rr_facts HW1.out
        obtain ⟨m0, m1, m2, m3, m4⟩ := rr_facts HX1.out
        obtain ⟨n0, n1, n2, n3, n4⟩ := rr_facts HY1.out
        go_wp2_with fail
        refine (few_any N D t c l _).mono ?_
        rw [← HFA.out]
        rintro e w2 ⟨rfl, hB⟩
        have HB2 := Lib.hid (HB1.out.trans (hB.mono HB1.out.size))
        have HW2 := Lib.hid (HW1.out.below hB HW1.out.lt)
        have HX2 := Lib.hid (HX1.out.below hB HX1.out.lt)
        have HY2 := Lib.hid (HY1.out.below hB HY1.out.lt)
        clear hB
        clear k0 k1 k2 k3 k4 m0 m1 m2 m3 m4 n0 n1 n2 n3 n4
        obtain ⟨k0, k1, k2, k3, k4⟩ := rr_facts HW2.out
        obtain ⟨m0, m1, m2, m3, m4⟩ := rr_facts HX2.out
        obtain ⟨n0, n1, n2, n3, n4⟩ := rr_facts HY2.out
        go_wp2_with fail
        refine (few_any N' D' t' c' l' _).mono ?_
        rw [← HFB.out]
        rintro e w3 ⟨rfl, hB⟩
        have HB3 := Lib.hid (HB2.out.trans (hB.mono HB2.out.size))
        have HW3 := Lib.hid (HW2.out.below hB HW2.out.lt)
        have HX3 := Lib.hid (HX2.out.below hB HX2.out.lt)
        have HY3 := Lib.hid (HY2.out.below hB HY2.out.lt)
        clear hB
        clear k0 k1 k2 k3 k4 m0 m1 m2 m3 m4 n0 n1 n2 n3 n4
        obtain ⟨k0, k1, k2, k3, k4⟩ := rr_facts HW3.out
        obtain ⟨m0, m1, m2, m3, m4⟩ := rr_facts HX3.out
        obtain ⟨n0, n1, n2, n3, n4⟩ := rr_facts HY3.out
        go_wp2_with fail
        refine (few_any E F t'' c'' l'' _).mono ?_
        rw [← HFC.out]
        rintro e w4 ⟨rfl, hB⟩
        have HB4 := Lib.hid (HB3.out.trans (hB.mono HB3.out.size))
        have HW4 := Lib.hid (HW3.out.below hB HW3.out.lt)
        have HX4 := Lib.hid (HX3.out.below hB HX3.out.lt)
        have HY4 := Lib.hid (HY3.out.below hB HY3.out.lt)
        clear hB
        go_wp2_with fail
        refine (awake_any _).mono ?_
        rintro e w9 ⟨rfl, hB⟩
        go_wp2_with fail
        go_ret
        exact ⟨rfl, HB4.out.trans (hB.mono HB4.out.size)⟩
      | true =>
        obtain ⟨hn'', hd''⟩ := few_is HFC.out.symm (recOf_n E F t'' c'' l'') (recOf_d E F t'' c'' l'')
        cases ra with
        | false =>
          go_enter Try.func5, Try.ntmps5
          go_wp2_with fail
          refine (awake_any _).mono ?_
          rintro e w1 ⟨rfl, hB⟩
          have HB1 := Lib.hid (HB0.out.trans (hB.mono HB0.out.size))
          have HW1 := Lib.hid (HW0.out.below hB HW0.out.lt)
          have HX1 := Lib.hid (HX0.out.below hB HX0.out.lt)
          have HY1 := Lib.hid (HY0.out.below hB HY0.out.lt)
          clear hB
          obtain ⟨k0, k1, k2, k3, k4⟩ := rr_facts HW1.out
          obtain ⟨m0, m1, m2, m3, m4⟩ := rr_facts HX1.out
          obtain ⟨n0, n1, n2, n3, n4⟩ := rr_facts HY1.out
          go_wp2_with fail
          refine (few_any N D t c l _).mono ?_
          rw [← HFA.out]
          rintro e w2 ⟨rfl, hB⟩
          have HB2 := Lib.hid (HB1.out.trans (hB.mono HB1.out.size))
          have HW2 := Lib.hid (HW1.out.below hB HW1.out.lt)
          have HX2 := Lib.hid (HX1.out.below hB HX1.out.lt)
          have HY2 := Lib.hid (HY1.out.below hB HY1.out.lt)
          clear hB
          clear k0 k1 k2 k3 k4 m0 m1 m2 m3 m4 n0 n1 n2 n3 n4
          obtain ⟨k0, k1, k2, k3, k4⟩ := rr_facts HW2.out
          obtain ⟨m0, m1, m2, m3, m4⟩ := rr_facts HX2.out
          obtain ⟨n0, n1, n2, n3, n4⟩ := rr_facts HY2.out
          go_wp2_with fail
          refine (few_any N' D' t' c' l' _).mono ?_
          rw [← HFB.out]
          rintro e w3 ⟨rfl, hB⟩
          have HB3 := Lib.hid (HB2.out.trans (hB.mono HB2.out.size))
          have HW3 := Lib.hid (HW2.out.below hB HW2.out.lt)
          have HX3 := Lib.hid (HX2.out.below hB HX2.out.lt)
          have HY3 := Lib.hid (HY2.out.below hB HY2.out.lt)
          clear hB
          clear k0 k1 k2 k3 k4 m0 m1 m2 m3 m4 n0 n1 n2 n3 n4
          obtain ⟨k0, k1, k2, k3, k4⟩ := rr_facts HW3.out
          obtain ⟨m0, m1, m2, m3, m4⟩ := rr_facts HX3.out
          obtain ⟨n0, n1, n2, n3, n4⟩ := rr_facts HY3.out
          go_wp2_with fail
          refine (few_any E F t'' c'' l'' _).mono ?_
          rw [← HFC.out]
          rintro e w4 ⟨rfl, hB⟩
          have HB4 := Lib.hid (HB3.out.trans (hB.mono HB3.out.size))
          have HW4 := Lib.hid (HW3.out.below hB HW3.out.lt)
          have HX4 := Lib.hid (HX3.out.below hB HX3.out.lt)
          have HY4 := Lib.hid (HY3.out.below hB HY3.out.lt)
          clear hB
          clear k0 k1 k2 k3 k4 m0 m1 m2 m3 m4 n0 n1 n2 n3 n4
          obtain ⟨k0, k1, k2, k3, k4⟩ := rr_facts HW4.out
          obtain ⟨m0, m1, m2, m3, m4⟩ := rr_facts HX4.out
          obtain ⟨n0, n1, n2, n3, n4⟩ := rr_facts HY4.out
          go_wp2_with fail
          refine (RefRRight_any N D (recOf N D t c l) _ (recOf_n N D t c l) (recOf_d N D t c l) (by omega)).mono ?_
          rw [← HRA.out]
          rintro e w5 ⟨rfl, hB⟩
          have HB5 := Lib.hid (HB4.out.trans (hB.mono HB4.out.size))
          have HW5 := Lib.hid (HW4.out.below hB HW4.out.lt)
          have HX5 := Lib.hid (HX4.out.below hB HX4.out.lt)
          have HY5 := Lib.hid (HY4.out.below hB HY4.out.lt)
          clear hB
          go_wp2_with fail
          refine (awake_any _).mono ?_
          rintro e w9 ⟨rfl, hB⟩
          go_wp2_with fail
          go_ret
          exact ⟨rfl, HB5.out.trans (hB.mono HB5.out.size)⟩
        | true =>
          cases rb with
          | false =>
            go_enter Try.func5, Try.ntmps5
            go_wp2_with fail
            refine (awake_any _).mono ?_
            rintro e w1 ⟨rfl, hB⟩
            have HB1 := Lib.hid (HB0.out.trans (hB.mono HB0.out.size))
            have HW1 := Lib.hid (HW0.out.below hB HW0.out.lt)
            have HX1 := Lib.hid (HX0.out.below hB HX0.out.lt)
            have HY1 := Lib.hid (HY0.out.below hB HY0.out.lt)
            clear hB
            obtain ⟨k0, k1, k2, k3, k4⟩ := rr_facts HW1.out
            obtain ⟨m0, m1, m2, m3, m4⟩ := rr_facts HX1.out
            obtain ⟨n0, n1, n2, n3, n4⟩ := rr_facts HY1.out
            go_wp2_with fail
            refine (few_any N D t c l _).mono ?_
            rw [← HFA.out]
            rintro e w2 ⟨rfl, hB⟩
            have HB2 := Lib.hid (HB1.out.trans (hB.mono HB1.out.size))
            have HW2 := Lib.hid (HW1.out.below hB HW1.out.lt)
            have HX2 := Lib.hid (HX1.out.below hB HX1.out.lt)
            have HY2 := Lib.hid (HY1.out.below hB HY1.out.lt)
            clear hB
            clear k0 k1 k2 k3 k4 m0 m1 m2 m3 m4 n0 n1 n2 n3 n4
            obtain ⟨k0, k1, k2, k3, k4⟩ := rr_facts HW2.out
            obtain ⟨m0, m1, m2, m3, m4⟩ := rr_facts HX2.out
            obtain ⟨n0, n1, n2, n3, n4⟩ := rr_facts HY2.out
            go_wp2_with fail
            refine (few_any N' D' t' c' l' _).mono ?_
            rw [← HFB.out]
            rintro e w3 ⟨rfl, hB⟩
            have HB3 := Lib.hid (HB2.out.trans (hB.mono HB2.out.size))
            have HW3 := Lib.hid (HW2.out.below hB HW2.out.lt)
            have HX3 := Lib.hid (HX2.out.below hB HX2.out.lt)
            have HY3 := Lib.hid (HY2.out.below hB HY2.out.lt)
            clear hB
            clear k0 k1 k2 k3 k4 m0 m1 m2 m3 m4 n0 n1 n2 n3 n4
            obtain ⟨k0, k1, k2, k3, k4⟩ := rr_facts HW3.out
            obtain ⟨m0, m1, m2, m3, m4⟩ := rr_facts HX3.out
            obtain ⟨n0, n1, n2, n3, n4⟩ := rr_facts HY3.out
            go_wp2_with fail
            refine (few_any E F t'' c'' l'' _).mono ?_
            rw [← HFC.out]
            rintro e w4 ⟨rfl, hB⟩
            have HB4 := Lib.hid (HB3.out.trans (hB.mono HB3.out.size))
            have HW4 := Lib.hid (HW3.out.below hB HW3.out.lt)
            have HX4 := Lib.hid (HX3.out.below hB HX3.out.lt)
            have HY4 := Lib.hid (HY3.out.below hB HY3.out.lt)
            clear hB
            clear k0 k1 k2 k3 k4 m0 m1 m2 m3 m4 n0 n1 n2 n3 n4
            obtain ⟨k0, k1, k2, k3, k4⟩ := rr_facts HW4.out
            obtain ⟨m0, m1, m2, m3, m4⟩ := rr_facts HX4.out
            obtain ⟨n0, n1, n2, n3, n4⟩ := rr_facts HY4.out
            go_wp2_with fail
            refine (RefRRight_any N D (recOf N D t c l) _ (recOf_n N D t c l) (recOf_d N D t c l) (by omega)).mono ?_
            rw [← HRA.out]
            rintro e w5 ⟨rfl, hB⟩
            have HB5 := Lib.hid (HB4.out.trans (hB.mono HB4.out.size))
            have HW5 := Lib.hid (HW4.out.below hB HW4.out.lt)
            have HX5 := Lib.hid (HX4.out.below hB HX4.out.lt)
            have HY5 := Lib.hid (HY4.out.below hB HY4.out.lt)
            clear hB
            clear k0 k1 k2 k3 k4 m0 m1 m2 m3 m4 n0 n1 n2 n3 n4
            obtain ⟨k0, k1, k2, k3, k4⟩ := rr_facts HW5.out
            obtain ⟨m0, m1, m2, m3, m4⟩ := rr_facts HX5.out
            obtain ⟨n0, n1, n2, n3, n4⟩ := rr_facts HY5.out
            go_wp2_with fail
            refine (RefRRight_any N' D' (recOf N' D' t' c' l') _ (recOf_n N' D' t' c' l') (recOf_d N' D' t' c' l') (by omega)).mono ?_
            rw [← HRB.out]
            rintro e w6 ⟨rfl, hB⟩
            have HB6 := Lib.hid (HB5.out.trans (hB.mono HB5.out.size))
            have HW6 := Lib.hid (HW5.out.below hB HW5.out.lt)
            have HX6 := Lib.hid (HX5.out.below hB HX5.out.lt)
            have HY6 := Lib.hid (HY5.out.below hB HY5.out.lt)
            clear hB
            go_wp2_with fail
            refine (awake_any _).mono ?_
            rintro e w9 ⟨rfl, hB⟩
            go_wp2_with fail
            go_ret
            exact ⟨rfl, HB6.out.trans (hB.mono HB6.out.size)⟩
          | true =>
            cases rc with
            | false =>
              go_enter Try.func5, Try.ntmps5
              go_wp2_with fail
              refine (awake_any _).mono ?_
              rintro e w1 ⟨rfl, hB⟩
              have HB1 := Lib.hid (HB0.out.trans (hB.mono HB0.out.size))
              have HW1 := Lib.hid (HW0.out.below hB HW0.out.lt)
              have HX1 := Lib.hid (HX0.out.below hB HX0.out.lt)
              have HY1 := Lib.hid (HY0.out.below hB HY0.out.lt)
              clear hB
              obtain ⟨k0, k1, k2, k3, k4⟩ := rr_facts HW1.out
              obtain ⟨m0, m1, m2, m3, m4⟩ := rr_facts HX1.out
              obtain ⟨n0, n1, n2, n3, n4⟩ := rr_facts HY1.out
              go_wp2_with fail
              refine (few_any N D t c l _).mono ?_
              rw [← HFA.out]
              rintro e w2 ⟨rfl, hB⟩
              have HB2 := Lib.hid (HB1.out.trans (hB.mono HB1.out.size))
              have HW2 := Lib.hid (HW1.out.below hB HW1.out.lt)
              have HX2 := Lib.hid (HX1.out.below hB HX1.out.lt)
              have HY2 := Lib.hid (HY1.out.below hB HY1.out.lt)
              clear hB
              clear k0 k1 k2 k3 k4 m0 m1 m2 m3 m4 n0 n1 n2 n3 n4
              obtain ⟨k0, k1, k2, k3, k4⟩ := rr_facts HW2.out
              obtain ⟨m0, m1, m2, m3, m4⟩ := rr_facts HX2.out
              obtain ⟨n0, n1, n2, n3, n4⟩ := rr_facts HY2.out
              go_wp2_with fail
              refine (few_any N' D' t' c' l' _).mono ?_
              rw [← HFB.out]
              rintro e w3 ⟨rfl, hB⟩
              have HB3 := Lib.hid (HB2.out.trans (hB.mono HB2.out.size))
              have HW3 := Lib.hid (HW2.out.below hB HW2.out.lt)
              have HX3 := Lib.hid (HX2.out.below hB HX2.out.lt)
              have HY3 := Lib.hid (HY2.out.below hB HY2.out.lt)
              clear hB
              clear k0 k1 k2 k3 k4 m0 m1 m2 m3 m4 n0 n1 n2 n3 n4
              obtain ⟨k0, k1, k2, k3, k4⟩ := rr_facts HW3.out
              obtain ⟨m0, m1, m2, m3, m4⟩ := rr_facts HX3.out
              obtain ⟨n0, n1, n2, n3, n4⟩ := rr_facts HY3.out
              go_wp2_with fail
              refine (few_any E F t'' c'' l'' _).mono ?_
              rw [← HFC.out]
              rintro e w4 ⟨rfl, hB⟩
              have HB4 := Lib.hid (HB3.out.trans (hB.mono HB3.out.size))
              have HW4 := Lib.hid (HW3.out.below hB HW3.out.lt)
              have HX4 := Lib.hid (HX3.out.below hB HX3.out.lt)
              have HY4 := Lib.hid (HY3.out.below hB HY3.out.lt)
              clear hB
              clear k0 k1 k2 k3 k4 m0 m1 m2 m3 m4 n0 n1 n2 n3 n4
              obtain ⟨k0, k1, k2, k3, k4⟩ := rr_facts HW4.out
              obtain ⟨m0, m1, m2, m3, m4⟩ := rr_facts HX4.out
              obtain ⟨n0, n1, n2, n3, n4⟩ := rr_facts HY4.out
              go_wp2_with fail
              refine (RefRRight_any N D (recOf N D t c l) _ (recOf_n N D t c l) (recOf_d N D t c l) (by omega)).mono ?_
              rw [← HRA.out]
              rintro e w5 ⟨rfl, hB⟩
              have HB5 := Lib.hid (HB4.out.trans (hB.mono HB4.out.size))
              have HW5 := Lib.hid (HW4.out.below hB HW4.out.lt)
              have HX5 := Lib.hid (HX4.out.below hB HX4.out.lt)
              have HY5 := Lib.hid (HY4.out.below hB HY4.out.lt)
              clear hB
              clear k0 k1 k2 k3 k4 m0 m1 m2 m3 m4 n0 n1 n2 n3 n4
              obtain ⟨k0, k1, k2, k3, k4⟩ := rr_facts HW5.out
              obtain ⟨m0, m1, m2, m3, m4⟩ := rr_facts HX5.out
              obtain ⟨n0, n1, n2, n3, n4⟩ := rr_facts HY5.out
              go_wp2_with fail
              refine (RefRRight_any N' D' (recOf N' D' t' c' l') _ (recOf_n N' D' t' c' l') (recOf_d N' D' t' c' l') (by omega)).mono ?_
              rw [← HRB.out]
              rintro e w6 ⟨rfl, hB⟩
              have HB6 := Lib.hid (HB5.out.trans (hB.mono HB5.out.size))
              have HW6 := Lib.hid (HW5.out.below hB HW5.out.lt)
              have HX6 := Lib.hid (HX5.out.below hB HX5.out.lt)
              have HY6 := Lib.hid (HY5.out.below hB HY5.out.lt)
              clear hB
              clear k0 k1 k2 k3 k4 m0 m1 m2 m3 m4 n0 n1 n2 n3 n4
              obtain ⟨k0, k1, k2, k3, k4⟩ := rr_facts HW6.out
              obtain ⟨m0, m1, m2, m3, m4⟩ := rr_facts HX6.out
              obtain ⟨n0, n1, n2, n3, n4⟩ := rr_facts HY6.out
              go_wp2_with fail
              refine (RefRRight_any E F (recOf E F t'' c'' l'') _ (recOf_n E F t'' c'' l'') (recOf_d E F t'' c'' l'') (by omega)).mono ?_
              rw [← HRC.out]
              rintro e w7 ⟨rfl, hB⟩
              have HB7 := Lib.hid (HB6.out.trans (hB.mono HB6.out.size))
              have HW7 := Lib.hid (HW6.out.below hB HW6.out.lt)
              have HX7 := Lib.hid (HX6.out.below hB HX6.out.lt)
              have HY7 := Lib.hid (HY6.out.below hB HY6.out.lt)
              clear hB
              go_wp2_with fail
              refine (awake_any _).mono ?_
              rintro e w9 ⟨rfl, hB⟩
              go_wp2_with fail
              go_ret
              exact ⟨rfl, HB7.out.trans (hB.mono HB7.out.size)⟩
            | true =>
              obtain ⟨⟨L0, hL0⟩, _⟩ := ok_parts HRA.out.symm
              obtain ⟨⟨L1, hL1⟩, _⟩ := ok_parts HRB.out.symm
              obtain ⟨⟨L2, hL2⟩, _⟩ := ok_parts HRC.out.symm
              have hord := cmpR_three hL0 hL1 hL2
              have hflip := cmpR_flip (recOf N D t c l) (recOf N' D' t' c' l')
              have hone := cmpR_one hL0 hL1
              have hone2 := cmpR_one hL1 hL0
              obtain ⟨X, hX⟩ : ∃ X, X = cmpR (recOf N D t c l) (recOf N' D' t' c' l') := ⟨_, rfl⟩
              obtain ⟨Y, hY⟩ : ∃ Y, Y = cmpR (recOf N' D' t' c' l') (recOf E F t'' c'' l'') := ⟨_, rfl⟩
              obtain ⟨Z, hZ⟩ : ∃ Z, Z = cmpR (recOf N D t c l) (recOf E F t'' c'' l'') := ⟨_, rfl⟩
              obtain ⟨XB, hXB⟩ : ∃ XB, XB = cmpR (recOf N' D' t' c' l') (recOf N D t c l) := ⟨_, rfl⟩
              obtain ⟨O1, hO1⟩ : ∃ O1, O1 = oneR (recOf N D t c l) (recOf N' D' t' c' l') := ⟨_, rfl⟩
              obtain ⟨O2, hO2⟩ : ∃ O2, O2 = oneR (recOf N' D' t' c' l') (recOf N D t c l) := ⟨_, rfl⟩
              rw [← hX, ← hY, ← hZ] at hord
              rw [← hX, ← hXB] at hflip
              rw [← hX, ← hO1] at hone
              rw [← hXB, ← hO2] at hone2
              have HL1 := Lib.hid (show ∀ (V : World) (q : Later V), Calls Try.prog 15 #[.agg #[.string N, .int .i64 t, .int .i64 c, .int .i64 l, .string D], .agg #[.string N', .int .i64 t', .int .i64 c', .int .i64 l', .string D']] q.val fun e w'' => e = .returned (.int .i64 X) ∧ ∃ q' : Later V, w'' = q'.val from
                  fun V q => later_call (by rw [hX]; exact RCompare_any N D N' D' (recOf N D t c l) (recOf N' D' t' c' l') _ (recOf_n N D t c l) (recOf_d N D t c l) (recOf_n N' D' t' c' l') (recOf_d N' D' t' c' l') (by omega) (by omega) (by omega) (by omega)))
              have HL2 := Lib.hid (show ∀ (V : World) (q : Later V), Calls Try.prog 15 #[.agg #[.string N', .int .i64 t', .int .i64 c', .int .i64 l', .string D'], .agg #[.string E, .int .i64 t'', .int .i64 c'', .int .i64 l'', .string F]] q.val fun e w'' => e = .returned (.int .i64 Y) ∧ ∃ q' : Later V, w'' = q'.val from
                  fun V q => later_call (by rw [hY]; exact RCompare_any N' D' E F (recOf N' D' t' c' l') (recOf E F t'' c'' l'') _ (recOf_n N' D' t' c' l') (recOf_d N' D' t' c' l') (recOf_n E F t'' c'' l'') (recOf_d E F t'' c'' l'') (by omega) (by omega) (by omega) (by omega)))
              have HL3 := Lib.hid (show ∀ (V : World) (q : Later V), Calls Try.prog 15 #[.agg #[.string N, .int .i64 t, .int .i64 c, .int .i64 l, .string D], .agg #[.string E, .int .i64 t'', .int .i64 c'', .int .i64 l'', .string F]] q.val fun e w'' => e = .returned (.int .i64 Z) ∧ ∃ q' : Later V, w'' = q'.val from
                  fun V q => later_call (by rw [hZ]; exact RCompare_any N D E F (recOf N D t c l) (recOf E F t'' c'' l'') _ (recOf_n N D t c l) (recOf_d N D t c l) (recOf_n E F t'' c'' l'') (recOf_d E F t'' c'' l'') (by omega) (by omega) (by omega) (by omega)))
              have HL4 := Lib.hid (show ∀ (V : World) (q : Later V), Calls Try.prog 15 #[.agg #[.string N', .int .i64 t', .int .i64 c', .int .i64 l', .string D'], .agg #[.string N, .int .i64 t, .int .i64 c, .int .i64 l, .string D]] q.val fun e w'' => e = .returned (.int .i64 XB) ∧ ∃ q' : Later V, w'' = q'.val from
                  fun V q => later_call (by rw [hXB]; exact RCompare_any N' D' N D (recOf N' D' t' c' l') (recOf N D t c l) _ (recOf_n N' D' t' c' l') (recOf_d N' D' t' c' l') (recOf_n N D t c l) (recOf_d N D t c l) (by omega) (by omega) (by omega) (by omega)))
              have HL5 := Lib.hid (show ∀ (V : World) (q : Later V), Calls Try.prog 13 #[.agg #[.string N, .int .i64 t, .int .i64 c, .int .i64 l, .string D], .agg #[.string N', .int .i64 t', .int .i64 c', .int .i64 l', .string D']] q.val fun e w'' => e = .returned (.bool O1) ∧ ∃ q' : Later V, w'' = q'.val from
                  fun V q => later_call (by rw [hO1]; exact One_any N D N' D' (recOf N D t c l) (recOf N' D' t' c' l') _ (recOf_n N D t c l) (recOf_d N D t c l) (recOf_n N' D' t' c' l') (recOf_d N' D' t' c' l') (by omega) (by omega) (by omega) (by omega)))
              have HL6 := Lib.hid (show ∀ (V : World) (q : Later V), Calls Try.prog 13 #[.agg #[.string N', .int .i64 t', .int .i64 c', .int .i64 l', .string D'], .agg #[.string N, .int .i64 t, .int .i64 c, .int .i64 l, .string D]] q.val fun e w'' => e = .returned (.bool O2) ∧ ∃ q' : Later V, w'' = q'.val from
                  fun V q => later_call (by rw [hO2]; exact One_any N' D' N D (recOf N' D' t' c' l') (recOf N D t c l) _ (recOf_n N' D' t' c' l') (recOf_d N' D' t' c' l') (recOf_n N D t c l) (recOf_d N D t c l) (by omega) (by omega) (by omega) (by omega)))
              have HORD := Lib.hid hord
              have HFL := Lib.hid hflip
              have HO1 := Lib.hid hone
              have HO2 := Lib.hid hone2
              clear hX hY hZ hXB hO1 hO2 hord hflip hone hone2 hL0 hL1 hL2
              go_enter Try.func5, Try.ntmps5
              go_wp2_with fail
              refine (awake_any _).mono ?_
              rintro e w1 ⟨rfl, hB⟩
              have HB1 := Lib.hid (HB0.out.trans (hB.mono HB0.out.size))
              have HW1 := Lib.hid (HW0.out.below hB HW0.out.lt)
              have HX1 := Lib.hid (HX0.out.below hB HX0.out.lt)
              have HY1 := Lib.hid (HY0.out.below hB HY0.out.lt)
              clear hB
              obtain ⟨k0, k1, k2, k3, k4⟩ := rr_facts HW1.out
              obtain ⟨m0, m1, m2, m3, m4⟩ := rr_facts HX1.out
              obtain ⟨n0, n1, n2, n3, n4⟩ := rr_facts HY1.out
              go_wp2_with fail
              refine (few_any N D t c l _).mono ?_
              rw [← HFA.out]
              rintro e w2 ⟨rfl, hB⟩
              have HB2 := Lib.hid (HB1.out.trans (hB.mono HB1.out.size))
              have HW2 := Lib.hid (HW1.out.below hB HW1.out.lt)
              have HX2 := Lib.hid (HX1.out.below hB HX1.out.lt)
              have HY2 := Lib.hid (HY1.out.below hB HY1.out.lt)
              clear hB
              clear k0 k1 k2 k3 k4 m0 m1 m2 m3 m4 n0 n1 n2 n3 n4
              obtain ⟨k0, k1, k2, k3, k4⟩ := rr_facts HW2.out
              obtain ⟨m0, m1, m2, m3, m4⟩ := rr_facts HX2.out
              obtain ⟨n0, n1, n2, n3, n4⟩ := rr_facts HY2.out
              go_wp2_with fail
              refine (few_any N' D' t' c' l' _).mono ?_
              rw [← HFB.out]
              rintro e w3 ⟨rfl, hB⟩
              have HB3 := Lib.hid (HB2.out.trans (hB.mono HB2.out.size))
              have HW3 := Lib.hid (HW2.out.below hB HW2.out.lt)
              have HX3 := Lib.hid (HX2.out.below hB HX2.out.lt)
              have HY3 := Lib.hid (HY2.out.below hB HY2.out.lt)
              clear hB
              clear k0 k1 k2 k3 k4 m0 m1 m2 m3 m4 n0 n1 n2 n3 n4
              obtain ⟨k0, k1, k2, k3, k4⟩ := rr_facts HW3.out
              obtain ⟨m0, m1, m2, m3, m4⟩ := rr_facts HX3.out
              obtain ⟨n0, n1, n2, n3, n4⟩ := rr_facts HY3.out
              go_wp2_with fail
              refine (few_any E F t'' c'' l'' _).mono ?_
              rw [← HFC.out]
              rintro e w4 ⟨rfl, hB⟩
              have HB4 := Lib.hid (HB3.out.trans (hB.mono HB3.out.size))
              have HW4 := Lib.hid (HW3.out.below hB HW3.out.lt)
              have HX4 := Lib.hid (HX3.out.below hB HX3.out.lt)
              have HY4 := Lib.hid (HY3.out.below hB HY3.out.lt)
              clear hB
              clear k0 k1 k2 k3 k4 m0 m1 m2 m3 m4 n0 n1 n2 n3 n4
              obtain ⟨k0, k1, k2, k3, k4⟩ := rr_facts HW4.out
              obtain ⟨m0, m1, m2, m3, m4⟩ := rr_facts HX4.out
              obtain ⟨n0, n1, n2, n3, n4⟩ := rr_facts HY4.out
              go_wp2_with fail
              refine (RefRRight_any N D (recOf N D t c l) _ (recOf_n N D t c l) (recOf_d N D t c l) (by omega)).mono ?_
              rw [← HRA.out]
              rintro e w5 ⟨rfl, hB⟩
              have HB5 := Lib.hid (HB4.out.trans (hB.mono HB4.out.size))
              have HW5 := Lib.hid (HW4.out.below hB HW4.out.lt)
              have HX5 := Lib.hid (HX4.out.below hB HX4.out.lt)
              have HY5 := Lib.hid (HY4.out.below hB HY4.out.lt)
              clear hB
              clear k0 k1 k2 k3 k4 m0 m1 m2 m3 m4 n0 n1 n2 n3 n4
              obtain ⟨k0, k1, k2, k3, k4⟩ := rr_facts HW5.out
              obtain ⟨m0, m1, m2, m3, m4⟩ := rr_facts HX5.out
              obtain ⟨n0, n1, n2, n3, n4⟩ := rr_facts HY5.out
              go_wp2_with fail
              refine (RefRRight_any N' D' (recOf N' D' t' c' l') _ (recOf_n N' D' t' c' l') (recOf_d N' D' t' c' l') (by omega)).mono ?_
              rw [← HRB.out]
              rintro e w6 ⟨rfl, hB⟩
              have HB6 := Lib.hid (HB5.out.trans (hB.mono HB5.out.size))
              have HW6 := Lib.hid (HW5.out.below hB HW5.out.lt)
              have HX6 := Lib.hid (HX5.out.below hB HX5.out.lt)
              have HY6 := Lib.hid (HY5.out.below hB HY5.out.lt)
              clear hB
              clear k0 k1 k2 k3 k4 m0 m1 m2 m3 m4 n0 n1 n2 n3 n4
              obtain ⟨k0, k1, k2, k3, k4⟩ := rr_facts HW6.out
              obtain ⟨m0, m1, m2, m3, m4⟩ := rr_facts HX6.out
              obtain ⟨n0, n1, n2, n3, n4⟩ := rr_facts HY6.out
              go_wp2_with fail
              refine (RefRRight_any E F (recOf E F t'' c'' l'') _ (recOf_n E F t'' c'' l'') (recOf_d E F t'' c'' l'') (by omega)).mono ?_
              rw [← HRC.out]
              rintro e w7 ⟨rfl, hB⟩
              have HB7 := Lib.hid (HB6.out.trans (hB.mono HB6.out.size))
              have HW7 := Lib.hid (HW6.out.below hB HW6.out.lt)
              have HX7 := Lib.hid (HX6.out.below hB HX6.out.lt)
              have HY7 := Lib.hid (HY6.out.below hB HY6.out.lt)
              clear hB
              clear k0 k1 k2 k3 k4 m0 m1 m2 m3 m4 n0 n1 n2 n3 n4
              obtain ⟨k0, k1, k2, k3, k4⟩ := rr_facts HW7.out
              obtain ⟨m0, m1, m2, m3, m4⟩ := rr_facts HX7.out
              obtain ⟨n0, n1, n2, n3, n4⟩ := rr_facts HY7.out
              go_wp2_with fail
              clear k0 k1 k2 k3 k4 m0 m1 m2 m3 m4 n0 n1 n2 n3 n4
              obtain ⟨d0, d1, d2, d3, d4⟩ := rr_later HW7.out
              obtain ⟨e0, e1, e2, e3, e4⟩ := rr_later HX7.out
              obtain ⟨f0, f1, f2, f3, f4⟩ := rr_later HY7.out
              refine region_later (by kernel_rfl) ?_
              repeat (go_big_quiet_step ((first
                | (go_at_call 15; with_reducible exact HL1.out _ _)
                | (go_at_call 15; with_reducible exact HL2.out _ _)
                | (go_at_call 15; with_reducible exact HL3.out _ _))))
              refine wpQuiet_nil ?_
              rintro _ ⟨q2, rfl⟩
              obtain ⟨w8, hB⟩ := q2
              simp only []
              have HB8 := Lib.hid (HB7.out.trans (hB.mono HB7.out.size))
              have HW8 := Lib.hid (HW7.out.below hB HW7.out.lt)
              have HX8 := Lib.hid (HX7.out.below hB HX7.out.lt)
              have HY8 := Lib.hid (HY7.out.below hB HY7.out.lt)
              clear hB
              clear d0 d1 d2 d3 d4 e0 e1 e2 e3 e4 f0 f1 f2 f3 f4
              go_wp2_with fail
              obtain ⟨d0, d1, d2, d3, d4⟩ := rr_later HW8.out
              obtain ⟨e0, e1, e2, e3, e4⟩ := rr_later HX8.out
              obtain ⟨f0, f1, f2, f3, f4⟩ := rr_later HY8.out
              have hord := HORD.out
              have hfl := HFL.out
              have ho1 := HO1.out
              have ho2 := HO2.out
              obtain ⟨_, _, _, hcase⟩ := hord
              rcases hcase with hx | ⟨hx, hy⟩ | ⟨hx, hy⟩ | ⟨hx, hy, hz⟩ | ⟨hx, hy, hz⟩ | ⟨hx, hy, hz⟩ | ⟨hx, hy, hz⟩
              all_goals (
                subst hx
                try subst hy
                try subst hz
                first
                  | (obtain rfl : XB = -1 := hfl.trans rfl; obtain rfl : O1 = false := ho1.trans rfl; obtain rfl : O2 = false := ho2.trans rfl)
                  | (obtain rfl : XB = 1 := hfl.trans rfl; obtain rfl : O1 = false := ho1.trans rfl; obtain rfl : O2 = false := ho2.trans rfl)
                  | (obtain rfl : XB = 0 := hfl.trans rfl; obtain rfl : O1 = true := ho1.trans rfl; obtain rfl : O2 = true := ho2.trans rfl)
                clear ho1 ho2 hfl HORD HFL HO1 HO2
                refine region_later (by kernel_rfl) ?_
                repeat (go_big_quiet_step ((first
                  | (go_at_call 15; with_reducible exact HL4.out _ _)
                  | (go_at_call 13; with_reducible exact HL5.out _ _)
                  | (go_at_call 13; with_reducible exact HL6.out _ _))))
                refine wpQuiet_nil ?_
                rintro _ ⟨q3, rfl⟩
                go_wp2_with fail
                go_ret
                exact ⟨rfl, HB8.out.trans (q3.below.mono HB8.out.size)⟩)
end Go.Proofs.Ytdanncclnhkmgaa
