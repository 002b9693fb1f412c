/- ReE: texts RecE of our own, joined. No statement of the seat is proved here. -/
import Derived.Test.YtggognnjnfphgaaGreatDoorReA
import Derived.Test.YtggognnjnfphgaaGreatDoorRdG
namespace Go.Proofs.YtggognnjnfphgaaGreatDoor
open Go.RowKit

def typB (c : Int) (e : Bool) : Bool := c == 1 || (c == 254 && !e)
theorem typ_is (t c : Int) (d : List UInt8) : tyd t c d.length = if typB c d.isEmpty = true then t else 0 := by
  unfold tyd typB
  cases d with
  | nil => simp
  | cons x d => simp
theorem typed_any (c : Int) (e : Bool) (w : World) : Calls Tryz.prog 74 #[.int .i64 c, .bool e] w fun en w' => en = .returned (.bool (typB c e)) ∧ w = w' := by
  cases h1 : (c == 1) with
  | true =>
    have HE := Lib.hid (show typB c e = true by unfold typB; rw [h1]; rfl)
    go_enter Tryz.func74, Tryz.ntmps74
    go_wp2_with fail
    go_ret
    exact ⟨by rw [HE.out]; rfl, rfl⟩
  | false =>
    cases h2 : (c == 254) with
    | false =>
      have HE := Lib.hid (show typB c e = false by unfold typB; rw [h1, h2]; rfl)
      go_enter Tryz.func74, Tryz.ntmps74
      go_wp2_with fail
      go_ret
      exact ⟨by rw [HE.out]; rfl, rfl⟩
    | true =>
      cases e
      · have HE := Lib.hid (show typB c false = true by unfold typB; rw [h1, h2]; rfl)
        go_enter Tryz.func74, Tryz.ntmps74
        go_wp2_with fail
        go_ret
        exact ⟨by rw [HE.out]; rfl, rfl⟩
      · have HE := Lib.hid (show typB c true = false by unfold typB; rw [h1, h2]; rfl)
        go_enter Tryz.func74, Tryz.ntmps74
        go_wp2_with fail
        go_ret
        exact ⟨by rw [HE.out]; rfl, rfl⟩
theorem empty_of {D : ByteArray} {d : List UInt8} (hD : D = mk d) : D.toList.isEmpty = d.isEmpty := by
  rw [hD, mk_isEmpty]

set_option maxHeartbeats 2000000 in
set_option maxRecDepth 20000 in
theorem RefRRight_any (N D : ByteArray) (r : Rec) (w : World) (hN : N = mk r.n) (hD : D = mk r.d) (hd : r.d.length ≤ 65535) :
    Calls Tryz.prog 46 #[.agg (rrA N D r.t r.c r.l)] w fun e w' => e = .returned (.bool (okR r)) ∧ Below w.heap.size w w' := by
  obtain ⟨n, t, c, l, d⟩ := r
  simp only at hN hD hd ⊢
  have hok : okR ⟨n, t, c, l, d⟩ = ((nameL n).isSome && isNum t && isNum c && isAge l && rightR (tyd t c d.length) d) := rfl
  have hsz : D.size = d.length := by rw [hD, mk_size]
  have hdI : decide ((65535 : Int) < (D.size : Int)) = false := by rw [decide_eq_false_iff_not]; omega
  have hem := empty_of hD
  have HN := Lib.hid hN
  have HD := Lib.hid hD
  have hW0 := Whole.new w rrT (rrA N D t c l)
  have HB0 := Lib.hid (show Below w.heap.size w (w.alloc (.cells (rrA N D t c l) rrT)) from (Below.refl _ _).alloc (Nat.le_refl _) _)
  have HW0 := Lib.hid hW0
  obtain ⟨c0, _, _, _, _⟩ := rr_facts hW0
  clear hN hD hW0
  unfold rrA at *
  cases h1 : (nameL n).isSome with
  | false =>
    have HO := Lib.hid (show okR ⟨n, t, c, l, d⟩ = false by rw [hok, h1]; simp)
    have H1 := Lib.hid h1
    clear hok h1
    go_enter Tryz.func46, Tryz.ntmps46
    go_wp2_with fail
    refine (RefRight_any N n _ HN.out).mono ?_
    rw [H1.out]
    rintro e w1 ⟨rfl, hB1⟩
    have HB1 := Lib.hid (HB0.out.trans (hB1.mono HB0.out.size))
    clear hB1 c0
    go_wp2_with fail
    go_ret
    exact ⟨by rw [HO.out]; rfl, HB1.out⟩
  | true =>
    have H1 := Lib.hid h1
    cases h2 : isNum t with
    | false =>
      have HO := Lib.hid (show okR ⟨n, t, c, l, d⟩ = false by rw [hok, h1, h2]; simp)
      have hr : t < 0 ∨ 65535 < t := by unfold isNum at h2; simp at h2; omega
      clear hok h1 h2
      rcases hr with hr | hr
      · have gr : decide (t < 0) = true := by simp [hr]
        go_enter Tryz.func46, Tryz.ntmps46
        go_wp2_with fail
        refine (RefRight_any N n _ HN.out).mono ?_
        rw [H1.out]
        rintro e w1 ⟨rfl, hB1⟩
        obtain ⟨k0, k1, k2, k3, k4⟩ := rr_facts (HW0.out.below hB1 HW0.out.lt)
        have HB1 := Lib.hid (HB0.out.trans (hB1.mono HB0.out.size))
        clear hB1 c0
        go_wp2_with fail
        go_ret
        exact ⟨by rw [HO.out]; rfl, HB1.out⟩
      · have gr : decide (t < 0) = false := by rw [decide_eq_false_iff_not]; omega
        have gr2 : decide (65535 < t) = true := by simp [hr]
        go_enter Tryz.func46, Tryz.ntmps46
        go_wp2_with fail
        refine (RefRight_any N n _ HN.out).mono ?_
        rw [H1.out]
        rintro e w1 ⟨rfl, hB1⟩
        obtain ⟨k0, k1, k2, k3, k4⟩ := rr_facts (HW0.out.below hB1 HW0.out.lt)
        have HB1 := Lib.hid (HB0.out.trans (hB1.mono HB0.out.size))
        clear hB1 c0
        go_wp2_with fail
        go_ret
        exact ⟨by rw [HO.out]; rfl, HB1.out⟩
    | true =>
      have g2a : decide (t < 0) = false := by unfold isNum at h2; simp at h2; rw [decide_eq_false_iff_not]; omega
      have g2b : decide (65535 < t) = false := by unfold isNum at h2; simp at h2; rw [decide_eq_false_iff_not]; omega
      cases h3 : isNum c with
      | false =>
        have HO := Lib.hid (show okR ⟨n, t, c, l, d⟩ = false by rw [hok, h1, h2, h3]; simp)
        have hr : c < 0 ∨ 65535 < c := by unfold isNum at h3; simp at h3; omega
        clear hok h1 h3
        rcases hr with hr | hr
        · have gr : decide (c < 0) = true := by simp [hr]
          go_enter Tryz.func46, Tryz.ntmps46
          go_wp2_with fail
          refine (RefRight_any N n _ HN.out).mono ?_
          rw [H1.out]
          rintro e w1 ⟨rfl, hB1⟩
          obtain ⟨k0, k1, k2, k3, k4⟩ := rr_facts (HW0.out.below hB1 HW0.out.lt)
          have HB1 := Lib.hid (HB0.out.trans (hB1.mono HB0.out.size))
          clear hB1 c0
          go_wp2_with fail
          go_ret
          exact ⟨by rw [HO.out]; rfl, HB1.out⟩
        · have gr : decide (c < 0) = false := by rw [decide_eq_false_iff_not]; omega
          have gr2 : decide (65535 < c) = true := by simp [hr]
          go_enter Tryz.func46, Tryz.ntmps46
          go_wp2_with fail
          refine (RefRight_any N n _ HN.out).mono ?_
          rw [H1.out]
          rintro e w1 ⟨rfl, hB1⟩
          obtain ⟨k0, k1, k2, k3, k4⟩ := rr_facts (HW0.out.below hB1 HW0.out.lt)
          have HB1 := Lib.hid (HB0.out.trans (hB1.mono HB0.out.size))
          clear hB1 c0
          go_wp2_with fail
          go_ret
          exact ⟨by rw [HO.out]; rfl, HB1.out⟩
      | true =>
        have g3a : decide (c < 0) = false := by unfold isNum at h3; simp at h3; rw [decide_eq_false_iff_not]; omega
        have g3b : decide (65535 < c) = false := by unfold isNum at h3; simp at h3; rw [decide_eq_false_iff_not]; omega
        cases h4 : isAge l with
        | false =>
          have HO := Lib.hid (show okR ⟨n, t, c, l, d⟩ = false by rw [hok, h1, h2, h3, h4]; simp)
          have hr : l < 0 ∨ 2147483647 < l := by unfold isAge at h4; simp at h4; omega
          clear hok h1 h4
          rcases hr with hr | hr
          · have gr : decide (l < 0) = true := by simp [hr]
            go_enter Tryz.func46, Tryz.ntmps46
            go_wp2_with fail
            refine (RefRight_any N n _ HN.out).mono ?_
            rw [H1.out]
            rintro e w1 ⟨rfl, hB1⟩
            obtain ⟨k0, k1, k2, k3, k4⟩ := rr_facts (HW0.out.below hB1 HW0.out.lt)
            have HB1 := Lib.hid (HB0.out.trans (hB1.mono HB0.out.size))
            clear hB1 c0
            go_wp2_with fail
            go_ret
            exact ⟨by rw [HO.out]; rfl, HB1.out⟩
          · have gr : decide (l < 0) = false := by rw [decide_eq_false_iff_not]; omega
            have gr2 : decide (2147483647 < l) = true := by simp [hr]
            go_enter Tryz.func46, Tryz.ntmps46
            go_wp2_with fail
            refine (RefRight_any N n _ HN.out).mono ?_
            rw [H1.out]
            rintro e w1 ⟨rfl, hB1⟩
            obtain ⟨k0, k1, k2, k3, k4⟩ := rr_facts (HW0.out.below hB1 HW0.out.lt)
            have HB1 := Lib.hid (HB0.out.trans (hB1.mono HB0.out.size))
            clear hB1 c0
            go_wp2_with fail
            go_ret
            exact ⟨by rw [HO.out]; rfl, HB1.out⟩
        | true =>
          have g4a : decide (l < 0) = false := by unfold isAge at h4; simp at h4; rw [decide_eq_false_iff_not]; omega
          have g4b : decide (2147483647 < l) = false := by unfold isAge at h4; simp at h4; rw [decide_eq_false_iff_not]; omega
          have HO := Lib.hid (show okR ⟨n, t, c, l, d⟩ = rightR (tyd t c d.length) d by rw [hok, h1, h2, h3, h4]; simp)
          have hty := typ_is t c d
          clear hok h1 h2 h3 h4
          obtain ⟨em, hme⟩ : ∃ em, em = d.isEmpty := ⟨_, rfl⟩
          rw [← hme] at hem hty
          cases hy : typB c em with
          | false =>
            rw [hy, if_neg (by simp)] at hty
            have HR := Lib.hid (show okR ⟨n, t, c, l, d⟩ = true by rw [HO.out, hty]; exact (plain_right hd).1)
            have HY := Lib.hid hy
            clear hty hy hme
            go_enter Tryz.func46, Tryz.ntmps46
            go_wp2_with fail
            refine (RefRight_any N n _ HN.out).mono ?_
            rw [H1.out]
            rintro e w1 ⟨rfl, hB1⟩
            obtain ⟨k0, k1, k2, k3, k4⟩ := rr_facts (HW0.out.below hB1 HW0.out.lt)
            have hw1 := HW0.out.below hB1 HW0.out.lt
            have HW1 := Lib.hid hw1
            have HB1 := Lib.hid (HB0.out.trans (hB1.mono HB0.out.size))
            clear hB1 c0 hw1
            go_wp2_with fail
            refine (typed_any c em _).mono ?_
            rw [HY.out]
            rintro e w2 ⟨rfl, rfl⟩
            go_wp2_with fail
            go_ret
            exact ⟨by rw [HR.out]; rfl, HB1.out⟩
          | true =>
            rw [hy, if_pos rfl] at hty
            have HR := Lib.hid (show okR ⟨n, t, c, l, d⟩ = rightR t d by rw [HO.out, hty])
            have HY := Lib.hid hy
            clear hty hy hme
            go_enter Tryz.func46, Tryz.ntmps46
            go_wp2_with fail
            refine (RefRight_any N n _ HN.out).mono ?_
            rw [H1.out]
            rintro e w1 ⟨rfl, hB1⟩
            obtain ⟨k0, k1, k2, k3, k4⟩ := rr_facts (HW0.out.below hB1 HW0.out.lt)
            have hw1 := HW0.out.below hB1 HW0.out.lt
            have HW1 := Lib.hid hw1
            have HB1 := Lib.hid (HB0.out.trans (hB1.mono HB0.out.size))
            clear hB1 c0 hw1
            go_wp2_with fail
            refine (typed_any c em _).mono ?_
            rw [HY.out]
            rintro e w2 ⟨rfl, rfl⟩
            go_wp2_with fail
            refine (RefDRight_any D d t _ HD.out hd).mono ?_
            rintro e w2 ⟨rfl, hB2⟩
            go_wp2_with fail
            go_ret
            exact ⟨by rw [HR.out]; rfl, HB1.out.trans (hB2.mono HB1.out.size)⟩

/-- a record of ours for one that came in -/
def recOf (N D : ByteArray) (t c l : Int) : Rec := ⟨N.data.toList, t, c, l, D.data.toList⟩
theorem recOf_n (N D : ByteArray) (t c l : Int) : N = mk (recOf N D t c l).n := (mk_toList N).symm
theorem recOf_d (N D : ByteArray) (t c l : Int) : D = mk (recOf N D t c l).d := (mk_toList D).symm

theorem three_new (w : World) (a b c : Array Value) (ta tb tc : TypeId) :
    Whole (((w.alloc (.cells a ta)).alloc (.cells b tb)).alloc (.cells c tc)) w.heap.size ta a ∧ Whole (((w.alloc (.cells a ta)).alloc (.cells b tb)).alloc (.cells c tc)) (w.heap.size + 1) tb b ∧
    Whole (((w.alloc (.cells a ta)).alloc (.cells b tb)).alloc (.cells c tc)) (w.heap.size + 1 + 1) tc c ∧ Below w.heap.size w (((w.alloc (.cells a ta)).alloc (.cells b tb)).alloc (.cells c tc)) := by
  have h0 := Whole.new w ta a
  have h1 := Whole.new (w.alloc (.cells a ta)) tb b
  have h2 := Whole.new ((w.alloc (.cells a ta)).alloc (.cells b tb)) tc c
  simp only [World.size_alloc] at h1 h2
  exact ⟨(h0.alloc _).alloc _, h1.alloc _, h2, (((Below.refl _ _).alloc (Nat.le_refl _) _).alloc (by simp) _).alloc (by simp; omega) _⟩

end Go.Proofs.YtggognnjnfphgaaGreatDoor
