/- RrD: texts RrsD of our own, joined. No statement of the seat is proved here. -/
import Derived.Test.YtaijcoiepfjecaaGreatRrA
namespace Go.Proofs.YtaijcoiepfjecaaGreat
open Go.RowKit Go.Op

theorem box_five (w : World) (r : Rrd) : Five (w.alloc (.cells #[.string r.s, .int .i64 r.t, .int .i64 r.c, .int .i64 r.l, .string r.d] 26)) w.heap.size 0 r :=
  rr_facts (Whole.new w rrT (rrA r.s r.d r.t r.c r.l))

set_option maxHeartbeats 4000000 in
set_option maxRecDepth 20000 in
theorem Search_any (A : Option Addr) (n c : Nat) (xs : List Rrd) (r : Rrd) (w : World) (hx : SeesR w w.heap.size A n xs) (hok : OkL xs) (hr : OkX r) (hs : SetL cmpX xs) (hn : n ≤ 1073741824) :
    Calls Tryz.prog 79 #[.slice A n c, .agg #[.string r.s, .int .i64 r.t, .int .i64 r.c, .int .i64 r.l, .string r.d], .func (.func 58) #[] #[]] w fun e w' =>
      e = .returned (.tuple #[.int .i64 (posX cmpX r xs : Nat), .bool (hitX cmpX r xs)]) ∧ Below w.heap.size w w' := by
  obtain ⟨W, hW⟩ : ∃ W, W = w.alloc (.cells #[.string r.s, .int .i64 r.t, .int .i64 r.c, .int .i64 r.l, .string r.d] 26) := ⟨_, rfl⟩
  obtain ⟨g, hg⟩ : ∃ g, g = w.heap.size := ⟨_, rfl⟩
  have HB0 := Lib.hid (show Below w.heap.size w W by rw [hW]; exact (Below.refl _ _).alloc (Nat.le_refl _) _)
  have HBX := Lib.hid (show Five W g 0 r by rw [hW, hg]; exact box_five w r)
  have HGL := Lib.hid (show g < W.heap.size by rw [hW, hg]; simp)
  have HX := Lib.hid ((hx.keep HB0.out).more HB0.out.size)
  have HN := Lib.hid hx.1
  have HOK := Lib.hid hok
  have HR := Lib.hid hr
  have HS := Lib.hid hs
  have HW := Lib.hid hW
  have HG := Lib.hid hg
  clear hW hg hx hok hr hs
  go_enter Tryz.func79, Tryz.ntmps79
  go_wp2_with fail
  rw [← HW.out, ← HG.out]
  go_loopw [9, 10] (fun s9 s10 wr => ∃ lo hi : Nat, s9 = .int .i64 (lo : Nat) ∧ s10 = .int .i64 (hi : Nat) ∧ lo ≤ hi ∧ hi ≤ n ∧ ((∀ t x, t < lo → xs[t]? = some x → cmpX x r < 0) ∧ (∀ t x, hi ≤ t → xs[t]? = some x → 0 ≤ cmpX x r)) ∧ Below W.heap.size W wr) (fun s9 s10 _ => (intOf s10).toNat - (intOf s9).toNat)
  case atStart => exact ⟨0, n, rfl, rfl, Nat.zero_le _, Nat.le_refl _, ⟨fun t x ht => absurd ht (Nat.not_lt_zero _), fun t x ht hx => by have := (List.getElem?_eq_some_iff.1 hx).1; have := HN.out; omega⟩, Below.refl _ _⟩
  case round =>
    obtain ⟨lo, hi, rfl, rfl, hlh, hhn, hI, hB⟩ := hrel
    have HI := Lib.hid hI
    have HB := Lib.hid hB
    clear hI hB
    obtain ⟨p0, p1, p2, p3, p4⟩ := (HBX.out.keep HB.out HGL.out).later (Nat.lt_of_lt_of_le HGL.out HB.out.size)
    by_cases hlt : lo < hi
    · have g2 : (lo : Int) < (hi : Int) := by omega
      obtain ⟨m, hm⟩ : ∃ m : Nat, m = (lo + hi) / 2 := ⟨_, rfl⟩
      have hm1 : lo ≤ m := by omega
      have hm2 : m < hi := by omega
      obtain ⟨b, off, x, rfl, hb, hxk, ht⟩ := (HX.out.keep HB.out).at (show m < n by omega)
      obtain ⟨q0, q1, q2, q3, q4⟩ := ht.later (Nat.lt_of_lt_of_le hb HB.out.size)
      rw [hm] at q0 q1 q2 q3 q4
      obtain ⟨z, hz⟩ : ∃ z, z = cmpX x r := ⟨_, rfl⟩
      have HC := Lib.hid (show ∀ q : Later wr, Calls Tryz.prog 58 #[.agg #[.string x.s, .int .i64 x.t, .int .i64 x.c, .int .i64 x.l, .string x.d], .agg #[.string r.s, .int .i64 r.t, .int .i64 r.c, .int .i64 r.l, .string r.d]] q.val fun e w'' => e = .returned (.int .i64 z) ∧ ∃ q' : Later wr, w'' = q'.val from
        fun q => later_call (by rw [hz]; exact cmp_any (HOK.out.at hxk) HR.out _))
      have HZ := Lib.hid hz
      have HXK := Lib.hid hxk
      clear hz ht hxk
      by_cases hz1 : z < 0
      · go_wp2_with fail
        refine region_later (by kernel_rfl) ?_
        repeat (go_big_quiet_step ((go_at_call 58; with_reducible exact HC.out _)))
        refine wpQuiet_nil ?_
        rintro _ ⟨r2, rfl⟩
        have HB2 := Lib.hid (HB.out.trans (r2.below.mono HB.out.size))
        have HJ := Lib.hid (show (∀ t x, t < m + 1 → xs[t]? = some x → cmpX x r < 0) ∧ (∀ t x, hi ≤ t → xs[t]? = some x → 0 ≤ cmpX x r) from
          ⟨fun t y ht hy => HS.out.mono ordX HOK.out HR.out (show t ≤ m by omega) hy HXK.out (by rw [← HZ.out]; exact hz1), HI.out.2⟩)
        clear p0 p1 p2 p3 p4 q0 q1 q2 q3 q4
        go_wp2_with fail
        go_roundw
        case rel => exact ⟨m + 1, hi, by rw [show ((lo : Int) + (hi : Int)) / 2 + 1 = ((m + 1 : Nat) : Int) by omega], rfl, by omega, hhn, HJ.out, HB2.out⟩
        case measure => simp [intOf]; omega
      · go_wp2_with fail
        refine region_later (by kernel_rfl) ?_
        repeat (go_big_quiet_step ((go_at_call 58; with_reducible exact HC.out _)))
        refine wpQuiet_nil ?_
        rintro _ ⟨r2, rfl⟩
        have HB2 := Lib.hid (HB.out.trans (r2.below.mono HB.out.size))
        have HJ := Lib.hid (show (∀ t x, t < lo → xs[t]? = some x → cmpX x r < 0) ∧ (∀ t x, m ≤ t → xs[t]? = some x → 0 ≤ cmpX x r) from
          ⟨HI.out.1, fun t y ht hy => Int.not_lt.1 fun h => by have k := HS.out.mono ordX HOK.out HR.out ht HXK.out hy h; rw [← HZ.out] at k; omega⟩)
        clear p0 p1 p2 p3 p4 q0 q1 q2 q3 q4
        go_wp2_with fail
        go_roundw
        case rel => exact ⟨lo, m, rfl, by rw [show ((lo : Int) + (hi : Int)) / 2 = ((m : Nat) : Int) by omega], by omega, by omega, HJ.out, HB2.out⟩
        case measure => simp [intOf]; omega
    · obtain rfl : hi = lo := by omega
      have hp := posX_of (cmp := cmpX) r xs hi (by have := HN.out; omega) HI.out.1 HI.out.2
      by_cases hln : hi < n
      · have g2 : (hi : Int) < (n : Int) := by omega
        have g0 : (0 : Int) ≤ (hi : Int) := by omega
        obtain ⟨b, off, x, rfl, hb, hxk, ht⟩ := (HX.out.keep HB.out).at hln
        rw [hxk] at hp
        obtain ⟨q0, q1, q2, q3, q4⟩ := ht.later (Nat.lt_of_lt_of_le hb HB.out.size)
        obtain ⟨z, hz⟩ : ∃ z, z = cmpX x r := ⟨_, rfl⟩
        have HC := Lib.hid (show ∀ q : Later wr, Calls Tryz.prog 58 #[.agg #[.string x.s, .int .i64 x.t, .int .i64 x.c, .int .i64 x.l, .string x.d], .agg #[.string r.s, .int .i64 r.t, .int .i64 r.c, .int .i64 r.l, .string r.d]] q.val fun e w'' => e = .returned (.int .i64 z) ∧ ∃ q' : Later wr, w'' = q'.val from
          fun q => later_call (by rw [hz]; exact cmp_any (HOK.out.at hxk) HR.out _))
        simp only [← hz] at hp
        have HP := Lib.hid hp
        have HZ := Lib.hid hz
        clear hz ht hxk hp
        by_cases hz1 : z = 0
        · have gz : (z == 0) = true := by rw [hz1]; rfl
          have HF := Lib.hid (show hitX cmpX r xs = true by rw [HP.out.2, decide_eq_true hz1])
          clear hz1
          go_wp2_with fail
          refine region_later (by kernel_rfl) ?_
          repeat (go_big_quiet_step ((go_at_call 58; with_reducible exact HC.out _)))
          refine wpQuiet_nil ?_
          rintro _ ⟨r2, rfl⟩
          have HB2 := Lib.hid (HB.out.trans (r2.below.mono HB.out.size))
          clear p0 p1 p2 p3 p4 q0 q1 q2 q3 q4
          go_wp2_with fail
          go_ret2
          exact ⟨by rw [HF.out, HP.out.1]; rfl, HB0.out.trans (HB2.out.mono HB0.out.size)⟩
        · have gz : (z == 0) = false := by rw [beq_eq_false_iff_ne]; exact hz1
          have HF := Lib.hid (show hitX cmpX r xs = false by rw [HP.out.2, decide_eq_false hz1])
          clear hz1
          go_wp2_with fail
          refine region_later (by kernel_rfl) ?_
          repeat (go_big_quiet_step ((go_at_call 58; with_reducible exact HC.out _)))
          refine wpQuiet_nil ?_
          rintro _ ⟨r2, rfl⟩
          have HB2 := Lib.hid (HB.out.trans (r2.below.mono HB.out.size))
          clear p0 p1 p2 p3 p4 q0 q1 q2 q3 q4
          go_wp2_with fail
          go_ret2
          exact ⟨by rw [HF.out, HP.out.1]; rfl, HB0.out.trans (HB2.out.mono HB0.out.size)⟩
      · have g2 : ¬ (hi : Int) < (n : Int) := by omega
        rw [List.getElem?_eq_none (by have := HN.out; omega)] at hp
        have HP := Lib.hid hp
        clear hp
        go_wp2_with fail
        refine region_later (by kernel_rfl) ?_
        repeat (go_big_quiet_step (fail))
        refine wpQuiet_nil ?_
        rintro _ ⟨r2, rfl⟩
        have HB2 := Lib.hid (HB.out.trans (r2.below.mono HB.out.size))
        clear p0 p1 p2 p3 p4
        go_wp2_with fail
        go_ret2
        exact ⟨by rw [HP.out.1, HP.out.2]; rfl, HB0.out.trans (HB2.out.mono HB0.out.size)⟩

set_option maxHeartbeats 4000000 in
set_option maxRecDepth 20000 in
theorem position_any (A : Option Addr) (n c : Nat) (xs : List Rrd) (r : Rrd) (w : World) (hx : SeesR w w.heap.size A n xs) (hok : OkL xs) (hr : OkX r) (hs : SetL cmpX xs) (hn : n ≤ 1073741824) :
    Calls Tryz.prog 85 #[.slice A n c, .agg #[.string r.s, .int .i64 r.t, .int .i64 r.c, .int .i64 r.l, .string r.d]] w fun e w' =>
      e = .returned (.tuple #[.int .i64 (posX cmpX r xs : Nat), .bool (hitX cmpX r xs)]) ∧ Below w.heap.size w w' := by
  have HB0 := Lib.hid (show Below w.heap.size w (w.alloc (.cells #[.string r.s, .int .i64 r.t, .int .i64 r.c, .int .i64 r.l, .string r.d] 26)) from (Below.refl _ _).alloc (Nat.le_refl _) _)
  obtain ⟨p0, p1, p2, p3, p4⟩ := box_five w r
  have HX := Lib.hid ((hx.keep HB0.out).more HB0.out.size)
  have HOK := Lib.hid hok
  have HR := Lib.hid hr
  have HS := Lib.hid hs
  clear hx hok hr hs
  go_enter Tryz.func85, Tryz.ntmps85
  go_wp2_with fail
  refine (Search_any A n c xs r _ HX.out HOK.out HR.out HS.out hn).mono ?_
  rintro e w1 ⟨rfl, hB⟩
  have HB := Lib.hid hB
  clear hB p0 p1 p2 p3 p4
  go_wp2_with fail
  go_ret2
  exact ⟨rfl, HB0.out.trans (HB.out.mono HB0.out.size)⟩
end Go.Proofs.YtaijcoiepfjecaaGreat
