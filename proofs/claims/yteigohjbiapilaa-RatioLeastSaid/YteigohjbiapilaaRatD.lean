/- The laws RatioOrders, RatioClamps, RatioShares and RatioTurns, walked. No statement of the seat is proved here. -/
import Derived.Test.YteigohjbiapilaaRatC
namespace Go.Proofs.Yteigohjbiapilaa
open Go.RowKit

theorem float_lt {x : Nat} (h : (Lit.float .f64 x).wf = true) : x < 18446744073709551616 := by
  have : x < 2 ^ 64 := by simpa [Lit.wf] using h
  exact this
theorem below_drawn (w : World) (m : Nat) : Below w.heap.size w (w.drewN m) := ⟨rfl, rfl, rfl, Nat.le_refl _, fun _ _ => rfl⟩
theorem awake_any (w : World) : Calls Try.prog 9 #[] w fun e w' => e = .returned (.bool true) ∧ ∃ m, w' = w.drewN m := by
  have h1 : aboveR 4607182418800017408 0 4613937818241073152 = true := by decide
  have h2 : orderP 4607182418800017408 4611686018427387904 = -1 := by decide
  go_enter Try.func9, Try.ntmps9
  go_wp2_with fail
  refine (above_any 4607182418800017408 0 4613937818241073152 (by decide) (by decide) (by decide) _).mono ?_
  rintro e w1 ⟨rfl, m, rfl⟩
  go_wp2_with fail
  refine (order_any 4607182418800017408 4611686018427387904 (by decide) (by decide) _).mono ?_
  rintro e w1 ⟨rfl, rfl⟩
  go_wp2
  go_ret
  exact ⟨rfl, m, rfl⟩
theorem RatioOrders_walk (x y : Nat) (w : World) (hx : (Lit.float .f64 x).wf = true) (hy : (Lit.float .f64 y).wf = true) :
    Calls Try.prog 3 #[.float .f64 x, .float .f64 y] w fun e w' => e = .returned (.bool true) ∧ Below w.heap.size w w' := by
  have hx' := float_lt hx
  have hy' := float_lt hy
  have hh : (orderP x y == orderP x y) = true := by simp
  go_enter Try.func3, Try.ntmps3
  go_wp2_with fail
  refine (awake_any _).mono ?_
  rintro e w1 ⟨rfl, m, rfl⟩
  go_wp2_with fail
  refine (order_any x y hx' hy' _).mono ?_
  rintro e w1 ⟨rfl, rfl⟩
  go_wp2_with fail
  refine (refOrder_any x y hx' hy' _).mono ?_
  rintro e w1 ⟨rfl, rfl⟩
  go_wp2
  go_ret
  exact ⟨rfl, below_drawn _ _⟩
theorem clampR_lt (x l h : Nat) (hx : x < 18446744073709551616) (hl : l < 18446744073709551616) (hh : h < 18446744073709551616) : clampR x l h < 18446744073709551616 := by
  unfold clampR
  split
  · exact hl
  · split <;> assumption
theorem RatioClamps_walk (x l h : Nat) (w : World) (hx : (Lit.float .f64 x).wf = true) (hl : (Lit.float .f64 l).wf = true) (hh : (Lit.float .f64 h).wf = true) :
    Calls Try.prog 6 #[.float .f64 x, .float .f64 l, .float .f64 h] w fun e w' => e = .returned (.bool true) ∧ Below w.heap.size w w' := by
  have hx' := float_lt hx
  have hl' := float_lt hl
  have hh' := float_lt hh
  have hc := clampR_lt x l h hx' hl' hh'
  go_enter Try.func6, Try.ntmps6
  go_wp2_with fail
  refine (awake_any _).mono ?_
  rintro e w1 ⟨rfl, m, rfl⟩
  go_wp2_with fail
  refine (clamp_any x l h hx' hl' hh' _).mono ?_
  rintro e w1 ⟨rfl, rfl⟩
  go_wp2_with fail
  refine (refClamp_any x l h hx' hl' hh' _).mono ?_
  rintro e w1 ⟨rfl, rfl⟩
  go_wp2_with fail
  refine (same_any _ _ hc hc (.inr rfl) _).mono ?_
  rintro e w1 ⟨rfl, rfl⟩
  go_wp2
  go_ret
  exact ⟨rfl, below_drawn _ _⟩
theorem RatioShares_walk (x y l : Nat) (w : World) (hx : (Lit.float .f64 x).wf = true) (hy : (Lit.float .f64 y).wf = true) (hl : (Lit.float .f64 l).wf = true) :
    Calls Try.prog 5 #[.float .f64 x, .float .f64 y, .float .f64 l] w fun e w' => e = .returned (.bool true) ∧ Below w.heap.size w w' := by
  have hx' := float_lt hx
  have hy' := float_lt hy
  have hl' := float_lt hl
  have hh : (aboveR x y l == aboveR x y l) = true := by simp
  go_enter Try.func5, Try.ntmps5
  go_wp2_with fail
  refine (awake_any _).mono ?_
  rintro e w1 ⟨rfl, m, rfl⟩
  go_wp2_with fail
  refine (share_any x y hx' hy' _).mono ?_
  rintro e w1 ⟨r, rfl, h1, m1, rfl⟩
  go_wp2_with fail
  refine (refShare_any x y hx' hy' _).mono ?_
  rintro e w1 ⟨q, rfl, h2, m2, rfl⟩
  have hs := h1.same h2
  have hr := h1.1
  have hq := h2.1
  clear h1 h2
  go_wp2_with fail
  refine (same_any r q hr hq hs _).mono ?_
  rintro e w1 ⟨rfl, rfl⟩
  clear hs
  go_wp2_with fail
  refine (above_any x y l hx' hy' hl' _).mono ?_
  rintro e w1 ⟨rfl, m3, rfl⟩
  go_wp2_with fail
  refine (refAbove_any x y l hx' hy' hl' _).mono ?_
  rintro e w1 ⟨rfl, m4, rfl⟩
  go_wp2
  go_ret
  exact ⟨rfl, below_drawn _ _⟩

theorem order_is {x y : Nat} {v : Int} (hx : x < 18446744073709551616) (hy : y < 18446744073709551616) (h : orderP x y = v) (w : World) : Calls Try.prog 10 #[.float .f64 x, .float .f64 y] w fun e w' => e = .returned (.int .i64 v) ∧ w = w' := by
  rw [← h]; exact order_any x y hx hy w
theorem cmp_three (a b : Int) : (cmpI a b = -1 ∧ a < b) ∨ (cmpI a b = 0 ∧ a = b) ∨ (cmpI a b = 1 ∧ b < a) := by
  unfold cmpI
  rcases Int.lt_trichotomy a b with h | h | h
  · exact .inl ⟨if_pos h, h⟩
  · refine .inr (.inl ⟨?_, h⟩); rw [if_neg (by omega), if_neg (by omega)]
  · refine .inr (.inr ⟨?_, h⟩); rw [if_neg (by omega), if_pos h]
theorem cmp_lt {a b : Int} (h : a < b) : cmpI a b = -1 := by unfold cmpI; rw [if_pos h]
theorem cmp_gt {a b : Int} (h : b < a) : cmpI a b = 1 := by unfold cmpI; rw [if_neg (by omega), if_pos h]
theorem cmp_eq {a b : Int} (h : a = b) : cmpI a b = 0 := by unfold cmpI; rw [if_neg (by omega), if_neg (by omega)]

theorem RatioTurns_walk (x y z : Nat) (w : World) (hx : (Lit.float .f64 x).wf = true) (hy : (Lit.float .f64 y).wf = true) (hz : (Lit.float .f64 z).wf = true) :
    Calls Try.prog 8 #[.float .f64 x, .float .f64 y, .float .f64 z] w fun e w' => e = .returned (.bool true) ∧ Below w.heap.size w w' := by
  have hx' := float_lt hx
  have hy' := float_lt hy
  have hz' := float_lt hz
  have oxx := order_is hx' hx' (orderP_self x)
  rcases cmp_three (placeI x) (placeI y) with ⟨k1, p1⟩ | ⟨k1, p1⟩ | ⟨k1, p1⟩
  · have oxy := order_is hx' hy' k1
    have oyx := order_is hy' hx' (cmp_gt (by omega) : cmpI (placeI y) (placeI x) = _)
    rcases cmp_three (placeI y) (placeI z) with ⟨k2, p2⟩ | ⟨k2, p2⟩ | ⟨k2, p2⟩
    · have oyz := order_is hy' hz' k2
      have oxz := order_is hx' hz' (cmp_lt (by omega) : cmpI (placeI x) (placeI z) = _)
      go_enter Try.func8, Try.ntmps8
      go_wp2_with fail
      refine (awake_any _).mono ?_
      rintro e w1 ⟨rfl, m, rfl⟩
      go_wp2_with fail
      refine (oxy _).mono ?_
      rintro e w1 ⟨rfl, rfl⟩
      go_wp2_with fail
      refine (oyx _).mono ?_
      rintro e w1 ⟨rfl, rfl⟩
      go_wp2_with fail
      refine (oxx _).mono ?_
      rintro e w1 ⟨rfl, rfl⟩
      go_wp2_with fail
      refine (oxy _).mono ?_
      rintro e w1 ⟨rfl, rfl⟩
      go_wp2_with fail
      refine (oyz _).mono ?_
      rintro e w1 ⟨rfl, rfl⟩
      go_wp2_with fail
      refine (oxz _).mono ?_
      rintro e w1 ⟨rfl, rfl⟩
      go_wp2_with fail
      refine (oxz _).mono ?_
      rintro e w1 ⟨rfl, rfl⟩
      go_wp2
      go_ret
      exact ⟨rfl, below_drawn _ _⟩
    · have oyz := order_is hy' hz' k2
      have oxz := order_is hx' hz' (cmp_lt (by omega) : cmpI (placeI x) (placeI z) = _)
      go_enter Try.func8, Try.ntmps8
      go_wp2_with fail
      refine (awake_any _).mono ?_
      rintro e w1 ⟨rfl, m, rfl⟩
      go_wp2_with fail
      refine (oxy _).mono ?_
      rintro e w1 ⟨rfl, rfl⟩
      go_wp2_with fail
      refine (oyx _).mono ?_
      rintro e w1 ⟨rfl, rfl⟩
      go_wp2_with fail
      refine (oxx _).mono ?_
      rintro e w1 ⟨rfl, rfl⟩
      go_wp2_with fail
      refine (oxy _).mono ?_
      rintro e w1 ⟨rfl, rfl⟩
      go_wp2_with fail
      refine (oyz _).mono ?_
      rintro e w1 ⟨rfl, rfl⟩
      go_wp2_with fail
      refine (oxz _).mono ?_
      rintro e w1 ⟨rfl, rfl⟩
      go_wp2_with fail
      refine (oxz _).mono ?_
      rintro e w1 ⟨rfl, rfl⟩
      go_wp2
      go_ret
      exact ⟨rfl, below_drawn _ _⟩
    · have oyz := order_is hy' hz' k2
      go_enter Try.func8, Try.ntmps8
      go_wp2_with fail
      refine (awake_any _).mono ?_
      rintro e w1 ⟨rfl, m, rfl⟩
      go_wp2_with fail
      refine (oxy _).mono ?_
      rintro e w1 ⟨rfl, rfl⟩
      go_wp2_with fail
      refine (oyx _).mono ?_
      rintro e w1 ⟨rfl, rfl⟩
      go_wp2_with fail
      refine (oxx _).mono ?_
      rintro e w1 ⟨rfl, rfl⟩
      go_wp2_with fail
      refine (oxy _).mono ?_
      rintro e w1 ⟨rfl, rfl⟩
      go_wp2_with fail
      refine (oyz _).mono ?_
      rintro e w1 ⟨rfl, rfl⟩
      go_wp2
      go_ret
      exact ⟨rfl, below_drawn _ _⟩
  · have oxy := order_is hx' hy' k1
    have oyx := order_is hy' hx' (cmp_eq (by omega) : cmpI (placeI y) (placeI x) = _)
    rcases cmp_three (placeI y) (placeI z) with ⟨k2, p2⟩ | ⟨k2, p2⟩ | ⟨k2, p2⟩
    · have oyz := order_is hy' hz' k2
      have oxz := order_is hx' hz' (cmp_lt (by omega) : cmpI (placeI x) (placeI z) = _)
      go_enter Try.func8, Try.ntmps8
      go_wp2_with fail
      refine (awake_any _).mono ?_
      rintro e w1 ⟨rfl, m, rfl⟩
      go_wp2_with fail
      refine (oxy _).mono ?_
      rintro e w1 ⟨rfl, rfl⟩
      go_wp2_with fail
      refine (oyx _).mono ?_
      rintro e w1 ⟨rfl, rfl⟩
      go_wp2_with fail
      refine (oxx _).mono ?_
      rintro e w1 ⟨rfl, rfl⟩
      go_wp2_with fail
      refine (oxy _).mono ?_
      rintro e w1 ⟨rfl, rfl⟩
      go_wp2_with fail
      refine (oyz _).mono ?_
      rintro e w1 ⟨rfl, rfl⟩
      go_wp2_with fail
      refine (oxz _).mono ?_
      rintro e w1 ⟨rfl, rfl⟩
      go_wp2_with fail
      refine (oxz _).mono ?_
      rintro e w1 ⟨rfl, rfl⟩
      go_wp2
      go_ret
      exact ⟨rfl, below_drawn _ _⟩
    · have oyz := order_is hy' hz' k2
      have oxz := order_is hx' hz' (cmp_eq (by omega) : cmpI (placeI x) (placeI z) = _)
      go_enter Try.func8, Try.ntmps8
      go_wp2_with fail
      refine (awake_any _).mono ?_
      rintro e w1 ⟨rfl, m, rfl⟩
      go_wp2_with fail
      refine (oxy _).mono ?_
      rintro e w1 ⟨rfl, rfl⟩
      go_wp2_with fail
      refine (oyx _).mono ?_
      rintro e w1 ⟨rfl, rfl⟩
      go_wp2_with fail
      refine (oxx _).mono ?_
      rintro e w1 ⟨rfl, rfl⟩
      go_wp2_with fail
      refine (oxy _).mono ?_
      rintro e w1 ⟨rfl, rfl⟩
      go_wp2_with fail
      refine (oyz _).mono ?_
      rintro e w1 ⟨rfl, rfl⟩
      go_wp2_with fail
      refine (oxz _).mono ?_
      rintro e w1 ⟨rfl, rfl⟩
      go_wp2_with fail
      refine (oxz _).mono ?_
      rintro e w1 ⟨rfl, rfl⟩
      go_wp2_with fail
      refine (oxy _).mono ?_
      rintro e w1 ⟨rfl, rfl⟩
      go_wp2_with fail
      refine (oyz _).mono ?_
      rintro e w1 ⟨rfl, rfl⟩
      go_wp2
      go_ret
      exact ⟨rfl, below_drawn _ _⟩
    · have oyz := order_is hy' hz' k2
      go_enter Try.func8, Try.ntmps8
      go_wp2_with fail
      refine (awake_any _).mono ?_
      rintro e w1 ⟨rfl, m, rfl⟩
      go_wp2_with fail
      refine (oxy _).mono ?_
      rintro e w1 ⟨rfl, rfl⟩
      go_wp2_with fail
      refine (oyx _).mono ?_
      rintro e w1 ⟨rfl, rfl⟩
      go_wp2_with fail
      refine (oxx _).mono ?_
      rintro e w1 ⟨rfl, rfl⟩
      go_wp2_with fail
      refine (oxy _).mono ?_
      rintro e w1 ⟨rfl, rfl⟩
      go_wp2_with fail
      refine (oyz _).mono ?_
      rintro e w1 ⟨rfl, rfl⟩
      go_wp2
      go_ret
      exact ⟨rfl, below_drawn _ _⟩
  · have oxy := order_is hx' hy' k1
    have oyx := order_is hy' hx' (cmp_lt (by omega) : cmpI (placeI y) (placeI x) = _)
    go_enter Try.func8, Try.ntmps8
    go_wp2_with fail
    refine (awake_any _).mono ?_
    rintro e w1 ⟨rfl, m, rfl⟩
    go_wp2_with fail
    refine (oxy _).mono ?_
    rintro e w1 ⟨rfl, rfl⟩
    go_wp2_with fail
    refine (oyx _).mono ?_
    rintro e w1 ⟨rfl, rfl⟩
    go_wp2_with fail
    refine (oxx _).mono ?_
    rintro e w1 ⟨rfl, rfl⟩
    go_wp2_with fail
    refine (oxy _).mono ?_
    rintro e w1 ⟨rfl, rfl⟩
    go_wp2
    go_ret
    exact ⟨rfl, below_drawn _ _⟩
end Go.Proofs.Yteigohjbiapilaa
