/- The small functions on floats. No statement of the seat is proved here. -/
import Derived.Test.YteigohjbiapilaaBase
namespace Go.Proofs.Yteigohjbiapilaa
open Go.RowKit

@[go_sem] theorem call_bits (x : Nat) (w : World) : (callFunc 27 #[.float .f64 x]).run Try.prog w = .ok (.value (.int .u64 x)) w :=
  run_callFunc_extern Try.func27 (by kernel_rfl) (by kernel_rfl) (by kernel_rfl) (e := Extern.MathFloatBits.float64bits) (by kernel_rfl) _ w
@[go_sem] theorem call_from (n : Int) (w : World) : (callFunc 34 #[.int .u64 n]).run Try.prog w = .ok (.value (.float .f64 n.toNat)) w :=
  run_callFunc_extern Try.func34 (by kernel_rfl) (by kernel_rfl) (by kernel_rfl) (e := Extern.MathFloatBits.float64frombits) (by kernel_rfl) _ w
theorem isNaN_any (x : Nat) (hx : x < 18446744073709551616) (w : World) : Calls Try.prog 28 #[.float .f64 x] w fun e w' => e = .returned (.bool (nanB x)) ∧ w = w' := by
  have hg := Lib.hid (f_nan x hx)
  go_enter Try.func28, Try.ntmps28
  go_wp2
  go_ret
  exact ⟨ret_bool hg.out, rfl⟩
theorem signbit_any (x : Nat) (hx : x < 18446744073709551616) (w : World) : Calls Try.prog 39 #[.float .f64 x] w fun e w' => e = .returned (.bool (negB x)) ∧ w = w' := by
  have hg : decide (wrap64 x < 0) = negB x := by
    unfold negB wrap64
    rw [decide_eq_decide]
    omega
  replace hg := Lib.hid hg
  go_enter Try.func39, Try.ntmps39
  go_wp2
  go_ret
  exact ⟨ret_bool hg.out, rfl⟩
theorem inan_any (n : Int) (w : World) : Calls Try.prog 38 #[.int .i64 n] w fun e w' => e = .returned (.bool false) ∧ w = w' := by
  have hg : (n != n) = false := by simp
  go_enter Try.func38, Try.ntmps38
  go_wp2
  go_ret
  exact ⟨rfl, rfl⟩
theorem compare_any (a b : Int) (w : World) : Calls Try.prog 23 #[.int .i64 a, .int .i64 b] w fun e w' => e = .returned (.int .i64 (cmpI a b)) ∧ w = w' := by
  by_cases h1 : a < b
  · have hg : (-1 : Int) = cmpI a b := by unfold cmpI; rw [if_pos h1]
    replace hg := Lib.hid hg
    go_enter Try.func23, Try.ntmps23
    go_wp2_with (go_at_call 38; refine (inan_any _ _).mono ?_; rintro e w' ⟨rfl, rfl⟩)
    go_ret
    exact ⟨ret_int hg.out, rfl⟩
  by_cases h2 : b < a
  · have hg : (1 : Int) = cmpI a b := by unfold cmpI; rw [if_neg h1, if_pos h2]
    replace hg := Lib.hid hg
    go_enter Try.func23, Try.ntmps23
    go_wp2_with (go_at_call 38; refine (inan_any _ _).mono ?_; rintro e w' ⟨rfl, rfl⟩)
    go_ret
    exact ⟨ret_int hg.out, rfl⟩
  have hg : (0 : Int) = cmpI a b := by unfold cmpI; rw [if_neg h1, if_neg h2]
  replace hg := Lib.hid hg
  go_enter Try.func23, Try.ntmps23
  go_wp2_with (go_at_call 38; refine (inan_any _ _).mono ?_; rintro e w' ⟨rfl, rfl⟩)
  go_ret
  exact ⟨ret_int hg.out, rfl⟩
theorem rank_any (x : Nat) (hx : x < 18446744073709551616) (w : World) : Calls Try.prog 24 #[.float .f64 x] w fun e w' => e = .returned (.int .i64 (rankI x)) ∧ w = w' := by
  have hg : rankI x = if nanB x then 2 else if negB x then 0 else 1 := by unfold rankI negB; simp
  replace hg := Lib.hid hg
  go_enter Try.func24, Try.ntmps24
  go_wp2_with fail
  refine (isNaN_any x hx _).mono ?_
  rintro e w1 ⟨rfl, rfl⟩
  cases hn : nanB x
  · rw [hn] at hg
    go_wp2_with fail
    refine (signbit_any x hx _).mono ?_
    rintro e w1 ⟨rfl, rfl⟩
    cases hs : negB x
    · rw [hs] at hg
      go_wp2
      go_ret
      exact ⟨ret_int (hg.out.trans rfl).symm, rfl⟩
    · rw [hs] at hg
      go_wp2
      go_ret
      exact ⟨ret_int (hg.out.trans rfl).symm, rfl⟩
  · rw [hn] at hg
    go_wp2
    go_ret
    exact ⟨ret_int (hg.out.trans rfl).symm, rfl⟩
theorem order_any (x y : Nat) (hx : x < 18446744073709551616) (hy : y < 18446744073709551616) (w : World) : Calls Try.prog 10 #[.float .f64 x, .float .f64 y] w fun e w' => e = .returned (.int .i64 (orderP x y)) ∧ w = w' := by
  have e1 := f_lt x y hx hy
  have e2 := f_gt x y hx hy
  cases h1 : ltB x y
  · rw [h1] at e1
    cases h2 : ltB y x
    · rw [h2] at e2
      have hg := Lib.hid (order_no x y hx hy h1 h2)
      go_enter Try.func10, Try.ntmps10
      go_wp2_with fail
      refine (rank_any x hx _).mono ?_
      rintro e w1 ⟨rfl, rfl⟩
      go_wp2_with fail
      refine (rank_any y hy _).mono ?_
      rintro e w1 ⟨rfl, rfl⟩
      go_wp2_with fail
      refine (compare_any _ _ _).mono ?_
      rintro e w1 ⟨rfl, rfl⟩
      go_wp2
      go_ret
      exact ⟨ret_int hg.out, rfl⟩
    · rw [h2] at e2
      have hg := Lib.hid (order_gt x y hx hy h2)
      go_enter Try.func10, Try.ntmps10
      go_wp2
      go_ret
      exact ⟨ret_int hg.out, rfl⟩
  · rw [h1] at e1
    have hg := Lib.hid (order_lt x y hx hy h1)
    go_enter Try.func10, Try.ntmps10
    go_wp2
    go_ret
    exact ⟨ret_int hg.out, rfl⟩
end Go.Proofs.Yteigohjbiapilaa
