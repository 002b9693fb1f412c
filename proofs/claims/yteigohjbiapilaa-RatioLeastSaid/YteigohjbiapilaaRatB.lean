/- The functions of package ratio and of its reference that speak of signs, infinities and places. No statement of the seat is proved here. -/
import Derived.Test.YteigohjbiapilaaRatA
namespace Go.Proofs.Yteigohjbiapilaa
open Go.RowKit

theorem abs_any (x : Nat) (hx : x < 18446744073709551616) (w : World) : Calls Try.prog 41 #[.float .f64 x] w fun e w' => e = .returned (.float .f64 (rung x)) ∧ w = w' := by
  have hg := Lib.hid (abs_bits x hx)
  go_enter Try.func41, Try.ntmps41
  go_wp2
  go_ret
  exact ⟨ret_float hg.out, rfl⟩
theorem copysign_any (x y : Nat) (hx : x < 18446744073709551616) (hy : y < 18446744073709551616) (w : World) : Calls Try.prog 31 #[.float .f64 x, .float .f64 y] w fun e w' => e = .returned (.float .f64 (withSign x y)) ∧ w = w' := by
  have hg := Lib.hid (copysign_bits x y hx hy)
  go_enter Try.func31, Try.ntmps31
  go_wp2
  go_ret
  exact ⟨ret_float hg.out, rfl⟩
theorem isInf_any (x : Nat) (hx : x < 18446744073709551616) (w : World) : Calls Try.prog 40 #[.float .f64 x, .int .i64 0] w fun e w' => e = .returned (.bool (infB x)) ∧ w = w' := by
  have hg := Lib.hid ((f_gt (rung x) 9218868437227405311 (by have := rung_lt x; omega) (by decide)).trans (inf_cmp x))
  go_enter Try.func40, Try.ntmps40
  go_wp2_with fail
  refine (abs_any x hx _).mono ?_
  rintro e w1 ⟨rfl, rfl⟩
  go_wp2
  go_ret
  exact ⟨ret_bool hg.out, rfl⟩
theorem isInfinite_any (x : Nat) (hx : x < 18446744073709551616) (w : World) : Calls Try.prog 30 #[.float .f64 x] w fun e w' => e = .returned (.bool (infB x)) ∧ w = w' := by
  go_enter Try.func30, Try.ntmps30
  go_wp2_with fail
  refine (isInf_any x hx _).mono ?_
  rintro e w1 ⟨rfl, rfl⟩
  go_wp2
  go_ret
  exact ⟨rfl, rfl⟩
theorem inf_any (w : World) : Calls Try.prog 32 #[.int .i64 1] w fun e w' => e = .returned (.float .f64 9218868437227405312) ∧ w = w' := by
  go_enter Try.func32, Try.ntmps32
  go_wp2
  go_ret
  exact ⟨rfl, rfl⟩
theorem theNaN_any (w : World) : Calls Try.prog 29 #[] w fun e w' => e = .returned (.float .f64 9221120237041090561) ∧ w = w' := by
  go_enter Try.func29, Try.ntmps29
  go_wp2
  go_ret
  exact ⟨rfl, rfl⟩
theorem nan_any (x : Nat) (hx : x < 18446744073709551616) (w : World) : Calls Try.prog 26 #[.float .f64 x] w fun e w' => e = .returned (.bool (nanB x)) ∧ w = w' := by
  have hg := Lib.hid (f_nan x hx)
  go_enter Try.func26, Try.ntmps26
  go_wp2
  go_ret
  exact ⟨ret_bool hg.out, rfl⟩
theorem below_any (x : Nat) (w : World) : Calls Try.prog 36 #[.float .f64 x] w fun e w' => e = .returned (.bool (negB x)) ∧ w = w' := by
  have hg : decide ((9223372036854775808 : Int) ≤ (x : Int)) = negB x := by unfold negB; rw [decide_eq_decide]; omega
  replace hg := Lib.hid hg
  go_enter Try.func36, Try.ntmps36
  go_wp2
  go_ret
  exact ⟨ret_bool hg.out, rfl⟩
theorem zero_any (x : Nat) (w : World) : Calls Try.prog 35 #[.bool (negB x)] w fun e w' => e = .returned (.float .f64 (withSign 0 x)) ∧ w = w' := by
  have hg : withSign 0 x = if negB x then 9223372036854775808 else 0 := by unfold withSign; split <;> rfl
  replace hg := Lib.hid hg
  cases h : negB x
  · rw [h] at hg
    go_enter Try.func35, Try.ntmps35
    go_wp2
    go_ret
    exact ⟨ret_float (hg.out.trans rfl).symm, rfl⟩
  · rw [h] at hg
    go_enter Try.func35, Try.ntmps35
    go_wp2
    go_ret
    exact ⟨ret_float (hg.out.trans rfl).symm, rfl⟩
theorem infinity_any (x : Nat) (w : World) : Calls Try.prog 37 #[.bool (negB x)] w fun e w' => e = .returned (.float .f64 (withSign 9218868437227405312 x)) ∧ w = w' := by
  have hg : withSign 9218868437227405312 x = if negB x then 18442240474082181120 else 9218868437227405312 := by unfold withSign; split <;> rfl
  replace hg := Lib.hid hg
  cases h : negB x
  · rw [h] at hg
    go_enter Try.func37, Try.ntmps37
    go_wp2
    go_ret
    exact ⟨ret_float (hg.out.trans rfl).symm, rfl⟩
  · rw [h] at hg
    go_enter Try.func37, Try.ntmps37
    go_wp2
    go_ret
    exact ⟨ret_float (hg.out.trans rfl).symm, rfl⟩
theorem infinite_any (x : Nat) (hx : x < 18446744073709551616) (w : World) : Calls Try.prog 33 #[.float .f64 x] w fun e w' => e = .returned (.bool (infB x)) ∧ ∃ m, w' = w.drewN m := by
  have hs := sub_self_word x hx
  cases h : nanB x
  · cases h' : infB x
    · rw [h, h'] at hs
      have hop : ∀ t w, (binOp .sub t (.float .f64 x) (.float .f64 x)).run Try.prog w = .ok (.float .f64 0) w := fun t w => run_float_arith w .sub t .f64 x x 0 hs
      have h0 : nanB 0 = false := by decide
      go_enter Try.func33, Try.ntmps33
      go_wp2_with fail
      refine (nan_any x hx _).mono ?_
      rintro e w1 ⟨rfl, rfl⟩
      go_wp2_with fail
      refine (nan_any 0 (by decide) _).mono ?_
      rintro e w1 ⟨rfl, rfl⟩
      go_wp2
      go_ret
      exact ⟨rfl, 0, rfl⟩
    · rw [h, h'] at hs
      obtain ⟨r, hop, hr, hl⟩ := run_float_nan (P := Try.prog) w .sub 22 x x hs (.inl rfl)
      go_enter Try.func33, Try.ntmps33
      go_wp2_with fail
      refine (nan_any x hx _).mono ?_
      rintro e w1 ⟨rfl, rfl⟩
      go_wp2_with fail
      refine (nan_any r hl _).mono ?_
      rintro e w1 ⟨rfl, rfl⟩
      go_wp2
      go_ret
      exact ⟨rfl, 1, rfl⟩
  · have h' := not_nan_inf h
    go_enter Try.func33, Try.ntmps33
    go_wp2_with fail
    refine (nan_any x hx _).mono ?_
    rintro e w1 ⟨rfl, rfl⟩
    go_wp2
    go_ret
    exact ⟨ret_bool h'.symm, 0, rfl⟩
theorem same_any (x y : Nat) (hx : x < 18446744073709551616) (hy : y < 18446744073709551616) (h : (nanB x = true ∧ nanB y = true) ∨ x = y) (w : World) : Calls Try.prog 14 #[.float .f64 x, .float .f64 y] w fun e w' => e = .returned (.bool true) ∧ w = w' := by
  cases h1 : nanB x
  · obtain rfl : x = y := by
      rcases h with ⟨h, _⟩ | h
      · rw [h1] at h; cases h
      · exact h
    go_enter Try.func14, Try.ntmps14
    go_wp2_with fail
    refine (nan_any x hx _).mono ?_
    rintro e w1 ⟨rfl, rfl⟩
    go_wp2
    go_ret
    exact ⟨rfl, rfl⟩
  · have h2 : nanB y = true := by
      rcases h with ⟨_, h⟩ | h
      · exact h
      · rw [← h]; exact h1
    go_enter Try.func14, Try.ntmps14
    go_wp2_with fail
    refine (nan_any x hx _).mono ?_
    rintro e w1 ⟨rfl, rfl⟩
    go_wp2_with fail
    refine (nan_any y hy _).mono ?_
    rintro e w1 ⟨rfl, rfl⟩
    go_wp2
    go_ret
    exact ⟨rfl, rfl⟩
theorem place_any (x : Nat) (hx : x < 18446744073709551616) (w : World) : Calls Try.prog 25 #[.float .f64 x] w fun e w' => e = .returned (.int .i64 (placeI x)) ∧ w = w' := by
  have hg : placeI x = if nanB x then 9223372036854775807 else if 9223372036854775808 ≤ x then -((x : Int) - 9223372036854775808) - 1 else (x : Int) := rfl
  cases h : nanB x
  · by_cases h' : 9223372036854775808 ≤ x
    · rw [h, if_neg (by simp), if_pos h'] at hg
      have hi : (9223372036854775808 : Int) ≤ (x : Int) := by omega
      replace hg := Lib.hid hg
      go_enter Try.func25, Try.ntmps25
      go_wp2_with fail
      refine (nan_any x hx _).mono ?_
      rintro e w1 ⟨rfl, rfl⟩
      go_wp2
      go_ret
      refine ⟨ret_int ?_, rfl⟩
      rw [hg.out]
    · rw [h, if_neg (by simp), if_neg h'] at hg
      have hd : decide ((9223372036854775808 : Int) ≤ (x : Int)) = false := by rw [decide_eq_false_iff_not]; omega
      have hi := Lib.hid h'
      have hx' := Lib.hid hx
      clear h' hx
      replace hg := Lib.hid hg
      go_enter Try.func25, Try.ntmps25
      go_wp2_with fail
      refine (nan_any x hx'.out _).mono ?_
      rintro e w1 ⟨rfl, rfl⟩
      go_wp2
      go_ret
      refine ⟨ret_int ?_, rfl⟩
      have hi' := hi.out
      have hx2 := hx'.out
      rw [hg.out]
      simp only [wrap64]
      omega
  · rw [h, if_pos rfl] at hg
    replace hg := Lib.hid hg
    go_enter Try.func25, Try.ntmps25
    go_wp2_with fail
    refine (nan_any x hx _).mono ?_
    rintro e w1 ⟨rfl, rfl⟩
    go_wp2
    go_ret
    exact ⟨ret_int hg.out.symm, rfl⟩
theorem refOrder_any (x y : Nat) (hx : x < 18446744073709551616) (hy : y < 18446744073709551616) (w : World) : Calls Try.prog 11 #[.float .f64 x, .float .f64 y] w fun e w' => e = .returned (.int .i64 (orderP x y)) ∧ w = w' := by
  have hg : orderP x y = if placeI x < placeI y then -1 else if placeI y < placeI x then 1 else 0 := rfl
  by_cases h1 : placeI x < placeI y
  · rw [if_pos h1] at hg
    replace hg := Lib.hid hg
    go_enter Try.func11, Try.ntmps11
    go_wp2_with fail
    refine (place_any x hx _).mono ?_
    rintro e w1 ⟨rfl, rfl⟩
    go_wp2_with fail
    refine (place_any y hy _).mono ?_
    rintro e w1 ⟨rfl, rfl⟩
    go_wp2
    go_ret
    exact ⟨ret_int hg.out.symm, rfl⟩
  by_cases h2 : placeI y < placeI x
  · rw [if_neg h1, if_pos h2] at hg
    replace hg := Lib.hid hg
    go_enter Try.func11, Try.ntmps11
    go_wp2_with fail
    refine (place_any x hx _).mono ?_
    rintro e w1 ⟨rfl, rfl⟩
    go_wp2_with fail
    refine (place_any y hy _).mono ?_
    rintro e w1 ⟨rfl, rfl⟩
    go_wp2_with fail
    refine (place_any x hx _).mono ?_
    rintro e w1 ⟨rfl, rfl⟩
    go_wp2_with fail
    refine (place_any y hy _).mono ?_
    rintro e w1 ⟨rfl, rfl⟩
    go_wp2
    go_ret
    exact ⟨ret_int hg.out.symm, rfl⟩
  rw [if_neg h1, if_neg h2] at hg
  replace hg := Lib.hid hg
  go_enter Try.func11, Try.ntmps11
  go_wp2_with fail
  refine (place_any x hx _).mono ?_
  rintro e w1 ⟨rfl, rfl⟩
  go_wp2_with fail
  refine (place_any y hy _).mono ?_
  rintro e w1 ⟨rfl, rfl⟩
  go_wp2_with fail
  refine (place_any x hx _).mono ?_
  rintro e w1 ⟨rfl, rfl⟩
  go_wp2_with fail
  refine (place_any y hy _).mono ?_
  rintro e w1 ⟨rfl, rfl⟩
  go_wp2
  go_ret
  exact ⟨ret_int hg.out.symm, rfl⟩
end Go.Proofs.Yteigohjbiapilaa
