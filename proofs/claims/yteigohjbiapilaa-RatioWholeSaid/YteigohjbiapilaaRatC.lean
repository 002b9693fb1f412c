/- Share, Above and Clamp of package ratio and of its reference. No statement of the seat is proved here. -/
import Derived.Test.YteigohjbiapilaaRatB
namespace Go.Proofs.Yteigohjbiapilaa
open Go.RowKit

/-- the share as the chapter says it; none: a NaN -/
def shareR (x y : Nat) : Option Nat :=
  if nanB x || nanB y then none else if infB y then (if infB x then none else some (withSign 0 x))
  else if zeroB y then (if zeroB x then some (withSign 0 x) else some (withSign 9218868437227405312 x)) else floatBits .quo .f64 x y
def Shares (x y r : Nat) : Prop := r < 18446744073709551616 ∧ ((nanB r = true ∧ shareR x y = none) ∨ shareR x y = some r)
def aboveR (x y l : Nat) : Bool := match shareR x y with | none => false | some r => ltB l r

theorem ltB_nan (l r : Nat) (h : nanB r = true) : ltB l r = false := by unfold ltB; rw [h]; simp
theorem Shares.above {x y r : Nat} (h : Shares x y r) (l : Nat) : ltB l r = aboveR x y l := by
  unfold aboveR
  rcases h.2 with ⟨h1, h2⟩ | h2 <;> rw [h2]
  exact ltB_nan l r h1
theorem Shares.same {x y r q : Nat} (h : Shares x y r) (h' : Shares x y q) : (nanB r = true ∧ nanB q = true) ∨ r = q := by
  rcases h.2 with ⟨h1, h2⟩ | h2 <;> rcases h'.2 with ⟨k1, k2⟩ | k2
  · exact .inl ⟨h1, k1⟩
  · rw [h2] at k2; cases k2
  · rw [h2] at k2; cases k2
  · rw [h2] at k2; exact .inr (by injection k2)
theorem withSign_lt (x y : Nat) : withSign x y < 18446744073709551616 := by
  have := rung_lt x
  unfold withSign; split <;> omega
theorem withSign_zero (x : Nat) (hx : x < 18446744073709551616) (h : zeroB x = true) : withSign 0 x = x := by
  unfold zeroB at h
  unfold withSign negB
  have h' : rung x = 0 := by simpa using h
  have e : rung 0 = 0 := by decide
  rw [e]
  unfold rung at h'
  by_cases k : 9223372036854775808 ≤ x
  · simp [k]; omega
  · simp [k]; omega
theorem inf_zero {x : Nat} (h : infB x = true) : zeroB x = false := by
  unfold infB at h; unfold zeroB
  simp at h ⊢; omega
theorem zero_inf {x : Nat} (h : zeroB x = true) : infB x = false := by
  unfold zeroB at h; unfold infB
  simp at h ⊢; omega
theorem nan_const : nanB 9221120237041090561 = true ∧ 9221120237041090561 < 18446744073709551616 := by decide
theorem f_zero (x : Nat) (hx : x < 18446744073709551616) : (FloatKind.f64.format.order x 0 == some .eq) = zeroB x := (f_eq x 0 hx (by decide)).trans (zero_cmp x)

theorem above_eq (r l : Nat) (hr : r < 18446744073709551616) (hl : l < 18446744073709551616) (h1 : nanB r = false) (h2 : nanB l = false) (h3 : (zeroB r && zeroB l) = false) : decide (0 < orderP r l) = ltB l r := by
  cases h : ltB l r
  · cases h' : ltB r l
    · have e := order_no r l hr hl h' h
      rw [← e]
      rcases lt_cases l r with ⟨k, _⟩ | ⟨_, k⟩
      · rw [h] at k; cases k
      rcases lt_cases r l with ⟨k', _⟩ | ⟨_, k'⟩
      · rw [h'] at k'; cases k'
      rw [h1, h2] at k k'
      simp only [Bool.false_eq_true, false_or] at k k'
      have hs : srung r = srung l := by omega
      have z1 : zeroB r = decide (srung r = 0) := by unfold zeroB srung; rw [decide_eq_decide]; split <;> omega
      have z2 : zeroB l = decide (srung l = 0) := by unfold zeroB srung; rw [decide_eq_decide]; split <;> omega
      rw [z1, z2, hs] at h3
      have hz : srung l ≠ 0 := by simpa using h3
      rcases place_cases r hr with ⟨p, _⟩ | ⟨_, p0, p1, p2, p3, p4⟩ | ⟨_, p0, p1, p2, p3, p4⟩ <;> rcases place_cases l hl with ⟨q, _⟩ | ⟨_, q0, q1, q2, q3, q4⟩ | ⟨_, q0, q1, q2, q3, q4⟩
      · rw [h1] at p; cases p
      · rw [h1] at p; cases p
      · rw [h1] at p; cases p
      · rw [h2] at q; cases q
      · rw [p3, q3]; rfl
      · exfalso; omega
      · rw [h2] at q; cases q
      · exfalso; omega
      · rw [p3, q3]; rfl
    · rw [← order_lt r l hr hl h']; rfl
  · rw [← order_gt r l hr hl h]; rfl

theorem share_any (x y : Nat) (hx : x < 18446744073709551616) (hy : y < 18446744073709551616) (w : World) : Calls Try.prog 15 #[.float .f64 x, .float .f64 y] w fun e w' => ∃ r, e = .returned (.float .f64 r) ∧ Shares x y r ∧ ∃ m, w' = w.drewN m := by
  have zx := f_zero x hx
  have zy := f_zero y hy
  have hsh : shareR x y = if nanB x || nanB y then none else if infB y then (if infB x then none else some (withSign 0 x)) else if zeroB y then (if zeroB x then some (withSign 0 x) else some (withSign 9218868437227405312 x)) else floatBits .quo .f64 x y := rfl
  cases h1 : nanB x
  case true =>
    have HS : Hid (Shares x y 9221120237041090561) := Lib.hid ⟨nan_const.2, .inl ⟨nan_const.1, by rw [hsh, h1]; rfl⟩⟩
    clear zx zy hsh
    go_enter Try.func15, Try.ntmps15
    go_wp2_with fail
    refine (isNaN_any x hx _).mono ?_
    rintro e w1 ⟨rfl, rfl⟩
    go_wp2_with fail
    refine (theNaN_any  _).mono ?_
    rintro e w1 ⟨rfl, rfl⟩
    go_wp2
    go_ret
    exact ⟨_, rfl, HS.out, 0, rfl⟩
  cases h2 : nanB y
  case true =>
    have HS : Hid (Shares x y 9221120237041090561) := Lib.hid ⟨nan_const.2, .inl ⟨nan_const.1, by rw [hsh, h1, h2]; rfl⟩⟩
    clear zx zy hsh
    go_enter Try.func15, Try.ntmps15
    go_wp2_with fail
    refine (isNaN_any x hx _).mono ?_
    rintro e w1 ⟨rfl, rfl⟩
    go_wp2_with fail
    refine (isNaN_any y hy _).mono ?_
    rintro e w1 ⟨rfl, rfl⟩
    go_wp2_with fail
    refine (theNaN_any  _).mono ?_
    rintro e w1 ⟨rfl, rfl⟩
    go_wp2
    go_ret
    exact ⟨_, rfl, HS.out, 0, rfl⟩
  rw [h1, h2] at hsh
  cases h3 : infB y
  case true =>
    have h5 := inf_zero h3
    rw [h5] at zy
    cases h4 : infB x
    case true =>
      have hn := div_none x y hx hy h4 h3
      obtain ⟨r, hop, hr, hl⟩ := run_float_nan (P := Try.prog) w .quo 22 x y hn (.inr rfl)
      have HS : Hid (Shares x y r) := Lib.hid ⟨hl, .inl ⟨hr, by rw [hsh, h3, h4]; rfl⟩⟩
      clear zx hsh h5 hn hr hl
      go_enter Try.func15, Try.ntmps15
      go_wp2_with fail
      refine (isNaN_any x hx _).mono ?_
      rintro e w1 ⟨rfl, rfl⟩
      go_wp2_with fail
      refine (isNaN_any y hy _).mono ?_
      rintro e w1 ⟨rfl, rfl⟩
      go_wp2_with fail
      refine (isInfinite_any y hy _).mono ?_
      rintro e w1 ⟨rfl, rfl⟩
      go_wp2_with fail
      refine (isInfinite_any x hx _).mono ?_
      rintro e w1 ⟨rfl, rfl⟩
      go_wp2
      go_ret
      exact ⟨_, rfl, HS.out, 1, rfl⟩
    case false =>
      have HS : Hid (Shares x y (withSign 0 x)) := Lib.hid ⟨withSign_lt _ _, .inr (by rw [hsh, h3, h4]; rfl)⟩
      clear zx zy hsh h5
      go_enter Try.func15, Try.ntmps15
      go_wp2_with fail
      refine (isNaN_any x hx _).mono ?_
      rintro e w1 ⟨rfl, rfl⟩
      go_wp2_with fail
      refine (isNaN_any y hy _).mono ?_
      rintro e w1 ⟨rfl, rfl⟩
      go_wp2_with fail
      refine (isInfinite_any y hy _).mono ?_
      rintro e w1 ⟨rfl, rfl⟩
      go_wp2_with fail
      refine (isInfinite_any x hx _).mono ?_
      rintro e w1 ⟨rfl, rfl⟩
      go_wp2_with fail
      refine (copysign_any 0 x (by decide) hx _).mono ?_
      rintro e w1 ⟨rfl, rfl⟩
      go_wp2
      go_ret
      exact ⟨_, rfl, HS.out, 0, rfl⟩
  rw [h3] at hsh
  cases h5 : zeroB y
  case true =>
    rw [h5] at zy
    cases h6 : zeroB x
    case true =>
      have HS : Hid (Shares x y (withSign 0 x)) := Lib.hid ⟨withSign_lt _ _, .inr (by rw [hsh, h5, h6]; rfl)⟩
      rw [h6] at zx
      have hz := withSign_zero x hx h6
      rw [hz] at HS
      clear hsh hz
      go_enter Try.func15, Try.ntmps15
      go_wp2_with fail
      refine (isNaN_any x hx _).mono ?_
      rintro e w1 ⟨rfl, rfl⟩
      go_wp2_with fail
      refine (isNaN_any y hy _).mono ?_
      rintro e w1 ⟨rfl, rfl⟩
      go_wp2_with fail
      refine (isInfinite_any y hy _).mono ?_
      rintro e w1 ⟨rfl, rfl⟩
      go_wp2
      go_ret
      exact ⟨_, rfl, HS.out, 0, rfl⟩
    case false =>
      have HS : Hid (Shares x y (withSign 9218868437227405312 x)) := Lib.hid ⟨withSign_lt _ _, .inr (by rw [hsh, h5, h6]; rfl)⟩
      rw [h6] at zx
      clear hsh
      go_enter Try.func15, Try.ntmps15
      go_wp2_with fail
      refine (isNaN_any x hx _).mono ?_
      rintro e w1 ⟨rfl, rfl⟩
      go_wp2_with fail
      refine (isNaN_any y hy _).mono ?_
      rintro e w1 ⟨rfl, rfl⟩
      go_wp2_with fail
      refine (isInfinite_any y hy _).mono ?_
      rintro e w1 ⟨rfl, rfl⟩
      go_wp2_with fail
      refine (inf_any  _).mono ?_
      rintro e w1 ⟨rfl, rfl⟩
      go_wp2_with fail
      refine (copysign_any 9218868437227405312 x (by decide) hx _).mono ?_
      rintro e w1 ⟨rfl, rfl⟩
      go_wp2
      go_ret
      exact ⟨_, rfl, HS.out, 0, rfl⟩
  case false =>
    rw [h5] at zy
    obtain ⟨r, hq, hl⟩ := div_some x y hx hy h1 h2 (.inr h3) h5
    have HS : Hid (Shares x y r) := Lib.hid ⟨hl, .inr (by rw [hsh, h5]; exact hq)⟩
    have hop : ∀ t w, (binOp .quo t (.float .f64 x) (.float .f64 y)).run Try.prog w = .ok (.float .f64 r) w := fun t w => run_float_arith w .quo t .f64 x y r hq
    clear hsh zx hq hl
    go_enter Try.func15, Try.ntmps15
    go_wp2_with fail
    refine (isNaN_any x hx _).mono ?_
    rintro e w1 ⟨rfl, rfl⟩
    go_wp2_with fail
    refine (isNaN_any y hy _).mono ?_
    rintro e w1 ⟨rfl, rfl⟩
    go_wp2_with fail
    refine (isInfinite_any y hy _).mono ?_
    rintro e w1 ⟨rfl, rfl⟩
    go_wp2
    go_ret
    exact ⟨_, rfl, HS.out, 0, rfl⟩

theorem refShare_any (x y : Nat) (hx : x < 18446744073709551616) (hy : y < 18446744073709551616) (w : World) : Calls Try.prog 16 #[.float .f64 x, .float .f64 y] w fun e w' => ∃ r, e = .returned (.float .f64 r) ∧ Shares x y r ∧ ∃ m, w' = w.drewN m := by
  have zx := f_zero x hx
  have zy := f_zero y hy
  have hsh : shareR x y = if nanB x || nanB y then none else if infB y then (if infB x then none else some (withSign 0 x)) else if zeroB y then (if zeroB x then some (withSign 0 x) else some (withSign 9218868437227405312 x)) else floatBits .quo .f64 x y := rfl
  cases h1 : nanB x
  case true =>
    have HS : Hid (Shares x y 9221120237041090561) := Lib.hid ⟨nan_const.2, .inl ⟨nan_const.1, by rw [hsh, h1]; rfl⟩⟩
    clear zx zy hsh
    go_enter Try.func16, Try.ntmps16
    go_wp2_with fail
    refine (nan_any x hx _).mono ?_
    rintro e w1 ⟨rfl, rfl⟩
    go_wp2
    go_ret
    exact ⟨_, rfl, HS.out, 0, rfl⟩
  cases h2 : nanB y
  case true =>
    have HS : Hid (Shares x y 9221120237041090561) := Lib.hid ⟨nan_const.2, .inl ⟨nan_const.1, by rw [hsh, h1, h2]; rfl⟩⟩
    clear zx zy hsh
    go_enter Try.func16, Try.ntmps16
    go_wp2_with fail
    refine (nan_any x hx _).mono ?_
    rintro e w1 ⟨rfl, rfl⟩
    go_wp2_with fail
    refine (nan_any y hy _).mono ?_
    rintro e w1 ⟨rfl, rfl⟩
    go_wp2
    go_ret
    exact ⟨_, rfl, HS.out, 0, rfl⟩
  rw [h1, h2] at hsh
  cases h3 : infB y
  case true =>
    have h5 := inf_zero h3
    rw [h5] at zy
    cases h4 : infB x
    case true =>
      have HS : Hid (Shares x y 9221120237041090561) := Lib.hid ⟨nan_const.2, .inl ⟨nan_const.1, by rw [hsh, h3, h4]; rfl⟩⟩
      clear zx zy hsh h5
      go_enter Try.func16, Try.ntmps16
      go_wp2_with fail
      refine (nan_any x hx _).mono ?_
      rintro e w1 ⟨rfl, rfl⟩
      go_wp2_with fail
      refine (nan_any y hy _).mono ?_
      rintro e w1 ⟨rfl, rfl⟩
      go_wp2_with fail
      refine (infinite_any x hx _).mono ?_
      rintro e w1 ⟨rfl, m1, rfl⟩
      go_wp2_with fail
      refine (infinite_any y hy _).mono ?_
      rintro e w1 ⟨rfl, m2, rfl⟩
      go_wp2
      go_ret
      exact ⟨_, rfl, HS.out, _, rfl⟩
    case false =>
      have HS : Hid (Shares x y (withSign 0 x)) := Lib.hid ⟨withSign_lt _ _, .inr (by rw [hsh, h3, h4]; rfl)⟩
      clear zx zy hsh h5
      go_enter Try.func16, Try.ntmps16
      go_wp2_with fail
      refine (nan_any x hx _).mono ?_
      rintro e w1 ⟨rfl, rfl⟩
      go_wp2_with fail
      refine (nan_any y hy _).mono ?_
      rintro e w1 ⟨rfl, rfl⟩
      go_wp2_with fail
      refine (infinite_any x hx _).mono ?_
      rintro e w1 ⟨rfl, m3, rfl⟩
      go_wp2_with fail
      refine (infinite_any y hy _).mono ?_
      rintro e w1 ⟨rfl, m4, rfl⟩
      go_wp2_with fail
      refine (below_any x _).mono ?_
      rintro e w1 ⟨rfl, rfl⟩
      go_wp2_with fail
      refine (zero_any x _).mono ?_
      rintro e w1 ⟨rfl, rfl⟩
      go_wp2
      go_ret
      exact ⟨_, rfl, HS.out, _, rfl⟩
  rw [h3] at hsh
  cases h4 : infB x
  case false =>
    cases h5 : zeroB y
    case true =>
      rw [h5] at zy
      cases h6 : zeroB x
      case true =>
        have HS : Hid (Shares x y (withSign 0 x)) := Lib.hid ⟨withSign_lt _ _, .inr (by rw [hsh, h5, h6]; rfl)⟩
        rw [h6] at zx
        clear hsh
        go_enter Try.func16, Try.ntmps16
        go_wp2_with fail
        refine (nan_any x hx _).mono ?_
        rintro e w1 ⟨rfl, rfl⟩
        go_wp2_with fail
        refine (nan_any y hy _).mono ?_
        rintro e w1 ⟨rfl, rfl⟩
        go_wp2_with fail
        refine (infinite_any x hx _).mono ?_
        rintro e w1 ⟨rfl, m5, rfl⟩
        go_wp2_with fail
        refine (infinite_any y hy _).mono ?_
        rintro e w1 ⟨rfl, m6, rfl⟩
        go_wp2_with fail
        refine (below_any x _).mono ?_
        rintro e w1 ⟨rfl, rfl⟩
        go_wp2_with fail
        refine (zero_any x _).mono ?_
        rintro e w1 ⟨rfl, rfl⟩
        go_wp2
        go_ret
        exact ⟨_, rfl, HS.out, _, rfl⟩
      case false =>
        have HS : Hid (Shares x y (withSign 9218868437227405312 x)) := Lib.hid ⟨withSign_lt _ _, .inr (by rw [hsh, h5, h6]; rfl)⟩
        rw [h6] at zx
        clear hsh
        go_enter Try.func16, Try.ntmps16
        go_wp2_with fail
        refine (nan_any x hx _).mono ?_
        rintro e w1 ⟨rfl, rfl⟩
        go_wp2_with fail
        refine (nan_any y hy _).mono ?_
        rintro e w1 ⟨rfl, rfl⟩
        go_wp2_with fail
        refine (infinite_any x hx _).mono ?_
        rintro e w1 ⟨rfl, m7, rfl⟩
        go_wp2_with fail
        refine (infinite_any y hy _).mono ?_
        rintro e w1 ⟨rfl, m8, rfl⟩
        go_wp2_with fail
        refine (below_any x _).mono ?_
        rintro e w1 ⟨rfl, rfl⟩
        go_wp2_with fail
        refine (infinity_any x _).mono ?_
        rintro e w1 ⟨rfl, rfl⟩
        go_wp2
        go_ret
        exact ⟨_, rfl, HS.out, _, rfl⟩
    case false =>
      rw [h5] at zy
      obtain ⟨r, hq, hl⟩ := div_some x y hx hy h1 h2 (.inr h3) h5
      have HS : Hid (Shares x y r) := Lib.hid ⟨hl, .inr (by rw [hsh, h5]; exact hq)⟩
      have hop : ∀ t w, (binOp .quo t (.float .f64 x) (.float .f64 y)).run Try.prog w = .ok (.float .f64 r) w := fun t w => run_float_arith w .quo t .f64 x y r hq
      clear hsh zx hq hl
      go_enter Try.func16, Try.ntmps16
      go_wp2_with fail
      refine (nan_any x hx _).mono ?_
      rintro e w1 ⟨rfl, rfl⟩
      go_wp2_with fail
      refine (nan_any y hy _).mono ?_
      rintro e w1 ⟨rfl, rfl⟩
      go_wp2_with fail
      refine (infinite_any x hx _).mono ?_
      rintro e w1 ⟨rfl, m9, rfl⟩
      go_wp2_with fail
      refine (infinite_any y hy _).mono ?_
      rintro e w1 ⟨rfl, m10, rfl⟩
      go_wp2
      go_ret
      exact ⟨_, rfl, HS.out, _, rfl⟩
  case true =>
    cases h5 : zeroB y
    case true =>
      rw [h5] at zy
      cases h6 : zeroB x
      case true =>
        have HS : Hid (Shares x y (withSign 0 x)) := Lib.hid ⟨withSign_lt _ _, .inr (by rw [hsh, h5, h6]; rfl)⟩
        rw [h6] at zx
        clear hsh
        go_enter Try.func16, Try.ntmps16
        go_wp2_with fail
        refine (nan_any x hx _).mono ?_
        rintro e w1 ⟨rfl, rfl⟩
        go_wp2_with fail
        refine (nan_any y hy _).mono ?_
        rintro e w1 ⟨rfl, rfl⟩
        go_wp2_with fail
        refine (infinite_any x hx _).mono ?_
        rintro e w1 ⟨rfl, m11, rfl⟩
        go_wp2_with fail
        refine (infinite_any y hy _).mono ?_
        rintro e w1 ⟨rfl, m12, rfl⟩
        go_wp2_with fail
        refine (infinite_any y hy _).mono ?_
        rintro e w1 ⟨rfl, m13, rfl⟩
        go_wp2_with fail
        refine (below_any x _).mono ?_
        rintro e w1 ⟨rfl, rfl⟩
        go_wp2_with fail
        refine (zero_any x _).mono ?_
        rintro e w1 ⟨rfl, rfl⟩
        go_wp2
        go_ret
        exact ⟨_, rfl, HS.out, _, rfl⟩
      case false =>
        have HS : Hid (Shares x y (withSign 9218868437227405312 x)) := Lib.hid ⟨withSign_lt _ _, .inr (by rw [hsh, h5, h6]; rfl)⟩
        rw [h6] at zx
        clear hsh
        go_enter Try.func16, Try.ntmps16
        go_wp2_with fail
        refine (nan_any x hx _).mono ?_
        rintro e w1 ⟨rfl, rfl⟩
        go_wp2_with fail
        refine (nan_any y hy _).mono ?_
        rintro e w1 ⟨rfl, rfl⟩
        go_wp2_with fail
        refine (infinite_any x hx _).mono ?_
        rintro e w1 ⟨rfl, m14, rfl⟩
        go_wp2_with fail
        refine (infinite_any y hy _).mono ?_
        rintro e w1 ⟨rfl, m15, rfl⟩
        go_wp2_with fail
        refine (infinite_any y hy _).mono ?_
        rintro e w1 ⟨rfl, m16, rfl⟩
        go_wp2_with fail
        refine (below_any x _).mono ?_
        rintro e w1 ⟨rfl, rfl⟩
        go_wp2_with fail
        refine (infinity_any x _).mono ?_
        rintro e w1 ⟨rfl, rfl⟩
        go_wp2
        go_ret
        exact ⟨_, rfl, HS.out, _, rfl⟩
    case false =>
      rw [h5] at zy
      obtain ⟨r, hq, hl⟩ := div_some x y hx hy h1 h2 (.inr h3) h5
      have HS : Hid (Shares x y r) := Lib.hid ⟨hl, .inr (by rw [hsh, h5]; exact hq)⟩
      have hop : ∀ t w, (binOp .quo t (.float .f64 x) (.float .f64 y)).run Try.prog w = .ok (.float .f64 r) w := fun t w => run_float_arith w .quo t .f64 x y r hq
      clear hsh zx hq hl
      go_enter Try.func16, Try.ntmps16
      go_wp2_with fail
      refine (nan_any x hx _).mono ?_
      rintro e w1 ⟨rfl, rfl⟩
      go_wp2_with fail
      refine (nan_any y hy _).mono ?_
      rintro e w1 ⟨rfl, rfl⟩
      go_wp2_with fail
      refine (infinite_any x hx _).mono ?_
      rintro e w1 ⟨rfl, m17, rfl⟩
      go_wp2_with fail
      refine (infinite_any y hy _).mono ?_
      rintro e w1 ⟨rfl, m18, rfl⟩
      go_wp2_with fail
      refine (infinite_any y hy _).mono ?_
      rintro e w1 ⟨rfl, m19, rfl⟩
      go_wp2
      go_ret
      exact ⟨_, rfl, HS.out, _, rfl⟩

theorem above_any (x y l : Nat) (hx : x < 18446744073709551616) (hy : y < 18446744073709551616) (hl : l < 18446744073709551616) (w : World) : Calls Try.prog 17 #[.float .f64 x, .float .f64 y, .float .f64 l] w fun e w' => e = .returned (.bool (aboveR x y l)) ∧ ∃ m, w' = w.drewN m := by
  go_enter Try.func17, Try.ntmps17
  go_wp2_with fail
  refine (share_any x y hx hy _).mono ?_
  rintro e w1 ⟨r, rfl, hs, m, rfl⟩
  have hg := Lib.hid ((f_gt r l hs.1 hl).trans (hs.above l))
  clear hs
  go_wp2
  go_ret
  exact ⟨ret_bool hg.out, m, rfl⟩
theorem refAbove_any (x y l : Nat) (hx : x < 18446744073709551616) (hy : y < 18446744073709551616) (hl : l < 18446744073709551616) (w : World) : Calls Try.prog 18 #[.float .f64 x, .float .f64 y, .float .f64 l] w fun e w' => e = .returned (.bool (aboveR x y l)) ∧ ∃ m, w' = w.drewN m := by
  go_enter Try.func18, Try.ntmps18
  go_wp2_with fail
  refine (refShare_any x y hx hy _).mono ?_
  rintro e w1 ⟨r, rfl, hs, m, rfl⟩
  have hr := hs.1
  have zr := f_zero r hr
  have zl := f_zero l hl
  have ha := hs.above l
  clear hs
  cases h1 : nanB r
  case true =>
    have hg : false = aboveR x y l := by rw [← ha, ltB_nan l r h1]
    replace hg := Lib.hid hg
    clear ha zr zl
    go_wp2_with fail
    refine (nan_any r hr _).mono ?_
    rintro e w1 ⟨rfl, rfl⟩
    go_wp2
    go_ret
    exact ⟨ret_bool hg.out, m, rfl⟩
  cases h2 : nanB l
  case true =>
    have hg : false = aboveR x y l := by rw [← ha]; unfold ltB; rw [h2]; simp
    replace hg := Lib.hid hg
    clear ha zr zl
    go_wp2_with fail
    refine (nan_any r hr _).mono ?_
    rintro e w1 ⟨rfl, rfl⟩
    go_wp2_with fail
    refine (nan_any l hl _).mono ?_
    rintro e w1 ⟨rfl, rfl⟩
    go_wp2
    go_ret
    exact ⟨ret_bool hg.out, m, rfl⟩
  cases h3 : (zeroB r && zeroB l)
  case true =>
    rw [Bool.and_eq_true] at h3
    have hg : false = aboveR x y l := by
      rw [← ha]
      have k1 : rung r = 0 := by have := h3.1; unfold zeroB at this; simpa using this
      have k2 : rung l = 0 := by have := h3.2; unfold zeroB at this; simpa using this
      have e1 : srung r = 0 := by unfold srung; rw [k1]; split <;> rfl
      have e2 : srung l = 0 := by unfold srung; rw [k2]; split <;> rfl
      unfold ltB; rw [e1, e2]; simp
    replace hg := Lib.hid hg
    rw [h3.1] at zr
    rw [h3.2] at zl
    clear ha h3
    go_wp2_with fail
    refine (nan_any r hr _).mono ?_
    rintro e w1 ⟨rfl, rfl⟩
    go_wp2_with fail
    refine (nan_any l hl _).mono ?_
    rintro e w1 ⟨rfl, rfl⟩
    go_wp2
    go_ret
    exact ⟨ret_bool hg.out, m, rfl⟩
  have hg := Lib.hid ((above_eq r l hr hl h1 h2 h3).trans ha)
  clear ha
  cases h4 : zeroB r
  case true =>
    rw [h4] at h3 zr
    have h5 : zeroB l = false := h3
    rw [h5] at zl
    clear h3
    go_wp2_with fail
    refine (nan_any r hr _).mono ?_
    rintro e w1 ⟨rfl, rfl⟩
    go_wp2_with fail
    refine (nan_any l hl _).mono ?_
    rintro e w1 ⟨rfl, rfl⟩
    go_wp2_with fail
    refine (refOrder_any r l hr hl _).mono ?_
    rintro e w1 ⟨rfl, rfl⟩
    go_wp2
    go_ret
    exact ⟨ret_bool hg.out, m, rfl⟩
  case false =>
    rw [h4] at zr
    clear h3 zl
    go_wp2_with fail
    refine (nan_any r hr _).mono ?_
    rintro e w1 ⟨rfl, rfl⟩
    go_wp2_with fail
    refine (nan_any l hl _).mono ?_
    rintro e w1 ⟨rfl, rfl⟩
    go_wp2_with fail
    refine (refOrder_any r l hr hl _).mono ?_
    rintro e w1 ⟨rfl, rfl⟩
    go_wp2
    go_ret
    exact ⟨ret_bool hg.out, m, rfl⟩

def clampR (x l h : Nat) : Nat := if orderP x l < 0 then l else if 0 < orderP x h then h else x
theorem clamp_any (x l h : Nat) (hx : x < 18446744073709551616) (hl : l < 18446744073709551616) (hh : h < 18446744073709551616) (w : World) : Calls Try.prog 19 #[.float .f64 x, .float .f64 l, .float .f64 h] w fun e w' => e = .returned (.float .f64 (clampR x l h)) ∧ w = w' := by
  have hg : clampR x l h = if orderP x l < 0 then l else if 0 < orderP x h then h else x := rfl
  by_cases h1 : orderP x l < 0
  · rw [if_pos h1] at hg
    replace hg := Lib.hid hg
    go_enter Try.func19, Try.ntmps19
    go_wp2_with fail
    refine (order_any x l hx hl _).mono ?_
    rintro e w1 ⟨rfl, rfl⟩
    go_wp2
    go_ret
    exact ⟨ret_float hg.out.symm, rfl⟩
  rw [if_neg h1] at hg
  by_cases h2 : 0 < orderP x h
  · rw [if_pos h2] at hg
    replace hg := Lib.hid hg
    go_enter Try.func19, Try.ntmps19
    go_wp2_with fail
    refine (order_any x l hx hl _).mono ?_
    rintro e w1 ⟨rfl, rfl⟩
    go_wp2_with fail
    refine (order_any x h hx hh _).mono ?_
    rintro e w1 ⟨rfl, rfl⟩
    go_wp2
    go_ret
    exact ⟨ret_float hg.out.symm, rfl⟩
  rw [if_neg h2] at hg
  replace hg := Lib.hid hg
  go_enter Try.func19, Try.ntmps19
  go_wp2_with fail
  refine (order_any x l hx hl _).mono ?_
  rintro e w1 ⟨rfl, rfl⟩
  go_wp2_with fail
  refine (order_any x h hx hh _).mono ?_
  rintro e w1 ⟨rfl, rfl⟩
  go_wp2
  go_ret
  exact ⟨ret_float hg.out.symm, rfl⟩
theorem refClamp_any (x l h : Nat) (hx : x < 18446744073709551616) (hl : l < 18446744073709551616) (hh : h < 18446744073709551616) (w : World) : Calls Try.prog 20 #[.float .f64 x, .float .f64 l, .float .f64 h] w fun e w' => e = .returned (.float .f64 (clampR x l h)) ∧ w = w' := by
  have hg : clampR x l h = if orderP x l < 0 then l else if 0 < orderP x h then h else x := rfl
  by_cases h1 : orderP x l < 0
  · rw [if_pos h1] at hg
    replace hg := Lib.hid hg
    go_enter Try.func20, Try.ntmps20
    go_wp2_with fail
    refine (refOrder_any x l hx hl _).mono ?_
    rintro e w1 ⟨rfl, rfl⟩
    go_wp2
    go_ret
    exact ⟨ret_float hg.out.symm, rfl⟩
  rw [if_neg h1] at hg
  by_cases h2 : 0 < orderP x h
  · rw [if_pos h2] at hg
    replace hg := Lib.hid hg
    go_enter Try.func20, Try.ntmps20
    go_wp2_with fail
    refine (refOrder_any x l hx hl _).mono ?_
    rintro e w1 ⟨rfl, rfl⟩
    go_wp2_with fail
    refine (refOrder_any x h hx hh _).mono ?_
    rintro e w1 ⟨rfl, rfl⟩
    go_wp2
    go_ret
    exact ⟨ret_float hg.out.symm, rfl⟩
  rw [if_neg h2] at hg
  replace hg := Lib.hid hg
  go_enter Try.func20, Try.ntmps20
  go_wp2_with fail
  refine (refOrder_any x l hx hl _).mono ?_
  rintro e w1 ⟨rfl, rfl⟩
  go_wp2_with fail
  refine (refOrder_any x h hx hh _).mono ?_
  rintro e w1 ⟨rfl, rfl⟩
  go_wp2
  go_ret
  exact ⟨ret_float hg.out.symm, rfl⟩
end Go.Proofs.Yteigohjbiapilaa
