/- The order of the document as an order of whole numbers, and what comparisons of floats, ranks and bits say of it. No statement of the seat is proved here. -/
import Derived.Test.YteigohjbiapilaaFlo
namespace Go.Proofs.Yteigohjbiapilaa
open Ieee

def ltB (x y : Nat) : Bool := !nanB x && !nanB y && decide (srung x < srung y)
def eqB (x y : Nat) : Bool := !nanB x && !nanB y && decide (srung x = srung y)

theorem f_lt (x y : Nat) (hx : x < 18446744073709551616) (hy : y < 18446744073709551616) : (FloatKind.f64.format.order x y == some .lt) = ltB x y := by
  show (double.order x y == some .lt) = _
  rw [order_eq x y hx hy]
  unfold ltB
  cases nanB x <;> cases nanB y <;> simp [compare, compareOfLessAndEq]
  split <;> rename_i h
  · simp [h]
  · simp only [h, decide_false]
    split <;> rfl
theorem f_gt (x y : Nat) (hx : x < 18446744073709551616) (hy : y < 18446744073709551616) : (FloatKind.f64.format.order x y == some .gt) = ltB y x := by
  show (double.order x y == some .gt) = _
  rw [order_eq x y hx hy]
  unfold ltB
  cases nanB x <;> cases nanB y <;> simp [compare, compareOfLessAndEq]
  split <;> rename_i h
  · have : ¬ srung y < srung x := by omega
    simp [this]
  · split <;> rename_i h'
    · have : ¬ srung y < srung x := by omega
      simp [this]
    · have : srung y < srung x := by omega
      simp [this]
theorem f_eq (x y : Nat) (hx : x < 18446744073709551616) (hy : y < 18446744073709551616) : (FloatKind.f64.format.order x y == some .eq) = eqB x y := by
  show (double.order x y == some .eq) = _
  rw [order_eq x y hx hy]
  unfold eqB
  cases nanB x <;> cases nanB y <;> simp [compare, compareOfLessAndEq]
  split <;> rename_i h
  · have : ¬ srung x = srung y := by omega
    simp [this]
  · split <;> rename_i h' <;> simp [h']
theorem f_ge (x y : Nat) (hx : x < 18446744073709551616) (hy : y < 18446744073709551616) : (FloatKind.f64.format.order x y == some .gt || FloatKind.f64.format.order x y == some .eq) = (ltB y x || eqB x y) := by
  rw [f_gt x y hx hy, f_eq x y hx hy]
theorem f_ne (x y : Nat) (hx : x < 18446744073709551616) (hy : y < 18446744073709551616) : (FloatKind.f64.format.order x y != some .eq) = !eqB x y := by
  rw [← f_eq x y hx hy]; rfl
theorem f_nan (x : Nat) (hx : x < 18446744073709551616) : (FloatKind.f64.format.order x x != some .eq) = nanB x := by
  rw [f_ne x x hx hx]
  unfold eqB
  cases nanB x <;> simp

/-- the place in the order -/
def placeI (x : Nat) : Int := if nanB x then 9223372036854775807 else if 9223372036854775808 ≤ x then -((x : Int) - 9223372036854775808) - 1 else (x : Int)
def cmpI (a b : Int) : Int := if a < b then -1 else if b < a then 1 else 0
def orderP (x y : Nat) : Int := cmpI (placeI x) (placeI y)
def rankI (x : Nat) : Int := if nanB x then 2 else if 9223372036854775808 ≤ x then 0 else 1

theorem rung_cases (x : Nat) (hx : x < 18446744073709551616) : (9223372036854775808 ≤ x ∧ (rung x : Int) = (x : Int) - 9223372036854775808 ∧ srung x = -(rung x : Int)) ∨ (x < 9223372036854775808 ∧ (rung x : Int) = (x : Int) ∧ srung x = (rung x : Int)) := by
  unfold srung rung
  by_cases h : 9223372036854775808 ≤ x
  · left; rw [if_pos h]; omega
  · right; rw [if_neg h]; omega

theorem nan_cases (x : Nat) : (nanB x = true ∧ 9218868437227405312 < rung x) ∨ (nanB x = false ∧ rung x ≤ 9218868437227405312) := by
  unfold nanB
  by_cases h : 9218868437227405312 < rung x
  · left; exact ⟨decide_eq_true h, h⟩
  · right; exact ⟨decide_eq_false h, by omega⟩

theorem place_cases (x : Nat) (hx : x < 18446744073709551616) : (nanB x = true ∧ placeI x = 9223372036854775807 ∧ rankI x = 2) ∨
    (nanB x = false ∧ 9223372036854775808 ≤ x ∧ srung x = 9223372036854775808 - (x : Int) ∧ placeI x = srung x - 1 ∧ rankI x = 0 ∧ (x : Int) ≤ 18442240474082181120) ∨
    (nanB x = false ∧ x < 9223372036854775808 ∧ srung x = (x : Int) ∧ placeI x = srung x ∧ rankI x = 1 ∧ (x : Int) ≤ 9218868437227405312) := by
  unfold placeI rankI
  rcases nan_cases x with ⟨h, h'⟩ | ⟨h, h'⟩ <;> rcases rung_cases x hx with ⟨r1, r2, r3⟩ | ⟨r1, r2, r3⟩
  · left; simp [h]
  · left; simp [h]
  · right; left; rw [h, if_neg (by simp), if_pos r1, if_neg (by simp), if_pos r1]; refine ⟨rfl, r1, ?_, ?_, rfl, ?_⟩ <;> omega
  · right; right; rw [h, if_neg (by simp), if_neg (by omega), if_neg (by simp), if_neg (by omega)]; refine ⟨rfl, r1, ?_, ?_, rfl, ?_⟩ <;> omega

theorem lt_cases (x y : Nat) : (ltB x y = true ∧ nanB x = false ∧ nanB y = false ∧ srung x < srung y) ∨ (ltB x y = false ∧ (nanB x = true ∨ nanB y = true ∨ srung y ≤ srung x)) := by
  unfold ltB
  cases nanB x <;> cases nanB y <;> simp
  omega
theorem eq_cases (x y : Nat) : (eqB x y = true ∧ nanB x = false ∧ nanB y = false ∧ srung x = srung y) ∨ (eqB x y = false ∧ (nanB x = true ∨ nanB y = true ∨ srung y ≠ srung x)) := by
  unfold eqB
  cases nanB x <;> cases nanB y <;> simp
  omega

theorem order_lt (x y : Nat) (hx : x < 18446744073709551616) (hy : y < 18446744073709551616) (h : ltB x y = true) : (-1 : Int) = orderP x y := by
  unfold orderP cmpI
  rcases lt_cases x y with ⟨_, n1, n2, l⟩ | ⟨h', _⟩
  · rcases place_cases x hx with ⟨p, _⟩ | ⟨_, p⟩ | ⟨_, p⟩ <;> rcases place_cases y hy with ⟨q, _⟩ | ⟨_, q⟩ | ⟨_, q⟩ <;> first | (rw [n1] at p; cases p; done) | (rw [n2] at q; cases q; done) | (rw [if_pos (by omega)])
  · rw [h] at h'; cases h'
theorem order_gt (x y : Nat) (hx : x < 18446744073709551616) (hy : y < 18446744073709551616) (h : ltB y x = true) : (1 : Int) = orderP x y := by
  unfold orderP cmpI
  rcases lt_cases y x with ⟨_, n1, n2, l⟩ | ⟨h', _⟩
  · rcases place_cases x hx with ⟨p, _⟩ | ⟨_, p⟩ | ⟨_, p⟩ <;> rcases place_cases y hy with ⟨q, _⟩ | ⟨_, q⟩ | ⟨_, q⟩ <;> first | (rw [n2] at p; cases p; done) | (rw [n1] at q; cases q; done) | (rw [if_neg (by omega), if_pos (by omega)])
  · rw [h] at h'; cases h'
theorem order_no (x y : Nat) (hx : x < 18446744073709551616) (hy : y < 18446744073709551616) (h : ltB x y = false) (h' : ltB y x = false) : cmpI (rankI x) (rankI y) = orderP x y := by
  unfold orderP cmpI
  rcases lt_cases x y with ⟨k, _⟩ | ⟨_, l⟩
  · rw [h] at k; cases k
  rcases lt_cases y x with ⟨k, _⟩ | ⟨_, l'⟩
  · rw [h'] at k; cases k
  rcases place_cases x hx with ⟨p, p1, p2⟩ | ⟨p, p2⟩ | ⟨p, p2⟩ <;> rcases place_cases y hy with ⟨q, q1, q2⟩ | ⟨q, q2⟩ | ⟨q, q2⟩ <;> rw [p, q] at l l' <;> (try simp only [Bool.false_eq_true, false_or] at l l') <;> (split <;> split <;> first | rfl | (split <;> first | rfl | omega) | omega)

theorem orderP_self (x : Nat) : orderP x x = 0 := by unfold orderP cmpI; simp
theorem orderP_back (x y : Nat) : orderP x y = -orderP y x := by
  unfold orderP cmpI
  split <;> split <;> first | omega | (split <;> omega) | rfl
end Go.Proofs.Yteigohjbiapilaa
