/- The whole part of a word. No statement of the seat is proved here. -/
import Derived.Test.YteigohjbiapilaaFlc
namespace Go.Proofs.Yteigohjbiapilaa
open Ieee

def expR (x : Nat) : Nat := rung x / 4503599627370496
def fullR (x : Nat) : Nat := rung x % 4503599627370496 + 4503599627370496
def wholeV (x : Nat) : Nat := if expR x < 1023 then 0 else if expR x ≤ 1075 then fullR x / 2 ^ (1075 - expR x) else fullR x * 2 ^ (expR x - 1075)
def wholeI (x : Nat) : Int := if negB x then -(wholeV x : Int) else (wholeV x : Int)
def wholeB (x : Nat) : Bool := !nanB x && decide (-4890909195324358656 ≤ srung x ∧ srung x < 4890909195324358656)

theorem expR_eq (x : Nat) : ((expR x : Nat) : Int) = (x : Int) / 4503599627370496 % 2048 := by unfold expR rung; omega
theorem fullR_eq (x : Nat) : ((fullR x : Nat) : Int) = (x : Int) % 4503599627370496 + 4503599627370496 := by unfold fullR rung; omega
theorem fullR_lt (x : Nat) : 4503599627370496 ≤ fullR x ∧ fullR x < 9007199254740992 := by unfold fullR; omega

theorem pow_le {a b : Nat} (h : a ≤ b) : 2 ^ a ≤ 2 ^ b := Nat.pow_le_pow_right (by omega) h
theorem wholeV_lt (x : Nat) (h : expR x < 1086) : wholeV x < 9223372036854775808 := by
  have hf := fullR_lt x
  unfold wholeV
  split
  · omega
  · split
    · exact Nat.lt_of_le_of_lt (Nat.div_le_self _ _) (by omega)
    · have : 2 ^ (expR x - 1075) ≤ 2 ^ 10 := pow_le (by omega)
      have : fullR x * 2 ^ (expR x - 1075) ≤ fullR x * 2 ^ 10 := Nat.mul_le_mul_left _ this
      omega

theorem cut_zero (s : Bool) (n drop : Nat) : Toward.zero.cut s n drop = n / 2 ^ drop := by
  unfold Toward.cut
  simp only [Nat.shiftLeft_eq, Nat.one_mul, Bool.toNat_false, Nat.add_zero]
  rcases Nat.le_total drop (n.log2 + 2) with h | h
  · rw [Nat.min_eq_left h]
  · rw [Nat.min_eq_right h]
    have h1 : n < 2 ^ (n.log2 + 1) := Nat.lt_log2_self
    have h2 : 2 ^ (n.log2 + 1) ≤ 2 ^ (n.log2 + 2) := pow_le (by omega)
    have h3 : 2 ^ (n.log2 + 2) ≤ 2 ^ drop := pow_le h
    rw [Nat.div_eq_of_lt (by omega), Nat.div_eq_of_lt (by omega)]

theorem small_div (m d : Nat) (hm : m < 9007199254740992) (hd : 53 ≤ d) : m / 2 ^ d = 0 := by
  have : 2 ^ 53 ≤ 2 ^ d := pow_le hd
  exact Nat.div_eq_of_lt (by omega)

theorem digits_whole (x : Nat) : (digitsR (rung x) <<< (-1074 + (upR (rung x) : Int)).toNat) / 2 ^ (-(-1074 + (upR (rung x) : Int))).toNat = wholeV x := by
  have hf := fullR_lt x
  rw [Nat.shiftLeft_eq]
  unfold wholeV
  by_cases h : rung x < 4503599627370496
  · have e : expR x = 0 := by unfold expR; omega
    have d : digitsR (rung x) = rung x := by unfold digitsR; rw [if_pos h]
    have u : upR (rung x) = 0 := by unfold upR; rw [if_pos h]
    rw [d, u, e, if_pos (by omega)]
    exact small_div _ _ (by simp; omega) (by decide)
  · have d : digitsR (rung x) = fullR x := by unfold digitsR fullR; rw [if_neg h]; omega
    have u : upR (rung x) = expR x - 1 := by unfold upR expR; rw [if_neg h]
    have p : 1 ≤ expR x := by unfold expR; omega
    rw [d, u]
    have e1 : (-1074 + ((expR x - 1 : Nat) : Int)).toNat = expR x - 1075 := by omega
    have e2 : (-(-1074 + ((expR x - 1 : Nat) : Int))).toNat = 1075 - expR x := by omega
    rw [e1, e2]
    by_cases h1 : expR x < 1023
    · rw [if_pos h1]
      have e3 : expR x - 1075 = 0 := by omega
      rw [e3, Nat.pow_zero, Nat.mul_one]
      exact small_div _ _ hf.2 (by omega)
    · rw [if_neg h1]
      by_cases h2 : expR x ≤ 1075
      · rw [if_pos h2]
        have e3 : expR x - 1075 = 0 := by omega
        rw [e3, Nat.pow_zero, Nat.mul_one]
      · rw [if_neg h2]
        have e3 : 1075 - expR x = 0 := by omega
        rw [e3, Nat.pow_zero, Nat.div_one]

theorem toInt_eq (x : Nat) (hx : x < 18446744073709551616) (h : rung x < 9218868437227405312) : (double.read x).toInt .zero = some (wholeI x) := by
  rw [read_eq x hx, if_pos h]
  simp only [Datum.toInt, Datum.integral, cut_zero, digits_whole]
  unfold wholeI signed
  simp only [Nat.shiftLeft_zero]

/-- the two ends, and the great middle -/
theorem whole_cases (x : Nat) (hx : x < 18446744073709551616) : (wholeB x = true ∧ expR x < 1086 ∧ nanB x = false ∧ rung x < 9218868437227405312) ∨
    (wholeB x = true ∧ x = 14114281232179134464 ∧ nanB x = false ∧ rung x < 9218868437227405312) ∨
    (wholeB x = false ∧ 1086 ≤ expR x ∧ x ≠ 14114281232179134464) := by
  unfold wholeB expR
  rcases nan_cases x with ⟨h, h'⟩ | ⟨h, h'⟩ <;> rcases rung_cases x hx with ⟨r1, r2, r3⟩ | ⟨r1, r2, r3⟩ <;> rw [h]
  · right; right; refine ⟨rfl, by omega, by omega⟩
  · right; right; refine ⟨rfl, by omega, by omega⟩
  · by_cases k : rung x < 4890909195324358656
    · left; refine ⟨?_, by omega, rfl, by omega⟩; simp; omega
    by_cases k' : x = 14114281232179134464
    · right; left; refine ⟨?_, k', rfl, by omega⟩; simp; omega
    · right; right; refine ⟨?_, by omega, k'⟩; simp; omega
  · by_cases k : rung x < 4890909195324358656
    · left; refine ⟨?_, by omega, rfl, by omega⟩; simp; omega
    · right; right; refine ⟨?_, by omega, by omega⟩; simp; omega

theorem whole_val (x : Nat) (hx : x < 18446744073709551616) (h : wholeB x = true) : floatToIntVal .f64 x .i64 = some (wholeI x) ∧ -9223372036854775808 ≤ wholeI x ∧ wholeI x ≤ 9223372036854775807 := by
  have hb : rung x < 9218868437227405312 ∧ -9223372036854775808 ≤ wholeI x ∧ wholeI x ≤ 9223372036854775807 := by
    rcases whole_cases x hx with ⟨_, k, _, r⟩ | ⟨_, k, _, r⟩ | ⟨k, _⟩
    · have := wholeV_lt x k
      refine ⟨r, ?_⟩
      unfold wholeI
      split <;> omega
    · refine ⟨r, ?_⟩
      subst k
      decide
    · rw [h] at k; cases k
  refine ⟨?_, hb.2⟩
  have e1 : IntKind.i64.min = -9223372036854775808 := by decide
  have e2 : IntKind.i64.max = 9223372036854775807 := by decide
  have e3 : (FloatKind.f64.decode x).toInt .zero = some (wholeI x) := toInt_eq x hx hb.1
  unfold floatToIntVal
  rw [e3]
  simp only [e1, e2]
  rw [if_pos hb.2]

theorem whole_ends (x : Nat) (hx : x < 18446744073709551616) : ((ltB 14114281232179134464 x || eqB x 14114281232179134464) && ltB x 4890909195324358656) = wholeB x := by
  have e1 : srung 14114281232179134464 = -4890909195324358656 := by decide
  have e2 : nanB 14114281232179134464 = false := by decide
  have e3 : srung 4890909195324358656 = 4890909195324358656 := by decide
  have e4 : nanB 4890909195324358656 = false := by decide
  have _ := hx
  unfold ltB eqB wholeB
  rw [e1, e2, e3, e4]
  cases nanB x
  · rw [Bool.eq_iff_iff]; simp; omega
  · simp
theorem whole_end_eq (x : Nat) (hx : x < 18446744073709551616) : eqB x 14114281232179134464 = decide (x = 14114281232179134464) := by
  have e1 : srung 14114281232179134464 = -4890909195324358656 := by decide
  have e2 : nanB 14114281232179134464 = false := by decide
  unfold eqB
  rw [e1, e2]
  rcases nan_cases x with ⟨h, h'⟩ | ⟨h, h'⟩ <;> rcases rung_cases x hx with ⟨r1, r2, r3⟩ | ⟨r1, r2, r3⟩ <;> rw [h, Bool.eq_iff_iff] <;> simp <;> omega
end Go.Proofs.Yteigohjbiapilaa
