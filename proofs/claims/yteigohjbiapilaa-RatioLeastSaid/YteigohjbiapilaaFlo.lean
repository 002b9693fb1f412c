/- Mathematics of the words of a float64: their order is the order of signed rungs; their whole part. No statement of the seat is proved here. -/
import Derived.Laws.FloatArith
namespace Go.Proofs.Yteigohjbiapilaa
open Ieee

/-- the magnitude of a finite rung, in units of the least place -/
def magU (r : Nat) : Nat := if r < 4503599627370496 then r else (4503599627370496 + r % 4503599627370496) * 2 ^ (r / 4503599627370496 - 1)

theorem magU_step (r : Nat) : magU r < magU (r + 1) := by
  unfold magU
  by_cases h1 : r + 1 < 4503599627370496
  · rw [if_pos (by omega), if_pos h1]; omega
  by_cases h2 : r < 4503599627370496
  · have : r + 1 = 4503599627370496 := by omega
    rw [if_pos h2, if_neg h1, this]; simp; omega
  rw [if_neg h2, if_neg h1]
  by_cases h3 : (r + 1) % 4503599627370496 = 0
  · have e1 : (r + 1) / 4503599627370496 - 1 = (r / 4503599627370496 - 1) + 1 := by omega
    have e2 : r % 4503599627370496 = 4503599627370495 := by omega
    rw [e1, e2, h3, Nat.pow_succ]
    have : 0 < 2 ^ (r / 4503599627370496 - 1) := Nat.two_pow_pos _
    omega
  · have e1 : (r + 1) / 4503599627370496 = r / 4503599627370496 := by omega
    have e2 : (r + 1) % 4503599627370496 = r % 4503599627370496 + 1 := by omega
    rw [e1, e2]
    have : 0 < 2 ^ (r / 4503599627370496 - 1) := Nat.two_pow_pos _
    exact Nat.mul_lt_mul_of_pos_right (by omega) this

theorem magU_lt {r s : Nat} (h : r < s) : magU r < magU s := by
  induction s with
  | zero => omega
  | succ n ih =>
    rcases Nat.lt_or_ge r n with h' | h'
    · exact Nat.lt_trans (ih h') (magU_step n)
    · have : r = n := by omega
      subst this; exact magU_step r

theorem magU_lt_iff (r s : Nat) : magU r < magU s ↔ r < s := by
  constructor
  · intro h
    rcases Nat.lt_trichotomy r s with h' | h' | h'
    · exact h'
    · subst h'; omega
    · have := magU_lt h'; omega
  · exact magU_lt

theorem magU_inj {r s : Nat} (h : magU r = magU s) : r = s := by
  rcases Nat.lt_trichotomy r s with h' | h' | h'
  · have := magU_lt h'; omega
  · exact h'
  · have := magU_lt h'; omega

theorem magU_zero : magU 0 = 0 := by decide

def rung (x : Nat) : Nat := x % 9223372036854775808
def nanB (x : Nat) : Bool := decide (9218868437227405312 < rung x)
def srung (x : Nat) : Int := if 9223372036854775808 ≤ x then -(rung x : Int) else (rung x : Int)
def negB (x : Nat) : Bool := decide (9223372036854775808 ≤ x)

theorem d_sign : double.signWeight = 9223372036854775808 := by decide
theorem d_binade : double.binade = 4503599627370496 := by decide
theorem d_inf : double.infRung = 9218868437227405312 := by decide
theorem d_least : double.leastPlace = -1074 := by decide

/-- the place of a finite rung's last digit, and its digits -/
def digitsR (r : Nat) : Nat := if r < 4503599627370496 then r else 4503599627370496 + r % 4503599627370496
def upR (r : Nat) : Nat := if r < 4503599627370496 then 0 else r / 4503599627370496 - 1

theorem magU_eq (r : Nat) : magU r = digitsR r * 2 ^ upR r := by
  unfold magU digitsR upR
  split <;> simp

theorem neg_bit (x : Nat) (hx : x < 18446744073709551616) : (x / 9223372036854775808 % 2 == 1) = negB x := by
  unfold negB
  rw [Bool.eq_iff_iff]
  simp
  omega

theorem read_eq (x : Nat) (hx : x < 18446744073709551616) : double.read x =
    if rung x < 9218868437227405312 then .number (negB x) (digitsR (rung x)) (-1074 + (upR (rung x) : Int))
    else if rung x = 9218868437227405312 then .infinity (negB x) else .nan (negB x) (rung x - 9218868437227405312) := by
  unfold Format.read
  simp only [d_sign, d_binade, d_inf, d_least, neg_bit x hx]
  show (if rung x < _ then _ else _) = _
  unfold digitsR upR
  by_cases h1 : rung x < 4503599627370496
  · rw [if_pos h1, if_pos (by omega), if_pos h1, if_pos h1]; simp; rfl
  · rw [if_neg h1, if_neg h1, if_neg h1]; rfl

theorem shl_eq (m n : Nat) : m <<< n = m * 2 ^ n := Nat.shiftLeft_eq m n

/-- comparing two numbers at a common place is comparing their magnitudes -/
theorem signed_cmp (s t : Bool) (m n : Nat) (i j : Nat) :
    compare (signed s m ((-1074 + (i : Int)) - min (-1074 + (i : Int)) (-1074 + (j : Int))).toNat) (signed t n ((-1074 + (j : Int)) - min (-1074 + (i : Int)) (-1074 + (j : Int))).toNat)
      = compare (if s then -((m * 2 ^ i : Nat) : Int) else ((m * 2 ^ i : Nat) : Int)) (if t then -((n * 2 ^ j : Nat) : Int) else ((n * 2 ^ j : Nat) : Int)) := by
  have e1 : ((-1074 + (i : Int)) - min (-1074 + (i : Int)) (-1074 + (j : Int))).toNat = i - min i j := by omega
  have e2 : ((-1074 + (j : Int)) - min (-1074 + (i : Int)) (-1074 + (j : Int))).toNat = j - min i j := by omega
  rw [e1, e2]
  have hp : (0 : Int) < ((2 ^ min i j : Nat) : Int) := by exact_mod_cast Nat.two_pow_pos _
  have f (k : Bool) (a b c : Nat) (h : c ≤ b) : (if k then -((a * 2 ^ b : Nat) : Int) else ((a * 2 ^ b : Nat) : Int)) = signed k a (b - c) * ((2 ^ c : Nat) : Int) := by
    have : a * 2 ^ b = (a * 2 ^ (b - c)) * 2 ^ c := by rw [Nat.mul_assoc, ← Nat.pow_add]; congr 2; omega
    unfold signed
    rw [this, shl_eq]
    cases k
    · simp
    · simp [Int.neg_mul]
  rw [f s m i (min i j) (by omega), f t n j (min i j) (by omega)]
  generalize signed s m (i - min i j) = a
  generalize signed t n (j - min i j) = b
  simp only [compare, compareOfLessAndEq]
  have l : a * ((2 ^ min i j : Nat) : Int) < b * ((2 ^ min i j : Nat) : Int) ↔ a < b := Int.mul_lt_mul_right hp
  have q : a * ((2 ^ min i j : Nat) : Int) = b * ((2 ^ min i j : Nat) : Int) ↔ a = b := Int.mul_eq_mul_right_iff (by omega)
  simp only [l, q]

theorem cmp_of (a b c d : Int) (h1 : a < b ↔ c < d) (h2 : a = b ↔ c = d) : compare a b = compare c d := by
  simp only [compare, compareOfLessAndEq, h1, h2]

theorem sig_cmp (s t : Bool) (r q : Nat) :
    compare (if s then -((magU r : Nat) : Int) else ((magU r : Nat) : Int)) (if t then -((magU q : Nat) : Int) else ((magU q : Nat) : Int))
      = compare (if s then -(r : Int) else (r : Int)) (if t then -(q : Int) else (q : Int)) := by
  have h1 := magU_lt_iff r q
  have h2 := magU_lt_iff q r
  have h3 := magU_lt_iff 0 r
  have h4 := magU_lt_iff 0 q
  rw [magU_zero] at h3 h4
  apply cmp_of <;> cases s <;> cases t <;> simp <;> omega

theorem order_eq (x y : Nat) (hx : x < 18446744073709551616) (hy : y < 18446744073709551616) :
    double.order x y = if nanB x || nanB y then none else some (compare (srung x) (srung y)) := by
  unfold Format.order
  rw [read_eq x hx, read_eq y hy]
  unfold nanB srung
  have ex : (if 9223372036854775808 ≤ x then -(rung x : Int) else (rung x : Int)) = if negB x then -(rung x : Int) else (rung x : Int) := by unfold negB; simp
  have ey : (if 9223372036854775808 ≤ y then -(rung y : Int) else (rung y : Int)) = if negB y then -(rung y : Int) else (rung y : Int) := by unfold negB; simp
  rw [ex, ey]
  generalize negB x = s
  generalize negB y = t
  generalize rung x = r
  generalize rung y = q
  clear ex ey
  rcases Nat.lt_trichotomy r 9218868437227405312 with h1 | h1 | h1
  · rw [if_pos h1]
    rcases Nat.lt_trichotomy q 9218868437227405312 with h2 | h2 | h2
    · rw [if_pos h2, if_neg (by simp; omega)]
      simp only [Datum.order]
      rw [signed_cmp, ← magU_eq, ← magU_eq, sig_cmp]
    · rw [if_neg (by omega), if_pos h2, if_neg (by simp; omega)]
      simp only [Datum.order, compare, compareOfLessAndEq]
      cases s <;> cases t <;> simp only [Bool.false_eq_true, if_false, if_true] <;> (split <;> first | rfl | (exfalso; omega) | (split <;> first | rfl | (exfalso; omega)))
    · rw [if_neg (by omega), if_neg (by omega), if_pos (by simp; omega)]
      simp only [Datum.order]
  · rw [if_neg (by omega), if_pos h1]
    rcases Nat.lt_trichotomy q 9218868437227405312 with h2 | h2 | h2
    · rw [if_pos h2, if_neg (by simp; omega)]
      simp only [Datum.order, compare, compareOfLessAndEq]
      cases s <;> cases t <;> simp only [Bool.false_eq_true, if_false, if_true] <;> (split <;> first | rfl | (exfalso; omega) | (split <;> first | rfl | (exfalso; omega)))
    · rw [if_neg (by omega), if_pos h2, if_neg (by simp; omega)]
      subst h1 h2
      cases s <;> cases t <;> simp [Datum.order] <;> decide
    · rw [if_neg (by omega), if_neg (by omega), if_pos (by simp; omega)]
      simp only [Datum.order]
  · have e : (decide (9218868437227405312 < r) || decide (9218868437227405312 < q)) = true := by simp; omega
    rw [if_neg (by omega), if_neg (by omega), if_pos e]
    simp only [Datum.order]
end Go.Proofs.Yteigohjbiapilaa
