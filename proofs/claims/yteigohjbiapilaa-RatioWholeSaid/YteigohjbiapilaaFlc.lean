/- The sign bit by masks: math.Abs and math.Copysign on words; which rungs are infinite, which are zeros; the quotient. No statement of the seat is proved here. -/
import Derived.Laws.Entries
import Derived.Laws.Rows
import Derived.Lib.EndianBits
import Derived.Deep.Draws
import Derived.Test.YteigohjbiapilaaFlb
namespace Go.Proofs.Yteigohjbiapilaa
open Ieee

theorem u64_nat (n : Nat) (h : n < 18446744073709551616) : IntKind.u64.wrap (n : Int) = (n : Int) := by
  rw [IntKind.wrap_u64]; omega
theorem ofInt_nat (n : Nat) (h : n < 18446744073709551616) : (BitVec.ofInt IntKind.u64.bits (n : Int)).toNat = n := by
  show (BitVec.ofInt 64 (n : Int)).toNat = n
  rw [BitVec.toNat_ofInt]; omega
theorem clear_top (x : Nat) (hx : x < 18446744073709551616) : bits .andNot .u64 (x : Int) 9223372036854775808 = (rung x : Int) := by
  have e : (BitVec.ofInt IntKind.u64.bits (x : Int) &&& ~~~BitVec.ofInt IntKind.u64.bits 9223372036854775808).toNat = rung x := by
    rw [BitVec.toNat_and, ofInt_nat x hx]
    have : (~~~BitVec.ofInt IntKind.u64.bits 9223372036854775808).toNat = 2 ^ 63 - 1 := by decide
    rw [this, Nat.and_two_pow_sub_one_eq_mod]
    rfl
  unfold bits
  simp only [e]
  exact u64_nat _ (by unfold rung; omega)
theorem only_top (x : Nat) (hx : x < 18446744073709551616) : bits .and .u64 (x : Int) 9223372036854775808 = ((if negB x then 9223372036854775808 else 0 : Nat) : Int) := by
  have e : (BitVec.ofInt IntKind.u64.bits (x : Int) &&& BitVec.ofInt IntKind.u64.bits 9223372036854775808).toNat = if negB x then 9223372036854775808 else 0 := by
    rw [BitVec.toNat_and, ofInt_nat x hx]
    have : (BitVec.ofInt IntKind.u64.bits 9223372036854775808).toNat = 2 ^ 63 := by decide
    rw [this]
    apply Nat.eq_of_testBit_eq
    intro i
    rw [Nat.testBit_and, Nat.testBit_two_pow]
    have h := neg_bit x hx
    by_cases hi : 63 = i
    · subst hi
      have hb : x.testBit 63 = negB x := by rw [Nat.testBit_eq_decide_div_mod_eq, ← h]; rfl
      rw [hb]
      cases negB x <;> simp <;> decide
    · rw [decide_eq_false hi, Bool.and_false]
      cases negB x
      · simp
      · have : (9223372036854775808 : Nat) = 2 ^ 63 := by decide
        rw [if_pos rfl, this, Nat.testBit_two_pow, decide_eq_false hi]
  unfold bits
  simp only [e]
  exact u64_nat _ (by split <;> omega)
theorem put_top (r t : Nat) (hr : r < 9223372036854775808) (ht : t = 9223372036854775808 ∨ t = 0) : bits .or .u64 (r : Int) (t : Int) = ((r + t : Nat) : Int) := by
  have e : (BitVec.ofInt IntKind.u64.bits (r : Int) ||| BitVec.ofInt IntKind.u64.bits (t : Int)).toNat = r + t := by
    rw [BitVec.toNat_or, ofInt_nat r (by omega), ofInt_nat t (by omega)]
    rcases ht with rfl | rfl
    · have := Nat.two_pow_add_eq_or_of_lt (i := 63) (b := r) (by omega) 1
      have e : (2 : Nat) ^ 63 * 1 = 9223372036854775808 := by decide
      rw [e] at this
      rw [Nat.or_comm, ← this, Nat.add_comm]
    · simp
  unfold bits
  simp only [e]
  exact u64_nat _ (by omega)
/-- the word of y's sign on x's magnitude -/
def withSign (x y : Nat) : Nat := rung x + if negB y then 9223372036854775808 else 0
theorem copysign_bits (x y : Nat) (hx : x < 18446744073709551616) (hy : y < 18446744073709551616) :
    (bits .or .u64 (bits .andNot .u64 (x : Int) 9223372036854775808) (bits .and .u64 (y : Int) 9223372036854775808)).toNat = withSign x y := by
  rw [clear_top x hx, only_top y hy, put_top _ _ (by unfold rung; omega) (by split <;> omega)]
  rfl
theorem abs_bits (x : Nat) (hx : x < 18446744073709551616) : (bits .andNot .u64 (x : Int) 9223372036854775808).toNat = rung x := by
  rw [clear_top x hx]; rfl

def infB (x : Nat) : Bool := decide (rung x = 9218868437227405312)
def zeroB (x : Nat) : Bool := decide (rung x = 0)

theorem rung_rung (x : Nat) : rung (rung x) = rung x := by unfold rung; omega
theorem rung_lt (x : Nat) : rung x < 9223372036854775808 := by unfold rung; omega
theorem inf_cmp (x : Nat) : ltB 9218868437227405311 (rung x) = infB x := by
  have e : srung (rung x) = (rung x : Int) := by
    have := rung_lt x
    unfold srung; rw [if_neg (by omega), rung_rung]
  have e2 : srung 9218868437227405311 = 9218868437227405311 := by decide
  have e3 : nanB 9218868437227405311 = false := by decide
  unfold ltB infB
  rw [e, e2, e3]
  unfold nanB
  rw [rung_rung, Bool.eq_iff_iff]
  simp
  omega
theorem zero_cmp (x : Nat) : eqB x 0 = zeroB x := by
  have e2 : srung 0 = 0 := by decide
  have e3 : nanB 0 = false := by decide
  unfold eqB zeroB
  rw [e2, e3, Bool.eq_iff_iff]
  unfold nanB srung
  simp
  split <;> omega
theorem not_nan_inf {x : Nat} (h : nanB x = true) : infB x = false := by
  unfold nanB at h; unfold infB
  simp at h ⊢; omega
theorem sub_self_word (x : Nat) (hx : x < 18446744073709551616) : floatBits .sub .f64 x x = if nanB x || infB x then none else some 0 := by
  show double.sub x x = _
  unfold Format.sub
  rw [read_eq x hx]
  unfold nanB infB
  rcases Nat.lt_trichotomy (rung x) 9218868437227405312 with h | h | h
  · rw [if_pos h, if_neg (by simp; omega)]
    simp only [Datum.sum, Datum.opposite, Option.map]
    congr 1
    have z : signed (negB x) (digitsR (rung x)) ((-1074 + (upR (rung x) : Int)) - min (-1074 + (upR (rung x) : Int)) (-1074 + (upR (rung x) : Int))).toNat + signed (!negB x) (digitsR (rung x)) ((-1074 + (upR (rung x) : Int)) - min (-1074 + (upR (rung x) : Int)) (-1074 + (upR (rung x) : Int))).toNat = 0 := by
      generalize digitsR (rung x) = m
      generalize ((-1074 + (upR (rung x) : Int)) - min (-1074 + (upR (rung x) : Int)) (-1074 + (upR (rung x) : Int))).toNat = k
      unfold signed
      cases negB x <;> simp <;> omega
    rw [z]
    simp [Format.write, Format.nearest, Format.word]
  · rw [if_neg (by omega), if_pos h, if_pos (by simp; omega)]
    simp only [Datum.sum, Datum.opposite]
    cases negB x <;> simp
  · rw [if_neg (by omega), if_neg (by omega), if_pos (by simp; omega)]
    simp only [Datum.sum, Option.map]
/-- a division is valid unless it is of two infinities, of two zeros or of a NaN -/
theorem div_some (x y : Nat) (hx : x < 18446744073709551616) (hy : y < 18446744073709551616) (h1 : nanB x = false) (h2 : nanB y = false) (h3 : infB x = false ∨ infB y = false) (h4 : zeroB y = false) :
    ∃ r, floatBits .quo .f64 x y = some r ∧ r < 18446744073709551616 := by
  have : ∃ r, floatBits .quo .f64 x y = some r := by
    show ∃ r, double.div x y = some r
    unfold Format.div
    rw [read_eq x hx, read_eq y hy]
    unfold nanB at h1 h2
    unfold infB at h3
    unfold zeroB at h4
    have h1' : ¬ 9218868437227405312 < rung x := by simpa using h1
    have h2' : ¬ 9218868437227405312 < rung y := by simpa using h2
    have h4' : ¬ rung y = 0 := by simpa using h4
    have hd : digitsR (rung y) ≠ 0 := by unfold digitsR; split <;> omega
    rcases Nat.lt_trichotomy (rung x) 9218868437227405312 with h | h | h
    · rw [if_pos h]
      rcases Nat.lt_trichotomy (rung y) 9218868437227405312 with k | k | k
      · rw [if_pos k]
        simp only [Datum.quotient]
        rw [if_neg hd]
        exact ⟨_, rfl⟩
      · rw [if_neg (by omega), if_pos k]
        exact ⟨_, rfl⟩
      · omega
    · rw [if_neg (by omega), if_pos h]
      rcases Nat.lt_trichotomy (rung y) 9218868437227405312 with k | k | k
      · rw [if_pos k]
        exact ⟨_, rfl⟩
      · exfalso; simp at h3; omega
      · omega
    · omega
  obtain ⟨r, h⟩ := this
  exact ⟨r, h, double.div_lt h⟩
theorem div_none (x y : Nat) (hx : x < 18446744073709551616) (hy : y < 18446744073709551616) (h1 : infB x = true) (h2 : infB y = true) : floatBits .quo .f64 x y = none := by
  show double.div x y = none
  unfold Format.div
  rw [read_eq x hx, read_eq y hy]
  unfold infB at h1 h2
  have h1' : rung x = 9218868437227405312 := by simpa using h1
  have h2' : rung y = 9218868437227405312 := by simpa using h2
  rw [h1', h2', if_neg (by omega), if_pos rfl, if_neg (by omega), if_pos rfl]
  rfl
/-- the bits that the tape may give where an operation has no answer are a NaN's -/
theorem cut_nan (x y t : Nat) : nanB ((Question.nanBits .f64 x y).cut t) = true ∧ (Question.nanBits .f64 x y).cut t < 18446744073709551616 := by
  show nanB ((t % 2) * 2 ^ 63 + 0x7ff0000000000000 + 1 + (t / 2) % (2 ^ 52 - 1)) = true ∧ (t % 2) * 2 ^ 63 + 0x7ff0000000000000 + 1 + (t / 2) % (2 ^ 52 - 1) < _
  unfold nanB rung
  rw [decide_eq_true_eq]
  have h1 : t % 2 = 0 ∨ t % 2 = 1 := by omega
  have h2 : t / 2 % (2 ^ 52 - 1) < 4503599627370495 := Nat.mod_lt _ (by decide)
  generalize t / 2 % (2 ^ 52 - 1) = m at h2 ⊢
  rcases h1 with e | e <;> rw [e] <;> constructor <;> omega
section
variable {P : Program} (w : World)
/-- THE WALK's LAW: an operation without an answer draws a NaN. -/
theorem run_float_nan (op : BinOp) (t : TypeId) (x y : Nat) (h : floatBits op .f64 x y = none) (ho : op = .sub ∨ op = .quo) :
    ∃ r, (binOp op t (.float .f64 x) (.float .f64 y)).run P w = .ok (.float .f64 r) (w.drewN 1) ∧ nanB r = true ∧ r < 18446744073709551616 := by
  have := cut_nan x y (w.tape w.drawn (.nanBits .f64 x y))
  refine ⟨(Question.nanBits .f64 x y).cut (w.tape w.drawn (.nanBits .f64 x y)), ?_, this.1, this.2⟩
  unfold floatBits at h
  rcases ho with rfl | rfl <;> simp only at h
  · simp [binOp, Op.floatArith, h]
    rfl
  · simp [binOp, Op.floatArith, h]
    rfl
end
end Go.Proofs.Yteigohjbiapilaa
