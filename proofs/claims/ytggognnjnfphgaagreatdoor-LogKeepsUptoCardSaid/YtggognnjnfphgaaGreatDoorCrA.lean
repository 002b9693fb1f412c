/- CrA: texts CrcM, CrcA, CrcB, CrcC, CrcE of our own, joined. No statement of the seat is proved here. -/
import Derived.Test.YtggognnjnfphgaaGreatDoorOcJ
import Derived.Lib.EndianBits
import Derived.Laws.BitsAllLaws
import Derived.Deep.WholeRow
import Derived.Deep.QuietTactic
import Derived.BigQuiet
import Derived.WalkSpells
import Derived.Laws.CopyOwn
import Derived.Test.YtggognnjnfphgaaGreatDoorNaA
import Derived.Lib.ConvBytes
namespace Go.Proofs.YtggognnjnfphgaaGreatDoor

/-- one step of one bit, the bit being XORed into the register before -/
def step (r : Nat) : Nat := if r % 2 = 1 then (r / 2) ^^^ 3988292384 else r / 2
def crcSteps : Nat → Nat → Nat
  | 0, r => r
  | k + 1, r => step (crcSteps k r)
def eight (r : Nat) : Nat := crcSteps 8 r
/-- the register after the bytes -/
def fed (r : Nat) (l : List UInt8) : Nat := l.foldl (fun r c => eight (r ^^^ c.toNat)) r
def inv (x : Nat) : Nat := 4294967295 - x
def sumOf (l : List UInt8) : Nat := inv (fed 4294967295 l)
def moreOf (s : Nat) (l : List UInt8) : Nat := inv (fed (inv s) l)

theorem xor_mid (a b p : Nat) : a ^^^ b ^^^ p = a ^^^ p ^^^ b := by rw [Nat.xor_assoc, Nat.xor_comm b, ← Nat.xor_assoc]
theorem xor_two (a b p : Nat) : a ^^^ b = a ^^^ p ^^^ (b ^^^ p) := by
  apply Nat.eq_of_testBit_eq
  intro i
  simp only [Nat.testBit_xor]
  cases a.testBit i <;> cases b.testBit i <;> cases p.testBit i <;> rfl
theorem step_xor (a b : Nat) : step (a ^^^ b) = step a ^^^ step b := by
  unfold step
  have h1 : (a ^^^ b) / 2 = a / 2 ^^^ b / 2 := Nat.xor_div_two
  have h2 : (a ^^^ b) % 2 = (a % 2) ^^^ (b % 2) := by
    have := Nat.xor_mod_two_pow (a := a) (b := b) (n := 1)
    simpa using this
  rw [h1, h2]
  rcases Nat.mod_two_eq_zero_or_one a with ha | ha <;> rcases Nat.mod_two_eq_zero_or_one b with hb | hb <;> rw [ha, hb] <;> simp
  · rw [Nat.xor_assoc]
  · exact xor_mid _ _ _
  · exact xor_two _ _ _
theorem steps_xor (k a b : Nat) : crcSteps k (a ^^^ b) = crcSteps k a ^^^ crcSteps k b := by
  induction k with
  | zero => rfl
  | succ k ih => simp only [crcSteps]; rw [ih, step_xor]
theorem eight_xor (a b : Nat) : eight (a ^^^ b) = eight a ^^^ eight b := steps_xor 8 a b
theorem xor_lt {a b : Nat} (ha : a < 4294967296) (hb : b < 4294967296) : a ^^^ b < 4294967296 := Nat.xor_lt_two_pow (n := 32) ha hb
theorem xor_byte {a b : Nat} (ha : a < 256) (hb : b < 256) : a ^^^ b < 256 := Nat.xor_lt_two_pow (n := 8) ha hb
theorem step_lt {r : Nat} (h : r < 4294967296) : step r < 4294967296 := by
  unfold step
  split
  · exact xor_lt (by omega) (by decide)
  · omega
theorem steps_lt {r : Nat} (k : Nat) (h : r < 4294967296) : crcSteps k r < 4294967296 := by
  induction k with
  | zero => exact h
  | succ k ih => exact step_lt ih
theorem eight_lt {r : Nat} (h : r < 4294967296) : eight r < 4294967296 := steps_lt 8 h
theorem step_zero : step 0 = 0 := rfl
theorem eight_zero : eight 0 = 0 := rfl
theorem step_eq_zero {r : Nat} (h : r < 4294967296) (h0 : step r = 0) : r = 0 := by
  unfold step at h0
  split at h0
  · have : r / 2 = 3988292384 := by
      have h2 : (r / 2 ^^^ 3988292384) ^^^ 3988292384 = 0 ^^^ 3988292384 := by rw [h0]
      rw [Nat.xor_assoc] at h2
      simpa using h2
    omega
  · omega
theorem steps_eq_zero {r : Nat} (k : Nat) (h : r < 4294967296) (h0 : crcSteps k r = 0) : r = 0 := by
  induction k with
  | zero => exact h0
  | succ k ih => exact ih (step_eq_zero (steps_lt k h) h0)
theorem eight_eq_zero {r : Nat} (h : r < 4294967296) (h0 : eight r = 0) : r = 0 := steps_eq_zero 8 h h0

/-- low bits and high bits, XORed, are their sum -/
theorem low_high (k a y : Nat) (ha : a < 2 ^ k) : a ^^^ (2 ^ k * y) = a + 2 ^ k * y := by
  have h1 : (a ^^^ (2 ^ k * y)) / 2 ^ k = y := by
    rw [Nat.xor_div_two_pow, Nat.div_eq_of_lt ha, Nat.mul_div_cancel_left _ (Nat.two_pow_pos k)]
    simp
  have h2 : (a ^^^ (2 ^ k * y)) % 2 ^ k = a := by
    rw [Nat.xor_mod_two_pow, Nat.mod_eq_of_lt ha, Nat.mul_mod_right]
    simp
  have := Nat.div_add_mod (a ^^^ (2 ^ k * y)) (2 ^ k)
  rw [h1, h2] at this
  omega
theorem split8 (r : Nat) : r = (r % 256) ^^^ (256 * (r / 256)) := by
  have := low_high 8 (r % 256) (r / 256) (Nat.mod_lt _ (by decide))
  rw [show (2 : Nat) ^ 8 = 256 from rfl] at this
  rw [this]; omega
theorem step_double (y : Nat) : step (2 * y) = y := by unfold step; rw [if_neg (by omega)]; omega
theorem steps_succ (k r : Nat) : crcSteps (k + 1) r = crcSteps k (step r) := by
  induction k generalizing r with
  | zero => rfl
  | succ k ih => rw [show crcSteps (k + 1 + 1) r = step (crcSteps (k + 1) r) from rfl, ih]; rfl
theorem steps_shift (k y : Nat) : crcSteps k (2 ^ k * y) = y := by
  induction k generalizing y with
  | zero => simp [crcSteps]
  | succ k ih =>
    rw [steps_succ, show 2 ^ (k + 1) * y = 2 * (2 ^ k * y) by rw [Nat.pow_succ, Nat.mul_comm (2 ^ k) 2, Nat.mul_assoc], step_double, ih]
theorem eight_shift (y : Nat) : eight (256 * y) = y := steps_shift 8 y
theorem eight_split (r : Nat) : eight r = (r / 256) ^^^ eight (r % 256) := by
  have h : eight ((r % 256) ^^^ (256 * (r / 256))) = (r / 256) ^^^ eight (r % 256) := by rw [eight_xor, eight_shift, Nat.xor_comm]
  rwa [← split8 r] at h
/-- one byte by the table -/
theorem byte_step (r c : Nat) (hc : c < 256) : (r / 256) ^^^ eight ((r % 256) ^^^ c) = eight (r ^^^ c) := by
  rw [eight_split (r ^^^ c)]
  have h1 : (r ^^^ c) / 256 = r / 256 := by
    have := Nat.xor_div_two_pow (a := r) (b := c) (n := 8)
    rw [show (2 : Nat) ^ 8 = 256 from rfl] at this
    rw [this, Nat.div_eq_of_lt hc]; simp
  have h2 : (r ^^^ c) % 256 = (r % 256) ^^^ c := by
    have := Nat.xor_mod_two_pow (a := r) (b := c) (n := 8)
    rw [show (2 : Nat) ^ 8 = 256 from rfl] at this
    rw [this, Nat.mod_eq_of_lt hc]
  rw [h1, h2]
/-- an entry out of two smaller ones -/
theorem entry_join (k l : Nat) (hl : l < 2 ^ k) : eight (2 ^ k) ^^^ eight l = eight (2 ^ k + l) := by
  have := low_high k l 1 hl
  rw [Nat.mul_one] at this
  rw [← eight_xor, Nat.xor_comm, this, Nat.add_comm]

/-- the reference's bit: what is compared, then shifted, then XORed -/
def refStep (w c : Nat) : Nat := if w % 2 = c % 2 then w / 2 else (w / 2) ^^^ 3988292384
theorem ref_step (w c : Nat) : refStep w c ^^^ (c / 2) = step (w ^^^ c) := by
  unfold refStep step
  have h1 : (w ^^^ c) / 2 = w / 2 ^^^ c / 2 := Nat.xor_div_two
  have h2 : (w ^^^ c) % 2 = (w % 2) ^^^ (c % 2) := by
    have := Nat.xor_mod_two_pow (a := w) (b := c) (n := 1)
    simpa using this
  rw [h1, h2]
  rcases Nat.mod_two_eq_zero_or_one w with ha | ha <;> rcases Nat.mod_two_eq_zero_or_one c with hb | hb <;> rw [ha, hb] <;> simp
  all_goals exact (xor_mid _ _ _).symm
theorem refStep_lt {w : Nat} (c : Nat) (h : w < 4294967296) : refStep w c < 4294967296 := by
  unfold refStep
  split
  · omega
  · exact xor_lt (by omega) (by decide)
theorem ref_more {w c k v : Nat} (h : v ^^^ (c / 2 ^ k) = crcSteps k (w ^^^ c)) : refStep v (c / 2 ^ k) ^^^ (c / 2 ^ (k + 1)) = crcSteps (k + 1) (w ^^^ c) := by
  rw [show crcSteps (k + 1) (w ^^^ c) = step (crcSteps k (w ^^^ c)) from rfl, ← h, ← ref_step, Nat.pow_succ, Nat.div_div_eq_div_mul]
theorem ref_last {w c v : Nat} (hc : c < 256) (h : v ^^^ (c / 2 ^ 8) = crcSteps 8 (w ^^^ c)) : v = eight (w ^^^ c) := by
  rw [show c / 2 ^ 8 = 0 from Nat.div_eq_of_lt hc, Nat.xor_zero] at h
  exact h

theorem byte_lt (c : UInt8) : c.toNat < 4294967296 := Nat.lt_of_lt_of_le (UInt8.toNat_lt c) (by decide)
theorem fed_nil (r : Nat) : fed r [] = r := rfl
theorem fed_cons (r : Nat) (c : UInt8) (l : List UInt8) : fed r (c :: l) = fed (eight (r ^^^ c.toNat)) l := by unfold fed; rw [List.foldl_cons]
theorem fed_lt (l : List UInt8) : ∀ r, r < 4294967296 → fed r l < 4294967296 := by
  induction l with
  | nil => intro r h; rw [fed_nil]; exact h
  | cons c l ih =>
    intro r h
    rw [fed_cons]
    exact ih (eight (r ^^^ c.toNat)) (eight_lt (xor_lt h (byte_lt c)))
theorem fed_append (r : Nat) (l m : List UInt8) : fed r (l ++ m) = fed (fed r l) m := List.foldl_append ..
theorem fed_snoc (r : Nat) (l : List UInt8) (c : UInt8) : fed r (l ++ [c]) = eight (fed r l ^^^ c.toNat) := by rw [fed_append, fed_cons, fed_nil]

theorem inv_xor {x : Nat} (h : x < 4294967296) : inv x = x ^^^ 4294967295 := by
  unfold inv
  apply Nat.eq_of_testBit_eq
  intro i
  rw [show 4294967295 - x = 2 ^ 32 - (x + 1) from by omega, Nat.testBit_two_pow_sub_succ (n := 32) h, Nat.testBit_xor, show (4294967295 : Nat) = 2 ^ 32 - 1 from rfl, Nat.testBit_two_pow_sub_one]
  by_cases hi : i < 32
  · simp [hi]
  · have : x.testBit i = false := Nat.testBit_lt_two_pow (Nat.lt_of_lt_of_le h (Nat.pow_le_pow_right (n := 2) (by decide) (show 32 ≤ i by omega)))
    simp [hi, this]
theorem inv_lt (x : Nat) : inv x < 4294967296 := by unfold inv; omega
theorem inv_inv {x : Nat} (h : x < 4294967296) : inv (inv x) = x := by unfold inv; omega
theorem inv_inj {x y : Nat} (hx : x < 4294967296) (hy : y < 4294967296) (h : inv x = inv y) : x = y := by rw [← inv_inv hx, ← inv_inv hy, h]
theorem sumOf_lt (l : List UInt8) : sumOf l < 4294967296 := inv_lt _
theorem moreOf_lt (s : Nat) (l : List UInt8) : moreOf s l < 4294967296 := inv_lt _
theorem moreOf_zero (l : List UInt8) : moreOf 0 l = sumOf l := rfl
theorem more_sum (a b : List UInt8) : moreOf (sumOf a) b = sumOf (a ++ b) := by
  unfold moreOf sumOf
  rw [inv_inv (fed_lt a _ (by decide)), fed_append]

/-- byte by byte -/
def xorL (a b : List UInt8) : List UInt8 := List.zipWith (· ^^^ ·) a b
theorem fed_xor : ∀ (a b : List UInt8), a.length = b.length → ∀ r s, fed (r ^^^ s) (xorL a b) = fed r a ^^^ fed s b := by
  intro a
  induction a with
  | nil => intro b h r s; cases b with
    | nil => rfl
    | cons _ _ => cases h
  | cons c a ih =>
    intro b h r s
    cases b with
    | nil => cases h
    | cons d b =>
      show fed (eight (r ^^^ s ^^^ (c ^^^ d).toNat)) (xorL a b) = _
      rw [UInt8.toNat_xor, show r ^^^ s ^^^ (c.toNat ^^^ d.toNat) = (r ^^^ c.toNat) ^^^ (s ^^^ d.toNat) by
        rw [Nat.xor_assoc, Nat.xor_assoc, ← Nat.xor_assoc s, Nat.xor_comm s, Nat.xor_assoc], eight_xor]
      exact ih b (by simpa using h) _ _
theorem fed_zeros (n : Nat) : ∀ r, r < 4294967296 → fed r (List.replicate n 0) = 0 → r = 0 := by
  induction n with
  | zero => intro r _ h; exact h
  | succ n ih =>
    intro r h h0
    rw [List.replicate_succ, fed_cons, show (0 : UInt8).toNat = 0 from rfl, Nat.xor_zero] at h0
    exact eight_eq_zero h (ih _ (eight_lt h) h0)
theorem fed_zero_zeros (n : Nat) : fed 0 (List.replicate n 0) = 0 := by
  induction n with
  | zero => rfl
  | succ n ih => rw [List.replicate_succ, fed_cons]; exact ih
theorem xor_cancel {a b : Nat} (h : a ^^^ b = 0) : a = b := by
  have h2 : (a ^^^ b) ^^^ b = 0 ^^^ b := by rw [h]
  rw [Nat.xor_assoc] at h2
  simpa using h2
/-- what is XORed into the register, piece by piece: zeros, then d, then zeros -/
theorem sum_differs (a b : List UInt8) (n m : Nat) (d : List UInt8) (hl : a.length = b.length) (hd : xorL a b = List.replicate n 0 ++ (d ++ List.replicate m 0)) (hd0 : fed 0 d ≠ 0) : sumOf a ≠ sumOf b := by
  intro h
  have h1 := inv_inj (fed_lt a _ (by decide)) (fed_lt b _ (by decide)) h
  have h2 := fed_xor a b hl 4294967295 4294967295
  rw [h1, Nat.xor_self, Nat.xor_self, hd, fed_append, fed_zero_zeros, fed_append] at h2
  exact hd0 (fed_zeros m _ (fed_lt d _ (by decide)) h2)
theorem sum_xor3 (a b c : List UInt8) (h1 : a.length = b.length) (h2 : b.length = c.length) : sumOf (xorL (xorL a b) c) = sumOf a ^^^ sumOf b ^^^ sumOf c := by
  have l1 : (xorL a b).length = c.length := by unfold xorL; rw [List.length_zipWith]; omega
  have h := fed_xor (xorL a b) c l1 (4294967295 ^^^ 4294967295) 4294967295
  rw [fed_xor a b h1, show (4294967295 ^^^ 4294967295 ^^^ 4294967295 : Nat) = 4294967295 from rfl] at h
  unfold sumOf
  have hA := fed_lt a 4294967295 (by decide)
  have hB := fed_lt b 4294967295 (by decide)
  have hC := fed_lt c 4294967295 (by decide)
  rw [h]
  generalize fed 4294967295 a = A at *
  generalize fed 4294967295 b = B at *
  generalize fed 4294967295 c = C at *
  rw [inv_xor hA, inv_xor hB, inv_xor hC, inv_xor (xor_lt (xor_lt hA hB) hC)]
  generalize (4294967295 : Nat) = q
  have e : ∀ A B C q : Nat, A ^^^ B ^^^ C ^^^ q = A ^^^ q ^^^ (B ^^^ q) ^^^ (C ^^^ q) := by
    intro A B C q
    apply Nat.eq_of_testBit_eq
    intro i
    simp only [Nat.testBit_xor]
    cases A.testBit i <;> cases B.testBit i <;> cases C.testBit i <;> cases q.testBit i <;> rfl
  exact e A B C q

/-- four bytes, fed to a register of zeros, are thirty-two crcSteps of their number -/
theorem four_fed (t : Nat) (h : t < 4294967296) : eight (eight (eight (eight (t % 256) ^^^ (t / 256 % 256)) ^^^ (t / 65536 % 256)) ^^^ (t / 16777216 % 256)) = eight (eight (eight (eight t))) := by
  have s1 : eight t = eight (t % 256) ^^^ (t / 256) := by rw [eight_split t, Nat.xor_comm]
  have key : ∀ x y : Nat, eight (x ^^^ y) = eight (x ^^^ (y % 256)) ^^^ (y / 256) := by
    intro x y
    rw [eight_xor, eight_xor, eight_split y, Nat.xor_comm (y / 256), Nat.xor_assoc]
  rw [s1, key _ (t / 256), key _ (t / 256 / 256), key _ (t / 256 / 256 / 256)]
  have e1 : t / 256 / 256 = t / 65536 := by omega
  have e2 : t / 65536 / 256 = t / 16777216 := by omega
  have e3 : t / 16777216 / 256 = 0 := by omega
  rw [e1, e2, e3, Nat.xor_zero]
theorem four_fed_ne (t : Nat) (h : t < 4294967296) (h0 : t ≠ 0) : eight (eight (eight (eight (t % 256) ^^^ (t / 256 % 256)) ^^^ (t / 65536 % 256)) ^^^ (t / 16777216 % 256)) ≠ 0 := by
  rw [four_fed t h]
  intro h1
  have l1 := eight_lt h
  have l2 := eight_lt l1
  have l3 := eight_lt l2
  exact h0 (eight_eq_zero h (eight_eq_zero l1 (eight_eq_zero l2 (eight_eq_zero l3 h1))))

/-- the example of the chapter: the program knows it -/
theorem sum_known : sumOf [49, 50, 51, 52, 53, 54, 55, 56, 57] = 3421780262 := by decide +kernel
end Go.Proofs.YtggognnjnfphgaaGreatDoor
namespace Go.Proofs.YtggognnjnfphgaaGreatDoor
open Go.RowKit

theorem and_one (x : Nat) (hx : x < 4294967296) : bits .and .u32 (x : Int) 1 = ((x % 2 : Nat) : Int) := by
  have h := u32_and_nat x 1 hx (by decide)
  rw [Nat.and_one_is_mod] at h
  exact h
theorem half_poly (x : Nat) (hx : x < 4294967296) : bits .xor .u32 ((x : Int) / 2) 3988292384 = ((x / 2 ^^^ 3988292384 : Nat) : Int) :=
  u32_xor_nat (x / 2) 3988292384 (by omega) (by decide)

set_option maxHeartbeats 400000 in
theorem afterByte_any (r : Nat) (hr : r < 4294967296) (w : World) :
    Calls Tryz.prog 156 #[.int .u32 r] w fun e w' => e = .returned (.int .u32 (eight r : Nat)) ∧ w = w' := by
  go_enter Tryz.func156, Tryz.ntmps156
  go_wp2
  go_loop [0, 4] (fun v i => ∃ k x : Nat, k ≤ 8 ∧ x < 4294967296 ∧ i = .int .i64 k ∧ v = .int .u32 x ∧ x = crcSteps k r) (fun _ i => 8 - (intOf i).toNat)
  case atStart => exact ⟨0, r, Nat.zero_le _, hr, rfl, rfl, rfl⟩
  case round =>
    obtain ⟨k, x, hk, hx, rfl, rfl, he⟩ := hrel
    replace he := Lib.hid he
    by_cases hlt : k < 8
    · have hs := step_lt hx
      have hx' := and_one x hx
      by_cases hodd : x % 2 = 1
      · have hb : (bits BinOp.and IntKind.u32 (↑x) 1 == 1) = true := by rw [hx', hodd]; rfl
        have hp := Lib.hid (half_poly x hx)
        replace hodd := Lib.hid hodd
        clear hx'
        go_wp2
        go_round
        case rel => exact ⟨k + 1, step x, by omega, hs, by go_num, by rw [hp.out]; unfold step; rw [if_pos hodd.out], by rw [he.out]; rfl⟩
        case measure => simp [intOf]; omega
      · have hb : (bits BinOp.and IntKind.u32 (↑x) 1 == 1) = false := by rw [hx']; simp; omega
        replace hodd := Lib.hid hodd
        clear hx'
        go_wp2
        go_round
        case rel => exact ⟨k + 1, step x, by omega, hs, by go_num, by unfold step; rw [if_neg hodd.out]; go_num, by rw [he.out]; rfl⟩
        case measure => simp [intOf]; omega
    · obtain rfl : k = 8 := by omega
      go_wp2
      go_ret
      exact ⟨ret_int (by rw [he.out]; rfl), rfl⟩

def entry (m j : Nat) : Value := .int .u32 ((if j < m then eight j else 0 : Nat) : Int)
/-- the table, made up to entry m -/
def cellsTo (m : Nat) : Array Value := (Array.range 256).map (entry m)
theorem cellsTo_size (m : Nat) : (cellsTo m).size = 256 := by simp [cellsTo]
theorem cellsTo_get (m j : Nat) (h : j < 256) : (cellsTo m)[j]? = some (entry m j) := by
  unfold cellsTo
  rw [Array.getElem?_map, Array.getElem?_range]
  simp [h]
theorem cellsTo_put (m : Nat) (h : m < 256) : (cellsTo m).setIfInBounds m (.int .u32 (eight m : Nat)) = cellsTo (m + 1) := by
  apply Array.ext_getElem?
  intro j
  rw [Array.getElem?_setIfInBounds]
  by_cases hj : j < 256
  · rw [cellsTo_get _ j hj, cellsTo_get _ j hj, cellsTo_size]
    by_cases he : m = j
    · subst he
      simp only [h, entry]
      simp
    · simp only [he, if_false, entry]
      by_cases hlt : j < m
      · simp [hlt, show j < m + 1 by omega]
      · simp [hlt, show ¬ j < m + 1 by omega]
  · rw [if_neg (by omega)]
    have e1 : (cellsTo m)[j]? = none := by rw [Array.getElem?_eq_none_iff, cellsTo_size]; omega
    have e2 : (cellsTo (m + 1))[j]? = none := by rw [Array.getElem?_eq_none_iff, cellsTo_size]; omega
    rw [e1, e2]
theorem cellsTo_one (m : Nat) : (cellsTo m).all (·.oneCell') = true := by
  rw [Array.all_eq_true]
  intro i h
  have := cellsTo_get m i (by rw [cellsTo_size] at h; exact h)
  rw [Array.getElem?_eq_getElem h] at this
  injection this with this
  rw [this]; rfl
theorem table_info : (Tryz.prog.info? 182).map (fun i => (i.zero, i.size)) = some (some (.agg (cellsTo 1)), 256) := by kernel_rfl
theorem ctable_info : (Tryz.prog.info? 183).map (fun i => (i.zero, i.size)) = some (some (.agg (cellsTo 1)), 256) := by kernel_rfl

/-- the table's block b, whole, read at any byte -/
theorem table_at {w : World} {g : Nat} {t : TypeId} (h : Whole w g t (cellsTo 256)) (j : Nat) (hj : j < 256) : w.cell? ⟨g, j, none⟩ = some (.int .u32 (eight j : Nat)) := by
  rw [h.cell, cellsTo_get _ j hj]
  simp [entry, hj]
end Go.Proofs.YtggognnjnfphgaaGreatDoor
namespace Go.Proofs.YtggognnjnfphgaaGreatDoor
open Go.RowKit

theorem fold_take (s : ByteArray) (k : Nat) (h : k < s.size) : s.data.toList.take (k + 1) = s.data.toList.take k ++ [s[k]] := by
  rw [List.take_succ_eq_append_getElem (by simpa using h)]; rfl
theorem byte_xor (x : Nat) (c : UInt8) : bits .xor .u8 ((x : Int) % 256) (c.toNat : Int) = (((x % 256) ^^^ c.toNat : Nat) : Int) :=
  u8_xor_nat (x % 256) c.toNat (by omega) c.toNat_lt
theorem high_xor (x y : Nat) (hx : x < 4294967296) (hy : y < 4294967296) : bits .xor .u32 ((x : Int) / 256) (y : Int) = ((x / 256 ^^^ y : Nat) : Int) :=
  u32_xor_nat (x / 256) y (by omega) hy

set_option maxHeartbeats 400000 in
theorem feed_any (g r : Nat) (s : ByteArray) (t : TypeId) (w : World) (hg : Whole w g t (cellsTo 256)) (hr : r < 4294967296) (hs : s.size ≤ 1073741824) :
    Calls Tryz.prog 126 #[.pointer (some ⟨g, 0, none⟩), .int .u32 r, .string s] w fun e w' => e = .returned (.int .u32 (fed r s.data.toList : Nat)) ∧ ∃ n, w' = w.drewN n := by
  go_enter Tryz.func126, Tryz.ntmps126
  go_wp2
  go_loopw [1, 10] (fun v i wr => ∃ k x : Nat, k ≤ s.size ∧ x < 4294967296 ∧ i = .int .i64 k ∧ v = .int .u32 x ∧ x = fed r (s.data.toList.take k) ∧ ∃ n, wr = w.drewN n) (fun _ i _ => s.size - (intOf i).toNat)
  case atStart => exact ⟨0, r, Nat.zero_le _, hr, rfl, rfl, rfl, 0, rfl⟩
  case round =>
    obtain ⟨k, x, hk, hx, rfl, rfl, he, n, rfl⟩ := hrel
    replace he := Lib.hid he
    by_cases hlt : k < s.size
    · have hq := xor_byte (Nat.mod_lt x (show 0 < 256 by decide)) s[k].toNat_lt
      have hc := table_at hg _ hq
      have hxor := byte_xor x s[k]
      have hl := eight_lt (Nat.lt_of_lt_of_le hq (show 256 ≤ 4294967296 by decide))
      obtain ⟨q, hqe⟩ : ∃ q, q = (x % 256) ^^^ s[k].toNat := ⟨_, rfl⟩
      rw [← hqe] at hq hc hxor hl
      have hy := Lib.hid (high_xor x (eight q) hx hl)
      replace hqe := Lib.hid hqe
      have hi : (k : Int) < (s.size : Int) := by omega
      go_wp2_with fail
      go_quiet (fail)
      go_wp2_with fail
      go_roundw
      case rel =>
        refine ⟨k + 1, eight (x ^^^ s[k].toNat), by omega, eight_lt (xor_lt hx (byte_lt _)), by go_num, ?_, by rw [fold_take s k hlt, fed_snoc, he.out], _, rfl⟩
        rw [hy.out, hqe.out, byte_step x _ s[k].toNat_lt]
      case measure => simp [intOf]; omega
    · obtain rfl : k = s.size := by omega
      go_wp2_with fail
      go_ret
      exact ⟨ret_int (by rw [he.out, List.take_of_length_le (by simp)]), _, rfl⟩

/-- the two blocks of newTable: the answer's, still of zeros, and the table's, made up to entry m -/
structure Making (w0 w : World) (m : Nat) : Prop where
  out : Whole w w0.heap.size 183 (cellsTo 1)
  tab : Whole w (w0.heap.size + 1) 183 (cellsTo m)
  bel : Below w0.heap.size w0 w
theorem Making.put {w0 w : World} {m : Nat} (h : Making w0 w m) (hm : m < 256) : Making w0 (w.setCell ⟨w0.heap.size + 1, m, none⟩ (.int .u32 (eight m : Nat))) (m + 1) :=
  ⟨h.out.far (by simp) _, by rw [← cellsTo_put m hm]; exact h.tab.put _ _, h.bel.setCell (by simp) _⟩
theorem Making.at {w0 w : World} {m j : Nat} (h : Making w0 w m) (hj : j < m) (hm : m ≤ 256) : w.cell? ⟨w0.heap.size + 1, j, none⟩ = some (.int .u32 (eight j : Nat)) := by
  rw [h.tab.cell, cellsTo_get _ j (by omega)]
  simp [entry, hj]

theorem Making.rest {w0 w : World} {m : Nat} (h : Making w0 w m) (hm : m < 256) : w.cell? ⟨w0.heap.size + 1, m, none⟩ = some (.int .u32 0) := by
  rw [h.tab.cell, cellsTo_get _ m hm]
  simp [entry]
theorem entry_xor (b e l : Nat) (k : Nat) (hb : b = 2 ^ k) (he : e = eight b) (hl : l < b) (hk : k < 8) : bits .xor .u32 (e : Int) (eight l : Nat) = ((eight (b + l) : Nat) : Int) := by
  subst hb he
  have h8 : 2 ^ k ≤ 2 ^ 7 := Nat.pow_le_pow_right (by decide) (by omega)
  rw [u32_xor_nat _ _ (eight_lt (by omega)) (eight_lt (by omega)), entry_join k l hl]

set_option maxHeartbeats 1000000 in
set_option maxRecDepth 20000 in
theorem newTable_any (w : World) :
    Calls Tryz.prog 125 #[] w fun e w' => e = .returned (.agg (cellsTo 256)) ∧ Below w.heap.size w w' := by
  obtain ⟨hz, hi⟩ := zero_of_info ctable_info
  replace hi := Lib.hid hi
  go_enter Tryz.func125, Tryz.ntmps125
  go_wp2_with fail
  have hst : Making w ((w.alloc (Obj.cells (cellsTo 1) 183)).alloc (Obj.cells (cellsTo 1) 183)) 1 := by
    refine ⟨(Whole.new w _ _).alloc _, ?_, ((Below.refl _ _).alloc (Nat.le_refl _) _).alloc (by simp) _⟩
    have h1 := Whole.new (w.alloc (Obj.cells (cellsTo 1) 183)) 183 (cellsTo 1)
    simp only [World.size_alloc] at h1
    exact h1
  generalize ((w.alloc (Obj.cells (cellsTo 1) 183)).alloc (Obj.cells (cellsTo 1) 183)) = w1 at hst ⊢
  clear hz
  go_loopw [2] (fun v wr => ∃ k b : Nat, k ≤ 8 ∧ 1 ≤ b ∧ b ≤ 256 ∧ v = .int .i64 b ∧ b = 2 ^ k ∧ Making w wr b) (fun v _ => 256 - (intOf v).toNat)
  case atStart => exact ⟨0, 1, by omega, by omega, by omega, rfl, rfl, hst⟩
  case round =>
    obtain ⟨k, b, hk, hb1, hb2, rfl, hb, hst1⟩ := hrel
    replace hb := Lib.hid hb
    by_cases hlt : b < 256
    · have hk8 : k < 8 := by
        rcases Nat.lt_or_ge k 8 with h | h
        · exact h
        · have h8 := Nat.pow_le_pow_right (n := 2) (by decide) h
          rw [← hb.out] at h8
          omega
      have hb3 : b ≤ 128 := by
        have h8 := Nat.pow_le_pow_right (n := 2) (by decide) (show k ≤ 7 by omega)
        rw [← hb.out] at h8
        exact h8
      have hconv : IntKind.u32.wrap (b : Int) = b := wraps_u32 _ (by omega) (by omega)
      go_wp2_with fail
      refine (afterByte_any b (by omega) _).mono ?_
      rintro e w2 ⟨rfl, rfl⟩
      obtain ⟨en, hen⟩ : ∃ en, en = eight b := ⟨_, rfl⟩
      rw [← hen]
      have hel : en < 4294967296 := by rw [hen]; exact eight_lt (by omega)
      replace hen := Lib.hid hen
      clear hconv
      go_wp2_with fail
      go_loopw [13] (fun v wr' => ∃ l : Nat, l ≤ b ∧ v = .int .i64 l ∧ Making w wr' (b + l)) (fun v _ => b - (intOf v).toNat)
      case atStart => exact ⟨0, by omega, rfl, hst1⟩
      case round =>
        obtain ⟨l, hl, rfl, hst2⟩ := hrel
        by_cases hll : l < b
        · have hc := hst2.at (show l < b + l by omega) (by omega)
          have hc2 := hst2.tab.frozen (b + l)
          have hc3 := hst2.rest (by omega)
          have hy := entry_xor b en l k hb.out hen.out hll hk8
          have hput := hst2.put (by omega)
          go_wp2_with fail
          go_roundw
          case rel => exact ⟨l + 1, by omega, by go_num, hput⟩
          case measure => simp [intOf]; omega
        · obtain rfl : l = b := by omega
          have hw2 : IntKind.i64.wrap ((l : Int) * 2) = ((l * 2 : Nat) : Int) := by rw [IntKind.wrap_i64]; omega
          have hdbl : Making w wr (l * 2) := by rw [Nat.mul_two]; exact hst2
          go_wp2_with fail
          go_roundw
          case rel => exact ⟨k + 1, l * 2, by omega, by omega, by omega, by go_num, by rw [Nat.pow_succ, ← hb.out], hdbl⟩
          case measure => simp [intOf]; omega
    · obtain rfl : b = 256 := by omega
      have hrow := setRow_heap wr w.heap.size _ (cellsTo 256) _ (0, 0) hst1.out
      have hbel := below_setRow hst1.bel (Nat.le_refl _) (cellsTo 256)
      have hi2 : (Tryz.prog.info? 183).map (·.size) = some (cellsTo 256).size := by rw [cellsTo_size]; exact hi.out
      replace hi2 := Lib.hid hi2
      replace hrow := Lib.hid hrow
      go_wp2_with (first
        | refine wpList_load_row rfl 183 (.tmp 1) rfl (w.heap.size + 1) rfl 183 (cellsTo 256) (0, 0) _ hst1.tab Tryz.underlying183 rfl hi2.out ?_
        | refine wpList_store_row rfl 183 (.tmp 0) (.tmp 26) rfl w.heap.size (cellsTo 256) rfl rfl 183 (cellsTo 1) hst1.out hi2.out (by rw [cellsTo_size, cellsTo_size]) (cellsTo_one _) ?_)
      refine bodyPost_ret (v := .agg (cellsTo 256)) ?_ rfl ⟨rfl, hbel⟩
      exact results_cell_row rfl _ _ w.heap.size 183 (cellsTo 256) (0, 0) _ rfl hrow.out Tryz.underlying183 rfl hi2.out
end Go.Proofs.YtggognnjnfphgaaGreatDoor
namespace Go.Proofs.YtggognnjnfphgaaGreatDoor
open Go.RowKit

theorem flip_inv (x : Nat) (hx : x < 4294967296) : bits BinOp.xor IntKind.u32 IntKind.u32.max (x : Int) = ((inv x : Nat) : Int) := by
  rw [show IntKind.u32.max = ((4294967295 : Nat) : Int) from by decide, u32_xor_nat _ _ (by decide) hx, inv_xor hx, Nat.xor_comm]

theorem ref_minus (x : Nat) (hx : x < 4294967296) : IntKind.u32.wrap (4294967295 - (x : Int)) = ((inv x : Nat) : Int) := by
  rw [IntKind.wrap_u32]; unfold inv; omega

theorem bit_test (z c j : Nat) (hc : c < 256) : ((z : Int) % 2 != ((c : Int) % 4294967296 / 2 ^ j).tmod 2) = !decide (z % 2 = c / 2 ^ j % 2) := by
  have e1 : (c : Int) % 4294967296 = (c : Int) := by omega
  have e2 : (c : Int) / 2 ^ j = ((c / 2 ^ j : Nat) : Int) := by
    rw [Int.natCast_ediv, Int.natCast_pow]; rfl
  rw [e1, e2]
  generalize c / 2 ^ j = q
  rw [Int.tmod_eq_emod_of_nonneg (Int.natCast_nonneg q)]
  rw [Bool.eq_iff_iff]
  simp
  omega

def flat (l : List ByteArray) : List UInt8 := l.flatMap fun s => s.data.toList
theorem flat_take (l : List ByteArray) (k : Nat) (h : k < l.length) : flat (l.take (k + 1)) = flat (l.take k) ++ (l.getD k ByteArray.empty).data.toList := by
  unfold flat
  rw [List.take_succ_eq_append_getElem h, List.flatMap_append]
  simp [List.getD, h]

theorem string_at {w : World} {B : Nat} {A : Option Addr} {n : Nat} {zs : List ByteArray} (h : Sees w B A n (texts zs)) {k : Nat} (hk : k < n) :
    ∃ b off, A = some ⟨b, off, none⟩ ∧ b < B ∧ w.cell? ⟨b, off + k, none⟩ = some (.string (zs.getD k ByteArray.empty)) := by
  obtain ⟨b, off, e, hb, hc⟩ := h.addr (by omega)
  have hl : k < zs.length := by have := h.len; simp [texts] at this; omega
  exact ⟨b, off, e, hb, hc k _ (by simp [texts, List.getD, hl])⟩

set_option maxHeartbeats 400000 in
theorem Parts_any (A : Option Addr) (n c B : Nat) (zs : List ByteArray) (w : World) (h : Sees w B A n (texts zs)) (hn : n ≤ 1073741824) (hB : B ≤ w.heap.size) (hz : ∀ k, (zs.getD k ByteArray.empty).size ≤ 1073741824) :
    Calls Tryz.prog 93 #[.slice A n c] w fun e w' => e = .returned (.int .u32 (sumOf (flat zs) : Nat)) ∧ Below w.heap.size w w' := by
  obtain ⟨hz0, hi⟩ := zero_of_info ctable_info
  have hi2 : (Tryz.prog.info? 183).map (·.size) = some (cellsTo 256).size := by rw [cellsTo_size]; exact hi
  replace hi := Lib.hid hi
  replace hi2 := Lib.hid hi2
  have hsg : IntKind.u32.signed = false := rfl
  have hzz := Lib.hid hz
  clear hz
  go_enter Tryz.func93, Tryz.ntmps93
  go_wp2_with fail
  refine (newTable_any _).mono ?_
  rintro e w1 ⟨rfl, hB1⟩
  go_wp2_with (refine wpList_store_row rfl 183 (.tmp 3) (.tmp 7) rfl w1.heap.size (cellsTo 256) rfl rfl 183 (cellsTo 1) (Whole.new w1 _ _) hi2.out (by rw [cellsTo_size, cellsTo_size]) (cellsTo_one _) ?_)
  rw [World.setRow_alloc_new]
  have hg := Whole.new w1 183 (cellsTo 256)
  have hB2 := hB1.alloc hB1.size (.cells (cellsTo 256) 183)
  generalize w1.alloc (.cells (cellsTo 256) 183) = w2 at hg hB2 ⊢
  have h2 := h.below (hB2.mono hB)
  clear hz0
  go_loopw [4, 10] (fun r i wr => ∃ k y : Nat, k ≤ n ∧ y < 4294967296 ∧ i = .int .i64 k ∧ r = .int .u32 y ∧ y = fed 4294967295 (flat (zs.take k)) ∧ ∃ m, wr = w2.drewN m) (fun _ i _ => n - (intOf i).toNat)
  case atStart => exact ⟨0, 4294967295, Nat.zero_le _, by decide, rfl, rfl, rfl, 0, rfl⟩
  case round =>
    obtain ⟨k, y, hk, hy, rfl, rfl, he, m, rfl⟩ := hrel
    replace he := Lib.hid he
    by_cases hlt : k < n
    · obtain ⟨b, off, rfl, _, hc⟩ := string_at h2 hlt
      have hi : (k : Int) < (n : Int) := by omega
      have hkz : k < zs.length := by have := h2.len; simp [texts] at this; omega
      have hzk := hzz.out k
      have hft := Lib.hid (flat_take zs k hkz)
      obtain ⟨s, hs⟩ : ∃ s, s = zs.getD k ByteArray.empty := ⟨_, rfl⟩
      rw [← hs] at hzk hc
      replace hs := Lib.hid hs
      go_wp2_with fail
      refine (feed_any _ y s _ _ (hg.drewN m) hy hzk).mono ?_
      rintro e w3 ⟨rfl, m2, rfl⟩
      go_wp2_with fail
      go_roundw
      case rel => exact ⟨k + 1, _, by omega, fed_lt _ _ hy, by go_num, rfl, by rw [hft.out, fed_append, he.out, hs.out], _, rfl⟩
      case measure => simp [intOf]; omega
    · obtain rfl : k = n := by omega
      have hfl := flip_inv y hy
      go_wp2_with fail
      go_ret
      refine ⟨ret_int ?_, below_drewN hB2 m⟩
      have hl : zs.length ≤ k := by have := h.len; simp [texts] at this; omega
      rw [he.out, List.take_of_length_le hl]
      rfl
end Go.Proofs.YtggognnjnfphgaaGreatDoor
namespace Go.Proofs.YtggognnjnfphgaaGreatDoor
open Go.RowKit

theorem Row8.drewN {w : World} {g : Nat} {l : List UInt8} (h : Row8 w g l) (n : Nat) : Row8 (w.drewN n) g l := ⟨h.cell, h.soft⟩
theorem Row8.drew {w : World} {g : Nat} {l : List UInt8} (h : Row8 w g l) : Row8 w.drew g l := ⟨h.cell, h.soft⟩
theorem u16_nat {a : Int} (h : (Lit.int .u16 a).wf = true) : ∃ x : Nat, a = x ∧ x < 65536 := by
  have h' : IntKind.u16.min ≤ a ∧ a ≤ IntKind.u16.max := by simpa [Lit.wf] using h
  have e1 : IntKind.u16.min = 0 := by decide
  have e2 : IntKind.u16.max = 65535 := by decide
  exact ⟨a.toNat, by omega, by omega⟩

theorem xorL_same (l : List UInt8) : xorL l l = List.replicate l.length 0 := by
  induction l with
  | nil => rfl
  | cons c l ih => show (c ^^^ c) :: xorL l l = _; rw [ih, UInt8.xor_self]; rfl
theorem xorL_mid (p m m' q : List UInt8) (h : m'.length = m.length) : xorL (p ++ (m' ++ q)) (p ++ (m ++ q)) = List.replicate p.length 0 ++ (xorL m' m ++ List.replicate q.length 0) := by
  unfold xorL
  rw [List.zipWith_append rfl, List.zipWith_append h]
  have e1 := xorL_same p
  have e2 := xorL_same q
  unfold xorL at e1 e2
  rw [e1, e2]
theorem flip_differs (l : List UInt8) (j : Nat) (hj : j < l.length) (d : UInt8) (hd : d ≠ 0) : sumOf (l.set j (l[j] ^^^ d)) ≠ sumOf l := by
  have e1 : l.set j (l[j] ^^^ d) = l.take j ++ ([l[j] ^^^ d] ++ l.drop (j + 1)) := by rw [List.set_eq_take_append_cons_drop, if_pos hj]; rfl
  have e2 : l = l.take j ++ ([l[j]] ++ l.drop (j + 1)) := by simp
  refine sum_differs _ _ (l.take j).length (l.drop (j + 1)).length [d] (by simp) ?_ ?_
  · rw [e1]
    conv => lhs; rhs; rw [e2]
    rw [xorL_mid _ [l[j]] [l[j] ^^^ d] _ rfl]
    congr 2
    show [l[j] ^^^ d ^^^ l[j]] = [d]
    rw [UInt8.xor_comm l[j], UInt8.xor_assoc, UInt8.xor_self, UInt8.xor_zero]
  · rw [fed_cons, fed_nil, Nat.zero_xor]
    intro h
    have := eight_eq_zero (byte_lt d) h
    exact hd (UInt8.toNat_inj.1 (by simpa using this))

theorem flip_bit (c : UInt8) (k : Nat) (hk : k < 8) : bits .xor .u8 (c.toNat : Int) ((2 : Int) ^ k % 256) = ((c ^^^ UInt8.ofNat (2 ^ k)).toNat : Nat) ∧ UInt8.ofNat (2 ^ k) ≠ 0 := by
  have h2 : 2 ^ k < 256 := Nat.lt_of_le_of_lt (Nat.pow_le_pow_right (by decide) (show k ≤ 7 by omega)) (by decide)
  have h3 : 0 < 2 ^ k := Nat.two_pow_pos k
  have e : (2 : Int) ^ k = ((2 ^ k : Nat) : Int) := by rw [Int.natCast_pow]; rfl
  rw [e, UInt8.toNat_xor, UInt8.toNat_ofNat']
  refine ⟨?_, fun h => ?_⟩
  · rw [show ((2 ^ k : Nat) : Int) % 256 = ((2 ^ k % 2 ^ 8 : Nat) : Int) by simp]
    exact u8_xor_nat _ _ c.toNat_lt (Nat.mod_lt _ (by decide))
  · have := congrArg UInt8.toNat h
    rw [UInt8.toNat_ofNat', Nat.mod_eq_of_lt h2] at this
    simp at this
theorem ne_true {a b : Nat} (h : a ≠ b) : ((a : Int) != (b : Int)) = true := by
  simp; omega

end Go.Proofs.YtggognnjnfphgaaGreatDoor
