/- The checksum as plain mathematics on numbers: a register is a number below 2^32, a step is linear over XOR. No statement of the seat is proved here. -/
namespace Go.Proofs.Ytmbnlmihpmicjaa

/-- one step of one bit, the bit being XORed into the register before -/
def step (r : Nat) : Nat := if r % 2 = 1 then (r / 2) ^^^ 3988292384 else r / 2
def steps : Nat → Nat → Nat
  | 0, r => r
  | k + 1, r => step (steps k r)
def eight (r : Nat) : Nat := steps 8 r
/-- the register after the bytes -/
def fed (r : Nat) (l : List UInt8) : Nat := l.foldl (fun r c => eight (r ^^^ c.toNat)) r
def inv (x : Nat) : Nat := 4294967295 - x
def sumOf (l : List UInt8) : Nat := inv (fed 4294967295 l)
def moreOf (s : Nat) (l : List UInt8) : Nat := inv (fed (inv s) l)

theorem xor_mid (a b p : Nat) : a ^^^ b ^^^ p = a ^^^ p ^^^ b := by rw [Nat.xor_assoc, Nat.xor_comm b, ← Nat.xor_assoc]
theorem xor_two (a b p : Nat) : a ^^^ b = a ^^^ p ^^^ (b ^^^ p) := by
  apply Nat.eq_of_testBit_eq
  intro i
  simp only [Nat.testBit_xor]
  cases a.testBit i <;> cases b.testBit i <;> cases p.testBit i <;> rfl
theorem step_xor (a b : Nat) : step (a ^^^ b) = step a ^^^ step b := by
  unfold step
  have h1 : (a ^^^ b) / 2 = a / 2 ^^^ b / 2 := Nat.xor_div_two
  have h2 : (a ^^^ b) % 2 = (a % 2) ^^^ (b % 2) := by
    have := Nat.xor_mod_two_pow (a := a) (b := b) (n := 1)
    simpa using this
  rw [h1, h2]
  rcases Nat.mod_two_eq_zero_or_one a with ha | ha <;> rcases Nat.mod_two_eq_zero_or_one b with hb | hb <;> rw [ha, hb] <;> simp
  · rw [Nat.xor_assoc]
  · exact xor_mid _ _ _
  · exact xor_two _ _ _
theorem steps_xor (k a b : Nat) : steps k (a ^^^ b) = steps k a ^^^ steps k b := by
  induction k with
  | zero => rfl
  | succ k ih => simp only [steps]; rw [ih, step_xor]
theorem eight_xor (a b : Nat) : eight (a ^^^ b) = eight a ^^^ eight b := steps_xor 8 a b
theorem xor_lt {a b : Nat} (ha : a < 4294967296) (hb : b < 4294967296) : a ^^^ b < 4294967296 := Nat.xor_lt_two_pow (n := 32) ha hb
theorem xor_byte {a b : Nat} (ha : a < 256) (hb : b < 256) : a ^^^ b < 256 := Nat.xor_lt_two_pow (n := 8) ha hb
theorem step_lt {r : Nat} (h : r < 4294967296) : step r < 4294967296 := by
  unfold step
  split
  · exact xor_lt (by omega) (by decide)
  · omega
theorem steps_lt {r : Nat} (k : Nat) (h : r < 4294967296) : steps k r < 4294967296 := by
  induction k with
  | zero => exact h
  | succ k ih => exact step_lt ih
theorem eight_lt {r : Nat} (h : r < 4294967296) : eight r < 4294967296 := steps_lt 8 h
theorem step_zero : step 0 = 0 := rfl
theorem eight_zero : eight 0 = 0 := rfl
theorem step_eq_zero {r : Nat} (h : r < 4294967296) (h0 : step r = 0) : r = 0 := by
  unfold step at h0
  split at h0
  · have : r / 2 = 3988292384 := by
      have h2 : (r / 2 ^^^ 3988292384) ^^^ 3988292384 = 0 ^^^ 3988292384 := by rw [h0]
      rw [Nat.xor_assoc] at h2
      simpa using h2
    omega
  · omega
theorem steps_eq_zero {r : Nat} (k : Nat) (h : r < 4294967296) (h0 : steps k r = 0) : r = 0 := by
  induction k with
  | zero => exact h0
  | succ k ih => exact ih (step_eq_zero (steps_lt k h) h0)
theorem eight_eq_zero {r : Nat} (h : r < 4294967296) (h0 : eight r = 0) : r = 0 := steps_eq_zero 8 h h0

/-- low bits and high bits, XORed, are their sum -/
theorem low_high (k a y : Nat) (ha : a < 2 ^ k) : a ^^^ (2 ^ k * y) = a + 2 ^ k * y := by
  have h1 : (a ^^^ (2 ^ k * y)) / 2 ^ k = y := by
    rw [Nat.xor_div_two_pow, Nat.div_eq_of_lt ha, Nat.mul_div_cancel_left _ (Nat.two_pow_pos k)]
    simp
  have h2 : (a ^^^ (2 ^ k * y)) % 2 ^ k = a := by
    rw [Nat.xor_mod_two_pow, Nat.mod_eq_of_lt ha, Nat.mul_mod_right]
    simp
  have := Nat.div_add_mod (a ^^^ (2 ^ k * y)) (2 ^ k)
  rw [h1, h2] at this
  omega
theorem split8 (r : Nat) : r = (r % 256) ^^^ (256 * (r / 256)) := by
  have := low_high 8 (r % 256) (r / 256) (Nat.mod_lt _ (by decide))
  rw [show (2 : Nat) ^ 8 = 256 from rfl] at this
  rw [this]; omega
theorem step_double (y : Nat) : step (2 * y) = y := by unfold step; rw [if_neg (by omega)]; omega
theorem steps_succ (k r : Nat) : steps (k + 1) r = steps k (step r) := by
  induction k generalizing r with
  | zero => rfl
  | succ k ih => rw [show steps (k + 1 + 1) r = step (steps (k + 1) r) from rfl, ih]; rfl
theorem steps_shift (k y : Nat) : steps k (2 ^ k * y) = y := by
  induction k generalizing y with
  | zero => simp [steps]
  | succ k ih =>
    rw [steps_succ, show 2 ^ (k + 1) * y = 2 * (2 ^ k * y) by rw [Nat.pow_succ, Nat.mul_comm (2 ^ k) 2, Nat.mul_assoc], step_double, ih]
theorem eight_shift (y : Nat) : eight (256 * y) = y := steps_shift 8 y
theorem eight_split (r : Nat) : eight r = (r / 256) ^^^ eight (r % 256) := by
  have h : eight ((r % 256) ^^^ (256 * (r / 256))) = (r / 256) ^^^ eight (r % 256) := by rw [eight_xor, eight_shift, Nat.xor_comm]
  rwa [← split8 r] at h
/-- one byte by the table -/
theorem byte_step (r c : Nat) (hc : c < 256) : (r / 256) ^^^ eight ((r % 256) ^^^ c) = eight (r ^^^ c) := by
  rw [eight_split (r ^^^ c)]
  have h1 : (r ^^^ c) / 256 = r / 256 := by
    have := Nat.xor_div_two_pow (a := r) (b := c) (n := 8)
    rw [show (2 : Nat) ^ 8 = 256 from rfl] at this
    rw [this, Nat.div_eq_of_lt hc]; simp
  have h2 : (r ^^^ c) % 256 = (r % 256) ^^^ c := by
    have := Nat.xor_mod_two_pow (a := r) (b := c) (n := 8)
    rw [show (2 : Nat) ^ 8 = 256 from rfl] at this
    rw [this, Nat.mod_eq_of_lt hc]
  rw [h1, h2]
/-- an entry out of two smaller ones -/
theorem entry_join (k l : Nat) (hl : l < 2 ^ k) : eight (2 ^ k) ^^^ eight l = eight (2 ^ k + l) := by
  have := low_high k l 1 hl
  rw [Nat.mul_one] at this
  rw [← eight_xor, Nat.xor_comm, this, Nat.add_comm]

/-- the reference's bit: what is compared, then shifted, then XORed -/
def refStep (w c : Nat) : Nat := if w % 2 = c % 2 then w / 2 else (w / 2) ^^^ 3988292384
theorem ref_step (w c : Nat) : refStep w c ^^^ (c / 2) = step (w ^^^ c) := by
  unfold refStep step
  have h1 : (w ^^^ c) / 2 = w / 2 ^^^ c / 2 := Nat.xor_div_two
  have h2 : (w ^^^ c) % 2 = (w % 2) ^^^ (c % 2) := by
    have := Nat.xor_mod_two_pow (a := w) (b := c) (n := 1)
    simpa using this
  rw [h1, h2]
  rcases Nat.mod_two_eq_zero_or_one w with ha | ha <;> rcases Nat.mod_two_eq_zero_or_one c with hb | hb <;> rw [ha, hb] <;> simp
  all_goals exact (xor_mid _ _ _).symm
theorem refStep_lt {w : Nat} (c : Nat) (h : w < 4294967296) : refStep w c < 4294967296 := by
  unfold refStep
  split
  · omega
  · exact xor_lt (by omega) (by decide)
theorem ref_more {w c k v : Nat} (h : v ^^^ (c / 2 ^ k) = steps k (w ^^^ c)) : refStep v (c / 2 ^ k) ^^^ (c / 2 ^ (k + 1)) = steps (k + 1) (w ^^^ c) := by
  rw [show steps (k + 1) (w ^^^ c) = step (steps k (w ^^^ c)) from rfl, ← h, ← ref_step, Nat.pow_succ, Nat.div_div_eq_div_mul]
theorem ref_last {w c v : Nat} (hc : c < 256) (h : v ^^^ (c / 2 ^ 8) = steps 8 (w ^^^ c)) : v = eight (w ^^^ c) := by
  rw [show c / 2 ^ 8 = 0 from Nat.div_eq_of_lt hc, Nat.xor_zero] at h
  exact h

theorem byte_lt (c : UInt8) : c.toNat < 4294967296 := Nat.lt_of_lt_of_le (UInt8.toNat_lt c) (by decide)
theorem fed_nil (r : Nat) : fed r [] = r := rfl
theorem fed_cons (r : Nat) (c : UInt8) (l : List UInt8) : fed r (c :: l) = fed (eight (r ^^^ c.toNat)) l := by unfold fed; rw [List.foldl_cons]
theorem fed_lt (l : List UInt8) : ∀ r, r < 4294967296 → fed r l < 4294967296 := by
  induction l with
  | nil => intro r h; rw [fed_nil]; exact h
  | cons c l ih =>
    intro r h
    rw [fed_cons]
    exact ih (eight (r ^^^ c.toNat)) (eight_lt (xor_lt h (byte_lt c)))
theorem fed_append (r : Nat) (l m : List UInt8) : fed r (l ++ m) = fed (fed r l) m := List.foldl_append ..
theorem fed_snoc (r : Nat) (l : List UInt8) (c : UInt8) : fed r (l ++ [c]) = eight (fed r l ^^^ c.toNat) := by rw [fed_append, fed_cons, fed_nil]

theorem inv_xor {x : Nat} (h : x < 4294967296) : inv x = x ^^^ 4294967295 := by
  unfold inv
  apply Nat.eq_of_testBit_eq
  intro i
  rw [show 4294967295 - x = 2 ^ 32 - (x + 1) from by omega, Nat.testBit_two_pow_sub_succ (n := 32) h, Nat.testBit_xor, show (4294967295 : Nat) = 2 ^ 32 - 1 from rfl, Nat.testBit_two_pow_sub_one]
  by_cases hi : i < 32
  · simp [hi]
  · have : x.testBit i = false := Nat.testBit_lt_two_pow (Nat.lt_of_lt_of_le h (Nat.pow_le_pow_right (n := 2) (by decide) (show 32 ≤ i by omega)))
    simp [hi, this]
theorem inv_lt (x : Nat) : inv x < 4294967296 := by unfold inv; omega
theorem inv_inv {x : Nat} (h : x < 4294967296) : inv (inv x) = x := by unfold inv; omega
theorem inv_inj {x y : Nat} (hx : x < 4294967296) (hy : y < 4294967296) (h : inv x = inv y) : x = y := by rw [← inv_inv hx, ← inv_inv hy, h]
theorem sumOf_lt (l : List UInt8) : sumOf l < 4294967296 := inv_lt _
theorem moreOf_lt (s : Nat) (l : List UInt8) : moreOf s l < 4294967296 := inv_lt _
theorem moreOf_zero (l : List UInt8) : moreOf 0 l = sumOf l := rfl
theorem more_sum (a b : List UInt8) : moreOf (sumOf a) b = sumOf (a ++ b) := by
  unfold moreOf sumOf
  rw [inv_inv (fed_lt a _ (by decide)), fed_append]

/-- byte by byte -/
def xorL (a b : List UInt8) : List UInt8 := List.zipWith (· ^^^ ·) a b
theorem fed_xor : ∀ (a b : List UInt8), a.length = b.length → ∀ r s, fed (r ^^^ s) (xorL a b) = fed r a ^^^ fed s b := by
  intro a
  induction a with
  | nil => intro b h r s; cases b with
    | nil => rfl
    | cons _ _ => cases h
  | cons c a ih =>
    intro b h r s
    cases b with
    | nil => cases h
    | cons d b =>
      show fed (eight (r ^^^ s ^^^ (c ^^^ d).toNat)) (xorL a b) = _
      rw [UInt8.toNat_xor, show r ^^^ s ^^^ (c.toNat ^^^ d.toNat) = (r ^^^ c.toNat) ^^^ (s ^^^ d.toNat) by
        rw [Nat.xor_assoc, Nat.xor_assoc, ← Nat.xor_assoc s, Nat.xor_comm s, Nat.xor_assoc], eight_xor]
      exact ih b (by simpa using h) _ _
theorem fed_zeros (n : Nat) : ∀ r, r < 4294967296 → fed r (List.replicate n 0) = 0 → r = 0 := by
  induction n with
  | zero => intro r _ h; exact h
  | succ n ih =>
    intro r h h0
    rw [List.replicate_succ, fed_cons, show (0 : UInt8).toNat = 0 from rfl, Nat.xor_zero] at h0
    exact eight_eq_zero h (ih _ (eight_lt h) h0)
theorem fed_zero_zeros (n : Nat) : fed 0 (List.replicate n 0) = 0 := by
  induction n with
  | zero => rfl
  | succ n ih => rw [List.replicate_succ, fed_cons]; exact ih
theorem xor_cancel {a b : Nat} (h : a ^^^ b = 0) : a = b := by
  have h2 : (a ^^^ b) ^^^ b = 0 ^^^ b := by rw [h]
  rw [Nat.xor_assoc] at h2
  simpa using h2
/-- what is XORed into the register, piece by piece: zeros, then d, then zeros -/
theorem sum_differs (a b : List UInt8) (n m : Nat) (d : List UInt8) (hl : a.length = b.length) (hd : xorL a b = List.replicate n 0 ++ (d ++ List.replicate m 0)) (hd0 : fed 0 d ≠ 0) : sumOf a ≠ sumOf b := by
  intro h
  have h1 := inv_inj (fed_lt a _ (by decide)) (fed_lt b _ (by decide)) h
  have h2 := fed_xor a b hl 4294967295 4294967295
  rw [h1, Nat.xor_self, Nat.xor_self, hd, fed_append, fed_zero_zeros, fed_append] at h2
  exact hd0 (fed_zeros m _ (fed_lt d _ (by decide)) h2)
theorem sum_xor3 (a b c : List UInt8) (h1 : a.length = b.length) (h2 : b.length = c.length) : sumOf (xorL (xorL a b) c) = sumOf a ^^^ sumOf b ^^^ sumOf c := by
  have l1 : (xorL a b).length = c.length := by unfold xorL; rw [List.length_zipWith]; omega
  have h := fed_xor (xorL a b) c l1 (4294967295 ^^^ 4294967295) 4294967295
  rw [fed_xor a b h1, show (4294967295 ^^^ 4294967295 ^^^ 4294967295 : Nat) = 4294967295 from rfl] at h
  unfold sumOf
  have hA := fed_lt a 4294967295 (by decide)
  have hB := fed_lt b 4294967295 (by decide)
  have hC := fed_lt c 4294967295 (by decide)
  rw [h]
  generalize fed 4294967295 a = A at *
  generalize fed 4294967295 b = B at *
  generalize fed 4294967295 c = C at *
  rw [inv_xor hA, inv_xor hB, inv_xor hC, inv_xor (xor_lt (xor_lt hA hB) hC)]
  generalize (4294967295 : Nat) = q
  have e : ∀ A B C q : Nat, A ^^^ B ^^^ C ^^^ q = A ^^^ q ^^^ (B ^^^ q) ^^^ (C ^^^ q) := by
    intro A B C q
    apply Nat.eq_of_testBit_eq
    intro i
    simp only [Nat.testBit_xor]
    cases A.testBit i <;> cases B.testBit i <;> cases C.testBit i <;> cases q.testBit i <;> rfl
  exact e A B C q

/-- four bytes, fed to a register of zeros, are thirty-two steps of their number -/
theorem four_fed (t : Nat) (h : t < 4294967296) : eight (eight (eight (eight (t % 256) ^^^ (t / 256 % 256)) ^^^ (t / 65536 % 256)) ^^^ (t / 16777216 % 256)) = eight (eight (eight (eight t))) := by
  have s1 : eight t = eight (t % 256) ^^^ (t / 256) := by rw [eight_split t, Nat.xor_comm]
  have key : ∀ x y : Nat, eight (x ^^^ y) = eight (x ^^^ (y % 256)) ^^^ (y / 256) := by
    intro x y
    rw [eight_xor, eight_xor, eight_split y, Nat.xor_comm (y / 256), Nat.xor_assoc]
  rw [s1, key _ (t / 256), key _ (t / 256 / 256), key _ (t / 256 / 256 / 256)]
  have e1 : t / 256 / 256 = t / 65536 := by omega
  have e2 : t / 65536 / 256 = t / 16777216 := by omega
  have e3 : t / 16777216 / 256 = 0 := by omega
  rw [e1, e2, e3, Nat.xor_zero]
theorem four_fed_ne (t : Nat) (h : t < 4294967296) (h0 : t ≠ 0) : eight (eight (eight (eight (t % 256) ^^^ (t / 256 % 256)) ^^^ (t / 65536 % 256)) ^^^ (t / 16777216 % 256)) ≠ 0 := by
  rw [four_fed t h]
  intro h1
  have l1 := eight_lt h
  have l2 := eight_lt l1
  have l3 := eight_lt l2
  exact h0 (eight_eq_zero h (eight_eq_zero l1 (eight_eq_zero l2 (eight_eq_zero l3 h1))))

/-- the example of the chapter: the program knows it -/
theorem sum_known : sumOf [49, 50, 51, 52, 53, 54, 55, 56, 57] = 3421780262 := by decide +kernel
end Go.Proofs.Ytmbnlmihpmicjaa
