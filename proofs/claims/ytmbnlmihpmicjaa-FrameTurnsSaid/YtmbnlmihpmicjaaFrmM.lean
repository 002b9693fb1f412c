/- Plain mathematics of layer 6: a frame, the first frame of a file, the frames of a file; what is framed is found again, a part of a frame and a frame with a bit turned are none. No statement of the seat is proved here. -/
import Derived.Test.YtmbnlmihpmicjaaMk
import Derived.Test.YtmbnlmihpmicjaaCrcE
namespace Go.Proofs.Ytmbnlmihpmicjaa

/-- the frame of the bytes l -/
def frameL (l : List UInt8) : List UInt8 := be l.length 4 ++ (be (sumOf (be l.length 4 ++ l)) 4 ++ l)
theorem frameL_len (l : List UInt8) : (frameL l).length = 8 + l.length := by simp [frameL, be_length]; omega

/-- the first frame: its bytes, how many bytes it takes, the error -/
def firstL (l : List UInt8) : List UInt8 × Nat × Int :=
  if l.length < 8 then ([], 0, 2)
  else if 16777216 < num (l.take 4) ∨ l.length - 8 < num (l.take 4) then ([], 0, 2)
  else if sumOf (l.take 4 ++ (l.drop 8).take (num (l.take 4))) = num ((l.drop 4).take 4) then ((l.drop 8).take (num (l.take 4)), 8 + num (l.take 4), 0)
  else ([], 0, 7)
theorem firstL_less {l : List UInt8} (h : l.length < 8) : firstL l = ([], 0, 2) := by unfold firstL; rw [if_pos h]
theorem firstL_form {l : List UInt8} (h : ¬ l.length < 8) (h2 : 16777216 < num (l.take 4) ∨ l.length - 8 < num (l.take 4)) : firstL l = ([], 0, 2) := by unfold firstL; rw [if_neg h, if_pos h2]
theorem firstL_ok {l : List UInt8} (h : ¬ l.length < 8) (h2 : ¬ (16777216 < num (l.take 4) ∨ l.length - 8 < num (l.take 4)))
    (h3 : sumOf (l.take 4 ++ (l.drop 8).take (num (l.take 4))) = num ((l.drop 4).take 4)) : firstL l = ((l.drop 8).take (num (l.take 4)), 8 + num (l.take 4), 0) := by
  unfold firstL; rw [if_neg h, if_neg h2, if_pos h3]
theorem firstL_sum {l : List UInt8} (h : ¬ l.length < 8) (h2 : ¬ (16777216 < num (l.take 4) ∨ l.length - 8 < num (l.take 4)))
    (h3 : sumOf (l.take 4 ++ (l.drop 8).take (num (l.take 4))) ≠ num ((l.drop 4).take 4)) : firstL l = ([], 0, 7) := by
  unfold firstL; rw [if_neg h, if_neg h2, if_neg h3]
theorem firstL_code (l : List UInt8) : ((firstL l).2.2 = 0 ∧ 8 ≤ (firstL l).2.1 ∧ (firstL l).2.1 ≤ l.length) ∨ (firstL l = ([], 0, 2) ∨ firstL l = ([], 0, 7)) := by
  by_cases h : l.length < 8
  · exact .inr (.inl (firstL_less h))
  by_cases h2 : 16777216 < num (l.take 4) ∨ l.length - 8 < num (l.take 4)
  · exact .inr (.inl (firstL_form h h2))
  by_cases h3 : sumOf (l.take 4 ++ (l.drop 8).take (num (l.take 4))) = num ((l.drop 4).take 4)
  · rw [firstL_ok h h2 h3]
    exact .inl ⟨rfl, by simp, by simp; omega⟩
  · exact .inr (.inr (firstL_sum h h2 h3))
theorem firstL_len (l : List UInt8) : (firstL l).1.length + 8 ≤ l.length ∨ (firstL l).1 = [] := by
  by_cases h : l.length < 8
  · rw [firstL_less h]; exact .inr rfl
  by_cases h2 : 16777216 < num (l.take 4) ∨ l.length - 8 < num (l.take 4)
  · rw [firstL_form h h2]; exact .inr rfl
  by_cases h3 : sumOf (l.take 4 ++ (l.drop 8).take (num (l.take 4))) = num ((l.drop 4).take 4)
  · rw [firstL_ok h h2 h3]
    refine .inl ?_
    simp
    omega
  · rw [firstL_sum h h2 h3]; exact .inr rfl

/-- the frames of a file; the number is room enough where it is greater than the bytes' -/
def scanF : Nat → List UInt8 → List (List UInt8) × Nat
  | 0, _ => ([], 0)
  | f + 1, l => if (firstL l).2.2 = 0 then ((firstL l).1 :: (scanF f (l.drop (firstL l).2.1)).1, (firstL l).2.1 + (scanF f (l.drop (firstL l).2.1)).2) else ([], 0)
def scanL (l : List UInt8) : List (List UInt8) × Nat := scanF (l.length + 1) l
theorem scanF_room : ∀ (f g : Nat) (l : List UInt8), l.length < f → l.length < g → scanF f l = scanF g l := by
  intro f
  induction f with
  | zero => intro g l h; omega
  | succ f ih =>
    intro g l h hg
    cases g with
    | zero => omega
    | succ g =>
      rw [scanF, scanF]
      by_cases h0 : (firstL l).2.2 = 0
      · rw [if_pos h0, if_pos h0]
        rcases firstL_code l with ⟨_, h1, h2⟩ | h1 | h1
        · rw [ih g (l.drop (firstL l).2.1) (by rw [List.length_drop]; omega) (by rw [List.length_drop]; omega)]
        · rw [h1] at h0; exact absurd h0 (by decide)
        · rw [h1] at h0; exact absurd h0 (by decide)
      · rw [if_neg h0, if_neg h0]
theorem scan_ok {l : List UInt8} (h0 : (firstL l).2.2 = 0) : scanL l = ((firstL l).1 :: (scanL (l.drop (firstL l).2.1)).1, (firstL l).2.1 + (scanL (l.drop (firstL l).2.1)).2) := by
  unfold scanL
  rw [scanF, if_pos h0]
  rcases firstL_code l with ⟨_, h1, h2⟩ | h1 | h1
  · rw [scanF_room l.length ((l.drop (firstL l).2.1).length + 1) (l.drop (firstL l).2.1) (by rw [List.length_drop]; omega) (by omega)]
  · rw [h1] at h0; exact absurd h0 (by decide)
  · rw [h1] at h0; exact absurd h0 (by decide)
theorem scan_no {l : List UInt8} (h0 : (firstL l).2.2 ≠ 0) : scanL l = ([], 0) := by unfold scanL; rw [scanF, if_neg h0]
theorem scan_nil : scanL [] = ([], 0) := scan_no (by rw [firstL_less (by decide)]; decide)

theorem scanF_len : ∀ (f : Nat) (l : List UInt8), 8 * (scanF f l).1.length ≤ (scanF f l).2 ∧ (scanF f l).2 ≤ l.length := by
  intro f
  induction f with
  | zero => intro l; exact ⟨Nat.le_refl _, Nat.zero_le _⟩
  | succ f ih =>
    intro l
    rw [scanF]
    by_cases h0 : (firstL l).2.2 = 0
    · rw [if_pos h0]
      rcases firstL_code l with ⟨_, h1, h2⟩ | h1 | h1
      · have := ih (l.drop (firstL l).2.1)
        rw [List.length_drop] at this
        simp only [List.length_cons]
        omega
      · rw [h1] at h0; exact absurd h0 (by decide)
      · rw [h1] at h0; exact absurd h0 (by decide)
    · rw [if_neg h0]; exact ⟨Nat.le_refl _, Nat.zero_le _⟩
theorem scanL_len (l : List UInt8) : 8 * (scanL l).1.length ≤ l.length ∧ (scanL l).2 ≤ l.length := by
  have := scanF_len (l.length + 1) l
  unfold scanL
  omega

/-- where a loop stands -/
def Scans (l : List UInt8) (acc : List (List UInt8)) (e : Nat) : Prop := e ≤ l.length ∧ 8 * acc.length ≤ e ∧ scanL l = (acc ++ (scanL (l.drop e)).1, e + (scanL (l.drop e)).2)
theorem Scans.start (l : List UInt8) : Scans l [] 0 := ⟨Nat.zero_le _, by simp, by simp⟩
theorem Scans.step {l : List UInt8} {acc : List (List UInt8)} {e : Nat} (h : Scans l acc e) (h0 : (firstL (l.drop e)).2.2 = 0) : Scans l (acc ++ [(firstL (l.drop e)).1]) (e + (firstL (l.drop e)).2.1) := by
  obtain ⟨h1, h2, h3⟩ := h
  rcases firstL_code (l.drop e) with ⟨_, h4, h5⟩ | h4 | h4
  · rw [List.length_drop] at h5
    refine ⟨by omega, by simp; omega, ?_⟩
    rw [h3, scan_ok h0, List.drop_drop]
    simp [Nat.add_assoc]
  · rw [h4] at h0; exact absurd h0 (by decide)
  · rw [h4] at h0; exact absurd h0 (by decide)
theorem Scans.ends {l : List UInt8} {acc : List (List UInt8)} {e : Nat} (h : Scans l acc e) (h0 : (firstL (l.drop e)).2.2 ≠ 0) : scanL l = (acc, e) := by rw [h.2.2, scan_no h0]; simp
theorem Scans.out {l : List UInt8} {acc : List (List UInt8)} {e : Nat} (h : Scans l acc e) (h0 : l.length ≤ e) : scanL l = (acc, e) :=
  h.ends (by rw [List.drop_of_length_le h0, firstL_less (by decide)]; decide)

/-- a number of four bytes, a sum of four bytes, what follows -/
theorem first_of (a s y : List UInt8) (ha : a.length = 4) (hs : s.length = 4) :
    firstL (a ++ (s ++ y)) = if 16777216 < num a ∨ y.length < num a then ([], 0, 2) else if sumOf (a ++ y.take (num a)) = num s then (y.take (num a), 8 + num a, 0) else ([], 0, 7) := by
  have e1 : (a ++ (s ++ y)).take 4 = a := List.take_left' ha
  have e2 : (a ++ (s ++ y)).drop 4 = s ++ y := List.drop_left' ha
  have e3 : (a ++ (s ++ y)).drop 8 = y := by rw [show 8 = 4 + 4 from rfl, ← List.drop_drop, e2, List.drop_left' hs]
  have e4 : (a ++ (s ++ y)).length = 8 + y.length := by simp; omega
  unfold firstL
  rw [e1, e2, e3, e4, List.take_left' hs, if_neg (by omega), show 8 + y.length - 8 = y.length from by omega]
theorem be4_num {v : Nat} (h : v < 4294967296) : num (be v 4) = v := num_be_eq v 4 h
theorem first_frame (x r : List UInt8) (hx : x.length ≤ 16777216) : firstL (frameL x ++ r) = (x, 8 + x.length, 0) := by
  unfold frameL
  rw [List.append_assoc, List.append_assoc, first_of _ _ _ (be_length _ _) (be_length _ _), be4_num (by omega), be4_num (sumOf_lt _), if_neg (by simp; omega), List.take_left' rfl, if_pos rfl]

/-- frames, one behind the other -/
def rowF (xs : List (List UInt8)) : List UInt8 := xs.flatMap frameL
theorem rowF_cons (x : List UInt8) (xs : List (List UInt8)) : rowF (x :: xs) = frameL x ++ rowF xs := by simp [rowF]
theorem rowF_take (xs : List (List UInt8)) (k : Nat) (h : k < xs.length) : rowF (xs.take (k + 1)) = rowF (xs.take k) ++ frameL xs[k] := by
  unfold rowF
  rw [List.take_succ_eq_append_getElem h, List.flatMap_append, List.flatMap_cons, List.flatMap_nil, List.append_nil]
theorem rowF_len (b : Nat) : ∀ xs : List (List UInt8), (∀ x ∈ xs, x.length ≤ b) → (rowF xs).length ≤ xs.length * (8 + b) := by
  intro xs
  induction xs with
  | nil => intro _; simp [rowF]
  | cons x xs ih =>
    intro h
    have h1 := ih fun y hy => h y (by simp [hy])
    have h2 := h x (by simp)
    rw [rowF_cons, List.length_append, frameL_len, List.length_cons, Nat.add_mul]
    omega
theorem scan_row (r : List UInt8) : ∀ xs : List (List UInt8), (∀ x ∈ xs, x.length ≤ 16777216) → scanL (rowF xs ++ r) = (xs ++ (scanL r).1, (rowF xs).length + (scanL r).2) := by
  intro xs
  induction xs with
  | nil => intro _; simp [rowF]
  | cons x xs ih =>
    intro h
    have h1 := ih fun y hy => h y (by simp [hy])
    have hf := first_frame x (rowF xs ++ r) (h x (by simp))
    rw [rowF_cons, List.append_assoc, scan_ok (by rw [hf]), hf]
    simp only
    rw [List.drop_left' (by rw [frameL_len]), h1, List.length_append, frameL_len]
    simp [Nat.add_assoc]
theorem scan_frames (xs : List (List UInt8)) (h : ∀ x ∈ xs, x.length ≤ 16777216) : scanL (rowF xs) = (xs, (rowF xs).length) := by
  have := scan_row [] xs h
  rwa [List.append_nil, scan_nil, List.append_nil, Nat.add_zero] at this
/-- behind frames stands no frame -/
theorem scan_then {r : List UInt8} (xs : List (List UInt8)) (h : ∀ x ∈ xs, x.length ≤ 16777216) (hr : (firstL r).2.2 ≠ 0) : scanL (rowF xs ++ r) = (xs, (rowF xs).length) := by
  rw [scan_row r xs h, scan_no hr, List.append_nil, Nat.add_zero]

/-- a part of a frame is none -/
theorem first_short (x : List UInt8) (hx : x.length ≤ 16777216) (j : Nat) (hj : j < 8 + x.length) : (firstL ((frameL x).take j)).2.2 ≠ 0 := by
  have hl := frameL_len x
  by_cases h8 : j < 8
  · rw [firstL_less (by rw [List.length_take]; omega)]; decide
  · have e : (frameL x).take j = be x.length 4 ++ (be (sumOf (be x.length 4 ++ x)) 4 ++ x.take (j - 8)) := by
      unfold frameL
      rw [List.take_append, List.take_append, be_length, be_length, List.take_of_length_le (by rw [be_length]; omega), List.take_of_length_le (by rw [be_length]; omega), show j - 4 - 4 = j - 8 from by omega]
    rw [e, first_of _ _ _ (be_length _ _) (be_length _ _), be4_num (by omega), if_pos (by right; rw [List.length_take]; omega)]
    decide

theorem num_inj {a b : List UInt8} (h : a.length = b.length) (hn : num a = num b) : a = b := by
  have h1 := be_num a
  rw [hn, h, be_num b] at h1
  exact h1.symm
theorem set_ne {l : List UInt8} {i : Nat} {v : UInt8} (hi : i < l.length) (hv : v ≠ l[i]) : l.set i v ≠ l := by
  intro e
  apply hv
  have h1 : (l.set i v)[i]'(by simpa using hi) = v := by simp
  have h2 : (l.set i v)[i]'(by simpa using hi) = l[i] := by congr 1
  rw [← h1, h2]
/-- another byte, another sum -/
theorem set_differs (l : List UInt8) (j : Nat) (hj : j < l.length) (v : UInt8) (hv : v ≠ l[j]) : sumOf (l.set j v) ≠ sumOf l := by
  have hd : l[j] ^^^ v ≠ 0 := by
    intro h
    apply hv
    have h2 : l[j] ^^^ (l[j] ^^^ v) = l[j] ^^^ 0 := by rw [h]
    rw [← UInt8.xor_assoc, UInt8.xor_self, UInt8.zero_xor, UInt8.xor_zero] at h2
    exact h2
  have := flip_differs l j hj (l[j] ^^^ v) hd
  rwa [← UInt8.xor_assoc, UInt8.xor_self, UInt8.zero_xor] at this
/-- a frame with another byte behind its number is none -/
theorem first_flip (x : List UInt8) (hx : x.length ≤ 16777216) (i : Nat) (hi : i < (frameL x).length) (h4 : 4 ≤ i) (v : UInt8) (hv : v ≠ (frameL x)[i]) : (firstL ((frameL x).set i v)).2.2 ≠ 0 := by
  have hl := frameL_len x
  obtain ⟨s, hs⟩ : ∃ s, s = sumOf (be x.length 4 ++ x) := ⟨_, rfl⟩
  have hsl : s < 4294967296 := by rw [hs]; exact sumOf_lt _
  have e0 : frameL x = be x.length 4 ++ (be s 4 ++ x) := by rw [hs]; rfl
  by_cases h8 : i < 8
  · have hk : i - 4 < (be s 4).length := by rw [be_length]; omega
    have e : (frameL x).set i v = be x.length 4 ++ ((be s 4).set (i - 4) v ++ x) := by
      rw [e0, List.set_append_right _ _ (by rw [be_length]; omega), be_length, List.set_append_left _ _ hk]
    have hg : (frameL x)[i] = (be s 4)[i - 4] := by
      simp only [e0]
      rw [List.getElem_append_right (by rw [be_length]; omega), List.getElem_append_left (by simp only [be_length]; omega)]
      simp only [be_length]
    rw [hg] at hv
    have hne := set_ne hk hv
    rw [e, first_of _ _ _ (be_length _ _) (by rw [List.length_set, be_length]), be4_num (by omega), if_neg (by omega), List.take_of_length_le (Nat.le_refl _), ← hs, if_neg]
    · decide
    · intro h
      refine hne (num_inj (by rw [List.length_set]) ?_)
      rw [← h, be4_num hsl]
  · have hk : i - 8 < x.length := by omega
    have e : (frameL x).set i v = be x.length 4 ++ (be s 4 ++ x.set (i - 8) v) := by
      rw [e0, List.set_append_right _ _ (by rw [be_length]; omega), be_length, List.set_append_right _ _ (by rw [be_length]; omega), be_length, show i - 4 - 4 = i - 8 from by omega]
    have hg : (frameL x)[i] = (be x.length 4 ++ x)[i - 4]'(by simp [be_length]; omega) := by
      simp only [e0]
      rw [List.getElem_append_right (by rw [be_length]; omega), List.getElem_append_right (by simp only [be_length]; omega), List.getElem_append_right (by rw [be_length]; omega)]
      simp only [be_length]
    rw [hg] at hv
    have hd := set_differs (be x.length 4 ++ x) (i - 4) (by simp [be_length]; omega) v hv
    rw [List.set_append_right _ _ (by rw [be_length]; omega), be_length, show i - 4 - 4 = i - 8 from by omega, ← hs] at hd
    rw [e, first_of _ _ _ (be_length _ _) (be_length _ _), be4_num (by omega), if_neg (by rw [List.length_set]; omega), List.take_of_length_le (by rw [List.length_set]; omega), be4_num hsl, if_neg hd]
    decide
end Go.Proofs.Ytmbnlmihpmicjaa
