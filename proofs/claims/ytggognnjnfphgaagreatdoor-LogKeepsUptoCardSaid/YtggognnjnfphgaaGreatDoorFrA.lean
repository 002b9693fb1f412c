/- FrA: texts FrmM, FrmA, FrmB, FrmC of our own, joined. No statement of the seat is proved here. -/
import Derived.Test.YtggognnjnfphgaaGreatDoorOcJ
import Derived.Test.YtggognnjnfphgaaGreatDoorCrA
import Derived.Test.YtggognnjnfphgaaGreatDoorOcD
import Derived.WalkMore
namespace Go.Proofs.YtggognnjnfphgaaGreatDoor

/-- the frame of the bytes l -/
def frameL (l : List UInt8) : List UInt8 := be l.length 4 ++ (be (sumOf (be l.length 4 ++ l)) 4 ++ l)
theorem frameL_len (l : List UInt8) : (frameL l).length = 8 + l.length := by simp [frameL, be_length]; omega

/-- the first frame: its bytes, how many bytes it takes, the error -/
def firstL (l : List UInt8) : List UInt8 × Nat × Int :=
  if l.length < 8 then ([], 0, 2)
  else if 16777216 < num (l.take 4) ∨ l.length - 8 < num (l.take 4) then ([], 0, 2)
  else if sumOf (l.take 4 ++ (l.drop 8).take (num (l.take 4))) = num ((l.drop 4).take 4) then ((l.drop 8).take (num (l.take 4)), 8 + num (l.take 4), 0)
  else ([], 0, 7)
theorem firstL_less {l : List UInt8} (h : l.length < 8) : firstL l = ([], 0, 2) := by unfold firstL; rw [if_pos h]
theorem firstL_form {l : List UInt8} (h : ¬ l.length < 8) (h2 : 16777216 < num (l.take 4) ∨ l.length - 8 < num (l.take 4)) : firstL l = ([], 0, 2) := by unfold firstL; rw [if_neg h, if_pos h2]
theorem firstL_ok {l : List UInt8} (h : ¬ l.length < 8) (h2 : ¬ (16777216 < num (l.take 4) ∨ l.length - 8 < num (l.take 4)))
    (h3 : sumOf (l.take 4 ++ (l.drop 8).take (num (l.take 4))) = num ((l.drop 4).take 4)) : firstL l = ((l.drop 8).take (num (l.take 4)), 8 + num (l.take 4), 0) := by
  unfold firstL; rw [if_neg h, if_neg h2, if_pos h3]
theorem firstL_sum {l : List UInt8} (h : ¬ l.length < 8) (h2 : ¬ (16777216 < num (l.take 4) ∨ l.length - 8 < num (l.take 4)))
    (h3 : sumOf (l.take 4 ++ (l.drop 8).take (num (l.take 4))) ≠ num ((l.drop 4).take 4)) : firstL l = ([], 0, 7) := by
  unfold firstL; rw [if_neg h, if_neg h2, if_neg h3]
theorem firstL_code (l : List UInt8) : ((firstL l).2.2 = 0 ∧ 8 ≤ (firstL l).2.1 ∧ (firstL l).2.1 ≤ l.length) ∨ (firstL l = ([], 0, 2) ∨ firstL l = ([], 0, 7)) := by
  by_cases h : l.length < 8
  · exact .inr (.inl (firstL_less h))
  by_cases h2 : 16777216 < num (l.take 4) ∨ l.length - 8 < num (l.take 4)
  · exact .inr (.inl (firstL_form h h2))
  by_cases h3 : sumOf (l.take 4 ++ (l.drop 8).take (num (l.take 4))) = num ((l.drop 4).take 4)
  · rw [firstL_ok h h2 h3]
    exact .inl ⟨rfl, by simp, by simp; omega⟩
  · exact .inr (.inr (firstL_sum h h2 h3))
theorem firstL_len (l : List UInt8) : (firstL l).1.length + 8 ≤ l.length ∨ (firstL l).1 = [] := by
  by_cases h : l.length < 8
  · rw [firstL_less h]; exact .inr rfl
  by_cases h2 : 16777216 < num (l.take 4) ∨ l.length - 8 < num (l.take 4)
  · rw [firstL_form h h2]; exact .inr rfl
  by_cases h3 : sumOf (l.take 4 ++ (l.drop 8).take (num (l.take 4))) = num ((l.drop 4).take 4)
  · rw [firstL_ok h h2 h3]
    refine .inl ?_
    simp
    omega
  · rw [firstL_sum h h2 h3]; exact .inr rfl

/-- the frames of a file; the number is room enough where it is greater than the bytes' -/
def scanF : Nat → List UInt8 → List (List UInt8) × Nat
  | 0, _ => ([], 0)
  | f + 1, l => if (firstL l).2.2 = 0 then ((firstL l).1 :: (scanF f (l.drop (firstL l).2.1)).1, (firstL l).2.1 + (scanF f (l.drop (firstL l).2.1)).2) else ([], 0)
def scanL (l : List UInt8) : List (List UInt8) × Nat := scanF (l.length + 1) l
theorem scanF_room : ∀ (f g : Nat) (l : List UInt8), l.length < f → l.length < g → scanF f l = scanF g l := by
  intro f
  induction f with
  | zero => intro g l h; omega
  | succ f ih =>
    intro g l h hg
    cases g with
    | zero => omega
    | succ g =>
      rw [scanF, scanF]
      by_cases h0 : (firstL l).2.2 = 0
      · rw [if_pos h0, if_pos h0]
        rcases firstL_code l with ⟨_, h1, h2⟩ | h1 | h1
        · rw [ih g (l.drop (firstL l).2.1) (by rw [List.length_drop]; omega) (by rw [List.length_drop]; omega)]
        · rw [h1] at h0; exact absurd h0 (by decide)
        · rw [h1] at h0; exact absurd h0 (by decide)
      · rw [if_neg h0, if_neg h0]
theorem scan_ok {l : List UInt8} (h0 : (firstL l).2.2 = 0) : scanL l = ((firstL l).1 :: (scanL (l.drop (firstL l).2.1)).1, (firstL l).2.1 + (scanL (l.drop (firstL l).2.1)).2) := by
  unfold scanL
  rw [scanF, if_pos h0]
  rcases firstL_code l with ⟨_, h1, h2⟩ | h1 | h1
  · rw [scanF_room l.length ((l.drop (firstL l).2.1).length + 1) (l.drop (firstL l).2.1) (by rw [List.length_drop]; omega) (by omega)]
  · rw [h1] at h0; exact absurd h0 (by decide)
  · rw [h1] at h0; exact absurd h0 (by decide)
theorem scan_no {l : List UInt8} (h0 : (firstL l).2.2 ≠ 0) : scanL l = ([], 0) := by unfold scanL; rw [scanF, if_neg h0]
theorem scan_nil : scanL [] = ([], 0) := scan_no (by rw [firstL_less (by decide)]; decide)

theorem scanF_len : ∀ (f : Nat) (l : List UInt8), 8 * (scanF f l).1.length ≤ (scanF f l).2 ∧ (scanF f l).2 ≤ l.length := by
  intro f
  induction f with
  | zero => intro l; exact ⟨Nat.le_refl _, Nat.zero_le _⟩
  | succ f ih =>
    intro l
    rw [scanF]
    by_cases h0 : (firstL l).2.2 = 0
    · rw [if_pos h0]
      rcases firstL_code l with ⟨_, h1, h2⟩ | h1 | h1
      · have := ih (l.drop (firstL l).2.1)
        rw [List.length_drop] at this
        simp only [List.length_cons]
        omega
      · rw [h1] at h0; exact absurd h0 (by decide)
      · rw [h1] at h0; exact absurd h0 (by decide)
    · rw [if_neg h0]; exact ⟨Nat.le_refl _, Nat.zero_le _⟩
theorem scanL_len (l : List UInt8) : 8 * (scanL l).1.length ≤ l.length ∧ (scanL l).2 ≤ l.length := by
  have := scanF_len (l.length + 1) l
  unfold scanL
  omega

/-- where a loop stands -/
def Scans (l : List UInt8) (acc : List (List UInt8)) (e : Nat) : Prop := e ≤ l.length ∧ 8 * acc.length ≤ e ∧ scanL l = (acc ++ (scanL (l.drop e)).1, e + (scanL (l.drop e)).2)
theorem Scans.start (l : List UInt8) : Scans l [] 0 := ⟨Nat.zero_le _, by simp, by simp⟩
theorem Scans.step {l : List UInt8} {acc : List (List UInt8)} {e : Nat} (h : Scans l acc e) (h0 : (firstL (l.drop e)).2.2 = 0) : Scans l (acc ++ [(firstL (l.drop e)).1]) (e + (firstL (l.drop e)).2.1) := by
  obtain ⟨h1, h2, h3⟩ := h
  rcases firstL_code (l.drop e) with ⟨_, h4, h5⟩ | h4 | h4
  · rw [List.length_drop] at h5
    refine ⟨by omega, by simp; omega, ?_⟩
    rw [h3, scan_ok h0, List.drop_drop]
    simp [Nat.add_assoc]
  · rw [h4] at h0; exact absurd h0 (by decide)
  · rw [h4] at h0; exact absurd h0 (by decide)
theorem Scans.ends {l : List UInt8} {acc : List (List UInt8)} {e : Nat} (h : Scans l acc e) (h0 : (firstL (l.drop e)).2.2 ≠ 0) : scanL l = (acc, e) := by rw [h.2.2, scan_no h0]; simp
theorem Scans.out {l : List UInt8} {acc : List (List UInt8)} {e : Nat} (h : Scans l acc e) (h0 : l.length ≤ e) : scanL l = (acc, e) :=
  h.ends (by rw [List.drop_of_length_le h0, firstL_less (by decide)]; decide)

/-- a number of four bytes, a sum of four bytes, what follows -/
theorem first_of (a s y : List UInt8) (ha : a.length = 4) (hs : s.length = 4) :
    firstL (a ++ (s ++ y)) = if 16777216 < num a ∨ y.length < num a then ([], 0, 2) else if sumOf (a ++ y.take (num a)) = num s then (y.take (num a), 8 + num a, 0) else ([], 0, 7) := by
  have e1 : (a ++ (s ++ y)).take 4 = a := List.take_left' ha
  have e2 : (a ++ (s ++ y)).drop 4 = s ++ y := List.drop_left' ha
  have e3 : (a ++ (s ++ y)).drop 8 = y := by rw [show 8 = 4 + 4 from rfl, ← List.drop_drop, e2, List.drop_left' hs]
  have e4 : (a ++ (s ++ y)).length = 8 + y.length := by simp; omega
  unfold firstL
  rw [e1, e2, e3, e4, List.take_left' hs, if_neg (by omega), show 8 + y.length - 8 = y.length from by omega]
theorem be4_num {v : Nat} (h : v < 4294967296) : num (be v 4) = v := num_be_eq v 4 h
theorem first_frame (x r : List UInt8) (hx : x.length ≤ 16777216) : firstL (frameL x ++ r) = (x, 8 + x.length, 0) := by
  unfold frameL
  rw [List.append_assoc, List.append_assoc, first_of _ _ _ (be_length _ _) (be_length _ _), be4_num (by omega), be4_num (sumOf_lt _), if_neg (by simp; omega), List.take_left' rfl, if_pos rfl]

/-- frames, one behind the other -/
def rowF (xs : List (List UInt8)) : List UInt8 := xs.flatMap frameL
theorem rowF_cons (x : List UInt8) (xs : List (List UInt8)) : rowF (x :: xs) = frameL x ++ rowF xs := by simp [rowF]
theorem rowF_take (xs : List (List UInt8)) (k : Nat) (h : k < xs.length) : rowF (xs.take (k + 1)) = rowF (xs.take k) ++ frameL xs[k] := by
  unfold rowF
  rw [List.take_succ_eq_append_getElem h, List.flatMap_append, List.flatMap_cons, List.flatMap_nil, List.append_nil]
theorem rowF_len (b : Nat) : ∀ xs : List (List UInt8), (∀ x ∈ xs, x.length ≤ b) → (rowF xs).length ≤ xs.length * (8 + b) := by
  intro xs
  induction xs with
  | nil => intro _; simp [rowF]
  | cons x xs ih =>
    intro h
    have h1 := ih fun y hy => h y (by simp [hy])
    have h2 := h x (by simp)
    rw [rowF_cons, List.length_append, frameL_len, List.length_cons, Nat.add_mul]
    omega
theorem scan_row (r : List UInt8) : ∀ xs : List (List UInt8), (∀ x ∈ xs, x.length ≤ 16777216) → scanL (rowF xs ++ r) = (xs ++ (scanL r).1, (rowF xs).length + (scanL r).2) := by
  intro xs
  induction xs with
  | nil => intro _; simp [rowF]
  | cons x xs ih =>
    intro h
    have h1 := ih fun y hy => h y (by simp [hy])
    have hf := first_frame x (rowF xs ++ r) (h x (by simp))
    rw [rowF_cons, List.append_assoc, scan_ok (by rw [hf]), hf]
    simp only
    rw [List.drop_left' (by rw [frameL_len]), h1, List.length_append, frameL_len]
    simp [Nat.add_assoc]
theorem scan_frames (xs : List (List UInt8)) (h : ∀ x ∈ xs, x.length ≤ 16777216) : scanL (rowF xs) = (xs, (rowF xs).length) := by
  have := scan_row [] xs h
  rwa [List.append_nil, scan_nil, List.append_nil, Nat.add_zero] at this
/-- behind frames stands no frame -/
theorem scan_then {r : List UInt8} (xs : List (List UInt8)) (h : ∀ x ∈ xs, x.length ≤ 16777216) (hr : (firstL r).2.2 ≠ 0) : scanL (rowF xs ++ r) = (xs, (rowF xs).length) := by
  rw [scan_row r xs h, scan_no hr, List.append_nil, Nat.add_zero]

/-- a part of a frame is none -/
theorem first_short (x : List UInt8) (hx : x.length ≤ 16777216) (j : Nat) (hj : j < 8 + x.length) : (firstL ((frameL x).take j)).2.2 ≠ 0 := by
  have hl := frameL_len x
  by_cases h8 : j < 8
  · rw [firstL_less (by rw [List.length_take]; omega)]; decide
  · have e : (frameL x).take j = be x.length 4 ++ (be (sumOf (be x.length 4 ++ x)) 4 ++ x.take (j - 8)) := by
      unfold frameL
      rw [List.take_append, List.take_append, be_length, be_length, List.take_of_length_le (by rw [be_length]; omega), List.take_of_length_le (by rw [be_length]; omega), show j - 4 - 4 = j - 8 from by omega]
    rw [e, first_of _ _ _ (be_length _ _) (be_length _ _), be4_num (by omega), if_pos (by right; rw [List.length_take]; omega)]
    decide

theorem num_inj {a b : List UInt8} (h : a.length = b.length) (hn : num a = num b) : a = b := by
  have h1 := be_num a
  rw [hn, h, be_num b] at h1
  exact h1.symm
theorem set_ne {l : List UInt8} {i : Nat} {v : UInt8} (hi : i < l.length) (hv : v ≠ l[i]) : l.set i v ≠ l := by
  intro e
  apply hv
  have h1 : (l.set i v)[i]'(by simpa using hi) = v := by simp
  have h2 : (l.set i v)[i]'(by simpa using hi) = l[i] := by congr 1
  rw [← h1, h2]
/-- another byte, another sum -/
theorem set_differs (l : List UInt8) (j : Nat) (hj : j < l.length) (v : UInt8) (hv : v ≠ l[j]) : sumOf (l.set j v) ≠ sumOf l := by
  have hd : l[j] ^^^ v ≠ 0 := by
    intro h
    apply hv
    have h2 : l[j] ^^^ (l[j] ^^^ v) = l[j] ^^^ 0 := by rw [h]
    rw [← UInt8.xor_assoc, UInt8.xor_self, UInt8.zero_xor, UInt8.xor_zero] at h2
    exact h2
  have := flip_differs l j hj (l[j] ^^^ v) hd
  rwa [← UInt8.xor_assoc, UInt8.xor_self, UInt8.zero_xor] at this
/-- a frame with another byte behind its number is none -/
theorem first_flip (x : List UInt8) (hx : x.length ≤ 16777216) (i : Nat) (hi : i < (frameL x).length) (h4 : 4 ≤ i) (v : UInt8) (hv : v ≠ (frameL x)[i]) : (firstL ((frameL x).set i v)).2.2 ≠ 0 := by
  have hl := frameL_len x
  obtain ⟨s, hs⟩ : ∃ s, s = sumOf (be x.length 4 ++ x) := ⟨_, rfl⟩
  have hsl : s < 4294967296 := by rw [hs]; exact sumOf_lt _
  have e0 : frameL x = be x.length 4 ++ (be s 4 ++ x) := by rw [hs]; rfl
  by_cases h8 : i < 8
  · have hk : i - 4 < (be s 4).length := by rw [be_length]; omega
    have e : (frameL x).set i v = be x.length 4 ++ ((be s 4).set (i - 4) v ++ x) := by
      rw [e0, List.set_append_right _ _ (by rw [be_length]; omega), be_length, List.set_append_left _ _ hk]
    have hg : (frameL x)[i] = (be s 4)[i - 4] := by
      simp only [e0]
      rw [List.getElem_append_right (by rw [be_length]; omega), List.getElem_append_left (by simp only [be_length]; omega)]
      simp only [be_length]
    rw [hg] at hv
    have hne := set_ne hk hv
    rw [e, first_of _ _ _ (be_length _ _) (by rw [List.length_set, be_length]), be4_num (by omega), if_neg (by omega), List.take_of_length_le (Nat.le_refl _), ← hs, if_neg]
    · decide
    · intro h
      refine hne (num_inj (by rw [List.length_set]) ?_)
      rw [← h, be4_num hsl]
  · have hk : i - 8 < x.length := by omega
    have e : (frameL x).set i v = be x.length 4 ++ (be s 4 ++ x.set (i - 8) v) := by
      rw [e0, List.set_append_right _ _ (by rw [be_length]; omega), be_length, List.set_append_right _ _ (by rw [be_length]; omega), be_length, show i - 4 - 4 = i - 8 from by omega]
    have hg : (frameL x)[i] = (be x.length 4 ++ x)[i - 4]'(by simp [be_length]; omega) := by
      simp only [e0]
      rw [List.getElem_append_right (by rw [be_length]; omega), List.getElem_append_right (by simp only [be_length]; omega), List.getElem_append_right (by rw [be_length]; omega)]
      simp only [be_length]
    rw [hg] at hv
    have hd := set_differs (be x.length 4 ++ x) (i - 4) (by simp [be_length]; omega) v hv
    rw [List.set_append_right _ _ (by rw [be_length]; omega), be_length, show i - 4 - 4 = i - 8 from by omega, ← hs] at hd
    rw [e, first_of _ _ _ (be_length _ _) (be_length _ _), be4_num (by omega), if_neg (by rw [List.length_set]; omega), List.take_of_length_le (by rw [List.length_set]; omega), be4_num hsl, if_neg hd]
    decide
end Go.Proofs.YtggognnjnfphgaaGreatDoor
namespace Go.Proofs.YtggognnjnfphgaaGreatDoor
open Go.RowKit

theorem frSees_whole {w : World} {g : Nat} {t : TypeId} {cs : Array Value} (h : Whole w g t cs) {n : Nat} (hn : cs.size = n) : Sees w w.heap.size (some ⟨g, 0, none⟩) n cs.toList := by
  refine ⟨by simpa using hn, fun _ => ⟨g, 0, rfl, h.lt, fun j u hu => ?_⟩⟩
  rw [show (0 : Nat) + j = j from Nat.zero_add j, h.cell]
  simpa using hu

theorem join4 (n : Nat) (h : n < 4294967296) : joinR [(n : Int)] [4] = (mk (be n 4), 0) := by
  have hf : fitB n 4 = true := by simp [fitB]; omega
  have hw : ([4] : List Int).all wB = true := rfl
  refine joinR_some hw rfl ?_
  rw [joinF, Int.toNat_natCast, show ((4 : Int)).toNat = 4 from rfl, if_pos hf]
  simp [joinF]

set_option maxHeartbeats 400000 in
theorem encode_any (n : Nat) (w : World) (h : n < 4294967296) :
    Calls Tryz.prog 66 #[.int .u32 n] w fun e w' => e = .returned (.string (mk (be n 4))) ∧ Below w.heap.size w w' := by
  have hwr : IntKind.u64.wrap (n : Int) = n := wraps_u64 _ (by omega) (by omega)
  obtain ⟨N, hN⟩ : ∃ N, N = mk (be n 4) := ⟨_, rfl⟩
  have HJ := Lib.hid (join4 n h)
  rw [← hN] at HJ ⊢
  replace hN := Lib.hid hN
  have hu : U64s [(n : Int)] := by intro z hz; rw [List.mem_singleton] at hz; subst hz; exact ⟨by omega, by omega⟩
  have HU := Lib.hid hu
  clear hu
  go_enter Tryz.func66, Tryz.ntmps66
  go_wp2_with fail
  have h1 := frSees_whole ((Whole.new w 22 #[.int .u64 n]).alloc (.cells #[.int .i64 4] 3)) (n := 1) rfl
  have h2 := frSees_whole (Whole.new (w.alloc (.cells #[.int .u64 n] 22)) 3 #[.int .i64 4]) (n := 1) rfl
  simp only [World.size_alloc] at h1 h2
  refine (Join_any _ _ 1 1 1 1 _ _ [(n : Int)] [4] _ h1 h2 (by simp) (by simp) (by decide) (by decide) HU.out).mono ?_
  rintro e w1 ⟨he, hB1⟩
  rw [HJ.out] at he
  subst he
  have hB := (((Below.refl w.heap.size w).alloc (Nat.le_refl _) (.cells #[.int .u64 n] 22)).alloc (by simp) (.cells #[.int .i64 4] 3))
  have hB2 := hB.trans (hB1.mono hB.size)
  clear h1 h2 hB hB1
  go_wp2_with fail
  go_ret
  exact ⟨rfl, hB2⟩

theorem flat2 (a b : ByteArray) : flat [a, b] = a.data.toList ++ b.data.toList := by simp [flat]
theorem getD2 (a b : ByteArray) (ha : a.size ≤ 1073741824) (hb : b.size ≤ 1073741824) (k : Nat) : (([a, b] : List ByteArray).getD k ByteArray.empty).size ≤ 1073741824 := by
  rcases k with _ | _ | k
  · exact ha
  · exact hb
  · exact Nat.zero_le _

set_option maxHeartbeats 400000 in
theorem checksum_any (a b : ByteArray) (w : World) (ha : a.size ≤ 1073741824) (hb : b.size ≤ 1073741824) :
    Calls Tryz.prog 67 #[.string a, .string b] w fun e w' => e = .returned (.int .u32 (sumOf (a.data.toList ++ b.data.toList) : Nat)) ∧ Below w.heap.size w w' := by
  have HZ := Lib.hid (getD2 a b ha hb)
  have HF := Lib.hid (flat2 a b)
  go_enter Tryz.func67, Tryz.ntmps67
  go_wp2_with fail
  have h1 := frSees_whole (Whole.new w 9 #[.string a, .string b]) (n := 2) rfl
  refine (Parts_any _ 2 2 _ [a, b] _ h1 (by decide) (Nat.le_refl _) HZ.out).mono ?_
  rw [HF.out]
  rintro e w1 ⟨rfl, hB1⟩
  have hB := (Below.refl w.heap.size w).alloc (Nat.le_refl _) (.cells #[.string a, .string b] 9)
  have hB2 := hB.trans (hB1.mono hB.size)
  clear h1 hB hB1
  go_wp2_with fail
  go_ret
  exact ⟨rfl, hB2⟩

theorem Size_any (s : ByteArray) (w : World) (hs : s.size ≤ 1073741824) :
    Calls Tryz.prog 72 #[.string s] w fun e w' => e = .returned (.int .i64 (8 + (s.size : Int))) ∧ w = w' := by
  go_enter Tryz.func72, Tryz.ntmps72
  go_wp2_with fail
  go_ret
  exact ⟨rfl, rfl⟩

set_option maxHeartbeats 400000 in
theorem Frame_any (x : List UInt8) (w : World) (hx : x.length ≤ 16777216) :
    Calls Tryz.prog 43 #[.string (mk x)] w fun e w' => e = .returned (.tuple #[.string (mk (frameL x)), .int .i64 0]) ∧ Below w.heap.size w w' := by
  obtain ⟨S, hS⟩ : ∃ S, S = mk x := ⟨_, rfl⟩
  have hsz : S.size = x.length := by rw [hS, mk_size]
  have h1 : S.size ≤ 16777216 := by omega
  have g1 : ¬ (16777216 : Int) < (S.size : Int) := by omega
  have hwr : IntKind.u32.wrap (S.size : Int) = S.size := wraps_u32 _ (by omega) (by omega)
  have hl : S.data.toList = x := by rw [hS]; simp [mk]
  rw [← hS]
  replace hS := Lib.hid hS
  replace hsz := Lib.hid hsz
  replace hl := Lib.hid hl
  go_enter Tryz.func43, Tryz.ntmps43
  go_wp2_with fail
  refine (encode_any S.size _ (by omega)).mono ?_
  rintro e w1 ⟨rfl, hB1⟩
  have hN : (mk (be S.size 4)).size ≤ 8 := by rw [mk_size, be_length]; decide
  obtain ⟨N, hNe⟩ : ∃ N, N = mk (be S.size 4) := ⟨_, rfl⟩
  rw [← hNe] at hN ⊢
  have hNl : N.data.toList = be S.size 4 := by rw [hNe]; simp [mk]
  replace hNe := Lib.hid hNe
  replace hNl := Lib.hid hNl
  go_wp2_with fail
  refine (checksum_any N S _ (by omega) (by omega)).mono ?_
  rintro e w2 ⟨rfl, hB2⟩
  have hq := sumOf_lt (N.data.toList ++ S.data.toList)
  obtain ⟨q, hqe⟩ : ∃ q, q = sumOf (N.data.toList ++ S.data.toList) := ⟨_, rfl⟩
  rw [← hqe] at hq ⊢
  replace hqe := Lib.hid hqe
  have hBB := hB1.trans (hB2.mono hB1.size)
  go_wp2_with fail
  refine (encode_any q _ hq).mono ?_
  rintro e w3 ⟨rfl, hB3⟩
  have hBB3 := hBB.trans (hB3.mono hBB.size)
  have hQz : (mk (be q 4)).size ≤ 8 := by rw [mk_size, be_length]; decide
  obtain ⟨Q, hQ⟩ : ∃ Q, Q = mk (be q 4) := ⟨_, rfl⟩
  rw [← hQ] at hQz ⊢
  replace hQ := Lib.hid hQ
  go_wp2_with fail
  go_ret2
  refine ⟨?_, hBB3⟩
  have : N ++ Q ++ S = mk (frameL x) := by
    rw [hNe.out, hQ.out, hS.out, hqe.out, hNl.out, hl.out, hsz.out, mk_append, mk_append, List.append_assoc]
    rfl
  rw [← this]
  rfl

theorem split44_less (l : List UInt8) (h : l.length < 8) : splitR (mk l) [4, 4] = ([], empty, 2) := by
  refine splitR_none rfl ?_
  rw [splitF]
  by_cases h4 : l.length < 4
  · rw [if_pos (by rw [mk_size]; omega)]
  · rw [if_neg (by rw [mk_size]; omega), splitF, if_pos]
    · rfl
    · rw [show ((4 : Int)).toNat = 4 from rfl, mk_extract, mk_size, mk_size, List.length_drop, List.length_take]; omega
theorem split44 (l : List UInt8) (h : ¬ l.length < 8) : splitR (mk l) [4, 4] = ([(num (l.take 4) : Int), (num ((l.drop 4).take 4) : Int)], mk (l.drop 8), 0) := by
  refine splitR_some rfl ?_
  have e4 : ((4 : Int)).toNat = 4 := rfl
  have e5 : (mk l).extract 4 (mk l).size = mk (l.drop 4) := by rw [mk_extract, mk_size, List.take_length]
  have e6 : (mk (l.drop 4)).extract 4 (mk (l.drop 4)).size = mk (l.drop 8) := by rw [mk_extract, mk_size, List.take_length, List.drop_drop]
  rw [splitF, if_neg (by rw [mk_size]; omega), splitF, e4, e5, if_neg (by rw [mk_size, List.length_drop]; omega), splitF, e6, mk_extract, mk_extract, List.drop_zero, List.drop_zero, mk_num, mk_num]
  rfl

def FirstSays (l : List UInt8) (w : World) (e : Ending) (w' : World) : Prop :=
  e = .returned (.tuple #[.string (mk (firstL l).1), .int .i64 ((firstL l).2.1 : Nat), .int .i64 (firstL l).2.2]) ∧ Below w.heap.size w w'

theorem two_w (w : World) : Sees (w.alloc (.cells #[.int .i64 4, .int .i64 4] 3)) (w.alloc (.cells #[.int .i64 4, .int .i64 4] 3)).heap.size (some ⟨w.heap.size, 0, none⟩) 2 (ints .i64 [4, 4]) :=
  frSees_whole (Whole.new w 3 #[.int .i64 4, .int .i64 4]) (n := 2) rfl

set_option maxHeartbeats 400000 in
theorem First_less (l : List UInt8) (w : World) (h8 : l.length < 8) :
    Calls Tryz.prog 83 #[.string (mk l)] w (FirstSays l w) := by
  have HS := Lib.hid (split44_less l h8)
  have HF := Lib.hid (firstL_less h8)
  have hz : (mk l).size ≤ 1073741824 := by rw [mk_size]; omega
  obtain ⟨S, hS⟩ : ∃ S, S = mk l := ⟨_, rfl⟩
  rw [← hS] at hz HS ⊢
  replace hS := Lib.hid hS
  clear h8
  go_enter Tryz.func83, Tryz.ntmps83
  go_wp2_with fail
  refine (Split_any S _ 2 2 _ [4, 4] _ (two_w w) (by decide) (Nat.le_refl _) hz).mono ?_
  rintro e w1 ⟨A, c, he, hs1, hB1⟩
  rw [HS.out] at he hs1
  subst he
  have hB := (Below.refl w.heap.size w).alloc (Nat.le_refl _) (.cells #[.int .i64 4, .int .i64 4] 3)
  have hB2 := hB.trans (hB1.mono hB.size)
  clear hs1 hB hB1
  go_wp2_with fail
  go_ret3
  exact ⟨by rw [HF.out]; rfl, hB2⟩

theorem two_at {w : World} {B : Nat} {A : Option Addr} {a b : Int} (h : Sees w B A 2 (ints .u64 [a, b])) :
    ∃ g off, A = some ⟨g, off, none⟩ ∧ g < B ∧ w.cell? ⟨g, off, none⟩ = some (.int .u64 a) ∧ w.cell? ⟨g, off + 1, none⟩ = some (.int .u64 b) := by
  obtain ⟨g, off, e, hb, hc⟩ := h.addr (by decide)
  exact ⟨g, off, e, hb, by simpa using hc 0 (.int .u64 a) rfl, hc 1 (.int .u64 b) rfl⟩

set_option maxHeartbeats 1000000 in
theorem First_form (l : List UInt8) (w : World) (h8 : ¬ l.length < 8) (hl : l.length ≤ 1073741824) (h2 : 16777216 < num (l.take 4) ∨ l.length - 8 < num (l.take 4)) :
    Calls Tryz.prog 83 #[.string (mk l)] w (FirstSays l w) := by
  have hHS := split44 l h8
  have HF := Lib.hid (firstL_form h8 h2)
  have hz : (mk l).size ≤ 1073741824 := by rw [mk_size]; omega
  have hR : (mk (l.drop 8)).size = l.length - 8 := by rw [mk_size, List.length_drop]
  obtain ⟨S, hS⟩ : ∃ S, S = mk l := ⟨_, rfl⟩
  obtain ⟨R, hRe⟩ : ∃ R, R = mk (l.drop 8) := ⟨_, rfl⟩
  obtain ⟨n, hn⟩ : ∃ n, n = num (l.take 4) := ⟨_, rfl⟩
  obtain ⟨q, hq⟩ : ∃ q, q = num ((l.drop 4).take 4) := ⟨_, rfl⟩
  have hnl : n < 4294967296 := by
    rw [hn]
    have := num_lt (l.take 4)
    rwa [List.length_take, Nat.min_eq_left (by omega)] at this
  have hR2 : R.size ≤ 1073741824 := by rw [hRe, hR]; omega
  have h3 : 16777216 < n ∨ R.size < n := by rw [hRe, hR, hn]; exact h2
  rw [← hRe, ← hn, ← hq, ← hS] at hHS
  rw [← hS] at hz ⊢
  have HS := Lib.hid hHS
  replace hS := Lib.hid hS
  clear hHS h8 h2 hR hn hq hRe
  have hwR : IntKind.u64.wrap (R.size : Int) = R.size := wraps_u64 _ (by omega) (by omega)
  go_enter Tryz.func83, Tryz.ntmps83
  go_wp2_with fail
  refine (Split_any S _ 2 2 _ [4, 4] _ (two_w w) (by decide) (Nat.le_refl _) hz).mono ?_
  rintro e w1 ⟨A, c, he, hs1, hB1⟩
  rw [HS.out] at he hs1
  subst he
  have hB := (Below.refl w.heap.size w).alloc (Nat.le_refl _) (.cells #[.int .i64 4, .int .i64 4] 3)
  have hB2 := hB.trans (hB1.mono hB.size)
  obtain ⟨g, off, rfl, hg, c0, c1⟩ := two_at hs1
  clear hs1 hB hB1
  by_cases h4 : 16777216 < n
  · have g4 : (16777216 : Int) < (n : Int) := by omega
    clear h3
    go_wp2_with fail
    go_quiet (fail)
    go_wp2_with fail
    go_ret3
    exact ⟨by rw [HF.out]; rfl, below_drewN hB2 _⟩
  · have g4 : ¬ (16777216 : Int) < (n : Int) := by omega
    have g5 : (R.size : Int) < (n : Int) := by omega
    clear h3
    go_wp2_with fail
    go_quiet (fail)
    go_wp2_with fail
    go_ret3
    exact ⟨by rw [HF.out]; rfl, below_drewN hB2 _⟩
end Go.Proofs.YtggognnjnfphgaaGreatDoor
namespace Go.Proofs.YtggognnjnfphgaaGreatDoor
open Go.RowKit

set_option maxHeartbeats 1000000 in
theorem First_long (l : List UInt8) (w : World) (h8 : ¬ l.length < 8) (hl : l.length ≤ 1073741824) (h2 : ¬ (16777216 < num (l.take 4) ∨ l.length - 8 < num (l.take 4))) :
    Calls Tryz.prog 83 #[.string (mk l)] w (FirstSays l w) := by
  have hHS := split44 l h8
  have hOK := fun h3 => firstL_ok h8 h2 h3
  have hNO := fun h3 => firstL_sum h8 h2 h3
  have hz : (mk l).size ≤ 1073741824 := by rw [mk_size]; omega
  have hR : (mk (l.drop 8)).size = l.length - 8 := by rw [mk_size, List.length_drop]
  have hz4 : 4 ≤ (mk l).size := by rw [mk_size]; omega
  have hA : ((mk l).extract 0 4).data.toList = l.take 4 := by rw [mk_extract]; simp [mk]
  have hT : (mk (l.drop 8)).extract 0 (num (l.take 4)) = mk ((l.drop 8).take (num (l.take 4))) := by rw [mk_extract, List.drop_zero]
  obtain ⟨S, hS⟩ : ∃ S, S = mk l := ⟨_, rfl⟩
  obtain ⟨R, hRe⟩ : ∃ R, R = mk (l.drop 8) := ⟨_, rfl⟩
  obtain ⟨n, hn⟩ : ∃ n, n = num (l.take 4) := ⟨_, rfl⟩
  obtain ⟨q, hq⟩ : ∃ q, q = num ((l.drop 4).take 4) := ⟨_, rfl⟩
  have hn1 : n ≤ 16777216 := by rw [hn]; omega
  have hn2 : n ≤ R.size := by rw [hRe, hR, hn]; omega
  have hR2 : R.size ≤ 1073741824 := by rw [hRe, hR]; omega
  rw [← hRe, ← hn, ← hq, ← hS] at hHS
  rw [← hS] at hz hz4 hA ⊢
  rw [← hRe, ← hn] at hT
  rw [← hn, ← hq] at hOK hNO
  have HS := Lib.hid hHS
  replace hS := Lib.hid hS
  have HA := Lib.hid hA
  have HT := Lib.hid hT
  have HOK := Lib.hid hOK
  have HNO := Lib.hid hNO
  clear hHS h8 h2 hR hn hq hRe hOK hNO hA hT
  have g4 : ¬ (16777216 : Int) < (n : Int) := by omega
  have g5 : ¬ (R.size : Int) < (n : Int) := by omega
  have hwR : IntKind.u64.wrap (R.size : Int) = R.size := wraps_u64 _ (by omega) (by omega)
  go_enter Tryz.func83, Tryz.ntmps83
  go_wp2_with fail
  refine (Split_any S _ 2 2 _ [4, 4] _ (two_w w) (by decide) (Nat.le_refl _) hz).mono ?_
  rintro e w1 ⟨A, c, he, hs1, hB1⟩
  rw [HS.out] at he hs1
  subst he
  have hB := (Below.refl w.heap.size w).alloc (Nat.le_refl _) (.cells #[.int .i64 4, .int .i64 4] 3)
  have hB2 := hB.trans (hB1.mono hB.size)
  obtain ⟨g, off, rfl, hg, c0, c1⟩ := two_at hs1
  clear hs1 hB hB1
  go_wp2_with fail
  go_quiet (fail)
  go_wp2_with fail
  refine (checksum_any _ _ _ (by simp; omega) (by simp; omega)).mono ?_
  obtain ⟨u, hu⟩ : ∃ u, u = sumOf ((S.extract 0 4).data.toList ++ (R.extract 0 n).data.toList) := ⟨_, rfl⟩
  have hul : u < 4294967296 := by rw [hu]; exact sumOf_lt _
  rw [← hu]
  have hu2 : u = sumOf (l.take 4 ++ (l.drop 8).take n) := by rw [hu, HA.out, HT.out]; simp [mk]
  replace hu2 := Lib.hid hu2
  clear hu
  rintro e w2 ⟨rfl, hB2'⟩
  have hB3 := (below_drewN hB2 _).trans (hB2'.mono (below_drewN hB2 _).size)
  have hwu : IntKind.u64.wrap (u : Int) = u := wraps_u64 _ (by omega) (by omega)
  obtain ⟨T, hTe⟩ : ∃ T, T = R.extract 0 n := ⟨_, rfl⟩
  have hTz : T.size = n := by rw [hTe]; simp; omega
  have hTz2 : T.size ≤ 1073741824 := by omega
  have HTz := Lib.hid hTz
  have hTm : T = mk ((l.drop 8).take n) := by rw [hTe, HT.out]
  rw [← hTe]
  have HTm := Lib.hid hTm
  clear hTz hTm hTe
  by_cases hqu : u = q
  · have HF := HOK.out (by rw [← hu2.out]; exact hqu)
    have HF2 := Lib.hid HF
    subst hqu
    have gq : ((u : Int) != (u : Int)) = false := by simp
    clear HF
    go_wp2_with fail
    refine (Size_any T _ hTz2).mono ?_
    rintro e w' ⟨rfl, rfl⟩
    go_wp2_with fail
    go_ret3
    refine ⟨?_, hB3⟩
    rw [HF2.out, HTm.out.symm]
    show Ending.returned _ = Ending.returned (.tuple #[.string T, .int .i64 ((8 + n : Nat) : Int), .int .i64 0])
    rw [← HTz.out]
    rfl
  · have HF := HNO.out (by rw [← hu2.out]; exact hqu)
    have HF2 := Lib.hid HF
    have gq : ((u : Int) != (q : Int)) = true := by rw [bne_iff_ne]; omega
    clear HF hqu
    go_wp2_with fail
    go_ret3
    exact ⟨by rw [HF2.out]; rfl, hB3⟩

theorem First_any (l : List UInt8) (w : World) (hl : l.length ≤ 1073741824) : Calls Tryz.prog 83 #[.string (mk l)] w (FirstSays l w) := by
  by_cases h8 : l.length < 8
  · exact First_less l w h8
  by_cases h2 : 16777216 < num (l.take 4) ∨ l.length - 8 < num (l.take 4)
  · exact First_form l w h8 hl h2
  · exact First_long l w h8 hl h2
end Go.Proofs.YtggognnjnfphgaaGreatDoor
namespace Go.Proofs.YtggognnjnfphgaaGreatDoor
open Go.RowKit

def ScanLeaves (l : List UInt8) (w : World) (e : Ending) (w' : World) : Prop :=
  ∃ A c, e = .returned (.tuple #[.slice A (scanL l).1.length c, .int .i64 ((scanL l).2 : Nat)]) ∧ Sees w' w'.heap.size A (scanL l).1.length (texts ((scanL l).1.map mk)) ∧ Below w.heap.size w w' ∧ TyR w' A 9
theorem First_at (T : ByteArray) (l : List UInt8) (w : World) (hT : T = mk l) (hl : l.length ≤ 1073741824) : Calls Tryz.prog 83 #[.string T] w (FirstSays l w) := by
  subst hT; exact First_any l w hl

def ScanAt (l : List UInt8) (w : World) (e : Nat) (v : Value) (wr : World) : Prop :=
  ∃ acc, Scans l acc e ∧ wr.ownsRow w.heap.size 9 1 v acc.length (texts (acc.map mk)) ∧ Below w.heap.size w wr

set_option maxHeartbeats 1000000 in
theorem Scan_any (S : ByteArray) (l : List UInt8) (w : World) (hS : S = mk l) (hl : l.length ≤ 1073741824) :
    Calls Tryz.prog 54 #[.string S] w (ScanLeaves l w) := by
  have hz : S.size = l.length := by rw [hS, mk_size]
  have HZ := Lib.hid hz
  have HS := Lib.hid hS
  have hz2 : S.size ≤ 1073741824 := by omega
  clear hz hS
  go_enter Tryz.func54, Tryz.ntmps54
  go_wp2_with fail
  go_step3
  go_wp2_with fail
  go_step3
  go_wp2_with fail
  go_loopw [4, 5] (fun v i wr => ∃ e : Nat, e ≤ S.size ∧ i = .int .i64 e ∧ ScanAt l w e v wr) (fun _ i _ => S.size - (intOf i).toNat)
  case atStart => exact ⟨0, Nat.zero_le _, rfl, [], Scans.start l, World.ownsRow_nil _ _ _ _, Below.refl _ _⟩
  case round =>
    obtain ⟨e, he, rfl, acc, hsc, hown, GB⟩ := hrel
    have HX : Hid (S.extract e S.size = mk (l.drop e)) := Lib.hid (by rw [HS.out, mk_extract, mk_size, List.take_length])
    have HSC := Lib.hid hsc
    rcases firstL_code (l.drop e) with ⟨h0, h1, h2⟩ | h0
    · have HD := Lib.hid (hsc.step h0)
      obtain ⟨x, k, hxk⟩ : ∃ x k, firstL (l.drop e) = (x, k, 0) := ⟨(firstL (l.drop e)).1, (firstL (l.drop e)).2.1, by rw [← h0]⟩
      rw [hxk] at HD h1 h2
      have h2' : k ≤ l.length - e := by simpa using h2
      have hk : e + k ≤ S.size := by rw [HZ.out]; have := HZ.out; omega
      have hk8 : 8 ≤ k := h1
      have HXK := Lib.hid hxk
      obtain ⟨i0, hi0, hz0, hz1, hz2'⟩ := info_parts text_info
      have hal : 8 * acc.length ≤ e := hsc.2.1
      have H63 : Hid (acc.length + 1 ≤ maxLen) := Lib.hid (by unfold maxLen; omega)
      have H47 : Hid ((acc.length + 1) * 16 ≤ 140737488355328) := Lib.hid (by omega)
      have HO := Lib.hid hown
      obtain ⟨P, hP⟩ : ∃ P, P = mk x := ⟨_, rfl⟩
      have HP := Lib.hid hP
      clear hsc hown hxk h0 h1 h2 h2' hP
      go_wp2_with (first
        | (go_at_call 83; refine (First_at (S.extract e S.size) (l.drop e) _ HX.out (by rw [List.length_drop]; omega)).mono ?_; unfold FirstSays; rw [HXK.out, ← HP.out]; rintro e w1 ⟨rfl, hB1⟩)
        | (at_builtin; refine wpList_append_own _ rfl _ _ 63 rfl w.heap.size 9 i0 (.string ⟨#[]⟩) 1 16 Tryz.underlying63 hi0 hz0 hz1 hz2' rfl (by decide) _ _ _ rfl ((own_below HO.out hB1).alloc _) ⟨w1.heap.size, 0, none⟩ 1 1 [.string P] rfl rfl (news1 _ _ _) (one1 _ rfl) H63.out H47.out (by have := GB.size; have := hB1.size; simp; omega) ?_; intro v2 w2 hown2 hgrow _))
      have hown3 : w2.ownsRow w.heap.size 9 1 v2 (acc ++ [x]).length (texts ((acc ++ [x]).map mk)) := by rw [HP.out] at hown2; simpa [texts] using hown2
      have HO3 := Lib.hid hown3
      have HB2 := Lib.hid (((GB.trans (hB1.mono GB.size)).alloc (Nat.le_trans GB.size hB1.size) _).grown hgrow (by have := GB.size; have := hB1.size; simp; omega) (fun j hj => (HO.out.lt j hj).1))
      clear hown2 hown3 hgrow hB1
      go_roundw
      case rel => exact ⟨e + k, by omega, by go_num, _, HD.out, HO3.out, HB2.out⟩
      case measure => simp [intOf]; omega
    · have h0' : (firstL (l.drop e)).2.2 ≠ 0 := by rcases h0 with h0 | h0 <;> rw [h0] <;> decide
      have HR := Lib.hid (hsc.ends h0')
      obtain ⟨A', c', rfl, hsee⟩ := Sees.own hown
      obtain ⟨q, hq, hq0⟩ : ∃ q : Int, firstL (l.drop e) = ([], 0, q) ∧ (q == 0) = false := by
        rcases h0 with h0 | h0
        · exact ⟨2, h0, rfl⟩
        · exact ⟨7, h0, rfl⟩
      have HQ := Lib.hid hq
      have HO := Lib.hid hown
      clear hsc hown hsee h0 h0' hq
      go_wp2_with (go_at_call 83; refine (First_at (S.extract e S.size) (l.drop e) _ HX.out (by rw [List.length_drop]; omega)).mono ?_; unfold FirstSays; rw [HQ.out]; rintro e w1 ⟨rfl, hB1⟩)
      go_ret2
      obtain ⟨A2, c2, e2, hs2⟩ := Sees.own (own_below HO.out hB1)
      injection e2 with e3 e4 e5
      subst e3
      subst e5
      refine ⟨A', c', by rw [HR.out]; rfl, ?_, GB.trans (hB1.mono GB.size), own_ty (own_below HO.out hB1)⟩
      rw [HR.out]; exact hs2
end Go.Proofs.YtggognnjnfphgaaGreatDoor
