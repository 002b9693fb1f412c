/- Plain mathematics of layer 1: numbers as bytes, what a split, a join, a cut and a row of pieces come to. Nothing of the program stands here. -/
namespace Go.Proofs.Ytdanncclnhkmgaa

/-- the number that bytes are -/
def num (l : List UInt8) : Nat := l.foldl (fun n c => n * 256 + c.toNat) 0
/-- the number that a string's bytes are -/
def numOf (s : ByteArray) : Nat := num s.data.toList
theorem num_snoc (l : List UInt8) (c : UInt8) : num (l ++ [c]) = num l * 256 + c.toNat := by simp [num]
theorem foldl_num (l : List UInt8) (a : Nat) : l.foldl (fun n c => n * 256 + c.toNat) a = a * 256 ^ l.length + num l := by
  induction l generalizing a with
  | nil => simp [num]
  | cons c l ih =>
    simp only [List.foldl_cons, num, List.length_cons]
    rw [ih, ih (0 * 256 + c.toNat)]
    rw [Nat.pow_succ]
    generalize 256 ^ l.length = p
    rw [Nat.add_mul, Nat.zero_mul, Nat.zero_add, Nat.mul_assoc, Nat.mul_comm 256 p]
    omega
theorem num_cons (c : UInt8) (l : List UInt8) : num (c :: l) = c.toNat * 256 ^ l.length + num l := by
  show List.foldl (fun n c => n * 256 + c.toNat) 0 (c :: l) = _
  rw [List.foldl_cons, foldl_num]
  simp
theorem num_lt (l : List UInt8) : num l < 256 ^ l.length := by
  induction l with
  | nil => simp [num]
  | cons c l ih =>
    rw [num_cons, List.length_cons, Nat.pow_succ]
    have := c.toNat_lt
    generalize 256 ^ l.length = p at *
    have h2 : c.toNat * p ≤ 255 * p := Nat.mul_le_mul_right _ (by omega)
    omega

/-- the w bytes of a number -/
def be (v : Nat) : Nat → List UInt8
  | 0 => []
  | w + 1 => UInt8.ofNat (v / 256 ^ w) :: be v w
theorem be_length (v w : Nat) : (be v w).length = w := by induction w with | zero => rfl | succ w ih => simp [be, ih]
theorem num_be (v w : Nat) : num (be v w) = v % 256 ^ w := by
  induction w with
  | zero => simp [be, num, Nat.mod_one]
  | succ w ih =>
    rw [be, num_cons, ih, be_length, UInt8.toNat_ofNat', show 256 ^ (w + 1) = 256 ^ w * 256 from Nat.pow_succ .., Nat.mod_mul, show 2 ^ 8 = 256 from rfl, Nat.mul_comm]
    omega
theorem num_be_eq (v w : Nat) (h : v < 256 ^ w) : num (be v w) = v := by rw [num_be, Nat.mod_eq_of_lt h]
theorem num_be_iff (v w : Nat) : num (be v w) = v ↔ v < 256 ^ w := by
  constructor
  · intro h
    rw [← h, num_be]
    exact Nat.mod_lt _ (Nat.pow_pos (by omega))
  · exact num_be_eq v w
theorem be_num (l : List UInt8) : be (num l) l.length = l := by
  induction l with
  | nil => rfl
  | cons c l ih =>
    have hl := num_lt l
    have hp : 0 < 256 ^ l.length := Nat.pow_pos (by omega)
    have e : num (c :: l) / 256 ^ l.length = c.toNat := by
      rw [num_cons, Nat.add_comm, Nat.add_mul_div_right _ _ hp, Nat.div_eq_of_lt hl]; omega
    rw [List.length_cons, be, e]
    congr 1
    · exact UInt8.ofNat_toNat
    · have hm : ∀ (v v' w : Nat), v % 256 ^ w = v' % 256 ^ w → be v w = be v' w := by
        intro v v' w
        induction w with
        | zero => intro _; rfl
        | succ w ihw =>
          intro h
          have h1 : v % 256 ^ w = v' % 256 ^ w := by
            have := congrArg (· % 256 ^ w) h
            simpa [Nat.pow_succ, Nat.mod_mul_right_mod] using this
          rw [be, be, ihw h1]
          congr 1
          have h2 : v / 256 ^ w % 256 = v' / 256 ^ w % 256 := by
            have e1 := Nat.mod_mul (x := v) (a := 256 ^ w) (b := 256)
            have e2 := Nat.mod_mul (x := v') (a := 256 ^ w) (b := 256)
            rw [Nat.pow_succ] at h
            rw [e1, e2, h1] at h
            have hq : 0 < 256 ^ w := Nat.pow_pos (by omega)
            exact Nat.eq_of_mul_eq_mul_left hq (by omega)
          apply UInt8.toNat_inj.1
          rw [UInt8.toNat_ofNat', UInt8.toNat_ofNat']
          exact h2
      rw [hm (num (c :: l)) (num l) l.length (by rw [num_cons, Nat.add_comm, Nat.add_mul_mod_self_right]), ih]


/-! ### What the calls come to -/
def wB (n : Int) : Bool := n == 1 || n == 2 || n == 4 || n == 8
def pB (n : Int) : Bool := n == 1 || n == 2 || n == 4
theorem wB_cases {n : Int} (h : wB n = true) : n = 1 ∨ n = 2 ∨ n = 4 ∨ n = 8 := by simp [wB] at h; omega
theorem pB_cases {n : Int} (h : pB n = true) : n = 1 ∨ n = 2 ∨ n = 4 := by simp [pB] at h; omega

def empty : ByteArray := ⟨#[]⟩

/-- Cut -/
def cutR (s : ByteArray) (n : Int) : ByteArray × ByteArray × Int :=
  if pB n then
    if (s.size : Int) < n ∨ s.size - n.toNat < numOf (s.extract 0 n.toNat) then (empty, empty, 2)
    else ((s.extract n.toNat s.size).extract 0 (numOf (s.extract 0 n.toNat)), (s.extract n.toNat s.size).extract (numOf (s.extract 0 n.toNat)) (s.size - n.toNat), 0)
  else (empty, empty, 1)

/-- Split, behind the check of the widths: the numbers and the rest, or none where bytes are missing -/
def splitF : ByteArray → List Int → Option (List Int × ByteArray)
  | s, [] => some ([], s)
  | s, w :: ws => if (s.size : Int) < w then none else (splitF (s.extract w.toNat s.size) ws).map fun p => ((numOf (s.extract 0 w.toNat) : Int) :: p.1, p.2)
def splitR (s : ByteArray) (ws : List Int) : List Int × ByteArray × Int :=
  if ws.all wB then
    match splitF s ws with
    | none => ([], empty, 2)
    | some p => (p.1, p.2, 0)
  else ([], empty, 1)
/-- where a loop stands: what is still to be done, behind what is done -/
def Done (s : ByteArray) (ws : List Int) (acc : List Int) (t : ByteArray) (rest : List Int) : Prop :=
  splitF s ws = (splitF t rest).map fun p => (acc ++ p.1, p.2)
theorem Done.start (s : ByteArray) (ws : List Int) : Done s ws [] s ws := by
  unfold Done
  cases splitF s ws <;> simp
theorem Done.step {s t : ByteArray} {ws acc rest : List Int} {w : Int} (h : Done s ws acc t (w :: rest)) (hw : w ≤ (t.size : Int)) :
    Done s ws (acc ++ [(numOf (t.extract 0 w.toNat) : Int)]) (t.extract w.toNat t.size) rest := by
  unfold Done at h ⊢
  rw [h, splitF, if_neg (by omega)]
  cases splitF (t.extract w.toNat t.size) rest <;> simp
theorem Done.fails {s t : ByteArray} {ws acc rest : List Int} {w : Int} (h : Done s ws acc t (w :: rest)) (hw : (t.size : Int) < w) : splitF s ws = none := by
  unfold Done at h
  rw [h, splitF, if_pos hw]
  rfl
theorem Done.ends {s t : ByteArray} {ws acc : List Int} (h : Done s ws acc t []) : splitF s ws = some (acc, t) := by
  unfold Done at h
  rw [h, splitF]
  simp
theorem splitR_bad {s : ByteArray} {ws : List Int} (h : ws.all wB = false) : splitR s ws = ([], empty, 1) := by simp [splitR, h]
theorem splitR_none {s : ByteArray} {ws : List Int} (h : ws.all wB = true) (h' : splitF s ws = none) : splitR s ws = ([], empty, 2) := by simp [splitR, h, h']
theorem splitR_some {s t : ByteArray} {ws acc : List Int} (h : ws.all wB = true) (h' : splitF s ws = some (acc, t)) : splitR s ws = (acc, t, 0) := by simp [splitR, h, h']
theorem splitF_len : ∀ (ws : List Int) (s : ByteArray) (p : List Int × ByteArray), splitF s ws = some p → p.1.length = ws.length := by
  intro ws
  induction ws with
  | nil => intro s p h; simp [splitF] at h; simp [← h]
  | cons w ws ih =>
    intro s p h
    rw [splitF] at h
    split at h
    · cases h
    · cases hf : splitF (s.extract w.toNat s.size) ws with
      | none => rw [hf] at h; cases h
      | some q =>
        rw [hf] at h
        simp at h
        rw [← h]
        simp [ih _ q hf]
theorem splitR_len (s : ByteArray) (ws : List Int) : (splitR s ws).1.length ≤ ws.length := by
  unfold splitR
  split
  · cases hf : splitF s ws with
    | none => simp
    | some p => simp [splitF_len ws s p hf]
  · simp
theorem drop_at {ws : List Int} {k : Nat} (h : k < ws.length) : ws.drop k = ws[k] :: ws.drop (k + 1) := List.drop_eq_getElem_cons h

/-- Pieces, piece by piece; the number is room enough where it is greater than the bytes' -/
def piecesF : Nat → ByteArray → Int → Option (List ByteArray)
  | 0, _, _ => some []
  | f + 1, s, n => if s.size = 0 then some [] else if (cutR s n).2.2 = 0 then (piecesF f (cutR s n).2.1 n).map ((cutR s n).1 :: ·) else none
def piecesR (s : ByteArray) (n : Int) : List ByteArray × Int :=
  if pB n then
    match piecesF (s.size + 1) s n with
    | none => ([], 2)
    | some l => (l, 0)
  else ([], 1)
theorem cutR_code (t : ByteArray) (n : Int) (h : pB n = true) : (cutR t n).2.2 = 2 ∨ ((cutR t n).2.2 = 0 ∧ (cutR t n).2.1.size + 1 ≤ t.size) := by
  have hp := pB_cases h
  unfold cutR
  rw [if_pos h]
  split
  · exact .inl rfl
  · refine .inr ⟨rfl, ?_⟩
    simp
    omega
def Cuts (s : ByteArray) (n : Int) (acc : List ByteArray) (t : ByteArray) : Prop :=
  ∃ f, t.size < f ∧ piecesF (s.size + 1) s n = (piecesF f t n).map (acc ++ ·)
theorem Cuts.start (s : ByteArray) (n : Int) : Cuts s n [] s := ⟨s.size + 1, by omega, by cases piecesF (s.size + 1) s n <;> simp⟩
theorem Cuts.step {s t : ByteArray} {n : Int} {acc : List ByteArray} (h : Cuts s n acc t) (h0 : t.size ≠ 0) (h1 : (cutR t n).2.2 = 0) (h2 : (cutR t n).2.1.size + 1 ≤ t.size) :
    Cuts s n (acc ++ [(cutR t n).1]) (cutR t n).2.1 := by
  obtain ⟨f, hf, e⟩ := h
  cases f with
  | zero => omega
  | succ f =>
    refine ⟨f, by omega, ?_⟩
    rw [e, piecesF, if_neg h0, if_pos h1]
    cases piecesF f (cutR t n).2.1 n <;> simp
theorem Cuts.fails {s t : ByteArray} {n : Int} {acc : List ByteArray} (h : Cuts s n acc t) (h0 : t.size ≠ 0) (h1 : (cutR t n).2.2 = 2) : piecesF (s.size + 1) s n = none := by
  obtain ⟨f, hf, e⟩ := h
  cases f with
  | zero => omega
  | succ f => rw [e, piecesF, if_neg h0, if_neg (by rw [h1]; decide)]; rfl
theorem Cuts.ends {s t : ByteArray} {n : Int} {acc : List ByteArray} (h : Cuts s n acc t) (h0 : t.size = 0) : piecesF (s.size + 1) s n = some acc := by
  obtain ⟨f, hf, e⟩ := h
  cases f with
  | zero => omega
  | succ f => rw [e, piecesF, if_pos h0]; simp
theorem piecesR_none {s : ByteArray} {n : Int} (h : pB n = true) (h' : piecesF (s.size + 1) s n = none) : piecesR s n = ([], 2) := by simp [piecesR, h, h']
theorem piecesR_some {s : ByteArray} {n : Int} {l : List ByteArray} (h : pB n = true) (h' : piecesF (s.size + 1) s n = some l) : piecesR s n = (l, 0) := by simp [piecesR, h, h']

theorem piecesF_len (n : Int) (h : pB n = true) : ∀ (f : Nat) (s : ByteArray) (l : List ByteArray), s.size < f → piecesF f s n = some l → l.length ≤ s.size := by
  intro f
  induction f with
  | zero => intro s l hf; omega
  | succ f ih =>
    intro s l hf hl
    rw [piecesF] at hl
    split at hl
    · injection hl with hl; rw [← hl]; simp
    · split at hl
      · rename_i h0 hc
        rcases cutR_code s n h with h2 | ⟨_, hless⟩
        · rw [h2] at hc; cases hc
        · cases hr : piecesF f (cutR s n).2.1 n with
          | none => rw [hr] at hl; cases hl
          | some l' =>
            rw [hr] at hl
            simp at hl
            have := ih _ l' (by omega) hr
            rw [← hl]
            simp
            omega
      · cases hl
theorem piecesR_len (s : ByteArray) (n : Int) : (piecesR s n).1.length ≤ s.size := by
  unfold piecesR
  cases hp : pB n
  · simp
  · simp only [if_true]
    cases hr : piecesF (s.size + 1) s n with
    | none => simp
    | some l => exact piecesF_len n hp _ s l (by omega) hr
end Go.Proofs.Ytdanncclnhkmgaa
