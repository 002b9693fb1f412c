/- Names as text: the text of a byte, of a label, of a name; the reading of a text. Nothing of the program stands here. -/
import Derived.Test.YtpfbieehdkonhaaDoorNamM
namespace Go.Proofs.YtpfbieehdkonhaaDoor

/-- a byte's three decimal digits -/
def dig (n : Nat) : UInt8 := UInt8.ofNat (48 + n % 10)
theorem dig_nat (n : Nat) : (dig n).toNat = 48 + n % 10 := by unfold dig; rw [UInt8.toNat_ofNat']; omega
/-- the text of a byte within a label -/
def byteT (c : UInt8) : List UInt8 :=
  if c.toNat = 46 ∨ c.toNat = 92 then [92, c] else if 33 ≤ c.toNat ∧ c.toNat ≤ 126 then [c] else [92, dig (c.toNat / 100), dig (c.toNat / 10), dig c.toNat]
def bytesT (x : List UInt8) : List UInt8 := x.flatMap byteT
def labT (x : List UInt8) : List UInt8 := bytesT x ++ [46]
def labsT (L : List (List UInt8)) : List UInt8 := L.flatMap labT
def dotT (L : List (List UInt8)) : List UInt8 := if L = [] then [46] else labsT L
/-- the text of a name -/
def textN (s : List UInt8) : List UInt8 := match nameL s with | none => [] | some L => dotT L

theorem byteT_len (c : UInt8) : (byteT c).length ≤ 4 ∧ 1 ≤ (byteT c).length := by
  unfold byteT; split
  · simp
  · split <;> simp
theorem bytesT_nil : bytesT [] = [] := rfl
theorem bytesT_snoc (x : List UInt8) (c : UInt8) : bytesT (x ++ [c]) = bytesT x ++ byteT c := by simp [bytesT]
theorem bytesT_cons (c : UInt8) (x : List UInt8) : bytesT (c :: x) = byteT c ++ bytesT x := by simp [bytesT]
theorem bytesT_len (x : List UInt8) : (bytesT x).length ≤ 4 * x.length := by
  induction x with
  | nil => simp [bytesT]
  | cons c x ih => rw [bytesT_cons]; have := (byteT_len c).1; simp; omega
theorem labsT_nil : labsT [] = [] := rfl
theorem labsT_cons (x : List UInt8) (L : List (List UInt8)) : labsT (x :: L) = labT x ++ labsT L := by simp [labsT]
theorem labsT_snoc (L : List (List UInt8)) (x : List UInt8) : labsT (L ++ [x]) = labsT L ++ labT x := by simp [labsT]
theorem labsT_len (L : List (List UInt8)) : (labsT L).length ≤ 4 * (enc L).length := by
  induction L with
  | nil => simp [labsT]
  | cons x L ih =>
    rw [labsT_cons, enc_cons]
    have h1 := bytesT_len x
    have h2 := lab_len x
    unfold labT
    simp only [List.length_append, List.length_cons, List.length_nil, h2]; omega
theorem labsT_take_len {s : List UInt8} {L : List (List UInt8)} (h : nameL s = some L) : (labsT L).length ≤ 1020 := by
  obtain ⟨h1, _, h3⟩ := nameL_is h
  have := labsT_len L
  rw [← h1] at this; omega
theorem textN_none {s : List UInt8} (h : nameL s = none) : textN s = [] := by unfold textN; rw [h]
theorem textN_some {s : List UInt8} {L : List (List UInt8)} (h : nameL s = some L) : textN s = dotT L := by unfold textN; rw [h]
theorem dotT_nil : dotT [] = [46] := rfl
theorem dotT_cons {L : List (List UInt8)} (h : L ≠ []) : dotT L = labsT L := by unfold dotT; rw [if_neg h]
theorem textN_len (s : List UInt8) : (textN s).length ≤ 1020 := by
  cases h : nameL s with
  | none => rw [textN_none h]; simp
  | some L =>
    rw [textN_some h]
    by_cases hL : L = []
    · subst hL; rw [dotT_nil]; simp
    · rw [dotT_cons hL]; exact labsT_take_len h

/-! ### The reading of a text -/
def isD (c : UInt8) : Bool := decide (48 ≤ c.toNat) && decide (c.toNat ≤ 57)
def val3 (a b c : UInt8) : Nat := (a.toNat - 48) * 100 + (b.toNat - 48) * 10 + (c.toNat - 48)
/-- the byte whose three digits a text begins with, and the text behind them -/
def cutD : List UInt8 → Option (UInt8 × List UInt8)
  | a :: b :: c :: r => if isD a = true ∧ isD b = true ∧ isD c = true ∧ val3 a b c ≤ 255 then some (UInt8.ofNat (val3 a b c), r) else none
  | _ => none
/-- the byte that the beginning of a text stands for, and the text behind that -/
def cutC : List UInt8 → Option (UInt8 × List UInt8)
  | [] => none
  | c :: r => if c.toNat ≠ 92 then some (c, r) else match r with
    | [] => none
    | d :: r' => if isD d = true then cutD (d :: r') else some (d, r')
theorem cutD_lt {s r : List UInt8} {c : UInt8} (h : cutD s = some (c, r)) : r.length + 3 = s.length := by
  match s, h with
  | a :: b :: d :: t, h =>
    simp only [cutD] at h
    split at h
    · injection h with h; injection h with h1 h2; subst h2; simp
    · cases h
theorem cutC_lt {s r : List UInt8} {c : UInt8} (h : cutC s = some (c, r)) : r.length < s.length := by
  match s, h with
  | a :: t, h =>
    simp only [cutC] at h
    split at h
    · injection h with h; injection h with h1 h2; subst h2; simp
    · match t, h with
      | d :: t', h =>
        simp only at h
        split at h
        · have := cutD_lt h; simp at this ⊢; omega
        · injection h with h; injection h with h1 h2; subst h2; simp; omega
/-- the labels of a text: those that are read, the label at which the reading is, the rest of the text -/
def rd (l : List (List UInt8)) (x : List UInt8) (s : List UInt8) : Option (List (List UInt8)) :=
  match _hs : s with
  | [] => if x ≠ [] ∨ l = [] then none else some l
  | c :: r => if c.toNat = 46 then (if x = [] then none else rd (l ++ [x]) [] r) else
    match _hc : cutC (c :: r) with
    | none => none
    | some (d, r') => rd l (x ++ [d]) r'
termination_by s.length
decreasing_by
  · simp
  · have := cutC_lt _hc; simpa using this
theorem rd_nil (l : List (List UInt8)) (x : List UInt8) : rd l x [] = if x ≠ [] ∨ l = [] then none else some l := by rw [rd]
theorem rd_dot {c : UInt8} (h : c.toNat = 46) (l : List (List UInt8)) (x r : List UInt8) : rd l x (c :: r) = if x = [] then none else rd (l ++ [x]) [] r := by
  rw [rd, if_pos h]
theorem rd_bad {c : UInt8} (h : c.toNat ≠ 46) {r : List UInt8} (hc : cutC (c :: r) = none) (l : List (List UInt8)) (x : List UInt8) : rd l x (c :: r) = none := by
  rw [rd, if_neg h]; split
  · rfl
  · rename_i h'; rw [hc] at h'; cases h'
theorem rd_byte {c : UInt8} (h : c.toNat ≠ 46) {r r' : List UInt8} {d : UInt8} (hc : cutC (c :: r) = some (d, r')) (l : List (List UInt8)) (x : List UInt8) : rd l x (c :: r) = rd l (x ++ [d]) r' := by
  rw [rd, if_neg h]; split
  · rename_i h'; rw [hc] at h'; cases h'
  · rename_i h'; rw [hc] at h'; injection h' with h'; injection h' with h1 h2; subst h1; subst h2; rfl
/-- the labels of a text that can be read as a name -/
def readL (s : List UInt8) : Option (List (List UInt8)) := if s = [46] then some [] else rd [] [] s
/-- the name with a text, or why there is none -/
def readN (s : List UInt8) : List UInt8 × Int := match readL s with | none => ([], 2) | some L => ofN L

/-- what is read is not longer than the text -/
theorem rd_small : ∀ (n : Nat) (s : List UInt8), s.length ≤ n → ∀ (l : List (List UInt8)) (x : List UInt8) (L : List (List UInt8)), rd l x s = some L →
    2 * L.length ≤ 2 * l.length + x.length + s.length ∧ ∀ m, (∀ y ∈ l, y.length ≤ m) → x.length + s.length ≤ m → ∀ y ∈ L, y.length ≤ m := by
  intro n
  induction n with
  | zero =>
    intro s hs l x L h
    obtain rfl : s = [] := List.eq_nil_of_length_eq_zero (by omega)
    rw [rd_nil] at h
    split at h
    · cases h
    · injection h with h; subst h; exact ⟨by simp <;> omega, fun m hm _ => hm⟩
  | succ n ih =>
    intro s hs l x L h
    cases s with
    | nil =>
      rw [rd_nil] at h
      split at h
      · cases h
      · injection h with h; subst h; exact ⟨by simp <;> omega, fun m hm _ => hm⟩
    | cons c r =>
      by_cases hc : c.toNat = 46
      · rw [rd_dot hc] at h
        split at h
        · cases h
        · rename_i hx
          have hx1 : 1 ≤ x.length := by cases x <;> simp_all
          obtain ⟨h1, h2⟩ := ih r (by simp at hs; omega) _ _ _ h
          refine ⟨by simp at h1 ⊢; omega, fun m hm hb => h2 m ?_ (by simp at hb ⊢; omega)⟩
          intro y hy
          rcases List.mem_append.1 hy with h' | h'
          · exact hm y h'
          · rw [List.mem_singleton] at h'; subst h'; simp at hb; omega
      · cases hk : cutC (c :: r) with
        | none => rw [rd_bad hc hk] at h; cases h
        | some p =>
          obtain ⟨d, r'⟩ := p
          rw [rd_byte hc hk] at h
          have hl := cutC_lt hk
          obtain ⟨h1, h2⟩ := ih r' (by simp at hl hs; omega) _ _ _ h
          refine ⟨by simp at h1 hl ⊢; omega, fun m hm hb => h2 m hm (by simp at hb hl ⊢; omega)⟩
theorem readL_small {s : List UInt8} {L : List (List UInt8)} (h : readL s = some L) : 2 * L.length ≤ s.length ∧ ∀ y ∈ L, y.length ≤ s.length := by
  unfold readL at h
  split at h
  · injection h with h; subst h; simp
  · obtain ⟨h1, h2⟩ := rd_small _ s (Nat.le_refl _) _ _ _ h
    exact ⟨by simpa using h1, h2 s.length (by simp) (by simp)⟩

/-! ### A text is read back -/
theorem cutC_byteT (c : UInt8) (r : List UInt8) : cutC (byteT c ++ r) = some (c, r) ∧ ∃ d t, byteT c ++ r = d :: t ∧ d.toNat ≠ 46 := by
  by_cases h : c.toNat = 46 ∨ c.toNat = 92
  · have e : byteT c = [92, c] := by unfold byteT; rw [if_pos h]
    have hd : isD c = false := by unfold isD; rcases h with h | h <;> simp [h]
    rw [e]
    refine ⟨?_, 92, c :: r, rfl, by decide⟩
    show cutC (92 :: c :: r) = _
    rw [cutC, if_neg (by decide)]
    simp [hd]
  · by_cases h2 : 33 ≤ c.toNat ∧ c.toNat ≤ 126
    · have e : byteT c = [c] := by unfold byteT; rw [if_neg h, if_pos h2]
      rw [e]
      refine ⟨?_, c, r, rfl, by omega⟩
      show cutC (c :: r) = _
      rw [cutC.eq_def]
      simp only []
      rw [if_pos (by omega)]
    · have e : byteT c = [92, dig (c.toNat / 100), dig (c.toNat / 10), dig c.toNat] := by unfold byteT; rw [if_neg h, if_neg h2]
      rw [e]
      refine ⟨?_, 92, _, rfl, by decide⟩
      have hD : ∀ n, isD (dig n) = true := by intro n; unfold isD; rw [dig_nat]; simp; omega
      have hc : c.toNat < 256 := c.toNat_lt
      have hv : val3 (dig (c.toNat / 100)) (dig (c.toNat / 10)) (dig c.toNat) = c.toNat := by
        unfold val3; rw [dig_nat, dig_nat, dig_nat]; omega
      show cutC (92 :: dig (c.toNat / 100) :: dig (c.toNat / 10) :: dig c.toNat :: r) = _
      rw [cutC, if_neg (by decide)]
      simp only [hD, if_true]
      rw [cutD, if_pos ⟨hD _, hD _, hD _, by rw [hv]; omega⟩, hv]
      simp
theorem rd_bytesT (x : List UInt8) : ∀ (l : List (List UInt8)) (y r : List UInt8), rd l y (bytesT x ++ r) = rd l (y ++ x) r := by
  induction x with
  | nil => intro l y r; simp [bytesT]
  | cons c x ih =>
    intro l y r
    rw [bytesT_cons, List.append_assoc]
    obtain ⟨h1, d, t, h2, h3⟩ := cutC_byteT c (bytesT x ++ r)
    rw [h2] at h1 ⊢
    rw [rd_byte h3 h1, ih]
    simp
theorem rd_labT {x : List UInt8} (hx : x ≠ []) (l : List (List UInt8)) (r : List UInt8) : rd l [] (labT x ++ r) = rd (l ++ [x]) [] r := by
  unfold labT
  rw [List.append_assoc, rd_bytesT, List.nil_append, List.singleton_append, rd_dot (by decide), if_neg hx]
theorem rd_labsT (L : List (List UInt8)) (hL : ∀ x ∈ L, x ≠ []) : ∀ (l : List (List UInt8)), rd l [] (labsT L) = if l ++ L = [] then none else some (l ++ L) := by
  induction L with
  | nil =>
    intro l
    rw [labsT_nil, rd_nil]
    by_cases h : l = [] <;> simp [h]
  | cons x L ih =>
    intro l
    rw [labsT_cons, rd_labT (hL x (by simp)), ih (fun y hy => hL y (List.mem_cons_of_mem _ hy))]
    simp
theorem byteT_ne_dot (c : UInt8) (r : List UInt8) : byteT c ++ r ≠ [46] := by
  obtain ⟨_, d, t, h2, h3⟩ := cutC_byteT c r
  rw [h2]; intro e; injection e with e _; subst e; exact h3 (by decide)
theorem readL_dotT {L : List (List UInt8)} (h : Good L) : readL (dotT L) = some L := by
  by_cases hL : L = []
  · subst hL; rw [dotT_nil, readL, if_pos rfl]
  · rw [dotT_cons hL, readL, rd_labsT L (fun x hx => (h x hx).1)]
    rw [if_neg, if_neg (by simpa using hL)]
    · rfl
    · cases L with
      | nil => exact absurd rfl hL
      | cons x L =>
        have hx := (h x (by simp)).1
        cases x with
        | nil => exact absurd rfl hx
        | cons c x =>
          rw [labsT_cons]
          unfold labT
          rw [bytesT_cons, List.append_assoc, List.append_assoc]
          exact byteT_ne_dot c _
theorem ofN_good {L : List (List UInt8)} (h : Good L) (hl : (enc L).length ≤ 255) : ofN L = (enc L, 0) := by
  unfold ofN
  rw [if_neg (fun hm => (h _ hm).1 rfl), if_neg]
  rintro (⟨x, hx, h'⟩ | h')
  · have := (h x hx).2; omega
  · omega
theorem readN_textN {s : List UInt8} {L : List (List UInt8)} (h : nameL s = some L) : readN (textN s) = (s, 0) := by
  obtain ⟨h1, h2, h3⟩ := nameL_is h
  rw [textN_some h, readN, readL_dotT h2]
  show ofN L = _
  rw [ofN_good h2 (by rw [← h1]; exact h3), ← h1]
/-- the bytes of a text are from 21 to 7e -/
theorem byteT_plain (c : UInt8) : ∀ b ∈ byteT c, 33 ≤ b.toNat ∧ b.toNat ≤ 126 := by
  have hd : ∀ n, 33 ≤ (dig n).toNat ∧ (dig n).toNat ≤ 126 := by intro n; rw [dig_nat]; omega
  have h92 : (92 : UInt8).toNat = 92 := rfl
  intro b hb
  unfold byteT at hb
  split at hb
  · rename_i h
    simp at hb
    rcases hb with rfl | rfl
    · rw [h92]; omega
    · omega
  · split at hb
    · simp at hb; subst hb; assumption
    · simp at hb
      rcases hb with rfl | rfl | rfl | rfl
      · rw [h92]; omega
      · exact hd _
      · exact hd _
      · exact hd _
theorem labsT_plain (L : List (List UInt8)) : ∀ b ∈ labsT L, 33 ≤ b.toNat ∧ b.toNat ≤ 126 := by
  intro b hb
  obtain ⟨x, _, hx⟩ := List.mem_flatMap.1 hb
  unfold labT at hx
  rcases List.mem_append.1 hx with h | h
  · obtain ⟨c, _, hc⟩ := List.mem_flatMap.1 h
    exact byteT_plain c b hc
  · rw [List.mem_singleton] at h; subst h; decide
theorem dotT_plain (L : List (List UInt8)) : ∀ b ∈ dotT L, 33 ≤ b.toNat ∧ b.toNat ≤ 126 := by
  by_cases h : L = []
  · subst h; intro b hb; rw [dotT_nil, List.mem_singleton] at hb; subst hb; decide
  · rw [dotT_cons h]; exact labsT_plain L
/-- and the last one is a dot -/
theorem labT_ends (x : List UInt8) : ∃ t, labT x = t ++ [46] := ⟨_, rfl⟩
theorem labsT_ends {L : List (List UInt8)} (h : L ≠ []) : ∃ t, labsT L = t ++ [46] := by
  induction L with
  | nil => exact absurd rfl h
  | cons x L ih =>
    rw [labsT_cons]
    by_cases hL : L = []
    · subst hL; rw [labsT_nil, List.append_nil]; exact labT_ends x
    · obtain ⟨t, ht⟩ := ih hL
      exact ⟨labT x ++ t, by rw [ht, List.append_assoc]⟩
theorem dotT_ends (L : List (List UInt8)) : ∃ t, dotT L = t ++ [46] := by
  by_cases h : L = []
  · subst h; exact ⟨[], rfl⟩
  · rw [dotT_cons h]; exact labsT_ends h
end Go.Proofs.YtpfbieehdkonhaaDoor
