/- LoA: texts LogM, LogN, LogK, LogA, LogR, LogC of our own, joined. No statement of the seat is proved here. -/
import Derived.Test.YtggognnjnfphgaaGreatDoorFrA
import Derived.Test.YtggognnjnfphgaaGreatDoorEnM
import Derived.Test.YtggognnjnfphgaaGreatDoorDkH
import Derived.Test.YtggognnjnfphgaaGreatDoorShn
import Derived.Test.YtggognnjnfphgaaGreatDoorOcJ
import Derived.Test.YtggognnjnfphgaaGreatDoorOcA
import Derived.Lib.ItoaMem
import Derived.Lib.AppendIntMem
import Derived.WalkKit
import Derived.Test.YtggognnjnfphgaaGreatDoorEnE
import Derived.Deep.AppendLies
import Derived.Deep.RegionLaw
import Derived.WalkMore
namespace Go.Proofs.YtggognnjnfphgaaGreatDoor

/-- may an entry from f follow where p is the last one's To? -/
def goesE (p : Option Int) (f : Int) : Bool := match p with | none => true | some t => decide (f = t)
def lastT (es : List Ent) : Option Int := es.getLast?.map (·.t)
theorem lastT_snoc (es : List Ent) (e : Ent) : lastT (es ++ [e]) = some e.t := by simp [lastT]
/-- the entries that frames are, and how many bytes their frames take -/
def hadF : Option Int → List (List UInt8) → List Ent × Nat
  | _, [] => ([], 0)
  | p, x :: r => match ofE (mk x) with
    | none => ([], 0)
    | some e => if goesE p e.f then (e :: (hadF (some e.t) r).1, 8 + x.length + (hadF (some e.t) r).2) else ([], 0)
def hadL (b : List UInt8) : List Ent × Nat := hadF none (scanL b).1
/-- the To behind more entries -/
def lastO (p : Option Int) (es : List Ent) : Option Int := match es.getLast? with | none => p | some e => some e.t
theorem lastO_nil (p : Option Int) : lastO p [] = p := rfl
theorem lastO_cons (p : Option Int) (e : Ent) (es : List Ent) : lastO p (e :: es) = lastO (some e.t) es := by
  unfold lastO
  cases es with
  | nil => rfl
  | cons x r =>
    rw [List.getLast?_cons_cons]
    cases h : (x :: r).getLast? with
    | none => simp at h
    | some y => rfl
theorem lastO_none (es : List Ent) : lastO none es = lastT es := by unfold lastO lastT; cases es.getLast? <;> rfl

/-! ### where a loop over frames stands -/
def Hads (fs : List (List UInt8)) (k : Nat) (es : List Ent) (en : Nat) : Prop :=
  k ≤ fs.length ∧ en = (rowF (fs.take k)).length ∧ es.length = k ∧ hadF none fs = (es ++ (hadF (lastT es) (fs.drop k)).1, en + (hadF (lastT es) (fs.drop k)).2)
theorem Hads.start (fs : List (List UInt8)) : Hads fs 0 [] 0 := ⟨Nat.zero_le _, by simp [rowF], rfl, by simp [lastT]⟩
theorem drop_of {fs : List (List UInt8)} {k : Nat} {x : List UInt8} (hx : fs[k]? = some x) : fs.drop k = x :: fs.drop (k + 1) := by
  have hk : k < fs.length := (List.getElem?_eq_some_iff.1 hx).1
  rw [List.drop_eq_getElem_cons hk, (List.getElem?_eq_some_iff.1 hx).2]
theorem Hads.step {fs : List (List UInt8)} {k : Nat} {es : List Ent} {en : Nat} {x : List UInt8} {e : Ent} (h : Hads fs k es en) (hx : fs[k]? = some x) (ho : ofE (mk x) = some e) (hg : goesE (lastT es) e.f = true) : Hads fs (k + 1) (es ++ [e]) (en + (8 + x.length)) := by
  obtain ⟨h1, h2, h3, h4⟩ := h
  have hk : k < fs.length := (List.getElem?_eq_some_iff.1 hx).1
  refine ⟨hk, ?_, by simp [h3], ?_⟩
  · rw [rowF_take fs k hk, List.length_append, frameL_len, (List.getElem?_eq_some_iff.1 hx).2, h2]
  · rw [h4, drop_of hx, hadF, ho]
    simp only [hg, if_true]
    rw [lastT_snoc]
    simp [Nat.add_assoc]
theorem Hads.none {fs : List (List UInt8)} {k : Nat} {es : List Ent} {en : Nat} {x : List UInt8} (h : Hads fs k es en) (hx : fs[k]? = some x) (ho : ofE (mk x) = Option.none) : hadF Option.none fs = (es, en) := by
  rw [h.2.2.2, drop_of hx, hadF, ho]
  simp
theorem Hads.gap {fs : List (List UInt8)} {k : Nat} {es : List Ent} {en : Nat} {x : List UInt8} {e : Ent} (h : Hads fs k es en) (hx : fs[k]? = some x) (ho : ofE (mk x) = some e) (hg : goesE (lastT es) e.f = false) : hadF Option.none fs = (es, en) := by
  rw [h.2.2.2, drop_of hx, hadF, ho]
  simp [hg]
theorem Hads.ends {fs : List (List UInt8)} {es : List Ent} {en : Nat} (h : Hads fs fs.length es en) : hadF Option.none fs = (es, en) := by
  rw [h.2.2.2, List.drop_length, hadF]
  simp

/-! ### frames are what they were made of -/
theorem first_is {l : List UInt8} (h : (firstL l).2.2 = 0) : l = frameL (firstL l).1 ++ l.drop (firstL l).2.1 ∧ (firstL l).1.length ≤ 16777216 ∧ (firstL l).2.1 = 8 + (firstL l).1.length := by
  by_cases h8 : l.length < 8
  · rw [firstL_less h8] at h; exact absurd h (by decide)
  by_cases h2 : 16777216 < num (l.take 4) ∨ l.length - 8 < num (l.take 4)
  · rw [firstL_form h8 h2] at h; exact absurd h (by decide)
  by_cases h3 : sumOf (l.take 4 ++ (l.drop 8).take (num (l.take 4))) = num ((l.drop 4).take 4)
  · rw [firstL_ok h8 h2 h3]
    obtain ⟨n, hn⟩ : ∃ n, n = num (l.take 4) := ⟨_, rfl⟩
    rw [← hn] at h2 h3 ⊢
    simp only
    have hl : ((l.drop 8).take n).length = n := by rw [List.length_take, List.length_drop]; omega
    have e1 : be n 4 = l.take 4 := by
      have := be_num (l.take 4)
      rwa [← hn, show (l.take 4).length = 4 by rw [List.length_take]; omega] at this
    have e2 : be (num ((l.drop 4).take 4)) 4 = (l.drop 4).take 4 := by
      have := be_num ((l.drop 4).take 4)
      rwa [show ((l.drop 4).take 4).length = 4 by rw [List.length_take, List.length_drop]; omega] at this
    refine ⟨?_, by omega, by omega⟩
    unfold frameL
    rw [hl, e1, h3, e2, List.append_assoc, List.append_assoc]
    have e3 : (l.drop 8).take n ++ l.drop (8 + n) = l.drop 8 := by rw [← List.drop_drop, List.take_append_drop]
    have e4 : (l.drop 4).take 4 ++ l.drop 8 = l.drop 4 := by
      have := List.take_append_drop 4 (l.drop 4)
      rwa [List.drop_drop] at this
    rw [e3, e4, List.take_append_drop]
  · rw [firstL_sum h8 h2 h3] at h; exact absurd h (by decide)
theorem scan_is : ∀ (n : Nat) (l : List UInt8), l.length ≤ n → l = rowF (scanL l).1 ++ l.drop (scanL l).2 ∧ (rowF (scanL l).1).length = (scanL l).2 ∧ ∀ x ∈ (scanL l).1, x.length ≤ 16777216 := by
  intro n
  induction n with
  | zero =>
    intro l hl
    have : l = [] := List.eq_nil_of_length_eq_zero (by omega)
    subst this
    rw [scan_nil]
    exact ⟨rfl, rfl, fun x hx => by cases hx⟩
  | succ n ih =>
    intro l hl
    by_cases h0 : (firstL l).2.2 = 0
    · obtain ⟨h1, h2, h3⟩ := first_is h0
      obtain ⟨i1, i2, i3⟩ := ih (l.drop (firstL l).2.1) (by rw [List.length_drop]; omega)
      rw [scan_ok h0]
      simp only
      refine ⟨?_, ?_, fun x hx => ?_⟩
      · rw [rowF_cons, List.append_assoc, ← List.drop_drop, ← i1]
        exact h1
      · rw [rowF_cons, List.length_append, frameL_len, i2, h3]
      · rcases List.mem_cons.1 hx with rfl | hx
        · exact h2
        · exact i3 x hx
    · rw [scan_no h0]
      exact ⟨rfl, rfl, fun x hx => by cases hx⟩
theorem row_append (xs ys : List (List UInt8)) : rowF (xs ++ ys) = rowF xs ++ rowF ys := by simp [rowF]
theorem row_pos {xs : List (List UInt8)} (h : (rowF xs).length = 0) : xs = [] := by
  cases xs with
  | nil => rfl
  | cons x r => rw [rowF_cons, List.length_append, frameL_len] at h; omega
/-- the entries take the first frames -/
theorem had_take : ∀ (fs : List (List UInt8)) (p : Option Int), ∃ k, k ≤ fs.length ∧ (hadF p fs).1.length = k ∧ (hadF p fs).2 = (rowF (fs.take k)).length ∧ hadF p (fs.take k) = hadF p fs := by
  intro fs
  induction fs with
  | nil => intro p; exact ⟨0, Nat.le_refl _, rfl, rfl, rfl⟩
  | cons x r ih =>
    intro p
    cases ho : ofE (mk x) with
    | none =>
      have e : hadF p (x :: r) = ([], 0) := by rw [hadF, ho]
      exact ⟨0, Nat.zero_le _, by rw [e]; rfl, by rw [e]; rfl, by rw [e]; rfl⟩
    | some e =>
      by_cases hg : goesE p e.f = true
      · obtain ⟨k, h1, h2, h3, h4⟩ := ih (some e.t)
        refine ⟨k + 1, by simp; omega, ?_, ?_, ?_⟩
        · rw [hadF, ho]; simp [hg, h2]
        · rw [hadF, ho, List.take_succ_cons, rowF_cons, List.length_append, frameL_len]; simp [hg, h3]
        · rw [List.take_succ_cons, hadF, ho, hadF, ho]; simp only [hg, if_true]; rw [h4]
      · have e' : hadF p (x :: r) = ([], 0) := by rw [hadF, ho]; simp [hg]
        exact ⟨0, Nat.zero_le _, by rw [e']; rfl, by rw [e']; rfl, by rw [e']; rfl⟩
theorem had_append : ∀ (fs gs : List (List UInt8)) (p : Option Int), (hadF p fs).2 = (rowF fs).length → hadF p (fs ++ gs) = ((hadF p fs).1 ++ (hadF (lastO p (hadF p fs).1) gs).1, (hadF p fs).2 + (hadF (lastO p (hadF p fs).1) gs).2) := by
  intro fs
  induction fs with
  | nil => intro gs p _; simp [hadF, lastO]
  | cons x r ih =>
    intro gs p h
    rw [rowF_cons, List.length_append, frameL_len] at h
    rw [hadF] at h
    rw [List.cons_append, hadF, hadF]
    cases ho : ofE (mk x) with
    | none => rw [ho] at h; simp only at h; omega
    | some e =>
      rw [ho] at h
      simp only at h ⊢
      by_cases hg : goesE p e.f = true
      · simp only [hg, if_true] at h ⊢
        rw [ih gs (some e.t) (by omega), lastO_cons]
        simp [Nat.add_assoc]
      · simp only [hg] at h
        simp at h
        omega
/-- the bytes of the entries' frames have the same entries, and nothing besides -/
theorem had_is (b : List UInt8) : ∃ xs, b.take (hadL b).2 = rowF xs ∧ (rowF xs).length = (hadL b).2 ∧ (hadL b).2 ≤ b.length ∧ hadF none xs = hadL b ∧ xs.length = (hadL b).1.length ∧ (∀ x ∈ xs, x.length ≤ 16777216) ∧ xs = (scanL b).1.take xs.length := by
  obtain ⟨s1, s2, s3⟩ := scan_is b.length b (Nat.le_refl _)
  obtain ⟨k, h1, h2, h3, h4⟩ := had_take (scanL b).1 none
  have hsplit : rowF (scanL b).1 = rowF ((scanL b).1.take k) ++ rowF ((scanL b).1.drop k) := by rw [← row_append, List.take_append_drop]
  have hb : b = rowF ((scanL b).1.take k) ++ (rowF ((scanL b).1.drop k) ++ b.drop (scanL b).2) := by rw [← List.append_assoc, ← hsplit]; exact s1
  have hle : (rowF ((scanL b).1.take k)).length ≤ b.length := by
    have := congrArg List.length hb
    rw [List.length_append] at this
    omega
  refine ⟨(scanL b).1.take k, ?_, ?_, ?_, h4, ?_, fun x hx => s3 x (List.mem_of_mem_take hx), ?_⟩
  · unfold hadL
    rw [h3]
    obtain ⟨R, hR⟩ : ∃ R, R = rowF ((scanL b).1.take k) := ⟨_, rfl⟩
    obtain ⟨T, hT⟩ : ∃ T, T = rowF ((scanL b).1.drop k) ++ b.drop (scanL b).2 := ⟨_, rfl⟩
    rw [← hR, ← hT] at hb
    rw [← hR]
    have := congrArg (List.take R.length) hb
    rwa [List.take_left' rfl] at this
  · unfold hadL; rw [h3]
  · unfold hadL; rw [h3]; exact hle
  · rw [List.length_take]; unfold hadL; omega
  · rw [List.length_take, Nat.min_eq_left h1]
theorem had_again (b : List UInt8) : hadL (b.take (hadL b).2) = hadL b ∧ (b.take (hadL b).2).length = (hadL b).2 ∧ (hadL b).2 ≤ b.length := by
  obtain ⟨xs, h1, h2, h3, h4, h5, h6, _⟩ := had_is b
  refine ⟨?_, by rw [List.length_take]; omega, h3⟩
  rw [h1]
  unfold hadL at h4 ⊢
  rw [scan_frames xs h6]
  exact h4

/-! ### what may be added -/
def goodE (e : Ent) : Prop := okE e = true ∧ u32 e.f ∧ u32 e.t ∧ e.xs.length < 4294967296 ∧ (bytesE e).length ≤ 16777216
theorem of_good {e : Ent} (h : goodE e) : ofE (mk (bytesE e)) = some e := of_bytes h.1 h.2.1 h.2.2.1 h.2.2.2.1
/-- one more entry behind bytes that are entries' frames -/
theorem had_more {c : List UInt8} {e : Ent} (hc : (hadL c).2 = c.length) (hg : goodE e) (hl : goesE (lastT (hadL c).1) e.f = true) : hadL (c ++ frameL (bytesE e)) = ((hadL c).1 ++ [e], c.length + (8 + (bytesE e).length)) := by
  obtain ⟨xs, h1, h2, h3, h4, h5, h6, _⟩ := had_is c
  rw [hc, List.take_length] at h1
  have e1 : c ++ frameL (bytesE e) = rowF (xs ++ [bytesE e]) := by rw [row_append, ← h1]; simp [rowF]
  have e2 : scanL (c ++ frameL (bytesE e)) = (xs ++ [bytesE e], (rowF (xs ++ [bytesE e])).length) := by
    rw [e1]
    refine scan_frames _ fun x hx => ?_
    rcases List.mem_append.1 hx with hx | hx
    · exact h6 x hx
    · rw [List.mem_singleton] at hx; subst hx; exact hg.2.2.2.2
  have e3 := had_append xs [bytesE e] none (by rw [h4]; omega)
  rw [h4, lastO_none] at e3
  have e4 : hadF (lastT (hadL c).1) [bytesE e] = ([e], 8 + (bytesE e).length) := by
    rw [hadF, of_good hg]
    simp [hl, hadF]
  have e5 : hadL (c ++ frameL (bytesE e)) = hadF none (xs ++ [bytesE e]) := by unfold hadL; rw [e2]
  rw [e5, e3, e4, hc]
/-- entries of a chain -/
def Links : Option Int → List Ent → Prop
  | _, [] => True
  | p, e :: r => goesE p e.f = true ∧ goodE e ∧ Links (some e.t) r
theorem links_had : ∀ (es : List Ent) (p : Option Int), Links p es → hadF p (es.map bytesE) = (es, (rowF (es.map bytesE)).length) := by
  intro es
  induction es with
  | nil => intro p _; rfl
  | cons e r ih =>
    intro p h
    obtain ⟨h1, h2, h3⟩ := h
    rw [List.map_cons, hadF, of_good h2, rowF_cons, List.length_append, frameL_len]
    simp only [h1, if_true]
    rw [ih _ h3]
theorem links_len : ∀ (es : List Ent) (p : Option Int), Links p es → ∀ x ∈ es.map bytesE, x.length ≤ 16777216 := by
  intro es
  induction es with
  | nil => intro p _ x hx; cases hx
  | cons e r ih =>
    intro p h x hx
    obtain ⟨h1, h2, h3⟩ := h
    rw [List.map_cons] at hx
    rcases List.mem_cons.1 hx with rfl | hx
    · exact h2.2.2.2.2
    · exact ih _ h3 x hx
theorem links_take : ∀ (es : List Ent) (p : Option Int) (k : Nat), Links p es → Links p (es.take k) := by
  intro es
  induction es with
  | nil => intro p k _; simp [Links]
  | cons e r ih =>
    intro p k h
    cases k with
    | zero => simp [Links]
    | succ k => exact ⟨h.1, h.2.1, ih _ _ h.2.2⟩
/-- numbered entries are a chain -/
theorem links_of : ∀ (es : List Ent) (p : Option Int) (i : Nat), goesE p (i : Int) = true → (∀ j e, es[j]? = some e → e.f = ((i + j : Nat) : Int) ∧ e.t = ((i + j + 1 : Nat) : Int) ∧ goodE e) → Links p es := by
  intro es
  induction es with
  | nil => intro p i _ _; trivial
  | cons e r ih =>
    intro p i hp h
    obtain ⟨h1, h2, h3⟩ := h 0 e rfl
    refine ⟨by rw [h1]; simpa using hp, h3, ih _ (i + 1) ?_ fun j x hx => ?_⟩
    · rw [h2]; simp [goesE]
    · have := h (j + 1) x (by simpa using hx)
      rw [show i + (j + 1) = i + 1 + j by omega] at this
      exact this
/-- entries' frames and whatever bytes behind them: the entries, and more at most -/
theorem had_rest {es : List Ent} (h : Links none es) (r : List UInt8) : es.length ≤ (hadL (rowF (es.map bytesE) ++ r)).1.length ∧ (hadL (rowF (es.map bytesE) ++ r)).1.take es.length = es := by
  have h1 := scan_row r (es.map bytesE) (links_len es none h)
  have h2 := links_had es none h
  have h3 := had_append (es.map bytesE) (scanL r).1 none (by rw [h2])
  have h4 : hadL (rowF (es.map bytesE) ++ r) = hadF none (es.map bytesE ++ (scanL r).1) := by unfold hadL; rw [h1]
  rw [h4, h3, h2]
  simp
/-- .. a part of one more frame: none more; the whole: one more -/
theorem had_cut {es : List Ent} {e : Ent} (h : Links none (es ++ [e])) (j : Nat) :
    hadL (rowF (es.map bytesE) ++ (frameL (bytesE e)).take j) = if j < 8 + (bytesE e).length then (es, (rowF (es.map bytesE)).length) else (es ++ [e], (rowF ((es ++ [e]).map bytesE)).length) := by
  have hes : Links none es := by have := links_take _ _ es.length h; rwa [List.take_left' rfl] at this
  have hle := links_len _ _ h (bytesE e) (by simp)
  by_cases hj : j < 8 + (bytesE e).length
  · rw [if_pos hj]
    have h1 := scan_then (es.map bytesE) (links_len es none hes) (first_short (bytesE e) hle j hj)
    unfold hadL
    rw [h1]
    exact links_had es none hes
  · rw [if_neg hj, List.take_of_length_le (by rw [frameL_len]; omega)]
    have e1 : rowF (es.map bytesE) ++ frameL (bytesE e) = rowF ((es ++ [e]).map bytesE) := by rw [List.map_append, row_append]; simp [rowF]
    unfold hadL
    rw [e1, scan_frames _ (links_len _ _ h)]
    exact links_had _ _ h
theorem had_whole {es : List Ent} (h : Links none es) : hadL (rowF (es.map bytesE)) = (es, (rowF (es.map bytesE)).length) := by
  unfold hadL
  rw [scan_frames _ (links_len _ _ h)]
  exact links_had _ _ h
end Go.Proofs.YtggognnjnfphgaaGreatDoor
namespace Go.Proofs.YtggognnjnfphgaaGreatDoor

def L1 : Bys := [108, 111, 103, 45, 49]
def tmpL : Bys := [108, 111, 103, 45, 116, 109, 112]

/-! ### repairing -/
def rep1 (S : St) : St × Int := removeS S tmpL
def rep2 (S : St) (good : Bys) : St × Int := appendS (rep1 S).1 tmpL good
def rep3 (S : St) (good : Bys) : St × Int := syncS (rep2 S good).1 tmpL
def rep4 (S : St) (file good : Bys) : St × Int := renameS (rep3 S good).1 tmpL file
def rep5 (S : St) (file good : Bys) : St × Int := syncDirS (rep4 S file good).1
def repairS (S : St) (file good : Bys) : St × Int :=
  if (rep1 S).2 ≠ 0 ∧ (rep1 S).2 ≠ 6 then rep1 S else if (rep2 S good).2 ≠ 0 then rep2 S good else if (rep3 S good).2 ≠ 0 then rep3 S good
  else if (rep4 S file good).2 ≠ 0 then rep4 S file good else rep5 S file good
/-- opening: the disk behind it, and the error -/
def openL (S : St) (file : Bys) : St × Int :=
  if (readS S file).2 ≠ 0 ∧ (readS S file).2 ≠ 6 then (S, (readS S file).2)
  else if (hadL (readS S file).1).2 = (readS S file).1.length then (S, 0)
  else repairS S file ((readS S file).1.take (hadL (readS S file).1).2)

/-! ### adding -/
def wr1 (S : St) (file fr : Bys) : St × Int := appendS S file fr
def wr2 (S : St) (file fr : Bys) : St × Int := syncS (wr1 S file fr).1 file
def wr3 (S : St) (file fr : Bys) : St × Int := syncDirS (wr2 S file fr).1
/-- a frame is written: the disk, whether the journal is broken by it, the error -/
def writeL (S : St) (file fr : Bys) : St × Bool × Int :=
  if S.down then (S, false, 5) else if (wr1 S file fr).2 ≠ 0 then ((wr1 S file fr).1, false, (wr1 S file fr).2)
  else if (wr2 S file fr).2 ≠ 0 then ((wr2 S file fr).1, true, (wr2 S file fr).2)
  else if (findN S.names file).isSome then ((wr2 S file fr).1, false, 0)
  else if (wr3 S file fr).2 ≠ 0 then ((wr3 S file fr).1, true, (wr3 S file fr).2) else ((wr3 S file fr).1, false, 0)
/-- an entry is added: the disk, the entries, their end, whether it is broken, the error -/
structure Added where
  S : St
  es : List Ent
  en : Nat
  br : Bool
  c : Int
def addL (S : St) (file : Bys) (es : List Ent) (en : Nat) (br : Bool) (e : Ent) : Added :=
  if okE e = false then ⟨S, es, en, br, 2⟩
  else if goesE (lastT es) e.f = false then ⟨S, es, en, br, 8⟩
  else if br then ⟨S, es, en, br, 5⟩
  else if (writeL S file (frameL (bytesE e))).2.2 ≠ 0 then ⟨(writeL S file (frameL (bytesE e))).1, es, en, (writeL S file (frameL (bytesE e))).2.1, (writeL S file (frameL (bytesE e))).2.2⟩
  else ⟨(writeL S file (frameL (bytesE e))).1, es ++ [e], en + (8 + (bytesE e).length), false, 0⟩

/-! ### a disk that has one file at most -/
structure One (q : Int) (m : Nat) (S : St) (p : Bys) : Prop where
  quota : S.quota = q
  down : S.down = false
  left : S.left = 0 ∨ m < S.left
  file : (S.names = [] ∧ p = []) ∨ ∃ i, S.names = [(L1, i)] ∧ i < S.files.length ∧ (fileAt S i).1 = p
theorem One.less {q : Int} {m m' : Nat} {S : St} {p : Bys} (h : One q m S p) (hm : m' ≤ m) : One q m' S p := ⟨h.quota, h.down, h.left.imp id fun h => by omega, h.file⟩
theorem One.used {q : Int} {m : Nat} {S : St} {p : Bys} (h : One q m S p) : used S = p.length := by
  unfold YtggognnjnfphgaaGreatDoor.used
  rcases h.file with ⟨h1, h2⟩ | ⟨i, h1, h2, h3⟩
  · rw [h1, h2]; rfl
  · rw [h1]
    simp only [List.map_cons, List.map_nil, List.sum_cons, List.sum_nil]
    unfold lenOf
    unfold fileAt at h3
    rw [h3]; rfl
theorem count_one {S : St} {m : Nat} (h : S.left = 0 ∨ m + 1 < S.left) (hd : S.down = false) : (count S).down = false ∧ ((count S).left = 0 ∨ m < (count S).left) ∧ (count S).names = S.names ∧ (count S).files = S.files ∧ (count S).quota = S.quota ∧ (count S).safe = S.safe ∧ (count S).pend = S.pend := by
  unfold count
  split
  · rename_i h0
    exact ⟨hd, .inl h0, rfl, rfl, rfl, rfl, rfl⟩
  · rename_i h0
    refine ⟨?_, .inr ?_, rfl, rfl, rfl, rfl, rfl⟩
    · simp only [decide_eq_false_iff_not]; omega
    · simp only; omega
theorem isN_L1 : isN L1 = true := by decide
theorem isN_tmp : isN tmpL = true := by decide
theorem openS_is {S : St} {nm : Bys} {i : Nat} (hd : S.down = false) (hf : findN S.names nm = some i) : openS S nm true = (i, 0) := by
  unfold openS
  rw [if_neg (by rw [hd]; decide), if_pos rfl, hf]
theorem openS_no {S : St} {nm : Bys} (hd : S.down = false) (hf : findN S.names nm = none) : openS S nm true = (0, 6) := by
  unfold openS
  rw [if_neg (by rw [hd]; decide), if_pos rfl, hf]
theorem One.read {q : Int} {m : Nat} {S : St} {p : Bys} (h : One q m S p) : (readS S L1).1 = p ∧ ((readS S L1).2 = 0 ∨ (readS S L1).2 = 6) := by
  rcases h.file with ⟨h1, h2⟩ | ⟨i, h1, h2, h3⟩
  · have e : openS S L1 (isN L1) = (0, 6) := by rw [isN_L1]; exact openS_no h.down (by rw [h1]; rfl)
    unfold readS
    rw [e, if_neg (by decide), h2]
    exact ⟨rfl, .inr rfl⟩
  · have e : openS S L1 (isN L1) = (i, 0) := by rw [isN_L1]; exact openS_is h.down (by rw [h1]; rfl)
    unfold readS
    rw [e, if_pos rfl]
    exact ⟨h3, .inl rfl⟩
theorem fileAt_files {S S' : St} (h : S'.files = S.files) (i : Nat) : fileAt S' i = fileAt S i := by unfold fileAt; rw [h]
theorem fileAt_set {S : St} {i : Nat} (hi : i < S.files.length) (x : Bys × Nat) : fileAt (setF S i x) i = x := by
  unfold fileAt setF
  simp [List.getD, hi]
/-- bytes are appended to the one file -/
theorem One.append {q : Int} {m : Nat} {S : St} {p : Bys} (h : One q (m + 1) S p) (b : Bys) (hq : (p.length : Int) + b.length ≤ q) : (appendS S L1 b).2 = 0 ∧ One q m (appendS S L1 b).1 (p ++ b) ∧ ∃ i, (appendS S L1 b).1.names = [(L1, i)] := by
  have hu := h.used
  unfold appendS
  rw [if_neg (by rw [h.down]; decide), if_pos isN_L1, if_neg (by rw [hu, h.quota]; omega)]
  rcases h.file with ⟨h1, h2⟩ | ⟨i, h1, h2, h3⟩
  · have e : findN S.names L1 = none := by rw [h1]; rfl
    rw [e]
    have e2 : (addB (chg (addF S) ⟨[], L1, some S.files.length⟩) S.files.length b).names = [(L1, S.files.length)] := by
      show Chg.app ⟨[], L1, some S.files.length⟩ S.names = _
      rw [h1]; rfl
    obtain ⟨c1, c2, c3, c4, c5, _⟩ := count_one (S := addB (chg (addF S) ⟨[], L1, some S.files.length⟩) S.files.length b) (m := m) h.left h.down
    refine ⟨rfl, ⟨c5.trans h.quota, c1, c2, .inr ⟨S.files.length, c3.trans e2, ?_, ?_⟩⟩, _, c3.trans e2⟩
    · rw [c4]; simp [addB, chg, addF, setF]
    · have e3 : fileAt (addB (chg (addF S) ⟨[], L1, some S.files.length⟩) S.files.length b) S.files.length = ((fileAt (chg (addF S) ⟨[], L1, some S.files.length⟩) S.files.length).1 ++ b, (fileAt (chg (addF S) ⟨[], L1, some S.files.length⟩) S.files.length).2) :=
        fileAt_set (by simp [chg, addF]) _
      have e4 : fileAt (count (addB (chg (addF S) ⟨[], L1, some S.files.length⟩) S.files.length b)) S.files.length = fileAt (addB (chg (addF S) ⟨[], L1, some S.files.length⟩) S.files.length b) S.files.length := fileAt_files c4 _
      rw [e4, e3, h2]
      simp [fileAt, chg, addF, List.getD]
  · have e : findN S.names L1 = some i := by rw [h1]; rfl
    rw [e]
    obtain ⟨c1, c2, c3, c4, c5, _⟩ := count_one (S := addB S i b) (m := m) h.left h.down
    refine ⟨rfl, ⟨c5.trans h.quota, c1, c2, .inr ⟨i, c3.trans h1, ?_, ?_⟩⟩, _, c3.trans h1⟩
    · rw [c4]; simp [addB, setF, h2]
    · have e4 : fileAt (count (addB S i b)) i = fileAt (addB S i b) i := fileAt_files c4 _
      rw [e4]
      unfold addB
      rw [fileAt_set h2, h3]
/-- the one file is synced -/
theorem One.sync {q : Int} {m : Nat} {S : St} {p : Bys} (h : One q (m + 1) S p) (hn : ∃ i, S.names = [(L1, i)]) : (syncS S L1).2 = 0 ∧ One q m (syncS S L1).1 p ∧ (syncS S L1).1.names = S.names := by
  rcases h.file with ⟨h1, _⟩ | ⟨i, h1, h2, h3⟩
  · obtain ⟨i, h2⟩ := hn; rw [h1] at h2; cases h2
  · have e : openS S L1 (isN L1) = (i, 0) := by rw [isN_L1]; exact openS_is h.down (by rw [h1]; rfl)
    unfold syncS
    rw [e, if_pos rfl]
    obtain ⟨c1, c2, c3, c4, c5, _⟩ := count_one (S := setF S i ((fileAt S i).1, lenOf S i)) (m := m) h.left h.down
    refine ⟨rfl, ⟨c5.trans h.quota, c1, c2, .inr ⟨i, c3.trans h1, ?_, ?_⟩⟩, c3⟩
    · rw [c4]; simp [setF, h2]
    · have e4 : fileAt (count (setF S i ((fileAt S i).1, lenOf S i))) i = fileAt (setF S i ((fileAt S i).1, lenOf S i)) i := fileAt_files c4 _
      rw [e4, fileAt_set h2, h3]
theorem One.syncDir {q : Int} {m : Nat} {S : St} {p : Bys} (h : One q (m + 1) S p) : (syncDirS S).2 = 0 ∧ One q m (syncDirS S).1 p ∧ (syncDirS S).1.names = S.names := by
  unfold syncDirS
  rw [if_neg (by rw [h.down]; decide)]
  obtain ⟨c1, c2, c3, c4, c5, _⟩ := count_one (S := settle S S.pend.length) (m := m) h.left h.down
  refine ⟨rfl, ⟨c5.trans h.quota, c1, c2, ?_⟩, c3⟩
  rcases h.file with ⟨h1, h2⟩ | ⟨i, h1, h2, h3⟩
  · exact .inl ⟨c3.trans h1, h2⟩
  · refine .inr ⟨i, c3.trans h1, by rw [c4]; exact h2, ?_⟩
    have e4 : fileAt (count (settle S S.pend.length)) i = fileAt S i := fileAt_files c4 _
    rw [e4, h3]
/-- a frame is written -/
theorem One.write {q : Int} {m : Nat} {S : St} {p : Bys} (h : One q (m + 3) S p) (b : Bys) (hq : (p.length : Int) + b.length ≤ q) : (writeL S L1 b).2.1 = false ∧ (writeL S L1 b).2.2 = 0 ∧ One q m (writeL S L1 b).1 (p ++ b) ∧ ∃ i, (writeL S L1 b).1.names = [(L1, i)] := by
  obtain ⟨a1, a2, a3⟩ := (show One q (m + 2 + 1) S p from h).append b hq
  obtain ⟨b1, b2, b3⟩ := (show One q (m + 1 + 1) _ _ from a2).sync a3
  obtain ⟨d1, d2, d3⟩ := (show One q (m + 1) _ _ from b2).syncDir
  obtain ⟨i, hi⟩ := a3
  unfold writeL wr3 wr2 wr1
  rw [if_neg (by rw [h.down]; decide), if_neg (by rw [a1]; decide), if_neg (by rw [b1]; decide)]
  split
  · exact ⟨rfl, rfl, b2.less (by omega), i, b3.trans hi⟩
  · rw [if_neg (by rw [d1]; decide)]
    exact ⟨rfl, rfl, d2, i, d3.trans (b3.trans hi)⟩

/-! ### a disk of one file is repaired -/
theorem One.repair {q : Int} {m : Nat} {S : St} {p : Bys} (h : One q (m + 5) S p) (hn : ∃ i, S.names = [(L1, i)]) (g : Bys) (hq : (p.length : Int) + g.length ≤ q) : (repairS S L1 g).2 = 0 ∧ One q m (repairS S L1 g).1 g ∧ ∃ i, (repairS S L1 g).1.names = [(L1, i)] := by
  rcases h.file with ⟨h1, _⟩ | ⟨i, h1, h2, h3⟩
  · obtain ⟨i, h2⟩ := hn; rw [h1] at h2; cases h2
  have hu := h.used
  -- the removal finds nothing
  have r1 : rep1 S = (S, 6) := by
    unfold rep1 removeS
    have e : openS S tmpL (isN tmpL) = (0, 6) := by rw [isN_tmp]; exact openS_no h.down (by rw [h1]; rfl)
    rw [e]
    rfl
  -- the bytes before the rest
  obtain ⟨S2, hS2, f2, n2, q2, d2, l2⟩ : ∃ S2, rep2 S g = (S2, 0) ∧ S2.files = S.files ++ [(g, 0)] ∧ S2.names = [(L1, i), (tmpL, S.files.length)] ∧ S2.quota = q ∧ S2.down = false ∧ (S2.left = 0 ∨ m + 4 < S2.left) := by
    obtain ⟨c1, c2, c3, c4, c5, _⟩ := count_one (S := addB (chg (addF S) ⟨[], tmpL, some S.files.length⟩) S.files.length g) (m := m + 4) h.left h.down
    refine ⟨count (addB (chg (addF S) ⟨[], tmpL, some S.files.length⟩) S.files.length g), ?_, ?_, ?_, ?_, c1, c2⟩
    · unfold rep2
      rw [r1]
      unfold appendS
      rw [if_neg (by rw [h.down]; decide), if_pos isN_tmp, if_neg (by rw [hu, h.quota]; omega)]
      have e : findN S.names tmpL = none := by rw [h1]; rfl
      rw [e]
    · rw [c4]
      simp [addB, chg, addF, setF, fileAt, List.getD]
    · rw [c3]
      show Chg.app ⟨[], tmpL, some S.files.length⟩ S.names = _
      rw [h1]; rfl
    · rw [c5]; exact h.quota
  -- the sync
  obtain ⟨S3, hS3, f3, n3, q3, d3, l3⟩ : ∃ S3, rep3 S g = (S3, 0) ∧ S3.files = S.files ++ [(g, g.length)] ∧ S3.names = [(L1, i), (tmpL, S.files.length)] ∧ S3.quota = q ∧ S3.down = false ∧ (S3.left = 0 ∨ m + 3 < S3.left) := by
    have e : openS S2 tmpL (isN tmpL) = (S.files.length, 0) := by rw [isN_tmp]; exact openS_is d2 (by rw [n2]; rfl)
    have ef : fileAt S2 S.files.length = (g, 0) := by unfold fileAt; rw [f2]; simp [List.getD]
    obtain ⟨c1, c2, c3, c4, c5, _⟩ := count_one (S := setF S2 S.files.length ((fileAt S2 S.files.length).1, lenOf S2 S.files.length)) (m := m + 3) l2 d2
    refine ⟨count (setF S2 S.files.length ((fileAt S2 S.files.length).1, lenOf S2 S.files.length)), ?_, ?_, c3.trans n2, c5.trans q2, c1, c2⟩
    · unfold rep3
      rw [hS2]
      unfold syncS
      rw [e]
      rfl
    · rw [c4]
      unfold setF lenOf
      unfold fileAt at ef
      rw [show fileAt S2 S.files.length = (g, 0) from ef, ef, f2]
      simp
  -- the new name
  obtain ⟨S4, hS4, f4, n4, q4, d4, l4⟩ : ∃ S4, rep4 S L1 g = (S4, 0) ∧ S4.files = S.files ++ [(g, g.length)] ∧ S4.names = [(L1, S.files.length)] ∧ S4.quota = q ∧ S4.down = false ∧ (S4.left = 0 ∨ m + 2 < S4.left) := by
    have e : openS S3 tmpL (isN tmpL && isN L1) = (S.files.length, 0) := by rw [isN_tmp, isN_L1]; exact openS_is d3 (by rw [n3]; rfl)
    obtain ⟨c1, c2, c3, c4, c5, _⟩ := count_one (S := chg S3 ⟨tmpL, L1, some S.files.length⟩) (m := m + 2) l3 d3
    refine ⟨count (chg S3 ⟨tmpL, L1, some S.files.length⟩), ?_, c4.trans f3, ?_, c5.trans q3, c1, c2⟩
    · unfold rep4
      rw [hS3]
      unfold renameS
      rw [e]
      rfl
    · rw [c3]
      show Chg.app ⟨tmpL, L1, some S.files.length⟩ S3.names = _
      rw [n3]; rfl
  obtain ⟨S5, hS5, f5, n5, q5, d5, l5⟩ : ∃ S5, rep5 S L1 g = (S5, 0) ∧ S5.files = S.files ++ [(g, g.length)] ∧ S5.names = [(L1, S.files.length)] ∧ S5.quota = q ∧ S5.down = false ∧ (S5.left = 0 ∨ m + 1 < S5.left) := by
    obtain ⟨c1, c2, c3, c4, c5, _⟩ := count_one (S := settle S4 S4.pend.length) (m := m + 1) l4 d4
    refine ⟨count (settle S4 S4.pend.length), ?_, c4.trans f4, c3.trans n4, c5.trans q4, c1, c2⟩
    unfold rep5
    rw [hS4]
    unfold syncDirS
    rw [if_neg (by simp only [d4]; decide)]
  have hr : repairS S L1 g = (S5, 0) := by
    unfold repairS
    rw [r1, hS2, hS3, hS4, hS5]
    simp
  rw [hr]
  refine ⟨rfl, ⟨q5, d5, (show S5.left = 0 ∨ m < S5.left by omega), .inr ⟨S.files.length, n5, by rw [f5]; simp, ?_⟩⟩, _, n5⟩
  unfold fileAt
  rw [f5]
  simp [List.getD]
/-- opening a disk of one file -/
theorem One.open {q : Int} {m : Nat} {S : St} {p : Bys} (h : One q (m + 5) S p) (hq : (p.length : Int) + p.length ≤ q) :
    (openL S L1).2 = 0 ∧ One q m (openL S L1).1 (p.take (hadL p).2) ∧ ((hadL p).2 = p.length → (openL S L1).1 = S) ∧ ((∃ i, S.names = [(L1, i)]) → ∃ i, (openL S L1).1.names = [(L1, i)]) := by
  obtain ⟨r1, r2⟩ := h.read
  obtain ⟨a1, a2, a3⟩ := had_again p
  unfold openL
  rw [if_neg (by rcases r2 with r2 | r2 <;> rw [r2] <;> decide), r1]
  by_cases he : (hadL p).2 = p.length
  · rw [if_pos he, he, List.take_length]
    exact ⟨rfl, h.less (by omega), fun _ => rfl, fun hn => hn⟩
  · rw [if_neg he]
    have hn : ∃ i, S.names = [(L1, i)] := by
      rcases h.file with ⟨_, h2⟩ | ⟨i, h1, _⟩
      · exact absurd (by rw [h2]; unfold hadL; rw [scan_nil]; rfl) he
      · exact ⟨i, h1⟩
    obtain ⟨b1, b2, b3⟩ := h.repair hn (p.take (hadL p).2) (by rw [a2]; omega)
    exact ⟨b1, b2, fun e => absurd e he, fun _ => b3⟩
/-- adding to a disk of one file -/
theorem One.add {q : Int} {m : Nat} {S : St} {p : Bys} (h : One q (m + 3) S p) {es : List Ent} {en : Nat} {e : Ent} (hok : okE e = true) (hg : goesE (lastT es) e.f = true) (hq : (p.length : Int) + (8 + (bytesE e).length : Nat) ≤ q) :
    (addL S L1 es en false e).c = 0 ∧ (addL S L1 es en false e).es = es ++ [e] ∧ (addL S L1 es en false e).en = en + (8 + (bytesE e).length) ∧ (addL S L1 es en false e).br = false ∧ One q m (addL S L1 es en false e).S (p ++ frameL (bytesE e)) ∧ ∃ i, (addL S L1 es en false e).S.names = [(L1, i)] := by
  obtain ⟨w1, w2, w3, w4⟩ := h.write (frameL (bytesE e)) (by rw [frameL_len]; omega)
  unfold addL
  rw [if_neg (by rw [hok]; decide), if_neg (by rw [hg]; decide), if_neg (by decide), if_neg (by rw [w2]; decide)]
  exact ⟨rfl, rfl, rfl, rfl, w3, w4⟩
end Go.Proofs.YtggognnjnfphgaaGreatDoor
namespace Go.Proofs.YtggognnjnfphgaaGreatDoor

def gS (q : Int) (c : Bys) (s l : Nat) (dn : Bool) : St := ⟨q, [(c, s)], [(L1, 0)], [(L1, 0)], [], l, dn⟩
def nS (q : Int) (c : Bys) (s l : Nat) (dn : Bool) : St := ⟨q, [(c, s)], [(L1, 0)], [], [⟨[], L1, some 0⟩], l, dn⟩
def eS (q : Int) (l : Nat) : St := ⟨q, [], [], [], [], l, false⟩
theorem e_append (q : Int) (l : Nat) (b : Bys) (hl : l ≠ 0) (hq : (b.length : Int) ≤ q) : appendS (eS q l) L1 b = (nS q b 0 (l - 1) (decide (l - 1 = 0)), 0) := by
  unfold appendS
  rw [if_neg (by simp [eS]), if_pos (by decide), if_neg (by simp [used, eS]; omega)]
  have e : (addB (chg (addF (eS q l)) ⟨[], L1, some 0⟩) 0 b) = nS q b 0 l false := rfl
  show (count (addB (chg (addF (eS q l)) ⟨[], L1, some 0⟩) 0 b), (0 : Int)) = _
  rw [e]
  unfold count
  rw [if_neg (show ¬ (nS q b 0 l false).left = 0 from hl)]
  rfl
theorem g_append (q : Int) (c b : Bys) (s l : Nat) (hl : l ≠ 0) (hq : (c.length : Int) + b.length ≤ q) : appendS (gS q c s l false) L1 b = (gS q (c ++ b) s (l - 1) (decide (l - 1 = 0)), 0) := by
  unfold appendS
  rw [if_neg (by simp [gS]), if_pos (by decide), if_neg (by simp [used, gS, lenOf]; omega)]
  have e : addB (gS q c s l false) 0 b = gS q (c ++ b) s l false := rfl
  show (count (addB (gS q c s l false) 0 b), (0 : Int)) = _
  rw [e]
  unfold count
  rw [if_neg (show ¬ (gS q (c ++ b) s l false).left = 0 from hl)]
  rfl
theorem g_sync (q : Int) (c : Bys) (s l : Nat) (hl : l ≠ 0) : syncS (gS q c s l false) L1 = (gS q c c.length (l - 1) (decide (l - 1 = 0)), 0) := by
  show (count (gS q c c.length l false), (0 : Int)) = _
  unfold count
  rw [if_neg (show ¬ (gS q c c.length l false).left = 0 from hl)]
  rfl
theorem n_sync (q : Int) (c : Bys) (s l : Nat) (hl : l ≠ 0) : syncS (nS q c s l false) L1 = (nS q c c.length (l - 1) (decide (l - 1 = 0)), 0) := by
  show (count (nS q c c.length l false), (0 : Int)) = _
  unfold count
  rw [if_neg (show ¬ (nS q c c.length l false).left = 0 from hl)]
  rfl
theorem n_dir (q : Int) (c : Bys) (s l : Nat) (hl : l ≠ 0) : syncDirS (nS q c s l false) = (gS q c s (l - 1) (decide (l - 1 = 0)), 0) := by
  show (count (gS q c s l false), (0 : Int)) = _
  unfold count
  rw [if_neg (show ¬ (gS q c s l false).left = 0 from hl)]
  rfl
theorem g_sync_no (q : Int) (c : Bys) (s l : Nat) : syncS (gS q c s l true) L1 = (gS q c s l true, 5) := rfl
theorem n_sync_no (q : Int) (c : Bys) (s l : Nat) : syncS (nS q c s l true) L1 = (nS q c s l true, 5) := rfl
theorem n_dir_no (q : Int) (c : Bys) (s l : Nat) : syncDirS (nS q c s l true) = (nS q c s l true, 5) := rfl

/-! ### the restart -/
def cutK (c : Bys) (s : Nat) (ch : Bys) : Nat := s + head ch.tail * (c.length - s + 1) / 256
theorem g_restart (q : Int) (c : Bys) (s l : Nat) (dn : Bool) (ch : Bys) : restartS (gS q c s l dn) ch = gS q (c.take (cutK c s ch)) (cutK c s ch) 0 false := by
  have e : restart1 (gS q c s l dn) ch = gS q c s l dn := by
    unfold restart1 settle
    simp [gS, runs]
  unfold restartS restart2
  rw [e]
  rfl
theorem n_restart (q : Int) (c : Bys) (s l : Nat) (dn : Bool) (ch : Bys) : restartS (nS q c s l dn) ch = ⟨q, [(c, s)], [], [], [], 0, false⟩ ∨ restartS (nS q c s l dn) ch = gS q (c.take (cutK c s ch)) (cutK c s ch) 0 false := by
  have hm : head ch % 2 = 0 ∨ head ch % 2 = 1 := by omega
  rcases hm with hm | hm
  · left
    have e : restart1 (nS q c s l dn) ch = ⟨q, [(c, s)], [(L1, 0)], [], [], l, dn⟩ := by
      unfold restart1 settle
      have : head ch % ((nS q c s l dn).pend.length + 1) = 0 := hm
      rw [this]
      rfl
    unfold restartS restart2
    rw [e]
    rfl
  · right
    have e : restart1 (nS q c s l dn) ch = gS q c s l dn := by
      unfold restart1 settle
      have : head ch % ((nS q c s l dn).pend.length + 1) = 1 := hm
      rw [this]
      rfl
    unfold restartS restart2
    rw [e]
    rfl
theorem e_restart (q : Int) (l : Nat) (ch : Bys) : restartS (eS q l) ch = eS q 0 := by
  have e : restart1 (eS q l) ch = eS q l := by
    unfold restart1 settle
    simp [eS, runs]
  unfold restartS restart2
  rw [e]
  rfl
theorem one_g (q : Int) (m : Nat) (c : Bys) (s : Nat) : One q m (gS q c s 0 false) c := ⟨rfl, rfl, .inl rfl, .inr ⟨0, rfl, by simp [gS], rfl⟩⟩
theorem one_e (q : Int) (m : Nat) : One q m (eS q 0) [] := ⟨rfl, rfl, .inl rfl, .inl ⟨rfl, rfl⟩⟩
theorem after_g (q : Int) (m : Nat) (F x : Bys) (s l : Nat) (dn : Bool) (hs : F.length ≤ s) (ch : Bys) : ∃ j, One q m (restartS (gS q (F ++ x) s l dn) ch) (F ++ x.take j) := by
  rw [g_restart]
  have h1 : s ≤ cutK (F ++ x) s ch := Nat.le_add_right _ _
  have h2 : (F ++ x).take (cutK (F ++ x) s ch) = F ++ x.take (cutK (F ++ x) s ch - F.length) := by
    rw [List.take_append, List.take_of_length_le (by omega)]
  rw [h2]
  exact ⟨_, one_g _ _ _ _⟩
theorem after_n (q : Int) (m : Nat) (x : Bys) (s l : Nat) (dn : Bool) (ch : Bys) : ∃ j, One q m (restartS (nS q x s l dn) ch) (x.take j) := by
  rcases n_restart q x s l dn ch with h | h
  · rw [h]
    exact ⟨0, ⟨rfl, rfl, .inl rfl, .inl ⟨rfl, by simp⟩⟩⟩
  · rw [h]
    exact ⟨_, one_g _ _ _ _⟩

/-! ### a journal of k entries on a disk that breaks behind N changes -/
def stA (q : Int) (N : Nat) (F : Bys) (k : Nat) : St := if k = 0 then eS q N else gS q F F.length (N - (2 * k + 1)) (decide (N ≤ 2 * k + 1))
theorem after_st (q : Int) (m N k : Nat) (F : Bys) (hk : k = 0 → F = []) (ch : Bys) : One q m (restartS (stA q N F k) ch) F := by
  unfold stA
  split
  · rename_i h0
    rw [e_restart, hk h0]
    exact one_e _ _
  · have := after_g q m F [] F.length (N - (2 * k + 1)) (decide (N ≤ 2 * k + 1)) (Nat.le_refl _) ch
    obtain ⟨j, h⟩ := this
    simpa using h
theorem write_step (q : Int) (N k : Nat) (F fr : Bys) (hN : 1 ≤ N) (hk : k = 0 → F = []) (hq : (F.length : Int) + fr.length ≤ q) :
    ((writeL (stA q N F k) L1 fr).2.2 = 0 ∧ (writeL (stA q N F k) L1 fr).1 = stA q N (F ++ fr) (k + 1)) ∨
    ((writeL (stA q N F k) L1 fr).2.2 ≠ 0 ∧ ∀ (m : Nat) (ch : Bys), ∃ j, One q m (restartS (writeL (stA q N F k) L1 fr).1 ch) (F ++ fr.take j)) := by
  have hst : ∀ F' : Bys, stA q N F' (k + 1) = gS q F' F'.length (N - (2 * (k + 1) + 1)) (decide (N ≤ 2 * (k + 1) + 1)) := fun F' => by unfold stA; rw [if_neg (by omega)]
  by_cases h0 : k = 0
  · subst h0
    obtain rfl := hk rfl
    rw [hst]
    have e0 : stA q N [] 0 = eS q N := by unfold stA; rw [if_pos rfl]
    have a1 := e_append q N fr (by omega) (by simp at hq; omega)
    rw [e0]
    have hw1 : wr1 (eS q N) L1 fr = (nS q fr 0 (N - 1) (decide (N - 1 = 0)), 0) := a1
    have hf : (findN (eS q N).names L1).isSome = false := rfl
    by_cases h1 : N = 1
    · right
      have d1 : decide (N - 1 = 0) = true := by simp; omega
      rw [d1] at hw1
      have hw2 : wr2 (eS q N) L1 fr = (nS q fr 0 (N - 1) true, 5) := by unfold wr2; rw [hw1]; rfl
      have hr : writeL (eS q N) L1 fr = (nS q fr 0 (N - 1) true, true, 5) := by
        unfold writeL
        rw [hw1, hw2]
        rfl
      rw [hr]
      exact ⟨by simp, fun m ch => after_n q m fr 0 (N - 1) true ch⟩
    · have d1 : decide (N - 1 = 0) = false := by simp; omega
      rw [d1] at hw1
      have hw2 : wr2 (eS q N) L1 fr = (nS q fr fr.length (N - 1 - 1) (decide (N - 1 - 1 = 0)), 0) := by
        unfold wr2
        rw [hw1]
        exact n_sync q fr 0 (N - 1) (by omega)
      by_cases h2 : N = 2
      · right
        have d2 : decide (N - 1 - 1 = 0) = true := by simp; omega
        rw [d2] at hw2
        have hw3 : wr3 (eS q N) L1 fr = (nS q fr fr.length (N - 1 - 1) true, 5) := by unfold wr3; rw [hw2]; rfl
        have hr : writeL (eS q N) L1 fr = (nS q fr fr.length (N - 1 - 1) true, true, 5) := by
          unfold writeL
          rw [hw1, hw2, hw3, hf]
          rfl
        rw [hr]
        exact ⟨by simp, fun m ch => after_n q m fr fr.length (N - 1 - 1) true ch⟩
      · left
        have d2 : decide (N - 1 - 1 = 0) = false := by simp; omega
        rw [d2] at hw2
        have hw3 : wr3 (eS q N) L1 fr = (gS q fr fr.length (N - 1 - 1 - 1) (decide (N - 1 - 1 - 1 = 0)), 0) := by
          unfold wr3
          rw [hw2]
          exact n_dir q fr fr.length (N - 1 - 1) (by omega)
        have hr : writeL (eS q N) L1 fr = (gS q fr fr.length (N - 1 - 1 - 1) (decide (N - 1 - 1 - 1 = 0)), false, 0) := by
          unfold writeL
          rw [hw1, hw2, hw3, hf]
          rfl
        rw [hr]
        refine ⟨rfl, ?_⟩
        have d3 : decide (N - 1 - 1 - 1 = 0) = decide (N ≤ 2 * (0 + 1) + 1) := by rw [decide_eq_decide]; omega
        rw [d3, show N - 1 - 1 - 1 = N - (2 * (0 + 1) + 1) by omega]
        rfl
  · have e0 : stA q N F k = gS q F F.length (N - (2 * k + 1)) (decide (N ≤ 2 * k + 1)) := by unfold stA; rw [if_neg h0]
    rw [e0, hst]
    by_cases h1 : N ≤ 2 * k + 1
    · right
      have d1 : decide (N ≤ 2 * k + 1) = true := by simpa using h1
      rw [d1]
      have hr : writeL (gS q F F.length (N - (2 * k + 1)) true) L1 fr = (gS q F F.length (N - (2 * k + 1)) true, false, 5) := rfl
      rw [hr]
      refine ⟨by simp, fun m ch => ⟨0, ?_⟩⟩
      obtain ⟨j, h⟩ := after_g q m F [] F.length (N - (2 * k + 1)) true (Nat.le_refl _) ch
      simpa using h
    · have d1 : decide (N ≤ 2 * k + 1) = false := by simpa using h1
      rw [d1]
      obtain ⟨l, hl⟩ : ∃ l, l = N - (2 * k + 1) := ⟨_, rfl⟩
      rw [← hl]
      have hw1 : wr1 (gS q F F.length l false) L1 fr = (gS q (F ++ fr) F.length (l - 1) (decide (l - 1 = 0)), 0) := g_append q F fr F.length l (by omega) hq
      have hf : (findN (gS q F F.length l false).names L1).isSome = true := rfl
      by_cases h2 : l = 1
      · right
        have d2 : decide (l - 1 = 0) = true := by simp; omega
        rw [d2] at hw1
        have hw2 : wr2 (gS q F F.length l false) L1 fr = (gS q (F ++ fr) F.length (l - 1) true, 5) := by unfold wr2; rw [hw1]; rfl
        have hr : writeL (gS q F F.length l false) L1 fr = (gS q (F ++ fr) F.length (l - 1) true, true, 5) := by
          unfold writeL
          rw [hw1, hw2]
          rfl
        rw [hr]
        exact ⟨by simp, fun m ch => after_g q m F fr F.length (l - 1) true (Nat.le_refl _) ch⟩
      · left
        have d2 : decide (l - 1 = 0) = false := by simp; omega
        rw [d2] at hw1
        have hw2 : wr2 (gS q F F.length l false) L1 fr = (gS q (F ++ fr) (F ++ fr).length (l - 1 - 1) (decide (l - 1 - 1 = 0)), 0) := by
          unfold wr2
          rw [hw1]
          exact g_sync q (F ++ fr) F.length (l - 1) (by omega)
        have hr : writeL (gS q F F.length l false) L1 fr = (gS q (F ++ fr) (F ++ fr).length (l - 1 - 1) (decide (l - 1 - 1 = 0)), false, 0) := by
          unfold writeL
          rw [hw1, hw2, hf]
          rfl
        rw [hr]
        refine ⟨rfl, ?_⟩
        have d3 : decide (l - 1 - 1 = 0) = decide (N ≤ 2 * (k + 1) + 1) := by rw [decide_eq_decide]; omega
        rw [d3, show l - 1 - 1 = N - (2 * (k + 1) + 1) by omega]

/-! ### entries added one after the other -/
def iterA (S0 : St) (es : List Ent) : Nat → Added
  | 0 => ⟨S0, [], 0, false, 0⟩
  | k + 1 => match es[k]? with
    | some e => addL (iterA S0 es k).S L1 (iterA S0 es k).es (iterA S0 es k).en (iterA S0 es k).br e
    | none => iterA S0 es k
theorem iterA_succ {S0 : St} {es : List Ent} {k : Nat} {e : Ent} (h : es[k]? = some e) : iterA S0 es (k + 1) = addL (iterA S0 es k).S L1 (iterA S0 es k).es (iterA S0 es k).en (iterA S0 es k).br e := by
  rw [iterA, h]
def frL (es : List Ent) (k : Nat) : Bys := rowF ((es.take k).map bytesE)
theorem frL_succ {es : List Ent} {k : Nat} {e : Ent} (h : es[k]? = some e) : frL es (k + 1) = frL es k ++ frameL (bytesE e) := by
  unfold frL
  rw [List.take_add_one, h, List.map_append, row_append]
  simp [rowF]
theorem links_next {es : List Ent} (h : Links none es) {k : Nat} {e : Ent} (hk : es[k]? = some e) : goodE e ∧ goesE (lastT (es.take k)) e.f = true := by
  have key : ∀ (es : List Ent) (p : Option Int) (k : Nat) (e : Ent), Links p es → es[k]? = some e → goodE e ∧ goesE (lastO p (es.take k)) e.f = true := by
    intro es
    induction es with
    | nil => intro p k e _ hk; simp at hk
    | cons x r ih =>
      intro p k e h hk
      cases k with
      | zero =>
        simp only [List.getElem?_cons_zero, Option.some.injEq] at hk
        subst hk
        exact ⟨h.2.1, by rw [List.take_zero]; exact h.1⟩
      | succ k =>
        have := ih _ k e h.2.2 (by simpa using hk)
        rw [List.take_succ_cons, lastO_cons]
        exact this
  have := key es none k e h hk
  rwa [lastO_none] at this
theorem frL_le (es : List Ent) : ∀ k, (frL es k).length ≤ (frL es es.length).length := by
  intro k
  unfold frL
  rw [List.take_length]
  have : rowF (es.map bytesE) = rowF ((es.take k).map bytesE) ++ rowF ((es.drop k).map bytesE) := by rw [← row_append, ← List.map_append, List.take_append_drop]
  rw [this, List.length_append]
  omega
theorem add_is {S : St} {es : List Ent} {en : Nat} {e : Ent} (hg : goodE e) (hl : goesE (lastT es) e.f = true) :
    addL S L1 es en false e = if (writeL S L1 (frameL (bytesE e))).2.2 ≠ 0 then ⟨(writeL S L1 (frameL (bytesE e))).1, es, en, (writeL S L1 (frameL (bytesE e))).2.1, (writeL S L1 (frameL (bytesE e))).2.2⟩
      else ⟨(writeL S L1 (frameL (bytesE e))).1, es ++ [e], en + (8 + (bytesE e).length), false, 0⟩ := by
  unfold addL
  rw [if_neg (by rw [hg.1]; decide), if_neg (by rw [hl]; decide), if_neg (by decide)]
/-- on a disk that breaks: while all is well .. -/
theorem iter_good {q : Int} {N : Nat} {es : List Ent} (h : Links none es) (hN : 1 ≤ N) (hq : ((frL es es.length).length : Int) ≤ q) : ∀ k, k ≤ es.length → (∀ j, j ≤ k → (iterA (eS q N) es j).c = 0) →
    iterA (eS q N) es k = ⟨stA q N (frL es k) k, es.take k, (frL es k).length, false, 0⟩ := by
  intro k
  induction k with
  | zero => intro _ _; simp [iterA, stA, frL, rowF]
  | succ k ih =>
    intro hk hc
    have hik := ih (by omega) fun j hj => hc j (by omega)
    obtain ⟨e, he⟩ : ∃ e, es[k]? = some e := ⟨es[k], List.getElem?_eq_getElem _⟩
    obtain ⟨hg, hl⟩ := links_next h he
    have hck := hc (k + 1) (Nat.le_refl _)
    have hle := frL_le es (k + 1)
    rw [frL_succ he, List.length_append] at hle
    rw [iterA_succ he, hik] at hck ⊢
    simp only at hck ⊢
    rw [add_is hg hl] at hck ⊢
    rcases write_step q N k (frL es k) (frameL (bytesE e)) hN (fun h0 => by subst h0; simp [frL, rowF]) (by omega) with ⟨w1, w2⟩ | ⟨w1, _⟩
    · rw [if_neg (by rw [w1]; decide), w2, frL_succ he, List.take_add_one, he, List.length_append, frameL_len]
      rfl
    · rw [if_pos w1] at hck
      exact absurd hck w1
/-- .. and where one falls -/
theorem iter_fall {q : Int} {N : Nat} {es : List Ent} (h : Links none es) (hN : 1 ≤ N) (hq : ((frL es es.length).length : Int) ≤ q) {k : Nat} {e : Ent} (he : es[k]? = some e) (hc : ∀ j, j ≤ k → (iterA (eS q N) es j).c = 0) (hf : (iterA (eS q N) es (k + 1)).c ≠ 0) (m : Nat) (ch : Bys) :
    ∃ j, One q m (restartS (iterA (eS q N) es (k + 1)).S ch) (frL es k ++ (frameL (bytesE e)).take j) := by
  have hk : k < es.length := (List.getElem?_eq_some_iff.1 he).1
  have hik := iter_good h hN hq k (by omega) hc
  obtain ⟨hg, hl⟩ := links_next h he
  have hle := frL_le es (k + 1)
  rw [frL_succ he, List.length_append] at hle
  rw [iterA_succ he, hik] at hf ⊢
  simp only at hf ⊢
  rw [add_is hg hl] at hf ⊢
  rcases write_step q N k (frL es k) (frameL (bytesE e)) hN (fun h0 => by subst h0; simp [frL, rowF]) (by omega) with ⟨w1, w2⟩ | ⟨w1, w2⟩
  · rw [if_neg (by rw [w1]; decide)] at hf
    exact absurd rfl hf
  · rw [if_pos w1]
    exact w2 m ch
theorem links_snoc {es : List Ent} (h : Links none es) {k : Nat} {e : Ent} (he : es[k]? = some e) : Links none (es.take k ++ [e]) := by
  have := links_take es none (k + 1) h
  rwa [List.take_add_one, he] at this
/-- what a journal has that is opened behind a restart -/
theorem keeps {q : Int} {N : Nat} {es : List Ent} (h : Links none es) (hN : 1 ≤ N) (hq : ((frL es es.length).length : Int) ≤ q) {d m : Nat} (hd : ∀ j, j ≤ d → (iterA (eS q N) es j).c = 0)
    (hm : (m = d ∧ d = es.length) ∨ (m = d + 1 ∧ d < es.length ∧ (iterA (eS q N) es m).c ≠ 0)) (M : Nat) (ch : Bys) :
    ∃ p k, One q M (restartS (iterA (eS q N) es m).S ch) p ∧ p.length ≤ (frL es es.length).length ∧ d ≤ k ∧ k ≤ d + 1 ∧ k ≤ m ∧ (hadL p).1 = es.take k := by
  rcases hm with ⟨rfl, rfl⟩ | ⟨rfl, hlt, hf⟩
  · rw [iter_good h hN hq es.length (Nat.le_refl _) hd]
    refine ⟨frL es es.length, es.length, after_st q M N es.length _ (fun h0 => by rw [List.eq_nil_of_length_eq_zero h0]; simp [frL, rowF]) ch, Nat.le_refl _, Nat.le_refl _, by omega, Nat.le_refl _, ?_⟩
    unfold frL
    rw [List.take_length, had_whole h]
  · obtain ⟨e, he⟩ : ∃ e, es[d]? = some e := ⟨es[d], List.getElem?_eq_getElem _⟩
    obtain ⟨j, hj⟩ := iter_fall h hN hq he hd hf M ch
    have hle := frL_le es (d + 1)
    rw [frL_succ he, List.length_append] at hle
    have hc := had_cut (links_snoc h he) j
    have hpl : (frL es d ++ (frameL (bytesE e)).take j).length ≤ (frL es es.length).length := by rw [List.length_append, List.length_take]; omega
    by_cases hjl : j < 8 + (bytesE e).length
    · rw [if_pos hjl] at hc
      refine ⟨_, d, hj, hpl, Nat.le_refl _, by omega, by omega, ?_⟩
      have : hadL (frL es d ++ (frameL (bytesE e)).take j) = (es.take d, (rowF ((es.take d).map bytesE)).length) := hc
      rw [this]
    · rw [if_neg hjl] at hc
      refine ⟨_, d + 1, hj, hpl, by omega, Nat.le_refl _, Nat.le_refl _, ?_⟩
      have : hadL (frL es d ++ (frameL (bytesE e)).take j) = _ := hc
      rw [this, List.take_add_one, he]
      rfl
/-- on a disk that doesn't break soon -/
theorem iter_long {q : Int} {N : Nat} {es : List Ent} (h : Links none es) (hN : 1000000 ≤ N) (hn : es.length ≤ 1000) (hq : ((frL es es.length).length : Int) ≤ q) : ∀ k, k ≤ es.length →
    iterA (eS q N) es k = ⟨stA q N (frL es k) k, es.take k, (frL es k).length, false, 0⟩ := by
  intro k
  induction k with
  | zero => intro _; simp [iterA, stA, frL, rowF]
  | succ k ih =>
    intro hk
    have hik := ih (by omega)
    obtain ⟨e, he⟩ : ∃ e, es[k]? = some e := ⟨es[k], List.getElem?_eq_getElem _⟩
    obtain ⟨hg, hl⟩ := links_next h he
    have hle := frL_le es (k + 1)
    rw [frL_succ he, List.length_append] at hle
    rw [iterA_succ he, hik]
    simp only
    rw [add_is hg hl]
    rcases write_step q N k (frL es k) (frameL (bytesE e)) (by omega) (fun h0 => by subst h0; simp [frL, rowF]) (by omega) with ⟨w1, w2⟩ | ⟨w1, w2⟩
    · rw [if_neg (by rw [w1]; decide), w2, frL_succ he, List.take_add_one, he, List.length_append, frameL_len]
      rfl
    · exfalso
      have hone : One q 100 (stA q N (frL es k) k) (frL es k) := by
        unfold stA
        split
        · rename_i h0
          subst h0
          exact ⟨rfl, rfl, .inr (show 100 < N by omega), .inl ⟨rfl, by simp [frL, rowF]⟩⟩
        · have : decide (N ≤ 2 * k + 1) = false := by simp; omega
          rw [this]
          exact ⟨rfl, rfl, .inr (show 100 < N - (2 * k + 1) by omega), .inr ⟨0, rfl, by simp [gS], rfl⟩⟩
      exact w1 ((show One q (97 + 3) _ _ from hone).write _ (by omega)).2.1
theorem one_st {q : Int} {N k : Nat} {F : Bys} (hN : 1000000 ≤ N) (hk : k ≤ 1000) (h0 : k = 0 → F = []) : One q 100 (stA q N F k) F := by
  unfold stA
  split
  · rename_i h
    rw [h0 h]
    exact ⟨rfl, rfl, .inr (show 100 < N by omega), .inl ⟨rfl, rfl⟩⟩
  · have : decide (N ≤ 2 * k + 1) = false := by simp; omega
    rw [this]
    exact ⟨rfl, rfl, .inr (show 100 < N - (2 * k + 1) by omega), .inr ⟨0, rfl, by simp [gS], rfl⟩⟩
end Go.Proofs.YtggognnjnfphgaaGreatDoor
namespace Go.Proofs.YtggognnjnfphgaaGreatDoor
open Go.RowKit Go.Sort Go.Shelf

def fileL (g : Nat) : List UInt8 := [108, 111, 103, 45] ++ Lib.decDigits g
theorem small_at (u : Nat) (hu : u < 100) (w : World) : Calls Tryz.prog 76 #[.int .i64 (u : Nat)] w fun e w' => e = .returned (.string (mk (Lib.decDigits u))) ∧ w' = w :=
  Any.internal_strconv_small smallL u hu w
theorem digits_at (u : Nat) (h1 : 1 ≤ u) (h2 : u < 18446744073709551616) (w : World) (htab : Lib.TabIs Tryz.prog w "internal/strconv.uint64pow10" .u64 Lib.pow10Tab) :
    Calls Tryz.prog 77 #[.int .u64 (u : Nat)] w fun e w' => e = .returned (.int .i64 (Lib.nDigits u : Nat)) ∧ w' = w :=
  Any.internal_strconv_numDigits digitsL u h1 h2 w htab
theorem holds_zero0 (w : World) (T : TypeId) (nd : Nat) (hs : nd ≤ 24) : Holds (fun (b : UInt8) => Value.int .u8 (b.toNat : Int)) (w.alloc (.cells Lib.zeros24 T)) w.heap.size 0 (Array.replicate nd (0 : UInt8)) := fun j hj => by
  have hj' : j < nd := by simpa using hj
  refine ⟨?_, World.frozen?_alloc_new _ _ _ _⟩
  rw [World.cell?_alloc_new, Lib.zeros24_at _ (by omega), getElem!_pos _ j hj]
  simp
theorem format_at (u : Nat) (hu : u < 18446744073709551616) (T : TypeId) (w : World) (h24 : Lib.nDigits u ≤ 24) :
    Calls Tryz.prog 78 #[.slice (some ⟨w.heap.size, 0, none⟩) (Lib.nDigits u) 24, .int .u64 (u : Nat)] (w.alloc (.cells Lib.zeros24 T)) fun e w' =>
      e = .returned (.tuple #[]) ∧ ∃ (n v' : Nat) (dk : Array UInt8), w' = (putRow (fun (b : UInt8) => Value.int .u8 (b.toNat : Int)) (w.alloc (.cells Lib.zeros24 T)) w.heap.size 0 dk).drewN n ∧ Lib.FmtInv (Lib.nDigits u) u 0 v' dk := by
  have h := Any.internal_strconv_formatBase10 formatL w.heap.size 0 24 u (Array.replicate (Lib.nDigits u) 0) (w.alloc (.cells Lib.zeros24 T)) (holds_zero0 w T _ h24) (by rw [Array.size_replicate]; exact Lib.lt_pow_nDigits u) hu (by rw [Array.size_replicate]; omega)
  rw [Array.size_replicate] at h
  exact h
theorem FormatI_small (u : Nat) (hu : u < 100) (w : World) :
    Calls Tryz.prog 48 #[.int .u64 (u : Nat), .int .i64 10] w fun e w' => e = .returned (.string (mk (Lib.decDigits u))) ∧ Below w.heap.size w w' := by
  have h1 : (u : Int) < 100 := by omega
  go_enter Tryz.func48, Tryz.ntmps48
  go_wp2_with fail
  refine (small_at u hu _).mono ?_
  rintro e w' ⟨rfl, rfl⟩
  go_wp2_with fail
  go_ret
  exact ⟨rfl, Below.refl _ _⟩
theorem put_below (w : World) (o : Obj) (dk : Array UInt8) (k : Nat) : Below w.heap.size w ((putRow (fun (b : UInt8) => Value.int .u8 (b.toNat : Int)) (w.alloc o) w.heap.size 0 dk).drewN k) := by
  rw [alloc_eq_grow]
  obtain ⟨os', _, e⟩ := putRow_grow_new (fun (b : UInt8) => Value.int .u8 (b.toNat : Int)) w #[o] w.heap.size 0 dk (Nat.le_refl _)
  rw [e]
  exact Lib.below_grow _ w (Nat.le_refl _) k os'
set_option maxRecDepth 20000 in
set_option maxHeartbeats 4000000 in
theorem FormatI_big (u : Nat) (hu0 : 100 ≤ u) (hu : u < 18446744073709551616) (w : World) (htab : Lib.TabIs Tryz.prog w "internal/strconv.uint64pow10" .u64 Lib.pow10Tab) :
    Calls Tryz.prog 48 #[.int .u64 (u : Nat), .int .i64 10] w fun e w' => e = .returned (.string (mk (Lib.decDigits u))) ∧ Below w.heap.size w w' := by
  have h1 : ¬ (u : Int) < 100 := by omega
  have hnd20 : Lib.nDigits u ≤ 20 := by have := Lib.numDigits_eq u (by omega) hu; split at this <;> omega
  have hfmt := format_at u hu 122 w (by omega)
  have HF := Lib.hid hfmt
  have HT := Lib.hid (digits_at u (by omega) hu _ (Lib.tabIs_alloc htab (.cells Lib.zeros24 122)))
  have hH0 := Lib.hid (holds_zero0 w 122 (Lib.nDigits u) (by omega))
  obtain ⟨nd, hnd⟩ : ∃ nd, nd = Lib.nDigits u := ⟨_, rfl⟩
  rw [← hnd] at hnd20 HT hH0
  have hnI : (nd : Int) ≤ 20 := by omega
  have hal : Tryz.prog.arrayLen 122 = 24 := by simp [Program.arrayLen, Tryz.underlying122]
  have hsl : ∀ W, (Instr.sliceAt 122 (.pointer (some ⟨w.heap.size, 0, none⟩)) none (some (.int .i64 (nd : Int))) none).run Tryz.prog W = .ok (.slice (some ⟨w.heap.size, 0, none⟩) nd 24) W := fun W => by
    rw [run_sliceAt_array_h W 122 ⟨w.heap.size, 0, none⟩ (by simp [Program.arrayLen, Program.elem, Tryz.underlying122]) .i64 (nd : Int) (by omega) (by rw [hal]; omega)]
    go_simp
  have HND := Lib.hid hnd
  clear hfmt htab hal hnd
  go_enter Tryz.func48, Tryz.ntmps48
  go_wp2_with fail
  refine Calls.mono HT.out ?_
  rintro e w' ⟨rfl, rfl⟩
  go_wp2_with fail
  have hf := HF.out
  rw [← HND.out] at hf
  refine hf.mono ?_
  rintro e w' ⟨rfl, k, v', dk, rfl, hFm⟩
  have hcv : (convert 81 9 (.slice (some ⟨w.heap.size, 0, none⟩) nd 24)).run Tryz.prog ((putRow (fun (b : UInt8) => Value.int .u8 (b.toNat : Int)) (w.alloc (.cells Lib.zeros24 122)) w.heap.size 0 dk).drewN k) = .ok (.string ⟨(Lib.decDigits u).toArray⟩) ((putRow (fun (b : UInt8) => Value.int .u8 (b.toNat : Int)) (w.alloc (.cells Lib.zeros24 122)) w.heap.size 0 dk).drewN k) := by
    have hFm' := hFm
    rw [HND.out] at hFm'
    have h := run_convert_bytes_back (P := Tryz.prog) ((putRow (fun (b : UInt8) => Value.int .u8 (b.toNat : Int)) (w.alloc (.cells Lib.zeros24 122)) w.heap.size 0 dk).drewN k) 81 9 5 ⟨w.heap.size, 0, none⟩ 24 (Lib.decDigits u) Tryz.underlying81 Tryz.underlying5 Tryz.underlying9 (fun j hj => by
      rw [Lib.row_is_numeral hFm' j hj, Lib.add_plain, World.cell?_drewN]
      exact cell?_putRow (fun (b : UInt8) => Value.int .u8 (b.toNat : Int)) _ w.heap.size 0 _ dk hH0.out (by rw [hFm.size, Array.size_replicate]) j (by rw [hFm.size]; rw [Lib.decDigits_length] at hj; rw [HND.out]; exact hj))
    rw [Lib.decDigits_length, ← HND.out] at h
    exact h
  have HB := Lib.hid (put_below w (.cells Lib.zeros24 122) dk k)
  clear hFm hf
  go_wp2_with fail
  go_ret
  exact ⟨rfl, HB.out⟩
theorem Format_any (u : Nat) (hu : u < 18446744073709551616) (w : World) (h : ∀ W, W = w → Calls Tryz.prog 48 #[.int .u64 (u : Nat), .int .i64 10] W fun e w' => e = .returned (.string (mk (Lib.decDigits u))) ∧ Below W.heap.size W w') :
    Calls Tryz.prog 8 #[.int .u64 (u : Nat)] w fun e w' => e = .returned (.string (mk (fileL u))) ∧ Below w.heap.size w w' := by
  obtain ⟨D, hD⟩ : ∃ D, D = mk (Lib.decDigits u) := ⟨_, rfl⟩
  have hn : (⟨#[108, 111, 103, 45]⟩ : ByteArray) ++ D = mk (fileL u) := by rw [hD]; exact mk_append [108, 111, 103, 45] (Lib.decDigits u)
  have HN := Lib.hid hn
  have hF : Calls Tryz.prog 25 #[.int .u64 (u : Nat), .int .i64 10] w fun e w' => e = .returned (.string D) ∧ Below w.heap.size w w' := by
    go_enter Tryz.func25, Tryz.ntmps25
    go_wp2_with fail
    have h2 := h w rfl
    rw [← hD] at h2
    have HD := Lib.hid hD
    clear hD
    refine h2.mono ?_
    rintro e w' ⟨rfl, hB⟩
    go_wp2_with fail
    go_ret
    exact ⟨rfl, hB⟩
  have hsz : (D.size : Int) ≤ 100 := by
    have : D.size = Lib.nDigits u := by rw [hD, mk_size, Lib.decDigits_length]
    have : Lib.nDigits u ≤ 20 := by
      rcases Nat.eq_zero_or_pos u with h0 | h0
      · rw [h0, Lib.nDigits_small (by omega)]; omega
      · have := Lib.numDigits_eq u h0 hu; split at this <;> omega
    omega
  have HF := Lib.hid hF
  clear hD hn hF h
  go_enter Tryz.func8, Tryz.ntmps8
  go_wp2_with fail
  refine Calls.mono HF.out ?_
  rintro e w' ⟨rfl, hB⟩
  have HB := Lib.hid hB
  clear hB
  go_wp2_with fail
  go_ret
  exact ⟨by rw [HN.out]; rfl, HB.out⟩
theorem Name_small (u : Nat) (hu : u < 100) (w : World) : Calls Tryz.prog 8 #[.int .u64 (u : Nat)] w fun e w' => e = .returned (.string (mk (fileL u))) ∧ Below w.heap.size w w' :=
  Format_any u (by omega) w fun _ _ => FormatI_small u hu _
theorem Name_any (u : Nat) (hu : u < 18446744073709551616) (w : World) (htab : Lib.TabIs Tryz.prog w "internal/strconv.uint64pow10" .u64 Lib.pow10Tab) : Calls Tryz.prog 8 #[.int .u64 (u : Nat)] w fun e w' => e = .returned (.string (mk (fileL u))) ∧ Below w.heap.size w w' :=
  Format_any u hu w fun W hW => by
    subst hW
    by_cases h : u < 100
    · exact FormatI_small u h _
    · exact FormatI_big u (by omega) hu _ htab
end Go.Proofs.YtggognnjnfphgaaGreatDoor
namespace Go.Proofs.YtggognnjnfphgaaGreatDoor
open Go.RowKit Go.Maps Go.Sort

abbrev logT : TypeId := 72
abbrev scT : TypeId := 69
/-- an entry as a value, with the records that its slices show -/
structure Ev where
  f : Int
  t : Int
  A : Option Addr
  n : Nat
  c : Nat
  xs : List Rrd
  A' : Option Addr
  n' : Nat
  c' : Nat
  ys : List Rrd
def Ev.ent (v : Ev) : Ent := entOf v.f v.t v.xs v.ys
def Ev.arr (v : Ev) : Array Value := enA v.f v.t v.A v.n v.c v.A' v.n' v.c'
def ecells (vs : List Ev) : List Value := vs.flatMap fun v => [.int .u32 v.f, .int .u32 v.t, .slice v.A v.n v.c, .slice v.A' v.n' v.c']
theorem ecells_nil : ecells [] = [] := rfl
theorem ecells_cons (x : Ev) (xs : List Ev) : ecells (x :: xs) = [.int .u32 x.f, .int .u32 x.t, .slice x.A x.n x.c, .slice x.A' x.n' x.c'] ++ ecells xs := by simp [ecells]
theorem ecells_append (xs ys : List Ev) : ecells (xs ++ ys) = ecells xs ++ ecells ys := by simp [ecells]
theorem ecells_one (x : Ev) : ecells [x] = [.int .u32 x.f, .int .u32 x.t, .slice x.A x.n x.c, .slice x.A' x.n' x.c'] := by simp [ecells]
theorem ecells_len (xs : List Ev) : (ecells xs).length = xs.length * 4 := by
  induction xs with
  | nil => rfl
  | cons x xs ih => rw [ecells_cons, List.length_append, ih, List.length_cons]; simp; omega
/-- the four cells of element j -/
theorem ecells_at : ∀ (xs : List Ev) (j : Nat) (x : Ev), xs[j]? = some x → (ecells xs)[j * 4]? = some (.int .u32 x.f) ∧ (ecells xs)[j * 4 + 1]? = some (.int .u32 x.t) ∧ (ecells xs)[j * 4 + 2]? = some (.slice x.A x.n x.c) ∧ (ecells xs)[j * 4 + 3]? = some (.slice x.A' x.n' x.c') := by
  intro xs
  induction xs with
  | nil => intro j x h; simp at h
  | cons y xs ih =>
    intro j x h
    cases j with
    | zero =>
      simp only [List.getElem?_cons_zero, Option.some.injEq] at h
      subst h
      rw [ecells_cons]
      exact ⟨rfl, rfl, rfl, rfl⟩
    | succ j =>
      have := ih j x (by simpa using h)
      rw [ecells_cons, show (j + 1) * 4 = j * 4 + 4 by omega]
      simpa [List.getElem?_append] using this

/-! ### what stays -/
/-- records in memory, below B or in a row of records -/
def SeesK (B : Nat) (w : World) (A : Option Addr) (n : Nat) (xs : List Rrd) : Prop :=
  SeesR w w.heap.size A n xs ∧ (0 < n → ∀ b off sp, A = some ⟨b, off, sp⟩ → b < B ∨ typ w.heap[b]? = rrT)
def SeesV (B : Nat) (w : World) (v : Ev) : Prop := SeesK B w v.A v.n v.xs ∧ SeesK B w v.A' v.n' v.ys
def SeesVs (B : Nat) (w : World) (vs : List Ev) : Prop := ∀ v ∈ vs, SeesV B w v
theorem cell_block {w w' : World} {k : Nat} (h : w'.heap[k]? = w.heap[k]?) (o : Nat) : w'.cell? ⟨k, o, none⟩ = w.cell? ⟨k, o, none⟩ := by
  simp only [World.cell?, h]
theorem SeesK.stay {B : Nat} {w w' : World} {A : Option Addr} {n : Nat} {xs : List Rrd} (h : SeesK B w A n xs) (hs : w.heap.size ≤ w'.heap.size) (hk : ∀ k, k < w.heap.size → (k < B ∨ typ w.heap[k]? = rrT) → w'.heap[k]? = w.heap[k]?) : SeesK B w' A n xs := by
  obtain ⟨⟨h1, h2⟩, h3⟩ := h
  have hsame : 0 < n → ∀ b off sp, A = some ⟨b, off, sp⟩ → b < w.heap.size → w'.heap[b]? = w.heap[b]? := fun hn b off sp e hb => hk b hb (h3 hn b off sp e)
  refine ⟨⟨h1, fun hn => ?_⟩, fun hn b off sp e => ?_⟩
  · obtain ⟨b, off, e, hb, hc⟩ := h2 hn
    have hb' := hsame hn b off none e hb
    refine ⟨b, off, e, Nat.lt_of_lt_of_le hb hs, fun j x hx => ?_⟩
    obtain ⟨x0, x1, x2, x3, x4⟩ := hc j x hx
    simp only [cell_block hb']
    exact ⟨x0, x1, x2, x3, x4⟩
  · rcases h3 hn b off sp e with h | h
    · exact .inl h
    · refine .inr ?_
      have hb : b < w.heap.size := by
        rcases Nat.lt_or_ge b w.heap.size with h' | h'
        · exact h'
        · rw [Array.getElem?_eq_none h'] at h
          exact absurd h (by decide)
      rw [hsame hn b off sp e hb]; exact h
/-- of what was there, a journal's call leaves all but the disk's own memory and the blocks X -/
structure KeptX (B : Nat) (X : Nat → Prop) (w w' : World) : Prop where
  os : w'.os = w.os
  tape : w'.tape = w.tape
  output : w'.output = w.output
  size : w.heap.size ≤ w'.heap.size
  block : ∀ k, k < w.heap.size → (k < B ∨ (mineT (typ w.heap[k]?) = false ∧ ¬ X k)) → w'.heap[k]? = w.heap[k]?
theorem KeptX.refl (B : Nat) (X : Nat → Prop) (w : World) : KeptX B X w w := ⟨rfl, rfl, rfl, Nat.le_refl _, fun _ _ _ => rfl⟩
theorem KeptX.trans {B : Nat} {X : Nat → Prop} {a b c : World} (h : KeptX B X a b) (k : KeptX B X b c) : KeptX B X a c :=
  ⟨k.os.trans h.os, k.tape.trans h.tape, k.output.trans h.output, Nat.le_trans h.size k.size, fun i hi hm =>
    (k.block i (Nat.lt_of_lt_of_le hi h.size) (by rw [h.block i hi hm]; exact hm)).trans (h.block i hi hm)⟩
/-- the blocks of the second part may be new ones, too -/
theorem KeptX.trans2 {B : Nat} {X Y : Nat → Prop} {a b c : World} (h : KeptX B X a b) (k : KeptX B Y b c) (hY : ∀ i, i < a.heap.size → Y i → X i) : KeptX B X a c :=
  ⟨k.os.trans h.os, k.tape.trans h.tape, k.output.trans h.output, Nat.le_trans h.size k.size, fun i hi hm =>
    (k.block i (Nat.lt_of_lt_of_le hi h.size) (by rw [h.block i hi hm]; exact hm.imp id fun h => ⟨h.1, fun hy => h.2 (hY i hi hy)⟩)).trans (h.block i hi hm)⟩
theorem KeptX.of_kept {B : Nat} {w w' : World} (X : Nat → Prop) (h : Kept B w w') : KeptX B X w w' := ⟨h.os, h.tape, h.output, h.size, fun k hk hc => h.block k hk (hc.imp id fun h => h.1)⟩
theorem KeptX.of_below {B : Nat} {w w' : World} (X : Nat → Prop) (h : Below w.heap.size w w') : KeptX B X w w' := .of_kept X (.of_below h)
theorem KeptX.of_grown {B : Nat} {X : Nat → Prop} {w w' : World} {r : Option Nat} (h : w.grownBy w' r) (hB : ∀ g, r = some g → B ≤ g ∧ X g) : KeptX B X w w' :=
  ⟨h.os, h.tape, h.output, h.size, fun k hk hc => h.block k hk (by
    rintro rfl
    obtain ⟨h1, h2⟩ := hB k rfl
    rcases hc with hc | hc
    · omega
    · exact hc.2 h2)⟩
theorem KeptX.setCell {B g : Nat} {X : Nat → Prop} {a w : World} (h : KeptX B X a w) (hB : B ≤ g) (hX : g < a.heap.size → X g) (o : Nat) (u : Value) : KeptX B X a (w.setCell ⟨g, o, none⟩ u) :=
  h.trans2 (Y := fun k => k = g) (.of_grown (dkGset w ⟨g, o, none⟩ u) (fun k hk => by injection hk with hk; exact hk ▸ ⟨hB, rfl⟩)) (fun i hi e => by subst e; exact hX hi)
theorem KeptX.below {B : Nat} {X : Nat → Prop} {w w' : World} (h : KeptX B X w w') (hB : B ≤ w.heap.size) : Below B w w' :=
  ⟨h.os, h.tape, h.output, h.size, fun k hk => h.block k (by omega) (.inl hk)⟩
theorem KeptX.drew {B : Nat} {X : Nat → Prop} {a w : World} (h : KeptX B X a w) : KeptX B X a w.drew := ⟨h.os, h.tape, h.output, h.size, h.block⟩
theorem KeptX.alloc {B : Nat} {X : Nat → Prop} {a w : World} (h : KeptX B X a w) (o : Obj) : KeptX B X a (w.alloc o) := h.trans (.of_below X ((Below.refl _ w).alloc (Nat.le_refl _) o))
theorem KeptX.whole {B : Nat} {X : Nat → Prop} {w w' : World} (h : KeptX B X w w') {g t : Nat} {cs : Array Value} (hw : Whole w g t cs) (ht : mineT t = false) (hX : ¬ X g) : Whole w' g t cs := by
  have hl := hw.lt
  unfold Whole at hw ⊢
  rw [h.block g hl (.inr ⟨by rw [hw]; exact ht, hX⟩)]
  exact hw
theorem KeptX.own {B : Nat} {X : Nat → Prop} {w w' : World} (h : KeptX B X w w') {base e size n : Nat} {v : Value} {xs : List Value} (ho : w.ownsRow base e size v n xs) (ht : mineT e = false) (hX : ∀ g, v.ownBlock = some g → ¬ X g) : w'.ownsRow base e size v n xs := by
  obtain ⟨h1, h2⟩ := ho
  refine ⟨h1, ?_⟩
  rcases h2 with h2 | ⟨g, cap, cur, hv, hg, hh, r⟩
  · exact .inl h2
  · exact .inr ⟨g, cap, cur, hv, hg, h.whole (g := g) hh ht (hX g (by rw [hv]; rfl)), r⟩
theorem SeesK.keepX {B : Nat} {X : Nat → Prop} {w w' : World} {A : Option Addr} {n : Nat} {xs : List Rrd} (h : SeesK B w A n xs) (hk : KeptX B X w w') (hX : ∀ k, X k → typ w.heap[k]? ≠ rrT) : SeesK B w' A n xs :=
  h.stay hk.size fun k hl hc => hk.block k hl (hc.imp id fun hc => ⟨by rw [hc]; decide, fun hx => hX k hx hc⟩)
theorem SeesVs.keepX {B : Nat} {X : Nat → Prop} {w w' : World} {vs : List Ev} (h : SeesVs B w vs) (hk : KeptX B X w w') (hX : ∀ k, X k → typ w.heap[k]? ≠ rrT) : SeesVs B w' vs :=
  fun v hv => ⟨(h v hv).1.keepX hk hX, (h v hv).2.keepX hk hX⟩
theorem SeesVs.keepR {B R : Nat} {X : Nat → Prop} {w w' : World} {vs : List Ev} (h : SeesVs B w vs) (hBR : B ≤ R) (hk : KeptX R X w w') (hX : ∀ k, X k → typ w.heap[k]? ≠ rrT) : SeesVs B w' vs := by
  have key : ∀ k, k < w.heap.size → (k < B ∨ typ w.heap[k]? = rrT) → w'.heap[k]? = w.heap[k]? := fun k hl hc => hk.block k hl (hc.imp (fun h => by omega) fun hc => ⟨by rw [hc]; decide, fun hx => hX k hx hc⟩)
  exact fun v hv => ⟨(h v hv).1.stay hk.size key, (h v hv).2.stay hk.size key⟩
theorem KeptX.less {B R : Nat} {X : Nat → Prop} {w w' : World} (h : KeptX R X w w') (hBR : B ≤ R) : KeptX B X w w' := ⟨h.os, h.tape, h.output, h.size, fun k hk hc => h.block k hk (hc.imp (fun h => by omega) id)⟩
theorem SeesVs.keep {B : Nat} {w w' : World} {vs : List Ev} (h : SeesVs B w vs) (hk : Below w.heap.size w w') : SeesVs B w' vs :=
  h.keepX (.of_below (fun _ => False) hk) fun _ h => h.elim
theorem SeesVs.snoc {B : Nat} {w : World} {vs : List Ev} {v : Ev} (h : SeesVs B w vs) (hv : SeesV B w v) : SeesVs B w (vs ++ [v]) := by
  intro x hx
  rcases List.mem_append.1 hx with hx | hx
  · exact h x hx
  · rw [List.mem_singleton] at hx; subst hx; exact hv
theorem SeesVs.nil (B : Nat) (w : World) : SeesVs B w [] := fun v hv => by cases hv
theorem SeesV.keepX {B : Nat} {X : Nat → Prop} {w w' : World} {v : Ev} (h : SeesV B w v) (hk : KeptX B X w w') (hX : ∀ k, X k → typ w.heap[k]? ≠ rrT) : SeesV B w' v := ⟨h.1.keepX hk hX, h.2.keepX hk hX⟩
theorem SeesV.keep {B : Nat} {w w' : World} {v : Ev} (h : SeesV B w v) (hk : Below w.heap.size w w') : SeesV B w' v := h.keepX (.of_below (fun _ => False) hk) fun _ h => h.elim

/-! ### an entry is appended to a row of one's own -/
theorem en_info : (Tryz.prog.info? 45).map (fun i => (i.zero, i.size, i.bytes)) = some (some (.agg #[.int .u32 0, .int .u32 0, .slice none 0 0, .slice none 0 0]), 4, 56) := by kernel_rfl
theorem ecells_plain (xs : List Ev) : ∀ u ∈ ecells xs, u.oneCell' = true := by
  intro u hu
  simp only [ecells, List.mem_flatMap] at hu
  obtain ⟨k, _, hu⟩ := hu
  simp only [List.mem_cons, List.not_mem_nil, or_false] at hu
  rcases hu with rfl | rfl | rfl | rfl <;> rfl
theorem ev_news {w : World} {G : Nat} {y : Ev} (h : Whole w G enT y.arr) : ∀ j u, (ecells [y])[j]? = some u → w.cell? ((⟨G, 0, none⟩ : Addr).add j) = some u := by
  intro j u hu
  rw [ecells_one] at hu
  rw [show (⟨G, 0, none⟩ : Addr).add j = ⟨G, j, none⟩ from by unfold Addr.add; split <;> simp_all, h.cell]
  unfold Ev.arr enA
  simpa using hu
set_option maxRecDepth 20000 in
theorem wpList_append_E {w : World} {ops : Array Oper} {rest : List Oper} {o : Oper} {a : Act} {Q : Exit → Act → World → Prop} (hgd : o.guard = none) (s x : Operand)
    (ho : o.op = .call { callee := .builtin .append, args := #[s, x], argTypes := #[26, 26] }) (base : Nat) (v : Value) (vs : List Ev) (n : Nat) (hs : a.eval s = v) (hn : vs.length = n) (hown : w.ownsRow base enT 4 v n (ecells vs))
    (G c : Nat) (y : Ev) (hx : a.eval x = .slice (some ⟨G, 0, none⟩) 1 c) (hG : Whole w G enT y.arr) (hlen : n + 1 ≤ 1000000) (hbase : base ≤ w.heap.size) (H : Nat) (hH : w.heap.size = H)
    (h : ∀ g cap w', w'.ownsRow base enT 4 (.slice (some ⟨g, 0, none⟩) (n + 1) cap) (n + 1) (ecells (vs ++ [y])) → w.grownBy w' v.ownBlock → (v.ownBlock = some g ∨ g = H) → g < w'.heap.size → wpList Tryz.prog ops Q rest (a.put o.dst (.slice (some ⟨g, 0, none⟩) (n + 1) cap)) w') : wpList Tryz.prog ops Q (o :: rest) a w := by
  obtain ⟨i, hi, hz0, hz1, hz2⟩ := info_parts en_info
  refine wpList_append_lies w hgd s x 26 ho base enT i _ 4 56 Tryz.underlying26 hi hz0 hz1 hz2 rfl (by decide) v n (ecells vs) hs hown ⟨G, 0, none⟩ 1 c (ecells [y]) hx (by simp [ecells_len]) (ev_news hG) (ecells_plain _) (by decide) (by unfold maxLen; omega) (by omega) hbase H hH ?_
  intro g cap w' h1 h2 h3 h4
  exact h g cap w' (by rw [ecells_append]; exact h1) h2 h3 h4
/-- a row of entries is read -/
theorem own_ev {w : World} {base : Nat} {A : Option Addr} {n c : Nat} {vs : List Ev} (h : w.ownsRow base enT 4 (.slice A n c) n (ecells vs)) (hn : vs.length = n) {j : Nat} {x : Ev} (hx : vs[j]? = some x) :
    ∃ g, A = some ⟨g, 0, none⟩ ∧ base ≤ g ∧ g < w.heap.size ∧ w.cell? ⟨g, j * 4, none⟩ = some (.int .u32 x.f) ∧ w.cell? ⟨g, j * 4 + 1, none⟩ = some (.int .u32 x.t) ∧ w.cell? ⟨g, j * 4 + 2, none⟩ = some (.slice x.A x.n x.c) ∧ w.cell? ⟨g, j * 4 + 3, none⟩ = some (.slice x.A' x.n' x.c') := by
  have h0 := h
  rcases h.2 with ⟨hv, hz⟩ | ⟨g, cap, cur, hv, hb, hh, _⟩
  · have := (List.getElem?_eq_some_iff.1 hx).1
    omega
  · injection hv with e1 e2 e3
    subst e1
    obtain ⟨a0, a1, a2, a3⟩ := ecells_at vs j x hx
    have hc : ∀ (o : Nat) (u : Value), (ecells vs)[o]? = some u → w.cell? ⟨g, o, none⟩ = some u := fun o u hu => by
      have := h0.cells (g := g) rfl o u hu
      rwa [show (⟨g, 0, none⟩ : Addr).add o = ⟨g, o, none⟩ from by unfold Addr.add; split <;> simp_all] at this
    exact ⟨g, rfl, hb, (Array.getElem?_eq_some_iff.1 hh).1, hc _ _ a0, hc _ _ a1, hc _ _ a2, hc _ _ a3⟩
theorem evs_len {w : World} {base n : Nat} {v : Value} {vs : List Ev} (h : w.ownsRow base enT 4 v n (ecells vs)) : vs.length = n := by
  have := h.1
  rw [ecells_len] at this
  omega
theorem own_shape {w : World} {base n : Nat} {v : Value} {xs : List Value} {e k : Nat} (h : w.ownsRow base e k v n xs) : ∃ A c, v = .slice A n c ∧ n ≤ c ∧ c ≤ 9223372036854775807 := by
  rcases h.2 with ⟨hv, rfl⟩ | ⟨g, cap, cur, hv, hb, hh, h1, h2, _⟩
  · exact ⟨none, 0, hv, by omega, by omega⟩
  · exact ⟨some ⟨g, 0, none⟩, cap, hv, h1, by unfold maxLen at h2; omega⟩

/-! ### other memory than the disk's turns -/
theorem At.besides {B d : Nat} {m : Mem} {S : St} {w w' : World} {r : Option Nat} (h : At B w d m S) (hg : w.grownBy w' r) (ht : ∀ g, r = some g → mineT (typ w.heap[g]?) = false) : At B w' d m S := by
  have hne : ∀ (t : Nat), mineT t = true → ∀ x, r = some x → typ w.heap[x]? ≠ t := fun t hm x hx e => by have := ht x hx; rw [e, hm] at this; cases this
  exact ⟨h.dB, h.nB, h.sB, h.ne, h.disk.keepT hg (hne _ (by decide)), map_keepT h.names hg (hne _ (by decide)), map_keepT h.safe hg (hne _ (by decide)),
    own_keepT h.pend hg (hne _ (by decide)), h.files.keep hg (fun x hx => ⟨hne _ (by decide) x hx, hne _ (by decide) x hx⟩)⟩
theorem Live.besides {B d k M : Nat} {S : St} {w w' : World} {r : Option Nat} (h : Live B w d k M S) (hg : w.grownBy w' r) (ht : ∀ g, r = some g → mineT (typ w.heap[g]?) = false) : Live B w' d k M S := by
  obtain ⟨⟨m, hm⟩, h2, h3, h4, h5⟩ := h
  exact ⟨⟨m, hm.besides hg ht⟩, h2, h3, Nat.le_trans h4 hg.size, h5⟩
theorem Live.set {B d k M g t : Nat} {S : St} {w : World} {cs : Array Value} (h : Live B w d k M S) (hw : Whole w g t cs) (ht : mineT t = false) (o : Nat) (u : Value) : Live B (w.setCell ⟨g, o, none⟩ u) d k M S :=
  h.besides (dkGset w ⟨g, o, none⟩ u) fun x hx => by injection hx with hx; subst hx; rw [whole_typ hw]; exact ht
theorem Live.row {B d k M : Nat} {S : St} {w w' : World} {base n : Nat} {v : Value} {xs : List Value} (h : Live B w d k M S) (ho : w.ownsRow base enT 4 v n xs) (hg : w.grownBy w' v.ownBlock) : Live B w' d k M S :=
  h.besides hg fun x hx => by rw [own_typ ho hx]; decide
/-- all that was there stands but the blocks X -/
structure KeptA (X : Nat → Prop) (w w' : World) : Prop where
  os : w'.os = w.os
  tape : w'.tape = w.tape
  output : w'.output = w.output
  size : w.heap.size ≤ w'.heap.size
  block : ∀ k, k < w.heap.size → ¬ X k → w'.heap[k]? = w.heap[k]?
theorem KeptA.refl (X : Nat → Prop) (w : World) : KeptA X w w := ⟨rfl, rfl, rfl, Nat.le_refl _, fun _ _ _ => rfl⟩
theorem KeptA.trans {X : Nat → Prop} {a b c : World} (h : KeptA X a b) (k : KeptA X b c) : KeptA X a c :=
  ⟨k.os.trans h.os, k.tape.trans h.tape, k.output.trans h.output, Nat.le_trans h.size k.size, fun i hi hm => (k.block i (Nat.lt_of_lt_of_le hi h.size) hm).trans (h.block i hi hm)⟩
theorem KeptA.of_below {w w' : World} (X : Nat → Prop) (h : Below w.heap.size w w') : KeptA X w w' := ⟨h.os, h.tape, h.output, h.size, fun k hk _ => h.block k hk⟩
theorem KeptA.of_grown {X : Nat → Prop} {w w' : World} {r : Option Nat} (h : w.grownBy w' r) (hX : ∀ g, r = some g → X g) : KeptA X w w' :=
  ⟨h.os, h.tape, h.output, h.size, fun k hk hc => h.block k hk (by rintro rfl; exact hc (hX k rfl))⟩
theorem KeptA.setCell {g : Nat} {X : Nat → Prop} {a w : World} (h : KeptA X a w) (hX : X g) (o : Nat) (u : Value) : KeptA X a (w.setCell ⟨g, o, none⟩ u) :=
  h.trans (.of_grown (dkGset w ⟨g, o, none⟩ u) fun k hk => by injection hk with hk; exact hk ▸ hX)
theorem KeptA.drew {X : Nat → Prop} {a w : World} (h : KeptA X a w) : KeptA X a w.drew := ⟨h.os, h.tape, h.output, h.size, h.block⟩
theorem KeptA.alloc {X : Nat → Prop} {a w : World} (h : KeptA X a w) (o : Obj) : KeptA X a (w.alloc o) := h.trans (.of_below X ((Below.refl _ w).alloc (Nat.le_refl _) o))
theorem KeptA.keptX {B : Nat} {X : Nat → Prop} {w w' : World} (h : KeptA X w w') (hB : ∀ k, X k → B ≤ k) : KeptX B X w w' :=
  ⟨h.os, h.tape, h.output, h.size, fun k hk hc => h.block k hk fun hx => by
    rcases hc with hc | hc
    · have := hB k hx; omega
    · exact hc.2 hx⟩
theorem At.stays {B d : Nat} {m : Mem} {S : St} {w w' : World} (h : At B w d m S) (hb : ∀ k, k < w.heap.size → mineT (typ w.heap[k]?) = true → w'.heap[k]? = w.heap[k]?) : At B w' d m S := by
  have hwh : ∀ {g t : Nat} {cs : Array Value}, Whole w g t cs → mineT t = true → Whole w' g t cs := by
    intro g t cs hw ht
    have hl := hw.lt
    unfold Whole at hw ⊢
    rw [hb g hl (by rw [hw]; exact ht)]
    exact hw
  have hown : ∀ {e size n : Nat} {v : Value} {xs : List Value}, w.ownsRow B e size v n xs → mineT e = true → w'.ownsRow B e size v n xs := by
    intro e size n v xs ho ht
    obtain ⟨h1, h2⟩ := ho
    refine ⟨h1, ?_⟩
    rcases h2 with h2 | ⟨g, cap, cur, hv, hg, hh, r⟩
    · exact .inl h2
    · exact .inr ⟨g, cap, cur, hv, hg, hwh (g := g) hh ht, r⟩
  have hmap : ∀ {b n : Nat} {D : DataW Unit}, w.ownsMap Tryz.prog 9 ptrR b n D → w'.ownsMap Tryz.prog 9 ptrR b n D := by
    intro b n D hm
    have ht := map_typ hm
    obtain ⟨es, clock, hbb, r⟩ := hm
    refine ⟨es, clock, ?_, r⟩
    rw [hb b (Array.getElem?_eq_some_iff.1 hbb).1 (by rw [ht]; decide)]
    exact hbb
  exact ⟨h.dB, h.nB, h.sB, h.ne, hwh h.disk (by decide), hmap h.names, hmap h.safe, hown h.pend (by decide),
    ⟨h.files.lb, h.files.lv, h.files.base, fun i hi => hwh (h.files.cell i hi) (by decide), fun i hi => hown (h.files.row i hi) (by decide), h.files.one, h.files.apart⟩⟩
theorem Live.keptA {B d k M : Nat} {S : St} {X : Nat → Prop} {w w' : World} (h : Live B w d k M S) (hk : KeptA X w w') (hX : ∀ k, X k → mineT (typ w.heap[k]?) = false) : Live B w' d k M S := by
  obtain ⟨⟨m, hm⟩, h2, h3, h4, h5⟩ := h
  exact ⟨⟨m, hm.stays fun j hj ht => hk.block j hj fun hx => by rw [hX j hx] at ht; cases ht⟩, h2, h3, Nat.le_trans h4 hk.size, h5⟩
end Go.Proofs.YtggognnjnfphgaaGreatDoor
namespace Go.Proofs.YtggognnjnfphgaaGreatDoor
open Go.RowKit Go.Maps Go.Sort

theorem last_ev {vs : List Ev} {k : Nat} {x : Ev} (hk : vs.length = k + 1) (hx : vs[k]? = some x) : lastT (vs.map Ev.ent) = some x.t := by
  have : vs = vs.take k ++ [x] := by
    have h := List.take_append_drop k vs
    rw [List.drop_eq_getElem_cons (show k < vs.length by omega), List.drop_of_length_le (by omega), (List.getElem?_eq_some_iff.1 hx).2] at h
    exact h.symm
  rw [this, List.map_append, List.map_cons, List.map_nil, lastT_snoc]
  rfl
theorem ev_facts {w : World} {g : Nat} {x : Ev} (h : Whole w g enT x.arr) : w.cell? ⟨g, 0, none⟩ = some (.int .u32 x.f) ∧ w.cell? ⟨g, 1, none⟩ = some (.int .u32 x.t) ∧ w.cell? ⟨g, 2, none⟩ = some (.slice x.A x.n x.c) ∧ w.cell? ⟨g, 3, none⟩ = some (.slice x.A' x.n' x.c') := en_facts h

set_option maxHeartbeats 2000000 in
set_option maxRecDepth 20000 in
theorem goesOn_0 {B g n : Nat} {w : World} {v : Value} {vs : List Ev} (hc : w.cell? ⟨g, 0, none⟩ = some v) (hr : w.ownsRow B enT 4 v n (ecells vs)) (x : Ev) (hn : n ≤ 1000000) :
    Calls Tryz.prog 42 #[.pointer (some ⟨g, 0, none⟩), .agg x.arr] w fun e w' => e = .returned (.bool (goesE (lastT (vs.map Ev.ent)) x.f)) ∧ Below w.heap.size w w' := by
  have hlen := evs_len hr
  have hgl : g < w.heap.size := World.block_lt_of_cell? w _ hc
  have hb0 : Below w.heap.size w (w.alloc (.cells x.arr enT)) := (Below.refl _ _).alloc (Nat.le_refl _) _
  have c0 : (w.alloc (.cells x.arr enT)).cell? ⟨g, 0, none⟩ = some v := (hb0.cell (p := ⟨g, 0, none⟩) hgl).trans hc
  have hW := Whole.new w enT x.arr
  obtain ⟨x0, x1, x2, x3⟩ := ev_facts hW
  obtain ⟨A, c, rfl, hc1, hc2⟩ := own_shape hr
  have hr1 := hr.alloc (.cells x.arr enT)
  unfold Ev.arr enA at *
  obtain ⟨W, hWW⟩ : ∃ W, W = w.alloc (.cells #[.int .u32 x.f, .int .u32 x.t, .slice x.A x.n x.c, .slice x.A' x.n' x.c'] enT) := ⟨_, rfl⟩
  obtain ⟨G, hG⟩ : ∃ G, G = w.heap.size := ⟨_, rfl⟩
  have c9 := c0
  rw [← hWW] at hr1 hb0 c0 hW x0
  rw [← hG] at hW x0
  have hgW : g < W.heap.size := World.block_lt_of_cell? W _ c0
  have k0 : ∀ q : Later W, q.val.cell? ⟨g, 0, none⟩ = some (.slice A n c) := fun q => (q.below.cell (p := ⟨g, 0, none⟩) hgW).trans c0
  have k1 : ∀ q : Later W, q.val.cell? ⟨G, 0, none⟩ = some (.int .u32 x.f) := fun q => (hW.later q).cell 0
  have HWW := Lib.hid hWW
  have HG := Lib.hid hG
  have HB := Lib.hid hb0
  clear hW hb0 hWW hG x0 x1 x2 x3 hc hr
  rcases Nat.eq_zero_or_pos n with h0 | hp
  · subst h0
    have hE := Lib.hid (show goesE (lastT (vs.map Ev.ent)) x.f = true by rw [List.eq_nil_of_length_eq_zero hlen]; rfl)
    clear hr1 hlen
    go_enter Tryz.func42, Tryz.ntmps42
    go_wp2_with fail
    rw [← HWW.out, ← HG.out]
    clear c9
    refine region_later (by kernel_rfl) ?_
    repeat (go_big_quiet_step (fail))
    refine wpQuiet_nil ?_
    rintro _ ⟨q2, rfl⟩
    go_wp2_with fail
    go_ret
    exact ⟨by rw [hE.out]; rfl, HB.out.trans (q2.below.mono HB.out.size)⟩
  · obtain ⟨k, rfl⟩ : ∃ k, n = k + 1 := ⟨n - 1, by omega⟩
    obtain ⟨y, hy⟩ : ∃ y, vs[k]? = some y := ⟨vs[k]'(by omega), List.getElem?_eq_getElem _⟩
    obtain ⟨gg, rfl, _, hgg, _, y1, _, _⟩ := own_ev hr1 hlen hy
    have hE := Lib.hid (show goesE (lastT (vs.map Ev.ent)) x.f = decide (x.f = y.t) by rw [last_ev hlen hy]; rfl)
    have hk : (k : Int) ≤ 1000000 := by omega
    have kz : ((k : Int) + 1 == 0) = false := by rw [beq_eq_false_iff_ne]; omega
    have hkc : (k : Int) + 1 ≤ (c : Int) := by omega
    have k2 : ∀ q : Later W, q.val.cell? ⟨gg, k * 4 + 1, none⟩ = some (.int .u32 y.t) := fun q => (q.below.cell (p := ⟨gg, k * 4 + 1, none⟩) hgg).trans y1
    clear hr1 hlen hy hgg y1
    go_enter Tryz.func42, Tryz.ntmps42
    go_wp2_with fail
    rw [← HWW.out, ← HG.out]
    clear c9
    refine region_later (by kernel_rfl) ?_
    repeat (go_big_quiet_step (fail))
    refine wpQuiet_nil ?_
    rintro _ ⟨q2, rfl⟩
    go_wp2_with fail
    go_ret
    exact ⟨by rw [hE.out]; rfl, HB.out.trans (q2.below.mono HB.out.size)⟩

set_option maxHeartbeats 2000000 in
set_option maxRecDepth 20000 in
theorem goesOn_2 {B g n : Nat} {w : World} {v : Value} {vs : List Ev} (hc : w.cell? ⟨g, 2, none⟩ = some v) (hr : w.ownsRow B enT 4 v n (ecells vs)) (x : Ev) (hn : n ≤ 1000000) :
    Calls Tryz.prog 42 #[.pointer (some ⟨g, 2, none⟩), .agg x.arr] w fun e w' => e = .returned (.bool (goesE (lastT (vs.map Ev.ent)) x.f)) ∧ Below w.heap.size w w' := by
  have hlen := evs_len hr
  have hgl : g < w.heap.size := World.block_lt_of_cell? w _ hc
  have hb0 : Below w.heap.size w (w.alloc (.cells x.arr enT)) := (Below.refl _ _).alloc (Nat.le_refl _) _
  have c0 : (w.alloc (.cells x.arr enT)).cell? ⟨g, 2, none⟩ = some v := (hb0.cell (p := ⟨g, 2, none⟩) hgl).trans hc
  have hW := Whole.new w enT x.arr
  obtain ⟨x0, x1, x2, x3⟩ := ev_facts hW
  obtain ⟨A, c, rfl, hc1, hc2⟩ := own_shape hr
  have hr1 := hr.alloc (.cells x.arr enT)
  unfold Ev.arr enA at *
  obtain ⟨W, hWW⟩ : ∃ W, W = w.alloc (.cells #[.int .u32 x.f, .int .u32 x.t, .slice x.A x.n x.c, .slice x.A' x.n' x.c'] enT) := ⟨_, rfl⟩
  obtain ⟨G, hG⟩ : ∃ G, G = w.heap.size := ⟨_, rfl⟩
  have c9 := c0
  rw [← hWW] at hr1 hb0 c0 hW x0
  rw [← hG] at hW x0
  have hgW : g < W.heap.size := World.block_lt_of_cell? W _ c0
  have k0 : ∀ q : Later W, q.val.cell? ⟨g, 2, none⟩ = some (.slice A n c) := fun q => (q.below.cell (p := ⟨g, 2, none⟩) hgW).trans c0
  have k1 : ∀ q : Later W, q.val.cell? ⟨G, 0, none⟩ = some (.int .u32 x.f) := fun q => (hW.later q).cell 0
  have HWW := Lib.hid hWW
  have HG := Lib.hid hG
  have HB := Lib.hid hb0
  clear hW hb0 hWW hG x0 x1 x2 x3 hc hr
  rcases Nat.eq_zero_or_pos n with h0 | hp
  · subst h0
    have hE := Lib.hid (show goesE (lastT (vs.map Ev.ent)) x.f = true by rw [List.eq_nil_of_length_eq_zero hlen]; rfl)
    clear hr1 hlen
    go_enter Tryz.func42, Tryz.ntmps42
    go_wp2_with fail
    rw [← HWW.out, ← HG.out]
    clear c9
    refine region_later (by kernel_rfl) ?_
    repeat (go_big_quiet_step (fail))
    refine wpQuiet_nil ?_
    rintro _ ⟨q2, rfl⟩
    go_wp2_with fail
    go_ret
    exact ⟨by rw [hE.out]; rfl, HB.out.trans (q2.below.mono HB.out.size)⟩
  · obtain ⟨k, rfl⟩ : ∃ k, n = k + 1 := ⟨n - 1, by omega⟩
    obtain ⟨y, hy⟩ : ∃ y, vs[k]? = some y := ⟨vs[k]'(by omega), List.getElem?_eq_getElem _⟩
    obtain ⟨gg, rfl, _, hgg, _, y1, _, _⟩ := own_ev hr1 hlen hy
    have hE := Lib.hid (show goesE (lastT (vs.map Ev.ent)) x.f = decide (x.f = y.t) by rw [last_ev hlen hy]; rfl)
    have hk : (k : Int) ≤ 1000000 := by omega
    have kz : ((k : Int) + 1 == 0) = false := by rw [beq_eq_false_iff_ne]; omega
    have hkc : (k : Int) + 1 ≤ (c : Int) := by omega
    have k2 : ∀ q : Later W, q.val.cell? ⟨gg, k * 4 + 1, none⟩ = some (.int .u32 y.t) := fun q => (q.below.cell (p := ⟨gg, k * 4 + 1, none⟩) hgg).trans y1
    clear hr1 hlen hy hgg y1
    go_enter Tryz.func42, Tryz.ntmps42
    go_wp2_with fail
    rw [← HWW.out, ← HG.out]
    clear c9
    refine region_later (by kernel_rfl) ?_
    repeat (go_big_quiet_step (fail))
    refine wpQuiet_nil ?_
    rintro _ ⟨q2, rfl⟩
    go_wp2_with fail
    go_ret
    exact ⟨by rw [hE.out]; rfl, HB.out.trans (q2.below.mono HB.out.size)⟩
end Go.Proofs.YtggognnjnfphgaaGreatDoor
