/- Parts of the proofs of the statements of image. No statement of the seat is proved here. -/
import Derived.Test.YtnbapaimpoobkaaGreatDoorRsS
namespace Go.Proofs.YtnbapaimpoobkaaGreatDoor

theorem ordAll : OrdOn cX (fun _ => True) where
  range := cX_ord.range
  flip := cX_ord.flip
  three x y z _ _ _ := cX_three x y z

/-- the last of each run of equals -/
def lastX : List Rrd → List Rrd
  | [] => []
  | [x] => [x]
  | x :: y :: l => if cX x y = 0 then lastX (y :: l) else x :: lastX (y :: l)
/-- r put behind all that do not come after it -/
def insS (r : Rrd) : List Rrd → List Rrd
  | [] => [r]
  | x :: D => if cX r x = -1 then r :: x :: D else x :: insS r D
def srtX (l : List Rrd) : List Rrd := l.foldl (fun D r => insS r D) []
def ofC (l : List Rrd) : List Rrd := l.foldl (fun D r => putX cX r D) []
/-- the head of what is left is equal to the head -/
theorem lastX_head : ∀ (l : List Rrd) (x : Rrd), ∃ h T, lastX (x :: l) = h :: T ∧ cX x h = 0
  | [], x => ⟨x, [], rfl, cX_ord.self x⟩
  | y :: l, x => by
    obtain ⟨h, T, e, k⟩ := lastX_head l y
    unfold lastX
    by_cases c : cX x y = 0
    · rw [if_pos c, e]
      exact ⟨h, T, rfl, by rw [cX_ord.same x y h c]; exact k⟩
    · rw [if_neg c]
      exact ⟨x, _, rfl, cX_ord.self x⟩
theorem putX_front {r x h : Rrd} {T : List Rrd} (hx : cX x h = 0) (hr : cX r x = -1) : putX cX r (h :: T) = r :: h :: T := by
  have h1 : cX r h = -1 := by rw [← cX_ord.same' r hx]; exact hr
  have h2 := cX_flip h r
  unfold putX
  rw [if_neg (by omega), if_neg (by omega)]
theorem lastX_ins (r : Rrd) : ∀ D : List Rrd, Srt cX D → lastX (insS r D) = putX cX r (lastX D)
  | [], _ => rfl
  | [x], _ => by
    unfold insS insS
    have hf := cX_flip r x
    have hg := cX_ord.range r x
    by_cases c : cX r x = -1
    · rw [if_pos c]
      simp only [lastX, putX]
      rw [if_neg (by omega), if_neg (by omega), if_neg (by omega)]
    · rw [if_neg c]
      simp only [lastX, putX]
      by_cases e : cX x r = 0
      · rw [if_pos e, if_neg (by omega), if_pos e]
      · rw [if_neg e, if_pos (by omega)]
  | x :: y :: D, hs => by
    obtain ⟨h1, h2⟩ := List.pairwise_cons.1 hs
    have ih := lastX_ins r (y :: D) h2
    have hf := cX_flip r x
    have hg := cX_ord.range r x
    by_cases c : cX r x = -1
    · have e : insS r (x :: y :: D) = r :: x :: y :: D := by rw [insS, if_pos c]
      obtain ⟨h, T, e2, k⟩ := lastX_head (y :: D) x
      rw [e, e2, putX_front k c, lastX, if_neg (by omega), e2]
    · have e : insS r (x :: y :: D) = x :: insS r (y :: D) := by rw [insS, if_neg c]
      rw [e]
      have hyx : cX y x ≠ -1 := h1 y (by simp)
      have hxy := cX_ord.range x y
      have hfy := cX_flip x y
      by_cases c2 : cX r y = -1
      · have e3 : insS r (y :: D) = r :: y :: D := by rw [insS, if_pos c2]
        obtain ⟨h, T, e4, k⟩ := lastX_head D y
        rw [e3] at ih ⊢
        have hlt : cX x y = -1 := by
          rcases hxy with q | q | q
          · exact q
          · exact absurd (by rw [cX_ord.same' r q]; exact c2) c
          · omega
        have e5 : lastX (x :: y :: D) = x :: lastX (y :: D) := by rw [lastX, if_neg (by omega)]
        rw [e5]
        have e6 : lastX (x :: r :: y :: D) = if cX x r = 0 then lastX (r :: y :: D) else x :: lastX (r :: y :: D) := by rw [lastX]
        rw [e6, ih]
        have e8 : putX cX r (x :: lastX (y :: D)) = if cX x r < 0 then x :: putX cX r (lastX (y :: D)) else if cX x r = 0 then r :: lastX (y :: D) else r :: x :: lastX (y :: D) := rfl
        rw [e8]
        by_cases q : cX x r = 0
        · rw [if_pos q, if_neg (by omega), if_pos q, e4, putX_front k c2]
        · rw [if_neg q, if_pos (by omega)]
      · have e3 : insS r (y :: D) = y :: insS r D := by rw [insS, if_neg c2]
        rw [e3] at ih ⊢
        have hyr : cX y r = -1 ∨ cX y r = 0 := by
          have := cX_ord.range r y
          have := cX_flip r y
          omega
        have e6 : lastX (x :: y :: insS r D) = if cX x y = 0 then lastX (y :: insS r D) else x :: lastX (y :: insS r D) := by rw [lastX]
        have e7 : lastX (x :: y :: D) = if cX x y = 0 then lastX (y :: D) else x :: lastX (y :: D) := by rw [lastX]
        rw [e6, e7, ih]
        by_cases q : cX x y = 0
        · rw [if_pos q, if_pos q]
        · rw [if_neg q, if_neg q]
          have hlt : cX x y = -1 := by omega
          have hxr : cX x r = -1 := by
            rcases hyr with u | u
            · exact cX_ord.trans x y r hlt u
            · rw [← cX_ord.same' x u]; exact hlt
          conv => rhs; rw [putX]
          rw [if_pos (by omega)]
theorem insS_split (r : Rrd) : ∀ D : List Rrd, Srt cX D → ∃ A B, D = A ++ B ∧ insS r D = A ++ r :: B ∧ (∀ y ∈ B, cX r y = -1) ∧ ∀ A' y, A = A' ++ [y] → cX r y ≠ -1
  | [], _ => ⟨[], [], rfl, rfl, fun y h => (by cases h), fun A' y h => (by simp at h)⟩
  | x :: D, hs => by
    obtain ⟨h1, h2⟩ := List.pairwise_cons.1 hs
    by_cases c : cX r x = -1
    · refine ⟨[], x :: D, rfl, by rw [insS, if_pos c]; rfl, fun y hy => ?_, fun A' y h => (by simp at h)⟩
      rcases List.mem_cons.1 hy with rfl | hy
      · exact c
      · exact cX_ord.lt_le c (h1 y hy)
    · obtain ⟨A, B, e1, e2, e3, e4⟩ := insS_split r D h2
      refine ⟨x :: A, B, by rw [e1]; rfl, by rw [insS, if_neg c, e2]; rfl, e3, fun A' y h => ?_⟩
      cases A' with
      | nil =>
        simp only [List.nil_append, List.cons.injEq] at h
        rw [← h.1]; exact c
      | cons z A' =>
        simp only [List.cons_append, List.cons.injEq] at h
        exact e4 A' y h.2
theorem insS_done (r : Rrd) {D l : List Rrd} (hs : Srt cX D) (h : St cX l D) : Srt cX (insS r D) ∧ St cX (l ++ [r]) (insS r D) := by
  obtain ⟨A, B, e1, e2, e3, e4⟩ := insS_split r D hs
  subst e1
  rw [e2]
  obtain ⟨k1, k2⟩ := ins_done cX_ord hs e3 e4
  exact ⟨k1, (h.append (St.refl [r])).trans k2⟩
theorem fold_srt : ∀ (l m D : List Rrd), Srt cX D → St cX m D → Srt cX (l.foldl (fun D r => insS r D) D) ∧ St cX (m ++ l) (l.foldl (fun D r => insS r D) D) ∧ lastX (l.foldl (fun D r => insS r D) D) = l.foldl (fun D r => putX cX r D) (lastX D)
  | [], m, D, hs, h => ⟨hs, by rw [List.append_nil]; exact h, rfl⟩
  | r :: l, m, D, hs, h => by
    obtain ⟨k1, k2⟩ := insS_done r hs h
    obtain ⟨h1, h2, h3⟩ := fold_srt l (m ++ [r]) (insS r D) k1 k2
    rw [lastX_ins r D hs] at h3
    refine ⟨h1, ?_, h3⟩
    rw [show m ++ r :: l = m ++ [r] ++ l by simp]
    exact h2
theorem srtX_is (l : List Rrd) : Srt cX (srtX l) ∧ St cX l (srtX l) ∧ lastX (srtX l) = ofC l := by
  have h := fold_srt l [] [] Srt.nil (St.refl [])
  exact h
/-- the last of equals, of a list in order that keeps the order of equals, make the set -/
theorem lastX_of {l D : List Rrd} (hs : Srt cX D) (h : St cX l D) : lastX D = ofC l := by
  obtain ⟨h1, h2, h3⟩ := srtX_is l
  rw [Srt.unique cX_ord hs h1 (h.symm.trans h2)]
  exact h3
end Go.Proofs.YtnbapaimpoobkaaGreatDoor
namespace Go.Proofs.YtnbapaimpoobkaaGreatDoor
open Go.Op
set_option linter.unusedVariables false

def nmX (x : Rrd) : List UInt8 := x.toRec.n
theorem OkX.nm {x : Rrd} (h : OkX x) : (nameL (nmX x)).isSome = true := by
  obtain ⟨⟨L, h1⟩, _⟩ := ok_parts h.1
  unfold nmX
  rw [h1]; rfl
theorem alike_key {a b : List UInt8} (ha : (nameL a).isSome = true) (hb : (nameL b).isSome = true) : alikeN a b = decide (keyN a = keyN b) := by
  unfold alikeN keyN
  cases h : nameL a with
  | none => rw [h] at ha; cases ha
  | some L =>
    cases k : nameL b with
    | none => rw [k] at hb; cases hb
    | some M => exact decide_eq_decide.2 List.reverse_inj.symm
theorem alike_no {a b : List UInt8} (hb : (nameL b).isSome = false) : alikeN a b = false := by
  unfold alikeN
  cases h : nameL a with
  | none => rfl
  | some L =>
    cases k : nameL b with
    | none => rfl
    | some M => rw [k] at hb; cases hb
theorem alike_cK {a b : List UInt8} (ha : (nameL a).isSome = true) (hb : (nameL b).isSome = true) : alikeN a b = decide (cK a b = 0) := by
  rw [alike_key ha hb, decide_eq_decide]
  exact (cmpL_zero _ _).symm
/-! ### the records of a set, by their names -/
def KS (l : List Rrd) : Prop := l.Pairwise fun x y => cK (nmX x) (nmX y) ≠ 1
theorem SetL.keys {l : List Rrd} (h : SetL cX l) : KS l := by
  refine List.Pairwise.imp ?_ h
  intro a b e c
  unfold cX nmX orI at *
  rw [if_neg (by rw [if_neg (by omega)]; omega), if_neg (by omega)] at e
  omega
theorem KS.tail {x : Rrd} {l : List Rrd} (h : KS (x :: l)) : KS l := (List.pairwise_cons.1 h).2
/-- how many records come first for which p holds -/
def cntX (p : Rrd → Bool) : List Rrd → Nat
  | [] => 0
  | x :: l => if p x = true then cntX p l + 1 else 0
theorem cntX_le (p : Rrd → Bool) : ∀ l, cntX p l ≤ l.length
  | [] => Nat.le_refl _
  | x :: l => by
    have := cntX_le p l
    unfold cntX
    split <;> simp <;> omega
theorem cntX_of (p : Rrd → Bool) : ∀ (l : List Rrd) (i : Nat), i ≤ l.length → (∀ t x, t < i → l[t]? = some x → p x = true) → (∀ t x, i ≤ t → l[t]? = some x → p x = false) → cntX p l = i
  | [], i, hi, _, _ => by simp at hi; subst hi; rfl
  | x :: l, 0, _, _, h2 => by
    have := h2 0 x (Nat.le_refl _) rfl
    simp [cntX, this]
  | x :: l, i + 1, hi, h1, h2 => by
    have g := h1 0 x (by omega) rfl
    have ih := cntX_of p l i (by simpa using hi) (fun t y ht hy => h1 (t + 1) y (by omega) (by simpa using hy)) (fun t y ht hy => h2 (t + 1) y (by omega) (by simpa using hy))
    rw [cntX, if_pos g, ih]
/-- for no record behind one for which p does not hold, p holds -/
def Mon (p : Rrd → Bool) (l : List Rrd) : Prop := l.Pairwise fun x y => p y = true → p x = true
theorem Mon.at {p : Rrd → Bool} {l : List Rrd} (h : Mon p l) {a b : Nat} {x y : Rrd} (hab : a ≤ b) (ha : l[a]? = some x) (hb : l[b]? = some y) (hy : p y = true) : p x = true := by
  rcases Nat.lt_or_ge a b with g | g
  · obtain ⟨la, rfl⟩ := List.getElem?_eq_some_iff.1 ha
    obtain ⟨lb, rfl⟩ := List.getElem?_eq_some_iff.1 hb
    exact List.pairwise_iff_getElem.1 h a b la lb g hy
  · obtain rfl : a = b := by omega
    rw [ha] at hb
    injection hb with hb
    rw [hb]; exact hy
theorem Mon.drop {p : Rrd → Bool} {l : List Rrd} (h : Mon p l) (k : Nat) : Mon p (l.drop k) := List.Pairwise.sublist (List.drop_sublist k l) h
def befN (n : List UInt8) (x : Rrd) : Bool := decide (cmpN (nmX x) n < 0)
def uptoN (n : List UInt8) (x : Rrd) : Bool := decide (orI (cmpN (nmX x) n) (-1) < 0)
theorem cmpN_no {a b : List UInt8} (hb : (nameL b).isSome = false) : cmpN a b = 0 := by
  unfold cmpN
  cases h : nameL a with
  | none => rfl
  | some L =>
    cases k : nameL b with
    | none => rfl
    | some M => rw [k] at hb; cases hb
theorem befN_mon {l : List Rrd} (n : List UInt8) (h : KS l) (ok : OkL l) : Mon (befN n) l := by
  unfold Mon
  refine List.Pairwise.imp_of_mem ?_ h
  intro x y hx hy e
  unfold befN
  rw [decide_eq_true_eq, decide_eq_true_eq]
  cases hn : (nameL n).isSome with
  | false => rw [cmpN_no hn]; intro c; exact absurd c (by decide)
  | true =>
    rw [cmpN_key (ok x hx).nm hn, cmpN_key (ok y hy).nm hn]
    intro c
    have r := cK_ord.range (nmX y) n
    have f := cK_ord.flip (nmX x) (nmX y)
    have := cK_ord.le_lt (x := nmX x) (y := nmX y) (z := n) (by omega) (by omega)
    omega
theorem uptoN_mon {l : List Rrd} (n : List UInt8) (h : KS l) (ok : OkL l) : Mon (uptoN n) l := by
  unfold Mon
  refine List.Pairwise.imp_of_mem ?_ h
  intro x y hx hy e
  unfold uptoN orI
  rw [decide_eq_true_eq, decide_eq_true_eq]
  cases hn : (nameL n).isSome with
  | false =>
    have e1 : cmpN (nmX x) n = 0 := cmpN_no hn
    rw [e1]; intro _; decide
  | true =>
    rw [cmpN_key (ok x hx).nm hn, cmpN_key (ok y hy).nm hn]
    intro c
    have r := cK_ord.range (nmX y) n
    have r2 := cK_ord.range (nmX x) n
    have f := cK_ord.flip (nmX x) (nmX y)
    have f2 := cK_ord.flip (nmX y) n
    have f3 := cK_ord.flip (nmX x) n
    have := cK_ord.le_trans (x := nmX x) (y := nmX y) (z := n) (by omega) (by split at c <;> omega)
    split <;> omega
def atX (n : List UInt8) (l : List Rrd) : List Rrd := l.filter fun x => alikeN (nmX x) n
def typX (t : Int) (l : List Rrd) : List Rrd := l.filter fun x => decide (x.t = t)
theorem at_rest {n : List UInt8} (hn : (nameL n).isSome = true) : ∀ {l : List Rrd}, KS l → OkL l → (∀ x ∈ l, befN n x = false) → l.take (cntX (uptoN n) l) = atX n l
  | [], _, _, _ => rfl
  | x :: l, h, ok, hb => by
    have okx := ok x (by simp)
    have ih := at_rest hn h.tail (fun y hy => ok y (List.mem_cons_of_mem _ hy)) (fun y hy => hb y (List.mem_cons_of_mem _ hy))
    have b0 := hb x (by simp)
    have ha := alike_cK okx.nm hn
    have hc := cmpN_key okx.nm hn
    have r := cK_ord.range (nmX x) n
    unfold befN at b0
    rw [decide_eq_false_iff_not, hc] at b0
    by_cases c : cK (nmX x) n = 0
    · have e1 : uptoN n x = true := by unfold uptoN orI; rw [hc, if_pos c]; decide
      have e2 : alikeN (nmX x) n = true := by rw [ha, decide_eq_true c]
      unfold atX at ih ⊢
      rw [cntX, if_pos e1, List.take_succ_cons, ih, List.filter_cons, if_pos e2]
    · have e1 : ¬ uptoN n x = true := by unfold uptoN orI; rw [hc, if_neg c, decide_eq_true_eq]; omega
      rw [cntX, if_neg e1, List.take_zero]
      symm
      unfold atX
      rw [List.filter_eq_nil_iff]
      intro y hy
      have e3 : cK (nmX x) (nmX y) ≠ 1 ∨ y = x := by
        rcases List.mem_cons.1 hy with e | e
        · exact .inr e
        · exact .inl ((List.pairwise_cons.1 h).1 y e)
      rw [alike_cK (ok y hy).nm hn, decide_eq_true_eq]
      rcases e3 with e3 | rfl
      · intro e
        have f := cK_ord.flip (nmX x) n
        have := cK_ord.same' (nmX x) e
        omega
      · exact c
theorem at_is {n : List UInt8} (hn : (nameL n).isSome = true) : ∀ {l : List Rrd}, KS l → OkL l → (l.drop (cntX (befN n) l)).take (cntX (uptoN n) (l.drop (cntX (befN n) l))) = atX n l
  | [], _, _ => rfl
  | x :: l, h, ok => by
    have okx := ok x (by simp)
    have okl : OkL l := fun y hy => ok y (List.mem_cons_of_mem _ hy)
    by_cases c : befN n x = true
    · have ih := at_is hn h.tail okl
      rw [cntX, if_pos c, List.drop_succ_cons, ih]
      unfold befN at c
      rw [decide_eq_true_eq, cmpN_key okx.nm hn] at c
      unfold atX
      rw [List.filter_cons, if_neg (by rw [alike_cK okx.nm hn, decide_eq_true_eq]; omega)]
    · rw [cntX, if_neg c, List.drop_zero]
      refine at_rest hn h ok ?_
      intro y hy
      cases e : befN n y with
      | false => rfl
      | true =>
        rcases List.mem_cons.1 hy with e2 | e2
        · rw [e2] at e; exact absurd e c
        · exact absurd ((List.pairwise_cons.1 (befN_mon n h ok)).1 y e2 e) c
theorem at_no {n : List UInt8} (hn : (nameL n).isSome = false) (l : List Rrd) : atX n l = [] := by
  unfold atX
  rw [List.filter_eq_nil_iff]
  intro y _
  rw [alike_no hn]; simp
theorem atX_mem {n : List UInt8} {l : List Rrd} {x : Rrd} : x ∈ atX n l ↔ x ∈ l ∧ alikeN (nmX x) n = true := List.mem_filter
theorem typX_mem {t : Int} {l : List Rrd} {x : Rrd} : x ∈ typX t l ↔ x ∈ l ∧ x.t = t := by
  unfold typX
  rw [List.mem_filter, decide_eq_true_eq]
theorem OkL.atX {l : List Rrd} (h : OkL l) (n : List UInt8) : OkL (atX n l) := fun x hx => h x (atX_mem.1 hx).1
theorem OkL.typX {l : List Rrd} (h : OkL l) (t : Int) : OkL (typX t l) := fun x hx => h x (typX_mem.1 hx).1
theorem atX_len (n : List UInt8) (l : List Rrd) : (atX n l).length ≤ l.length := List.length_filter_le _ _
/-! ### the first name that is not before a name -/
/-! ### what a zone is -/
def dataT (t : Int) : Bool := decide (1 ≤ t) && decide (t ≤ 65535) && !decide (t = 41) && !(decide (128 ≤ t) && decide (t ≤ 255))
def goodR (apex : List UInt8) (x : Rrd) : Bool := decide (x.c = 1) && (dataT x.t && underN (nmX x) apex)
def pairX (x y : Rrd) : Bool := (decide (x.t = 5) || decide (y.t = 5)) && alikeN (nmX x) (nmX y)
def aloneX : List Rrd → Bool
  | x :: y :: l => !pairX x y && aloneX (y :: l)
  | _ => true
def isZ (apex : List UInt8) (l : List Rrd) : Bool :=
  l.all (goodR apex) && (decide ((typX 6 l).length = 1) && (decide ((typX 6 (atX apex l)).length = 1) && (decide (0 < (typX 2 (atX apex l)).length) && aloneX l)))
def refG (apex : List UInt8) (l : List Rrd) (x : Rrd) : Bool := goodR apex x && (!(decide (x.t = 6) && !alikeN (nmX x) apex) && !(decide (x.t = 5) && !decide ((atX (nmX x) l).length = 1)))
def refZ (apex : List UInt8) (l : List Rrd) : Bool := l.all (refG apex l) && (decide ((typX 6 l).length = 1) && decide (0 < (typX 2 (atX apex l)).length))
theorem alike_sym {x y : Rrd} (hx : OkX x) (hy : OkX y) : alikeN (nmX x) (nmX y) = alikeN (nmX y) (nmX x) := by
  rw [alike_key hx.nm hy.nm, alike_key hy.nm hx.nm, decide_eq_decide]
  exact ⟨Eq.symm, Eq.symm⟩
theorem alone_pair : ∀ {l : List Rrd}, KS l → OkL l → (aloneX l = true ↔ l.Pairwise fun x y => pairX x y = false)
  | [], _, _ => by simp [aloneX]
  | [x], _, _ => by simp [aloneX]
  | x :: y :: l, h, ok => by
    have okl : OkL (y :: l) := fun z hz => ok z (List.mem_cons_of_mem _ hz)
    have ih := alone_pair h.tail okl
    rw [aloneX, Bool.and_eq_true, ih, List.pairwise_cons (a := x) (l := y :: l), Bool.not_eq_true']
    refine ⟨fun ⟨h1, h2⟩ => ⟨?_, h2⟩, fun ⟨h1, h2⟩ => ⟨h1 y (by simp), h2⟩⟩
    intro z hz
    rcases List.mem_cons.1 hz with rfl | hz'
    · exact h1
    · have okx := ok x (by simp)
      have oky := ok y (by simp)
      have okz := ok z (List.mem_cons_of_mem _ hz)
      cases c : alikeN (nmX x) (nmX z) with
      | false => unfold pairX; rw [c, Bool.and_false]
      | true =>
        have k1 := (List.pairwise_cons.1 h).1 y (by simp)
        have k2 := (List.pairwise_cons.1 h.tail).1 z hz'
        have hyz : pairX y z = false := (List.pairwise_cons.1 h2).1 z hz'
        have c0 := c
        rw [alike_cK okx.nm okz.nm, decide_eq_true_eq] at c
        have f1 := cK_ord.flip (nmX x) (nmX y)
        have f2 := cK_ord.flip (nmX y) (nmX z)
        have s := cK_ord.same (nmX x) (nmX z) (nmX y) c
        have e1 : alikeN (nmX x) (nmX y) = true := by
          rw [alike_cK okx.nm oky.nm, decide_eq_true_eq]
          have r := cK_ord.range (nmX x) (nmX y)
          omega
        have e2 : alikeN (nmX y) (nmX z) = true := by
          rw [alike_key okx.nm oky.nm, decide_eq_true_eq] at e1
          rw [alike_key okx.nm okz.nm, decide_eq_true_eq] at c0
          rw [alike_key oky.nm okz.nm, decide_eq_true_eq, ← e1, c0]
        unfold pairX at h1 hyz ⊢
        rw [e1, Bool.and_true, Bool.or_eq_false_iff] at h1
        rw [e2, Bool.and_true, Bool.or_eq_false_iff] at hyz
        rw [h1.1, hyz.2]; rfl
theorem pair_at {l : List Rrd} (ok : OkL l) : (l.Pairwise fun x y => pairX x y = false) ↔ ∀ x ∈ l, x.t = 5 → (atX (nmX x) l).length = 1 := by
  constructor
  · intro h x hx ht
    obtain ⟨A, B, rfl⟩ := List.append_of_mem hx
    have okx := ok x hx
    have hself : alikeN (nmX x) (nmX x) = true := by rw [alike_key okx.nm okx.nm, decide_eq_true_eq]
    have h1 : atX (nmX x) A = [] := by
      unfold atX
      rw [List.filter_eq_nil_iff]
      intro y hy c
      have := (List.pairwise_append.1 h).2.2 y hy x (by simp)
      unfold pairX at this
      rw [c, ht] at this
      simp at this
    have h2 : atX (nmX x) B = [] := by
      unfold atX
      rw [List.filter_eq_nil_iff]
      intro y hy c
      have := (List.pairwise_cons.1 (List.pairwise_append.1 h).2.1).1 y hy
      unfold pairX at this
      rw [alike_sym okx (ok y (by simp [hy])), c, ht] at this
      simp at this
    unfold atX at h1 h2 ⊢
    rw [List.filter_append, h1, List.filter_cons, if_pos hself, h2]
    rfl
  · intro h
    rw [List.pairwise_iff_forall_sublist]
    intro a b hs
    have ha : a ∈ l := hs.subset (by simp)
    have hb : b ∈ l := hs.subset (by simp)
    cases c : pairX a b with
    | false => rfl
    | true =>
      exfalso
      unfold pairX at c
      rw [Bool.and_eq_true, Bool.or_eq_true, decide_eq_true_eq, decide_eq_true_eq] at c
      obtain ⟨c1, c2⟩ := c
      have hsa : alikeN (nmX a) (nmX a) = true := by rw [alike_key (ok a ha).nm (ok a ha).nm, decide_eq_true_eq]
      have hsb : alikeN (nmX b) (nmX b) = true := by rw [alike_key (ok b hb).nm (ok b hb).nm, decide_eq_true_eq]
      have two : ∀ z, alikeN (nmX a) (nmX z) = true → alikeN (nmX b) (nmX z) = true → 2 ≤ (atX (nmX z) l).length := by
        intro z e1 e2
        have := (hs.filter fun x => alikeN (nmX x) (nmX z)).length_le
        rw [List.filter_cons, if_pos e1, List.filter_cons, if_pos e2] at this
        unfold atX
        simpa using this
      rcases c1 with c1 | c1
      · have := two a hsa (by rw [← alike_sym (ok a ha) (ok b hb)]; exact c2)
        have := h a ha c1
        omega
      · have := two b c2 hsb
        have := h b hb c1
        omega
theorem typ_at (t : Int) (n : List UInt8) (l : List Rrd) : typX t (atX n l) = (typX t l).filter fun x => alikeN (nmX x) n := by
  unfold typX atX
  rw [List.filter_filter, List.filter_filter]
  congr 1
  funext x
  exact Bool.and_comm _ _
theorem isZ_ref {apex : List UInt8} {l : List Rrd} (h : KS l) (ok : OkL l) : isZ apex l = refZ apex l := by
  rw [Bool.eq_iff_iff]
  have key := (alone_pair h ok).trans (pair_at ok)
  unfold isZ refZ refG
  simp only [Bool.and_eq_true, List.all_eq_true, decide_eq_true_eq, key]
  constructor
  · rintro ⟨h1, h2, h3, h4, h5⟩
    refine ⟨fun x hx => ⟨h1 x hx, ?_, ?_⟩, h2, h4⟩
    · by_cases e : x.t = 6
      · rw [typ_at] at h3
        obtain ⟨s, hs⟩ := List.length_eq_one_iff.1 h2
        have hx6 : x ∈ typX 6 l := typX_mem.2 ⟨hx, e⟩
        rw [hs] at h3 hx6
        obtain rfl : x = s := by simpa using hx6
        by_cases c : alikeN (nmX x) apex = true
        · rw [c]; simp
        · rw [List.filter_cons, if_neg c] at h3; simp at h3
      · rw [decide_eq_false e]; rfl
    · by_cases e : x.t = 5
      · rw [h5 x hx e]; simp
      · rw [decide_eq_false e]; rfl
  · rintro ⟨h1, h2, h4⟩
    refine ⟨fun x hx => (h1 x hx).1, h2, ?_, h4, fun x hx e => ?_⟩
    · rw [typ_at]
      obtain ⟨s, hs⟩ := List.length_eq_one_iff.1 h2
      have hsm : s ∈ typX 6 l := by rw [hs]; simp
      obtain ⟨m1, m2⟩ := typX_mem.1 hsm
      have := (h1 s m1).2.1
      rw [m2] at this
      have c : alikeN (nmX s) apex = true := by simpa using this
      rw [hs, List.filter_cons, if_pos c]
      rfl
    · have := (h1 x hx).2.2
      rw [e] at this
      simpa using this
end Go.Proofs.YtnbapaimpoobkaaGreatDoor
