/- RrA: texts RrsM, RrsB, RrsC of our own, joined. No statement of the seat is proved here. -/
import Derived.Test.YtaijcoiepfjecaaGreatReM
import Derived.Test.YtaijcoiepfjecaaGreatRrsA
import Derived.Laws.StructEq
namespace Go.Proofs.YtaijcoiepfjecaaGreat

structure OrdOn {α : Type} (cmp : α → α → Int) (Ok : α → Prop) : Prop where
  range : ∀ x y, cmp x y = -1 ∨ cmp x y = 0 ∨ cmp x y = 1
  flip : ∀ x y, cmp y x = - cmp x y
  three : ∀ x y z, Ok x → Ok y → Ok z → Ord3 (cmp x y) (cmp y z) (cmp x z)

section
variable {α : Type} (cmp : α → α → Int)
def posX (r : α) : List α → Nat
  | [] => 0
  | x :: l => if cmp x r < 0 then posX r l + 1 else 0
def hitX (r : α) : List α → Bool
  | [] => false
  | x :: l => if cmp x r < 0 then hitX r l else decide (cmp x r = 0)
def putX (r : α) : List α → List α
  | [] => [r]
  | x :: l => if cmp x r < 0 then x :: putX r l else if cmp x r = 0 then r :: l else r :: x :: l
def dropX (r : α) : List α → List α
  | [] => []
  | x :: l => if cmp x r < 0 then x :: dropX r l else if cmp x r = 0 then l else x :: l
def findX (r : α) : List α → Option α
  | [] => none
  | x :: l => if cmp x r < 0 then findX r l else if cmp x r = 0 then some x else none
def idxX (r : α) : List α → Nat
  | [] => 0
  | x :: l => if cmp x r = 0 then 0 else idxX r l + 1
/-- the reference's Put from some place on -/
def refP (r : α) : List α → Bool → List α
  | [], d => if d = true then [] else [r]
  | x :: l, d => (if cmp r x ≤ 0 ∧ d = false then [r] else []) ++ ((if cmp r x = 0 then [] else [x]) ++ refP r l (d || decide (cmp r x ≤ 0)))
def SetL (l : List α) : Prop := l.Pairwise fun x y => cmp x y = -1
def isL : List α → Bool
  | x :: y :: l => decide (cmp x y = -1) && isL (y :: l)
  | _ => true
end
section
variable {α : Type} {cmp : α → α → Int} {Ok : α → Prop}
theorem posX_le (r : α) : ∀ l, posX cmp r l ≤ l.length
  | [] => Nat.zero_le _
  | x :: l => by
    have := posX_le r l
    unfold posX
    split <;> simp <;> omega
theorem hitX_lt (r : α) : ∀ l, hitX cmp r l = true → posX cmp r l < l.length
  | [], h => by simp [hitX] at h
  | x :: l, h => by
    unfold hitX at h
    unfold posX
    by_cases g : cmp x r < 0
    · rw [if_pos g] at h ⊢
      have := hitX_lt r l h
      simp; omega
    · rw [if_neg g]; simp
theorem putX_is (r : α) : ∀ l, putX cmp r l = l.take (posX cmp r l) ++ r :: l.drop (posX cmp r l + if hitX cmp r l = true then 1 else 0)
  | [] => by simp [putX, posX, hitX]
  | x :: l => by
    unfold putX posX hitX
    by_cases g : cmp x r < 0
    · simp only [if_pos g]
      rw [putX_is r l, List.take_succ_cons, List.cons_append, Nat.add_right_comm, List.drop_succ_cons]
    · simp only [if_neg g]
      by_cases e : cmp x r = 0
      · simp [e]
      · simp [e]
theorem dropX_is (r : α) : ∀ l, dropX cmp r l = l.take (posX cmp r l) ++ l.drop (posX cmp r l + if hitX cmp r l = true then 1 else 0)
  | [] => by simp [dropX, posX, hitX]
  | x :: l => by
    unfold dropX posX hitX
    by_cases g : cmp x r < 0
    · simp only [if_pos g]
      rw [dropX_is r l, List.take_succ_cons, List.cons_append, Nat.add_right_comm, List.drop_succ_cons]
    · simp only [if_neg g]
      by_cases e : cmp x r = 0
      · simp [e]
      · simp [e]
theorem findX_is (r : α) : ∀ l, findX cmp r l = if hitX cmp r l = true then l[posX cmp r l]? else none
  | [] => by simp [findX, hitX]
  | x :: l => by
    unfold findX posX hitX
    by_cases g : cmp x r < 0
    · simp only [if_pos g]
      rw [findX_is r l, List.getElem?_cons_succ]
    · simp only [if_neg g]
      by_cases e : cmp x r = 0
      · simp [e]
      · simp [e]
/-- where a search ends -/
theorem posX_of (r : α) : ∀ (l : List α) (i : Nat), i ≤ l.length → (∀ t x, t < i → l[t]? = some x → cmp x r < 0) → (∀ t x, i ≤ t → l[t]? = some x → 0 ≤ cmp x r) →
    posX cmp r l = i ∧ hitX cmp r l = (match l[i]? with | some x => decide (cmp x r = 0) | none => false)
  | [], i, hi, _, _ => by simp at hi; subst hi; simp [posX, hitX]
  | x :: l, 0, _, _, h2 => by
    have g : ¬ cmp x r < 0 := by have := h2 0 x (Nat.le_refl _) rfl; omega
    simp [posX, hitX, g]
  | x :: l, i + 1, hi, h1, h2 => by
    have g : cmp x r < 0 := h1 0 x (by omega) rfl
    have ih := posX_of r l i (by simpa using hi) (fun t y ht hy => h1 (t + 1) y (by omega) (by simpa using hy)) (fun t y ht hy => h2 (t + 1) y (by omega) (by simpa using hy))
    simp only [posX, hitX, if_pos g, List.getElem?_cons_succ]
    exact ⟨by rw [ih.1], ih.2⟩
theorem OrdOn.self (h : OrdOn cmp Ok) (x : α) : cmp x x = 0 := by have := h.flip x x; omega
theorem OrdOn.lt_trans (h : OrdOn cmp Ok) {x y z : α} (hx : Ok x) (hy : Ok y) (hz : Ok z) (h1 : cmp x y = -1) (h2 : cmp y z = -1) : cmp x z = -1 := by
  obtain ⟨_, _, _, k⟩ := h.three x y z hx hy hz
  rw [h1, h2] at k; omega
theorem OrdOn.eq_lt (h : OrdOn cmp Ok) {x y z : α} (hx : Ok x) (hy : Ok y) (hz : Ok z) (h1 : cmp x y = 0) (h2 : cmp y z = -1) : cmp x z = -1 := by
  obtain ⟨_, _, _, k⟩ := h.three x y z hx hy hz
  rw [h1, h2] at k; omega
theorem OrdOn.lt_eq (h : OrdOn cmp Ok) {x y z : α} (hx : Ok x) (hy : Ok y) (hz : Ok z) (h1 : cmp x y = -1) (h2 : cmp y z = 0) : cmp x z = -1 := by
  obtain ⟨_, _, _, k⟩ := h.three x y z hx hy hz
  rw [h1, h2] at k; omega
theorem OrdOn.eq_trans (h : OrdOn cmp Ok) {x y z : α} (hx : Ok x) (hy : Ok y) (hz : Ok z) (h1 : cmp x y = 0) (h2 : cmp y z = 0) : cmp x z = 0 := by
  obtain ⟨_, _, _, k⟩ := h.three x y z hx hy hz
  rw [h1, h2] at k; omega
theorem OrdOn.gt (h : OrdOn cmp Ok) {x y : α} : cmp x y = 1 ↔ cmp y x = -1 := by have := h.flip x y; omega
/-- isL is SetL -/
theorem isL_set (h : OrdOn cmp Ok) : ∀ {l : List α}, (∀ x ∈ l, Ok x) → (isL cmp l = true ↔ SetL cmp l)
  | [], _ => by simp [isL, SetL]
  | [x], _ => by simp [isL, SetL]
  | x :: y :: l, hl => by
    have ih := isL_set h (l := y :: l) (fun z hz => hl z (List.mem_cons_of_mem _ hz))
    unfold SetL at ih ⊢
    rw [isL, Bool.and_eq_true, decide_eq_true_eq, ih, List.pairwise_cons (a := x)]
    constructor
    · rintro ⟨h1, h2⟩
      refine ⟨fun z hz => ?_, h2⟩
      rcases List.mem_cons.1 hz with rfl | hz
      · exact h1
      · exact h.lt_trans (hl x (by simp)) (hl y (by simp)) (hl z (by simp [hz])) h1 ((List.pairwise_cons.1 h2).1 z hz)
    · rintro ⟨h1, h2⟩
      exact ⟨h1 y (by simp), h2⟩
/-- what precedes r stands ahead of what does not -/
theorem SetL.mono (h : OrdOn cmp Ok) {l : List α} (hl : ∀ x ∈ l, Ok x) {r : α} (hr : Ok r) (hs : SetL cmp l) {a b : Nat} {x y : α} (hab : a ≤ b) (ha : l[a]? = some x) (hb : l[b]? = some y) (hy : cmp y r < 0) : cmp x r < 0 := by
  have hy1 : cmp y r = -1 := by have := h.range y r; omega
  rcases Nat.lt_or_ge a b with g | g
  · obtain ⟨la, rfl⟩ := List.getElem?_eq_some_iff.1 ha
    obtain ⟨lb, rfl⟩ := List.getElem?_eq_some_iff.1 hb
    have hxy := (List.pairwise_iff_getElem.1 hs) a b la lb g
    have := h.lt_trans (hl _ (List.getElem_mem la)) (hl _ (List.getElem_mem lb)) hr hxy hy1
    omega
  · obtain rfl : a = b := by omega
    rw [ha] at hb
    injection hb with hb
    subst hb
    exact hy
theorem refP_rest (h : OrdOn cmp Ok) (r : α) : ∀ l : List α, (∀ x ∈ l, cmp r x = -1) → refP cmp r l true = l
  | [], _ => by simp [refP]
  | x :: l, hl => by
    have e := hl x (by simp)
    rw [refP, show (true || decide (cmp r x ≤ 0)) = true from rfl, refP_rest h r l fun y hy => hl y (by simp [hy])]
    simp [e]
theorem refP_set (h : OrdOn cmp Ok) {r : α} (hr : Ok r) : ∀ l : List α, (∀ x ∈ l, Ok x) → SetL cmp l → refP cmp r l false = putX cmp r l
  | [], _, _ => by simp [refP, putX]
  | x :: l, hl, hs => by
    obtain ⟨h1, h2⟩ := List.pairwise_cons.1 hs
    have hf := h.flip x r
    have hox := hl x (by simp)
    have hol : ∀ y ∈ l, Ok y := fun y hy => hl y (by simp [hy])
    unfold refP putX
    by_cases g : cmp x r < 0
    · have e1 : cmp x r = -1 := by have := h.range x r; omega
      rw [if_pos g, if_neg (by omega), if_neg (by omega), show (false || decide (cmp r x ≤ 0)) = false by simp; omega, refP_set h hr l hol h2]
      rfl
    · rw [if_neg g]
      by_cases e : cmp x r = 0
      · have e2 : cmp r x = 0 := by omega
        rw [if_pos e, if_pos ⟨by omega, rfl⟩, if_pos e2, show (false || decide (cmp r x ≤ 0)) = true by simp; omega, refP_rest h r l fun y hy => h.eq_lt hr hox (hol y hy) e2 (h1 y hy)]
        rfl
      · have e1 : cmp r x = -1 := by have := h.range x r; omega
        rw [if_neg e, if_pos ⟨by omega, rfl⟩, if_neg (by omega), show (false || decide (cmp r x ≤ 0)) = true by simp; omega, refP_rest h r l fun y hy => h.lt_trans hr hox (hol y hy) e1 (h1 y hy)]
        rfl
/-- the first that is one with r -/
theorem idxX_set (h : OrdOn cmp Ok) {r : α} (hr : Ok r) : ∀ l : List α, (∀ x ∈ l, Ok x) → SetL cmp l → idxX cmp r l = if hitX cmp r l = true then posX cmp r l else l.length
  | [], _, _ => by simp [idxX, hitX]
  | x :: l, hl, hs => by
    obtain ⟨h1, h2⟩ := List.pairwise_cons.1 hs
    have hox := hl x (by simp)
    have hol : ∀ y ∈ l, Ok y := fun y hy => hl y (by simp [hy])
    unfold idxX posX hitX
    by_cases g : cmp x r < 0
    · rw [if_neg (by omega), if_pos g, if_pos g, idxX_set h hr l hol h2]
      split <;> simp
    · rw [if_neg g, if_neg g]
      by_cases e : cmp x r = 0
      · rw [if_pos e]; simp [e]
      · rw [if_neg e]
        have e1 : cmp x r = 1 := by have := h.range x r; omega
        have e2 := h.gt.1 e1
        have : ∀ m : List α, (∀ y ∈ m, cmp y r ≠ 0) → idxX cmp r m = m.length := by
          intro m
          induction m with
          | nil => intro _; rfl
          | cons y m ih => intro hm; unfold idxX; rw [if_neg (hm y (by simp)), ih fun z hz => hm z (by simp [hz])]; rfl
        rw [this l fun y hy => by
          have k := h.lt_trans hr hox (hol y hy) e2 (h1 y hy)
          have := h.flip y r
          omega]
        simp [e]
theorem putX_mem (r : α) : ∀ l : List α, ∀ y ∈ putX cmp r l, y = r ∨ y ∈ l
  | [], y, hy => by simp [putX] at hy; exact .inl hy
  | x :: l, y, hy => by
    unfold putX at hy
    by_cases g : cmp x r < 0
    · rw [if_pos g] at hy
      rcases List.mem_cons.1 hy with rfl | hy
      · exact .inr (by simp)
      · rcases putX_mem r l y hy with rfl | k
        · exact .inl rfl
        · exact .inr (by simp [k])
    · rw [if_neg g] at hy
      by_cases e : cmp x r = 0
      · rw [if_pos e] at hy
        rcases List.mem_cons.1 hy with rfl | hy
        · exact .inl rfl
        · exact .inr (by simp [hy])
      · rw [if_neg e] at hy
        rcases List.mem_cons.1 hy with rfl | hy
        · exact .inl rfl
        · exact .inr hy
theorem dropX_mem (r : α) : ∀ l : List α, ∀ y ∈ dropX cmp r l, y ∈ l
  | [], y, hy => by simp [dropX] at hy
  | x :: l, y, hy => by
    unfold dropX at hy
    by_cases g : cmp x r < 0
    · rw [if_pos g] at hy
      rcases List.mem_cons.1 hy with rfl | hy
      · simp
      · simp [dropX_mem r l y hy]
    · rw [if_neg g] at hy
      by_cases e : cmp x r = 0
      · rw [if_pos e] at hy; simp [hy]
      · rw [if_neg e] at hy; exact hy
theorem putX_set (h : OrdOn cmp Ok) {r : α} (hr : Ok r) : ∀ l : List α, (∀ x ∈ l, Ok x) → SetL cmp l → SetL cmp (putX cmp r l)
  | [], _, _ => by simp [putX, SetL]
  | x :: l, hl, hs => by
    obtain ⟨h1, h2⟩ := List.pairwise_cons.1 hs
    have hf := h.flip x r
    have hox := hl x (by simp)
    have hol : ∀ y ∈ l, Ok y := fun y hy => hl y (by simp [hy])
    unfold putX
    by_cases g : cmp x r < 0
    · have e1 : cmp x r = -1 := by have := h.range x r; omega
      rw [if_pos g]
      refine List.pairwise_cons.2 ⟨fun y hy => ?_, putX_set h hr l hol h2⟩
      rcases putX_mem r l y hy with rfl | k
      · exact e1
      · exact h1 y k
    · rw [if_neg g]
      by_cases e : cmp x r = 0
      · rw [if_pos e]
        exact List.pairwise_cons.2 ⟨fun y hy => h.eq_lt hr hox (hol y hy) (by omega) (h1 y hy), h2⟩
      · rw [if_neg e]
        have e1 : cmp r x = -1 := by have := h.range x r; omega
        refine List.pairwise_cons.2 ⟨fun y hy => ?_, hs⟩
        rcases List.mem_cons.1 hy with rfl | hy
        · exact e1
        · exact h.lt_trans hr hox (hol y hy) e1 (h1 y hy)
theorem dropX_set (r : α) : ∀ l : List α, SetL cmp l → SetL cmp (dropX cmp r l)
  | [], _ => by simp [dropX, SetL]
  | x :: l, hs => by
    obtain ⟨h1, h2⟩ := List.pairwise_cons.1 hs
    unfold dropX
    by_cases g : cmp x r < 0
    · rw [if_pos g]
      exact List.pairwise_cons.2 ⟨fun y hy => h1 y (dropX_mem r l y hy), dropX_set r l h2⟩
    · rw [if_neg g]
      by_cases e : cmp x r = 0
      · rw [if_pos e]; exact h2
      · rw [if_neg e]; exact hs
theorem findX_put (h : OrdOn cmp Ok) (r : α) : ∀ l : List α, findX cmp r (putX cmp r l) = some r ∧ hitX cmp r (putX cmp r l) = true ∧ putX cmp r (putX cmp r l) = putX cmp r l
  | [] => by have := h.self r; simp [putX, findX, hitX, this]
  | x :: l => by
    have k := h.self r
    by_cases g : cmp x r < 0
    · have ih := findX_put h r l
      have e : putX cmp r (x :: l) = x :: putX cmp r l := by rw [putX, if_pos g]
      rw [e]
      refine ⟨by rw [findX, if_pos g]; exact ih.1, by rw [hitX, if_pos g]; exact ih.2.1, by rw [putX, if_pos g, ih.2.2]⟩
    · by_cases e : cmp x r = 0
      · have e' : putX cmp r (x :: l) = r :: l := by rw [putX, if_neg g, if_pos e]
        rw [e']
        simp [putX, findX, hitX, k]
      · have e' : putX cmp r (x :: l) = r :: x :: l := by rw [putX, if_neg g, if_neg e]
        rw [e']
        simp [putX, findX, hitX, k]
theorem dropX_put (h : OrdOn cmp Ok) (r : α) : ∀ l : List α, dropX cmp r (putX cmp r l) = dropX cmp r l
  | [] => by have := h.self r; simp [putX, dropX, this]
  | x :: l => by
    have k := h.self r
    by_cases g : cmp x r < 0
    · have e : putX cmp r (x :: l) = x :: putX cmp r l := by rw [putX, if_pos g]
      rw [e, dropX, if_pos g, dropX_put h r l, dropX, if_pos g]
    · by_cases e : cmp x r = 0
      · have e' : putX cmp r (x :: l) = r :: l := by rw [putX, if_neg g, if_pos e]
        rw [e']
        simp [dropX, k, e]
      · have e' : putX cmp r (x :: l) = r :: x :: l := by rw [putX, if_neg g, if_neg e]
        rw [e']
        simp [dropX, k, g, e]
theorem dropX_again (h : OrdOn cmp Ok) {r : α} (hr : Ok r) : ∀ l : List α, (∀ x ∈ l, Ok x) → SetL cmp l → hitX cmp r (dropX cmp r l) = false ∧ dropX cmp r (dropX cmp r l) = dropX cmp r l
  | [], _, _ => by simp [dropX, hitX]
  | x :: l, hl, hs => by
    obtain ⟨h1, h2⟩ := List.pairwise_cons.1 hs
    have hox := hl x (by simp)
    have hol : ∀ y ∈ l, Ok y := fun y hy => hl y (by simp [hy])
    by_cases g : cmp x r < 0
    · have ih := dropX_again h hr l hol h2
      have e : dropX cmp r (x :: l) = x :: dropX cmp r l := by rw [dropX, if_pos g]
      rw [e]
      exact ⟨by rw [hitX, if_pos g]; exact ih.1, by rw [dropX, if_pos g, ih.2]⟩
    · by_cases e : cmp x r = 0
      · have e' : dropX cmp r (x :: l) = l := by rw [dropX, if_neg g, if_pos e]
        rw [e']
        cases l with
        | nil => simp [hitX, dropX]
        | cons y m =>
          have k : cmp r y = -1 := h.eq_lt hr hox (hol y (by simp)) (by have := h.flip x r; omega) (h1 y (by simp))
          have k2 : cmp y r = 1 := h.gt.2 k
          simp [hitX, dropX, k2]
      · have e' : dropX cmp r (x :: l) = x :: l := by rw [dropX, if_neg g, if_neg e]
        rw [e']
        simp [hitX, dropX, g, e]
theorem dropX_len (r : α) (l : List α) : (putX cmp r l).length = (dropX cmp r l).length + 1 := by
  rw [putX_is, dropX_is]
  simp only [List.length_append, List.length_cons]
  omega
/-- a list is left as it is exactly where r itself is found -/
theorem putX_same (r : α) (l : List α) : putX cmp r l = l ↔ findX cmp r l = some r := by
  have hp := posX_le (cmp := cmp) r l
  rw [putX_is, findX_is]
  cases hh : hitX cmp r l with
  | false =>
    simp only [Bool.false_eq_true, if_false, Nat.add_zero, reduceCtorEq, iff_false]
    intro e
    have := congrArg List.length e
    simp at this
    omega
  | true =>
    have hlt := hitX_lt r l hh
    simp only [↓reduceIte]
    constructor
    · intro e
      have := congrArg (fun m => m[posX cmp r l]?) e
      rw [← this, List.getElem?_append_right (by rw [List.length_take]; omega), List.length_take, Nat.min_eq_left hp, Nat.sub_self]
      rfl
    · intro e
      obtain ⟨_, e⟩ := List.getElem?_eq_some_iff.1 e
      have : l = l.take (posX cmp r l) ++ l.drop (posX cmp r l) := (List.take_append_drop _ _).symm
      conv => rhs; rw [this, List.drop_eq_getElem_cons hlt, e]
theorem dropX_no (r : α) (l : List α) (h : hitX cmp r l = false) : dropX cmp r l = l := by
  rw [dropX_is, h]
  simp
end
end Go.Proofs.YtaijcoiepfjecaaGreat
namespace Go.Proofs.YtaijcoiepfjecaaGreat
open Go.RowKit Go.Op Go.ChangeShapes Go.WideShapes Go.ChangeAt Go.Deep

def cmpX (x y : Rrd) : Int := cmpR x.toRec y.toRec
def okX (x : Rrd) : Bool := decide (x.d.size ≤ 2000) && okR x.toRec
def OkX (x : Rrd) : Prop := okR x.toRec = true ∧ x.d.size ≤ 2000
theorem okX_is {x : Rrd} : okX x = true ↔ OkX x := by unfold okX OkX; simp; exact and_comm
theorem ordX : OrdOn cmpX OkX where
  range x y := cmpR_range _ _
  flip x y := cmpR_flip _ _
  three x y z hx hy hz := by
    obtain ⟨⟨L, h1⟩, _⟩ := ok_parts hx.1
    obtain ⟨⟨M, h2⟩, _⟩ := ok_parts hy.1
    obtain ⟨⟨N, h3⟩, _⟩ := ok_parts hz.1
    exact cmpR_three h1 h2 h3
theorem oneX {x y : Rrd} (hx : OkX x) (hy : OkX y) : oneR x.toRec y.toRec = decide (cmpX x y = 0) := by
  obtain ⟨⟨L, h1⟩, _⟩ := ok_parts hx.1
  obtain ⟨⟨M, h2⟩, _⟩ := ok_parts hy.1
  exact cmpR_one h1 h2
theorem data_len (x : Rrd) : x.toRec.d.length = x.d.size := by
  unfold Rrd.toRec recOf
  exact Array.length_toList
theorem name_len (x : Rrd) : x.toRec.n.length = x.s.size := by
  unfold Rrd.toRec recOf
  exact Array.length_toList
theorem OkX.name {x : Rrd} (h : OkX x) : x.toRec.n.length ≤ 255 := by
  obtain ⟨⟨L, h1⟩, _⟩ := ok_parts h.1
  exact (nameL_is h1).2.2
theorem OkX.data {x : Rrd} (h : OkX x) : x.toRec.d.length ≤ 2000 := by rw [data_len]; exact h.2
/-- every record is right, of a size that is looked at -/
def OkL (xs : List Rrd) : Prop := ∀ x ∈ xs, OkX x
def rightsX (xs : List Rrd) : Bool := xs.all okX && decide (xs.length ≤ 30)
theorem rightsX_is {xs : List Rrd} (h : rightsX xs = true) : OkL xs ∧ xs.length ≤ 30 := by
  unfold rightsX at h
  rw [Bool.and_eq_true, List.all_eq_true, decide_eq_true_eq] at h
  exact ⟨fun x hx => okX_is.1 (h.1 x hx), h.2⟩
theorem OkL.at {xs : List Rrd} (h : OkL xs) {k : Nat} {x : Rrd} (hx : xs[k]? = some x) : OkX x := h x (List.mem_of_getElem? hx)

/-- the argument as a value -/
def rrV (x : Rrd) : Array Value := #[.string x.s, .int .i64 x.t, .int .i64 x.c, .int .i64 x.l, .string x.d]
theorem recs_in2 {H : Type} {enc : TypeId × Value → H} {W : World} {base : Nat} {held : Bool} {a : Option Addr} {len cap : Nat} {d : DataW H} {p : List MemPlace}
    (h : DataW.Trod enc Tryz.prog W base (fun _ => true) held 22 (.slice a len cap) d p) : ∃ xs, InRecs W a len xs ∧ len ≤ 9223372036854775807 := by
  obtain ⟨xs, hx⟩ := recs_in h
  refine ⟨xs, hx, ?_⟩
  obtain ⟨fuel, hf⟩ := h
  rcases open_slice Tryz.underlying22 hf with ⟨hcs, _⟩ | ⟨x, l, c, m, n, D, Pl, hcs, _, hl, hc, hm, _, hi⟩
  · simp [Value.cells] at hcs
    obtain ⟨rfl, rfl, rfl⟩ := hcs
    omega
  · simp [Value.cells] at hcs
    obtain ⟨rfl, rfl, rfl⟩ := hcs
    unfold maxLen at hc
    omega

/-- the lists from the place k on are neighbours in order -/
def downX (xs : List Rrd) (k : Nat) : Bool := isL cmpX (xs.drop k)
theorem down_step {xs : List Rrd} {k : Nat} {x y : Rrd} (hx : xs[k]? = some x) (hy : xs[k + 1]? = some y) : downX xs k = (decide (cmpX x y = -1) && downX xs (k + 1)) := by
  unfold downX
  obtain ⟨l1, rfl⟩ := List.getElem?_eq_some_iff.1 hx
  obtain ⟨l2, rfl⟩ := List.getElem?_eq_some_iff.1 hy
  rw [List.drop_eq_getElem_cons l1, List.drop_eq_getElem_cons l2, isL]
theorem down_end {xs : List Rrd} {k : Nat} (h : xs.length ≤ k + 1) : downX xs k = true := by
  unfold downX
  have : (xs.drop k).length ≤ 1 := by rw [List.length_drop]; omega
  generalize xs.drop k = l at this
  match l, this with
  | [], _ => rfl
  | [x], _ => rfl
def setX (xs : List Rrd) : Bool := isL cmpX xs
theorem setX_is {xs : List Rrd} (h : OkL xs) : setX xs = true ↔ SetL cmpX xs := isL_set ordX h

/-! ### one cell after another, in whatever later world -/
theorem Five.later {W : World} {b o : Nat} {x : Rrd} (h : Five W b o x) (hb : b < W.heap.size) :
    (∀ q : Later W, q.val.cell? ⟨b, o, none⟩ = some (.string x.s)) ∧ (∀ q : Later W, q.val.cell? ⟨b, o + 1, none⟩ = some (.int .i64 x.t)) ∧ (∀ q : Later W, q.val.cell? ⟨b, o + 2, none⟩ = some (.int .i64 x.c)) ∧
    (∀ q : Later W, q.val.cell? ⟨b, o + 3, none⟩ = some (.int .i64 x.l)) ∧ (∀ q : Later W, q.val.cell? ⟨b, o + 4, none⟩ = some (.string x.d)) :=
  ⟨fun q => (h.keep q.below hb).1, fun q => (h.keep q.below hb).2.1, fun q => (h.keep q.below hb).2.2.1, fun q => (h.keep q.below hb).2.2.2.1, fun q => (h.keep q.below hb).2.2.2.2⟩
theorem refcmp_any {x y : Rrd} (hx : OkX x) (hy : OkX y) (w : World) :
    Calls Tryz.prog 87 #[.agg #[.string x.s, .int .i64 x.t, .int .i64 x.c, .int .i64 x.l, .string x.d], .agg #[.string y.s, .int .i64 y.t, .int .i64 y.c, .int .i64 y.l, .string y.d]] w fun e w' => e = .returned (.int .i64 (cmpX x y)) ∧ Below w.heap.size w w' :=
  RefRCompare_any x.s x.d y.s y.d x.toRec y.toRec w (rrd_name x) (rrd_data x) (rrd_name y) (rrd_data y) (by have := hx.data; omega) (by have := hy.data; omega)
theorem refone_any {x y : Rrd} (hx : OkX x) (hy : OkX y) (w : World) :
    Calls Tryz.prog 81 #[.agg #[.string x.s, .int .i64 x.t, .int .i64 x.c, .int .i64 x.l, .string x.d], .agg #[.string y.s, .int .i64 y.t, .int .i64 y.c, .int .i64 y.l, .string y.d]] w fun e w' => e = .returned (.bool (decide (cmpX x y = 0))) ∧ Below w.heap.size w w' := by
  rw [← oneX hx hy]
  exact RefOne_any x.s x.d y.s y.d x.toRec y.toRec w (rrd_name x) (rrd_data x) (rrd_name y) (rrd_data y) (by have := hx.data; omega) (by have := hy.data; omega)
theorem cmp_any {x y : Rrd} (hx : OkX x) (hy : OkX y) (w : World) :
    Calls Tryz.prog 58 #[.agg #[.string x.s, .int .i64 x.t, .int .i64 x.c, .int .i64 x.l, .string x.d], .agg #[.string y.s, .int .i64 y.t, .int .i64 y.c, .int .i64 y.l, .string y.d]] w fun e w' => e = .returned (.int .i64 (cmpX x y)) ∧ Below w.heap.size w w' :=
  RCompare_any x.s x.d y.s y.d x.toRec y.toRec w (rrd_name x) (rrd_data x) (rrd_name y) (rrd_data y) (by have := hx.name; omega) (by have := hy.name; omega) (by have := hx.data; omega) (by have := hy.data; omega)

end Go.Proofs.YtaijcoiepfjecaaGreat
namespace Go.Proofs.YtaijcoiepfjecaaGreat
open Go.RowKit Go.Op

theorem Rrd.ext' {x y : Rrd} (h : x.s = y.s ∧ x.t = y.t ∧ x.c = y.c ∧ x.l = y.l ∧ x.d = y.d) : x = y := by
  obtain ⟨a, b, c, d, e⟩ := x
  obtain ⟨a', b', c', d', e'⟩ := y
  obtain ⟨h1, h2, h3, h4, h5⟩ := h
  simp only at h1 h2 h3 h4 h5
  subst h1 h2 h3 h4 h5
  rfl
/-- x == y, as Go's == says it of two records -/
def eqX (x y : Rrd) : Bool := x.s.toList == y.s.toList && (x.t == y.t && (x.c == y.c && (x.l == y.l && x.d.toList == y.d.toList)))
def sameX : List Rrd → List Rrd → Bool
  | [], [] => true
  | x :: xs, y :: ys => eqX x y && sameX xs ys
  | _, _ => false
theorem toList_same {a b : ByteArray} : a.toList = b.toList ↔ a = b := by
  rw [ByteArray.toList_eq, ByteArray.toList_eq]
  obtain ⟨⟨x⟩⟩ := a
  obtain ⟨⟨y⟩⟩ := b
  simp
theorem eqX_is {x y : Rrd} : eqX x y = true ↔ x = y := by
  unfold eqX
  simp only [Bool.and_eq_true, beq_iff_eq, toList_same]
  constructor
  · rintro ⟨h1, h2, h3, h4, h5⟩; exact Rrd.ext' ⟨h1, h2, h3, h4, h5⟩
  · rintro rfl; exact ⟨rfl, rfl, rfl, rfl, rfl⟩
theorem rr_eqIn (x y : Rrd) (w : World) : (Op.equalIn 10000 26 (.agg #[.string x.s, .int .i64 x.t, .int .i64 x.c, .int .i64 x.l, .string x.d]) (.agg #[.string y.s, .int .i64 y.t, .int .i64 y.c, .int .i64 y.l, .string y.d])).run Tryz.prog w = .ok (eqX x y) w := by
  have u9 := Tryz.underlying9
  have a9 := Tryz.isAgg9
  have z9 := Tryz.sizeOf9
  have u3 := Tryz.underlying3
  have a3 := Tryz.isAgg3
  have z3 := Tryz.sizeOf3
  have hS : Tryz.prog.underlying 26 = some (.struct (Tryz.prog.fieldsOf 26)) := by kernel_rfl
  have hp : Tryz.prog.stoodInHeld 26 = false := by kernel_rfl
  unfold eqX
  rw [show (10000 : Nat) = 9999 + 1 from rfl, run_equalIn_agg w 9999 26 _ _ hS hp]
  simp only [Program.fieldsOf, Tryz.underlying26]
  go_simp
  by_cases h1 : x.s.toList = y.s.toList <;> by_cases h2 : x.t = y.t <;> by_cases h3 : x.c = y.c <;> by_cases h4 : x.l = y.l <;> by_cases h5 : x.d.toList = y.d.toList <;> simp [h1, h2, h3, h4, h5]
theorem rr_neq (x y : Rrd) (w : World) : (binOp .neq 26 (.agg #[.string x.s, .int .i64 x.t, .int .i64 x.c, .int .i64 x.l, .string x.d]) (.agg #[.string y.s, .int .i64 y.t, .int .i64 y.c, .int .i64 y.l, .string y.d])).run Tryz.prog w = .ok (.bool (!eqX x y)) w := by
  rw [run_neq_struct, rr_eqIn]
  rfl
theorem rr_eql (x y : Rrd) (w : World) : (binOp .eql 26 (.agg #[.string x.s, .int .i64 x.t, .int .i64 x.c, .int .i64 x.l, .string x.d]) (.agg #[.string y.s, .int .i64 y.t, .int .i64 y.c, .int .i64 y.l, .string y.d])).run Tryz.prog w = .ok (.bool (eqX x y)) w := by
  rw [run_eql_struct, rr_eqIn]
  rfl
theorem rr_guard (op : BinOp) (a b : Operand) (x y : Rrd) (w : World) : (eqGuard op 26 a b (.agg #[.string x.s, .int .i64 x.t, .int .i64 x.c, .int .i64 x.l, .string x.d]) (.agg #[.string y.s, .int .i64 y.t, .int .i64 y.c, .int .i64 y.l, .string y.d])).run Tryz.prog w = .ok () w :=
  run_eqGuard_agg w op 26 a b _ _ (by kernel_rfl)
theorem sameX_is : ∀ {xs ys : List Rrd}, sameX xs ys = true ↔ xs = ys
  | [], [] => by simp [sameX]
  | [], y :: ys => by simp [sameX]
  | x :: xs, [] => by simp [sameX]
  | x :: xs, y :: ys => by
    rw [sameX, Bool.and_eq_true, eqX_is, sameX_is, List.cons.injEq]
theorem sameX_step {xs ys : List Rrd} {k : Nat} {x y : Rrd} (hx : xs[k]? = some x) (hy : ys[k]? = some y) : sameX (xs.drop k) (ys.drop k) = (eqX x y && sameX (xs.drop (k + 1)) (ys.drop (k + 1))) := by
  obtain ⟨l1, rfl⟩ := List.getElem?_eq_some_iff.1 hx
  obtain ⟨l2, rfl⟩ := List.getElem?_eq_some_iff.1 hy
  rw [List.drop_eq_getElem_cons l1, List.drop_eq_getElem_cons l2, sameX]
theorem sameX_end {xs ys : List Rrd} {k : Nat} (h : xs.length = k) (h' : ys.length = k) : sameX (xs.drop k) (ys.drop k) = true := by
  rw [List.drop_of_length_le (by omega), List.drop_of_length_le (by omega), sameX]

set_option maxHeartbeats 8000000 in
set_option maxRecDepth 20000 in
theorem Same_any (A A' : Option Addr) (n c n' c' : Nat) (xs ys : List Rrd) (w : World) (hx : SeesR w w.heap.size A n xs) (hy : SeesR w w.heap.size A' n' ys) (hn : n ≤ 1073741824) :
    Calls Tryz.prog 13 #[.slice A n c, .slice A' n' c'] w fun e w' => e = .returned (.bool (sameX xs ys)) ∧ Below w.heap.size w w' := by
  have HX := Lib.hid hx
  have HY := Lib.hid hy
  have HN := Lib.hid hx.1
  have HM := Lib.hid hy.1
  clear hx hy
  by_cases hnn : n = n'
  · subst hnn
    go_enter Tryz.func13, Tryz.ntmps13
    go_wp2_with fail
    go_loopw [5] (fun i wr => ∃ k : Nat, k ≤ n ∧ i = .int .i64 (k : Nat) ∧ sameX xs ys = sameX (xs.drop k) (ys.drop k) ∧ Below w.heap.size w wr) (fun i _ => n - (intOf i).toNat)
    case atStart => exact ⟨0, Nat.zero_le _, rfl, rfl, Below.refl _ _⟩
    case round =>
      obtain ⟨k, hk, rfl, hup, hB⟩ := hrel
      have HU := Lib.hid hup
      have HB := Lib.hid hB
      clear hup
      by_cases hkn : k < n
      · have g2 : (k : Int) < (n : Int) := by omega
        have g0 : (0 : Int) ≤ (k : Int) := by omega
        obtain ⟨b, off, x, rfl, hb, hxk, ht⟩ := (HX.out.keep hB).at hkn
        obtain ⟨b', off', y, rfl, hb', hyk, ht'⟩ := (HY.out.keep hB).at hkn
        have HXK := Lib.hid hxk
        have HYK := Lib.hid hyk
        obtain ⟨x0, x1, x2, x3, x4⟩ := ht
        obtain ⟨y0, y1, y2, y3, y4⟩ := ht'
        clear hB hxk hyk
        have hne := rr_neq x y
        have hgd := fun op a b => rr_guard op a b x y
        cases hxy : eqX x y with
        | true =>
          have HS := Lib.hid (show sameX xs ys = sameX (xs.drop (k + 1)) (ys.drop (k + 1)) by rw [HU.out, sameX_step HXK.out HYK.out, hxy, Bool.true_and])
          rw [hxy] at hne
          go_wp2_with fail
          go_quiet (fail)
          go_wp2_with fail
          go_roundw
          case rel => exact ⟨k + 1, by omega, by go_num, HS.out, below_drewN HB.out _⟩
          case measure => simp [intOf]; omega
        | false =>
          have HS := Lib.hid (show sameX xs ys = false by rw [HU.out, sameX_step HXK.out HYK.out, hxy, Bool.false_and])
          rw [hxy] at hne
          go_wp2_with fail
          go_quiet (fail)
          go_wp2_with fail
          go_ret
          exact ⟨by rw [HS.out]; rfl, below_drewN HB.out _⟩
      · obtain rfl : k = n := by omega
        have HS := Lib.hid (show sameX xs ys = true by rw [HU.out, sameX_end HN.out HM.out])
        clear hB
        go_wp2_with fail
        go_ret
        exact ⟨by rw [HS.out]; rfl, HB.out⟩
  · have gn : ((n : Int) == (n' : Int)) = false := by rw [beq_eq_false_iff_ne]; omega
    have HS := Lib.hid (show sameX xs ys = false by
      have h1 := HN.out
      have h2 := HM.out
      rw [Bool.eq_false_iff]
      intro e
      rw [sameX_is] at e
      subst e
      omega)
    go_enter Tryz.func13, Tryz.ntmps13
    go_wp2_with fail
    go_ret
    exact ⟨by rw [HS.out]; rfl, Below.refl _ _⟩
end Go.Proofs.YtaijcoiepfjecaaGreat
