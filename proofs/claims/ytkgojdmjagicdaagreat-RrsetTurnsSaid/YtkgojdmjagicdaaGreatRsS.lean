/- Sorting by a three-way comparison, stably: insertion, merging by rotation, selection; the sorted list is one. Nothing of the program stands here. -/
import Derived.Test.YtkgojdmjagicdaaGreatRrsB
namespace Go.Proofs.YtkgojdmjagicdaaGreat

/-- a comparison that orders -/
structure Cmp3 {α : Type} (c : α → α → Int) : Prop where
  range : ∀ x y, c x y = -1 ∨ c x y = 0 ∨ c x y = 1
  flip : ∀ x y, c y x = - c x y
  same : ∀ x y z, c x y = 0 → c x z = c y z
  trans : ∀ x y z, c x y = -1 → c y z = -1 → c x z = -1

section
variable {α : Type} {c : α → α → Int}
theorem Cmp3.self (O : Cmp3 c) (x : α) : c x x = 0 := by have := O.flip x x; omega
theorem Cmp3.same' (O : Cmp3 c) {x y : α} (z : α) (h : c x y = 0) : c z x = c z y := by
  have := O.same x y z h
  rw [O.flip x z, O.flip y z, this]
theorem Cmp3.le_trans (O : Cmp3 c) {x y z : α} (h : c y x ≠ -1) (k : c z y ≠ -1) : c z x ≠ -1 := by
  intro e
  rcases O.range y x with h1 | h1 | h1
  · exact h h1
  · exact k (by rw [← e, O.same' z h1])
  · have h2 : c x y = -1 := by rw [O.flip y x, h1]
    exact k (O.trans z x y e h2)
theorem Cmp3.lt_le (O : Cmp3 c) {x y z : α} (h : c x y = -1) (k : c z y ≠ -1) : c x z = -1 := by
  rcases O.range z y with h1 | h1 | h1
  · exact absurd h1 k
  · rw [O.same' x h1]; exact h
  · have h2 : c y z = -1 := by rw [O.flip z y, h1]
    exact O.trans x y z h h2
theorem Cmp3.le_lt (O : Cmp3 c) {x y z : α} (h : c y x ≠ -1) (k : c y z = -1) : c x z = -1 := by
  rcases O.range y x with h1 | h1 | h1
  · exact absurd h1 h
  · rw [← O.same y x z h1]; exact k
  · have h2 : c x y = -1 := by rw [O.flip y x, h1]
    exact O.trans x y z h2 k
theorem Cmp3.lt_not (O : Cmp3 c) {x y : α} (h : c x y = -1) : c y x ≠ -1 ∧ c y x ≠ 0 := by rw [O.flip x y, h]; decide

/-- those that compare as x does -/
def Fi (c : α → α → Int) (x : α) (l : List α) : List α := l.filter fun y => c x y == 0
/-- the same elements, those that compare as equal in the same order -/
def St (c : α → α → Int) (a b : List α) : Prop := a.Perm b ∧ ∀ x, Fi c x a = Fi c x b
theorem Fi_append (x : α) (a b : List α) : Fi c x (a ++ b) = Fi c x a ++ Fi c x b := by simp [Fi]
theorem St.refl (a : List α) : St c a a := ⟨.refl _, fun _ => rfl⟩
theorem St.symm {a b : List α} (h : St c a b) : St c b a := ⟨h.1.symm, fun x => (h.2 x).symm⟩
theorem St.trans {a b d : List α} (h : St c a b) (k : St c b d) : St c a d := ⟨h.1.trans k.1, fun x => (h.2 x).trans (k.2 x)⟩
theorem St.append {a b a' b' : List α} (h : St c a b) (k : St c a' b') : St c (a ++ a') (b ++ b') :=
  ⟨h.1.append k.1, fun x => by rw [Fi_append, Fi_append, h.2, k.2]⟩
theorem St.mem {a b : List α} (h : St c a b) {x : α} : x ∈ a ↔ x ∈ b := h.1.mem_iff
theorem St.swap (O : Cmp3 c) {A B : List α} (h : ∀ x ∈ A, ∀ y ∈ B, c x y ≠ 0) : St c (A ++ B) (B ++ A) := by
  refine ⟨List.perm_append_comm, fun x => ?_⟩
  rw [Fi_append, Fi_append]
  by_cases hA : Fi c x A = []
  · rw [hA]; simp
  · have hB : Fi c x B = [] := by
      obtain ⟨a, ha⟩ := List.exists_mem_of_ne_nil _ hA
      obtain ⟨ha1, ha2⟩ := List.mem_filter.1 ha
      unfold Fi
      rw [List.filter_eq_nil_iff]
      intro b hb hb2
      have e1 : c x a = 0 := by simpa using ha2
      have e2 : c x b = 0 := by simpa using hb2
      exact h a ha1 b hb (by rw [← O.same x a b e1]; exact e2)
    rw [hB]; simp

/-- in order -/
def Srt (c : α → α → Int) (l : List α) : Prop := l.Pairwise fun x y => c y x ≠ -1
theorem Srt.one (x : α) : Srt c [x] := by simp [Srt]
theorem Srt.nil : Srt c ([] : List α) := by simp [Srt]
/-- what is in order, with the same elements in the same order among equals, is one list -/
theorem Srt.unique (O : Cmp3 c) : ∀ {a b : List α}, Srt c a → Srt c b → St c a b → a = b := by
  intro a
  induction a with
  | nil => intro b _ _ h; exact (List.nil_perm.1 h.1).symm
  | cons x s ih =>
    intro b ha hb h
    cases b with
    | nil => have := h.1.length_eq; simp at this
    | cons y t =>
      have hy : y ∈ x :: s := h.mem.2 (by simp)
      have hx : x ∈ y :: t := h.mem.1 (by simp)
      obtain ⟨ha1, ha2⟩ := List.pairwise_cons.1 ha
      obtain ⟨hb1, hb2⟩ := List.pairwise_cons.1 hb
      have h1 : c y x ≠ -1 := by
        rcases List.mem_cons.1 hy with h | h
        · subst h; rw [O.self]; decide
        · exact ha1 y h
      have h2 : c x y ≠ -1 := by
        rcases List.mem_cons.1 hx with h | h
        · subst h; rw [O.self]; decide
        · exact hb1 x h
      have h0 : c x y = 0 := by
        rcases O.range x y with h | h | h
        · exact absurd h h2
        · exact h
        · exact absurd (by rw [O.flip x y, h]) h1
      have hf := h.2 x
      unfold Fi at hf
      rw [List.filter_cons_of_pos (by simp [O.self]), List.filter_cons_of_pos (by simp [h0])] at hf
      injection hf with hxy _
      subst hxy
      congr 1
      refine ih ha2 hb2 ⟨h.1.cons_inv, fun z => ?_⟩
      have hz := h.2 z
      unfold Fi at hz ⊢
      by_cases hc : c z x = 0
      · rw [List.filter_cons_of_pos (by simp [hc]), List.filter_cons_of_pos (by simp [hc])] at hz
        injection hz
      · rw [List.filter_cons_of_neg (by simp [hc]), List.filter_cons_of_neg (by simp [hc])] at hz
        exact hz

/-- one more, put in its place -/
theorem ins_done (O : Cmp3 c) {A B : List α} {x : α} (hs : Srt c (A ++ B)) (hB : ∀ y ∈ B, c x y = -1) (hA : ∀ A' y, A = A' ++ [y] → c x y ≠ -1) :
    Srt c (A ++ x :: B) ∧ St c ((A ++ B) ++ [x]) (A ++ x :: B) := by
  obtain ⟨h1, h2, h3⟩ := List.pairwise_append.1 hs
  refine ⟨List.pairwise_append.2 ⟨h1, List.pairwise_cons.2 ⟨fun y hy => (O.lt_not (hB y hy)).1, h2⟩, fun a ha z hz => ?_⟩, ?_⟩
  · rcases List.mem_cons.1 hz with h | h
    · subst h
      rcases List.eq_nil_or_concat A with h0 | ⟨A', y, h0⟩
      · subst h0; cases ha
      · have hxy := hA A' y (by simpa using h0)
        have h0' : A = A' ++ [y] := by simpa using h0
        rw [h0'] at ha h1
        rcases List.mem_append.1 ha with h | h
        · have := (List.pairwise_append.1 h1).2.2 a h y (by simp)
          exact O.le_trans this hxy
        · rw [List.mem_singleton] at h; subst h; exact hxy
    · exact h3 a ha z h
  · rw [List.append_assoc]
    exact (St.refl A).append (St.swap O fun y hy z hz => by rw [List.mem_singleton] at hz; subst hz; exact (O.lt_not (hB y hy)).2)

/-- two parts that are merged each by itself -/
theorem merge_done (O : Cmp3 c) {L1 L2 R1 R2 M1 M2 : List α} (hL : Srt c (L1 ++ L2)) (hR : Srt c (R1 ++ R2))
    (h1 : ∀ x ∈ R1, ∀ y ∈ L2, c x y = -1) (h2 : ∀ x ∈ L1, ∀ y ∈ R2, c y x ≠ -1)
    (k1 : Srt c M1) (s1 : St c (L1 ++ R1) M1) (k2 : Srt c M2) (s2 : St c (L2 ++ R2) M2) :
    Srt c (M1 ++ M2) ∧ St c ((L1 ++ L2) ++ (R1 ++ R2)) (M1 ++ M2) := by
  obtain ⟨a1, a2, a3⟩ := List.pairwise_append.1 hL
  obtain ⟨b1, b2, b3⟩ := List.pairwise_append.1 hR
  refine ⟨List.pairwise_append.2 ⟨k1, k2, fun x hx y hy => ?_⟩, ?_⟩
  · rcases List.mem_append.1 (s1.mem.2 hx) with hx | hx <;> rcases List.mem_append.1 (s2.mem.2 hy) with hy | hy
    · exact a3 x hx y hy
    · exact h2 x hx y hy
    · exact (O.lt_not (h1 x hx y hy)).1
    · exact b3 x hx y hy
  · have e1 : (L1 ++ L2) ++ (R1 ++ R2) = L1 ++ ((L2 ++ R1) ++ R2) := by simp
    have e2 : (L1 ++ R1) ++ (L2 ++ R2) = L1 ++ ((R1 ++ L2) ++ R2) := by simp
    have hs : St c (L2 ++ R1) (R1 ++ L2) := St.swap O fun y hy x hx => (O.lt_not (h1 x hx y hy)).2
    rw [e1]
    refine St.trans ((St.refl L1).append (hs.append (St.refl R2))) ?_
    rw [← e2]
    exact s1.append s2
/-- the first and the last of two lists in order tell of all -/
theorem all_lt (O : Cmp3 c) {R1 L2 : List α} (hR : Srt c R1) (hL : Srt c L2) (h : ∀ R' x, R1 = R' ++ [x] → ∀ y L', L2 = y :: L' → c x y = -1) : ∀ x ∈ R1, ∀ y ∈ L2, c x y = -1 := by
  intro x hx y hy
  rcases List.eq_nil_or_concat R1 with h0 | ⟨R', z, h0⟩
  · subst h0; cases hx
  · cases L2 with
    | nil => cases hy
    | cons u L' =>
      have h0' : R1 = R' ++ [z] := by simpa using h0
      have hzu := h R' z h0' u L' rfl
      rw [h0'] at hx hR
      have hxu : c x u = -1 := by
        rcases List.mem_append.1 hx with h | h
        · exact O.le_lt ((List.pairwise_append.1 hR).2.2 x h z (by simp)) hzu
        · rw [List.mem_singleton] at h; subst h; exact hzu
      rcases List.mem_cons.1 hy with h | h
      · subst h; exact hxu
      · exact O.lt_le hxu ((List.pairwise_cons.1 hL).1 y h)
theorem all_le (O : Cmp3 c) {L1 R2 : List α} (hL : Srt c L1) (hR : Srt c R2) (h : ∀ L' x, L1 = L' ++ [x] → ∀ y R', R2 = y :: R' → c y x ≠ -1) : ∀ x ∈ L1, ∀ y ∈ R2, c y x ≠ -1 := by
  intro x hx y hy
  rcases List.eq_nil_or_concat L1 with h0 | ⟨L', z, h0⟩
  · subst h0; cases hx
  · cases R2 with
    | nil => cases hy
    | cons u R' =>
      have h0' : L1 = L' ++ [z] := by simpa using h0
      have hzu := h L' z h0' u R' rfl
      rw [h0'] at hx hL
      have hxu : c u x ≠ -1 := by
        rcases List.mem_append.1 hx with h | h
        · exact O.le_trans ((List.pairwise_append.1 hL).2.2 x h z (by simp)) hzu
        · rw [List.mem_singleton] at h; subst h; exact hzu
      rcases List.mem_cons.1 hy with h | h
      · subst h; exact hxu
      · exact O.le_trans hxu ((List.pairwise_cons.1 hR).1 y h)
theorem Srt.left {a b : List α} (h : Srt c (a ++ b)) : Srt c a := (List.pairwise_append.1 h).1
theorem Srt.right {a b : List α} (h : Srt c (a ++ b)) : Srt c b := (List.pairwise_append.1 h).2.1

/-- the first of the smallest, taken out -/
theorem sel_step (O : Cmp3 c) {l out A B : List α} {x : α} (h : St c l (out ++ (A ++ x :: B))) (hs : Srt c out) (ho : ∀ u ∈ out, ∀ y ∈ A ++ x :: B, c y u ≠ -1)
    (hA : ∀ y ∈ A, c x y = -1) (hB : ∀ y ∈ B, c y x ≠ -1) :
    St c l ((out ++ [x]) ++ (A ++ B)) ∧ Srt c (out ++ [x]) ∧ ∀ u ∈ out ++ [x], ∀ y ∈ A ++ B, c y u ≠ -1 := by
  refine ⟨h.trans ?_, List.pairwise_append.2 ⟨hs, Srt.one x, fun u hu y hy => ?_⟩, fun u hu y hy => ?_⟩
  · have e1 : A ++ x :: B = (A ++ [x]) ++ B := by simp
    have e2 : (out ++ [x]) ++ (A ++ B) = out ++ (([x] ++ A) ++ B) := by simp
    rw [e1, e2]
    exact (St.refl out).append ((St.swap O fun y hy z hz => by rw [List.mem_singleton] at hz; subst hz; exact (O.lt_not (hA y hy)).2).append (St.refl B))
  · rw [List.mem_singleton] at hy; subst hy; exact ho u hu y (by simp)
  · rcases List.mem_append.1 hu with h | h
    · refine ho u h y ?_
      rcases List.mem_append.1 hy with h' | h'
      · exact List.mem_append.2 (.inl h')
      · exact List.mem_append.2 (.inr (List.mem_cons_of_mem _ h'))
    · rw [List.mem_singleton] at h; subst h
      rcases List.mem_append.1 hy with h' | h'
      · exact (O.lt_not (hA y h')).1
      · exact hB y h'
end

/-! ### Places in a list -/
section
variable {α : Type}
theorem set_two (U V W : List α) (x y : α) : ((U ++ x :: (V ++ y :: W)).set U.length y).set (U.length + 1 + V.length) x = U ++ y :: (V ++ x :: W) := by
  rw [List.set_append_right _ _ (Nat.le_refl _), Nat.sub_self, List.set_cons_zero, List.set_append_right _ _ (by omega)]
  congr 1
  rw [show U.length + 1 + V.length - U.length = V.length + 1 by omega, List.set_cons_succ, List.set_append_right _ _ (Nat.le_refl _), Nat.sub_self, List.set_cons_zero]
theorem at_one (U W : List α) (x : α) : (U ++ x :: W)[U.length]? = some x := by rw [List.getElem?_append_right (Nat.le_refl _)]; simp
theorem at_two (U V W : List α) (x y : α) : (U ++ x :: (V ++ y :: W))[U.length + 1 + V.length]? = some y := by
  rw [List.getElem?_append_right (by omega), show U.length + 1 + V.length - U.length = V.length + 1 by omega, List.getElem?_cons_succ]
  exact at_one V W y
end

/-! ### Names in order -/
def keyN (s : List UInt8) : List (List UInt8) := match nameL s with | none => [] | some L => (L.map lowS).reverse
def cK (a b : List UInt8) : Int := cmpL (keyN a) (keyN b)
theorem cK_ord : Cmp3 cK := {
  range := fun x y => cmpL_range _ _
  flip := fun x y => cmpL_flip _ _
  same := fun x y z h => by unfold cK at h ⊢; rw [cmpL_eq h]
  trans := fun x y z h k => cmpL_trans h k }
theorem cmpN_key {a b : List UInt8} (h : (nameL a).isSome = true) (k : (nameL b).isSome = true) : cmpN a b = cK a b := by
  unfold cmpN cK keyN
  cases ha : nameL a with
  | none => rw [ha] at h; cases h
  | some L =>
    cases hb : nameL b with
    | none => rw [hb] at k; cases k
    | some M => rfl

/-! ### Records in order -/
theorem cK_three (a b c : List UInt8) : Ord3 (cK a b) (cK b c) (cK a c) := by
  have ht : cK a b = -1 → cK b c = -1 → cK a c = -1 := cK_ord.trans a b c
  have h0 : cK a b = 0 → cK a c = cK b c := cK_ord.same a b c
  have h1 : cK b c = 0 → cK a c = cK a b := fun e => (cK_ord.same' a e).symm
  have r1 := cK_ord.range a b
  have r2 := cK_ord.range b c
  have r3 := cK_ord.range a c
  unfold Ord3
  omega
def cX (x y : Rrd) : Int := orI (orI (cK x.toRec.n y.toRec.n) (orI (sgn x.t y.t) (sgn x.c y.c))) (cmpB (saidR x.t x.toRec.d) (saidR y.t y.toRec.d))
theorem cX_three (x y z : Rrd) : Ord3 (cX x y) (cX y z) (cX x z) := ord3_or (ord3_or (cK_three _ _ _) (ord3_or (sgn_three _ _ _) (sgn_three _ _ _))) (cmpB_three _ _ _)
theorem cX_flip (x y : Rrd) : cX y x = - cX x y := by
  unfold cX
  rw [cK_ord.flip x.toRec.n y.toRec.n, sgn_flip x.t y.t, sgn_flip x.c y.c, cmpB_flip (saidR x.t x.toRec.d), orI_neg, orI_neg, orI_neg]
theorem cX_ord : Cmp3 cX := {
  range := fun x y => (cX_three x y y).1
  flip := cX_flip
  same := fun x y z h => by
    have h1 := cX_three x y z
    have h2 := cX_three y x z
    have h3 := cX_flip x y
    unfold Ord3 at h1 h2
    omega
  trans := fun x y z h k => by
    have h1 := cX_three x y z
    unfold Ord3 at h1
    omega }
theorem cX_is {x y : Rrd} (hx : OkX x) (hy : OkX y) : cmpX x y = cX x y := by
  obtain ⟨⟨L, h1⟩, _⟩ := ok_parts hx.1
  obtain ⟨⟨M, h2⟩, _⟩ := ok_parts hy.1
  have h := cmpN_key (a := x.toRec.n) (b := y.toRec.n) (by rw [h1]; rfl) (by rw [h2]; rfl)
  unfold cmpX cmpR headO cX
  rw [h]
  rfl
end Go.Proofs.YtkgojdmjagicdaaGreat
